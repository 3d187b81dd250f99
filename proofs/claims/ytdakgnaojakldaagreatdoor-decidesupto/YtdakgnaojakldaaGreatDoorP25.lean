/- P -/
import Derived.Test.YtdakgnaojakldaaGreatDoorP24
import Derived.Lib.Join
import Derived.Deep.AppendLies
import Derived.Shelf.Strings.OnBuilder
import Derived.Shelf.Small.Strs
import Derived.Shelf.Spec.SlicesGrow
import Derived.Shelf.Pu.Clone
open Go.Proofs.Tryz
set_option maxRecDepth 100000
namespace Go.Proofs.YtdakgnaojakldaaGreatDoor.decides
open Go.ChangeShapes Go.WideShapes Go.ChangeAt Go.RowKit Go.Joins Go.Deep
def Q9:Array Value:=#[.slice none 0 0]
theorem zc6(os:Os):((laws.laidWorld os).forCall (λ_ _=>0) ⟨#[],Q9,[]⟩).variablesRefB prog=true:=by kernel_rfl
theorem zc4(os:Os):(((laws.laidWorld os).forCall (λ_ _=>0) ⟨#[],Q9,[]⟩).heap.toList.drop prog.globals.size).take ((begin prog (λ_ _=>0) default).world.heap.size-prog.globals.size) =
   (begin prog (λ_ _=>0) default).world.heap.toList.drop prog.globals.size:=by kernel_rfl
theorem zc3(os:Os):Input.okWideB prog ((laws.laidWorld os).forCall (λ_ _=>0) ⟨#[],Q9,[]⟩) 6 ⟨#[],Q9,[]⟩=true:=by kernel_rfl
theorem zc5(os:Os){H:Type}(enc:TypeId×Value->H):(Rows.OpenSpec.upto Rows.decidesSpec).bare.sizedB enc prog Tryz.f6 false ((laws.laidWorld os).forCall (λ_ _=>0) ⟨#[],Q9,[]⟩).memory Q9 8=true:=by kernel_rfl
theorem zc2:prog.inits.idxOf? 6=none:=by kernel_rfl
theorem reads(os:Os){H:Type}(enc:TypeId×Value->H):∃a,DataW.whole enc prog ((laws.laidWorld os).forCall (λ_ _=>0) ⟨#[],Q9,[]⟩).memory Tryz.f6.params.toList Rows.decidesSpec.vars false Q9.toList 8
  = some ([.nil],[],a):=by
 have c:(DataW.whole enc prog ((laws.laidWorld os).forCall (λ_ _=>0) ⟨#[],Q9,[]⟩).memory Tryz.f6.params.toList Rows.decidesSpec.vars false Q9.toList 8).map (λx=>(x.1,x.2.1)) =
   some ([.nil],[]):=by kernel_rfl
 obtain⟨⟨f,g,e⟩,d,b⟩:=vU.1 c;simp only[Prod.mk.injEq] at b;obtain⟨rfl,rfl⟩:=b;exact⟨e,d⟩
end Go.Proofs.YtdakgnaojakldaaGreatDoor.decides
namespace Go.Proofs.YtdakgnaojakldaaGreatDoor
namespace Ref
def hexDigits:BY:=⟨#[48,49,50,51,52,53,54,55,56,57,97,98,99,100,101,102]⟩
def Ms(s o:BY)(i:Nat)(c:Int):BY:=
 if c=34\/c=92 then o++⟨#[92]⟩++s.extract i (i+1)
 else if c=10 then o++⟨#[92,110]⟩
 else if c=9 then o++⟨#[92,116]⟩
 else if c<32 then o++⟨#[92,117,48,48]⟩++hexDigits.extract (c / 16).toNat ((c / 16).toNat+1)++hexDigits.extract (c % 16).toNat ((c % 16).toNat+1)
 else o++s.extract i (i+1)
def BC(s:BY):Nat->BY
 | 0=>⟨#[34]⟩
 | k+1=>Ms s (BC s k) k ((s.data.toList.getD k 0).toNat:Int)
def vv(s:BY):BY:=BC s s.size++⟨#[34]⟩
def Ya(l:List BY):Nat->BY
 | 0=>⟨#[91]⟩
 | k+1=>(if 0<k then Ya l k++⟨#[44]⟩ else Ya l k)++vv (l.getD k ⟨#[]⟩)
def Vj(l:List BY):BY:=Ya l l.length++⟨#[93]⟩
def Ug(c:Bool×List BY):BY:=if c.1 then ⟨#[123,34,110,111,116,34,58]⟩++Vj c.2++⟨#[125]⟩ else Vj c.2
def oC(o:BY)(c:qD):BY:=o++⟨#[123,34,111,112,34,58]⟩++vv c.op++⟨#[44,34,107,101,121,34,58]⟩++vv c.key
def oH(o:BY)(c:qD):BY:=if xJ c.op then o else o++⟨#[44,34,118,97,108,117,101,34,58]⟩++Vj c.vals
def oD(o:BY)(c:qD):BY:=if c.no then o++⟨#[44,34,110,111,34,58,116,114,117,101]⟩ else o
def dX(o:BY)(c:qD):BY:=oD (oH (oC o c) c) c++⟨#[125]⟩
def comma(o:BY)(k:Nat):BY:=if 0<k then o++⟨#[44]⟩ else o
def Ky(l:List qD):Nat->BY
 | 0=>⟨#[]⟩
 | k+1=>dX (comma (Ky l k) k) (l.getD k yH)
def dY(l:List qD):BY:=Ky l l.length
def CB(o:BY)(s:Rd.qh):BY:=o++⟨#[123,34,101,102,102,101,99,116,34,58]⟩++vv s.eff++⟨#[44,34,119,104,111,34,58]⟩++Ug s.who++⟨#[44,34,100,111,34,58]⟩++Ug s.act++⟨#[44,34,111,110,34,58]⟩++Ug s.on
def CJ(o:BY)(s:Rd.qh):BY:=if 0<s.cs.length then o++⟨#[44,34,105,102,34,58,91]⟩++dY s.cs++⟨#[93]⟩ else o
def iN(o:BY)(s:Rd.qh):BY:=CJ (CB o s) s++⟨#[125]⟩
def aW(l:List Rd.qh):Nat->BY
 | 0=>⟨#[123,34,115,116,97,116,101,109,101,110,116,34,58,91]⟩
 | k+1=>iN (comma (aW l k) k) (l.getD k Rd.vg)
def az(l:List Rd.qh):BY:=aW l l.length++⟨#[93,125]⟩
def Kl(c:qD):Prop:=c.op.size<=12000/\c.key.size<=12000/\c.vals.length<=10/\∀s ∈ c.vals,s.size<=12000
def XY(l:List BY):Prop:=l.length<=10/\∀s ∈ l,s.size<=12000
structure Jc (s:Rd.qh):Prop where
 eff:s.eff.size<=12000
 who:XY s.who.2
 act:XY s.act.2
 on:XY s.on.2
 len:s.cs.length<=5
 cs:∀c ∈ s.cs,Kl c
end Ref
end Go.Proofs.YtdakgnaojakldaaGreatDoor
namespace Go.Proofs.YtdakgnaojakldaaGreatDoor
open Go.RowKit
theorem Ut{l:List Nat}(h:Rd.qI l=0):∀c ∈ l,c≠1/\c≠2:=by
 unfold Rd.qI at h
 split at h
 ·simp at h
 rename_i b
 split at h
 ·simp at h
 rename_i d;intro c a;refine⟨λe=>b ?_,λe=>d ?_⟩
 ·rw[Qy];exact⟨c,a,by simp[e]⟩
 ·rw[Qy];exact⟨c,a,by simp[e]⟩
theorem BJ{f:BY->Bool}{x:Option Rd.V}(h:Rd.qa f x≠1):∃s,x=some (.str s)/\f s=true/\Rd.xg f x=s:=by
 match x with
 | none=>exact absurd rfl h
 | some (.word b)=>exact absurd rfl h
 | some (.list vs)=>exact absurd rfl h
 | some (.obj ms)=>exact absurd rfl h
 | some (.str s)=>
  have a:f s=true:=by
   cases e:f s with
   | true=>rfl
   | false=>exact absurd (by simp[Rd.qa,e,Rd.cls]) h
  exact⟨s,rfl,a,by simp[Rd.xg,a]⟩
theorem dJ{L:Nat}(x:Option Rd.V)(d:∀v,x=some v->Rd.Good L v)(h:Rd.chC x≠1):(Rd.vK x).2.isSome=true/\chS x=Rd.chD (Rd.vK x):=by
 have f:=Rd.Kw x d
 have a:(Rd.vK x).2.isSome=true:=by
  cases e:(Rd.vK x).2.isSome with
  | true=>rfl
  | false=>rw[e] at f;exact absurd f h
 refine⟨a,?_⟩;unfold Rd.chD;have gen:∀y:Option Rd.V,(Rd.zL y).isSome=true->Rd.qU Rd.strOf y=(Rd.zL y).getD []:=λy g=>Rd.Ay y g
 match x with
 | none=>exact absurd a (by simp[Rd.vK,Rd.zL])
 | some (.word b)=>exact absurd a (by simp[Rd.vK,Rd.zL])
 | some (.str s)=>rfl
 | some (.list vs)=>exact congrArg (Prod.mk false) (gen _ a)
 | some (.obj ms)=>
  simp only[chS,Rd.vK] at a |-
  by_cases c:Rd.qg ms [Ref.qR]=true/\ms.length=1
  ·rw[zb c] at a |-;rw[zb c.1]
   match ms,c with
   | [m],c=>
    have e:(m.1.toList==Ref.qR.toList)=true:=by
     have:=c.1
     simp[Rd.qg] at this;simp[this]
    have d:Rd.zl [m] Ref.qR=some m.2:=by unfold Rd.zl;rw[VS,e];rfl
    rw[d];exact congrArg (Prod.mk true) (gen _ a)
  ·rw[za c] at a;simp at a
def toS(c:Ref.qD):qj:=⟨c.op,c.key,c.vals,c.no⟩
theorem Sr(op:BY)(x:Option Rd.V)(a:Ref.Zd op=true)(h:Rd.yG op x≠1):Rd.uj op x=(Rd.zL x).getD []/\(Rd.zL x).isSome=true:=by
 have g:=Rd.wu op x a
 have c:(Rd.zL x).isSome=true:=by
  cases e:(Rd.zL x).isSome with
  | true=>rfl
  | false=>rw[e] at g;exact absurd g h
 refine⟨?_,c⟩
 have d:∀f:BY->Bool,Rd.qL (Rd.qa f) x≠1->Rd.qU (Rd.xg f) x=(Rd.zL x).getD []:=by
  intro f b;rw[Rd.ai] at b;refine Rd.TE f x c ?_
  cases e:((Rd.zL x).getD []).all f with
  | true=>rfl
  | false=>rw[e] at b;simp[Rd.cls] at b
 unfold Rd.yG at h;unfold Rd.uj
 by_cases c1:Ref.qX op=true
 ·rw[zb c1];exact Rd.Ay x c
 rw[za c1] at h |-
 by_cases c2:Rd.jO op=true
 ·rw[zb c2] at h |-;exact d _ h
 rw[za c2] at h |-
 by_cases c3:Rd.jN op=true
 ·rw[zb c3] at h |-;exact d _ h
 rw[za c3] at h |-
 by_cases c4:Rd.QS op=true
 ·rw[zb c4] at h |-;exact d _ h
 exfalso;unfold Ref.Zd at a;unfold Ref.qX at c1;unfold Rd.jO at c2;unfold Rd.jN at c3;unfold Rd.QS at c4;simp only[bF] at a
 rcases a with ((a|a)|a)|a
 ·exact c2 a
 ·exact c4 a
 ·exact c3 a
 ·exact c1 a
theorem GV(v:Rd.V)(h:Rd.condC v≠1/\Rd.condC v≠2):kZ v=toS (Rd.xm v):=by
 match v with
 | .str s=>exact absurd rfl h.1
 | .word b=>exact absurd rfl h.1
 | .list l=>exact absurd rfl h.1
 | .obj ms=>
  rw[dW] at h;simp only[kZ,Rd.xm]
  cases ho:Rd.qg ms [Ref.bOp,Ref.zI,Ref.zG,Ref.bNo] with
  | false=>rw[ho] at h;exact absurd rfl h.1
  | true=>
   rw[ho] at h;simp only[qJ] at h |-
   cases hop:Xy (Rd.zl ms Ref.bOp) with
   | none=>rw[hop] at h;exact absurd rfl h.1
   | some k=>
    rw[hop] at h;simp only at h |-
    have f:Rd.qI [Rd.qa Ref.zX (Rd.zl ms Ref.zI),Rd.yG (opN k) (Rd.zl ms Ref.zG),Rd.cls (Rd.uC (Rd.zl ms Ref.bNo)) false]=0:=by
     have:=Rd.Ve [Rd.qa Ref.zX (Rd.zl ms Ref.zI),Rd.yG (opN k) (Rd.zl ms Ref.zG),Rd.cls (Rd.uC (Rd.zl ms Ref.bNo)) false]
     omega
    have f:=Ut f;obtain⟨key,d,n,j⟩:=BJ (f (Rd.qa Ref.zX (Rd.zl ms Ref.zI)) (by simp)).1;have m:=(f (Rd.yG (opN k) (Rd.zl ms Ref.zG)) (by simp)).1
    obtain⟨s,i,c⟩:∃s,Rd.zl ms Ref.bOp=some (.str s)/\vo s=some k:=by
     match hgm:Rd.zl ms Ref.bOp with
     | none=>rw[hgm] at hop;cases hop
     | some (.word b)=>rw[hgm] at hop;cases hop
     | some (.list vs)=>rw[hgm] at hop;cases hop
     | some (.obj ms)=>rw[hgm] at hop;cases hop
     | some (.str s)=>rw[hgm] at hop;exact⟨s,rfl,hop⟩
    obtain⟨_,a,e⟩:=gJ c;rw[j,a];rw[a] at m;simp only[Rd.YJ,i,d,Rd.opV,toS]
    by_cases ca:Ref.xJ s=true
    ·obtain⟨t,o,p,q,r⟩:=Rd.mo s ca;rw[zb ca];simp only[Rd.uj,o,p,q,r,yu,xV]
    ·have ok:Ref.Zd s=true:=by
      have g:Ref.xJ s=false:=by simpa using ca
      rw[g,Zl] at e;exact e
     rw[za ca,(Sr s _ ok m).1]
theorem Ho(x:Option Rd.V)(h:Rd.vZ x≠1/\Rd.vZ x≠2):YK x=(Rd.xG x).cs.map toS:=by
 match x with
 | none=>rfl
 | some (.str s)=>exact absurd rfl h.1
 | some (.word b)=>exact absurd rfl h.1
 | some (.obj ms)=>exact absurd rfl h.1
 | some (.list vs)=>
  simp only[YK,Rd.xG,Rd.vZ] at h |-
  by_cases c:5<vs.length
  ·rw[zb c] at h;exact absurd rfl h.1
  ·rw[za c] at h |-;rw[za c]
   have a:Rd.qI (vs.map Rd.condC)=0:=by
    have:=Rd.Ve (vs.map Rd.condC)
    omega
   have a:=Ut a;simp only[kM];exact Y8 λv d=>GV v (a _ (yf.2 ⟨v,d,rfl⟩))
def vQ(r:Rd.qh):zS:=⟨r.eff,r.who,r.act,r.on,r.cs.map toS⟩
theorem zbU{L:Nat}(v:Rd.V)(c:Rd.Good L v)(h:Rd.yJ v≠1/\Rd.yJ v≠2):jS v=vQ (Rd.x8 v):=by
 match v,c with
 | .str s,_=>exact absurd rfl h.1
 | .word b,_=>exact absurd rfl h.1
 | .list l,_=>exact absurd rfl h.1
 | .obj ms,c=>
  simp only[Rd.yJ] at h;simp only[jS,Rd.x8,Rd.YU]
  cases ho:Rd.qg ms [Rd.zK,Rd.zR,Rd.bDo,Rd.bOn,Rd.bIf] with
  | false=>rw[ho] at h;exact absurd rfl h.1
  | true=>
   rw[ho] at h;simp only[qJ] at h |-
   have a:Rd.qI [Rd.qa Rd.ym (Rd.zl ms Rd.zK),Rd.chC (Rd.zl ms Rd.zR),Rd.chC (Rd.zl ms Rd.bDo),Rd.chC (Rd.zl ms Rd.bOn),Rd.vZ (Rd.zl ms Rd.bIf)]=0:=by
    have:=Rd.Ve [Rd.qa Rd.ym (Rd.zl ms Rd.zK),Rd.chC (Rd.zl ms Rd.zR),Rd.chC (Rd.zl ms Rd.bDo),Rd.chC (Rd.zl ms Rd.bOn),Rd.vZ (Rd.zl ms Rd.bIf)]
    omega
   have a:=Ut a;obtain⟨eff,e,f,d⟩:=BJ (a (Rd.qa Rd.ym (Rd.zl ms Rd.zK)) (by simp)).1;rw[d];have c1:=(dJ _ (Rd.yP c Rd.zR) (a (Rd.chC (Rd.zl ms Rd.zR)) (by simp)).1).2;have c2:=(dJ _ (Rd.yP c Rd.bDo) (a (Rd.chC (Rd.zl ms Rd.bDo)) (by simp)).1).2;have c3:=(dJ _ (Rd.yP c Rd.bOn) (a (Rd.chC (Rd.zl ms Rd.bOn)) (by simp)).1).2;have c4:=Ho _ (a (Rd.vZ (Rd.zl ms Rd.bIf)) (by simp));rw[c1,c2,c3,c4];simp only[e,Rd.opV,vQ,Rd.Ye]
def X9(xs:List BY):BY:=⟨(Lib.join (xs.map (·.data.toList)) [44]).toArray⟩
theorem dz{a b:BY}(h:a.data.toList=b.data.toList):a=b:=Yr (YZ.1 h)
theorem Kt(a b:BY):(a++b).data.toList=a.data.toList++b.data.toList:=by simp[ByteArray.data_append]
theorem Xk(a b c:BY):a++b++c=a++(b++c):=by apply dz;simp only[Kt,List.append_assoc]
theorem Px(xs:List (List UInt8))(y s:List UInt8):Lib.join (xs++[y]) s=if xs=[] then y else Lib.join xs s++s++y:=by
 cases xs with
 | nil=>simp[Lib.join_one]
 | cons x r=>
  rw[za (by simp),bL,Lib.join_cons,Lib.join_cons];simp[Lib.joinTail,List.append_assoc]
theorem fQ(xs:List BY)(y:BY):X9 (xs++[y])=Ref.comma (X9 xs) xs.length++y:=by
 apply dz;rw[Kt];unfold X9 Ref.comma;simp only[Qc,yK,kQ,Px]
 cases xs with
 | nil=>simp[Lib.join_nil]
 | cons x r=>
  rw[za (by simp),zb (by simp)];rw[Kt]
theorem ow(a b:BY)(k:Nat):Ref.comma (a++b) k=a++Ref.comma b k:=by
 unfold Ref.comma
 split
 ·rw[Xk]
 ·rfl
theorem written(a:Nat->BY)(o:BY)(b:Nat->BY)(c:a 0=o)(d:∀k,a (k+1)=Ref.comma (a k) k++b k):∀n,a n=o++X9 ((List.range n).map b)
 | 0=>by rw[c];apply dz;rw[Kt];simp[X9,Lib.join_nil]
 | n+1=>by
  rw[d n,written a o b c d n,JR,Qc,yK,kQ,fQ,ow,Xk]
  simp
theorem il{α β:Type}(f:α->β)(d:α):∀(l:List α),(List.range l.length).map (λk=>f (l.getD k d))=l.map f:=by
 intro l;apply bM
 ·simp
 ·intro i b a;simp only[qH] at a;simp[List.getD_eq_getElem?_getD,List.getElem?_eq_getElem a]
def Xt(l:List BY):BY:=⟨#[91]⟩++X9 l++⟨#[93]⟩
theorem tZ(l:List BY):Ref.Vj l=Xt (l.map Ref.vv):=by
 unfold Ref.Vj Xt;rw[written (Ref.Ya l) ⟨#[91]⟩ (λk=>Ref.vv (l.getD k ⟨#[]⟩)) rfl (λk=>by rw[Ref.Ya];rfl) l.length,il]
def YH(c:Bool×List BY):BY:=if c.1 then ⟨#[123,34,110,111,116,34,58]⟩++Xt (c.2.map Ref.vv)++⟨#[125]⟩ else Xt (c.2.map Ref.vv)
theorem oh(c:Bool×List BY):Ref.Ug c=YH c:=by unfold Ref.Ug YH;rw[tZ]
def J9(c:qj):BY:=
 (if c.no then (if 0<c.vals.length then ⟨#[123,34,111,112,34,58]⟩++Ref.vv c.op++⟨#[44,34,107,101,121,34,58]⟩++Ref.vv c.key++(⟨#[44,34,118,97,108,117,101,34,58]⟩++Xt (c.vals.map Ref.vv)) else ⟨#[123,34,111,112,34,58]⟩++Ref.vv c.op++⟨#[44,34,107,101,121,34,58]⟩++Ref.vv c.key)++⟨#[44,34,110,111,34,58,116,114,117,101]⟩
  else (if 0<c.vals.length then ⟨#[123,34,111,112,34,58]⟩++Ref.vv c.op++⟨#[44,34,107,101,121,34,58]⟩++Ref.vv c.key++(⟨#[44,34,118,97,108,117,101,34,58]⟩++Xt (c.vals.map Ref.vv)) else ⟨#[123,34,111,112,34,58]⟩++Ref.vv c.op++⟨#[44,34,107,101,121,34,58]⟩++Ref.vv c.key))++⟨#[125]⟩
theorem GQ(o:BY)(c:Ref.qD)(h:Ref.xJ c.op=decide (c.vals.length=0)):Ref.dX o c=o++J9 (toS c):=by
 unfold Ref.dX Ref.oD Ref.oH Ref.oC J9 toS;rw[h];simp only
 by_cases hv:c.vals.length=0
 ·have b:¬0<c.vals.length:=by omega
  simp only[hv,decide_true,qJ,za (Nat.lt_irrefl 0)]
  cases c.no
  ·simp only[yu,xV,Xk]
  ·simp only[qJ,Xk]
 ·have a:0<c.vals.length:=by omega
  simp only[hv,a,decide_false,yu,xV,qJ,tZ]
  cases c.no
  ·simp only[yu,xV,Xk]
  ·simp only[qJ,Xk]
def oJ(l:List qj):BY:=Xt (l.map J9)
theorem Hr(l:List Ref.qD)(h:∀c ∈ l,Ref.xJ c.op=decide (c.vals.length=0)):Ref.dY l=X9 ((l.map toS).map J9):=by
 unfold Ref.dY
 have a:∀n,n<=l.length->Ref.Ky l n=X9 ((List.range n).map λk=>J9 (toS (l.getD k Ref.yH))):=by
  intro n
  induction n with
  | zero=>intro _;rfl
  | succ n d=>
   intro e
   have b:Ref.xJ (l.getD n Ref.yH).op=decide ((l.getD n Ref.yH).vals.length=0):=by
    rw[zQ,zm (by omega)];exact h _ (qA (by omega))
   rw[Ref.Ky,GQ _ _ b,d (by omega),JR,Qc,yK,kQ,fQ]
   simp
 rw[a _ (zf _),il (λc=>J9 (toS c)),kM]
 rfl
def UO(s:zS):BY:=
 (if 0<s.ifs.length then ⟨#[123,34,101,102,102,101,99,116,34,58]⟩++Ref.vv s.eff++(⟨#[44,34,119,104,111,34,58]⟩++YH s.who)++(⟨#[44,34,100,111,34,58]⟩++YH s.act)++(⟨#[44,34,111,110,34,58]⟩++YH s.on)++(⟨#[44,34,105,102,34,58]⟩++oJ s.ifs)
  else ⟨#[123,34,101,102,102,101,99,116,34,58]⟩++Ref.vv s.eff++(⟨#[44,34,119,104,111,34,58]⟩++YH s.who)++(⟨#[44,34,100,111,34,58]⟩++YH s.act)++(⟨#[44,34,111,110,34,58]⟩++YH s.on))++⟨#[125]⟩
def VP(s:Rd.qh):Prop:=∀c ∈ s.cs,Ref.xJ c.op=decide (c.vals.length=0)
theorem zbQ(o:BY)(s:Rd.qh)(h:VP s):Ref.iN o s=o++UO (vQ s):=by
 unfold Ref.iN Ref.CJ Ref.CB UO vQ;simp only[qH]
 by_cases hc:0<s.cs.length
 ·simp only[hc,qJ,oh,Hr s.cs h,oJ,Xt];have e:(⟨#[44,34,105,102,34,58,91]⟩:BY)=⟨#[44,34,105,102,34,58]⟩++⟨#[91]⟩:=rfl;rw[e];simp only[Xk]
 ·simp only[hc,xV,oh,Xk]
def KG(l:List zS):BY:=⟨#[123,34,115,116,97,116,101,109,101,110,116,34,58]⟩++Xt (l.map UO)++⟨#[125]⟩
theorem WL(l:List Rd.qh)(h:∀s ∈ l,VP s):Ref.az l=KG (l.map vQ):=by
 unfold Ref.az KG Xt
 have b:∀n,n<=l.length->Ref.aW l n=⟨#[123,34,115,116,97,116,101,109,101,110,116,34,58,91]⟩++X9 ((List.range n).map λk=>UO (vQ (l.getD k Rd.vg))):=by
  intro n
  induction n with
  | zero=>intro _;rfl
  | succ n d=>
   intro f
   have c:VP (l.getD n Rd.vg):=by
    rw[zQ,zm (by omega)];exact h _ (qA (by omega))
   rw[Ref.aW,zbQ _ _ c,d (by omega),JR,Qc,yK,kQ,fQ,ow,Xk]
   simp
 rw[b _ (zf _),il (λs=>UO (vQ s)),kM];have e:(⟨#[123,34,115,116,97,116,101,109,101,110,116,34,58,91]⟩:BY)=⟨#[123,34,115,116,97,116,101,109,101,110,116,34,58]⟩++⟨#[91]⟩:=rfl;have a:(⟨#[93,125]⟩:BY)=⟨#[93]⟩++⟨#[125]⟩:=rfl;rw[e,a];simp only[Xk]
 rfl
theorem wm(w:World)(cs:Array Value)(t:TypeId):∀(j:Nat) (u:Value),cs.toList[j]?=some u->(w.alloc (.cells cs t)).cell? ((⟨w.heap.size,0,none⟩:Addr).add j)=some u:=by
 intro j u a;have h:=(zg (zB w (.cells cs t)) j).1;rw[addr_add];simp only[qN];rw[h]
 simpa using a
end Go.Proofs.YtdakgnaojakldaaGreatDoor
namespace Go.Proofs.YtdakgnaojakldaaGreatDoor
open Go.Shelf
def Tryz.lays156_ren:Go.Shelf.Ren:=⟨λ|156=>113|165=>167|166=>168|169=>169|240=>209|241=>210|276=>234|277=>235|n=>n,λ|31=>42|9=>9|3=>3|4=>4|0=>0|20=>20|72=>299|76=>301|70=>297|37=>256|75=>74|127=>322|164=>218|5=>5|80=>81|n=>n,λ|n=>n⟩
end Go.Proofs.YtdakgnaojakldaaGreatDoor
namespace Go.Proofs.YtdakgnaojakldaaGreatDoor
open Go.RowKit
theorem Tryz.bx:Builder.Extra prog Tryz.lays156_ren:={
 sizeBuilder:=by kernel_rfl
 liesBuilder:=by kernel_rfl
 t5:=underlying5
 a5:=Tryz.isAgg5
 z5:=Tryz.sizeOf5
 v5:=Tryz.zeroValue5
 infoByte:=by kernel_rfl
 cellsByte:=by kernel_rfl
 sizeByte:=by kernel_rfl
 neB5:=by decide }
def DU(c:qj):Prop:=c.op.size<=12000/\c.key.size<=12000/\Ref.XY c.vals
structure cz (s:zS):Prop where
 eff:s.eff.size<=12000
 who:Ref.XY s.who.2
 act:Ref.XY s.act.2
 on:Ref.XY s.on.2
 len:s.ifs.length<=5
 cs:∀c ∈ s.ifs,DU c
theorem Dk{L:Nat}:∀(a:List Rd.V) (l:List BY),(∀v ∈ a,Rd.Good L v)->Rd.vP a=some l->l.length=a.length/\∀s ∈ l,s.size<=L
 | [],l,_,h=>by simp only[Rd.vP,Option.some.injEq] at h;subst h;simp
 | v::a,l,hg,h=>by
  cases v with
  | str s=>
   simp only[Rd.vP] at h
   cases hr:Rd.vP a with
   | none=>rw[hr] at h;simp at h
   | some r=>
    rw[hr] at h;simp only[Yy,Option.some.injEq] at h;subst h;obtain⟨d,e⟩:=Dk a r (λv f=>hg v (by simp[f])) hr;refine⟨by simp[d],λt c=>?_⟩
    rcases kR.1 c with rfl|c
    ·have:=hg (.str t) (by simp)
     cases this with
     | str _ h=>exact h
    ·exact e t c
  | word b=>simp[Rd.vP] at h
  | list l=>simp[Rd.vP] at h
  | obj l=>simp[Rd.vP] at h
theorem JG{L:Nat}(i:L<=12000)(x:Option Rd.V)(e:∀v,x=some v->Rd.Good L v):Ref.XY ((Rd.zL x).getD [])/\((Rd.zL x).isSome=true->0<((Rd.zL x).getD []).length):=by
 match x with
 | none=>exact⟨⟨by simp[Rd.zL],by simp[Rd.zL]⟩,λh=>by simp[Rd.zL] at h⟩
 | some (.word b)=>exact⟨⟨by simp[Rd.zL],by simp[Rd.zL]⟩,λh=>by simp[Rd.zL] at h⟩
 | some (.obj ms)=>exact⟨⟨by simp[Rd.zL],by simp[Rd.zL]⟩,λh=>by simp[Rd.zL] at h⟩
 | some (.str s)=>
  have:=e _ rfl
  cases this with
  | str _ h=>exact⟨⟨by simp[Rd.zL],by simp[Rd.zL];omega⟩,λ_=>by simp[Rd.zL]⟩
 | some (.list vs)=>
  have:=e _ rfl
  cases this with
  | list _ g f=>
   simp only[Rd.zL]
   by_cases c:vs.length<1\/10<vs.length
   ·rw[zb c];exact⟨⟨by simp,by simp⟩,λh=>by simp at h⟩
   ·rw[za c]
    cases d:Rd.vP vs with
    | none=>exact⟨⟨by simp,by simp⟩,λh=>by simp at h⟩
    | some l=>
     obtain⟨a,b⟩:=Dk vs l f d;simp only[yB];exact⟨⟨by omega,λs d=>by have:=b s d;omega⟩,λ_=>by omega⟩
theorem dR{L:Nat}(a:L<=12000)(x:Option Rd.V)(d:∀v,x=some v->Rd.Good L v):Ref.XY (Rd.chD (Rd.vK x)).2:=by
 unfold Rd.chD
 match x with
 | none=>exact (JG a none (λv h=>by cases h)).1
 | some (.word b)=>exact (JG a _ d).1
 | some (.str s)=>exact (JG a _ d).1
 | some (.list vs)=>exact (JG a _ d).1
 | some (.obj ms)=>
  simp only[Rd.vK]
  by_cases c:Rd.qg ms [Ref.qR]=true/\ms.length=1
  ·rw[zb c];refine (JG a _ (λv g=>?_)).1
   have:=d _ rfl
   cases this with
   | obj _ i j k f=>
    have e:=xE g;rw[yf] at e;obtain⟨m,e,rfl⟩:=e;exact f m e
  ·rw[za c];exact⟨by simp,by simp⟩
theorem gL{L:Nat}{x:Option Rd.V}(a:∀v,x=some v->Rd.Good L v){s:BY}(h:Rd.opV x=some s):s.size<=L:=by
 unfold Rd.opV at h
 split at h
 ·injection h with h
  subst h
  have:=a _ rfl
  cases this with
  | str _ h=>exact h
 ·cases h
theorem Ha{L:Nat}(g:L<=12000)(v:Rd.V)(c:Rd.Good L v):Ref.Kl (Rd.xm v):=by
 have a:Ref.Kl Ref.yH:=⟨zH _,zH _,zH _,λs d=>by simp[Ref.yH] at d⟩
 match v,c with
 | .str s,_=>exact a
 | .word b,_=>exact a
 | .list l,_=>exact a
 | .obj ms,c=>
  simp only[Rd.xm,Rd.YJ]
  split
  ·rename_i op key e f;have i:=gL (Rd.yP c Ref.bOp) e;have j:=gL (Rd.yP c Ref.zI) f
   split
   ·exact⟨by simp only;omega,by simp only;omega,zH _,λs d=>by simp at d⟩
   ·obtain⟨h,_⟩:=JG g _ (Rd.yP c Ref.zG);exact⟨by simp only;omega,by simp only;omega,h.1,h.2⟩
  ·exact a
theorem zbY{L:Nat}(g:L<=12000)(v:Rd.V)(e:Rd.Good L v):Ref.Jc (Rd.x8 v):=by
 have d:Ref.Jc Rd.vg:=⟨zH _,⟨zH _,λs f=>by simp[Rd.vg] at f⟩,⟨zH _,λs f=>by simp[Rd.vg] at f⟩,⟨zH _,λs f=>by simp[Rd.vg] at f⟩,zH _,λc a=>by simp[Rd.vg] at a⟩
 match v,e with
 | .str s,_=>exact d
 | .word b,_=>exact d
 | .list l,_=>exact d
 | .obj ms,e=>
  simp only[Rd.x8,Rd.YU]
  split
  ·rename_i eff n k;have o:=gL (Rd.yP e Rd.zK) k
   have a:(Rd.xG (Rd.zl ms Rd.bIf)).cs.length<=5/\∀c ∈ (Rd.xG (Rd.zl ms Rd.bIf)).cs,Ref.Kl c:=by
    have h:=Rd.yP e Rd.bIf
    match i:Rd.zl ms Rd.bIf with
    | none=>exact⟨zH _,λc a=>by simp[Rd.xG] at a⟩
    | some (.str s)=>exact⟨zH _,λc a=>by simp[Rd.xG] at a⟩
    | some (.word b)=>exact⟨zH _,λc a=>by simp[Rd.xG] at a⟩
    | some (.obj ms)=>exact⟨zH _,λc a=>by simp[Rd.xG] at a⟩
    | some (.list vs)=>
     have:=h _ i
     cases this with
     | list _ m j=>
      simp only[Rd.xG]
      split
      ·exact⟨zH _,λc a=>by simp at a⟩
      ·refine⟨by simp;omega,λc a=>?_⟩;simp only[yf] at a;obtain⟨x,i,rfl⟩:=a;exact Ha g x (j x i)
   exact⟨by simp only[Rd.Ye];omega,dR g _ (Rd.yP e Rd.zR),dR g _ (Rd.yP e Rd.bDo),dR g _ (Rd.yP e Rd.bOn),a.1,a.2⟩
  ·exact d
theorem GX(v:Rd.V)(h:Rd.condC v≠1){L:Nat}(i:L<=12000)(f:Rd.Good L v):Ref.xJ (Rd.xm v).op=decide ((Rd.xm v).vals.length=0):=by
 have g:=Rd.oz v
 have a:(Rd.xm v).sh=false:=by
  cases e:(Rd.xm v).sh with
  | false=>rfl
  | true=>rw[e] at g;exact absurd g h
 match v,f with
 | .str s,_=>exact absurd a (by simp[Rd.xm,Ref.yH])
 | .word b,_=>exact absurd a (by simp[Rd.xm,Ref.yH])
 | .list l,_=>exact absurd a (by simp[Rd.xm,Ref.yH])
 | .obj ms,f=>
  obtain⟨R,c⟩:=Nm (Rd.xm (.obj ms));rw[c] at a |-;simp only[Rd.xm,Rd.YJ] at c
  cases h1:Rd.opV (Rd.zl ms Ref.bOp) with
  | none=>rw[h1] at c;subst c;simp[Ref.yH] at a
  | some op=>
   rw[h1] at c
   cases h2:Rd.opV (Rd.zl ms Ref.zI) with
   | none=>rw[h2] at c;subst c;simp[Ref.yH] at a
   | some key=>
    rw[h2] at c;simp only at c
    by_cases ca:Ref.xJ op=true
    ·rw[zb ca] at c;subst c;simp[ca]
    ·rw[za ca] at c;subst c;simp only[lL,bB] at a
     have:=(JG i _ (Rd.yP f Ref.zG)).2 a.1.1.2.1
     have d:Ref.xJ op=false:=by simpa using ca
     simp only[d];symm;simp only[ed];omega
theorem zbV(v:Rd.V)(h:Rd.yJ v≠1/\Rd.yJ v≠2){L:Nat}(m:L<=12000)(f:Rd.Good L v):VP (Rd.x8 v):=by
 match v,f with
 | .str s,_=>exact absurd rfl h.1
 | .word b,_=>exact absurd rfl h.1
 | .list l,_=>exact absurd rfl h.1
 | .obj ms,f=>
  simp only[Rd.yJ] at h;simp only[Rd.x8,Rd.YU]
  split
  ·rename_i eff k p;rw[k] at h;simp only[qJ] at h
   have n:Rd.qI [Rd.qa Rd.ym (Rd.zl ms Rd.zK),Rd.chC (Rd.zl ms Rd.zR),Rd.chC (Rd.zl ms Rd.bDo),Rd.chC (Rd.zl ms Rd.bOn),Rd.vZ (Rd.zl ms Rd.bIf)]=0:=by
    have:=Rd.Ve [Rd.qa Rd.ym (Rd.zl ms Rd.zK),Rd.chC (Rd.zl ms Rd.zR),Rd.chC (Rd.zl ms Rd.bDo),Rd.chC (Rd.zl ms Rd.bOn),Rd.vZ (Rd.zl ms Rd.bIf)]
    omega
   have e:=(Ut n) (Rd.vZ (Rd.zl ms Rd.bIf)) (by simp);have g:=Rd.yP f Rd.bIf;intro c a;simp only[Rd.Ye] at a
   match hx:Rd.zl ms Rd.bIf with
   | none=>rw[hx] at a;simp[Rd.xG] at a
   | some (.str s)=>rw[hx] at a;simp[Rd.xG] at a
   | some (.word b)=>rw[hx] at a;simp[Rd.xG] at a
   | some (.obj ms)=>rw[hx] at a;simp[Rd.xG] at a
   | some (.list vs)=>
    rw[hx] at a e
    have:=g _ hx
    cases this with
    | list _ o j=>
     simp only[Rd.xG,Rd.vZ] at a e
     by_cases c5:5<vs.length
     ·rw[zb c5] at a;simp at a
     ·rw[za c5] at a e
      have i:Rd.qI (vs.map Rd.condC)=0:=by
       have:=Rd.Ve (vs.map Rd.condC)
       omega
      simp only[yf] at a;obtain⟨x,d,rfl⟩:=a;exact GX x ((Ut i) _ (yf.2 ⟨x,d,rfl⟩)).1 m (j x d)
  ·intro c a;simp[Rd.vg] at a
def vz(s:BY):List Rd.qh:=if 4000<s.size then [] else match Rd.yS s.data.toList with
 | .ok v _=>(qy (stX v)).map Rd.x8
 | .err _ _=>[]
theorem eU:∀(rs:List Rd.qh) (i:Nat),(Rd.ZV rs i).1=0->∀r ∈ rs,r.sh=false/\r.pt=false
 | [],_,_,r,hr=>by simp at hr
 | x::xs,i,h,r,hr=>by
  unfold Rd.ZV at h
  split at h
  ·simp at h
  rename_i a
  split at h
  ·simp at h
  rename_i b
  rcases kR.1 hr with rfl|hr
  ·exact⟨by simpa using a,by simpa using b⟩
  ·exact eU xs (i+1) h r hr
theorem CY(s:BY)(h:(Rd.xy s).1=0):(∀r ∈ vz s,VP r/\Ref.Jc r)/\(vz s).length<=10/\(if 4000<s.size then [] else match Rd.yS s.data.toList with
 | .ok v _=>(qy (stX v)).map jS
 | .err _ _=>[])=(vz s).map vQ:=by
 unfold Rd.xy at h;unfold vz
 by_cases h1:4000<s.size
 ·rw[zb h1] at h;simp at h
 rw[za h1] at h;rw[za h1,za h1]
 cases hm:Rd.yS s.data.toList with
 | err e q=>
  rw[hm] at h
  have:=Rd.aF hm
  unfold Rd.Code at this;simp only at h;omega
 | ok v q=>
  rw[hm] at h;simp only at h |-;have j:=Rd.aG hm;have m:s.data.toList.length<=12000:=by rw[Ref.zD];omega
  match v,j with
  | .str t,_=>simp[Rd.ug] at h
  | .word b,_=>simp[Rd.ug] at h
  | .list l,_=>simp[Rd.ug] at h
  | .obj ms,j=>
   simp only[Rd.ug] at h
   match hx:Rd.zl ms Rd.yX with
   | none=>rw[hx] at h;simp at h
   | some (.str t)=>rw[hx] at h;simp at h
   | some (.word b)=>rw[hx] at h;simp at h
   | some (.obj ms)=>rw[hx] at h;simp at h
   | some (.list i)=>
    rw[hx] at h;simp only at h;have d:qy (stX (.obj ms))=i:=by simp[qy,stX,hx]
    rw[d]
    by_cases c:ms.length≠1\/i.length<1\/10<i.length
    ·rw[zb c] at h;simp at h
    rw[za c] at h;have k:=Rd.yP j Rd.yX _ hx
    have f:∀v ∈ i,Rd.Good s.data.toList.length v:=by
     cases k with
     | list _ p o=>exact o
    have g:∀v ∈ i,Rd.yJ v≠1/\Rd.yJ v≠2:=by
     intro v d;obtain⟨a,b⟩:=eU _ _ h (Rd.x8 v) (yf.2 ⟨v,d,rfl⟩);rw[Rd.Cz v (f v d),a,b]
     decide
    refine⟨λr n=>?_,by rw[qH];omega,?_⟩
    ·rw[yf] at n;obtain⟨v,d,rfl⟩:=n;exact⟨zbV v (g v d) m (f v d),zbY m v (f v d)⟩
    ·rw[kM];exact Y8 λv d=>zbU v (f v d) (g v d)
theorem zbp{r:Rd.qh}(h:Ref.Jc r):cz (vQ r):=
 ⟨h.eff,h.who,h.act,h.on,by show (r.cs.map toS).length<=5;rw[qH];exact h.len,λc e=>by
  rw[show (vQ r).ifs=r.cs.map toS from rfl,yf] at e
  obtain⟨x,f,rfl⟩:=e;obtain⟨a,b,d⟩:=h.cs x f;exact⟨a,b,d⟩⟩
theorem eH{EL:Value}{T:TypeId}{y:Value}(a:EL = .iface T y){c:Int}{q:Nat}{u:Value}(h:Qa EL c q u):(c=0/\u = .nilIface)\/(c≠0/\∃T y,u = .iface T y):=by
 cases h with
 | ok=>exact .inl ⟨rfl,rfl⟩
 | long=>exact .inr ⟨by decide,T,y,a⟩
 | text c q b=>
  refine .inr ⟨by unfold Rd.Code at b;omega,?_⟩;unfold ZU
  split
  ·exact⟨_,_,rfl⟩
  ·split
   ·exact⟨_,_,rfl⟩
   ·exact⟨_,_,rfl⟩
 | doc p=>exact .inr ⟨by decide,_,_,rfl⟩
 | shape n p=>exact .inr ⟨by decide,_,_,rfl⟩
 | pat n k=>exact .inr ⟨by decide,_,_,rfl⟩
end Go.Proofs.YtdakgnaojakldaaGreatDoor
namespace Go.Proofs.YtdakgnaojakldaaGreatDoor
open Go.Shelf
def Tryz.lays106_ren:Go.Shelf.Ren:=⟨λ|106=>136|213=>186|265=>224|n=>n,λ|9=>9|3=>3|n=>n,λ|n=>n⟩
theorem Tryz.lays106:Go.Proofs.Lays.n106 prog Tryz.lays106_ren:={
 mixed:=by kernel_rfl
 f106:=func136.trans (congrArg some (by kernel_rfl))
 f213:=func186.trans (congrArg some (by kernel_rfl))
 f265:=func224.trans (congrArg some (by kernel_rfl))
 t3:=underlying3
 a3:=Tryz.isAgg3
 z3:=Tryz.sizeOf3
 v3:=Tryz.zeroValue3
 t9:=underlying9
 a9:=Tryz.isAgg9
 z9:=Tryz.sizeOf9
 v9:=Tryz.zeroValue9 }
def Tryz.laysPu25_ren:Go.Shelf.Ren:=⟨λ|25=>137|n=>n,λ|9=>9|3=>3|4=>4|37=>256|0=>0|47=>322|5=>5|n=>n,λ|n=>n⟩
theorem Tryz.laysPu25:Go.Proofs.LaysPu.n25 prog Tryz.laysPu25_ren:={
 mixed:=by kernel_rfl
 f25:=func137.trans (congrArg some (by kernel_rfl))
 t0:=underlying0
 a0:=Tryz.isAgg0
 z0:=Tryz.sizeOf0
 v0:=Tryz.zeroValue0
 i0:=by kernel_rfl
 t3:=underlying3
 a3:=Tryz.isAgg3
 z3:=Tryz.sizeOf3
 v3:=Tryz.zeroValue3
 i3:=by kernel_rfl
 t4:=underlying4
 a4:=Tryz.isAgg4
 z4:=Tryz.sizeOf4
 v4:=Tryz.zeroValue4
 i4:=by kernel_rfl
 t5:=underlying5
 a5:=Tryz.isAgg5
 z5:=Tryz.sizeOf5
 v5:=Tryz.zeroValue5
 i5:=by kernel_rfl
 t9:=underlying9
 a9:=Tryz.isAgg9
 z9:=Tryz.sizeOf9
 v9:=Tryz.zeroValue9
 i9:=by kernel_rfl
 t37:=underlying256
 a37:=Tryz.isAgg256
 z37:=Tryz.sizeOf256
 v37:=Tryz.zeroValue256
 i37:=by kernel_rfl
 t47:=underlying322
 a47:=Tryz.isAgg322
 z47:=Tryz.sizeOf322
 v47:=Tryz.zeroValue322
 i47:=by kernel_rfl }
def Tryz.lays8grow_ren:Go.Shelf.Ren:=⟨λ|4=>138|n=>n,λ|22=>98|25=>187|3=>3|4=>4|9=>9|20=>20|0=>0|n=>n,λ|n=>n⟩
theorem Tryz.lays8grow:Go.Proofs.Lays8.n4 prog Tryz.lays8grow_ren:={
 mixed:=by kernel_rfl
 f4:=⟨Tryz.f138.name,by decide,func138.trans (congrArg some (by kernel_rfl))⟩
 t0:=underlying0
 a0:=Tryz.isAgg0
 z0:=Tryz.sizeOf0
 v0:=Tryz.zeroValue0
 t3:=underlying3
 a3:=Tryz.isAgg3
 z3:=Tryz.sizeOf3
 v3:=Tryz.zeroValue3
 t4:=underlying4
 a4:=Tryz.isAgg4
 z4:=Tryz.sizeOf4
 v4:=Tryz.zeroValue4
 t9:=underlying9
 a9:=Tryz.isAgg9
 z9:=Tryz.sizeOf9
 v9:=Tryz.zeroValue9
 t20:=underlying20
 a20:=Tryz.isAgg20
 z20:=Tryz.sizeOf20
 v20:=Tryz.zeroValue20
 t22:=underlying98
 a22:=Tryz.isAgg98
 z22:=Tryz.sizeOf98
 v22:=Tryz.zeroValue98 }
end Go.Proofs.YtdakgnaojakldaaGreatDoor
