/- P -/
import Derived.Test.YtdakgnaojakldaaGreatDoorG16
import Derived.Lib.Join
set_option maxRecDepth 100000
namespace Go.Proofs.YtdakgnaojakldaaGreatDoor
namespace Ref
def hexDigits:BA:=⟨#[48,49,50,51,52,53,54,55,56,57,97,98,99,100,101,102]⟩
def X9(s o:BA)(i:Nat)(c:Int):BA:=
 if c=34\/c=92 then o++⟨#[92]⟩++s.extract i (i+1)
 else if c=10 then o++⟨#[92,110]⟩
 else if c=9 then o++⟨#[92,116]⟩
 else if c<32 then o++⟨#[92,117,48,48]⟩++hexDigits.extract (c / 16).toNat ((c / 16).toNat+1)++hexDigits.extract (c % 16).toNat ((c % 16).toNat+1)
 else o++s.extract i (i+1)
def y8(s:BA):Nat->BA
 | 0=>⟨#[34]⟩
 | k+1=>X9 s (y8 s k) k ((s.data.toList.getD k 0).toNat:Int)
def zG(s:BA):BA:=y8 s s.size++⟨#[34]⟩
theorem ext_size(t:BA)(i:Nat):(t.extract i (i+1)).size<=1:=by rw[ByteArray.size_extract];omega
theorem Ej(s o:BA)(i:Nat)(c:Int):(X9 s o i c).size<=o.size+6:=by
 have a:=ext_size s i;have b:=ext_size hexDigits (c / 16).toNat;have d:=ext_size hexDigits (c % 16).toNat;have e:(⟨#[92]⟩:BA).size=1:=rfl;have f:(⟨#[92,110]⟩:BA).size=2:=rfl;have g:(⟨#[92,116]⟩:BA).size=2:=rfl;have h:(⟨#[92,117,48,48]⟩:BA).size=4:=rfl;unfold X9
 split
 ·rw[ByteArray.size_append,ByteArray.size_append];omega
 split
 ·rw[ByteArray.size_append];omega
 split
 ·rw[ByteArray.size_append];omega
 split
 ·rw[ByteArray.size_append,ByteArray.size_append,ByteArray.size_append];omega
 ·rw[ByteArray.size_append];omega
theorem VR(s:BA):∀k,(y8 s k).size<=1+6*k
 | 0=>by simp[y8,ByteArray.size]
 | k+1=>by rw[y8];have:=Ej s (y8 s k) k ((s.data.toList.getD k 0).toNat:Int);have:=VR s k;omega
theorem byte_at(s:BA)(k:Nat)(h:k<s.size):s.data.toList.getD k 0=s[k]:=by
 have a:k<s.data.toList.length:=by rw[zz];exact h
 rw[List.getD_eq_getElem?_getD,List.getElem?_eq_getElem a]
 rfl
theorem Om(s:BA)(k:Nat)(h:k<s.size):y8 s (k+1)=X9 s (y8 s k) k (s[k].toNat:Int):=by rw[y8,byte_at s k h]
def qV(l:List BA):Nat->BA
 | 0=>⟨#[91]⟩
 | k+1=>(if 0<k then qV l k++⟨#[44]⟩ else qV l k)++zG (l.getD k ⟨#[]⟩)
def qO(l:List BA):BA:=qV l l.length++⟨#[93]⟩
theorem QS(s:BA):(zG s).size<=2+6*s.size:=by
 have:=VR s s.size
 have z:(⟨#[34]⟩:BA).size=1:=rfl;rw[zG,ByteArray.size_append];omega
theorem Xu(l:List BA)(h:∀s ∈ l,s.size<=12000):∀k,(qV l k).size<=1+80000*k
 | 0=>by simp[qV,ByteArray.size]
 | k+1=>by
  have a:=Xu l h k;have b:=QS (l.getD k ⟨#[]⟩);have z:(⟨#[44]⟩:BA).size=1:=rfl
  have c:(l.getD k ⟨#[]⟩).size<=12000:=by
   rw[List.getD_eq_getElem?_getD]
   cases e:l[k]? with
   | none=>exact Nat.zero_le _
   | some s=>exact h s (List.mem_of_getElem? e)
  rw[qV,ByteArray.size_append]
  split
  ·rw[ByteArray.size_append];omega
  ·omega
theorem lF(l:List BA)(k:Nat)(h:k<l.length):qV l (k+1)=(if 0<k then qV l k++⟨#[44]⟩ else qV l k)++zG l[k]:=by
 rw[qV,List.getD_eq_getElem?_getD,List.getElem?_eq_getElem h];rfl
def uT(c:Bool×List BA):BA:=if c.1 then ⟨#[123,34,110,111,116,34,58]⟩++qO c.2++⟨#[125]⟩ else qO c.2
def fe(o:BA)(c:qZ):BA:=o++⟨#[123,34,111,112,34,58]⟩++zG c.op++⟨#[44,34,107,101,121,34,58]⟩++zG c.key
def fD(o:BA)(c:qZ):BA:=if xq c.op then o else o++⟨#[44,34,118,97,108,117,101,34,58]⟩++qO c.vals
def fw(o:BA)(c:qZ):BA:=if c.no then o++⟨#[44,34,110,111,34,58,116,114,117,101]⟩ else o
def UZ(o:BA)(c:qZ):BA:=fw (fD (fe o c) c) c++⟨#[125]⟩
def comma(o:BA)(k:Nat):BA:=if 0<k then o++⟨#[44]⟩ else o
def Vh(l:List qZ):Nat->BA
 | 0=>⟨#[]⟩
 | k+1=>UZ (comma (Vh l k) k) (l.getD k yQ)
def U0(l:List qZ):BA:=Vh l l.length
def pY(o:BA)(s:Rd.qC):BA:=o++⟨#[123,34,101,102,102,101,99,116,34,58]⟩++zG s.eff++⟨#[44,34,119,104,111,34,58]⟩++uT s.who++⟨#[44,34,100,111,34,58]⟩++uT s.act++⟨#[44,34,111,110,34,58]⟩++uT s.on
def rq(o:BA)(s:Rd.qC):BA:=if 0<s.cs.length then o++⟨#[44,34,105,102,34,58,91]⟩++U0 s.cs++⟨#[93]⟩ else o
def aW(o:BA)(s:Rd.qC):BA:=rq (pY o s) s++⟨#[125]⟩
def V4(l:List Rd.qC):Nat->BA
 | 0=>⟨#[123,34,115,116,97,116,101,109,101,110,116,34,58,91]⟩
 | k+1=>aW (comma (V4 l k) k) (l.getD k Rd.vw)
def vB(l:List Rd.qC):BA:=V4 l l.length++⟨#[93,125]⟩
def JO(c:qZ):Prop:=c.op.size<=12000/\c.key.size<=12000/\c.vals.length<=10/\∀s ∈ c.vals,s.size<=12000
def vP(l:List BA):Prop:=l.length<=10/\∀s ∈ l,s.size<=12000
structure XU (s:Rd.qC):Prop where
 eff:s.eff.size<=12000
 who:vP s.who.2
 act:vP s.act.2
 on:vP s.on.2
 len:s.cs.length<=5
 cs:∀c ∈ s.cs,JO c
theorem VA{l:List BA}(h:vP l):(qO l).size<=900000:=by
 have a:=Xu l h.2 l.length;have b:=h.1;have z:(⟨#[93]⟩:BA).size=1:=rfl;rw[qO,ByteArray.size_append];omega
theorem X0{c:Bool×List BA}(h:vP c.2):(uT c).size<=900020:=by
 have a:=VA h;have b:(⟨#[123,34,110,111,116,34,58]⟩:BA).size=7:=rfl;have d:(⟨#[125]⟩:BA).size=1:=rfl;unfold uT
 split
 ·rw[ByteArray.size_append,ByteArray.size_append];omega
 ·omega
end Ref
end Go.Proofs.YtdakgnaojakldaaGreatDoor
namespace Go.Proofs.YtdakgnaojakldaaGreatDoor
open Go.RowKit
theorem Jc{l:List Nat}(h:Rd.zW l=0):∀c ∈ l,c≠1/\c≠2:=by
 unfold Rd.zW at h
 split at h
 ·simp at h
 rename_i b
 split at h
 ·simp at h
 rename_i d;intro c a;refine⟨λe=>b ?_,λe=>d ?_⟩
 ·rw[List.any_eq_true];exact⟨c,a,by simp[e]⟩
 ·rw[List.any_eq_true];exact⟨c,a,by simp[e]⟩
theorem oK{f:BA->Bool}{x:Option Rd.V}(h:Rd.zQ f x≠1):∃s,x=some (.str s)/\f s=true/\Rd.qo f x=s:=by
 match x with
 | none=>exact absurd rfl h
 | some (.word b)=>exact absurd rfl h
 | some (.list vs)=>exact absurd rfl h
 | some (.obj ms)=>exact absurd rfl h
 | some (.str s)=>
  have a:f s=true:=by
   cases e:f s with
   | true=>rfl
   | false=>exact absurd (by simp[Rd.zQ,e,Rd.cls]) h
  exact⟨s,rfl,a,by simp[Rd.qo,a]⟩
theorem UB{L:Nat}(x:Option Rd.V)(d:∀v,x=some v->Rd.Good L v)(h:Rd.chC x≠1):(Rd.yV x).2.isSome=true/\chS x=Rd.chD (Rd.yV x):=by
 have f:=Rd.J8 x d
 have a:(Rd.yV x).2.isSome=true:=by
  cases e:(Rd.yV x).2.isSome with
  | true=>rfl
  | false=>rw[e] at f;exact absurd f h
 refine⟨a,?_⟩;unfold Rd.chD;have gen:∀y:Option Rd.V,(Rd.zy y).isSome=true->Rd.qm Rd.strOf y=(Rd.zy y).getD []:=λy g=>Rd.nk y g
 match x with
 | none=>exact absurd a (by simp[Rd.yV,Rd.zy])
 | some (.word b)=>exact absurd a (by simp[Rd.yV,Rd.zy])
 | some (.str s)=>rfl
 | some (.list vs)=>exact congrArg (Prod.mk false) (gen _ a)
 | some (.obj ms)=>
  simp only[chS,Rd.yV] at a |-
  by_cases c:Rd.zM ms [Ref.zS]=true/\ms.length=1
  ·rw[if_pos c] at a |-;rw[if_pos c.1]
   match ms,c with
   | [m],c=>
    have e:(m.1.toList==Ref.zS.toList)=true:=by
     have:=c.1
     simp[Rd.zM] at this;simp[this]
    have d:Rd.zf [m] Ref.zS=some m.2:=by unfold Rd.zf;rw[List.find?_cons,e];rfl
    rw[d];exact congrArg (Prod.mk true) (gen _ a)
  ·rw[if_neg c] at a;simp at a
def toS(c:Ref.qZ):zJ:=⟨c.op,c.key,c.vals,c.no⟩
theorem Lm(op:BA)(x:Option Rd.V)(a:Ref.jS op=true)(h:Rd.zX op x≠1):Rd.qI op x=(Rd.zy x).getD []/\(Rd.zy x).isSome=true:=by
 have g:=Rd.lH op x a
 have c:(Rd.zy x).isSome=true:=by
  cases e:(Rd.zy x).isSome with
  | true=>rfl
  | false=>rw[e] at g;exact absurd g h
 refine⟨?_,c⟩
 have d:∀f:BA->Bool,Rd.qh (Rd.zQ f) x≠1->Rd.qm (Rd.qo f) x=(Rd.zy x).getD []:=by
  intro f b;rw[Rd.VI] at b;refine Rd.MH f x c ?_
  cases e:((Rd.zy x).getD []).all f with
  | true=>rfl
  | false=>rw[e] at b;simp[Rd.cls] at b
 unfold Rd.zX at h;unfold Rd.qI
 by_cases c1:Ref.qG op=true
 ·rw[if_pos c1];exact Rd.nk x c
 rw[if_neg c1] at h |-
 by_cases c2:Rd.xV op=true
 ·rw[if_pos c2] at h |-;exact d _ h
 rw[if_neg c2] at h |-
 by_cases c3:Rd.yN op=true
 ·rw[if_pos c3] at h |-;exact d _ h
 rw[if_neg c3] at h |-
 by_cases c4:Rd.uA op=true
 ·rw[if_pos c4] at h |-;exact d _ h
 exfalso;unfold Ref.jS at a;unfold Ref.qG at c1;unfold Rd.xV at c2;unfold Rd.yN at c3;unfold Rd.uA at c4;simp only[Bool.or_eq_true] at a
 rcases a with ((a|a)|a)|a
 ·exact c2 a
 ·exact c4 a
 ·exact c3 a
 ·exact c1 a
theorem BI(v:Rd.V)(h:Rd.condC v≠1/\Rd.condC v≠2):yx v=toS (Rd.qD v):=by
 match v with
 | .str s=>exact absurd rfl h.1
 | .word b=>exact absurd rfl h.1
 | .list l=>exact absurd rfl h.1
 | .obj ms=>
  rw[Vb] at h;simp only[yx,Rd.qD]
  cases ho:Rd.zM ms [Ref.bOp,Ref.zm,Ref.zo,Ref.bNo] with
  | false=>rw[ho] at h;exact absurd rfl h.1
  | true=>
   rw[ho] at h;simp only[if_true] at h |-
   cases hop:kw (Rd.zf ms Ref.bOp) with
   | none=>rw[hop] at h;exact absurd rfl h.1
   | some k=>
    rw[hop] at h;simp only at h |-
    have f:Rd.zW [Rd.zQ Ref.zO (Rd.zf ms Ref.zm),Rd.zX (opN k) (Rd.zf ms Ref.zo),Rd.cls (Rd.yP (Rd.zf ms Ref.bNo)) false]=0:=by
     have:=Rd.Ya [Rd.zQ Ref.zO (Rd.zf ms Ref.zm),Rd.zX (opN k) (Rd.zf ms Ref.zo),Rd.cls (Rd.yP (Rd.zf ms Ref.bNo)) false]
     omega
    have f:=Jc f;obtain⟨key,d,n,j⟩:=oK (f (Rd.zQ Ref.zO (Rd.zf ms Ref.zm)) (by simp)).1;have m:=(f (Rd.zX (opN k) (Rd.zf ms Ref.zo)) (by simp)).1
    obtain⟨s,i,c⟩:∃s,Rd.zf ms Ref.bOp=some (.str s)/\yR s=some k:=by
     match hgm:Rd.zf ms Ref.bOp with
     | none=>rw[hgm] at hop;cases hop
     | some (.word b)=>rw[hgm] at hop;cases hop
     | some (.list vs)=>rw[hgm] at hop;cases hop
     | some (.obj ms)=>rw[hgm] at hop;cases hop
     | some (.str s)=>rw[hgm] at hop;exact⟨s,rfl,hop⟩
    obtain⟨_,a,e⟩:=KZ c;rw[j,a];rw[a] at m;simp only[Rd.QH,i,d,Rd.opV,toS]
    by_cases ca:Ref.xq s=true
    ·obtain⟨t,o,p,q,r⟩:=Rd.dw s ca;rw[if_pos ca];simp only[Rd.qI,o,p,q,r,Bool.false_eq_true,if_false]
    ·have ok:Ref.jS s=true:=by
      have g:Ref.xq s=false:=by simpa using ca
      rw[g,Bool.or_false] at e;exact e
     rw[if_neg ca,(Lm s _ ok m).1]
theorem BR(x:Option Rd.V)(h:Rd.yz x≠1/\Rd.yz x≠2):ZE x=(Rd.qL x).cs.map toS:=by
 match x with
 | none=>rfl
 | some (.str s)=>exact absurd rfl h.1
 | some (.word b)=>exact absurd rfl h.1
 | some (.obj ms)=>exact absurd rfl h.1
 | some (.list vs)=>
  simp only[ZE,Rd.qL,Rd.yz] at h |-
  by_cases c:5<vs.length
  ·rw[if_pos c] at h;exact absurd rfl h.1
  ·rw[if_neg c] at h |-;rw[if_neg c]
   have a:Rd.zW (vs.map Rd.condC)=0:=by
    have:=Rd.Ya (vs.map Rd.condC)
    omega
   have a:=Jc a;simp only[List.map_map];exact List.map_congr_left λv d=>BI v (a _ (List.mem_map.2 ⟨v,d,rfl⟩))
def jI(r:Rd.qC):zw:=⟨r.eff,r.who,r.act,r.on,r.cs.map toS⟩
theorem Sg{L:Nat}(v:Rd.V)(c:Rd.Good L v)(h:Rd.qN v≠1/\Rd.qN v≠2):xk v=jI (Rd.xG v):=by
 match v,c with
 | .str s,_=>exact absurd rfl h.1
 | .word b,_=>exact absurd rfl h.1
 | .list l,_=>exact absurd rfl h.1
 | .obj ms,c=>
  simp only[Rd.qN] at h;simp only[xk,Rd.xG,Rd.YC]
  cases ho:Rd.zM ms [Rd.zN,Rd.zT,Rd.bDo,Rd.bOn,Rd.bIf] with
  | false=>rw[ho] at h;exact absurd rfl h.1
  | true=>
   rw[ho] at h;simp only[if_true] at h |-
   have a:Rd.zW [Rd.zQ Rd.xL (Rd.zf ms Rd.zN),Rd.chC (Rd.zf ms Rd.zT),Rd.chC (Rd.zf ms Rd.bDo),Rd.chC (Rd.zf ms Rd.bOn),Rd.yz (Rd.zf ms Rd.bIf)]=0:=by
    have:=Rd.Ya [Rd.zQ Rd.xL (Rd.zf ms Rd.zN),Rd.chC (Rd.zf ms Rd.zT),Rd.chC (Rd.zf ms Rd.bDo),Rd.chC (Rd.zf ms Rd.bOn),Rd.yz (Rd.zf ms Rd.bIf)]
    omega
   have a:=Jc a;obtain⟨eff,e,f,d⟩:=oK (a (Rd.zQ Rd.xL (Rd.zf ms Rd.zN)) (by simp)).1;rw[d];have c1:=(UB _ (Rd.xA c Rd.zT) (a (Rd.chC (Rd.zf ms Rd.zT)) (by simp)).1).2;have c2:=(UB _ (Rd.xA c Rd.bDo) (a (Rd.chC (Rd.zf ms Rd.bDo)) (by simp)).1).2;have c3:=(UB _ (Rd.xA c Rd.bOn) (a (Rd.chC (Rd.zf ms Rd.bOn)) (by simp)).1).2;have c4:=BR _ (a (Rd.yz (Rd.zf ms Rd.bIf)) (by simp));rw[c1,c2,c3,c4];simp only[e,Rd.opV,jI,Rd.Yk]
def yC(xs:List BA):BA:=⟨(Lib.join (xs.map (·.data.toList)) [44]).toArray⟩
theorem Uv{a b:BA}(h:a.data.toList=b.data.toList):a=b:=ByteArray.ext (Array.toList_inj.1 h)
theorem JY(a b:BA):(a++b).data.toList=a.data.toList++b.data.toList:=by simp[ByteArray.data_append]
theorem Zz(a b c:BA):a++b++c=a++(b++c):=by apply Uv;simp only[JY,List.append_assoc]
theorem GQ(xs:List (List UInt8))(y s:List UInt8):Lib.join (xs++[y]) s=if xs=[] then y else Lib.join xs s++s++y:=by
 cases xs with
 | nil=>simp[Lib.join_one]
 | cons x r=>
  rw[if_neg (by simp),List.cons_append,Lib.join_cons,Lib.join_cons];simp[Lib.joinTail,List.append_assoc]
theorem Ky(xs:List BA)(y:BA):yC (xs++[y])=Ref.comma (yC xs) xs.length++y:=by
 apply Uv;rw[JY];unfold yC Ref.comma;simp only[List.map_append,List.map_cons,List.map_nil,GQ]
 cases xs with
 | nil=>simp[Lib.join_nil]
 | cons x r=>
  rw[if_neg (by simp),if_pos (by simp)];rw[JY]
theorem eX(a b:BA)(k:Nat):Ref.comma (a++b) k=a++Ref.comma b k:=by
 unfold Ref.comma
 split
 ·rw[Zz]
 ·rfl
theorem written(a:Nat->BA)(o:BA)(b:Nat->BA)(c:a 0=o)(d:∀k,a (k+1)=Ref.comma (a k) k++b k):∀n,a n=o++yC ((List.range n).map b)
 | 0=>by rw[c];apply Uv;rw[JY];simp[yC,Lib.join_nil]
 | n+1=>by
  rw[d n,written a o b c d n,List.range_succ,List.map_append,List.map_cons,List.map_nil,Ky,eX,Zz]
  simp
theorem aB{α β:Type}(f:α->β)(d:α):∀(l:List α),(List.range l.length).map (λk=>f (l.getD k d))=l.map f:=by
 intro l;apply List.ext_getElem
 ·simp
 ·intro i b a;simp only[List.length_map] at a;simp[List.getD_eq_getElem?_getD,List.getElem?_eq_getElem a]
def qX(l:List BA):BA:=⟨#[91]⟩++yC l++⟨#[93]⟩
theorem Jj(l:List BA):Ref.qO l=qX (l.map Ref.zG):=by
 unfold Ref.qO qX;rw[written (Ref.qV l) ⟨#[91]⟩ (λk=>Ref.zG (l.getD k ⟨#[]⟩)) rfl (λk=>by rw[Ref.qV];rfl) l.length,aB]
def yg(c:Bool×List BA):BA:=if c.1 then ⟨#[123,34,110,111,116,34,58]⟩++qX (c.2.map Ref.zG)++⟨#[125]⟩ else qX (c.2.map Ref.zG)
theorem Va(c:Bool×List BA):Ref.uT c=yg c:=by unfold Ref.uT yg;rw[Jj]
def xK(c:zJ):BA:=
 (if c.no then (if 0<c.vals.length then ⟨#[123,34,111,112,34,58]⟩++Ref.zG c.op++⟨#[44,34,107,101,121,34,58]⟩++Ref.zG c.key++(⟨#[44,34,118,97,108,117,101,34,58]⟩++qX (c.vals.map Ref.zG)) else ⟨#[123,34,111,112,34,58]⟩++Ref.zG c.op++⟨#[44,34,107,101,121,34,58]⟩++Ref.zG c.key)++⟨#[44,34,110,111,34,58,116,114,117,101]⟩
  else (if 0<c.vals.length then ⟨#[123,34,111,112,34,58]⟩++Ref.zG c.op++⟨#[44,34,107,101,121,34,58]⟩++Ref.zG c.key++(⟨#[44,34,118,97,108,117,101,34,58]⟩++qX (c.vals.map Ref.zG)) else ⟨#[123,34,111,112,34,58]⟩++Ref.zG c.op++⟨#[44,34,107,101,121,34,58]⟩++Ref.zG c.key))++⟨#[125]⟩
theorem BC(o:BA)(c:Ref.qZ)(h:Ref.xq c.op=decide (c.vals.length=0)):Ref.UZ o c=o++xK (toS c):=by
 unfold Ref.UZ Ref.fw Ref.fD Ref.fe xK toS;rw[h];simp only
 by_cases hv:c.vals.length=0
 ·have b:¬0<c.vals.length:=by omega
  simp only[hv,decide_true,if_true,if_neg (Nat.lt_irrefl 0)]
  cases c.no
  ·simp only[Bool.false_eq_true,if_false,Zz]
  ·simp only[if_true,Zz]
 ·have a:0<c.vals.length:=by omega
  simp only[hv,a,decide_false,Bool.false_eq_true,if_false,if_true,Jj]
  cases c.no
  ·simp only[Bool.false_eq_true,if_false,Zz]
  ·simp only[if_true,Zz]
def uU(l:List zJ):BA:=qX (l.map xK)
theorem BU(l:List Ref.qZ)(h:∀c ∈ l,Ref.xq c.op=decide (c.vals.length=0)):Ref.U0 l=yC ((l.map toS).map xK):=by
 unfold Ref.U0
 have a:∀n,n<=l.length->Ref.Vh l n=yC ((List.range n).map λk=>xK (toS (l.getD k Ref.yQ))):=by
  intro n
  induction n with
  | zero=>intro _;rfl
  | succ n d=>
   intro e
   have b:Ref.xq (l.getD n Ref.yQ).op=decide ((l.getD n Ref.yQ).vals.length=0):=by
    rw[List.getD_eq_getElem?_getD,List.getElem?_eq_getElem (by omega)];exact h _ (List.getElem_mem (by omega))
   rw[Ref.Vh,BC _ _ b,d (by omega),List.range_succ,List.map_append,List.map_cons,List.map_nil,Ky]
   simp
 rw[a _ (Nat.le_refl _),aB (λc=>xK (toS c)),List.map_map]
 rfl
def xh(s:zw):BA:=
 (if 0<s.ifs.length then ⟨#[123,34,101,102,102,101,99,116,34,58]⟩++Ref.zG s.eff++(⟨#[44,34,119,104,111,34,58]⟩++yg s.who)++(⟨#[44,34,100,111,34,58]⟩++yg s.act)++(⟨#[44,34,111,110,34,58]⟩++yg s.on)++(⟨#[44,34,105,102,34,58]⟩++uU s.ifs)
  else ⟨#[123,34,101,102,102,101,99,116,34,58]⟩++Ref.zG s.eff++(⟨#[44,34,119,104,111,34,58]⟩++yg s.who)++(⟨#[44,34,100,111,34,58]⟩++yg s.act)++(⟨#[44,34,111,110,34,58]⟩++yg s.on))++⟨#[125]⟩
def YL(s:Rd.qC):Prop:=∀c ∈ s.cs,Ref.xq c.op=decide (c.vals.length=0)
theorem Sa(o:BA)(s:Rd.qC)(h:YL s):Ref.aW o s=o++xh (jI s):=by
 unfold Ref.aW Ref.rq Ref.pY xh jI;simp only[List.length_map]
 by_cases hc:0<s.cs.length
 ·simp only[hc,if_true,Va,BU s.cs h,uU,qX];have e:(⟨#[44,34,105,102,34,58,91]⟩:BA)=⟨#[44,34,105,102,34,58]⟩++⟨#[91]⟩:=rfl;rw[e];simp only[Zz]
 ·simp only[hc,if_false,Va,Zz]
def yA(l:List zw):BA:=⟨#[123,34,115,116,97,116,101,109,101,110,116,34,58]⟩++qX (l.map xh)++⟨#[125]⟩
theorem Ob(l:List Rd.qC)(h:∀s ∈ l,YL s):Ref.vB l=yA (l.map jI):=by
 unfold Ref.vB yA qX
 have b:∀n,n<=l.length->Ref.V4 l n=⟨#[123,34,115,116,97,116,101,109,101,110,116,34,58,91]⟩++yC ((List.range n).map λk=>xh (jI (l.getD k Rd.vw))):=by
  intro n
  induction n with
  | zero=>intro _;rfl
  | succ n d=>
   intro f
   have c:YL (l.getD n Rd.vw):=by
    rw[List.getD_eq_getElem?_getD,List.getElem?_eq_getElem (by omega)];exact h _ (List.getElem_mem (by omega))
   rw[Ref.V4,Sa _ _ c,d (by omega),List.range_succ,List.map_append,List.map_cons,List.map_nil,Ky,eX,Zz]
   simp
 rw[b _ (Nat.le_refl _),aB (λs=>xh (jI s)),List.map_map];have e:(⟨#[123,34,115,116,97,116,101,109,101,110,116,34,58,91]⟩:BA)=⟨#[123,34,115,116,97,116,101,109,101,110,116,34,58]⟩++⟨#[91]⟩:=rfl;have a:(⟨#[93,125]⟩:BA)=⟨#[93]⟩++⟨#[125]⟩:=rfl;rw[e,a];simp only[Zz]
 rfl
end Go.Proofs.YtdakgnaojakldaaGreatDoor
