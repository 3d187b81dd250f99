/- P -/
import Derived.Test.YtdakgnaojakldaaGreatDoorK24
import Derived.Lib.Join
open Go.Proofs.Tryz
set_option maxRecDepth 100000
namespace Go.Proofs.YtdakgnaojakldaaGreatDoor.keeps
open Go.ChangeShapes Go.WideShapes Go.ChangeAt Go.RowKit Go.Joins Go.Deep
def ZW:Array Value:=#[.slice none 0 0]
theorem SA(os:Os):((laws.laidWorld os).forCall (λ_ _=>0) ⟨#[],ZW,[]⟩).variablesRefB prog=true:=by kernel_rfl
theorem Sy(os:Os):(((laws.laidWorld os).forCall (λ_ _=>0) ⟨#[],ZW,[]⟩).heap.toList.drop prog.globals.size).take ((begin prog (λ_ _=>0) default).world.heap.size-prog.globals.size) =
   (begin prog (λ_ _=>0) default).world.heap.toList.drop prog.globals.size:=by kernel_rfl
theorem Sw(os:Os):Input.okWideB prog ((laws.laidWorld os).forCall (λ_ _=>0) ⟨#[],ZW,[]⟩) 5 ⟨#[],ZW,[]⟩=true:=by kernel_rfl
theorem Sz(os:Os){H:Type}(enc:TypeId×Value->H):(Rows.OpenSpec.upto Rows.keepsSpec).bare.sizedB enc prog Tryz.f5 false ((laws.laidWorld os).forCall (λ_ _=>0) ⟨#[],ZW,[]⟩).memory ZW 8=true:=by kernel_rfl
theorem Sv:prog.inits.idxOf? 5=none:=by kernel_rfl
theorem reads(os:Os){H:Type}(enc:TypeId×Value->H):∃a,DataW.whole enc prog ((laws.laidWorld os).forCall (λ_ _=>0) ⟨#[],ZW,[]⟩).memory Tryz.f5.params.toList Rows.keepsSpec.vars false ZW.toList 8
  = some ([.nil],[],a):=by
 have c:(DataW.whole enc prog ((laws.laidWorld os).forCall (λ_ _=>0) ⟨#[],ZW,[]⟩).memory Tryz.f5.params.toList Rows.keepsSpec.vars false ZW.toList 8).map (λx=>(x.1,x.2.1)) =
   some ([.nil],[]):=by kernel_rfl
 obtain⟨⟨f,g,e⟩,d,b⟩:=Qb.1 c;simp only[Prod.mk.injEq] at b;obtain⟨rfl,rfl⟩:=b;exact⟨e,d⟩
end Go.Proofs.YtdakgnaojakldaaGreatDoor.keeps
namespace Go.Proofs.YtdakgnaojakldaaGreatDoor
namespace Ref
def hexDigits:BY:=⟨#[48,49,50,51,52,53,54,55,56,57,97,98,99,100,101,102]⟩
def Xm(s o:BY)(i:Nat)(c:Int):BY:=
 if c=34\/c=92 then o++⟨#[92]⟩++s.extract i (i+1)
 else if c=10 then o++⟨#[92,110]⟩
 else if c=9 then o++⟨#[92,116]⟩
 else if c<32 then o++⟨#[92,117,48,48]⟩++hexDigits.extract (c / 16).toNat ((c / 16).toNat+1)++hexDigits.extract (c % 16).toNat ((c % 16).toNat+1)
 else o++s.extract i (i+1)
def j3(s:BY):Nat->BY
 | 0=>⟨#[34]⟩
 | k+1=>Xm s (j3 s k) k ((s.data.toList.getD k 0).toNat:Int)
def zV(s:BY):BY:=j3 s s.size++⟨#[34]⟩
theorem ext_size(t:BY)(i:Nat):(t.extract i (i+1)).size<=1:=by rw[jF];omega
theorem Eb(s o:BY)(i:Nat)(c:Int):(Xm s o i c).size<=o.size+6:=by
 have a:=ext_size s i;have b:=ext_size hexDigits (c / 16).toNat;have d:=ext_size hexDigits (c % 16).toNat;have e:(⟨#[92]⟩:BY).size=1:=rfl;have f:(⟨#[92,110]⟩:BY).size=2:=rfl;have g:(⟨#[92,116]⟩:BY).size=2:=rfl;have h:(⟨#[92,117,48,48]⟩:BY).size=4:=rfl;unfold Xm
 split
 ·rw[zH,zH];omega
 split
 ·rw[zH];omega
 split
 ·rw[zH];omega
 split
 ·rw[zH,zH,zH];omega
 ·rw[zH];omega
theorem J5(s:BY):∀k,(j3 s k).size<=1+6*k
 | 0=>by simp[j3,ByteArray.size]
 | k+1=>by rw[j3];have:=Eb s (j3 s k) k ((s.data.toList.getD k 0).toNat:Int);have:=J5 s k;omega
theorem byte_at(s:BY)(k:Nat)(h:k<s.size):s.data.toList.getD k 0=s[k]:=by
 have a:k<s.data.toList.length:=by rw[zz];exact h
 rw[zX,zm a]
 rfl
theorem pu(s:BY)(k:Nat)(h:k<s.size):j3 s (k+1)=Xm s (j3 s k) k (s[k].toNat:Int):=by rw[j3,byte_at s k h]
def jB(l:List BY):Nat->BY
 | 0=>⟨#[91]⟩
 | k+1=>(if 0<k then jB l k++⟨#[44]⟩ else jB l k)++zV (l.getD k ⟨#[]⟩)
def yF(l:List BY):BY:=jB l l.length++⟨#[93]⟩
theorem um(s:BY):(zV s).size<=2+6*s.size:=by
 have:=J5 s s.size
 have z:(⟨#[34]⟩:BY).size=1:=rfl;rw[zV,zH];omega
theorem X7(l:List BY)(h:∀s ∈ l,s.size<=12000):∀k,(jB l k).size<=1+80000*k
 | 0=>by simp[jB,ByteArray.size]
 | k+1=>by
  have a:=X7 l h k;have b:=um (l.getD k ⟨#[]⟩);have z:(⟨#[44]⟩:BY).size=1:=rfl
  have c:(l.getD k ⟨#[]⟩).size<=12000:=by
   rw[zX]
   cases e:l[k]? with
   | none=>exact zD _
   | some s=>exact h s (qJ e)
  rw[jB,zH]
  split
  ·rw[zH];omega
  ·omega
theorem IM(l:List BY)(k:Nat)(h:k<l.length):jB l (k+1)=(if 0<k then jB l k++⟨#[44]⟩ else jB l k)++zV l[k]:=by
 rw[jB,zX,zm h];rfl
def ui(c:Bool×List BY):BY:=if c.1 then ⟨#[123,34,110,111,116,34,58]⟩++yF c.2++⟨#[125]⟩ else yF c.2
def ZF(o:BY)(c:qf):BY:=o++⟨#[123,34,111,112,34,58]⟩++zV c.op++⟨#[44,34,107,101,121,34,58]⟩++zV c.key
def Xk(o:BY)(c:qf):BY:=if xN c.op then o else o++⟨#[44,34,118,97,108,117,101,34,58]⟩++yF c.vals
def YK(o:BY)(c:qf):BY:=if c.no then o++⟨#[44,34,110,111,34,58,116,114,117,101]⟩ else o
def Xj(o:BY)(c:qf):BY:=YK (Xk (ZF o c) c) c++⟨#[125]⟩
def comma(o:BY)(k:Nat):BY:=if 0<k then o++⟨#[44]⟩ else o
def Zg(l:List qf):Nat->BY
 | 0=>⟨#[]⟩
 | k+1=>Xj (comma (Zg l k) k) (l.getD k x9)
def ZG(l:List qf):BY:=Zg l l.length
def Yi(o:BY)(s:Rd.zZ):BY:=o++⟨#[123,34,101,102,102,101,99,116,34,58]⟩++zV s.eff++⟨#[44,34,119,104,111,34,58]⟩++ui s.who++⟨#[44,34,100,111,34,58]⟩++ui s.act++⟨#[44,34,111,110,34,58]⟩++ui s.on
def Y7(o:BY)(s:Rd.zZ):BY:=if 0<s.cs.length then o++⟨#[44,34,105,102,34,58,91]⟩++ZG s.cs++⟨#[93]⟩ else o
def Xw(o:BY)(s:Rd.zZ):BY:=Y7 (Yi o s) s++⟨#[125]⟩
def kU(l:List Rd.zZ):Nat->BY
 | 0=>⟨#[123,34,115,116,97,116,101,109,101,110,116,34,58,91]⟩
 | k+1=>Xw (comma (kU l k) k) (l.getD k Rd.jd)
def QS(l:List Rd.zZ):BY:=kU l l.length++⟨#[93,125]⟩
def Xe(c:qf):Prop:=c.op.size<=12000/\c.key.size<=12000/\c.vals.length<=10/\∀s ∈ c.vals,s.size<=12000
def uD(l:List BY):Prop:=l.length<=10/\∀s ∈ l,s.size<=12000
structure kr (s:Rd.zZ):Prop where
 eff:s.eff.size<=12000
 who:uD s.who.2
 act:uD s.act.2
 on:uD s.on.2
 len:s.cs.length<=5
 cs:∀c ∈ s.cs,Xe c
theorem YT{l:List BY}(h:uD l):(yF l).size<=900000:=by
 have a:=X7 l h.2 l.length;have b:=h.1;have z:(⟨#[93]⟩:BY).size=1:=rfl;rw[yF,zH];omega
theorem Zf{c:Bool×List BY}(h:uD c.2):(ui c).size<=900020:=by
 have a:=YT h;have b:(⟨#[123,34,110,111,116,34,58]⟩:BY).size=7:=rfl;have d:(⟨#[125]⟩:BY).size=1:=rfl;unfold ui
 split
 ·rw[zH,zH];omega
 ·omega
theorem gV(o:BY){c:qf}(h:Xe c):(ZF o c).size<=o.size+200000/\(Xk (ZF o c) c).size<=o.size+1200000/\(YK (Xk (ZF o c) c) c).size<=o.size+1200100/\(Xj o c).size<=o.size+1200200:=by
 obtain⟨g,i,f⟩:=h;have j:=um c.op;have q2:=um c.key;have k:=YT (l:=c.vals) f
 have a:(ZF o c).size<=o.size+200000:=by
  have e:(⟨#[123,34,111,112,34,58]⟩:BY).size=6:=rfl;have m:(⟨#[44,34,107,101,121,34,58]⟩:BY).size=7:=rfl;unfold ZF;rw[zH,zH,zH,zH];omega
 have b:(Xk (ZF o c) c).size<=o.size+1200000:=by
  have e:(⟨#[44,34,118,97,108,117,101,34,58]⟩:BY).size=9:=rfl;unfold Xk
  split
  ·omega
  ·rw[zH,zH];omega
 have d:(YK (Xk (ZF o c) c) c).size<=o.size+1200100:=by
  have e:(⟨#[44,34,110,111,34,58,116,114,117,101]⟩:BY).size=10:=rfl;unfold YK
  split
  ·rw[zH];omega
  ·omega
 have z:(⟨#[125]⟩:BY).size=1:=rfl;refine⟨a,b,d,?_⟩;unfold Xj;rw[zH];omega
theorem VR(o:BY)(k:Nat):(comma o k).size<=o.size+1:=by
 have z:(⟨#[44]⟩:BY).size=1:=rfl;unfold comma
 split
 ·rw[zH];omega
 ·omega
theorem VS(l:List qf)(h:∀c ∈ l,Xe c):∀k,k<=l.length->(Zg l k).size<=1300000*k
 | 0,_=>ze 0
 | k+1,hk=>by
  have e:=VS l h k (by omega)
  have a:Xe (l.getD k x9):=by
   rw[zX,zm (by omega)];exact h _ (xy (by omega))
  have b:=(gV (comma (Zg l k) k) a).2.2.2;have d:=VR (Zg l k) k;rw[Zg];omega
theorem PK(o:BY){s:Rd.zZ}(h:kr s):(Yi o s).size<=o.size+3000000:=by
 have q:=um s.eff;have e:=h.eff;have c1:=Zf h.who;have c2:=Zf h.act;have c3:=Zf h.on;have a:(⟨#[123,34,101,102,102,101,99,116,34,58]⟩:BY).size=10:=rfl;have b:(⟨#[44,34,119,104,111,34,58]⟩:BY).size=7:=rfl;have c:(⟨#[44,34,100,111,34,58]⟩:BY).size=6:=rfl;have d:(⟨#[44,34,111,110,34,58]⟩:BY).size=6:=rfl;unfold Yi;rw[zH,zH,zH,zH,zH,zH,zH,zH];omega
theorem PL(o:BY){s:Rd.zZ}(h:kr s):(Y7 (Yi o s) s).size<=o.size+10000000/\(Xw o s).size<=o.size+10000001/\(ZG s.cs).size<=6500000:=by
 have b:=PK o h;have c:=VS s.cs h.cs s.cs.length (ze _);have d:=h.len
 have a:(Y7 (Yi o s) s).size<=o.size+10000000:=by
  have e:(⟨#[44,34,105,102,34,58,91]⟩:BY).size=7:=rfl;have f:(⟨#[93]⟩:BY).size=1:=rfl;unfold Y7 ZG
  split
  ·rw[zH,zH,zH];omega
  ·omega
 have z:(⟨#[125]⟩:BY).size=1:=rfl;refine⟨a,?_,by unfold ZG;omega⟩;unfold Xw;rw[zH];omega
theorem rO(l:List Rd.zZ)(h:∀s ∈ l,kr s):∀k,k<=l.length->(kU l k).size<=11000000*k+20
 | 0,_=>by
  have z:(⟨#[123,34,115,116,97,116,101,109,101,110,116,34,58,91]⟩:BY).size=14:=rfl;show ByteArray.size _<=_;rw[kU,z];omega
 | k+1,hk=>by
  have d:=rO l h k (by omega)
  have a:kr (l.getD k Rd.jd):=by
   rw[zX,zm (by omega)];exact h _ (xy (by omega))
  have b:=(PL (comma (kU l k) k) a).2.1;have c:=VR (kU l k) k;rw[kU];omega
end Ref
end Go.Proofs.YtdakgnaojakldaaGreatDoor
namespace Go.Proofs.YtdakgnaojakldaaGreatDoor
open Go.RowKit
theorem JM{l:List Nat}(h:Rd.qD l=0):∀c ∈ l,c≠1/\c≠2:=by
 unfold Rd.qD at h
 split at h
 ·simp at h
 rename_i b
 split at h
 ·simp at h
 rename_i d;intro c a;refine⟨λe=>b ?_,λe=>d ?_⟩
 ·rw[Q9];exact⟨c,a,by simp[e]⟩
 ·rw[Q9];exact⟨c,a,by simp[e]⟩
theorem pK{f:BY->Bool}{x:Option Rd.V}(h:Rd.qa f x≠1):∃s,x=some (.str s)/\f s=true/\Rd.qR f x=s:=by
 match x with
 | none=>exact absurd rfl h
 | some (.word b)=>exact absurd rfl h
 | some (.list vs)=>exact absurd rfl h
 | some (.obj ms)=>exact absurd rfl h
 | some (.str s)=>
  have a:f s=true:=by
   cases e:f s with
   | true=>rfl
   | false=>exact absurd (by simp[Rd.qa,e,Rd.cls]) h
  exact⟨s,rfl,a,by simp[Rd.qR,a]⟩
theorem KD{L:Nat}(x:Option Rd.V)(d:∀v,x=some v->Rd.Good L v)(h:Rd.chC x≠1):(Rd.jJ x).2.isSome=true/\chS x=Rd.chD (Rd.jJ x):=by
 have f:=Rd.VP x d
 have a:(Rd.jJ x).2.isSome=true:=by
  cases e:(Rd.jJ x).2.isSome with
  | true=>rfl
  | false=>rw[e] at f;exact absurd f h
 refine⟨a,?_⟩;unfold Rd.chD;have gen:∀y:Option Rd.V,(Rd.zG y).isSome=true->Rd.qM Rd.strOf y=(Rd.zG y).getD []:=λy g=>Rd.nT y g
 match x with
 | none=>exact absurd a (by simp[Rd.jJ,Rd.zG])
 | some (.word b)=>exact absurd a (by simp[Rd.jJ,Rd.zG])
 | some (.str s)=>rfl
 | some (.list vs)=>exact congrArg (Prod.mk false) (gen _ a)
 | some (.obj ms)=>
  simp only[chS,Rd.jJ] at a |-
  by_cases c:Rd.qd ms [Ref.qL]=true/\ms.length=1
  ·rw[zb c] at a |-;rw[zb c.1]
   match ms,c with
   | [m],c=>
    have e:(m.1.toList==Ref.qL.toList)=true:=by
     have:=c.1
     simp[Rd.qd] at this;simp[this]
    have d:Rd.zl [m] Ref.qL=some m.2:=by unfold Rd.zl;rw[Jm,e];rfl
    rw[d];exact congrArg (Prod.mk true) (gen _ a)
  ·rw[za c] at a;simp at a
def toS(c:Ref.qf):xD:=⟨c.op,c.key,c.vals,c.no⟩
theorem IU(op:BY)(x:Option Rd.V)(a:Ref.uM op=true)(h:Rd.yj op x≠1):Rd.jY op x=(Rd.zG x).getD []/\(Rd.zG x).isSome=true:=by
 have g:=Rd.mU op x a
 have c:(Rd.zG x).isSome=true:=by
  cases e:(Rd.zG x).isSome with
  | true=>rfl
  | false=>rw[e] at g;exact absurd g h
 refine⟨?_,c⟩
 have d:∀f:BY->Bool,Rd.qH (Rd.qa f) x≠1->Rd.qM (Rd.qR f) x=(Rd.zG x).getD []:=by
  intro f b;rw[Rd.Uk] at b;refine Rd.Mc f x c ?_
  cases e:((Rd.zG x).getD []).all f with
  | true=>rfl
  | false=>rw[e] at b;simp[Rd.cls] at b
 unfold Rd.yj at h;unfold Rd.jY
 by_cases c1:Ref.x8 op=true
 ·rw[zb c1];exact Rd.nT x c
 rw[za c1] at h |-
 by_cases c2:Rd.kI op=true
 ·rw[zb c2] at h |-;exact d _ h
 rw[za c2] at h |-
 by_cases c3:Rd.Zn op=true
 ·rw[zb c3] at h |-;exact d _ h
 rw[za c3] at h |-
 by_cases c4:Rd.ZL op=true
 ·rw[zb c4] at h |-;exact d _ h
 exfalso;unfold Ref.uM at a;unfold Ref.x8 at c1;unfold Rd.kI at c2;unfold Rd.Zn at c3;unfold Rd.ZL at c4;simp only[Bool.or_eq_true] at a
 rcases a with ((a|a)|a)|a
 ·exact c2 a
 ·exact c4 a
 ·exact c3 a
 ·exact c1 a
theorem Bv(v:Rd.V)(h:Rd.condC v≠1/\Rd.condC v≠2):uj v=toS (Rd.qV v):=by
 match v with
 | .str s=>exact absurd rfl h.1
 | .word b=>exact absurd rfl h.1
 | .list l=>exact absurd rfl h.1
 | .obj ms=>
  rw[KU] at h;simp only[uj,Rd.qV]
  cases ho:Rd.qd ms [Ref.bOp,Ref.zC,Ref.zA,Ref.bNo] with
  | false=>rw[ho] at h;exact absurd rfl h.1
  | true=>
   rw[ho] at h;simp only[xu] at h |-
   cases hop:Qo (Rd.zl ms Ref.bOp) with
   | none=>rw[hop] at h;exact absurd rfl h.1
   | some k=>
    rw[hop] at h;simp only at h |-
    have f:Rd.qD [Rd.qa Ref.qg (Rd.zl ms Ref.zC),Rd.yj (opN k) (Rd.zl ms Ref.zA),Rd.cls (Rd.vG (Rd.zl ms Ref.bNo)) false]=0:=by
     have:=Rd.YN [Rd.qa Ref.qg (Rd.zl ms Ref.zC),Rd.yj (opN k) (Rd.zl ms Ref.zA),Rd.cls (Rd.vG (Rd.zl ms Ref.bNo)) false]
     omega
    have f:=JM f;obtain⟨key,d,n,j⟩:=pK (f (Rd.qa Ref.qg (Rd.zl ms Ref.zC)) (by simp)).1;have m:=(f (Rd.yj (opN k) (Rd.zl ms Ref.zA)) (by simp)).1
    obtain⟨s,i,c⟩:∃s,Rd.zl ms Ref.bOp=some (.str s)/\vI s=some k:=by
     match hgm:Rd.zl ms Ref.bOp with
     | none=>rw[hgm] at hop;cases hop
     | some (.word b)=>rw[hgm] at hop;cases hop
     | some (.list vs)=>rw[hgm] at hop;cases hop
     | some (.obj ms)=>rw[hgm] at hop;cases hop
     | some (.str s)=>rw[hgm] at hop;exact⟨s,rfl,hop⟩
    obtain⟨_,a,e⟩:=bq c;rw[j,a];rw[a] at m;simp only[Rd.Xi,i,d,Rd.opV,toS]
    by_cases ca:Ref.xN s=true
    ·obtain⟨t,o,p,q,r⟩:=Rd.eY s ca;rw[zb ca];simp only[Rd.jY,o,p,q,r,vg,jK]
    ·have ok:Ref.uM s=true:=by
      have g:Ref.xN s=false:=by simpa using ca
      rw[g,kY] at e;exact e
     rw[za ca,(IU s _ ok m).1]
theorem BM(x:Option Rd.V)(h:Rd.jT x≠1/\Rd.jT x≠2):Xl x=(Rd.xm x).cs.map toS:=by
 match x with
 | none=>rfl
 | some (.str s)=>exact absurd rfl h.1
 | some (.word b)=>exact absurd rfl h.1
 | some (.obj ms)=>exact absurd rfl h.1
 | some (.list vs)=>
  simp only[Xl,Rd.xm,Rd.jT] at h |-
  by_cases c:5<vs.length
  ·rw[zb c] at h;exact absurd rfl h.1
  ·rw[za c] at h |-;rw[za c]
   have a:Rd.qD (vs.map Rd.condC)=0:=by
    have:=Rd.YN (vs.map Rd.condC)
    omega
   have a:=JM a;simp only[ug];exact U9 λv d=>Bv v (a _ (xQ.2 ⟨v,d,rfl⟩))
def ve(r:Rd.zZ):qp:=⟨r.eff,r.who,r.act,r.on,r.cs.map toS⟩
theorem PN{L:Nat}(v:Rd.V)(c:Rd.Good L v)(h:Rd.yo v≠1/\Rd.yo v≠2):jg v=ve (Rd.xO v):=by
 match v,c with
 | .str s,_=>exact absurd rfl h.1
 | .word b,_=>exact absurd rfl h.1
 | .list l,_=>exact absurd rfl h.1
 | .obj ms,c=>
  simp only[Rd.yo] at h;simp only[jg,Rd.xO,Rd.Xv]
  cases ho:Rd.qd ms [Rd.zF,Rd.zR,Rd.bDo,Rd.bOn,Rd.bIf] with
  | false=>rw[ho] at h;exact absurd rfl h.1
  | true=>
   rw[ho] at h;simp only[xu] at h |-
   have a:Rd.qD [Rd.qa Rd.xW (Rd.zl ms Rd.zF),Rd.chC (Rd.zl ms Rd.zR),Rd.chC (Rd.zl ms Rd.bDo),Rd.chC (Rd.zl ms Rd.bOn),Rd.jT (Rd.zl ms Rd.bIf)]=0:=by
    have:=Rd.YN [Rd.qa Rd.xW (Rd.zl ms Rd.zF),Rd.chC (Rd.zl ms Rd.zR),Rd.chC (Rd.zl ms Rd.bDo),Rd.chC (Rd.zl ms Rd.bOn),Rd.jT (Rd.zl ms Rd.bIf)]
    omega
   have a:=JM a;obtain⟨eff,e,f,d⟩:=pK (a (Rd.qa Rd.xW (Rd.zl ms Rd.zF)) (by simp)).1;rw[d];have c1:=(KD _ (Rd.yu c Rd.zR) (a (Rd.chC (Rd.zl ms Rd.zR)) (by simp)).1).2;have c2:=(KD _ (Rd.yu c Rd.bDo) (a (Rd.chC (Rd.zl ms Rd.bDo)) (by simp)).1).2;have c3:=(KD _ (Rd.yu c Rd.bOn) (a (Rd.chC (Rd.zl ms Rd.bOn)) (by simp)).1).2;have c4:=BM _ (a (Rd.jT (Rd.zl ms Rd.bIf)) (by simp));rw[c1,c2,c3,c4];simp only[e,Rd.opV,ve,Rd.QQ]
def jA(xs:List BY):BY:=⟨(Lib.join (xs.map (·.data.toList)) [44]).toArray⟩
theorem Ku{a b:BY}(h:a.data.toList=b.data.toList):a=b:=ZY (Q7.1 h)
theorem VJ(a b:BY):(a++b).data.toList=a.data.toList++b.data.toList:=by simp[ByteArray.data_append]
theorem Qe(a b c:BY):a++b++c=a++(b++c):=by apply Ku;simp only[VJ,List.append_assoc]
theorem Gs(xs:List (List UInt8))(y s:List UInt8):Lib.join (xs++[y]) s=if xs=[] then y else Lib.join xs s++s++y:=by
 cases xs with
 | nil=>simp[Lib.join_one]
 | cons x r=>
  rw[za (by simp),List.cons_append,Lib.join_cons,Lib.join_cons];simp[Lib.joinTail,List.append_assoc]
theorem aI(xs:List BY)(y:BY):jA (xs++[y])=Ref.comma (jA xs) xs.length++y:=by
 apply Ku;rw[VJ];unfold jA Ref.comma;simp only[uB,yf,Za,Gs]
 cases xs with
 | nil=>simp[Lib.join_nil]
 | cons x r=>
  rw[za (by simp),zb (by simp)];rw[VJ]
theorem gT(a b:BY)(k:Nat):Ref.comma (a++b) k=a++Ref.comma b k:=by
 unfold Ref.comma
 split
 ·rw[Qe]
 ·rfl
theorem written(a:Nat->BY)(o:BY)(b:Nat->BY)(c:a 0=o)(d:∀k,a (k+1)=Ref.comma (a k) k++b k):∀n,a n=o++jA ((List.range n).map b)
 | 0=>by rw[c];apply Ku;rw[VJ];simp[jA,Lib.join_nil]
 | n+1=>by
  rw[d n,written a o b c d n,Jn,uB,yf,Za,aI,gT,Qe]
  simp
theorem bP{α β:Type}(f:α->β)(d:α):∀(l:List α),(List.range l.length).map (λk=>f (l.getD k d))=l.map f:=by
 intro l;apply U3
 ·simp
 ·intro i b a;simp only[qB] at a;simp[List.getD_eq_getElem?_getD,List.getElem?_eq_getElem a]
def jM(l:List BY):BY:=⟨#[91]⟩++jA l++⟨#[93]⟩
theorem JV(l:List BY):Ref.yF l=jM (l.map Ref.zV):=by
 unfold Ref.yF jM;rw[written (Ref.jB l) ⟨#[91]⟩ (λk=>Ref.zV (l.getD k ⟨#[]⟩)) rfl (λk=>by rw[Ref.jB];rfl) l.length,bP]
def ZE(c:Bool×List BY):BY:=if c.1 then ⟨#[123,34,110,111,116,34,58]⟩++jM (c.2.map Ref.zV)++⟨#[125]⟩ else jM (c.2.map Ref.zV)
theorem VQ(c:Bool×List BY):Ref.ui c=ZE c:=by unfold Ref.ui ZE;rw[JV]
def jS(c:xD):BY:=
 (if c.no then (if 0<c.vals.length then ⟨#[123,34,111,112,34,58]⟩++Ref.zV c.op++⟨#[44,34,107,101,121,34,58]⟩++Ref.zV c.key++(⟨#[44,34,118,97,108,117,101,34,58]⟩++jM (c.vals.map Ref.zV)) else ⟨#[123,34,111,112,34,58]⟩++Ref.zV c.op++⟨#[44,34,107,101,121,34,58]⟩++Ref.zV c.key)++⟨#[44,34,110,111,34,58,116,114,117,101]⟩
  else (if 0<c.vals.length then ⟨#[123,34,111,112,34,58]⟩++Ref.zV c.op++⟨#[44,34,107,101,121,34,58]⟩++Ref.zV c.key++(⟨#[44,34,118,97,108,117,101,34,58]⟩++jM (c.vals.map Ref.zV)) else ⟨#[123,34,111,112,34,58]⟩++Ref.zV c.op++⟨#[44,34,107,101,121,34,58]⟩++Ref.zV c.key))++⟨#[125]⟩
theorem Bu(o:BY)(c:Ref.qf)(h:Ref.xN c.op=decide (c.vals.length=0)):Ref.Xj o c=o++jS (toS c):=by
 unfold Ref.Xj Ref.YK Ref.Xk Ref.ZF jS toS;rw[h];simp only
 by_cases hv:c.vals.length=0
 ·have b:¬0<c.vals.length:=by omega
  simp only[hv,decide_true,xu,za (Nat.lt_irrefl 0)]
  cases c.no
  ·simp only[vg,jK,Qe]
  ·simp only[xu,Qe]
 ·have a:0<c.vals.length:=by omega
  simp only[hv,a,decide_false,vg,jK,xu,JV]
  cases c.no
  ·simp only[vg,jK,Qe]
  ·simp only[xu,Qe]
def XU(l:List xD):BY:=jM (l.map jS)
theorem BP(l:List Ref.qf)(h:∀c ∈ l,Ref.xN c.op=decide (c.vals.length=0)):Ref.ZG l=jA ((l.map toS).map jS):=by
 unfold Ref.ZG
 have a:∀n,n<=l.length->Ref.Zg l n=jA ((List.range n).map λk=>jS (toS (l.getD k Ref.x9))):=by
  intro n
  induction n with
  | zero=>intro _;rfl
  | succ n d=>
   intro e
   have b:Ref.xN (l.getD n Ref.x9).op=decide ((l.getD n Ref.x9).vals.length=0):=by
    rw[zX,zm (by omega)];exact h _ (xy (by omega))
   rw[Ref.Zg,Bu _ _ b,d (by omega),Jn,uB,yf,Za,aI]
   simp
 rw[a _ (ze _),bP (λc=>jS (toS c)),ug]
 rfl
def jD(s:qp):BY:=
 (if 0<s.ifs.length then ⟨#[123,34,101,102,102,101,99,116,34,58]⟩++Ref.zV s.eff++(⟨#[44,34,119,104,111,34,58]⟩++ZE s.who)++(⟨#[44,34,100,111,34,58]⟩++ZE s.act)++(⟨#[44,34,111,110,34,58]⟩++ZE s.on)++(⟨#[44,34,105,102,34,58]⟩++XU s.ifs)
  else ⟨#[123,34,101,102,102,101,99,116,34,58]⟩++Ref.zV s.eff++(⟨#[44,34,119,104,111,34,58]⟩++ZE s.who)++(⟨#[44,34,100,111,34,58]⟩++ZE s.act)++(⟨#[44,34,111,110,34,58]⟩++ZE s.on))++⟨#[125]⟩
def Jj(s:Rd.zZ):Prop:=∀c ∈ s.cs,Ref.xN c.op=decide (c.vals.length=0)
theorem PM(o:BY)(s:Rd.zZ)(h:Jj s):Ref.Xw o s=o++jD (ve s):=by
 unfold Ref.Xw Ref.Y7 Ref.Yi jD ve;simp only[qB]
 by_cases hc:0<s.cs.length
 ·simp only[hc,xu,VQ,BP s.cs h,XU,jM];have e:(⟨#[44,34,105,102,34,58,91]⟩:BY)=⟨#[44,34,105,102,34,58]⟩++⟨#[91]⟩:=rfl;rw[e];simp only[Qe]
 ·simp only[hc,jK,VQ,Qe]
def QL(l:List qp):BY:=⟨#[123,34,115,116,97,116,101,109,101,110,116,34,58]⟩++jM (l.map jD)++⟨#[125]⟩
theorem Ni(l:List Rd.zZ)(h:∀s ∈ l,Jj s):Ref.QS l=QL (l.map ve):=by
 unfold Ref.QS QL jM
 have b:∀n,n<=l.length->Ref.kU l n=⟨#[123,34,115,116,97,116,101,109,101,110,116,34,58,91]⟩++jA ((List.range n).map λk=>jD (ve (l.getD k Rd.jd))):=by
  intro n
  induction n with
  | zero=>intro _;rfl
  | succ n d=>
   intro f
   have c:Jj (l.getD n Rd.jd):=by
    rw[zX,zm (by omega)];exact h _ (xy (by omega))
   rw[Ref.kU,PM _ _ c,d (by omega),Jn,uB,yf,Za,aI,gT,Qe]
   simp
 rw[b _ (ze _),bP (λs=>jD (ve s)),ug];have e:(⟨#[123,34,115,116,97,116,101,109,101,110,116,34,58,91]⟩:BY)=⟨#[123,34,115,116,97,116,101,109,101,110,116,34,58]⟩++⟨#[91]⟩:=rfl;have a:(⟨#[93,125]⟩:BY)=⟨#[93]⟩++⟨#[125]⟩:=rfl;rw[e,a];simp only[Qe]
 rfl
end Go.Proofs.YtdakgnaojakldaaGreatDoor
