/- P -/
import Derived.Test.YtagnlbgbnfnapaaGreatDoorK24
open Go.Proofs.Tryz
set_option maxRecDepth 100000
namespace Go.Proofs.YtagnlbgbnfnapaaGreatDoor.keeps
open Go.ChangeShapes Go.WideShapes Go.ChangeAt Go.RowKit Go.Joins Go.Deep
def ZZ:Array Value:=#[.slice none 0 0]
theorem Tf(os:Os):((laws.laidWorld os).forCall (λ_ _=>0) ⟨#[],ZZ,[]⟩).variablesRefB prog=true:=by kernel_rfl
theorem Td(os:Os):(((laws.laidWorld os).forCall (λ_ _=>0) ⟨#[],ZZ,[]⟩).heap.toList.drop prog.globals.size).take ((begin prog (λ_ _=>0) default).world.heap.size-prog.globals.size) =
   (begin prog (λ_ _=>0) default).world.heap.toList.drop prog.globals.size:=by kernel_rfl
theorem Tc(os:Os):Input.okWideB prog ((laws.laidWorld os).forCall (λ_ _=>0) ⟨#[],ZZ,[]⟩) 3 ⟨#[],ZZ,[]⟩=true:=by kernel_rfl
theorem Te(os:Os){H:Type}(enc:TypeId×Value->H):(OpenSpec.ofChange Rows.keepsSpec).bare.sizedB enc prog Tryz.f3 false ((laws.laidWorld os).forCall (λ_ _=>0) ⟨#[],ZZ,[]⟩).memory ZZ 8=true:=by kernel_rfl
theorem Ta:prog.inits.idxOf? 3=none:=by kernel_rfl
theorem reads(os:Os){H:Type}(enc:TypeId×Value->H):∃places,DataW.whole enc prog ((laws.laidWorld os).forCall (λ_ _=>0) ⟨#[],ZZ,[]⟩).memory Tryz.f3.params.toList Rows.keepsSpec.vars false ZZ.toList 8
  = some ([.nil],[],places):=by
 have b:(DataW.whole enc prog ((laws.laidWorld os).forCall (λ_ _=>0) ⟨#[],ZZ,[]⟩).memory Tryz.f3.params.toList Rows.keepsSpec.vars false ZZ.toList 8).map (λx=>(x.1,x.2.1)) =
   some ([.nil],[]):=by kernel_rfl
 obtain⟨⟨e,f,d⟩,c,a⟩:=Qg.1 b;simp only[Prod.mk.injEq] at a;obtain⟨rfl,rfl⟩:=a;exact⟨d,c⟩
end Go.Proofs.YtagnlbgbnfnapaaGreatDoor.keeps
namespace Go.Proofs.YtagnlbgbnfnapaaGreatDoor
namespace Ref
def hexDigits:BY:=⟨#[48,49,50,51,52,53,54,55,56,57,97,98,99,100,101,102]⟩
def Xt(s o:BY)(i:Nat)(c:Int):BY:=
 if c=34\/c=92 then o++⟨#[92]⟩++s.extract i (i+1)
 else if c=10 then o++⟨#[92,110]⟩
 else if c=9 then o++⟨#[92,116]⟩
 else if c<32 then o++⟨#[92,117,48,48]⟩++hexDigits.extract (c / 16).toNat ((c / 16).toNat+1)++hexDigits.extract (c % 16).toNat ((c % 16).toNat+1)
 else o++s.extract i (i+1)
def j5(s:BY):Nat->BY
 | 0=>⟨#[34]⟩
 | k+1=>Xt s (j5 s k) k ((s.data.toList.getD k 0).toNat:Int)
def zV(s:BY):BY:=j5 s s.size++⟨#[34]⟩
theorem ext_size(t:BY)(i:Nat):(t.extract i (i+1)).size<=1:=by rw[jI];omega
theorem Ex(s o:BY)(i:Nat)(c:Int):(Xt s o i c).size<=o.size+6:=by
 have a:=ext_size s i;have b:=ext_size hexDigits (c / 16).toNat;have d:=ext_size hexDigits (c % 16).toNat;have e:(⟨#[92]⟩:BY).size=1:=rfl;have f:(⟨#[92,110]⟩:BY).size=2:=rfl;have g:(⟨#[92,116]⟩:BY).size=2:=rfl;have h:(⟨#[92,117,48,48]⟩:BY).size=4:=rfl;unfold Xt
 split
 ·rw[zJ,zJ];omega
 split
 ·rw[zJ];omega
 split
 ·rw[zJ];omega
 split
 ·rw[zJ,zJ,zJ];omega
 ·rw[zJ];omega
theorem Vd(s:BY):∀k,(j5 s k).size<=1+6*k
 | 0=>by simp[j5,ByteArray.size]
 | k+1=>by rw[j5];have:=Ex s (j5 s k) k ((s.data.toList.getD k 0).toNat:Int);have:=Vd s k;omega
theorem byte_at(s:BY)(k:Nat)(h:k<s.size):s.data.toList.getD k 0=s[k]:=by
 have a:k<s.data.toList.length:=by rw[zA];exact h
 rw[zY,zn a]
 rfl
theorem ry(s:BY)(k:Nat)(h:k<s.size):j5 s (k+1)=Xt s (j5 s k) k (s[k].toNat:Int):=by rw[j5,byte_at s k h]
def jE(l:List BY):Nat->BY
 | 0=>⟨#[91]⟩
 | k+1=>(if 0<k then jE l k++⟨#[44]⟩ else jE l k)++zV (l.getD k ⟨#[]⟩)
def yI(l:List BY):BY:=jE l l.length++⟨#[93]⟩
theorem ut(s:BY):(zV s).size<=2+6*s.size:=by
 have:=Vd s s.size
 have z:(⟨#[34]⟩:BY).size=1:=rfl;rw[zV,zJ];omega
theorem Yb(l:List BY)(h:∀s ∈ l,s.size<=12000):∀k,(jE l k).size<=1+80000*k
 | 0=>by simp[jE,ByteArray.size]
 | k+1=>by
  have a:=Yb l h k;have b:=ut (l.getD k ⟨#[]⟩);have z:(⟨#[44]⟩:BY).size=1:=rfl
  have c:(l.getD k ⟨#[]⟩).size<=12000:=by
   rw[zY]
   cases e:l[k]? with
   | none=>exact zG _
   | some s=>exact h s (qL e)
  rw[jE,zJ]
  split
  ·rw[zJ];omega
  ·omega
theorem Lj(l:List BY)(k:Nat)(h:k<l.length):jE l (k+1)=(if 0<k then jE l k++⟨#[44]⟩ else jE l k)++zV l[k]:=by
 rw[jE,zY,zn h];rfl
def ul(c:Bool×List BY):BY:=if c.1 then ⟨#[123,34,110,111,116,34,58]⟩++yI c.2++⟨#[125]⟩ else yI c.2
def ZH(o:BY)(c:qg):BY:=o++⟨#[123,34,111,112,34,58]⟩++zV c.op++⟨#[44,34,107,101,121,34,58]⟩++zV c.key
def Xo(o:BY)(c:qg):BY:=if xO c.op then o else o++⟨#[44,34,118,97,108,117,101,34,58]⟩++yI c.vals
def YN(o:BY)(c:qg):BY:=if c.no then o++⟨#[44,34,110,111,34,58,116,114,117,101]⟩ else o
def Xn(o:BY)(c:qg):BY:=YN (Xo (ZH o c) c) c++⟨#[125]⟩
def comma(o:BY)(k:Nat):BY:=if 0<k then o++⟨#[44]⟩ else o
def Zi(l:List qg):Nat->BY
 | 0=>⟨#[]⟩
 | k+1=>Xn (comma (Zi l k) k) (l.getD k yf)
def ZI(l:List qg):BY:=Zi l l.length
def Ym(o:BY)(s:Rd.qa):BY:=o++⟨#[123,34,101,102,102,101,99,116,34,58]⟩++zV s.eff++⟨#[44,34,119,104,111,34,58]⟩++ul s.who++⟨#[44,34,100,111,34,58]⟩++ul s.act++⟨#[44,34,111,110,34,58]⟩++ul s.on
def Jc(o:BY)(s:Rd.qa):BY:=if 0<s.cs.length then o++⟨#[44,34,105,102,34,58,91]⟩++ZI s.cs++⟨#[93]⟩ else o
def XC(o:BY)(s:Rd.qa):BY:=Jc (Ym o s) s++⟨#[125]⟩
def kY(l:List Rd.qa):Nat->BY
 | 0=>⟨#[123,34,115,116,97,116,101,109,101,110,116,34,58,91]⟩
 | k+1=>XC (comma (kY l k) k) (l.getD k Rd.ji)
def QV(l:List Rd.qa):BY:=kY l l.length++⟨#[93,125]⟩
def Xi(c:qg):Prop:=c.op.size<=12000/\c.key.size<=12000/\c.vals.length<=10/\∀s ∈ c.vals,s.size<=12000
def uI(l:List BY):Prop:=l.length<=10/\∀s ∈ l,s.size<=12000
structure ky (s:Rd.qa):Prop where
 eff:s.eff.size<=12000
 who:uI s.who.2
 act:uI s.act.2
 on:uI s.on.2
 len:s.cs.length<=5
 cs:∀c ∈ s.cs,Xi c
theorem YY{l:List BY}(h:uI l):(yI l).size<=900000:=by
 have a:=Yb l h.2 l.length;have b:=h.1;have z:(⟨#[93]⟩:BY).size=1:=rfl;rw[yI,zJ];omega
theorem Zh{c:Bool×List BY}(h:uI c.2):(ul c).size<=900020:=by
 have a:=YY h;have b:(⟨#[123,34,110,111,116,34,58]⟩:BY).size=7:=rfl;have d:(⟨#[125]⟩:BY).size=1:=rfl;unfold ul
 split
 ·rw[zJ,zJ];omega
 ·omega
theorem iF(o:BY){c:qg}(h:Xi c):(ZH o c).size<=o.size+200000/\(Xo (ZH o c) c).size<=o.size+1200000/\(YN (Xo (ZH o c) c) c).size<=o.size+1200100/\(Xn o c).size<=o.size+1200200:=by
 obtain⟨g,i,f⟩:=h;have j:=ut c.op;have q2:=ut c.key;have k:=YY (l:=c.vals) f
 have a:(ZH o c).size<=o.size+200000:=by
  have e:(⟨#[123,34,111,112,34,58]⟩:BY).size=6:=rfl;have m:(⟨#[44,34,107,101,121,34,58]⟩:BY).size=7:=rfl;unfold ZH;rw[zJ,zJ,zJ,zJ];omega
 have b:(Xo (ZH o c) c).size<=o.size+1200000:=by
  have e:(⟨#[44,34,118,97,108,117,101,34,58]⟩:BY).size=9:=rfl;unfold Xo
  split
  ·omega
  ·rw[zJ,zJ];omega
 have d:(YN (Xo (ZH o c) c) c).size<=o.size+1200100:=by
  have e:(⟨#[44,34,110,111,34,58,116,114,117,101]⟩:BY).size=10:=rfl;unfold YN
  split
  ·rw[zJ];omega
  ·omega
 have z:(⟨#[125]⟩:BY).size=1:=rfl;refine⟨a,b,d,?_⟩;unfold Xn;rw[zJ];omega
theorem VZ(o:BY)(k:Nat):(comma o k).size<=o.size+1:=by
 have z:(⟨#[44]⟩:BY).size=1:=rfl;unfold comma
 split
 ·rw[zJ];omega
 ·omega
theorem V3(l:List qg)(h:∀c ∈ l,Xi c):∀k,k<=l.length->(Zi l k).size<=1300000*k
 | 0,_=>ze 0
 | k+1,hk=>by
  have e:=V3 l h k (by omega)
  have a:Xi (l.getD k yf):=by
   rw[zY,zn (by omega)];exact h _ (xB (by omega))
  have b:=(iF (comma (Zi l k) k) a).2.2.2;have d:=VZ (Zi l k) k;rw[Zi];omega
theorem Re(o:BY){s:Rd.qa}(h:ky s):(Ym o s).size<=o.size+3000000:=by
 have q:=ut s.eff;have e:=h.eff;have c1:=Zh h.who;have c2:=Zh h.act;have c3:=Zh h.on;have a:(⟨#[123,34,101,102,102,101,99,116,34,58]⟩:BY).size=10:=rfl;have b:(⟨#[44,34,119,104,111,34,58]⟩:BY).size=7:=rfl;have c:(⟨#[44,34,100,111,34,58]⟩:BY).size=6:=rfl;have d:(⟨#[44,34,111,110,34,58]⟩:BY).size=6:=rfl;unfold Ym;rw[zJ,zJ,zJ,zJ,zJ,zJ,zJ,zJ];omega
theorem Rf(o:BY){s:Rd.qa}(h:ky s):(Jc (Ym o s) s).size<=o.size+10000000/\(XC o s).size<=o.size+10000001/\(ZI s.cs).size<=6500000:=by
 have b:=Re o h;have c:=V3 s.cs h.cs s.cs.length (ze _);have d:=h.len
 have a:(Jc (Ym o s) s).size<=o.size+10000000:=by
  have e:(⟨#[44,34,105,102,34,58,91]⟩:BY).size=7:=rfl;have f:(⟨#[93]⟩:BY).size=1:=rfl;unfold Jc ZI
  split
  ·rw[zJ,zJ,zJ];omega
  ·omega
 have z:(⟨#[125]⟩:BY).size=1:=rfl;refine⟨a,?_,by unfold ZI;omega⟩;unfold XC;rw[zJ];omega
theorem sI(l:List Rd.qa)(h:∀s ∈ l,ky s):∀k,k<=l.length->(kY l k).size<=11000000*k+20
 | 0,_=>by
  have z:(⟨#[123,34,115,116,97,116,101,109,101,110,116,34,58,91]⟩:BY).size=14:=rfl;show ByteArray.size _<=_;rw[kY,z];omega
 | k+1,hk=>by
  have d:=sI l h k (by omega)
  have a:ky (l.getD k Rd.ji):=by
   rw[zY,zn (by omega)];exact h _ (xB (by omega))
  have b:=(Rf (comma (kY l k) k) a).2.1;have c:=VZ (kY l k) k;rw[kY];omega
end Ref
end Go.Proofs.YtagnlbgbnfnapaaGreatDoor
namespace Go.Proofs.YtagnlbgbnfnapaaGreatDoor
open Go.RowKit
theorem JU{l:List Nat}(h:Rd.qE l=0):∀c ∈ l,c≠1/\c≠2:=by
 unfold Rd.qE at h
 split at h
 ·simp at h
 rename_i b
 split at h
 ·simp at h
 rename_i d;intro c a;refine⟨λe=>b ?_,λe=>d ?_⟩
 ·rw[Xd];exact⟨c,a,by simp[e]⟩
 ·rw[Xd];exact⟨c,a,by simp[e]⟩
theorem rF{f:BY->Bool}{x:Option Rd.V}(h:Rd.qb f x≠1):∃s,x=some (.str s)/\f s=true/\Rd.qV f x=s:=by
 match x with
 | none=>exact absurd rfl h
 | some (.word b)=>exact absurd rfl h
 | some (.list vs)=>exact absurd rfl h
 | some (.obj ms)=>exact absurd rfl h
 | some (.str s)=>
  have a:f s=true:=by
   cases e:f s with
   | true=>rfl
   | false=>exact absurd (by simp[Rd.qb,e,Rd.cls]) h
  exact⟨s,rfl,a,by simp[Rd.qV,a]⟩
theorem KT{L:Nat}(x:Option Rd.V)(d:∀v,x=some v->Rd.Good L v)(h:Rd.chC x≠1):(Rd.jM x).2.isSome=true/\chS x=Rd.chD (Rd.jM x):=by
 have f:=Rd.VX x d
 have a:(Rd.jM x).2.isSome=true:=by
  cases e:(Rd.jM x).2.isSome with
  | true=>rfl
  | false=>rw[e] at f;exact absurd f h
 refine⟨a,?_⟩;unfold Rd.chD;have gen:∀y:Option Rd.V,(Rd.zI y).isSome=true->Rd.qN Rd.strOf y=(Rd.zI y).getD []:=λy g=>Rd.oG y g
 match x with
 | none=>exact absurd a (by simp[Rd.jM,Rd.zI])
 | some (.word b)=>exact absurd a (by simp[Rd.jM,Rd.zI])
 | some (.str s)=>rfl
 | some (.list vs)=>exact congrArg (Prod.mk false) (gen _ a)
 | some (.obj ms)=>
  simp only[chS,Rd.jM] at a |-
  by_cases c:Rd.qf ms [Ref.qM]=true/\ms.length=1
  ·rw[zb c] at a |-;rw[zb c.1]
   match ms,c with
   | [m],c=>
    have e:(m.1.toList==Ref.qM.toList)=true:=by
     have:=c.1
     simp[Rd.qf] at this;simp[this]
    have d:Rd.zm [m] Ref.qM=some m.2:=by unfold Rd.zm;rw[Jq,e];rfl
    rw[d];exact congrArg (Prod.mk true) (gen _ a)
  ·rw[za c] at a;simp at a
def toS(c:Ref.qg):xG:=⟨c.op,c.key,c.vals,c.no⟩
theorem Ls(op:BY)(x:Option Rd.V)(a:Ref.uP op=true)(h:Rd.yo op x≠1):Rd.j3 op x=(Rd.zI x).getD []/\(Rd.zI x).isSome=true:=by
 have g:=Rd.nK op x a
 have c:(Rd.zI x).isSome=true:=by
  cases e:(Rd.zI x).isSome with
  | true=>rfl
  | false=>rw[e] at g;exact absurd g h
 refine⟨?_,c⟩
 have d:∀f:BY->Bool,Rd.qJ (Rd.qb f) x≠1->Rd.qN (Rd.qV f) x=(Rd.zI x).getD []:=by
  intro f b;rw[Rd.Ut] at b;refine Rd.Mx f x c ?_
  cases e:((Rd.zI x).getD []).all f with
  | true=>rfl
  | false=>rw[e] at b;simp[Rd.cls] at b
 unfold Rd.yo at h;unfold Rd.j3
 by_cases c1:Ref.yc op=true
 ·rw[zb c1];exact Rd.oG x c
 rw[za c1] at h |-
 by_cases c2:Rd.kM op=true
 ·rw[zb c2] at h |-;exact d _ h
 rw[za c2] at h |-
 by_cases c3:Rd.Zp op=true
 ·rw[zb c3] at h |-;exact d _ h
 rw[za c3] at h |-
 by_cases c4:Rd.ZN op=true
 ·rw[zb c4] at h |-;exact d _ h
 exfalso;unfold Ref.uP at a;unfold Ref.yc at c1;unfold Rd.kM at c2;unfold Rd.Zp at c3;unfold Rd.ZN at c4;simp only[Bool.or_eq_true] at a
 rcases a with ((a|a)|a)|a
 ·exact c2 a
 ·exact c4 a
 ·exact c3 a
 ·exact c1 a
theorem BS(v:Rd.V)(h:Rd.condC v≠1/\Rd.condC v≠2):um v=toS (Rd.qX v):=by
 match v with
 | .str s=>exact absurd rfl h.1
 | .word b=>exact absurd rfl h.1
 | .list l=>exact absurd rfl h.1
 | .obj ms=>
  rw[aa] at h;simp only[um,Rd.qX]
  cases ho:Rd.qf ms [Ref.bOp,Ref.zD,Ref.zB,Ref.bNo] with
  | false=>rw[ho] at h;exact absurd rfl h.1
  | true=>
   rw[ho] at h;simp only[xy] at h |-
   cases hop:Qt (Rd.zm ms Ref.bOp) with
   | none=>rw[hop] at h;exact absurd rfl h.1
   | some k=>
    rw[hop] at h;simp only at h |-
    have f:Rd.qE [Rd.qb Ref.qh (Rd.zm ms Ref.zD),Rd.yo (opN k) (Rd.zm ms Ref.zB),Rd.cls (Rd.vJ (Rd.zm ms Ref.bNo)) false]=0:=by
     have:=Rd.YS [Rd.qb Ref.qh (Rd.zm ms Ref.zD),Rd.yo (opN k) (Rd.zm ms Ref.zB),Rd.cls (Rd.vJ (Rd.zm ms Ref.bNo)) false]
     omega
    have f:=JU f;obtain⟨key,d,n,j⟩:=rF (f (Rd.qb Ref.qh (Rd.zm ms Ref.zD)) (by simp)).1;have m:=(f (Rd.yo (opN k) (Rd.zm ms Ref.zB)) (by simp)).1
    obtain⟨s,i,c⟩:∃s,Rd.zm ms Ref.bOp=some (.str s)/\vK s=some k:=by
     match hgm:Rd.zm ms Ref.bOp with
     | none=>rw[hgm] at hop;cases hop
     | some (.word b)=>rw[hgm] at hop;cases hop
     | some (.list vs)=>rw[hgm] at hop;cases hop
     | some (.obj ms)=>rw[hgm] at hop;cases hop
     | some (.str s)=>rw[hgm] at hop;exact⟨s,rfl,hop⟩
    obtain⟨_,a,e⟩:=bM c;rw[j,a];rw[a] at m;simp only[Rd.Xm,i,d,Rd.opV,toS]
    by_cases ca:Ref.xO s=true
    ·obtain⟨t,o,p,q,r⟩:=Rd.fQ s ca;rw[zb ca];simp only[Rd.j3,o,p,q,r,vo,jN]
    ·have ok:Ref.uP s=true:=by
      have g:Ref.xO s=false:=by simpa using ca
      rw[g,Zb] at e;exact e
     rw[za ca,(Ls s _ ok m).1]
theorem Cj(x:Option Rd.V)(h:Rd.jW x≠1/\Rd.jW x≠2):Xp x=(Rd.xw x).cs.map toS:=by
 match x with
 | none=>rfl
 | some (.str s)=>exact absurd rfl h.1
 | some (.word b)=>exact absurd rfl h.1
 | some (.obj ms)=>exact absurd rfl h.1
 | some (.list vs)=>
  simp only[Xp,Rd.xw,Rd.jW] at h |-
  by_cases c:5<vs.length
  ·rw[zb c] at h;exact absurd rfl h.1
  ·rw[za c] at h |-;rw[za c]
   have a:Rd.qE (vs.map Rd.condC)=0:=by
    have:=Rd.YS (vs.map Rd.condC)
    omega
   have a:=JU a;simp only[ui];exact Kn λv d=>BS v (a _ (xR.2 ⟨v,d,rfl⟩))
def vk(r:Rd.qa):qp:=⟨r.eff,r.who,r.act,r.on,r.cs.map toS⟩
theorem Ri{L:Nat}(v:Rd.V)(c:Rd.Good L v)(h:Rd.yu v≠1/\Rd.yu v≠2):jm v=vk (Rd.xP v):=by
 match v,c with
 | .str s,_=>exact absurd rfl h.1
 | .word b,_=>exact absurd rfl h.1
 | .list l,_=>exact absurd rfl h.1
 | .obj ms,c=>
  simp only[Rd.yu] at h;simp only[jm,Rd.xP,Rd.XB]
  cases ho:Rd.qf ms [Rd.zH,Rd.zS,Rd.bDo,Rd.bOn,Rd.bIf] with
  | false=>rw[ho] at h;exact absurd rfl h.1
  | true=>
   rw[ho] at h;simp only[xy] at h |-
   have a:Rd.qE [Rd.qb Rd.xX (Rd.zm ms Rd.zH),Rd.chC (Rd.zm ms Rd.zS),Rd.chC (Rd.zm ms Rd.bDo),Rd.chC (Rd.zm ms Rd.bOn),Rd.jW (Rd.zm ms Rd.bIf)]=0:=by
    have:=Rd.YS [Rd.qb Rd.xX (Rd.zm ms Rd.zH),Rd.chC (Rd.zm ms Rd.zS),Rd.chC (Rd.zm ms Rd.bDo),Rd.chC (Rd.zm ms Rd.bOn),Rd.jW (Rd.zm ms Rd.bIf)]
    omega
   have a:=JU a;obtain⟨eff,e,f,d⟩:=rF (a (Rd.qb Rd.xX (Rd.zm ms Rd.zH)) (by simp)).1;rw[d];have c1:=(KT _ (Rd.yx c Rd.zS) (a (Rd.chC (Rd.zm ms Rd.zS)) (by simp)).1).2;have c2:=(KT _ (Rd.yx c Rd.bDo) (a (Rd.chC (Rd.zm ms Rd.bDo)) (by simp)).1).2;have c3:=(KT _ (Rd.yx c Rd.bOn) (a (Rd.chC (Rd.zm ms Rd.bOn)) (by simp)).1).2;have c4:=Cj _ (a (Rd.jW (Rd.zm ms Rd.bIf)) (by simp));rw[c1,c2,c3,c4];simp only[e,Rd.opV,vk,Rd.QT]
def jD(xs:List BY):BY:=⟨(Lib.join (xs.map (·.data.toList)) [44]).toArray⟩
theorem KJ{a b:BY}(h:a.data.toList=b.data.toList):a=b:=Z4 (Xb.1 h)
theorem VR(a b:BY):(a++b).data.toList=a.data.toList++b.data.toList:=by simp[ByteArray.data_append]
theorem Qj(a b c:BY):a++b++c=a++(b++c):=by apply KJ;simp only[VR,Ke]
theorem GR(xs:List (List UInt8))(y s:List UInt8):Lib.join (xs++[y]) s=if xs=[] then y else Lib.join xs s++s++y:=by
 cases xs with
 | nil=>simp[Lib.join_one]
 | cons x r=>
  rw[za (by simp),List.cons_append,Lib.join_cons,Lib.join_cons];simp[Lib.joinTail,List.append_assoc]
theorem aW(xs:List BY)(y:BY):jD (xs++[y])=Ref.comma (jD xs) xs.length++y:=by
 apply KJ;rw[VR];unfold jD Ref.comma;simp only[uG,yh,Zc,GR]
 cases xs with
 | nil=>simp[Lib.join_nil]
 | cons x r=>
  rw[za (by simp),zb (by simp)];rw[VR]
theorem iD(a b:BY)(k:Nat):Ref.comma (a++b) k=a++Ref.comma b k:=by
 unfold Ref.comma
 split
 ·rw[Qj]
 ·rfl
theorem written(a:Nat->BY)(o:BY)(b:Nat->BY)(c:a 0=o)(d:∀k,a (k+1)=Ref.comma (a k) k++b k):∀n,a n=o++jD ((List.range n).map b)
 | 0=>by rw[c];apply KJ;rw[VR];simp[jD,Lib.join_nil]
 | n+1=>by
  rw[d n,written a o b c d n,Jr,uG,yh,Zc,aW,iD,Qj]
  simp
theorem df{α β:Type}(f:α->β)(d:α):∀(l:List α),(List.range l.length).map (λk=>f (l.getD k d))=l.map f:=by
 intro l;apply Kh
 ·simp
 ·intro i b a;simp only[qB] at a;simp[List.getD_eq_getElem?_getD,List.getElem?_eq_getElem a]
def jP(l:List BY):BY:=⟨#[91]⟩++jD l++⟨#[93]⟩
theorem J4(l:List BY):Ref.yI l=jP (l.map Ref.zV):=by
 unfold Ref.yI jP;rw[written (Ref.jE l) ⟨#[91]⟩ (λk=>Ref.zV (l.getD k ⟨#[]⟩)) rfl (λk=>by rw[Ref.jE];rfl) l.length,df]
def ZG(c:Bool×List BY):BY:=if c.1 then ⟨#[123,34,110,111,116,34,58]⟩++jP (c.2.map Ref.zV)++⟨#[125]⟩ else jP (c.2.map Ref.zV)
theorem VY(c:Bool×List BY):Ref.ul c=ZG c:=by unfold Ref.ul ZG;rw[J4]
def jV(c:xG):BY:=
 (if c.no then (if 0<c.vals.length then ⟨#[123,34,111,112,34,58]⟩++Ref.zV c.op++⟨#[44,34,107,101,121,34,58]⟩++Ref.zV c.key++(⟨#[44,34,118,97,108,117,101,34,58]⟩++jP (c.vals.map Ref.zV)) else ⟨#[123,34,111,112,34,58]⟩++Ref.zV c.op++⟨#[44,34,107,101,121,34,58]⟩++Ref.zV c.key)++⟨#[44,34,110,111,34,58,116,114,117,101]⟩
  else (if 0<c.vals.length then ⟨#[123,34,111,112,34,58]⟩++Ref.zV c.op++⟨#[44,34,107,101,121,34,58]⟩++Ref.zV c.key++(⟨#[44,34,118,97,108,117,101,34,58]⟩++jP (c.vals.map Ref.zV)) else ⟨#[123,34,111,112,34,58]⟩++Ref.zV c.op++⟨#[44,34,107,101,121,34,58]⟩++Ref.zV c.key))++⟨#[125]⟩
theorem BQ(o:BY)(c:Ref.qg)(h:Ref.xO c.op=decide (c.vals.length=0)):Ref.Xn o c=o++jV (toS c):=by
 unfold Ref.Xn Ref.YN Ref.Xo Ref.ZH jV toS;rw[h];simp only
 by_cases hv:c.vals.length=0
 ·have b:¬0<c.vals.length:=by omega
  simp only[hv,decide_true,xy,za (Nat.lt_irrefl 0)]
  cases c.no
  ·simp only[vo,jN,Qj]
  ·simp only[xy,Qj]
 ·have a:0<c.vals.length:=by omega
  simp only[hv,a,decide_false,vo,jN,xy,J4]
  cases c.no
  ·simp only[vo,jN,Qj]
  ·simp only[xy,Qj]
def X3(l:List xG):BY:=jP (l.map jV)
theorem Cn(l:List Ref.qg)(h:∀c ∈ l,Ref.xO c.op=decide (c.vals.length=0)):Ref.ZI l=jD ((l.map toS).map jV):=by
 unfold Ref.ZI
 have a:∀n,n<=l.length->Ref.Zi l n=jD ((List.range n).map λk=>jV (toS (l.getD k Ref.yf))):=by
  intro n
  induction n with
  | zero=>intro _;rfl
  | succ n d=>
   intro e
   have b:Ref.xO (l.getD n Ref.yf).op=decide ((l.getD n Ref.yf).vals.length=0):=by
    rw[zY,zn (by omega)];exact h _ (xB (by omega))
   rw[Ref.Zi,BQ _ _ b,d (by omega),Jr,uG,yh,Zc,aW]
   simp
 rw[a _ (ze _),df (λc=>jV (toS c)),ui]
 rfl
def jG(s:qp):BY:=
 (if 0<s.ifs.length then ⟨#[123,34,101,102,102,101,99,116,34,58]⟩++Ref.zV s.eff++(⟨#[44,34,119,104,111,34,58]⟩++ZG s.who)++(⟨#[44,34,100,111,34,58]⟩++ZG s.act)++(⟨#[44,34,111,110,34,58]⟩++ZG s.on)++(⟨#[44,34,105,102,34,58]⟩++X3 s.ifs)
  else ⟨#[123,34,101,102,102,101,99,116,34,58]⟩++Ref.zV s.eff++(⟨#[44,34,119,104,111,34,58]⟩++ZG s.who)++(⟨#[44,34,100,111,34,58]⟩++ZG s.act)++(⟨#[44,34,111,110,34,58]⟩++ZG s.on))++⟨#[125]⟩
def Jo(s:Rd.qa):Prop:=∀c ∈ s.cs,Ref.xO c.op=decide (c.vals.length=0)
theorem Rh(o:BY)(s:Rd.qa)(h:Jo s):Ref.XC o s=o++jG (vk s):=by
 unfold Ref.XC Ref.Jc Ref.Ym jG vk;simp only[qB]
 by_cases hc:0<s.cs.length
 ·simp only[hc,xy,VY,Cn s.cs h,X3,jP];have e:(⟨#[44,34,105,102,34,58,91]⟩:BY)=⟨#[44,34,105,102,34,58]⟩++⟨#[91]⟩:=rfl;rw[e];simp only[Qj]
 ·simp only[hc,jN,VY,Qj]
def QO(l:List qp):BY:=⟨#[123,34,115,116,97,116,101,109,101,110,116,34,58]⟩++jP (l.map jG)++⟨#[125]⟩
theorem NF(l:List Rd.qa)(h:∀s ∈ l,Jo s):Ref.QV l=QO (l.map vk):=by
 unfold Ref.QV QO jP
 have b:∀n,n<=l.length->Ref.kY l n=⟨#[123,34,115,116,97,116,101,109,101,110,116,34,58,91]⟩++jD ((List.range n).map λk=>jG (vk (l.getD k Rd.ji))):=by
  intro n
  induction n with
  | zero=>intro _;rfl
  | succ n d=>
   intro f
   have c:Jo (l.getD n Rd.ji):=by
    rw[zY,zn (by omega)];exact h _ (xB (by omega))
   rw[Ref.kY,Rh _ _ c,d (by omega),Jr,uG,yh,Zc,aW,iD,Qj]
   simp
 rw[b _ (ze _),df (λs=>jG (vk s)),ui];have e:(⟨#[123,34,115,116,97,116,101,109,101,110,116,34,58,91]⟩:BY)=⟨#[123,34,115,116,97,116,101,109,101,110,116,34,58]⟩++⟨#[91]⟩:=rfl;have a:(⟨#[93,125]⟩:BY)=⟨#[93]⟩++⟨#[125]⟩:=rfl;rw[e,a];simp only[Qj]
 rfl
end Go.Proofs.YtagnlbgbnfnapaaGreatDoor
