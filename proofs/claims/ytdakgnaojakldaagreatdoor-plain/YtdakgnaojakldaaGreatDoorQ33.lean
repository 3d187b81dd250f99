/- P -/
import Derived.Test.YtdakgnaojakldaaGreatDoorQ18
import Derived.Lib.Join
set_option maxRecDepth 100000
namespace Go.Proofs.YtdakgnaojakldaaGreatDoor
namespace Ref
def hexDigits:BA:=⟨#[48,49,50,51,52,53,54,55,56,57,97,98,99,100,101,102]⟩
def Jo(s o:BA)(i:Nat)(c:Int):BA:=
 if c=34\/c=92 then o++⟨#[92]⟩++s.extract i (i+1)
 else if c=10 then o++⟨#[92,110]⟩
 else if c=9 then o++⟨#[92,116]⟩
 else if c<32 then o++⟨#[92,117,48,48]⟩++hexDigits.extract (c / 16).toNat ((c / 16).toNat+1)++hexDigits.extract (c % 16).toNat ((c % 16).toNat+1)
 else o++s.extract i (i+1)
def jG(s:BA):Nat->BA
 | 0=>⟨#[34]⟩
 | k+1=>Jo s (jG s k) k ((s.data.toList.getD k 0).toNat:Int)
def zQ(s:BA):BA:=jG s s.size++⟨#[34]⟩
theorem ext_size(t:BA)(i:Nat):(t.extract i (i+1)).size<=1:=by rw[jB];omega
theorem Gf(s o:BA)(i:Nat)(c:Int):(Jo s o i c).size<=o.size+6:=by
 have a:=ext_size s i;have b:=ext_size hexDigits (c / 16).toNat;have d:=ext_size hexDigits (c % 16).toNat;have e:(⟨#[92]⟩:BA).size=1:=rfl;have f:(⟨#[92,110]⟩:BA).size=2:=rfl;have g:(⟨#[92,116]⟩:BA).size=2:=rfl;have h:(⟨#[92,117,48,48]⟩:BA).size=4:=rfl;unfold Jo
 split
 ·rw[zI,zI];omega
 split
 ·rw[zI];omega
 split
 ·rw[zI];omega
 split
 ·rw[zI,zI,zI];omega
 ·rw[zI];omega
theorem Ke(s:BA):∀k,(jG s k).size<=1+6*k
 | 0=>by simp[jG,ByteArray.size]
 | k+1=>by rw[jG];have:=Gf s (jG s k) k ((s.data.toList.getD k 0).toNat:Int);have:=Ke s k;omega
theorem byte_at(s:BA)(k:Nat)(h:k<s.size):s.data.toList.getD k 0=s[k]:=by
 have a:k<s.data.toList.length:=by rw[zG];exact h
 rw[zL,zl a]
 rfl
theorem Rh(s:BA)(k:Nat)(h:k<s.size):jG s (k+1)=Jo s (jG s k) k (s[k].toNat:Int):=by rw[jG,byte_at s k h]
def xG(l:List BA):Nat->BA
 | 0=>⟨#[91]⟩
 | k+1=>(if 0<k then xG l k++⟨#[44]⟩ else xG l k)++zQ (l.getD k ⟨#[]⟩)
def xJ(l:List BA):BA:=xG l l.length++⟨#[93]⟩
theorem XZ(s:BA):(zQ s).size<=2+6*s.size:=by
 have:=Ke s s.size
 have z:(⟨#[34]⟩:BA).size=1:=rfl;rw[zQ,zI];omega
theorem Jw(l:List BA)(h:∀s ∈ l,s.size<=12000):∀k,(xG l k).size<=1+80000*k
 | 0=>by simp[xG,ByteArray.size]
 | k+1=>by
  have a:=Jw l h k;have b:=XZ (l.getD k ⟨#[]⟩);have z:(⟨#[44]⟩:BA).size=1:=rfl
  have c:(l.getD k ⟨#[]⟩).size<=12000:=by
   rw[zL]
   cases e:l[k]? with
   | none=>exact zO _
   | some s=>exact h s (ZN e)
  rw[xG,zI]
  split
  ·rw[zI];omega
  ·omega
theorem oV(l:List BA)(k:Nat)(h:k<l.length):xG l (k+1)=(if 0<k then xG l k++⟨#[44]⟩ else xG l k)++zQ l[k]:=by
 rw[xG,zL,zl h];rfl
def Zq(c:Bool×List BA):BA:=if c.1 then ⟨#[123,34,110,111,116,34,58]⟩++xJ c.2++⟨#[125]⟩ else xJ c.2
def lK(o:BA)(c:jZ):BA:=o++⟨#[123,34,111,112,34,58]⟩++zQ c.op++⟨#[44,34,107,101,121,34,58]⟩++zQ c.key
def lT(o:BA)(c:jZ):BA:=if yf c.op then o else o++⟨#[44,34,118,97,108,117,101,34,58]⟩++xJ c.vals
def lN(o:BA)(c:jZ):BA:=if c.no then o++⟨#[44,34,110,111,34,58,116,114,117,101]⟩ else o
def aP(o:BA)(c:jZ):BA:=lN (lT (lK o c) c) c++⟨#[125]⟩
def comma(o:BA)(k:Nat):BA:=if 0<k then o++⟨#[44]⟩ else o
def UA(l:List jZ):Nat->BA
 | 0=>⟨#[]⟩
 | k+1=>aP (comma (UA l k) k) (l.getD k jU)
def aQ(l:List jZ):BA:=UA l l.length
def wZ(o:BA)(s:Rd.jP):BA:=o++⟨#[123,34,101,102,102,101,99,116,34,58]⟩++zQ s.eff++⟨#[44,34,119,104,111,34,58]⟩++Zq s.who++⟨#[44,34,100,111,34,58]⟩++Zq s.act++⟨#[44,34,111,110,34,58]⟩++Zq s.on
def Aa(o:BA)(s:Rd.jP):BA:=if 0<s.cs.length then o++⟨#[44,34,105,102,34,58,91]⟩++aQ s.cs++⟨#[93]⟩ else o
def fE(o:BA)(s:Rd.jP):BA:=Aa (wZ o s) s++⟨#[125]⟩
def Ko(l:List Rd.jP):Nat->BA
 | 0=>⟨#[123,34,115,116,97,116,101,109,101,110,116,34,58,91]⟩
 | k+1=>fE (comma (Ko l k) k) (l.getD k Rd.uI)
def uL(l:List Rd.jP):BA:=Ko l l.length++⟨#[93,125]⟩
def Ub(c:jZ):Prop:=c.op.size<=12000/\c.key.size<=12000/\c.vals.length<=10/\∀s ∈ c.vals,s.size<=12000
def uY(l:List BA):Prop:=l.length<=10/\∀s ∈ l,s.size<=12000
structure Ud (s:Rd.jP):Prop where
 eff:s.eff.size<=12000
 who:uY s.who.2
 act:uY s.act.2
 on:uY s.on.2
 len:s.cs.length<=5
 cs:∀c ∈ s.cs,Ub c
theorem UW{l:List BA}(h:uY l):(xJ l).size<=900000:=by
 have a:=Jw l h.2 l.length;have b:=h.1;have z:(⟨#[93]⟩:BA).size=1:=rfl;rw[xJ,zI];omega
theorem Jf{c:Bool×List BA}(h:uY c.2):(Zq c).size<=900020:=by
 have a:=UW h;have b:(⟨#[123,34,110,111,116,34,58]⟩:BA).size=7:=rfl;have d:(⟨#[125]⟩:BA).size=1:=rfl;unfold Zq
 split
 ·rw[zI,zI];omega
 ·omega
end Ref
end Go.Proofs.YtdakgnaojakldaaGreatDoor
namespace Go.Proofs.YtdakgnaojakldaaGreatDoor
open Go.RowKit
theorem Vv{l:List Nat}(h:Rd.qo l=0):∀c ∈ l,c≠1/\c≠2:=by
 unfold Rd.qo at h
 split at h
 ·simp at h
 rename_i b
 split at h
 ·simp at h
 rename_i d;intro c a;refine⟨λe=>b ?_,λe=>d ?_⟩
 ·rw[QV];exact⟨c,a,by simp[e]⟩
 ·rw[QV];exact⟨c,a,by simp[e]⟩
theorem tX{f:BA->Bool}{x:Option Rd.V}(h:Rd.qd f x≠1):∃s,x=some (.str s)/\f s=true/\Rd.qM f x=s:=by
 match x with
 | none=>exact absurd rfl h
 | some (.word b)=>exact absurd rfl h
 | some (.list vs)=>exact absurd rfl h
 | some (.obj ms)=>exact absurd rfl h
 | some (.str s)=>
  have a:f s=true:=by
   cases e:f s with
   | true=>rfl
   | false=>exact absurd (by simp[Rd.qd,e,Rd.cls]) h
  exact⟨s,rfl,a,by simp[Rd.qM,a]⟩
theorem ah{L:Nat}(x:Option Rd.V)(d:∀v,x=some v->Rd.Good L v)(h:Rd.chC x≠1):(Rd.uy x).2.isSome=true/\chS x=Rd.chD (Rd.uy x):=by
 have f:=Rd.Ur x d
 have a:(Rd.uy x).2.isSome=true:=by
  cases e:(Rd.uy x).2.isSome with
  | true=>rfl
  | false=>rw[e] at f;exact absurd f h
 refine⟨a,?_⟩;unfold Rd.chD;have gen:∀y:Option Rd.V,(Rd.zJ y).isSome=true->Rd.qL Rd.strOf y=(Rd.zJ y).getD []:=λy g=>Rd.rM y g
 match x with
 | none=>exact absurd a (by simp[Rd.uy,Rd.zJ])
 | some (.word b)=>exact absurd a (by simp[Rd.uy,Rd.zJ])
 | some (.str s)=>rfl
 | some (.list vs)=>exact congrArg (Prod.mk false) (gen _ a)
 | some (.obj ms)=>
  simp only[chS,Rd.uy] at a |-
  by_cases c:Rd.qc ms [Ref.qm]=true/\ms.length=1
  ·rw[zb c] at a |-;rw[zb c.1]
   match ms,c with
   | [m],c=>
    have e:(m.1.toList==Ref.qm.toList)=true:=by
     have:=c.1
     simp[Rd.qc] at this;simp[this]
    have d:Rd.zk [m] Ref.qm=some m.2:=by unfold Rd.zk;rw[V7,e];rfl
    rw[d];exact congrArg (Prod.mk true) (gen _ a)
  ·rw[za c] at a;simp at a
def toS(c:Ref.jZ):zU:=⟨c.op,c.key,c.vals,c.no⟩
theorem Nb(op:BA)(x:Option Rd.V)(a:Ref.ui op=true)(h:Rd.qx op x≠1):Rd.xg op x=(Rd.zJ x).getD []/\(Rd.zJ x).isSome=true:=by
 have g:=Rd.oZ op x a
 have c:(Rd.zJ x).isSome=true:=by
  cases e:(Rd.zJ x).isSome with
  | true=>rfl
  | false=>rw[e] at g;exact absurd g h
 refine⟨?_,c⟩
 have d:∀f:BA->Bool,Rd.qG (Rd.qd f) x≠1->Rd.qL (Rd.qM f) x=(Rd.zJ x).getD []:=by
  intro f b;rw[Rd.U4] at b;refine Rd.Ot f x c ?_
  cases e:((Rd.zJ x).getD []).all f with
  | true=>rfl
  | false=>rw[e] at b;simp[Rd.cls] at b
 unfold Rd.qx at h;unfold Rd.xg
 by_cases c1:Ref.xw op=true
 ·rw[zb c1];exact Rd.rM x c
 rw[za c1] at h |-
 by_cases c2:Rd.yI op=true
 ·rw[zb c2] at h |-;exact d _ h
 rw[za c2] at h |-
 by_cases c3:Rd.jw op=true
 ·rw[zb c3] at h |-;exact d _ h
 rw[za c3] at h |-
 by_cases c4:Rd.Ze op=true
 ·rw[zb c4] at h |-;exact d _ h
 exfalso;unfold Ref.ui at a;unfold Ref.xw at c1;unfold Rd.yI at c2;unfold Rd.jw at c3;unfold Rd.Ze at c4;simp only[V5] at a
 rcases a with ((a|a)|a)|a
 ·exact c2 a
 ·exact c4 a
 ·exact c3 a
 ·exact c1 a
theorem Eg(v:Rd.V)(h:Rd.condC v≠1/\Rd.condC v≠2):jc v=toS (Rd.xq v):=by
 match v with
 | .str s=>exact absurd rfl h.1
 | .word b=>exact absurd rfl h.1
 | .list l=>exact absurd rfl h.1
 | .obj ms=>
  rw[Uv] at h;simp only[jc,Rd.xq]
  cases ho:Rd.qc ms [Ref.bOp,Ref.zx,Ref.zz,Ref.bNo] with
  | false=>rw[ho] at h;exact absurd rfl h.1
  | true=>
   rw[ho] at h;simp only[qh] at h |-
   cases hop:ZB (Rd.zk ms Ref.bOp) with
   | none=>rw[hop] at h;exact absurd rfl h.1
   | some k=>
    rw[hop] at h;simp only at h |-
    have f:Rd.qo [Rd.qd Ref.qj (Rd.zk ms Ref.zx),Rd.qx (opN k) (Rd.zk ms Ref.zz),Rd.cls (Rd.kC (Rd.zk ms Ref.bNo)) false]=0:=by
     have:=Rd.Jq [Rd.qd Ref.qj (Rd.zk ms Ref.zx),Rd.qx (opN k) (Rd.zk ms Ref.zz),Rd.cls (Rd.kC (Rd.zk ms Ref.bNo)) false]
     omega
    have f:=Vv f;obtain⟨key,d,n,j⟩:=tX (f (Rd.qd Ref.qj (Rd.zk ms Ref.zx)) (by simp)).1;have m:=(f (Rd.qx (opN k) (Rd.zk ms Ref.zz)) (by simp)).1
    obtain⟨s,i,c⟩:∃s,Rd.zk ms Ref.bOp=some (.str s)/\jA s=some k:=by
     match hgm:Rd.zk ms Ref.bOp with
     | none=>rw[hgm] at hop;cases hop
     | some (.word b)=>rw[hgm] at hop;cases hop
     | some (.list vs)=>rw[hgm] at hop;cases hop
     | some (.obj ms)=>rw[hgm] at hop;cases hop
     | some (.str s)=>rw[hgm] at hop;exact⟨s,rfl,hop⟩
    obtain⟨_,a,e⟩:=dH c;rw[j,a];rw[a] at m;simp only[Rd.Jg,i,d,Rd.opV,toS]
    by_cases ca:Ref.yf s=true
    ·obtain⟨t,o,p,q,r⟩:=Rd.ig s ca;rw[zb ca];simp only[Rd.xg,o,p,q,r,xz,qW]
    ·have ok:Ref.ui s=true:=by
      have g:Ref.yf s=false:=by simpa using ca
      rw[g,QS] at e;exact e
     rw[za ca,(Nb s _ ok m).1]
theorem Ep(x:Option Rd.V)(h:Rd.jd x≠1/\Rd.jd x≠2):QB x=(Rd.xS x).cs.map toS:=by
 match x with
 | none=>rfl
 | some (.str s)=>exact absurd rfl h.1
 | some (.word b)=>exact absurd rfl h.1
 | some (.obj ms)=>exact absurd rfl h.1
 | some (.list vs)=>
  simp only[QB,Rd.xS,Rd.jd] at h |-
  by_cases c:5<vs.length
  ·rw[zb c] at h;exact absurd rfl h.1
  ·rw[za c] at h |-;rw[za c]
   have a:Rd.qo (vs.map Rd.condC)=0:=by
    have:=Rd.Jq (vs.map Rd.condC)
    omega
   have a:=Vv a;simp only[xD];exact XE λv d=>Eg v (a _ (ql.2 ⟨v,d,rfl⟩))
def kJ(r:Rd.jP):zB:=⟨r.eff,r.who,r.act,r.on,r.cs.map toS⟩
theorem TU{L:Nat}(v:Rd.V)(c:Rd.Good L v)(h:Rd.xy v≠1/\Rd.xy v≠2):xO v=kJ (Rd.yl v):=by
 match v,c with
 | .str s,_=>exact absurd rfl h.1
 | .word b,_=>exact absurd rfl h.1
 | .list l,_=>exact absurd rfl h.1
 | .obj ms,c=>
  simp only[Rd.xy] at h;simp only[xO,Rd.yl,Rd.JU]
  cases ho:Rd.qc ms [Rd.qa,Rd.qg,Rd.bDo,Rd.bOn,Rd.bIf] with
  | false=>rw[ho] at h;exact absurd rfl h.1
  | true=>
   rw[ho] at h;simp only[qh] at h |-
   have a:Rd.qo [Rd.qd Rd.yz (Rd.zk ms Rd.qa),Rd.chC (Rd.zk ms Rd.qg),Rd.chC (Rd.zk ms Rd.bDo),Rd.chC (Rd.zk ms Rd.bOn),Rd.jd (Rd.zk ms Rd.bIf)]=0:=by
    have:=Rd.Jq [Rd.qd Rd.yz (Rd.zk ms Rd.qa),Rd.chC (Rd.zk ms Rd.qg),Rd.chC (Rd.zk ms Rd.bDo),Rd.chC (Rd.zk ms Rd.bOn),Rd.jd (Rd.zk ms Rd.bIf)]
    omega
   have a:=Vv a;obtain⟨eff,e,f,d⟩:=tX (a (Rd.qd Rd.yz (Rd.zk ms Rd.qa)) (by simp)).1;rw[d];have c1:=(ah _ (Rd.yc c Rd.qg) (a (Rd.chC (Rd.zk ms Rd.qg)) (by simp)).1).2;have c2:=(ah _ (Rd.yc c Rd.bDo) (a (Rd.chC (Rd.zk ms Rd.bDo)) (by simp)).1).2;have c3:=(ah _ (Rd.yc c Rd.bOn) (a (Rd.chC (Rd.zk ms Rd.bOn)) (by simp)).1).2;have c4:=Ep _ (a (Rd.jd (Rd.zk ms Rd.bIf)) (by simp));rw[c1,c2,c3,c4];simp only[e,Rd.opV,kJ,Rd.JB]
def jg(xs:List BA):BA:=⟨(Lib.join (xs.map (·.data.toList)) [44]).toArray⟩
theorem K9{a b:BA}(h:a.data.toList=b.data.toList):a=b:=jk (Xy.1 h)
theorem Ui(a b:BA):(a++b).data.toList=a.data.toList++b.data.toList:=by simp[ByteArray.data_append]
theorem Qx(a b c:BA):a++b++c=a++(b++c):=by apply K9;simp only[Ui,List.append_assoc]
theorem Li(xs:List (List UInt8))(y s:List UInt8):Lib.join (xs++[y]) s=if xs=[] then y else Lib.join xs s++s++y:=by
 cases xs with
 | nil=>simp[Lib.join_one]
 | cons x r=>
  rw[za (by simp),yZ,Lib.join_cons,Lib.join_cons];simp[Lib.joinTail,List.append_assoc]
theorem bS(xs:List BA)(y:BA):jg (xs++[y])=Ref.comma (jg xs) xs.length++y:=by
 apply K9;rw[Ui];unfold jg Ref.comma;simp only[jm,yn,vg,Li]
 cases xs with
 | nil=>simp[Lib.join_nil]
 | cons x r=>
  rw[za (by simp),zb (by simp)];rw[Ui]
theorem lH(a b:BA)(k:Nat):Ref.comma (a++b) k=a++Ref.comma b k:=by
 unfold Ref.comma
 split
 ·rw[Qx]
 ·rfl
theorem written(a:Nat->BA)(o:BA)(b:Nat->BA)(c:a 0=o)(d:∀k,a (k+1)=Ref.comma (a k) k++b k):∀n,a n=o++jg ((List.range n).map b)
 | 0=>by rw[c];apply K9;rw[Ui];simp[jg,Lib.join_nil]
 | n+1=>by
  rw[d n,written a o b c d n,Vd,jm,yn,vg,bS,lH,Qx]
  simp
theorem eF{α β:Type}(f:α->β)(d:α):∀(l:List α),(List.range l.length).map (λk=>f (l.getD k d))=l.map f:=by
 intro l;apply KO
 ·simp
 ·intro i b a;simp only[zN] at a;simp[List.getD_eq_getElem?_getD,List.getElem?_eq_getElem a]
def xI(l:List BA):BA:=⟨#[91]⟩++jg l++⟨#[93]⟩
theorem Vz(l:List BA):Ref.xJ l=xI (l.map Ref.zQ):=by
 unfold Ref.xJ xI;rw[written (Ref.xG l) ⟨#[91]⟩ (λk=>Ref.zQ (l.getD k ⟨#[]⟩)) rfl (λk=>by rw[Ref.xG];rfl) l.length,eF]
def yS(c:Bool×List BA):BA:=if c.1 then ⟨#[123,34,110,111,116,34,58]⟩++xI (c.2.map Ref.zQ)++⟨#[125]⟩ else xI (c.2.map Ref.zQ)
theorem Ut(c:Bool×List BA):Ref.Zq c=yS c:=by unfold Ref.Zq yS;rw[Vz]
def yx(c:zU):BA:=
 (if c.no then (if 0<c.vals.length then ⟨#[123,34,111,112,34,58]⟩++Ref.zQ c.op++⟨#[44,34,107,101,121,34,58]⟩++Ref.zQ c.key++(⟨#[44,34,118,97,108,117,101,34,58]⟩++xI (c.vals.map Ref.zQ)) else ⟨#[123,34,111,112,34,58]⟩++Ref.zQ c.op++⟨#[44,34,107,101,121,34,58]⟩++Ref.zQ c.key)++⟨#[44,34,110,111,34,58,116,114,117,101]⟩
  else (if 0<c.vals.length then ⟨#[123,34,111,112,34,58]⟩++Ref.zQ c.op++⟨#[44,34,107,101,121,34,58]⟩++Ref.zQ c.key++(⟨#[44,34,118,97,108,117,101,34,58]⟩++xI (c.vals.map Ref.zQ)) else ⟨#[123,34,111,112,34,58]⟩++Ref.zQ c.op++⟨#[44,34,107,101,121,34,58]⟩++Ref.zQ c.key))++⟨#[125]⟩
theorem Eb(o:BA)(c:Ref.jZ)(h:Ref.yf c.op=decide (c.vals.length=0)):Ref.aP o c=o++yx (toS c):=by
 unfold Ref.aP Ref.lN Ref.lT Ref.lK yx toS;rw[h];simp only
 by_cases hv:c.vals.length=0
 ·have b:¬0<c.vals.length:=by omega
  simp only[hv,decide_true,qh,za (Nat.lt_irrefl 0)]
  cases c.no
  ·simp only[xz,qW,Qx]
  ·simp only[qh,Qx]
 ·have a:0<c.vals.length:=by omega
  simp only[hv,a,decide_false,xz,qW,qh,Vz]
  cases c.no
  ·simp only[xz,qW,Qx]
  ·simp only[qh,Qx]
def Zr(l:List zU):BA:=xI (l.map yx)
theorem Es(l:List Ref.jZ)(h:∀c ∈ l,Ref.yf c.op=decide (c.vals.length=0)):Ref.aQ l=jg ((l.map toS).map yx):=by
 unfold Ref.aQ
 have a:∀n,n<=l.length->Ref.UA l n=jg ((List.range n).map λk=>yx (toS (l.getD k Ref.jU))):=by
  intro n
  induction n with
  | zero=>intro _;rfl
  | succ n d=>
   intro e
   have b:Ref.yf (l.getD n Ref.jU).op=decide ((l.getD n Ref.jU).vals.length=0):=by
    rw[zL,zl (by omega)];exact h _ (qH (by omega))
   rw[Ref.UA,Eb _ _ b,d (by omega),Vd,jm,yn,vg,bS]
   simp
 rw[a _ (ze _),eF (λc=>yx (toS c)),xD]
 rfl
def xN(s:zB):BA:=
 (if 0<s.ifs.length then ⟨#[123,34,101,102,102,101,99,116,34,58]⟩++Ref.zQ s.eff++(⟨#[44,34,119,104,111,34,58]⟩++yS s.who)++(⟨#[44,34,100,111,34,58]⟩++yS s.act)++(⟨#[44,34,111,110,34,58]⟩++yS s.on)++(⟨#[44,34,105,102,34,58]⟩++Zr s.ifs)
  else ⟨#[123,34,101,102,102,101,99,116,34,58]⟩++Ref.zQ s.eff++(⟨#[44,34,119,104,111,34,58]⟩++yS s.who)++(⟨#[44,34,100,111,34,58]⟩++yS s.act)++(⟨#[44,34,111,110,34,58]⟩++yS s.on))++⟨#[125]⟩
def J2(s:Rd.jP):Prop:=∀c ∈ s.cs,Ref.yf c.op=decide (c.vals.length=0)
theorem TQ(o:BA)(s:Rd.jP)(h:J2 s):Ref.fE o s=o++xN (kJ s):=by
 unfold Ref.fE Ref.Aa Ref.wZ xN kJ;simp only[zN]
 by_cases hc:0<s.cs.length
 ·simp only[hc,qh,Ut,Es s.cs h,Zr,xI];have e:(⟨#[44,34,105,102,34,58,91]⟩:BA)=⟨#[44,34,105,102,34,58]⟩++⟨#[91]⟩:=rfl;rw[e];simp only[Qx]
 ·simp only[hc,qW,Ut,Qx]
def xu(l:List zB):BA:=⟨#[123,34,115,116,97,116,101,109,101,110,116,34,58]⟩++xI (l.map xN)++⟨#[125]⟩
theorem sN(l:List Rd.jP)(h:∀s ∈ l,J2 s):Ref.uL l=xu (l.map kJ):=by
 unfold Ref.uL xu xI
 have b:∀n,n<=l.length->Ref.Ko l n=⟨#[123,34,115,116,97,116,101,109,101,110,116,34,58,91]⟩++jg ((List.range n).map λk=>xN (kJ (l.getD k Rd.uI))):=by
  intro n
  induction n with
  | zero=>intro _;rfl
  | succ n d=>
   intro f
   have c:J2 (l.getD n Rd.uI):=by
    rw[zL,zl (by omega)];exact h _ (qH (by omega))
   rw[Ref.Ko,TQ _ _ c,d (by omega),Vd,jm,yn,vg,bS,lH,Qx]
   simp
 rw[b _ (ze _),eF (λs=>xN (kJ s)),xD];have e:(⟨#[123,34,115,116,97,116,101,109,101,110,116,34,58,91]⟩:BA)=⟨#[123,34,115,116,97,116,101,109,101,110,116,34,58]⟩++⟨#[91]⟩:=rfl;have a:(⟨#[93,125]⟩:BA)=⟨#[93]⟩++⟨#[125]⟩:=rfl;rw[e,a];simp only[Qx]
 rfl
end Go.Proofs.YtdakgnaojakldaaGreatDoor
