/- P -/
import Derived.Test.YtdakgnaojakldaaGreatDoorF16
import Derived.Lib.Join
set_option maxRecDepth 100000
namespace Go.Proofs.YtdakgnaojakldaaGreatDoor
namespace Ref
def hexDigits:BA:=⟨#[48,49,50,51,52,53,54,55,56,57,97,98,99,100,101,102]⟩
def UM(s o:BA)(i:Nat)(c:Int):BA:=
 if c=34\/c=92 then o++⟨#[92]⟩++s.extract i (i+1)
 else if c=10 then o++⟨#[92,110]⟩
 else if c=9 then o++⟨#[92,116]⟩
 else if c<32 then o++⟨#[92,117,48,48]⟩++hexDigits.extract (c / 16).toNat ((c / 16).toNat+1)++hexDigits.extract (c % 16).toNat ((c % 16).toNat+1)
 else o++s.extract i (i+1)
def Yk(s:BA):Nat->BA
 | 0=>⟨#[34]⟩
 | k+1=>UM s (Yk s k) k ((s.data.toList.getD k 0).toNat:Int)
def xN(s:BA):BA:=Yk s s.size++⟨#[34]⟩
theorem ext_size(t:BA)(i:Nat):(t.extract i (i+1)).size<=1:=by rw[ByteArray.size_extract];omega
theorem Df(s o:BA)(i:Nat)(c:Int):(UM s o i c).size<=o.size+6:=by
 have a:=ext_size s i;have b:=ext_size hexDigits (c / 16).toNat;have d:=ext_size hexDigits (c % 16).toNat;have e:(⟨#[92]⟩:BA).size=1:=rfl;have f:(⟨#[92,110]⟩:BA).size=2:=rfl;have g:(⟨#[92,116]⟩:BA).size=2:=rfl;have h:(⟨#[92,117,48,48]⟩:BA).size=4:=rfl;unfold UM
 split
 ·rw[ByteArray.size_append,ByteArray.size_append];omega
 split
 ·rw[ByteArray.size_append];omega
 split
 ·rw[ByteArray.size_append];omega
 split
 ·rw[ByteArray.size_append,ByteArray.size_append,ByteArray.size_append];omega
 ·rw[ByteArray.size_append];omega
theorem nu(s:BA):∀k,(Yk s k).size<=1+6*k
 | 0=>by simp[Yk,ByteArray.size]
 | k+1=>by rw[Yk];have:=Df s (Yk s k) k ((s.data.toList.getD k 0).toNat:Int);have:=nu s k;omega
def qQ(l:List BA):Nat->BA
 | 0=>⟨#[91]⟩
 | k+1=>(if 0<k then qQ l k++⟨#[44]⟩ else qQ l k)++xN (l.getD k ⟨#[]⟩)
def xm(l:List BA):BA:=qQ l l.length++⟨#[93]⟩
theorem Nh(s:BA):(xN s).size<=2+6*s.size:=by
 have:=nu s s.size
 have z:(⟨#[34]⟩:BA).size=1:=rfl;rw[xN,ByteArray.size_append];omega
theorem X3(l:List BA)(h:∀s ∈ l,s.size<=12000):∀k,(qQ l k).size<=1+80000*k
 | 0=>by simp[qQ,ByteArray.size]
 | k+1=>by
  have a:=X3 l h k;have b:=Nh (l.getD k ⟨#[]⟩);have z:(⟨#[44]⟩:BA).size=1:=rfl
  have c:(l.getD k ⟨#[]⟩).size<=12000:=by
   rw[List.getD_eq_getElem?_getD]
   cases e:l[k]? with
   | none=>exact Nat.zero_le _
   | some s=>exact h s (List.mem_of_getElem? e)
  rw[qQ,ByteArray.size_append]
  split
  ·rw[ByteArray.size_append];omega
  ·omega
theorem ik(l:List BA)(k:Nat)(h:k<l.length):qQ l (k+1)=(if 0<k then qQ l k++⟨#[44]⟩ else qQ l k)++xN l[k]:=by
 rw[qQ,List.getD_eq_getElem?_getD,List.getElem?_eq_getElem h];rfl
def YM(c:Bool×List BA):BA:=if c.1 then ⟨#[123,34,110,111,116,34,58]⟩++xm c.2++⟨#[125]⟩ else xm c.2
def dL(o:BA)(c:qW):BA:=o++⟨#[123,34,111,112,34,58]⟩++xN c.op++⟨#[44,34,107,101,121,34,58]⟩++xN c.key
def dQ(o:BA)(c:qW):BA:=if qZ c.op then o else o++⟨#[44,34,118,97,108,117,101,34,58]⟩++xm c.vals
def dO(o:BA)(c:qW):BA:=if c.no then o++⟨#[44,34,110,111,34,58,116,114,117,101]⟩ else o
def UB(o:BA)(c:qW):BA:=dO (dQ (dL o c) c) c++⟨#[125]⟩
def comma(o:BA)(k:Nat):BA:=if 0<k then o++⟨#[44]⟩ else o
def JQ(l:List qW):Nat->BA
 | 0=>⟨#[]⟩
 | k+1=>UB (comma (JQ l k) k) (l.getD k yG)
def UC(l:List qW):BA:=JQ l l.length
def oC(o:BA)(s:Rd.qA):BA:=o++⟨#[123,34,101,102,102,101,99,116,34,58]⟩++xN s.eff++⟨#[44,34,119,104,111,34,58]⟩++YM s.who++⟨#[44,34,100,111,34,58]⟩++YM s.act++⟨#[44,34,111,110,34,58]⟩++YM s.on
def oD(o:BA)(s:Rd.qA):BA:=if 0<s.cs.length then o++⟨#[44,34,105,102,34,58,91]⟩++UC s.cs++⟨#[93]⟩ else o
def ae(o:BA)(s:Rd.qA):BA:=oD (oC o s) s++⟨#[125]⟩
def VI(l:List Rd.qA):Nat->BA
 | 0=>⟨#[123,34,115,116,97,116,101,109,101,110,116,34,58,91]⟩
 | k+1=>ae (comma (VI l k) k) (l.getD k Rd.vz)
def vY(l:List Rd.qA):BA:=VI l l.length++⟨#[93,125]⟩
def Jz(c:qW):Prop:=c.op.size<=12000/\c.key.size<=12000/\c.vals.length<=10/\∀s ∈ c.vals,s.size<=12000
def ZX(l:List BA):Prop:=l.length<=10/\∀s ∈ l,s.size<=12000
structure XL (s:Rd.qA):Prop where
 eff:s.eff.size<=12000
 who:ZX s.who.2
 act:ZX s.act.2
 on:ZX s.on.2
 len:s.cs.length<=5
 cs:∀c ∈ s.cs,Jz c
end Ref
end Go.Proofs.YtdakgnaojakldaaGreatDoor
namespace Go.Proofs.YtdakgnaojakldaaGreatDoor
open Go.RowKit
theorem YX{l:List Nat}(h:Rd.zR l=0):∀c ∈ l,c≠1/\c≠2:=by
 unfold Rd.zR at h
 split at h
 ·simp at h
 rename_i b
 split at h
 ·simp at h
 rename_i d;intro c a;refine⟨λe=>b ?_,λe=>d ?_⟩
 ·rw[List.any_eq_true];exact⟨c,a,by simp[e]⟩
 ·rw[List.any_eq_true];exact⟨c,a,by simp[e]⟩
theorem nI{f:BA->Bool}{x:Option Rd.V}(h:Rd.zL f x≠1):∃s,x=some (.str s)/\f s=true/\Rd.qh f x=s:=by
 match x with
 | none=>exact absurd rfl h
 | some (.word b)=>exact absurd rfl h
 | some (.list vs)=>exact absurd rfl h
 | some (.obj ms)=>exact absurd rfl h
 | some (.str s)=>
  have a:f s=true:=by
   cases e:f s with
   | true=>rfl
   | false=>exact absurd (by simp[Rd.zL,e,Rd.cls]) h
  exact⟨s,rfl,a,by simp[Rd.qh,a]⟩
theorem Uj{L:Nat}(x:Option Rd.V)(d:∀v,x=some v->Rd.Good L v)(h:Rd.chC x≠1):(Rd.yM x).2.isSome=true/\chS x=Rd.chD (Rd.yM x):=by
 have f:=Rd.JK x d
 have a:(Rd.yM x).2.isSome=true:=by
  cases e:(Rd.yM x).2.isSome with
  | true=>rfl
  | false=>rw[e] at f;exact absurd f h
 refine⟨a,?_⟩;unfold Rd.chD;have gen:∀y:Option Rd.V,(Rd.zu y).isSome=true->Rd.qg Rd.strOf y=(Rd.zu y).getD []:=λy g=>Rd.lJ y g
 match x with
 | none=>exact absurd a (by simp[Rd.yM,Rd.zu])
 | some (.word b)=>exact absurd a (by simp[Rd.yM,Rd.zu])
 | some (.str s)=>rfl
 | some (.list vs)=>exact congrArg (Prod.mk false) (gen _ a)
 | some (.obj ms)=>
  simp only[chS,Rd.yM] at a |-
  by_cases c:Rd.zJ ms [Ref.zX]=true/\ms.length=1
  ·rw[if_pos c] at a |-;rw[if_pos c.1]
   match ms,c with
   | [m],c=>
    have e:(m.1.toList==Ref.zX.toList)=true:=by
     have:=c.1
     simp[Rd.zJ] at this;simp[this]
    have d:Rd.zf [m] Ref.zX=some m.2:=by unfold Rd.zf;rw[List.find?_cons,e];rfl
    rw[d];exact congrArg (Prod.mk true) (gen _ a)
  ·rw[if_neg c] at a;simp at a
def toS(c:Ref.qW):zW:=⟨c.op,c.key,c.vals,c.no⟩
theorem Ik(op:BA)(x:Option Rd.V)(a:Ref.jQ op=true)(h:Rd.zS op x≠1):Rd.qG op x=(Rd.zu x).getD []/\(Rd.zu x).isSome=true:=by
 have g:=Rd.iy op x a
 have c:(Rd.zu x).isSome=true:=by
  cases e:(Rd.zu x).isSome with
  | true=>rfl
  | false=>rw[e] at g;exact absurd g h
 refine⟨?_,c⟩
 have d:∀f:BA->Bool,Rd.qc (Rd.zL f) x≠1->Rd.qg (Rd.qh f) x=(Rd.zu x).getD []:=by
  intro f b;rw[Rd.Vn] at b;refine Rd.LB f x c ?_
  cases e:((Rd.zu x).getD []).all f with
  | true=>rfl
  | false=>rw[e] at b;simp[Rd.cls] at b
 unfold Rd.zS at h;unfold Rd.qG
 by_cases c1:Ref.qE op=true
 ·rw[if_pos c1];exact Rd.lJ x c
 rw[if_neg c1] at h |-
 by_cases c2:Rd.xL op=true
 ·rw[if_pos c2] at h |-;exact d _ h
 rw[if_neg c2] at h |-
 by_cases c3:Rd.yD op=true
 ·rw[if_pos c3] at h |-;exact d _ h
 rw[if_neg c3] at h |-
 by_cases c4:Rd.uy op=true
 ·rw[if_pos c4] at h |-;exact d _ h
 exfalso;unfold Ref.jQ at a;unfold Ref.qE at c1;unfold Rd.xL at c2;unfold Rd.yD at c3;unfold Rd.uy at c4;simp only[Bool.or_eq_true] at a
 rcases a with ((a|a)|a)|a
 ·exact c2 a
 ·exact c4 a
 ·exact c3 a
 ·exact c1 a
theorem Ar(v:Rd.V)(h:Rd.condC v≠1/\Rd.condC v≠2):yN v=toS (Rd.qB v):=by
 match v with
 | .str s=>exact absurd rfl h.1
 | .word b=>exact absurd rfl h.1
 | .list l=>exact absurd rfl h.1
 | .obj ms=>
  rw[JM] at h;simp only[yN,Rd.qB]
  cases ho:Rd.zJ ms [Ref.bOp,Ref.zo,Ref.zt,Ref.bNo] with
  | false=>rw[ho] at h;exact absurd rfl h.1
  | true=>
   rw[ho] at h;simp only[if_true] at h |-
   cases hop:ko (Rd.zf ms Ref.bOp) with
   | none=>rw[hop] at h;exact absurd rfl h.1
   | some k=>
    rw[hop] at h;simp only at h |-
    have f:Rd.zR [Rd.zL Ref.zI (Rd.zf ms Ref.zo),Rd.zS (opN k) (Rd.zf ms Ref.zt),Rd.cls (Rd.yF (Rd.zf ms Ref.bNo)) false]=0:=by
     have:=Rd.XW [Rd.zL Ref.zI (Rd.zf ms Ref.zo),Rd.zS (opN k) (Rd.zf ms Ref.zt),Rd.cls (Rd.yF (Rd.zf ms Ref.bNo)) false]
     omega
    have f:=YX f;obtain⟨key,d,n,j⟩:=nI (f (Rd.zL Ref.zI (Rd.zf ms Ref.zo)) (by simp)).1;have m:=(f (Rd.zS (opN k) (Rd.zf ms Ref.zt)) (by simp)).1
    obtain⟨s,i,c⟩:∃s,Rd.zf ms Ref.bOp=some (.str s)/\yH s=some k:=by
     match hgm:Rd.zf ms Ref.bOp with
     | none=>rw[hgm] at hop;cases hop
     | some (.word b)=>rw[hgm] at hop;cases hop
     | some (.list vs)=>rw[hgm] at hop;cases hop
     | some (.obj ms)=>rw[hgm] at hop;cases hop
     | some (.str s)=>rw[hgm] at hop;exact⟨s,rfl,hop⟩
    obtain⟨_,a,e⟩:=KE c;rw[j,a];rw[a] at m;simp only[Rd.QB,i,d,Rd.opV,toS]
    by_cases ca:Ref.qZ s=true
    ·obtain⟨t,o,p,q,r⟩:=Rd.bu s ca;rw[if_pos ca];simp only[Rd.qG,o,p,q,r,Bool.false_eq_true,if_false]
    ·have ok:Ref.jQ s=true:=by
      have g:Ref.qZ s=false:=by simpa using ca
      rw[g,Bool.or_false] at e;exact e
     rw[if_neg ca,(Ik s _ ok m).1]
theorem AJ(x:Option Rd.V)(h:Rd.yA x≠1/\Rd.yA x≠2):Qb x=(Rd.qH x).cs.map toS:=by
 match x with
 | none=>rfl
 | some (.str s)=>exact absurd rfl h.1
 | some (.word b)=>exact absurd rfl h.1
 | some (.obj ms)=>exact absurd rfl h.1
 | some (.list vs)=>
  simp only[Qb,Rd.qH,Rd.yA] at h |-
  by_cases c:5<vs.length
  ·rw[if_pos c] at h;exact absurd rfl h.1
  ·rw[if_neg c] at h |-;rw[if_neg c]
   have a:Rd.zR (vs.map Rd.condC)=0:=by
    have:=Rd.XW (vs.map Rd.condC)
    omega
   have a:=YX a;simp only[List.map_map];exact List.map_congr_left λv d=>Ar v (a _ (List.mem_map.2 ⟨v,d,rfl⟩))
def jF(r:Rd.qA):zA:=⟨r.eff,r.who,r.act,r.on,r.cs.map toS⟩
theorem PX{L:Nat}(v:Rd.V)(c:Rd.Good L v)(h:Rd.qM v≠1/\Rd.qM v≠2):xu v=jF (Rd.xw v):=by
 match v,c with
 | .str s,_=>exact absurd rfl h.1
 | .word b,_=>exact absurd rfl h.1
 | .list l,_=>exact absurd rfl h.1
 | .obj ms,c=>
  simp only[Rd.qM] at h;simp only[xu,Rd.xw,Rd.Yp]
  cases ho:Rd.zJ ms [Rd.zO,Rd.zQ,Rd.bDo,Rd.bOn,Rd.bIf] with
  | false=>rw[ho] at h;exact absurd rfl h.1
  | true=>
   rw[ho] at h;simp only[if_true] at h |-
   have a:Rd.zR [Rd.zL Rd.xz (Rd.zf ms Rd.zO),Rd.chC (Rd.zf ms Rd.zQ),Rd.chC (Rd.zf ms Rd.bDo),Rd.chC (Rd.zf ms Rd.bOn),Rd.yA (Rd.zf ms Rd.bIf)]=0:=by
    have:=Rd.XW [Rd.zL Rd.xz (Rd.zf ms Rd.zO),Rd.chC (Rd.zf ms Rd.zQ),Rd.chC (Rd.zf ms Rd.bDo),Rd.chC (Rd.zf ms Rd.bOn),Rd.yA (Rd.zf ms Rd.bIf)]
    omega
   have a:=YX a;obtain⟨eff,e,f,d⟩:=nI (a (Rd.zL Rd.xz (Rd.zf ms Rd.zO)) (by simp)).1;rw[d];have c1:=(Uj _ (Rd.xk c Rd.zQ) (a (Rd.chC (Rd.zf ms Rd.zQ)) (by simp)).1).2;have c2:=(Uj _ (Rd.xk c Rd.bDo) (a (Rd.chC (Rd.zf ms Rd.bDo)) (by simp)).1).2;have c3:=(Uj _ (Rd.xk c Rd.bOn) (a (Rd.chC (Rd.zf ms Rd.bOn)) (by simp)).1).2;have c4:=AJ _ (a (Rd.yA (Rd.zf ms Rd.bIf)) (by simp));rw[c1,c2,c3,c4];simp only[e,Rd.opV,jF,Rd.X7]
def Qg(xs:List BA):BA:=⟨(Lib.join (xs.map (·.data.toList)) [44]).toArray⟩
theorem Uc{a b:BA}(h:a.data.toList=b.data.toList):a=b:=ByteArray.ext (Array.toList_inj.1 h)
theorem JE(a b:BA):(a++b).data.toList=a.data.toList++b.data.toList:=by simp[ByteArray.data_append]
theorem Zw(a b c:BA):a++b++c=a++(b++c):=by apply Uc;simp only[JE,List.append_assoc]
theorem FP(xs:List (List UInt8))(y s:List UInt8):Lib.join (xs++[y]) s=if xs=[] then y else Lib.join xs s++s++y:=by
 cases xs with
 | nil=>simp[Lib.join_one]
 | cons x r=>
  rw[if_neg (by simp),List.cons_append,Lib.join_cons,Lib.join_cons];simp[Lib.joinTail,List.append_assoc]
theorem Kb(xs:List BA)(y:BA):Qg (xs++[y])=Ref.comma (Qg xs) xs.length++y:=by
 apply Uc;rw[JE];unfold Qg Ref.comma;simp only[List.map_append,List.map_cons,List.map_nil,FP]
 cases xs with
 | nil=>simp[Lib.join_nil]
 | cons x r=>
  rw[if_neg (by simp),if_pos (by simp)];rw[JE]
theorem dI(a b:BA)(k:Nat):Ref.comma (a++b) k=a++Ref.comma b k:=by
 unfold Ref.comma
 split
 ·rw[Zw]
 ·rfl
theorem written(a:Nat->BA)(o:BA)(b:Nat->BA)(c:a 0=o)(d:∀k,a (k+1)=Ref.comma (a k) k++b k):∀n,a n=o++Qg ((List.range n).map b)
 | 0=>by rw[c];apply Uc;rw[JE];simp[Qg,Lib.join_nil]
 | n+1=>by
  rw[d n,written a o b c d n,List.range_succ,List.map_append,List.map_cons,List.map_nil,Kb,dI,Zw]
  simp
theorem KT{α β:Type}(f:α->β)(d:α):∀(l:List α),(List.range l.length).map (λk=>f (l.getD k d))=l.map f:=by
 intro l;apply List.ext_getElem
 ·simp
 ·intro i b a;simp only[List.length_map] at a;simp[List.getD_eq_getElem?_getD,List.getElem?_eq_getElem a]
def ZE(l:List BA):BA:=⟨#[91]⟩++Qg l++⟨#[93]⟩
theorem il(l:List BA):Ref.xm l=ZE (l.map Ref.xN):=by
 unfold Ref.xm ZE;rw[written (Ref.qQ l) ⟨#[91]⟩ (λk=>Ref.xN (l.getD k ⟨#[]⟩)) rfl (λk=>by rw[Ref.qQ];rfl) l.length,KT]
def Qy(c:Bool×List BA):BA:=if c.1 then ⟨#[123,34,110,111,116,34,58]⟩++ZE (c.2.map Ref.xN)++⟨#[125]⟩ else ZE (c.2.map Ref.xN)
theorem dE(c:Bool×List BA):Ref.YM c=Qy c:=by unfold Ref.YM Qy;rw[il]
def XQ(c:zW):BA:=
 (if c.no then (if 0<c.vals.length then ⟨#[123,34,111,112,34,58]⟩++Ref.xN c.op++⟨#[44,34,107,101,121,34,58]⟩++Ref.xN c.key++(⟨#[44,34,118,97,108,117,101,34,58]⟩++ZE (c.vals.map Ref.xN)) else ⟨#[123,34,111,112,34,58]⟩++Ref.xN c.op++⟨#[44,34,107,101,121,34,58]⟩++Ref.xN c.key)++⟨#[44,34,110,111,34,58,116,114,117,101]⟩
  else (if 0<c.vals.length then ⟨#[123,34,111,112,34,58]⟩++Ref.xN c.op++⟨#[44,34,107,101,121,34,58]⟩++Ref.xN c.key++(⟨#[44,34,118,97,108,117,101,34,58]⟩++ZE (c.vals.map Ref.xN)) else ⟨#[123,34,111,112,34,58]⟩++Ref.xN c.op++⟨#[44,34,107,101,121,34,58]⟩++Ref.xN c.key))++⟨#[125]⟩
theorem Am(o:BA)(c:Ref.qW)(h:Ref.qZ c.op=decide (c.vals.length=0)):Ref.UB o c=o++XQ (toS c):=by
 unfold Ref.UB Ref.dO Ref.dQ Ref.dL XQ toS;rw[h];simp only
 by_cases hv:c.vals.length=0
 ·have b:¬0<c.vals.length:=by omega
  simp only[hv,decide_true,if_true,if_neg (Nat.lt_irrefl 0)]
  cases c.no
  ·simp only[Bool.false_eq_true,if_false,Zw]
  ·simp only[if_true,Zw]
 ·have a:0<c.vals.length:=by omega
  simp only[hv,a,decide_false,Bool.false_eq_true,if_false,if_true,il]
  cases c.no
  ·simp only[Bool.false_eq_true,if_false,Zw]
  ·simp only[if_true,Zw]
def dS(l:List zW):BA:=ZE (l.map XQ)
theorem AQ(l:List Ref.qW)(h:∀c ∈ l,Ref.qZ c.op=decide (c.vals.length=0)):Ref.UC l=Qg ((l.map toS).map XQ):=by
 unfold Ref.UC
 have a:∀n,n<=l.length->Ref.JQ l n=Qg ((List.range n).map λk=>XQ (toS (l.getD k Ref.yG))):=by
  intro n
  induction n with
  | zero=>intro _;rfl
  | succ n d=>
   intro e
   have b:Ref.qZ (l.getD n Ref.yG).op=decide ((l.getD n Ref.yG).vals.length=0):=by
    rw[List.getD_eq_getElem?_getD,List.getElem?_eq_getElem (by omega)];exact h _ (List.getElem_mem (by omega))
   rw[Ref.JQ,Am _ _ b,d (by omega),List.range_succ,List.map_append,List.map_cons,List.map_nil,Kb]
   simp
 rw[a _ (Nat.le_refl _),KT (λc=>XQ (toS c)),List.map_map]
 rfl
def Jk(s:zA):BA:=
 (if 0<s.ifs.length then ⟨#[123,34,101,102,102,101,99,116,34,58]⟩++Ref.xN s.eff++(⟨#[44,34,119,104,111,34,58]⟩++Qy s.who)++(⟨#[44,34,100,111,34,58]⟩++Qy s.act)++(⟨#[44,34,111,110,34,58]⟩++Qy s.on)++(⟨#[44,34,105,102,34,58]⟩++dS s.ifs)
  else ⟨#[123,34,101,102,102,101,99,116,34,58]⟩++Ref.xN s.eff++(⟨#[44,34,119,104,111,34,58]⟩++Qy s.who)++(⟨#[44,34,100,111,34,58]⟩++Qy s.act)++(⟨#[44,34,111,110,34,58]⟩++Qy s.on))++⟨#[125]⟩
def Yy(s:Rd.qA):Prop:=∀c ∈ s.cs,Ref.qZ c.op=decide (c.vals.length=0)
theorem PT(o:BA)(s:Rd.qA)(h:Yy s):Ref.ae o s=o++Jk (jF s):=by
 unfold Ref.ae Ref.oD Ref.oC Jk jF;simp only[List.length_map]
 by_cases hc:0<s.cs.length
 ·simp only[hc,if_true,dE,AQ s.cs h,dS,ZE];have e:(⟨#[44,34,105,102,34,58,91]⟩:BA)=⟨#[44,34,105,102,34,58]⟩++⟨#[91]⟩:=rfl;rw[e];simp only[Zw]
 ·simp only[hc,if_false,dE,Zw]
def JU(l:List zA):BA:=⟨#[123,34,115,116,97,116,101,109,101,110,116,34,58]⟩++ZE (l.map Jk)++⟨#[125]⟩
theorem MX(l:List Rd.qA)(h:∀s ∈ l,Yy s):Ref.vY l=JU (l.map jF):=by
 unfold Ref.vY JU ZE
 have b:∀n,n<=l.length->Ref.VI l n=⟨#[123,34,115,116,97,116,101,109,101,110,116,34,58,91]⟩++Qg ((List.range n).map λk=>Jk (jF (l.getD k Rd.vz))):=by
  intro n
  induction n with
  | zero=>intro _;rfl
  | succ n d=>
   intro f
   have c:Yy (l.getD n Rd.vz):=by
    rw[List.getD_eq_getElem?_getD,List.getElem?_eq_getElem (by omega)];exact h _ (List.getElem_mem (by omega))
   rw[Ref.VI,PT _ _ c,d (by omega),List.range_succ,List.map_append,List.map_cons,List.map_nil,Kb,dI,Zw]
   simp
 rw[b _ (Nat.le_refl _),KT (λs=>Jk (jF s)),List.map_map];have e:(⟨#[123,34,115,116,97,116,101,109,101,110,116,34,58,91]⟩:BA)=⟨#[123,34,115,116,97,116,101,109,101,110,116,34,58]⟩++⟨#[91]⟩:=rfl;have a:(⟨#[93,125]⟩:BA)=⟨#[93]⟩++⟨#[125]⟩:=rfl;rw[e,a];simp only[Zw]
 rfl
end Go.Proofs.YtdakgnaojakldaaGreatDoor
