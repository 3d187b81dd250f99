/- P -/
import Derived.Test.YtdakgnaojakldaaGreatDoorS27
import Derived.Lib.Join
set_option maxRecDepth 100000
namespace Go.Proofs.YtdakgnaojakldaaGreatDoor
open Go.RowKit
theorem XT{l:List Nat}(h:Rd.zN l=0):∀c ∈ l,c≠1/\c≠2:=by
 unfold Rd.zN at h
 split at h
 ·simp at h
 rename_i b
 split at h
 ·simp at h
 rename_i d;intro c a;refine⟨λe=>b ?_,λe=>d ?_⟩
 ·rw[List.any_eq_true];exact⟨c,a,by simp[e]⟩
 ·rw[List.any_eq_true];exact⟨c,a,by simp[e]⟩
theorem fQ{f:BY->Bool}{x:Option Rd.V}(h:Rd.zI f x≠1):∃s,x=some (.str s)/\f s=true/\Rd.qd f x=s:=by
 match x with
 | none=>exact absurd rfl h
 | some (.word b)=>exact absurd rfl h
 | some (.list vs)=>exact absurd rfl h
 | some (.obj ms)=>exact absurd rfl h
 | some (.str s)=>
  have a:f s=true:=by
   cases e:f s with
   | true=>rfl
   | false=>exact absurd (by simp[Rd.zI,e,Rd.cls]) h
  exact⟨s,rfl,a,by simp[Rd.qd,a]⟩
theorem JP{L:Nat}(x:Option Rd.V)(d:∀v,x=some v->Rd.Good L v)(h:Rd.chC x≠1):(Rd.yh x).2.isSome=true/\chS x=Rd.chD (Rd.yh x):=by
 have f:=Rd.YD x d
 have a:(Rd.yh x).2.isSome=true:=by
  cases e:(Rd.yh x).2.isSome with
  | true=>rfl
  | false=>rw[e] at f;exact absurd f h
 refine⟨a,?_⟩;unfold Rd.chD;have gen:∀y:Option Rd.V,(Rd.zn y).isSome=true->Rd.qc Rd.strOf y=(Rd.zn y).getD []:=λy g=>Rd.dN y g
 match x with
 | none=>exact absurd a (by simp[Rd.yh,Rd.zn])
 | some (.word b)=>exact absurd a (by simp[Rd.yh,Rd.zn])
 | some (.str s)=>rfl
 | some (.list vs)=>exact congrArg (Prod.mk false) (gen _ a)
 | some (.obj ms)=>
  simp only[chS,Rd.yh] at a |-
  by_cases c:Rd.zJ ms [Ref.qb]=true/\ms.length=1
  ·rw[if_pos c] at a |-;rw[if_pos c.1]
   match ms,c with
   | [m],c=>
    have e:(m.1.toList==Ref.qb.toList)=true:=by
     have:=c.1
     simp[Rd.zJ] at this;simp[this]
    have d:Rd.zh [m] Ref.qb=some m.2:=by unfold Rd.zh;rw[List.find?_cons,e];rfl
    rw[d];exact congrArg (Prod.mk true) (gen _ a)
  ·rw[if_neg c] at a;simp at a
def toS(c:Ref.qH):zQ:=⟨c.op,c.key,c.vals,c.no⟩
theorem Di(op:BY)(x:Option Rd.V)(a:Ref.jO op=true)(h:Rd.zY op x≠1):Rd.qx op x=(Rd.zn x).getD []/\(Rd.zn x).isSome=true:=by
 have g:=Rd.bK op x a
 have c:(Rd.zn x).isSome=true:=by
  cases e:(Rd.zn x).isSome with
  | true=>rfl
  | false=>rw[e] at g;exact absurd g h
 refine⟨?_,c⟩
 have d:∀f:BY->Bool,Rd.zZ (Rd.zI f) x≠1->Rd.qc (Rd.qd f) x=(Rd.zn x).getD []:=by
  intro f b;rw[Rd.Y2] at b;refine Rd.Eo f x c ?_
  cases e:((Rd.zn x).getD []).all f with
  | true=>rfl
  | false=>rw[e] at b;simp[Rd.cls] at b
 unfold Rd.zY at h;unfold Rd.qx
 by_cases c1:Ref.qp op=true
 ·rw[if_pos c1];exact Rd.dN x c
 rw[if_neg c1] at h |-
 by_cases c2:Rd.qW op=true
 ·rw[if_pos c2] at h |-;exact d _ h
 rw[if_neg c2] at h |-
 by_cases c3:Rd.xX op=true
 ·rw[if_pos c3] at h |-;exact d _ h
 rw[if_neg c3] at h |-
 by_cases c4:Rd.vR op=true
 ·rw[if_pos c4] at h |-;exact d _ h
 exfalso;unfold Ref.jO at a;unfold Ref.qp at c1;unfold Rd.qW at c2;unfold Rd.xX at c3;unfold Rd.vR at c4;simp only[Bool.or_eq_true] at a
 rcases a with ((a|a)|a)|a
 ·exact c2 a
 ·exact c4 a
 ·exact c3 a
 ·exact c1 a
theorem nW(v:Rd.V)(h:Rd.condC v≠1/\Rd.condC v≠2):yj v=toS (Rd.qi v):=by
 match v with
 | .str s=>exact absurd rfl h.1
 | .word b=>exact absurd rfl h.1
 | .list l=>exact absurd rfl h.1
 | .obj ms=>
  rw[YE] at h;simp only[yj,Rd.qi]
  cases ho:Rd.zJ ms [Ref.bOp,Ref.zw,Ref.zq,Ref.bNo] with
  | false=>rw[ho] at h;exact absurd rfl h.1
  | true=>
   rw[ho] at h;simp only[if_true] at h |-
   cases hop:vT (Rd.zh ms Ref.bOp) with
   | none=>rw[hop] at h;exact absurd rfl h.1
   | some k=>
    rw[hop] at h;simp only at h |-
    have f:Rd.zN [Rd.zI Ref.zH (Rd.zh ms Ref.zw),Rd.zY (opN k) (Rd.zh ms Ref.zq),Rd.cls (Rd.yA (Rd.zh ms Ref.bNo)) false]=0:=by
     have:=Rd.QV [Rd.zI Ref.zH (Rd.zh ms Ref.zw),Rd.zY (opN k) (Rd.zh ms Ref.zq),Rd.cls (Rd.yA (Rd.zh ms Ref.bNo)) false]
     omega
    have f:=XT f;obtain⟨key,d,n,j⟩:=fQ (f (Rd.zI Ref.zH (Rd.zh ms Ref.zw)) (by simp)).1;have m:=(f (Rd.zY (opN k) (Rd.zh ms Ref.zq)) (by simp)).1
    obtain⟨s,i,c⟩:∃s,Rd.zh ms Ref.bOp=some (.str s)/\x8 s=some k:=by
     match hgm:Rd.zh ms Ref.bOp with
     | none=>rw[hgm] at hop;cases hop
     | some (.word b)=>rw[hgm] at hop;cases hop
     | some (.list vs)=>rw[hgm] at hop;cases hop
     | some (.obj ms)=>rw[hgm] at hop;cases hop
     | some (.str s)=>rw[hgm] at hop;exact⟨s,rfl,hop⟩
    obtain⟨_,a,e⟩:=VN c;rw[j,a];rw[a] at m;simp only[Rd.ZI,i,d,Rd.opV,toS]
    by_cases ca:Ref.zX s=true
    ·obtain⟨t,o,p,q,r⟩:=Rd.UQ s ca;rw[if_pos ca];simp only[Rd.qx,o,p,q,r,Bool.false_eq_true,if_false]
    ·have ok:Ref.jO s=true:=by
      have g:Ref.zX s=false:=by simpa using ca
      rw[g,Bool.or_false] at e;exact e
     rw[if_neg ca,(Di s _ ok m).1]
theorem oo(x:Option Rd.V)(h:Rd.yl x≠1/\Rd.yl x≠2):Zh x=(Rd.qy x).cs.map toS:=by
 match x with
 | none=>rfl
 | some (.str s)=>exact absurd rfl h.1
 | some (.word b)=>exact absurd rfl h.1
 | some (.obj ms)=>exact absurd rfl h.1
 | some (.list vs)=>
  simp only[Zh,Rd.qy,Rd.yl] at h |-
  by_cases c:5<vs.length
  ·rw[if_pos c] at h;exact absurd rfl h.1
  ·rw[if_neg c] at h |-;rw[if_neg c]
   have a:Rd.zN (vs.map Rd.condC)=0:=by
    have:=Rd.QV (vs.map Rd.condC)
    omega
   have a:=XT a;simp only[List.map_map];exact List.map_congr_left λv d=>nW v (a _ (List.mem_map.2 ⟨v,d,rfl⟩))
def yP(r:Rd.qm):zz:=⟨r.eff,r.who,r.act,r.on,r.cs.map toS⟩
theorem IW{L:Nat}(v:Rd.V)(c:Rd.Good L v)(h:Rd.qB v≠1/\Rd.qB v≠2):qG v=yP (Rd.qR v):=by
 match v,c with
 | .str s,_=>exact absurd rfl h.1
 | .word b,_=>exact absurd rfl h.1
 | .list l,_=>exact absurd rfl h.1
 | .obj ms,c=>
  simp only[Rd.qB] at h;simp only[qG,Rd.qR,Rd.Xh]
  cases ho:Rd.zJ ms [Rd.zM,Rd.zU,Rd.bDo,Rd.bOn,Rd.bIf] with
  | false=>rw[ho] at h;exact absurd rfl h.1
  | true=>
   rw[ho] at h;simp only[if_true] at h |-
   have a:Rd.zN [Rd.zI Rd.xu (Rd.zh ms Rd.zM),Rd.chC (Rd.zh ms Rd.zU),Rd.chC (Rd.zh ms Rd.bDo),Rd.chC (Rd.zh ms Rd.bOn),Rd.yl (Rd.zh ms Rd.bIf)]=0:=by
    have:=Rd.QV [Rd.zI Rd.xu (Rd.zh ms Rd.zM),Rd.chC (Rd.zh ms Rd.zU),Rd.chC (Rd.zh ms Rd.bDo),Rd.chC (Rd.zh ms Rd.bOn),Rd.yl (Rd.zh ms Rd.bIf)]
    omega
   have a:=XT a;obtain⟨eff,e,f,d⟩:=fQ (a (Rd.zI Rd.xu (Rd.zh ms Rd.zM)) (by simp)).1;rw[d];have c1:=(JP _ (Rd.qV c Rd.zU) (a (Rd.chC (Rd.zh ms Rd.zU)) (by simp)).1).2;have c2:=(JP _ (Rd.qV c Rd.bDo) (a (Rd.chC (Rd.zh ms Rd.bDo)) (by simp)).1).2;have c3:=(JP _ (Rd.qV c Rd.bOn) (a (Rd.chC (Rd.zh ms Rd.bOn)) (by simp)).1).2;have c4:=oo _ (a (Rd.yl (Rd.zh ms Rd.bIf)) (by simp));rw[c1,c2,c3,c4];simp only[e,Rd.opV,yP,Rd.Q3]
def Zl(xs:List BY):BY:=⟨(Lib.join (xs.map (·.data.toList)) [44]).toArray⟩
theorem JI{a b:BY}(h:a.data.toList=b.data.toList):a=b:=ByteArray.ext (Array.toList_inj.1 h)
theorem Yx(a b:BY):(a++b).data.toList=a.data.toList++b.data.toList:=by simp[ByteArray.data_append]
theorem uX(a b c:BY):a++b++c=a++(b++c):=by apply JI;simp only[Yx,List.append_assoc]
theorem Bv(xs:List (List UInt8))(y s:List UInt8):Lib.join (xs++[y]) s=if xs=[] then y else Lib.join xs s++s++y:=by
 cases xs with
 | nil=>simp[Lib.join_one]
 | cons x r=>
  rw[if_neg (by simp),List.cons_append,Lib.join_cons,Lib.join_cons];simp[Lib.joinTail,List.append_assoc]
theorem VA(xs:List BY)(y:BY):Zl (xs++[y])=Ref.comma (Zl xs) xs.length++y:=by
 apply JI;rw[Yx];unfold Zl Ref.comma;simp only[List.map_append,List.map_cons,List.map_nil,Bv]
 cases xs with
 | nil=>simp[Lib.join_nil]
 | cons x r=>
  rw[if_neg (by simp),if_pos (by simp)];rw[Yx]
theorem Kw(a b:BY)(k:Nat):Ref.comma (a++b) k=a++Ref.comma b k:=by
 unfold Ref.comma
 split
 ·rw[uX]
 ·rfl
theorem written(a:Nat->BY)(o:BY)(b:Nat->BY)(c:a 0=o)(d:∀k,a (k+1)=Ref.comma (a k) k++b k):∀n,a n=o++Zl ((List.range n).map b)
 | 0=>by rw[c];apply JI;rw[Yx];simp[Zl,Lib.join_nil]
 | n+1=>by
  rw[d n,written a o b c d n,List.range_succ,List.map_append,List.map_cons,List.map_nil,VA,Kw,uX]
  simp
theorem VW{α β:Type}(f:α->β)(d:α):∀(l:List α),(List.range l.length).map (λk=>f (l.getD k d))=l.map f:=by
 intro l;apply List.ext_getElem
 ·simp
 ·intro i b a;simp only[List.length_map] at a;simp[List.getD_eq_getElem?_getD,List.getElem?_eq_getElem a]
def ky(l:List BY):BY:=⟨#[91]⟩++Zl l++⟨#[93]⟩
theorem bJ(l:List BY):Ref.QX l=ky (l.map Ref.x9):=by
 unfold Ref.QX ky;rw[written (Ref.Zn l) ⟨#[91]⟩ (λk=>Ref.x9 (l.getD k ⟨#[]⟩)) rfl (λk=>by rw[Ref.Zn];rfl) l.length,VW]
def ZG(c:Bool×List BY):BY:=if c.1 then ⟨#[123,34,110,111,116,34,58]⟩++ky (c.2.map Ref.x9)++⟨#[125]⟩ else ky (c.2.map Ref.x9)
theorem Kr(c:Bool×List BY):Ref.XG c=ZG c:=by unfold Ref.XG ZG;rw[bJ]
def QS(c:zQ):BY:=
 (if c.no then (if 0<c.vals.length then ⟨#[123,34,111,112,34,58]⟩++Ref.x9 c.op++⟨#[44,34,107,101,121,34,58]⟩++Ref.x9 c.key++(⟨#[44,34,118,97,108,117,101,34,58]⟩++ky (c.vals.map Ref.x9)) else ⟨#[123,34,111,112,34,58]⟩++Ref.x9 c.op++⟨#[44,34,107,101,121,34,58]⟩++Ref.x9 c.key)++⟨#[44,34,110,111,34,58,116,114,117,101]⟩
  else (if 0<c.vals.length then ⟨#[123,34,111,112,34,58]⟩++Ref.x9 c.op++⟨#[44,34,107,101,121,34,58]⟩++Ref.x9 c.key++(⟨#[44,34,118,97,108,117,101,34,58]⟩++ky (c.vals.map Ref.x9)) else ⟨#[123,34,111,112,34,58]⟩++Ref.x9 c.op++⟨#[44,34,107,101,121,34,58]⟩++Ref.x9 c.key))++⟨#[125]⟩
theorem nS(o:BY)(c:Ref.qH)(h:Ref.zX c.op=decide (c.vals.length=0)):Ref.J3 o c=o++QS (toS c):=by
 unfold Ref.J3 Ref.KD Ref.KH Ref.KA QS toS;rw[h];simp only
 by_cases hv:c.vals.length=0
 ·have b:¬0<c.vals.length:=by omega
  simp only[hv,decide_true,if_true,if_neg (Nat.lt_irrefl 0)]
  cases c.no
  ·simp only[Bool.false_eq_true,if_false,uX]
  ·simp only[if_true,uX]
 ·have a:0<c.vals.length:=by omega
  simp only[hv,a,decide_false,Bool.false_eq_true,if_false,if_true,bJ]
  cases c.no
  ·simp only[Bool.false_eq_true,if_false,uX]
  ·simp only[if_true,uX]
def KL(l:List zQ):BY:=ky (l.map QS)
theorem ou(l:List Ref.qH)(h:∀c ∈ l,Ref.zX c.op=decide (c.vals.length=0)):Ref.J4 l=Zl ((l.map toS).map QS):=by
 unfold Ref.J4
 have a:∀n,n<=l.length->Ref.YF l n=Zl ((List.range n).map λk=>QS (toS (l.getD k Ref.xZ))):=by
  intro n
  induction n with
  | zero=>intro _;rfl
  | succ n d=>
   intro e
   have b:Ref.zX (l.getD n Ref.xZ).op=decide ((l.getD n Ref.xZ).vals.length=0):=by
    rw[List.getD_eq_getElem?_getD,List.getElem?_eq_getElem (by omega)];exact h _ (List.getElem_mem (by omega))
   rw[Ref.YF,nS _ _ b,d (by omega),List.range_succ,List.map_append,List.map_cons,List.map_nil,VA]
   simp
 rw[a _ (Nat.le_refl _),VW (λc=>QS (toS c)),List.map_map]
 rfl
def Yg(s:zz):BY:=
 (if 0<s.ifs.length then ⟨#[123,34,101,102,102,101,99,116,34,58]⟩++Ref.x9 s.eff++(⟨#[44,34,119,104,111,34,58]⟩++ZG s.who)++(⟨#[44,34,100,111,34,58]⟩++ZG s.act)++(⟨#[44,34,111,110,34,58]⟩++ZG s.on)++(⟨#[44,34,105,102,34,58]⟩++KL s.ifs)
  else ⟨#[123,34,101,102,102,101,99,116,34,58]⟩++Ref.x9 s.eff++(⟨#[44,34,119,104,111,34,58]⟩++ZG s.who)++(⟨#[44,34,100,111,34,58]⟩++ZG s.act)++(⟨#[44,34,111,110,34,58]⟩++ZG s.on))++⟨#[125]⟩
def Xq(s:Rd.qm):Prop:=∀c ∈ s.cs,Ref.zX c.op=decide (c.vals.length=0)
theorem IR(o:BY)(s:Rd.qm)(h:Xq s):Ref.Uc o s=o++Yg (yP s):=by
 unfold Ref.Uc Ref.gQ Ref.gP Yg yP;simp only[List.length_map]
 by_cases hc:0<s.cs.length
 ·simp only[hc,if_true,Kr,ou s.cs h,KL,ky];have e:(⟨#[44,34,105,102,34,58,91]⟩:BY)=⟨#[44,34,105,102,34,58]⟩++⟨#[91]⟩:=rfl;rw[e];simp only[uX]
 ·simp only[hc,if_false,Kr,uX]
def YI(l:List zz):BY:=⟨#[123,34,115,116,97,116,101,109,101,110,116,34,58]⟩++ky (l.map Yg)++⟨#[125]⟩
theorem FE(l:List Rd.qm)(h:∀s ∈ l,Xq s):Ref.Qv l=YI (l.map yP):=by
 unfold Ref.Qv YI ky
 have b:∀n,n<=l.length->Ref.Ji l n=⟨#[123,34,115,116,97,116,101,109,101,110,116,34,58,91]⟩++Zl ((List.range n).map λk=>Yg (yP (l.getD k Rd.jo))):=by
  intro n
  induction n with
  | zero=>intro _;rfl
  | succ n d=>
   intro f
   have c:Xq (l.getD n Rd.jo):=by
    rw[List.getD_eq_getElem?_getD,List.getElem?_eq_getElem (by omega)];exact h _ (List.getElem_mem (by omega))
   rw[Ref.Ji,IR _ _ c,d (by omega),List.range_succ,List.map_append,List.map_cons,List.map_nil,VA,Kw,uX]
   simp
 rw[b _ (Nat.le_refl _),VW (λs=>Yg (yP s)),List.map_map];have e:(⟨#[123,34,115,116,97,116,101,109,101,110,116,34,58,91]⟩:BY)=⟨#[123,34,115,116,97,116,101,109,101,110,116,34,58]⟩++⟨#[91]⟩:=rfl;have a:(⟨#[93,125]⟩:BY)=⟨#[93]⟩++⟨#[125]⟩:=rfl;rw[e,a];simp only[uX]
 rfl
namespace Kp
open Rd Ref
theorem Y3(f:Option V->BY){l:List BY}(c:Int)(h:1<=l.length)(i:l.length<=10)(b:∀s ∈ l,f (some (.str s))=s):qc f (some (y5 l c))=l:=by
 unfold y5
 by_cases e:l.length=1/\bit c 32=true
 ·rw[if_pos e];obtain⟨a,rfl⟩:=List.length_eq_one_iff.1 e.1;show [f (some (.str a))]=[a];rw[b a (by simp)]
 ·rw[if_neg e];show (if (l.map V.str).length<1\/10<(l.map V.str).length then [] else (l.map V.str).map λv=>f (some v))=l
  rw[List.length_map,if_neg (by omega),List.map_map];refine (List.map_congr_left (g:=id) (λs d=>b s d)).trans (by simp)
theorem CU(l:List BY):y5 l 0 = .list (l.map .str):=by
 unfold y5
 rw[if_neg (by intro h;have:bit 0 32=false:=by decide
               rw[this] at h;simp at h)]
structure Yo (c:zQ):Prop where
 op:∃k,k<5/\c.op=opN k
 key:zH c.key=true
 some:0<c.vals.length->zY c.op (some (.list (c.vals.map .str)))=0/\qx c.op (some (.list (c.vals.map .str)))=c.vals
 none:c.vals.length=0->zY c.op none=0/\qx c.op none=[]
theorem EB:∀k,k<5->vT (some (.str (opN k)))=some k:=by decide +kernel
theorem dU{k:Nat}(h:k<5):vT (some (.str (opN k)))=some k:=EB k h
theorem KE{ms:List (BY×V)}{c:zQ}(b:Yo c)(x:Option V)(i:zY c.op x=0/\qx c.op x=c.vals)(d:zJ ms [bOp,zw,zq,bNo]=true)(e:zh ms bOp=some (.str c.op))(f:zh ms zw=some (.str c.key))(g:zh ms zq=x)(j:zh ms bNo=if c.no then some (.word true) else none):yj (.obj ms)=c/\condC (.obj ms)=0:=by
 obtain⟨k,h,a⟩:=b.op
 have m:qd zH (some (.str c.key))=c.key:=by
  show (if zH c.key then c.key else ⟨#[]⟩)=c.key
  rw[b.key];rfl
 have l:zI zH (some (.str c.key))=0:=Yd b.key
 have hb:vv (zh ms bNo)=c.no/\yA (zh ms bNo)=false:=by
  rw[j]
  cases c.no<;>exact⟨rfl,rfl⟩
 constructor
 ·unfold yj;simp only;rw[if_pos d,e,a,dU h];simp only;rw[f,g,m,hb.1,<- a,i.2]
 ·rw[YE,if_pos d,e,a,dU h];simp only;rw[f,g,hb.2,<- a,i.1,l]
  rfl
def Yp(c:Bool×List BY):Prop:=1<=c.2.length/\c.2.length<=10/\∀p ∈ c.2,qf p=true
structure Js (s:zz):Prop where
 eff:xu s.eff=true
 who:Yp s.who
 act:Yp s.act
 on:Yp s.on
 few:s.ifs.length<=5
 ifs:∀c ∈ s.ifs,Yo c
theorem gU{ms:List (BY×V)}{s:zz}(i:Js s)(w a o:V)(x:Option V)(k:chS (some w)=s.who/\chC (some w)=0)(h:chS (some a)=s.act/\chC (some a)=0)(j:chS (some o)=s.on/\chC (some o)=0)(l:Zh x=s.ifs/\yl x=0)
  (b:zJ ms [zM,zU,bDo,bOn,bIf]=true)(c:zh ms zM=some (.str s.eff))(d:zh ms zU=some w)(e:zh ms bDo=some a)(f:zh ms bOn=some o)(g:zh ms bIf=x):qG (.obj ms)=s/\qB (.obj ms)=0:=by
 have m:qd xu (some (.str s.eff))=s.eff:=by
  show (if xu s.eff then s.eff else ⟨#[]⟩)=s.eff
  rw[i.eff];rfl
 constructor
 ·unfold qG;simp only;rw[if_pos b,c,d,e,f,g,m,k.1,h.1,j.1,l.1]
 ·unfold qB;simp only;rw[if_pos b,c,d,e,f,g,Yd i.eff,k.2,h.2,j.2,l.2]
  rfl
theorem bN{l:List BY}(b:1<=l.length)(c:l.length<=10)(h:∀s ∈ l,qf s=true)(a:Int):zY Ka (some (y5 l a))=0/\qx Ka (some (y5 l a))=l:=by
 unfold zY qx;rw[if_pos (by kernel_rfl),if_pos (by kernel_rfl)];exact⟨Y1 a b c (λs d=>eH (h s d)),Y3 strOf a b c (λs _=>rfl)⟩
theorem V3{f:BY->Bool}{s:BY}(h:f s=true):qd f (some (.str s))=s:=by
 show (if f s then s else ⟨#[]⟩)=s
 rw[h];rfl
theorem bO{l:List BY}(c:1<=l.length)(d:l.length<=10)(h:∀s ∈ l,short s=true)(a:Int):zY Yw (some (y5 l a))=0/\qx Yw (some (y5 l a))=l:=by
 unfold zY qx;rw[show qp Yw=false by kernel_rfl,show qW Yw=true by kernel_rfl];exact⟨Y1 a c d (λs b=>Yd (h s b)),Y3 _ a c d (λs b=>V3 (h s b))⟩
theorem bM{l:List BY}(c:1<=l.length)(d:l.length<=10)(h:∀s ∈ l,qj s=true)(a:Int):zY XC (some (y5 l a))=0/\qx XC (some (y5 l a))=l:=by
 unfold zY qx;rw[show qp XC=false by kernel_rfl,show qW XC=false by kernel_rfl,show xX XC=true by kernel_rfl];exact⟨Y1 a c d (λs b=>Yd (h s b)),Y3 _ a c d (λs b=>V3 (h s b))⟩
theorem bP{l:List BY}(c:1<=l.length)(d:l.length<=10)(h:∀s ∈ l,filled s=true)(a:Int):zY QO (some (y5 l a))=0/\qx QO (some (y5 l a))=l:=by
 unfold zY qx;rw[show qp QO=false by kernel_rfl,show qW QO=false by kernel_rfl,show xX QO=false by kernel_rfl,show vR QO=true by kernel_rfl];exact⟨Y1 a c d (λs b=>Yd (h s b)),Y3 _ a c d (λs b=>V3 (h s b))⟩
theorem bL:zY U9 none=0/\qx U9 none=[]:=⟨by kernel_rfl,by kernel_rfl⟩
theorem tT{op key:BY}{l:List BY}{no:Bool}(c:∃k,k<5/\op=opN k)(b:zH key=true)(e:1<=l.length)(h:∀a,zY op (some (y5 l a))=0/\qx op (some (y5 l a))=l):Yo ⟨op,key,l,no⟩:=
 ⟨c,b,λ_=>by have:=h 0;rw[CU] at this;exact this,λd=>by simp only at d;omega⟩
end Kp
end Go.Proofs.YtdakgnaojakldaaGreatDoor
