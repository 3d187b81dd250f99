/- P -/
import Derived.Lib.Join
import Derived.Test.YtdakgnaojakldabGreatDoorT30
import Derived.Deep.AppendLies
set_option maxRecDepth 100000
namespace Go.Proofs.YtdakgnaojakldabGreatDoor
namespace Ref
def hexDigits:BA:=⟨#[48,49,50,51,52,53,54,55,56,57,97,98,99,100,101,102]⟩
def Ud(s o:BA)(i:Nat)(c:Int):BA:=
 if c=34\/c=92 then o++⟨#[92]⟩++s.extract i (i+1)
 else if c=10 then o++⟨#[92,110]⟩
 else if c=9 then o++⟨#[92,116]⟩
 else if c<32 then o++⟨#[92,117,48,48]⟩++hexDigits.extract (c / 16).toNat ((c / 16).toNat+1)++hexDigits.extract (c % 16).toNat ((c % 16).toNat+1)
 else o++s.extract i (i+1)
def XT(s:BA):Nat->BA
 | 0=>⟨#[34]⟩
 | k+1=>Ud s (XT s k) k ((s.data.toList.getD k 0).toNat:Int)
def yf(s:BA):BA:=XT s s.size++⟨#[34]⟩
theorem ext_size(t:BA)(i:Nat):(t.extract i (i+1)).size<=1:=by rw[ByteArray.size_extract];omega
theorem BG(s o:BA)(i:Nat)(c:Int):(Ud s o i c).size<=o.size+6:=by
 have a:=ext_size s i;have b:=ext_size hexDigits (c / 16).toNat;have d:=ext_size hexDigits (c % 16).toNat;have e:(⟨#[92]⟩:BA).size=1:=rfl;have f:(⟨#[92,110]⟩:BA).size=2:=rfl;have g:(⟨#[92,116]⟩:BA).size=2:=rfl;have h:(⟨#[92,117,48,48]⟩:BA).size=4:=rfl;unfold Ud
 split
 ·rw[ByteArray.size_append,ByteArray.size_append];omega
 split
 ·rw[ByteArray.size_append];omega
 split
 ·rw[ByteArray.size_append];omega
 split
 ·rw[ByteArray.size_append,ByteArray.size_append,ByteArray.size_append];omega
 ·rw[ByteArray.size_append];omega
theorem iX(s:BA):∀k,(XT s k).size<=1+6*k
 | 0=>by simp[XT,ByteArray.size]
 | k+1=>by rw[XT];have:=BG s (XT s k) k ((s.data.toList.getD k 0).toNat:Int);have:=iX s k;omega
def qY(l:List BA):Nat->BA
 | 0=>⟨#[91]⟩
 | k+1=>(if 0<k then qY l k++⟨#[44]⟩ else qY l k)++yf (l.getD k ⟨#[]⟩)
def xK(l:List BA):BA:=qY l l.length++⟨#[93]⟩
theorem LM(s:BA):(yf s).size<=2+6*s.size:=by
 have:=iX s s.size
 have z:(⟨#[34]⟩:BA).size=1:=rfl;rw[yf,ByteArray.size_append];omega
theorem XF(l:List BA)(h:∀s ∈ l,s.size<=12000):∀k,(qY l k).size<=1+80000*k
 | 0=>by simp[qY,ByteArray.size]
 | k+1=>by
  have a:=XF l h k;have b:=LM (l.getD k ⟨#[]⟩);have z:(⟨#[44]⟩:BA).size=1:=rfl
  have c:(l.getD k ⟨#[]⟩).size<=12000:=by
   rw[List.getD_eq_getElem?_getD]
   cases e:l[k]? with
   | none=>exact Nat.zero_le _
   | some s=>exact h s (List.mem_of_getElem? e)
  rw[qY,ByteArray.size_append]
  split
  ·rw[ByteArray.size_append];omega
  ·omega
theorem fI(l:List BA)(k:Nat)(h:k<l.length):qY l (k+1)=(if 0<k then qY l k++⟨#[44]⟩ else qY l k)++yf l[k]:=by
 rw[qY,List.getD_eq_getElem?_getD,List.getElem?_eq_getElem h];rfl
def VZ(c:Bool×List BA):BA:=if c.1 then ⟨#[123,34,110,111,116,34,58]⟩++xK c.2++⟨#[125]⟩ else xK c.2
def tK(o:BA)(c:yA):BA:=o++⟨#[123,34,111,112,34,58]⟩++yf c.op++⟨#[44,34,107,101,121,34,58]⟩++yf c.key
def ww(o:BA)(c:yA):BA:=if xI c.op then o else o++⟨#[44,34,118,97,108,117,101,34,58]⟩++xK c.vals
def tQ(o:BA)(c:yA):BA:=if c.no then o++⟨#[44,34,110,111,34,58,116,114,117,101]⟩ else o
def tT(o:BA)(c:yA):BA:=tQ (ww (tK o c) c) c++⟨#[125]⟩
def comma(o:BA)(k:Nat):BA:=if 0<k then o++⟨#[44]⟩ else o
def bJ(l:List yA):Nat->BA
 | 0=>⟨#[]⟩
 | k+1=>tT (comma (bJ l k) k) (l.getD k ji)
def wF(l:List yA):BA:=bJ l l.length
def OB(o:BA)(s:Rd.jd):BA:=o++⟨#[123,34,101,102,102,101,99,116,34,58]⟩++yf s.eff++⟨#[44,34,119,104,111,34,58]⟩++VZ s.who++⟨#[44,34,100,111,34,58]⟩++VZ s.act++⟨#[44,34,111,110,34,58]⟩++VZ s.on
def OC(o:BA)(s:Rd.jd):BA:=if 0<s.cs.length then o++⟨#[44,34,105,102,34,58,91]⟩++wF s.cs++⟨#[93]⟩ else o
def OD(o:BA)(s:Rd.jd):BA:=OC (OB o s) s++⟨#[125]⟩
def mH(l:List Rd.jd):Nat->BA
 | 0=>⟨#[123,34,115,116,97,116,101,109,101,110,116,34,58,91]⟩
 | k+1=>OD (comma (mH l k) k) (l.getD k Rd.ug)
def kR(l:List Rd.jd):BA:=mH l l.length++⟨#[93,125]⟩
def Y3(c:yA):Prop:=c.op.size<=12000/\c.key.size<=12000/\c.vals.length<=10/\∀s ∈ c.vals,s.size<=12000
def ZJ(l:List BA):Prop:=l.length<=10/\∀s ∈ l,s.size<=12000
structure Yc (s:Rd.jd):Prop where
 eff:s.eff.size<=12000
 who:ZJ s.who.2
 act:ZJ s.act.2
 on:ZJ s.on.2
 len:s.cs.length<=5
 cs:∀c ∈ s.cs,Y3 c
end Ref
end Go.Proofs.YtdakgnaojakldabGreatDoor
namespace Go.Proofs.YtdakgnaojakldabGreatDoor
open Go.RowKit
theorem Yz{l:List Nat}(h:Rd.zT l=0):∀c ∈ l,c≠1/\c≠2:=by
 unfold Rd.zT at h
 split at h
 ·simp at h
 rename_i b
 split at h
 ·simp at h
 rename_i d;intro c a;refine⟨λe=>b ?_,λe=>d ?_⟩
 ·rw[List.any_eq_true];exact⟨c,a,by simp[e]⟩
 ·rw[List.any_eq_true];exact⟨c,a,by simp[e]⟩
theorem lw{f:BA->Bool}{x:Option Rd.V}(h:Rd.zL f x≠1):∃s,x=some (.str s)/\f s=true/\Rd.ql f x=s:=by
 match x with
 | none=>exact absurd rfl h
 | some (.word b)=>exact absurd rfl h
 | some (.list vs)=>exact absurd rfl h
 | some (.obj ms)=>exact absurd rfl h
 | some (.str s)=>
  have a:f s=true:=by
   cases e:f s with
   | true=>rfl
   | false=>exact absurd (by simp[Rd.zL,e,Rd.cls]) h
  exact⟨s,rfl,a,by simp[Rd.ql,a]⟩
theorem VM{L:Nat}(x:Option Rd.V)(d:∀v,x=some v->Rd.Good L v)(h:Rd.chC x≠1):(Rd.yF x).2.isSome=true/\chS x=Rd.chD (Rd.yF x):=by
 have f:=Rd.Je x d
 have a:(Rd.yF x).2.isSome=true:=by
  cases e:(Rd.yF x).2.isSome with
  | true=>rfl
  | false=>rw[e] at f;exact absurd f h
 refine⟨a,?_⟩;unfold Rd.chD;have gen:∀y:Option Rd.V,(Rd.zz y).isSome=true->Rd.qj Rd.strOf y=(Rd.zz y).getD []:=λy g=>Rd.gW y g
 match x with
 | none=>exact absurd a (by simp[Rd.yF,Rd.zz])
 | some (.word b)=>exact absurd a (by simp[Rd.yF,Rd.zz])
 | some (.str s)=>rfl
 | some (.list vs)=>exact congrArg (Prod.mk false) (gen _ a)
 | some (.obj ms)=>
  simp only[chS,Rd.yF] at a |-
  by_cases c:Rd.zJ ms [Ref.zZ]=true/\ms.length=1
  ·rw[if_pos c] at a |-;rw[if_pos c.1]
   match ms,c with
   | [m],c=>
    have e:(m.1.toList==Ref.zZ.toList)=true:=by
     have:=c.1
     simp[Rd.zJ] at this;simp[this]
    have d:Rd.zf [m] Ref.zZ=some m.2:=by unfold Rd.zf;rw[List.find?_cons,e];rfl
    rw[d];exact congrArg (Prod.mk true) (gen _ a)
  ·rw[if_neg c] at a;simp at a
def toS(c:Ref.yA):zX:=⟨c.op,c.key,c.vals,c.no⟩
theorem Gp(op:BA)(x:Option Rd.V)(a:Ref.jK op=true)(h:Rd.zU op x≠1):Rd.qF op x=(Rd.zz x).getD []/\(Rd.zz x).isSome=true:=by
 have g:=Rd.fK op x a
 have c:(Rd.zz x).isSome=true:=by
  cases e:(Rd.zz x).isSome with
  | true=>rfl
  | false=>rw[e] at g;exact absurd g h
 refine⟨?_,c⟩
 have d:∀f:BA->Bool,Rd.qf (Rd.zL f) x≠1->Rd.qj (Rd.ql f) x=(Rd.zz x).getD []:=by
  intro f b;rw[Rd.JM] at b;refine Rd.Ig f x c ?_
  cases e:((Rd.zz x).getD []).all f with
  | true=>rfl
  | false=>rw[e] at b;simp[Rd.cls] at b
 unfold Rd.zU at h;unfold Rd.qF
 by_cases c1:Ref.qD op=true
 ·rw[if_pos c1];exact Rd.gW x c
 rw[if_neg c1] at h |-
 by_cases c2:Rd.xJ op=true
 ·rw[if_pos c2] at h |-;exact d _ h
 rw[if_neg c2] at h |-
 by_cases c3:Rd.yu op=true
 ·rw[if_pos c3] at h |-;exact d _ h
 rw[if_neg c3] at h |-
 by_cases c4:Rd.uf op=true
 ·rw[if_pos c4] at h |-;exact d _ h
 exfalso;unfold Ref.jK at a;unfold Ref.qD at c1;unfold Rd.xJ at c2;unfold Rd.yu at c3;unfold Rd.uf at c4;simp only[Bool.or_eq_true] at a
 rcases a with ((a|a)|a)|a
 ·exact c2 a
 ·exact c4 a
 ·exact c3 a
 ·exact c1 a
theorem wm(v:Rd.V)(h:Rd.condC v≠1/\Rd.condC v≠2):yG v=toS (Rd.qz v):=by
 match v with
 | .str s=>exact absurd rfl h.1
 | .word b=>exact absurd rfl h.1
 | .list l=>exact absurd rfl h.1
 | .obj ms=>
  rw[Jg] at h;simp only[yG,Rd.qz]
  cases ho:Rd.zJ ms [Ref.bOp,Ref.zt,Ref.zy,Ref.bNo] with
  | false=>rw[ho] at h;exact absurd rfl h.1
  | true=>
   rw[ho] at h;simp only[if_true] at h |-
   cases hop:uQ (Rd.zf ms Ref.bOp) with
   | none=>rw[hop] at h;exact absurd rfl h.1
   | some k=>
    rw[hop] at h;simp only at h |-
    have f:Rd.zT [Rd.zL Ref.zM (Rd.zf ms Ref.zt),Rd.zU (opN k) (Rd.zf ms Ref.zy),Rd.cls (Rd.yx (Rd.zf ms Ref.bNo)) false]=0:=by
     have:=Rd.XB [Rd.zL Ref.zM (Rd.zf ms Ref.zt),Rd.zU (opN k) (Rd.zf ms Ref.zy),Rd.cls (Rd.yx (Rd.zf ms Ref.bNo)) false]
     omega
    have f:=Yz f;obtain⟨key,d,n,j⟩:=lw (f (Rd.zL Ref.zM (Rd.zf ms Ref.zt)) (by simp)).1;have m:=(f (Rd.zU (opN k) (Rd.zf ms Ref.zy)) (by simp)).1
    obtain⟨s,i,c⟩:∃s,Rd.zf ms Ref.bOp=some (.str s)/\yz s=some k:=by
     match hgm:Rd.zf ms Ref.bOp with
     | none=>rw[hgm] at hop;cases hop
     | some (.word b)=>rw[hgm] at hop;cases hop
     | some (.list vs)=>rw[hgm] at hop;cases hop
     | some (.obj ms)=>rw[hgm] at hop;cases hop
     | some (.str s)=>rw[hgm] at hop;exact⟨s,rfl,hop⟩
    obtain⟨_,a,e⟩:=UT c;rw[j,a];rw[a] at m;simp only[Rd.Qm,i,d,Rd.opV,toS]
    by_cases ca:Ref.xI s=true
    ·obtain⟨t,o,p,q,r⟩:=Rd.K9 s ca;rw[if_pos ca];simp only[Rd.qF,o,p,q,r,Bool.false_eq_true,if_false]
    ·have ok:Ref.jK s=true:=by
      have g:Ref.xI s=false:=by simpa using ca
      rw[g,Bool.or_false] at e;exact e
     rw[if_neg ca,(Gp s _ ok m).1]
theorem wI(x:Option Rd.V)(h:Rd.ym x≠1/\Rd.ym x≠2):ZU x=(Rd.qG x).cs.map toS:=by
 match x with
 | none=>rfl
 | some (.str s)=>exact absurd rfl h.1
 | some (.word b)=>exact absurd rfl h.1
 | some (.obj ms)=>exact absurd rfl h.1
 | some (.list vs)=>
  simp only[ZU,Rd.qG,Rd.ym] at h |-
  by_cases c:5<vs.length
  ·rw[if_pos c] at h;exact absurd rfl h.1
  ·rw[if_neg c] at h |-;rw[if_neg c]
   have a:Rd.zT (vs.map Rd.condC)=0:=by
    have:=Rd.XB (vs.map Rd.condC)
    omega
   have a:=Yz a;simp only[List.map_map];exact List.map_congr_left λv d=>wm v (a _ (List.mem_map.2 ⟨v,d,rfl⟩))
def Zv(r:Rd.jd):zD:=⟨r.eff,r.who,r.act,r.on,r.cs.map toS⟩
theorem OI{L:Nat}(v:Rd.V)(c:Rd.Good L v)(h:Rd.qP v≠1/\Rd.qP v≠2):xm v=Zv (Rd.xq v):=by
 match v,c with
 | .str s,_=>exact absurd rfl h.1
 | .word b,_=>exact absurd rfl h.1
 | .list l,_=>exact absurd rfl h.1
 | .obj ms,c=>
  simp only[Rd.qP] at h;simp only[xm,Rd.xq,Rd.XX]
  cases ho:Rd.zJ ms [Rd.zQ,Rd.zS,Rd.bDo,Rd.bOn,Rd.bIf] with
  | false=>rw[ho] at h;exact absurd rfl h.1
  | true=>
   rw[ho] at h;simp only[if_true] at h |-
   have a:Rd.zT [Rd.zL Rd.xx (Rd.zf ms Rd.zQ),Rd.chC (Rd.zf ms Rd.zS),Rd.chC (Rd.zf ms Rd.bDo),Rd.chC (Rd.zf ms Rd.bOn),Rd.ym (Rd.zf ms Rd.bIf)]=0:=by
    have:=Rd.XB [Rd.zL Rd.xx (Rd.zf ms Rd.zQ),Rd.chC (Rd.zf ms Rd.zS),Rd.chC (Rd.zf ms Rd.bDo),Rd.chC (Rd.zf ms Rd.bOn),Rd.ym (Rd.zf ms Rd.bIf)]
    omega
   have a:=Yz a;obtain⟨eff,e,f,d⟩:=lw (a (Rd.zL Rd.xx (Rd.zf ms Rd.zQ)) (by simp)).1;rw[d];have c1:=(VM _ (Rd.xg c Rd.zS) (a (Rd.chC (Rd.zf ms Rd.zS)) (by simp)).1).2;have c2:=(VM _ (Rd.xg c Rd.bDo) (a (Rd.chC (Rd.zf ms Rd.bDo)) (by simp)).1).2;have c3:=(VM _ (Rd.xg c Rd.bOn) (a (Rd.chC (Rd.zf ms Rd.bOn)) (by simp)).1).2;have c4:=wI _ (a (Rd.ym (Rd.zf ms Rd.bIf)) (by simp));rw[c1,c2,c3,c4];simp only[e,Rd.opV,Zv,Rd.XI]
def ED(xs:List BA):BA:=⟨(Lib.join (xs.map (·.data.toList)) [44]).toArray⟩
def XE(l:List BA):BA:=⟨#[91]⟩++ED l++⟨#[93]⟩
def Xw(c:Bool×List BA):BA:=if c.1 then ⟨#[123,34,110,111,116,34,58]⟩++XE (c.2.map Ref.yf)++⟨#[125]⟩ else XE (c.2.map Ref.yf)
def tV(c:zX):BA:=
 (if c.no then (if 0<c.vals.length then ⟨#[123,34,111,112,34,58]⟩++Ref.yf c.op++⟨#[44,34,107,101,121,34,58]⟩++Ref.yf c.key++(⟨#[44,34,118,97,108,117,101,34,58]⟩++XE (c.vals.map Ref.yf)) else ⟨#[123,34,111,112,34,58]⟩++Ref.yf c.op++⟨#[44,34,107,101,121,34,58]⟩++Ref.yf c.key)++⟨#[44,34,110,111,34,58,116,114,117,101]⟩
  else (if 0<c.vals.length then ⟨#[123,34,111,112,34,58]⟩++Ref.yf c.op++⟨#[44,34,107,101,121,34,58]⟩++Ref.yf c.key++(⟨#[44,34,118,97,108,117,101,34,58]⟩++XE (c.vals.map Ref.yf)) else ⟨#[123,34,111,112,34,58]⟩++Ref.yf c.op++⟨#[44,34,107,101,121,34,58]⟩++Ref.yf c.key))++⟨#[125]⟩
def wH(l:List zX):BA:=XE (l.map tV)
def OE(s:zD):BA:=
 (if 0<s.ifs.length then ⟨#[123,34,101,102,102,101,99,116,34,58]⟩++Ref.yf s.eff++(⟨#[44,34,119,104,111,34,58]⟩++Xw s.who)++(⟨#[44,34,100,111,34,58]⟩++Xw s.act)++(⟨#[44,34,111,110,34,58]⟩++Xw s.on)++(⟨#[44,34,105,102,34,58]⟩++wH s.ifs)
  else ⟨#[123,34,101,102,102,101,99,116,34,58]⟩++Ref.yf s.eff++(⟨#[44,34,119,104,111,34,58]⟩++Xw s.who)++(⟨#[44,34,100,111,34,58]⟩++Xw s.act)++(⟨#[44,34,111,110,34,58]⟩++Xw s.on))++⟨#[125]⟩
def K4(s:Rd.jd):Prop:=∀c ∈ s.cs,Ref.xI c.op=decide (c.vals.length=0)
def Al(l:List zD):BA:=⟨#[123,34,115,116,97,116,101,109,101,110,116,34,58]⟩++XE (l.map OE)++⟨#[125]⟩
namespace Kp
open Rd Ref
theorem YG(f:Option V->BA){l:List BA}(c:Int)(h:1<=l.length)(i:l.length<=10)(b:∀s ∈ l,f (some (.str s))=s):qj f (some (zK l c))=l:=by
 unfold zK
 by_cases e:l.length=1/\bit c 32=true
 ·rw[if_pos e];obtain⟨a,rfl⟩:=List.length_eq_one_iff.1 e.1;show [f (some (.str a))]=[a];rw[b a (by simp)]
 ·rw[if_neg e];show (if (l.map V.str).length<1\/10<(l.map V.str).length then [] else (l.map V.str).map λv=>f (some v))=l
  rw[List.length_map,if_neg (by omega),List.map_map];refine (List.map_congr_left (g:=id) (λs d=>b s d)).trans (by simp)
theorem FZ(l:List BA):zK l 0 = .list (l.map .str):=by
 unfold zK
 rw[if_neg (by intro h;have:bit 0 32=false:=by decide
               rw[this] at h;simp at h)]
theorem sw{c:Bool×List BA}(a:Int)(f:1<=c.2.length)(g:c.2.length<=10):chS (some (if c.1 then .obj [(zZ,zK c.2 a)] else zK c.2 a))=c:=by
 obtain⟨nt,l⟩:=c;simp only at f g |-;have h:=YG strOf (l:=l) a f g (λs _=>rfl)
 cases nt with
 | true=>
  have i:zJ [(zZ,zK l a)] [zZ]=true:=by kernel_rfl
  have j:zf [(zZ,zK l a)] zZ=some (zK l a):=by kernel_rfl
  simp only[if_true,chS];rw[if_pos i,j,h]
 | false=>
  simp only[Bool.false_eq_true,if_false]
  have d:∀ms,zK l a ≠ .obj ms:=by
   intro ms;unfold zK
   split<;>(intro e;cases e)
  have k:chS (some (zK l a))=(false,qj strOf (some (zK l a))):=by
   cases hv:zK l a with
   | obj ms=>exact absurd hv (d ms)
   | str s=>rfl
   | word b=>rfl
   | list m=>rfl
  rw[k,h]
def Zj(r:zg):zX:=
 match zk r.iff 8 with
 | 1=>⟨jf,keyOf r,[],r.no⟩
 | 6=>⟨Xr,keyOf r,[patterns.getD (zk r.val 14) ⟨#[]⟩,⟨#[120]⟩],r.no⟩
 | 2=>⟨ZN,keyOf r,[words.getD (zk r.val 14) ⟨#[]⟩],r.no⟩
 | 3=>⟨uA,keyOf r,[nums.getD (zk r.val 4) ⟨#[]⟩],r.no⟩
 | 4=>⟨vC,keyOf r,[Za.getD (zk r.val 3) ⟨#[]⟩],r.no⟩
 | _=>kI
def uJ(r:zg):Bool:=decide ((qV r).size≠0)
def stK(r:zg):zD:=⟨ZW r,(decide (zk r.nt 16=2),qg r.who),(decide (zk r.nt 16=3),qg r.act),(decide (zk r.nt 16=1),qg r.on),if uJ r then [Zj r] else []⟩
def Kg(l:List zg):List zg:=if l.length=0 then [qI] else l.take 4
def Qn(l:List zg):List zD:=(Kg l).map stK
structure Y0 (c:zX):Prop where
 op:∃k,k<5/\c.op=opN k
 key:zM c.key=true
 some:0<c.vals.length->zU c.op (some (.list (c.vals.map .str)))=0/\qF c.op (some (.list (c.vals.map .str)))=c.vals
 none:c.vals.length=0->zU c.op none=0/\qF c.op none=[]
theorem Ir:∀k,k<5->uQ (some (.str (opN k)))=some k:=by decide +kernel
theorem ic{k:Nat}(h:k<5):uQ (some (.str (opN k)))=some k:=Ir k h
theorem bH{ms:List (BA×V)}{c:zX}(b:Y0 c)(x:Option V)(j:zU c.op x=0/\qF c.op x=c.vals)(d:zJ ms [bOp,zt,zy,bNo]=true)(e:zf ms bOp=some (.str c.op))(f:zf ms zt=some (.str c.key))(g:zf ms zy=x)(l:zf ms bNo=if c.no then some (.word true) else none):yG (.obj ms)=c/\condC (.obj ms)=0:=by
 obtain⟨k,i,a⟩:=b.op
 have n:ql zM (some (.str c.key))=c.key:=by
  show (if zM c.key then c.key else ⟨#[]⟩)=c.key
  rw[b.key];rfl
 have m:zL zM (some (.str c.key))=0:=kU b.key
 have h:uh (zf ms bNo)=c.no/\yx (zf ms bNo)=false:=by
  rw[l]
  cases c.no<;>exact⟨rfl,rfl⟩
 constructor
 ·unfold yG;simp only;rw[if_pos d,e,a,ic i];simp only;rw[f,g,n,h.1,<- a,j.2]
 ·rw[Jg,if_pos d,e,a,ic i];simp only;rw[f,g,h.2,<- a,j.1,m]
  rfl
def Y1(c:Bool×List BA):Prop:=1<=c.2.length/\c.2.length<=10/\∀p ∈ c.2,qX p=true
structure K5 (s:zD):Prop where
 eff:xx s.eff=true
 who:Y1 s.who
 act:Y1 s.act
 on:Y1 s.on
 few:s.ifs.length<=5
 ifs:∀c ∈ s.ifs,Y0 c
theorem mF{ms:List (BA×V)}{s:zD}(i:K5 s)(w a o:V)(x:Option V)(k:chS (some w)=s.who/\chC (some w)=0)(h:chS (some a)=s.act/\chC (some a)=0)(j:chS (some o)=s.on/\chC (some o)=0)(l:ZU x=s.ifs/\ym x=0)
  (b:zJ ms [zQ,zS,bDo,bOn,bIf]=true)(c:zf ms zQ=some (.str s.eff))(d:zf ms zS=some w)(e:zf ms bDo=some a)(f:zf ms bOn=some o)(g:zf ms bIf=x):xm (.obj ms)=s/\qP (.obj ms)=0:=by
 have m:ql xx (some (.str s.eff))=s.eff:=by
  show (if xx s.eff then s.eff else ⟨#[]⟩)=s.eff
  rw[i.eff];rfl
 constructor
 ·unfold xm;simp only;rw[if_pos b,c,d,e,f,g,m,k.1,h.1,j.1,l.1]
 ·unfold qP;simp only;rw[if_pos b,c,d,e,f,g,kU i.eff,k.2,h.2,j.2,l.2]
  rfl
theorem V3(nt:Bool)(raw:List Int):Y1 (nt,qg raw):=⟨(ZR raw).1,by have:=(ZR raw).2;simp only;omega,λp a=>JQ p (Yn a)⟩
theorem Gj{l:List BA}(b:1<=l.length)(c:l.length<=10)(h:∀s ∈ l,qX s=true)(a:Int):zU Xr (some (zK l a))=0/\qF Xr (some (zK l a))=l:=by
 unfold zU qF;rw[if_pos (by kernel_rfl),if_pos (by kernel_rfl)];exact⟨Z7 a b c (λs d=>JP (h s d)),YG strOf a b c (λs _=>rfl)⟩
theorem Kc{f:BA->Bool}{s:BA}(h:f s=true):ql f (some (.str s))=s:=by
 show (if f s then s else ⟨#[]⟩)=s
 rw[h];rfl
theorem Gm{l:List BA}(c:1<=l.length)(d:l.length<=10)(h:∀s ∈ l,short s=true)(a:Int):zU ZN (some (zK l a))=0/\qF ZN (some (zK l a))=l:=by
 unfold zU qF;rw[show qD ZN=false by kernel_rfl,show xJ ZN=true by kernel_rfl];exact⟨Z7 a c d (λs b=>kU (h s b)),YG _ a c d (λs b=>Kc (h s b))⟩
theorem Gi{l:List BA}(c:1<=l.length)(d:l.length<=10)(h:∀s ∈ l,qE s=true)(a:Int):zU uA (some (zK l a))=0/\qF uA (some (zK l a))=l:=by
 unfold zU qF;rw[show qD uA=false by kernel_rfl,show xJ uA=false by kernel_rfl,show yu uA=true by kernel_rfl];exact⟨Z7 a c d (λs b=>kU (h s b)),YG _ a c d (λs b=>Kc (h s b))⟩
theorem Gn{l:List BA}(c:1<=l.length)(d:l.length<=10)(h:∀s ∈ l,filled s=true)(a:Int):zU vC (some (zK l a))=0/\qF vC (some (zK l a))=l:=by
 unfold zU qF;rw[show qD vC=false by kernel_rfl,show xJ vC=false by kernel_rfl,show yu vC=false by kernel_rfl,show uf vC=true by kernel_rfl];exact⟨Z7 a c d (λs b=>kU (h s b)),YG _ a c d (λs b=>Kc (h s b))⟩
theorem fM:zU jf none=0/\qF jf none=[]:=⟨by kernel_rfl,by kernel_rfl⟩
theorem Co{op key:BA}{l:List BA}{no:Bool}(c:∃k,k<5/\op=opN k)(b:zM key=true)(e:1<=l.length)(h:∀a,zU op (some (zK l a))=0/\qF op (some (zK l a))=l):Y0 ⟨op,key,l,no⟩:=
 ⟨c,b,λ_=>by have:=h 0;rw[FZ] at this;exact this,λd=>by simp only at d;omega⟩
theorem bF(r:zg)(h:uJ r=true):jS r = .obj ([(zt,.str (keyOf r)),(bOp,.str jf)]++jk r)/\Zj r=⟨jf,keyOf r,[],r.no⟩
  \/ ∃op l,jS r=ZT r op l/\Zj r=⟨op,keyOf r,l,r.no⟩/\(∃k,k<5/\op=opN k)/\1<=l.length/\l.length<=2/\(∀s ∈ l,Pl s/\s.size<=8)/\∀b,zU op (some (zK l b))=0/\qF op (some (zK l b))=l:=by
 have h:=of_decide_eq_true h;unfold qV at h;unfold jS Zj
 revert h
 generalize zk r.iff 8=j;intro h
 split
 ·exact .inl ⟨rfl,rfl⟩
 ·refine .inr ⟨Xr,_,rfl,rfl,⟨0,by decide,rfl⟩,by simp,by simp,?_,Gj (by simp) (by simp) ?_⟩
  ·intro s a
   rcases List.mem_cons.1 a with rfl|a
   ·have:=jV (l:=patterns) (qO r.val 14 (by decide))
    exact⟨JR _ this,JS _ this⟩
   ·rw[List.mem_singleton] at a;subst a;exact⟨Qw _ rfl,by decide⟩
  ·intro s a
   rcases List.mem_cons.1 a with rfl|a
   ·exact JQ _ (jV (qO r.val 14 (by decide)))
   ·rw[List.mem_singleton] at a;subst a;kernel_rfl
 ·have:=jV (l:=words) (qO r.val 14 (by decide))
  exact .inr ⟨ZN,_,rfl,rfl,⟨1,by decide,rfl⟩,by simp,by simp,λs a=>by rw[List.mem_singleton] at a;subst a;exact⟨nL _ this,Vr _ this⟩,Gm (by simp) (by simp) (λs a=>by rw[List.mem_singleton] at a;subst a;exact Vq _ this)⟩
 ·have:=jV (l:=nums) (qO r.val 4 (by decide))
  exact .inr ⟨uA,_,rfl,rfl,⟨2,by decide,rfl⟩,by simp,by simp,λs a=>by rw[List.mem_singleton] at a;subst a;exact⟨gM _ this,UL _ this⟩,Gi (by simp) (by simp) (λs a=>by rw[List.mem_singleton] at a;subst a;exact gL _ this)⟩
 ·have:=jV (l:=Za) (qO r.val 3 (by decide))
  exact .inr ⟨vC,_,rfl,rfl,⟨3,by decide,rfl⟩,by simp,by simp,λs a=>by rw[List.mem_singleton] at a;subst a;exact⟨ny _ this,KR _ this⟩,Gn (by simp) (by simp) (λs a=>by rw[List.mem_singleton] at a;subst a;exact nu _ this)⟩
 ·rename_i c d e f g;exfalso;apply h
  split
  all_goals first|rfl|(exfalso;first|exact c rfl|exact d rfl|exact e rfl|exact f rfl|exact g rfl)
theorem eT(r:zg):zM (keyOf r)=true:=UA _ (JE r)
theorem bG(r:zg)(h:uJ r=true):Y0 (Zj r):=by
 rcases bF r h with ⟨_,e⟩|⟨op,l,_,e,ho,h0,_,_,hl⟩
 ·rw[e];exact⟨⟨4,by decide,rfl⟩,eT r,λh=>by simp at h,λ_=>fM⟩
 ·rw[e];exact Co ho (eT r) h0 hl
theorem wu(r:zg)(h:uJ r=true):yG (jS r)=Zj r/\condC (jS r)=0:=by
 have a:=bG r h
 rcases bF r h with ⟨e,e2⟩|⟨op,l,e,e2,_,h0,_,_,hl⟩
 ·rw[e2] at a |-;rw[e];unfold jk;refine bH a none fM ?_ ?_ ?_ ?_ ?_
  all_goals (cases r.no<;>kernel_rfl)
 ·rw[e2] at a |-;rw[e];unfold ZT jk;refine bH a (some (zK l r.style)) (hl _) ?_ ?_ ?_ ?_ ?_
  all_goals (cases r.no<;>kernel_rfl)
theorem AY(r:zg):xx (ZW r)=true:=by unfold ZW;cases r.deny<;>kernel_rfl
theorem Oa(r:zg):K5 (stK r):=by
 refine⟨AY r,V3 _ _,V3 _ _,V3 _ _,?_,?_⟩
 ·unfold stK;simp only;split<;>simp
 ·intro c a;unfold stK at a;simp only at a
  split at a
  ·rename_i h;rw[List.mem_singleton] at a;subst a;exact bG r h
  ·simp at a
theorem VU(raw:List Int)(nt:Bool)(a:Int):chS (some (yT raw nt a))=(nt,qg raw)/\chC (some (yT raw nt a))=0:=by
 refine⟨?_,Jd raw nt a⟩
 have:=sw (c:=(nt,qg raw)) a (ZR raw).1 (by have:=(ZR raw).2;simp only;omega)
 exact this
theorem mG(r:zg):xm (Zu r)=stK r:=by
 have d:=Oa r;have c1:=VU r.who (decide (zk r.nt 16=2)) r.style;have c2:=VU r.act (decide (zk r.nt 16=3)) r.style;have c3:=VU r.on (decide (zk r.nt 16=1)) r.style;unfold Zu Q4
 by_cases hz:(qV r).size=0
 ·rw[if_pos hz];have a:uJ r=false:=decide_eq_false (λh=>h hz);have b:(stK r).ifs=[]:=by unfold stK;simp only;rw[a];rfl
  exact (mF d _ _ _ none c1 c2 c3 ⟨by rw[b];rfl,rfl⟩ (by kernel_rfl) (by kernel_rfl) (by kernel_rfl) (by kernel_rfl) (by kernel_rfl) (by kernel_rfl)).1
 ·rw[if_neg hz];have a:uJ r=true:=decide_eq_true hz;have b:(stK r).ifs=[Zj r]:=by unfold stK;simp only;rw[a];rfl
  have c:=wu r a;refine (mF d _ _ _ (some (.list [jS r])) c1 c2 c3 ⟨?_,?_⟩ (by kernel_rfl) (by kernel_rfl) (by kernel_rfl) (by kernel_rfl) (by kernel_rfl) (by kernel_rfl)).1
  ·rw[b];show [yG (jS r)]=[Zj r];rw[c.1]
  ·show zT [condC (jS r)]=0;rw[c.2];rfl
theorem Vn(l:List zg):jP (xh l)=Qn l:=by
 unfold jP;have b:=iw l;have a:=U0 l;unfold bl at a;rw[if_neg (by omega),a];simp only
 have:stX (Xy l)=some (.list (um l)):=by unfold Xy stX;kernel_rfl
 rw[this];show (um l).map xm=Qn l;unfold um Qn Kg
 split
 ·simp only[List.map_cons,List.map_nil,mG]
 ·rw[List.map_map];exact List.map_congr_left λr _=>mG r
end Kp
theorem Gg(w:World)(cs:Array Value)(t:TypeId):∀(j:Nat) (u:Value),cs.toList[j]?=some u->(w.alloc (.cells cs t)).cell? ((⟨w.heap.size,0,none⟩:Addr).add j)=some u:=by
 intro j u a;have h:=(za (heap_alloc_new w (.cells cs t)) j).1;rw[addr_add];simp only[Nat.zero_add];rw[h]
 simpa using a
def nZ(c:zX):Prop:=c.op.size<=12000/\c.key.size<=12000/\Ref.ZJ c.vals
structure Vy (s:zD):Prop where
 eff:s.eff.size<=12000
 who:Ref.ZJ s.who.2
 act:Ref.ZJ s.act.2
 on:Ref.ZJ s.on.2
 len:s.ifs.length<=5
 cs:∀c ∈ s.ifs,nZ c
end Go.Proofs.YtdakgnaojakldabGreatDoor
