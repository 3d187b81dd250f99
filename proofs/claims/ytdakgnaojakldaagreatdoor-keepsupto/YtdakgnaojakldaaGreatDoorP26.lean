/- P -/
import Derived.Test.YtdakgnaojakldaaGreatDoorP25
import Derived.Lib.Join
set_option maxRecDepth 100000
namespace Go.Proofs.YtdakgnaojakldaaGreatDoor
open Go.RowKit
theorem ZX {l:List Nat} (h:Rd.Zc l=0):∀c ∈ l,c≠1∧c≠2:=by
 unfold Rd.Zc at h
 split at h
 ·simp at h
 rename_i h1
 split at h
 ·simp at h
 rename_i h2
 intro c hc
 refine ⟨fun e=>h1 ?_,fun e=>h2 ?_⟩
 ·rw [List.any_eq_true];exact ⟨c,hc,by simp [e]⟩
 ·rw [List.any_eq_true];exact ⟨c,hc,by simp [e]⟩
theorem Uw {f:ByteArray→Bool} {x:Option Rd.V} (h:Rd.zT f x≠1):∃s,x=some (.str s)∧f s=true∧Rd.qO f x=s:=by
 match x with
 | none=>exact absurd rfl h
 | some (.word b)=>exact absurd rfl h
 | some (.list vs)=>exact absurd rfl h
 | some (.obj ms)=>exact absurd rfl h
 | some (.str s)=>
  have hf:f s=true:=by
   cases e:f s with
   | true=>rfl
   | false=>exact absurd (by simp [Rd.zT,e,Rd.cls]) h
  exact ⟨s,rfl,hf,by simp [Rd.qO,hf]⟩
theorem zhk {L:Nat} (x:Option Rd.V) (hg:∀v,x=some v→Rd.Good L v) (h:Rd.chC x≠1):(Rd.xZ x).2.isSome=true∧chS x=Rd.chD (Rd.xZ x):=by
 have he:=Rd.zeL x hg
 have hs:(Rd.xZ x).2.isSome=true:=by
  cases e:(Rd.xZ x).2.isSome with
  | true=>rfl
  | false=>rw [e] at he;exact absurd he h
 refine ⟨hs,?_⟩
 unfold Rd.chD
 have gen:∀y:Option Rd.V,(Rd.zS y).isSome=true→Rd.ZE Rd.strOf y=(Rd.zS y).getD []:=fun y hy=>Rd.zdV y hy
 match x with
 | none=>exact absurd hs (by simp [Rd.xZ,Rd.zS])
 | some (.word b)=>exact absurd hs (by simp [Rd.xZ,Rd.zS])
 | some (.str s)=>rfl
 | some (.list vs)=>exact congrArg (Prod.mk false) (gen _ hs)
 | some (.obj ms)=>
  simp only [chS,Rd.xZ] at hs ⊢
  by_cases c:Rd.qX ms [Ref.ZF]=true∧ms.length=1
  ·rw [if_pos c] at hs ⊢
   rw [if_pos c.1]
   match ms,c with
   | [m],c=>
    have e:(m.1.toList==Ref.ZF.toList)=true:=by
     have:=c.1
     simp [Rd.qX] at this
     simp [this]
    have hg:Rd.zK [m] Ref.ZF=some m.2:=by unfold Rd.zK;rw [List.find?_cons,e];rfl
    rw [hg]
    exact congrArg (Prod.mk true) (gen _ hs)
  ·rw [if_neg c] at hs
   simp at hs
def toS (c:Ref.xg):jg:=⟨c.op,c.key,c.vals,c.no⟩
theorem zhO (op:ByteArray) (x:Option Rd.V) (hop:Ref.zec op=true) (h:Rd.jY op x≠1):Rd.ZB op x=(Rd.zS x).getD []∧(Rd.zS x).isSome=true:=by
 have he:=Rd.zeA op x hop
 have hs:(Rd.zS x).isSome=true:=by
  cases e:(Rd.zS x).isSome with
  | true=>rfl
  | false=>rw [e] at he;exact absurd he h
 refine ⟨?_,hs⟩
 have rt:∀f:ByteArray→Bool,Rd.Zu (Rd.zT f) x≠1→Rd.ZE (Rd.qO f) x=(Rd.zS x).getD []:=by
  intro f hf
  rw [Rd.Qm] at hf
  refine Rd.ze3 f x hs ?_
  cases e:((Rd.zS x).getD []).all f with
  | true=>rfl
  | false=>rw [e] at hf;simp [Rd.cls] at hf
 unfold Rd.jY at h
 unfold Rd.ZB
 by_cases c1:Ref.xR op=true
 ·rw [if_pos c1];exact Rd.zdV x hs
 rw [if_neg c1] at h ⊢
 by_cases c2:Rd.kJ op=true
 ·rw [if_pos c2] at h ⊢;exact rt _ h
 rw [if_neg c2] at h ⊢
 by_cases c3:Rd.jZ op=true
 ·rw [if_pos c3] at h ⊢;exact rt _ h
 rw [if_neg c3] at h ⊢
 by_cases c4:Rd.vT op=true
 ·rw [if_pos c4] at h ⊢;exact rt _ h
 exfalso
 unfold Ref.zec at hop
 unfold Ref.xR at c1
 unfold Rd.kJ at c2
 unfold Rd.jZ at c3
 unfold Rd.vT at c4
 simp only [Bool.or_eq_true] at hop
 rcases hop with ((hop|hop)|hop)|hop
 ·exact c2 hop
 ·exact c4 hop
 ·exact c3 hop
 ·exact c1 hop
theorem zjx (v:Rd.V) (h:Rd.condC v≠1∧Rd.condC v≠2):QK v=toS (Rd.yE v):=by
 match v with
 | .str s=>exact absurd rfl h.1
 | .word b=>exact absurd rfl h.1
 | .list l=>exact absurd rfl h.1
 | .obj ms=>
  rw [zak] at h
  simp only [QK,Rd.yE]
  cases ho:Rd.qX ms [Ref.bOp,Ref.x9,Ref.zt,Ref.bNo] with
  | false=>rw [ho] at h;exact absurd rfl h.1
  | true=>
   rw [ho] at h
   simp only [if_true] at h ⊢
   cases hop:ziZ (Rd.zK ms Ref.bOp) with
   | none=>rw [hop] at h;exact absurd rfl h.1
   | some k=>
    rw [hop] at h
    simp only at h ⊢
    have hz:Rd.Zc [Rd.zT Ref.zY (Rd.zK ms Ref.x9),Rd.jY (opN k) (Rd.zK ms Ref.zt),Rd.cls (Rd.jV (Rd.zK ms Ref.bNo)) false]=0:=by
     have:=Rd.Yj [Rd.zT Ref.zY (Rd.zK ms Ref.x9),Rd.jY (opN k) (Rd.zK ms Ref.zt),Rd.cls (Rd.jV (Rd.zK ms Ref.bNo)) false]
     omega
    have hz:=ZX hz
    obtain ⟨key,hkey,hkn,hks⟩:=Uw (hz (Rd.zT Ref.zY (Rd.zK ms Ref.x9)) (by simp)).1
    have hl:=(hz (Rd.jY (opN k) (Rd.zK ms Ref.zt)) (by simp)).1
    obtain ⟨s,hgs,hidx⟩:∃s,Rd.zK ms Ref.bOp=some (.str s)∧ZK s=some k:=by
     match hgm:Rd.zK ms Ref.bOp with
     | none=>rw [hgm] at hop;cases hop
     | some (.word b)=>rw [hgm] at hop;cases hop
     | some (.list vs)=>rw [hgm] at hop;cases hop
     | some (.obj ms)=>rw [hgm] at hop;cases hop
     | some (.str s)=>rw [hgm] at hop;exact ⟨s,rfl,hop⟩
    obtain ⟨_,hks2,hok⟩:=X8 hidx
    rw [hks,hks2]
    rw [hks2] at hl
    simp only [Rd.zaO,hgs,hkey,Rd.opV,toS]
    by_cases ca:Ref.zV s=true
    ·obtain ⟨n0,n1,n2,n3,n4⟩:=Rd.V6 s ca
     rw [if_pos ca]
     simp only [Rd.ZB,n1,n2,n3,n4,Bool.false_eq_true,if_false]
    ·have ok:Ref.zec s=true:=by
      have ca':Ref.zV s=false:=by simpa using ca
      rw [ca',Bool.or_false] at hok
      exact hok
     rw [if_neg ca,(zhO s _ ok hl).1]
theorem zg1 (x:Option Rd.V) (h:Rd.jD x≠1∧Rd.jD x≠2):YH x=(Rd.qZ x).cs.map toS:=by
 match x with
 | none=>rfl
 | some (.str s)=>exact absurd rfl h.1
 | some (.word b)=>exact absurd rfl h.1
 | some (.obj ms)=>exact absurd rfl h.1
 | some (.list vs)=>
  simp only [YH,Rd.qZ,Rd.jD] at h ⊢
  by_cases c:5<vs.length
  ·rw [if_pos c] at h;exact absurd rfl h.1
  ·rw [if_neg c] at h ⊢
   rw [if_neg c]
   have hz:Rd.Zc (vs.map Rd.condC)=0:=by
    have:=Rd.Yj (vs.map Rd.condC)
    omega
   have hz:=ZX hz
   simp only [List.map_map]
   exact List.map_congr_left fun v hv=>zjx v (hz _ (List.mem_map.2 ⟨v,hv,rfl⟩))
def zaq (r:Rd.qN):xH:=⟨r.eff,r.who,r.act,r.on,r.cs.map toS⟩
theorem zjl {L:Nat} (v:Rd.V) (hg:Rd.Good L v) (h:Rd.jX v≠1∧Rd.jX v≠2):uM v=zaq (Rd.jC v):=by
 match v,hg with
 | .str s,_=>exact absurd rfl h.1
 | .word b,_=>exact absurd rfl h.1
 | .list l,_=>exact absurd rfl h.1
 | .obj ms,hg=>
  simp only [Rd.jX] at h
  simp only [uM,Rd.jC,Rd.zaF]
  cases ho:Rd.qX ms [Rd.zk,Rd.jB,Rd.bDo,Rd.bOn,Rd.bIf] with
  | false=>rw [ho] at h;exact absurd rfl h.1
  | true=>
   rw [ho] at h
   simp only [if_true] at h ⊢
   have hz:Rd.Zc [Rd.zT Rd.zZ (Rd.zK ms Rd.zk),Rd.chC (Rd.zK ms Rd.jB),Rd.chC (Rd.zK ms Rd.bDo),Rd.chC (Rd.zK ms Rd.bOn),Rd.jD (Rd.zK ms Rd.bIf)]=0:=by
    have:=Rd.Yj [Rd.zT Rd.zZ (Rd.zK ms Rd.zk),Rd.chC (Rd.zK ms Rd.jB),Rd.chC (Rd.zK ms Rd.bDo),Rd.chC (Rd.zK ms Rd.bOn),Rd.jD (Rd.zK ms Rd.bIf)]
    omega
   have hz:=ZX hz
   obtain ⟨eff,he,hen,hes⟩:=Uw (hz (Rd.zT Rd.zZ (Rd.zK ms Rd.zk)) (by simp)).1
   rw [hes]
   have c1:=(zhk _ (Rd.qx hg Rd.jB) (hz (Rd.chC (Rd.zK ms Rd.jB)) (by simp)).1).2
   have c2:=(zhk _ (Rd.qx hg Rd.bDo) (hz (Rd.chC (Rd.zK ms Rd.bDo)) (by simp)).1).2
   have c3:=(zhk _ (Rd.qx hg Rd.bOn) (hz (Rd.chC (Rd.zK ms Rd.bOn)) (by simp)).1).2
   have c4:=zg1 _ (hz (Rd.jD (Rd.zK ms Rd.bIf)) (by simp))
   rw [c1,c2,c3,c4]
   simp only [he,Rd.opV,zaq,Rd.Xo]
def kH (xs:List ByteArray):ByteArray:=⟨(Lib.join (xs.map (·.data.toList)) [44]).toArray⟩
theorem zh2 {a b:ByteArray} (h:a.data.toList=b.data.toList):a=b:=ByteArray.ext (Array.toList_inj.1 h)
theorem zeP (a b:ByteArray):(a++b).data.toList=a.data.toList++b.data.toList:=by simp [ByteArray.data_append]
theorem jM (a b c:ByteArray):a++b++c=a++(b++c):=by apply zh2;simp only [zeP,List.append_assoc]
theorem zhd (xs:List (List UInt8)) (y s:List UInt8):Lib.join (xs++[y]) s=if xs=[] then y else Lib.join xs s++s++y:=by
 cases xs with
 | nil=>simp [Lib.join_one]
 | cons x r=>
  rw [if_neg (by simp),List.cons_append,Lib.join_cons,Lib.join_cons]
  simp [Lib.joinTail,List.append_assoc]
theorem Yi (xs:List ByteArray) (y:ByteArray):kH (xs++[y])=Ref.comma (kH xs) xs.length++y:=by
 apply zh2
 rw [zeP]
 unfold kH Ref.comma
 simp only [List.map_append,List.map_cons,List.map_nil,zhd]
 cases xs with
 | nil=>simp [Lib.join_nil]
 | cons x r=>
  rw [if_neg (by simp),if_pos (by simp)]
  rw [zeP]
theorem zbN (a b:ByteArray) (k:Nat):Ref.comma (a++b) k=a++Ref.comma b k:=by
 unfold Ref.comma
 split
 ·rw [jM]
 ·rfl
theorem written (To:Nat→ByteArray) (o:ByteArray) (it:Nat→ByteArray) (h0:To 0=o) (hs:∀k,To (k+1)=Ref.comma (To k) k++it k):∀n,To n=o++kH ((List.range n).map it)
 | 0=>by rw [h0];apply zh2;rw [zeP];simp [kH,Lib.join_nil]
 | n+1=>by
  rw [hs n,written To o it h0 hs n,List.range_succ,List.map_append,List.map_cons,List.map_nil,Yi,zbN,jM]
  simp
theorem uO {α β:Type} (f:α→β) (d:α):∀(l:List α),(List.range l.length).map (fun k=>f (l.getD k d))=l.map f:=by
 intro l
 apply List.ext_getElem
 ·simp
 ·intro i h1 h2
  simp only [List.length_map] at h2
  simp [List.getD_eq_getElem?_getD,List.getElem?_eq_getElem h2]
def Zk (l:List ByteArray):ByteArray:=⟨#[91]⟩++kH l++⟨#[93]⟩
theorem vX (l:List ByteArray):Ref.xe l=Zk (l.map Ref.zy):=by
 unfold Ref.xe Zk
 rw [written (Ref.qP l) ⟨#[91]⟩ (fun k=>Ref.zy (l.getD k ⟨#[]⟩)) rfl (fun k=>by rw [Ref.qP];rfl) l.length,uO]
def vV (c:Bool×List ByteArray):ByteArray:=if c.1 then ⟨#[123,34,110,111,116,34,58]⟩++Zk (c.2.map Ref.zy)++⟨#[125]⟩ else Zk (c.2.map Ref.zy)
theorem Zi (c:Bool×List ByteArray):Ref.yS c=vV c:=by unfold Ref.yS vV;rw [vX]
def Zz (c:jg):ByteArray:=
 (if c.no then (if 0<c.vals.length then ⟨#[123,34,111,112,34,58]⟩++Ref.zy c.op++⟨#[44,34,107,101,121,34,58]⟩++Ref.zy c.key++(⟨#[44,34,118,97,108,117,101,34,58]⟩++Zk (c.vals.map Ref.zy)) else ⟨#[123,34,111,112,34,58]⟩++Ref.zy c.op++⟨#[44,34,107,101,121,34,58]⟩++Ref.zy c.key)++⟨#[44,34,110,111,34,58,116,114,117,101]⟩
  else (if 0<c.vals.length then ⟨#[123,34,111,112,34,58]⟩++Ref.zy c.op++⟨#[44,34,107,101,121,34,58]⟩++Ref.zy c.key++(⟨#[44,34,118,97,108,117,101,34,58]⟩++Zk (c.vals.map Ref.zy)) else ⟨#[123,34,111,112,34,58]⟩++Ref.zy c.op++⟨#[44,34,107,101,121,34,58]⟩++Ref.zy c.key))++⟨#[125]⟩
theorem zdR (o:ByteArray) (c:Ref.xg) (h:Ref.zV c.op=decide (c.vals.length=0)):Ref.YL o c=o++Zz (toS c):=by
 unfold Ref.YL Ref.Ux Ref.uu Ref.jr Zz toS
 rw [h]
 simp only
 by_cases hv:c.vals.length=0
 ·have hn:¬0<c.vals.length:=by omega
  simp only [hv,decide_true,if_true,if_neg (Nat.lt_irrefl 0)]
  cases c.no
  ·simp only [Bool.false_eq_true,if_false,jM]
  ·simp only [if_true,jM]
 ·have hp:0<c.vals.length:=by omega
  simp only [hv,hp,decide_false,Bool.false_eq_true,if_false,if_true,vX]
  cases c.no
  ·simp only [Bool.false_eq_true,if_false,jM]
  ·simp only [if_true,jM]
def JF (l:List jg):ByteArray:=Zk (l.map Zz)
theorem zfb (l:List Ref.xg) (h:∀c ∈ l,Ref.zV c.op=decide (c.vals.length=0)):Ref.Qd l=kH ((l.map toS).map Zz):=by
 unfold Ref.Qd
 have hg:∀n,n≤l.length→Ref.vg l n=kH ((List.range n).map fun k=>Zz (toS (l.getD k Ref.xQ))):=by
  intro n
  induction n with
  | zero=>intro _;rfl
  | succ n ih=>
   intro hn
   have hm:Ref.zV (l.getD n Ref.xQ).op=decide ((l.getD n Ref.xQ).vals.length=0):=by
    rw [List.getD_eq_getElem?_getD,List.getElem?_eq_getElem (by omega)]
    exact h _ (List.getElem_mem (by omega))
   rw [Ref.vg,zdR _ _ hm,ih (by omega),List.range_succ,List.map_append,List.map_cons,List.map_nil,Yi]
   simp
 rw [hg _ (Nat.le_refl _),uO (fun c=>Zz (toS c)),List.map_map]
 rfl
def ku (s:xH):ByteArray:=
 (if 0<s.ifs.length then ⟨#[123,34,101,102,102,101,99,116,34,58]⟩++Ref.zy s.eff++(⟨#[44,34,119,104,111,34,58]⟩++vV s.who)++(⟨#[44,34,100,111,34,58]⟩++vV s.act)++(⟨#[44,34,111,110,34,58]⟩++vV s.on)++(⟨#[44,34,105,102,34,58]⟩++JF s.ifs)
  else ⟨#[123,34,101,102,102,101,99,116,34,58]⟩++Ref.zy s.eff++(⟨#[44,34,119,104,111,34,58]⟩++vV s.who)++(⟨#[44,34,100,111,34,58]⟩++vV s.act)++(⟨#[44,34,111,110,34,58]⟩++vV s.on))++⟨#[125]⟩
def zaR (s:Rd.qN):Prop:=∀c ∈ s.cs,Ref.zV c.op=decide (c.vals.length=0)
theorem zdL (o:ByteArray) (s:Rd.qN) (h:zaR s):Ref.YQ o s=o++ku (zaq s):=by
 unfold Ref.YQ Ref.V3 Ref.Ze ku zaq
 simp only [List.length_map]
 by_cases hc:0<s.cs.length
 ·simp only [hc,if_true,Zi,zfb s.cs h,JF,Zk]
  have e:(⟨#[44,34,105,102,34,58,91]⟩:ByteArray)=⟨#[44,34,105,102,34,58]⟩++⟨#[91]⟩:=rfl
  rw [e]
  simp only [jM]
 ·simp only [hc,if_false,Zi,jM]
def zjY (l:List xH):ByteArray:=⟨#[123,34,115,116,97,116,101,109,101,110,116,34,58]⟩++Zk (l.map ku)++⟨#[125]⟩
theorem zfa (l:List Rd.qN) (h:∀s ∈ l,zaR s):Ref.XG l=zjY (l.map zaq):=by
 unfold Ref.XG zjY Zk
 have hg:∀n,n≤l.length→Ref.jJ l n=⟨#[123,34,115,116,97,116,101,109,101,110,116,34,58,91]⟩++kH ((List.range n).map fun k=>ku (zaq (l.getD k Rd.yJ))):=by
  intro n
  induction n with
  | zero=>intro _;rfl
  | succ n ih=>
   intro hn
   have hm:zaR (l.getD n Rd.yJ):=by
    rw [List.getD_eq_getElem?_getD,List.getElem?_eq_getElem (by omega)]
    exact h _ (List.getElem_mem (by omega))
   rw [Ref.jJ,zdL _ _ hm,ih (by omega),List.range_succ,List.map_append,List.map_cons,List.map_nil,Yi,zbN,jM]
   simp
 rw [hg _ (Nat.le_refl _),uO (fun s=>ku (zaq s)),List.map_map]
 have e:(⟨#[123,34,115,116,97,116,101,109,101,110,116,34,58,91]⟩:ByteArray)=⟨#[123,34,115,116,97,116,101,109,101,110,116,34,58]⟩++⟨#[91]⟩:=rfl
 have e2:(⟨#[93,125]⟩:ByteArray)=⟨#[93]⟩++⟨#[125]⟩:=rfl
 rw [e,e2]
 simp only [jM]
 rfl
end Go.Proofs.YtdakgnaojakldaaGreatDoor
