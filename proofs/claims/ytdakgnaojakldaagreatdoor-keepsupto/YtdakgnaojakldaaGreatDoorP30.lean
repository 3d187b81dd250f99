/- P -/
import Derived.Test.YtdakgnaojakldaaGreatDoorP29
import Derived.Shelf.Small.Strs
import Derived.Shelf.Spec.SlicesGrow
import Derived.Shelf.Pu.Clone
set_option maxRecDepth 100000
set_option maxHeartbeats 1000000
namespace Go.Proofs.YtdakgnaojakldaaGreatDoor
open Go.RowKit
theorem Jj {L:Nat}:∀(vs:List Rd.V) (l:List ByteArray),(∀v ∈ vs,Rd.Good L v)→Rd.Zf vs=some l→l.length=vs.length∧∀s ∈ l,s.size≤L
 | [],l,_,h=>by simp only [Rd.Zf,Option.some.injEq] at h;subst h;simp
 | v::vs,l,hg,h=>by
  cases v with
  | str s=>
   simp only [Rd.Zf] at h
   cases hr:Rd.Zf vs with
   | none=>rw [hr] at h;simp at h
   | some r=>
    rw [hr] at h
    simp only [Option.map_some,Option.some.injEq] at h
    subst h
    obtain ⟨h1,h2⟩:=Jj vs r (fun v hv=>hg v (by simp [hv])) hr
    refine ⟨by simp [h1],fun t ht=>?_⟩
    rcases List.mem_cons.1 ht with rfl|ht
    ·have:=hg (.str t) (by simp)
     cases this with
     | str _ h=>exact h
    ·exact h2 t ht
  | word b=>simp [Rd.Zf] at h
  | list l=>simp [Rd.Zf] at h
  | obj l=>simp [Rd.Zf] at h
theorem yO {L:Nat} (hL:L≤12000) (x:Option Rd.V) (hg:∀v,x=some v→Rd.Good L v):Ref.ut ((Rd.zS x).getD [])∧((Rd.zS x).isSome=true→0<((Rd.zS x).getD []).length):=by
 match x with
 | none=>exact ⟨⟨by simp [Rd.zS],by simp [Rd.zS]⟩,fun h=>by simp [Rd.zS] at h⟩
 | some (.word b)=>exact ⟨⟨by simp [Rd.zS],by simp [Rd.zS]⟩,fun h=>by simp [Rd.zS] at h⟩
 | some (.obj ms)=>exact ⟨⟨by simp [Rd.zS],by simp [Rd.zS]⟩,fun h=>by simp [Rd.zS] at h⟩
 | some (.str s)=>
  have:=hg _ rfl
  cases this with
  | str _ h=>exact ⟨⟨by simp [Rd.zS],by simp [Rd.zS];omega⟩,fun _=>by simp [Rd.zS]⟩
 | some (.list vs)=>
  have:=hg _ rfl
  cases this with
  | list _ h1 h2=>
   simp only [Rd.zS]
   by_cases c:vs.length<1∨10<vs.length
   ·rw [if_pos c];exact ⟨⟨by simp,by simp⟩,fun h=>by simp at h⟩
   ·rw [if_neg c]
    cases hs:Rd.Zf vs with
    | none=>exact ⟨⟨by simp,by simp⟩,fun h=>by simp at h⟩
    | some l=>
     obtain ⟨a,b⟩:=Jj vs l h2 hs
     simp only [Option.getD_some]
     exact ⟨⟨by omega,fun s hs=>by have:=b s hs;omega⟩,fun _=>by omega⟩
theorem ZG {L:Nat} (hL:L≤12000) (x:Option Rd.V) (hg:∀v,x=some v→Rd.Good L v):Ref.ut (Rd.chD (Rd.xZ x)).2:=by
 unfold Rd.chD
 match x with
 | none=>exact (yO hL none (fun v h=>by cases h)).1
 | some (.word b)=>exact (yO hL _ hg).1
 | some (.str s)=>exact (yO hL _ hg).1
 | some (.list vs)=>exact (yO hL _ hg).1
 | some (.obj ms)=>
  simp only [Rd.xZ]
  by_cases c:Rd.qX ms [Ref.ZF]=true∧ms.length=1
  ·rw [if_pos c]
   refine (yO hL _ (fun v hv=>?_)).1
   have:=hg _ rfl
   cases this with
   | obj _ h1 h2 h3 h4=>
    have hm:=List.mem_of_getElem? hv
    rw [List.mem_map] at hm
    obtain ⟨m,hm,rfl⟩:=hm
    exact h4 m hm
  ·rw [if_neg c];exact ⟨by simp,by simp⟩
theorem JG {L:Nat} {x:Option Rd.V} (hg:∀v,x=some v→Rd.Good L v) {s:ByteArray} (h:Rd.opV x=some s):s.size≤L:=by
 unfold Rd.opV at h
 split at h
 ·injection h with h
  subst h
  have:=hg _ rfl
  cases this with
  | str _ h=>exact h
 ·cases h
theorem zfu {L:Nat} (hL:L≤12000) (v:Rd.V) (hg:Rd.Good L v):Ref.YK (Rd.yE v):=by
 have hno:Ref.YK Ref.xQ:=⟨Nat.zero_le _,Nat.zero_le _,Nat.zero_le _,fun s hs=>by simp [Ref.xQ] at hs⟩
 match v,hg with
 | .str s,_=>exact hno
 | .word b,_=>exact hno
 | .list l,_=>exact hno
 | .obj ms,hg=>
  simp only [Rd.yE,Rd.zaO]
  split
  ·rename_i op key h1 h2
   have s1:=JG (Rd.qx hg Ref.bOp) h1
   have s2:=JG (Rd.qx hg Ref.x9) h2
   split
   ·exact ⟨by simp only;omega,by simp only;omega,Nat.zero_le _,fun s hs=>by simp at hs⟩
   ·obtain ⟨h,_⟩:=yO hL _ (Rd.qx hg Ref.zt)
    exact ⟨by simp only;omega,by simp only;omega,h.1,h.2⟩
  ·exact hno
theorem zfY {L:Nat} (hL:L≤12000) (v:Rd.V) (hg:Rd.Good L v):Ref.uS (Rd.jC v):=by
 have hno:Ref.uS Rd.yJ:=⟨Nat.zero_le _,⟨Nat.zero_le _,fun s hs=>by simp [Rd.yJ] at hs⟩,⟨Nat.zero_le _,fun s hs=>by simp [Rd.yJ] at hs⟩,⟨Nat.zero_le _,fun s hs=>by simp [Rd.yJ] at hs⟩,Nat.zero_le _,fun c hc=>by simp [Rd.yJ] at hc⟩
 match v,hg with
 | .str s,_=>exact hno
 | .word b,_=>exact hno
 | .list l,_=>exact hno
 | .obj ms,hg=>
  simp only [Rd.jC,Rd.zaF]
  split
  ·rename_i eff h1 h2
   have s1:=JG (Rd.qx hg Rd.zk) h2
   have hc:(Rd.qZ (Rd.zK ms Rd.bIf)).cs.length≤5∧∀c ∈ (Rd.qZ (Rd.zK ms Rd.bIf)).cs,Ref.YK c:=by
    have hgi:=Rd.qx hg Rd.bIf
    match hx:Rd.zK ms Rd.bIf with
    | none=>exact ⟨Nat.zero_le _,fun c hc=>by simp [Rd.qZ] at hc⟩
    | some (.str s)=>exact ⟨Nat.zero_le _,fun c hc=>by simp [Rd.qZ] at hc⟩
    | some (.word b)=>exact ⟨Nat.zero_le _,fun c hc=>by simp [Rd.qZ] at hc⟩
    | some (.obj ms)=>exact ⟨Nat.zero_le _,fun c hc=>by simp [Rd.qZ] at hc⟩
    | some (.list vs)=>
     have:=hgi _ hx
     cases this with
     | list _ g1 g2=>
      simp only [Rd.qZ]
      split
      ·exact ⟨Nat.zero_le _,fun c hc=>by simp at hc⟩
      ·refine ⟨by simp;omega,fun c hc=>?_⟩
       simp only [List.mem_map] at hc
       obtain ⟨x,hx,rfl⟩:=hc
       exact zfu hL x (g2 x hx)
   exact ⟨by simp only [Rd.Xo];omega,ZG hL _ (Rd.qx hg Rd.jB),ZG hL _ (Rd.qx hg Rd.bDo),ZG hL _ (Rd.qx hg Rd.bOn),hc.1,hc.2⟩
  ·exact hno
theorem zcR (v:Rd.V) (h:Rd.condC v≠1) {L:Nat} (hL:L≤12000) (hg:Rd.Good L v):Ref.zV (Rd.yE v).op=decide ((Rd.yE v).vals.length=0):=by
 have he:=Rd.zeB v
 have hsh:(Rd.yE v).sh=false:=by
  cases e:(Rd.yE v).sh with
  | false=>rfl
  | true=>rw [e] at he;exact absurd he h
 match v,hg with
 | .str s,_=>exact absurd hsh (by simp [Rd.yE,Ref.xQ])
 | .word b,_=>exact absurd hsh (by simp [Rd.yE,Ref.xQ])
 | .list l,_=>exact absurd hsh (by simp [Rd.yE,Ref.xQ])
 | .obj ms,hg=>
  obtain ⟨R,hR⟩:∃R,Rd.yE (.obj ms)=R:=⟨_,rfl⟩
  rw [hR] at hsh ⊢
  simp only [Rd.yE,Rd.zaO] at hR
  cases h1:Rd.opV (Rd.zK ms Ref.bOp) with
  | none=>rw [h1] at hR;subst hR;simp [Ref.xQ] at hsh
  | some op=>
   rw [h1] at hR
   cases h2:Rd.opV (Rd.zK ms Ref.x9) with
   | none=>rw [h2] at hR;subst hR;simp [Ref.xQ] at hsh
   | some key=>
    rw [h2] at hR
    simp only at hR
    by_cases ca:Ref.zV op=true
    ·rw [if_pos ca] at hR;subst hR;simp [ca]
    ·rw [if_neg ca] at hR
     subst hR
     simp only [Bool.or_eq_false_iff,Bool.not_eq_false'] at hsh
     have:=(yO hL _ (Rd.qx hg Ref.zt)).2 hsh.1.1.2.1
     have ca':Ref.zV op=false:=by simpa using ca
     simp only [ca']
     symm
     simp only [decide_eq_false_iff_not]
     omega
theorem zcc (v:Rd.V) (h:Rd.jX v≠1∧Rd.jX v≠2) {L:Nat} (hL:L≤12000) (hg:Rd.Good L v):zaR (Rd.jC v):=by
 match v,hg with
 | .str s,_=>exact absurd rfl h.1
 | .word b,_=>exact absurd rfl h.1
 | .list l,_=>exact absurd rfl h.1
 | .obj ms,hg=>
  simp only [Rd.jX] at h
  simp only [Rd.jC,Rd.zaF]
  split
  ·rename_i eff h1 h2
   rw [h1] at h
   simp only [if_true] at h
   have hz:Rd.Zc [Rd.zT Rd.zZ (Rd.zK ms Rd.zk),Rd.chC (Rd.zK ms Rd.jB),Rd.chC (Rd.zK ms Rd.bDo),Rd.chC (Rd.zK ms Rd.bOn),Rd.jD (Rd.zK ms Rd.bIf)]=0:=by
    have:=Rd.Yj [Rd.zT Rd.zZ (Rd.zK ms Rd.zk),Rd.chC (Rd.zK ms Rd.jB),Rd.chC (Rd.zK ms Rd.bDo),Rd.chC (Rd.zK ms Rd.bOn),Rd.jD (Rd.zK ms Rd.bIf)]
    omega
   have hc:=(ZX hz) (Rd.jD (Rd.zK ms Rd.bIf)) (by simp)
   have hgi:=Rd.qx hg Rd.bIf
   intro c hm
   simp only [Rd.Xo] at hm
   match hx:Rd.zK ms Rd.bIf with
   | none=>rw [hx] at hm;simp [Rd.qZ] at hm
   | some (.str s)=>rw [hx] at hm;simp [Rd.qZ] at hm
   | some (.word b)=>rw [hx] at hm;simp [Rd.qZ] at hm
   | some (.obj ms)=>rw [hx] at hm;simp [Rd.qZ] at hm
   | some (.list vs)=>
    rw [hx] at hm hc
    have:=hgi _ hx
    cases this with
    | list _ g1 g2=>
     simp only [Rd.qZ,Rd.jD] at hm hc
     by_cases c5:5<vs.length
     ·rw [if_pos c5] at hm;simp at hm
     ·rw [if_neg c5] at hm hc
      have hz2:Rd.Zc (vs.map Rd.condC)=0:=by
       have:=Rd.Yj (vs.map Rd.condC)
       omega
      simp only [List.mem_map] at hm
      obtain ⟨x,hxm,rfl⟩:=hm
      exact zcR x ((ZX hz2) _ (List.mem_map.2 ⟨x,hxm,rfl⟩)).1 hL (g2 x hxm)
  ·intro c hm
   simp [Rd.yJ] at hm
def yV (s:ByteArray):List Rd.qN:=if 4000<s.size then [] else match Rd.vK s.data.toList with
 | .ok v _=>(uG (stX v)).map Rd.jC
 | .err _ _=>[]
theorem QT:∀(rs:List Rd.qN) (i:Nat),(Rd.yz rs i).1=0→∀r ∈ rs,r.sh=false∧r.pt=false
 | [],_,_,r,hr=>by simp at hr
 | x::xs,i,h,r,hr=>by
  unfold Rd.yz at h
  split at h
  ·simp at h
  rename_i h1
  split at h
  ·simp at h
  rename_i h2
  rcases List.mem_cons.1 hr with rfl|hr
  ·exact ⟨by simpa using h1,by simpa using h2⟩
  ·exact QT xs (i+1) h r hr
theorem Uu (s:ByteArray) (h:(Rd.qU s).1=0):(∀r ∈ yV s,zaR r∧Ref.uS r)∧(yV s).length≤10∧(if 4000<s.size then [] else match Rd.vK s.data.toList with
 | .ok v _=>(uG (stX v)).map uM
 | .err _ _=>[])=(yV s).map zaq:=by
 unfold Rd.qU at h
 unfold yV
 by_cases h1:4000<s.size
 ·rw [if_pos h1] at h;simp at h
 rw [if_neg h1] at h
 rw [if_neg h1,if_neg h1]
 cases hm:Rd.vK s.data.toList with
 | err e q=>
  rw [hm] at h
  have:=Rd.Xq hm
  unfold Rd.Code at this
  simp only at h
  omega
 | ok v q=>
  rw [hm] at h
  simp only at h ⊢
  have hg:=Rd.XB hm
  have hL:s.data.toList.length≤12000:=by rw [Ref.zg];omega
  match v,hg with
  | .str t,_=>simp [Rd.zan] at h
  | .word b,_=>simp [Rd.zan] at h
  | .list l,_=>simp [Rd.zan] at h
  | .obj ms,hg=>
   simp only [Rd.zan] at h
   match hx:Rd.zK ms Rd.zN with
   | none=>rw [hx] at h;simp at h
   | some (.str t)=>rw [hx] at h;simp at h
   | some (.word b)=>rw [hx] at h;simp at h
   | some (.obj ms)=>rw [hx] at h;simp at h
   | some (.list vs)=>
    rw [hx] at h
    simp only at h
    have hv:uG (stX (.obj ms))=vs:=by simp [uG,stX,hx]
    rw [hv]
    by_cases c:ms.length≠1∨vs.length<1∨10<vs.length
    ·rw [if_pos c] at h;simp at h
    rw [if_neg c] at h
    have hgl:=Rd.qx hg Rd.zN _ hx
    have hgs:∀v ∈ vs,Rd.Good s.data.toList.length v:=by
     cases hgl with
     | list _ g1 g2=>exact g2
    have hcl:∀v ∈ vs,Rd.jX v≠1∧Rd.jX v≠2:=by
     intro v hv
     obtain ⟨a,b⟩:=QT _ _ h (Rd.jC v) (List.mem_map.2 ⟨v,hv,rfl⟩)
     rw [Rd.zeM v (hgs v hv),a,b]
     decide
    refine ⟨fun r hr=>?_,by rw [List.length_map];omega,?_⟩
    ·rw [List.mem_map] at hr
     obtain ⟨v,hv,rfl⟩:=hr
     exact ⟨zcc v (hcl v hv) hL (hgs v hv),zfY hL v (hgs v hv)⟩
    ·rw [List.map_map]
     exact List.map_congr_left fun v hv=>zjl v (hgs v hv) (hcl v hv)
theorem Uy {s:xH} (h:QS s):(ku s).size≤11000000:=by
 have q:=Ref.zW s.eff
 have e:=h.eff
 have c1:=Ref.qC h.who
 have c2:=Ref.qC h.act
 have c3:=Ref.qC h.on
 have c4:=JI h.len h.cs
 rw [Zi] at c1 c2 c3
 have z1:(⟨#[123,34,101,102,102,101,99,116,34,58]⟩:ByteArray).size=10:=rfl
 have z2:(⟨#[44,34,119,104,111,34,58]⟩:ByteArray).size=7:=rfl
 have z3:(⟨#[44,34,100,111,34,58]⟩:ByteArray).size=6:=rfl
 have z4:(⟨#[44,34,111,110,34,58]⟩:ByteArray).size=6:=rfl
 have z5:(⟨#[44,34,105,102,34,58]⟩:ByteArray).size=6:=rfl
 have z6:(⟨#[125]⟩:ByteArray).size=1:=rfl
 have hb:(⟨#[123,34,101,102,102,101,99,116,34,58]⟩++Ref.zy s.eff++(⟨#[44,34,119,104,111,34,58]⟩++vV s.who)++(⟨#[44,34,100,111,34,58]⟩++vV s.act)++(⟨#[44,34,111,110,34,58]⟩++vV s.on)).size≤3000000:=by
  simp only [ByteArray.size_append];omega
 unfold ku
 rw [ByteArray.size_append]
 split
 ·rw [ByteArray.size_append,ByteArray.size_append (a:=⟨#[44,34,105,102,34,58]⟩)];omega
 ·omega
theorem zlS:∀args w,(callFunc 63 args).run Tryz.prog w = .ok (.enter 63 args) w:=enters_of Tryz.func63 (by kernel_rfl) rfl
theorem zf6 (ss:List xH) (lv:Value) (base:Nat) (w:World) (h:xJ w base lv ss) (hn:ss.length≤10) (hS:∀s ∈ ss,QS s) :
  Calls Tryz.prog 62 #[lv, .func (.func 63) #[] #[]] w fun e w'=>e = .returned (.string (Zk (ss.map ku)))∧Below w.heap.size w w':=by
 have c1:=zjJ ss lv base 63 ku w h (by omega) zlS (fun W s l1 l2 l3 lc hs _ o1 o2 o3 o4=>zdy s l1 l2 l3 lc base W o1 o2 o3 o4 (hS s hs))
 have hq:∀x ∈ ss.map ku,x.size≤11000000:=by
  intro x hx
  rw [List.mem_map] at hx
  obtain ⟨s,hs,rfl⟩:=hx
  exact Uy (hS s hs)
 have hz:=Qp _ _ hq
 rw [List.length_map] at hz
 have hz2:(kH (ss.map ku)).size≤200000000:=by
  have:ss.length*(11000000+1)≤10*(11000000+1):=Nat.mul_le_mul_right _ hn
  omega
 have c2:=fun W lv' (ho:zh W w.heap.size lv' (ss.map ku))=>zgG (ss.map ku) lv' w.heap.size W ho (by rw [List.length_map];omega) (by omega)
 unfold Zk
 obtain ⟨J,hJ⟩:∃J,kH (ss.map ku)=J:=⟨_,rfl⟩
 rw [hJ] at hz2 ⊢
 simp only [hJ] at c2
 obtain ⟨M,hM⟩:∃M,ss.map ku=M:=⟨_,rfl⟩
 rw [hM] at c1
 simp only [hM] at c2
 have C1:=hid c1
 have C2:=hid c2
 obtain ⟨a,c,rfl⟩:∃a c,lv = .slice a ss.length c:=by
  obtain ⟨xs,hx,_⟩:=h
  rcases hx.2 with ⟨rfl,h0⟩|⟨gb,c,cur,rfl,_⟩
  ·exact ⟨_,_,by rw [h0]⟩
  ·exact ⟨_,_,rfl⟩
 clear c1 c2 hJ hM hq hz h hS
 go_enter Tryz.func62,Tryz.ntmps62
 go_wp2_with (first
  | (go_at_call 113;refine (C2.out w1 _ HO.out).mono ?_;rintro e w2 ⟨rfl,hb2⟩;have HB2:=hid (HB1.out.trans (hb2.mono HB1.out.size));clear hb2)
  | (go_at_call 114;refine C1.out.mono ?_;rintro e w1 ⟨lv1,rfl,ho,hb1⟩;have HO:=hid ho;have HB1:=hid hb1;clear ho hb1))
 go_ret
 exact ⟨rfl,HB2.out⟩
theorem zc5 {ss:List xH} (hn:ss.length≤10) (hS:∀s ∈ ss,QS s):(Zk (ss.map ku)).size≤200000000:=by
 have:=Uc (ss.map ku) 11000000 10 (fun x hx=>by
  rw [List.mem_map] at hx
  obtain ⟨s,hs,rfl⟩:=hx
  exact Uy (hS s hs)) (by rw [List.length_map];exact hn)
 omega
theorem zeT (ss:List xH) (lv:Value) (base:Nat) (w:World) (h:xJ w base lv ss) (hn:ss.length≤10) (hS:∀s ∈ ss,QS s) :
  Calls Tryz.prog 35 #[.agg #[lv]] w fun e w'=>e = .returned (.string (zjY ss))∧Below w.heap.size w w':=by
 have bA:∀O:Obj,Below w.heap.size w (w.alloc O):=fun O=>(Below.refl _ w).alloc (Nat.le_refl _) O
 have hz:=zc5 hn hS
 have c1:=fun O:Obj=>zf6 ss lv base (w.alloc O) (by
  obtain ⟨xs,hx,hc⟩:=h
  exact ⟨xs,ownsRow_below hx (bA O),fun j hj=>(hc j hj).below (bA O)⟩) hn hS
 unfold zjY
 obtain ⟨J,hJ⟩:∃J,Zk (ss.map ku)=J:=⟨_,rfl⟩
 rw [hJ] at hz ⊢
 simp only [hJ] at c1
 have C1:=hid c1
 have BA:=hid bA
 obtain ⟨a,c,rfl⟩:∃a c,lv = .slice a ss.length c:=by
  obtain ⟨xs,hx,_⟩:=h
  rcases hx.2 with ⟨rfl,h0⟩|⟨gb,c,cur,rfl,_⟩
  ·exact ⟨_,_,by rw [h0]⟩
  ·exact ⟨_,_,rfl⟩
 clear c1 hJ h hS bA
 go_enter Tryz.func35,Tryz.ntmps35
 go_wp2_with fail
 refine (C1.out _).mono ?_
 rintro e w2 ⟨rfl,hb2⟩
 have HB2:=hid ((BA.out _).trans (hb2.mono (by simp)))
 clear hb2
 go_wp2
 go_ret
 exact ⟨rfl,HB2.out⟩
theorem zkf {r:Rd.qN} (h:Ref.uS r):QS (zaq r):=
 ⟨h.eff,h.who,h.act,h.on,by show (r.cs.map toS).length≤5;rw [List.length_map];exact h.len,fun c hc=>by
  rw [show (zaq r).ifs=r.cs.map toS from rfl,List.mem_map] at hc
  obtain ⟨x,hx,rfl⟩:=hc
  obtain ⟨a,b,d⟩:=h.cs x hx
  exact ⟨a,b,d⟩⟩
theorem UL {EL:Value} {T:TypeId} {y:Value} (hEL:EL = .iface T y) {c:Int} {q:Nat} {u:Value} (h:zi3 EL c q u):(c=0∧u = .nilIface)∨(c≠0∧∃T y,u = .iface T y):=by
 cases h with
 | ok=>exact .inl ⟨rfl,rfl⟩
 | long=>exact .inr ⟨by decide,T,y,hEL⟩
 | text c q hc=>
  refine .inr ⟨by unfold Rd.Code at hc;omega,?_⟩
  unfold uY
  split
  ·exact ⟨_,_,rfl⟩
  ·split
   ·exact ⟨_,_,rfl⟩
   ·exact ⟨_,_,rfl⟩
 | doc p=>exact .inr ⟨by decide,_,_,rfl⟩
 | shape n p=>exact .inr ⟨by decide,_,_,rfl⟩
 | pat n k=>exact .inr ⟨by decide,_,_,rfl⟩
end Go.Proofs.YtdakgnaojakldaaGreatDoor
namespace Go.Proofs.YtdakgnaojakldaaGreatDoor
open Go.Shelf
def Tryz.lays106_ren:Go.Shelf.Ren:=⟨fun|106=>136|213=>186|265=>224|n=>n,fun|9=>9|3=>3|n=>n,fun|n=>n⟩
theorem Tryz.lays106:Go.Proofs.Lays.n106 Tryz.prog Tryz.lays106_ren:={
 mixed:=by kernel_rfl
 f106:=Tryz.func136.trans (congrArg some (by kernel_rfl))
 f213:=Tryz.func186.trans (congrArg some (by kernel_rfl))
 f265:=Tryz.func224.trans (congrArg some (by kernel_rfl))
 t3:=Tryz.underlying3
 a3:=Tryz.isAgg3
 z3:=Tryz.sizeOf3
 v3:=Tryz.zeroValue3
 t9:=Tryz.underlying9
 a9:=Tryz.isAgg9
 z9:=Tryz.sizeOf9
 v9:=Tryz.zeroValue9 }
def Tryz.laysPu25_ren:Go.Shelf.Ren:=⟨fun|25=>137|n=>n,fun|9=>9|3=>3|4=>4|37=>256|0=>0|47=>322|5=>5|n=>n,fun|n=>n⟩
theorem Tryz.laysPu25:Go.Proofs.LaysPu.n25 Tryz.prog Tryz.laysPu25_ren:={
 mixed:=by kernel_rfl
 f25:=Tryz.func137.trans (congrArg some (by kernel_rfl))
 t0:=Tryz.underlying0
 a0:=Tryz.isAgg0
 z0:=Tryz.sizeOf0
 v0:=Tryz.zeroValue0
 i0:=by kernel_rfl
 t3:=Tryz.underlying3
 a3:=Tryz.isAgg3
 z3:=Tryz.sizeOf3
 v3:=Tryz.zeroValue3
 i3:=by kernel_rfl
 t4:=Tryz.underlying4
 a4:=Tryz.isAgg4
 z4:=Tryz.sizeOf4
 v4:=Tryz.zeroValue4
 i4:=by kernel_rfl
 t5:=Tryz.underlying5
 a5:=Tryz.isAgg5
 z5:=Tryz.sizeOf5
 v5:=Tryz.zeroValue5
 i5:=by kernel_rfl
 t9:=Tryz.underlying9
 a9:=Tryz.isAgg9
 z9:=Tryz.sizeOf9
 v9:=Tryz.zeroValue9
 i9:=by kernel_rfl
 t37:=Tryz.underlying256
 a37:=Tryz.isAgg256
 z37:=Tryz.sizeOf256
 v37:=Tryz.zeroValue256
 i37:=by kernel_rfl
 t47:=Tryz.underlying322
 a47:=Tryz.isAgg322
 z47:=Tryz.sizeOf322
 v47:=Tryz.zeroValue322
 i47:=by kernel_rfl }
def Tryz.lays8grow_ren:Go.Shelf.Ren:=⟨fun|4=>138|n=>n,fun|22=>98|25=>187|3=>3|4=>4|9=>9|20=>20|0=>0|n=>n,fun|n=>n⟩
theorem Tryz.lays8grow:Go.Proofs.Lays8.n4 Tryz.prog Tryz.lays8grow_ren:={
 mixed:=by kernel_rfl
 f4:=⟨Tryz.f138.name,by decide,Tryz.func138.trans (congrArg some (by kernel_rfl))⟩
 t0:=Tryz.underlying0
 a0:=Tryz.isAgg0
 z0:=Tryz.sizeOf0
 v0:=Tryz.zeroValue0
 t3:=Tryz.underlying3
 a3:=Tryz.isAgg3
 z3:=Tryz.sizeOf3
 v3:=Tryz.zeroValue3
 t4:=Tryz.underlying4
 a4:=Tryz.isAgg4
 z4:=Tryz.sizeOf4
 v4:=Tryz.zeroValue4
 t9:=Tryz.underlying9
 a9:=Tryz.isAgg9
 z9:=Tryz.sizeOf9
 v9:=Tryz.zeroValue9
 t20:=Tryz.underlying20
 a20:=Tryz.isAgg20
 z20:=Tryz.sizeOf20
 v20:=Tryz.zeroValue20
 t22:=Tryz.underlying98
 a22:=Tryz.isAgg98
 z22:=Tryz.sizeOf98
 v22:=Tryz.zeroValue98 }
end Go.Proofs.YtdakgnaojakldaaGreatDoor
