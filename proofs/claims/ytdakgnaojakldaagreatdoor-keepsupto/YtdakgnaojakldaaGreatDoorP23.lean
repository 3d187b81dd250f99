/- P -/
import Derived.Test.YtdakgnaojakldaaGreatDoorP22
set_option maxRecDepth 100000
set_option maxHeartbeats 4000000
namespace Go.Proofs.YtdakgnaojakldaaGreatDoor
open Go.RowKit Go.Extern.Stop Go.Stop Go.Extern
def zaN (u:Value) (pT:TypeId):Prop:=∀(W:World) (t:Addr),jq W→Calls Tryz.prog 57 #[u, .iface pT (.pointer (some t))] W fun e w'=>e = .returned (.bool false)∧Below W.heap.size W w'
def zlx (u:Value) (pT:TypeId) (n:Nat) (x:Value):Prop:=∀(W:World) (tb:Nat),jq W→(∀j,j<n→∃o,W.cell? ⟨tb,j,none⟩=some o)→(∀j,j<n→W.frozen? ⟨tb,j,none⟩=false) →
 Calls Tryz.prog 57 #[u, .iface pT (.pointer (some ⟨tb,0,none⟩))] W fun e w'=>e = .returned (.bool true)∧w'.cell? ⟨tb,0,none⟩=some x∧∀base,base≤tb→base≤W.heap.size→Below base W w'
theorem QV (w:World) (a b:Obj):Below w.heap.size w ((w.alloc a).alloc b):=((Below.refl _ w).alloc (Nat.le_refl _) a).alloc (by simp) b
theorem jP (T pT E:TypeId) (v:Value) (hT:zdj T pT) (hE:VG E) (hW:vk E) (hA:Assign E T false):zaN (.iface E v) pT:=fun W t hg=>
 zbZ T pT E v t W hg hT false (fun w'=>Below W.heap.size W w') (fun O=>by
  refine (Ul E T v _ _ _ _ _ hE hW hA).mono ?_
  rintro e w' ⟨rfl,hb⟩
  exact ⟨rfl,(QV W _ O).trans (hb.mono (QV W _ O).size)⟩)
theorem yN (T pT E:TypeId) (n:Int) (v:Value) (hT:zdj T pT) (hE:VG E) (hW:vk E) (hA:Assign 138 T false) (hB:Assign E T false):zaN (.iface 138 (.agg #[.int .i64 n, .iface E v])) pT:=fun W t hg=>
 zbZ T pT _ _ t W hg hT false (fun w'=>Below W.heap.size W w') (fun O=>by
  refine (zb8 E T n v _ _ _ _ _ kQ hE hW hA hB).mono ?_
  rintro e w' ⟨rfl,hb⟩
  exact ⟨rfl,(QV W _ O).trans (hb.mono (QV W _ O).size)⟩)
theorem U9 (E pE:TypeId) (ok:Value→Prop) (x:Value) (hT:zdj E pE) (hE:VG E) (hA:Assign E E true) (hH:zje E ok) (hx:ok x):zlx (.iface E (.agg #[x])) pE 1 x:=fun W tb hg hc hf=>by
 obtain ⟨o,ho⟩:=hc 0 (by omega)
 have hf0:=hf 0 (by omega)
 refine zbZ E pE E (.agg #[x]) ⟨tb,0,none⟩ W hg hT true (fun w'=>w'.cell? ⟨tb,0,none⟩=some x∧∀base,base≤tb→base≤W.heap.size→Below base W w') (fun O=>?_)
 refine (zbE E pE ok x _ o ⟨W.heap.size,0,none⟩ ⟨tb,0,none⟩ _ hE hA hT hH hx (zi (YC W _ _) O) (zi (zi ho _) O) (zO (zi ho _) (zO ho hf0 _) O)).mono ?_
 rintro e w' ⟨rfl,h1,h2⟩
 refine ⟨rfl,h1,fun base hb1 hb2=>?_⟩
 exact (((Below.refl base W).alloc hb2 _).alloc (by simp;omega) O).trans (h2 base hb1 (by simp;omega))
theorem zfn (E pE:TypeId) (ok:Value→Prop) (n:Int) (x:Value) (hT:zdj E pE) (hE:VG E) (hS:Assign 138 E false) (hA:Assign E E true) (hH:zje E ok) (hx:ok x):zlx (.iface 138 (.agg #[.int .i64 n, .iface E (.agg #[x])])) pE 1 x:=fun W tb hg hc hf=>by
 obtain ⟨o,ho⟩:=hc 0 (by omega)
 have hf0:=hf 0 (by omega)
 refine zbZ E pE _ _ ⟨tb,0,none⟩ W hg hT true (fun w'=>w'.cell? ⟨tb,0,none⟩=some x∧∀base,base≤tb→base≤W.heap.size→Below base W w') (fun O=>?_)
 refine (zc4 E pE ok n x _ o ⟨W.heap.size,0,none⟩ ⟨tb,0,none⟩ _ kQ hE hS hA hT hH hx (zi (YC W _ _) O) (zi (zi ho _) O) (zO (zi ho _) (zO ho hf0 _) O)).mono ?_
 rintro e w' ⟨rfl,h1,h2⟩
 refine ⟨rfl,h1,fun base hb1 hb2=>?_⟩
 exact (((Below.refl base W).alloc hb2 _).alloc (by simp;omega) O).trans (h2 base hb1 (by simp;omega))
theorem zlW (E:TypeId) (n:Int) (v:Value):zlx (.iface 138 (.agg #[.int .i64 n, .iface E v])) 229 2 (.int .i64 n):=fun W tb hg hc hf=>by
 obtain ⟨o,ho⟩:=hc 0 (by omega)
 obtain ⟨o1,ho1⟩:=hc 1 (by omega)
 have hf0:=hf 0 (by omega)
 have hf1:=hf 1 (by omega)
 refine zbZ 138 229 _ _ ⟨tb,0,none⟩ W hg ZH true (fun w'=>w'.cell? ⟨tb,0,none⟩=some (.int .i64 n)∧∀base,base≤tb→base≤W.heap.size→Below base W w') (fun O=>?_)
 refine (zic 229 E n v _ o o1 ⟨W.heap.size,0,none⟩ tb _ kQ Zw ZH (zi (YC W _ _) O) (zi (zi ho _) O) (zi (zi ho1 _) O) (zO (zi ho _) (zO ho hf0 _) O) (zO (zi ho1 _) (zO ho1 hf1 _) O)).mono ?_
 rintro e w' ⟨rfl,h1,h2⟩
 refine ⟨rfl,h1,fun base hb1 hb2=>?_⟩
 exact (((Below.refl base W).alloc hb2 _).alloc (by simp;omega) O).trans (h2 base hb1 (by simp;omega))
def zkM (u EL:Value):Prop:=∀W:World,Calls Tryz.prog 56 #[u,EL] W fun e w'=>e = .returned (.bool false)∧Below W.heap.size W w'
theorem zgc (p:ByteArray) (w:World) (hg:jq w) :
  Calls Tryz.prog 58 #[.iface 125 (.agg #[.string p])] w fun e w'=>e = .returned (.tuple #[.int .i64 5, .int .i64 0])∧Below w.heap.size w w':=by
 have b2:=fun O1 O2=>QV w O1 O2
 have c1:=fun W t h=>jP 138 229 125 (.agg #[.string p]) ZH xA qL Yh W t h
 have c2:=fun W t h=>jP 228 230 125 (.agg #[.string p]) Yg xA qL uI W t h
 go_enter Tryz.func58,Tryz.ntmps58
 go_wp2_with (first
  | (go_at_call 57;refine (c2 w1 _ (hg.below bw1)).mono ?_;rintro e w2 ⟨rfl,hb2⟩)
  | (go_at_call 57;refine (c1 _ _ (hg.below (b2 _ _))).mono ?_;rintro e w1 ⟨rfl,hb1⟩;have bw1:Below w.heap.size w w1:=(b2 _ _).trans (hb1.mono (by simp;omega))))
 go_ret2
 exact ⟨rfl,bw1.trans (hb2.mono bw1.size)⟩
theorem ja {W:World} {cs:Array Value} {t:TypeId} {b:Nat} (h:W.heap[b]?=some (.cells cs t (0,0))) (n:Nat) (hn:n≤cs.size):(∀j,j<n→∃o,W.cell? ⟨b,j,none⟩=some o)∧(∀j,j<n→W.frozen? ⟨b,j,none⟩=false):=by
 refine ⟨fun j hj=>⟨cs[j]'(by omega),?_⟩,fun j _=>(cells_of_block h j).2⟩
 rw [(cells_of_block h j).1]
 exact Array.getElem?_eq_getElem (by omega)
theorem zeS (pS E:TypeId) (n:Int) (v tgt o1 o2:Value) (a:Addr) (tb:Nat) (w:World) (hS:VG 138) (hA:Assign 138 138 true) (hT:zdj 138 pS)
  (ha:w.cell? a=some (.pointer (some ⟨tb,0,none⟩))) (t1:w.cell? ⟨tb,0,none⟩=some o1) (t2:w.cell? ⟨tb,1,none⟩=some o2) (f1:w.frozen? ⟨tb,0,none⟩=false) (f2:w.frozen? ⟨tb,1,none⟩=false) :
  Calls Tryz.prog 108 #[.iface 138 (.agg #[.int .i64 n, .iface E v]),tgt, .agg #[.pointer (some ⟨7,pS,none⟩), .pointer (some a), .int .u64 150], .iface 283 (.agg #[.pointer (some ⟨7,138,none⟩)])] w fun e w'=>
   e = .returned (.bool true)∧w'.cell? ⟨tb,0,none⟩=some (.int .i64 n)∧(∀base,base≤tb→base≤w.heap.size→Below base w w')∧∀b,b<w.heap.size→b≠tb→w'.heap[b]?=w.heap[b]?:=by
 have h10:=@run_callFunc_extern Tryz.prog 103 _ ReflectliteType.typeOf Tryz.func103 (by kernel_rfl) (by kernel_rfl) (by kernel_rfl) (by kernel_rfl)
 have h35:=@run_callFunc_extern Tryz.prog 306 _ (ReflectliteType.relation "AssignableTo" ReflectliteType.assignableTo) Tryz.func306 (by kernel_rfl) (by kernel_rfl) (by kernel_rfl) (by kernel_rfl)
 have h6:=@run_callFunc_extern Tryz.prog 105 _ (fun args=>ReflectliteValue.unpack (args.getD 0 (.tuple #[]))) Tryz.func105 (by kernel_rfl) (by kernel_rfl) (by kernel_rfl) (by kernel_rfl)
 have h11:=@run_callFunc_extern Tryz.prog 156 _ (ReflectliteValue.method (ReflectliteValue.valueError "reflectlite.Value.Elem" 0) ReflectliteValue.elem) Tryz.func156 (by kernel_rfl) (by kernel_rfl) (by kernel_rfl) (by kernel_rfl)
 have h12:=@run_callFunc_extern Tryz.prog 157 _ ReflectliteValue.set Tryz.func157 (by kernel_rfl) (by kernel_rfl) (by kernel_rfl) (by kernel_rfl)
 have tO:=hS.typeOf
 have mA:=Tryz.erAssignableTo
 have aT:=hA
 unfold Assign at aT
 have vH:=fun w=>Tryz.stHeld n (.iface E v) w
 have el:=fun O=>hT.elemV a ⟨tb,0,none⟩ (w.alloc O) (zi ha O)
 have st:=fun O=>Tryz.stSet tb (w.heap.size+1) n E v o1 o2 ((w.alloc O).alloc (.cells #[.int .i64 n, .iface E v] 138)) (by rw [World.cell?_alloc_at _ _ _ _ (by simp)];rfl) (by rw [World.cell?_alloc_at _ _ _ _ (by simp)];rfl) (zi (zi t1 O) _) (zi (zi t2 O) _) (zO (zi t1 O) (zO t1 f1 O) _) (zO (zi t2 O) (zO t2 f2 O) _)
 have fin:=fun O=>(World.cell?_setCell_other (((w.alloc O).alloc (.cells #[.int .i64 n, .iface E v] 138)).setCell ⟨tb,0,none⟩ (.int .i64 n)) ⟨tb,1,none⟩ ⟨tb,0,none⟩ (.iface E v) (by simp)).trans (World.cell?_setCell_same ((w.alloc O).alloc (.cells #[.int .i64 n, .iface E v] 138)) ⟨tb,0,none⟩ (.int .i64 n) (zi (zi t1 O) (.cells #[.int .i64 n, .iface E v] 138)))
 clear hA hT ha hS
 go_enter Tryz.func108,Tryz.ntmps108
 go_wp2
 refine wp_loop_rounds 1 ?_
 rw [rounds_succ]
 go_wp2
 go_ret
 refine ⟨rfl,fin _,fun base hb1 hb2=>?_,fun b hb hne=>?_⟩
 ·exact ((((Below.refl base w).alloc hb2 _).alloc (by simp;omega) _).setCell hb1 _).setCell hb1 _
 ·rw [Below.heap_setCell _ _ _ _ (by simp only;omega),Below.heap_setCell _ _ _ _ (by simp only;omega),Below.heap_alloc _ _ _ (by simp;omega),Below.heap_alloc _ _ _ hb]
theorem VE (E:TypeId) (n:Int) (v:Value) (W:World) (tb:Nat) (hg:jq W) (hc:∀j,j<2→∃o,W.cell? ⟨tb,j,none⟩=some o) (hf:∀j,j<2→W.frozen? ⟨tb,j,none⟩=false) :
  Calls Tryz.prog 57 #[.iface 138 (.agg #[.int .i64 n, .iface E v]), .iface 229 (.pointer (some ⟨tb,0,none⟩))] W fun e w'=>e = .returned (.bool true)∧w'.cell? ⟨tb,0,none⟩=some (.int .i64 n)∧(∀base,base≤tb→base≤W.heap.size→Below base W w')∧∀b,b<W.heap.size→b≠tb→w'.heap[b]?=W.heap[b]?:=by
 obtain ⟨o,ho⟩:=hc 0 (by omega)
 obtain ⟨o1,ho1⟩:=hc 1 (by omega)
 have hf0:=hf 0 (by omega)
 have hf1:=hf 1 (by omega)
 refine zbZ 138 229 _ _ ⟨tb,0,none⟩ W hg ZH true (fun w'=>w'.cell? ⟨tb,0,none⟩=some (.int .i64 n)∧(∀base,base≤tb→base≤W.heap.size→Below base W w')∧∀b,b<W.heap.size→b≠tb→w'.heap[b]?=W.heap[b]?) (fun O=>?_)
 refine (zeS 229 E n v _ o o1 ⟨W.heap.size,0,none⟩ tb _ kQ Zw ZH (zi (YC W _ _) O) (zi (zi ho _) O) (zi (zi ho1 _) O) (zO (zi ho _) (zO ho hf0 _) O) (zO (zi ho1 _) (zO ho1 hf1 _) O)).mono ?_
 rintro e w' ⟨rfl,h1,h2,h3⟩
 refine ⟨rfl,h1,fun base hb1 hb2=>?_,fun b hb hne=>?_⟩
 ·exact (((Below.refl base W).alloc hb2 _).alloc (by simp;omega) O).trans (h2 base hb1 (by simp;omega))
 ·rw [h3 b (by simp;omega) hne,Below.heap_alloc _ _ _ (by simp;omega),Below.heap_alloc _ _ _ hb]
theorem zat (n:Nat) (p:ByteArray) (w:World) (hg:jq w) :
  Calls Tryz.prog 58 #[.iface 138 (.agg #[.int .i64 (n:Int), .iface 125 (.agg #[.string p])])] w fun e w'=>e = .returned (.tuple #[.int .i64 5, .int .i64 (n:Int)])∧Below w.heap.size w w':=by
 have b2:=fun O1 O2=>QV w O1 O2
 have c1:=fun W tb h h1 h2=>VE 125 (n:Int) (.agg #[.string p]) W tb h h1 h2
 have c2:=fun W t h=>yN 228 230 125 (n:Int) (.agg #[.string p]) Yg xA qL kR uI W t h
 have k1:=fun O2=>ja (qI w (.cells #[.int .i64 0, .nilIface] 138) O2).1 2 (by decide)
 go_enter Tryz.func58,Tryz.ntmps58
 go_wp2_with (first
  | (go_at_call 57;refine (c2 w1 _ (hg.below bw1)).mono ?_;rintro e w2 ⟨rfl,hb2⟩)
  | (go_at_call 57;refine (c1 _ w.heap.size (hg.below (b2 _ _)) (k1 _).1 (k1 _).2).mono ?_;rintro e w1 ⟨rfl,hc1,hb1,_⟩;have bw1:Below w.heap.size w w1:=(b2 _ _).trans (hb1 _ (Nat.le_refl _) (by simp;omega))))
 go_ret2
 exact ⟨rfl,bw1.trans (hb2.mono bw1.size)⟩
theorem zfB (n:Nat) (k:Int) (w:World) (hg:jq w) :
  Calls Tryz.prog 58 #[.iface 138 (.agg #[.int .i64 (n:Int), .iface 228 (.agg #[.int .i64 k])])] w fun e w'=>e = .returned (.tuple #[.int .i64 6, .int .i64 (n:Int)])∧Below w.heap.size w w':=by
 have b2:=fun O1 O2=>QV w O1 O2
 have c1:=fun W tb h h1 h2=>VE 228 (n:Int) (.agg #[.int .i64 k]) W tb h h1 h2
 have c2:=fun W tb h h1 h2=>zfn 228 230 _ (n:Int) (.int .i64 k) Yg vP kR Xa zfd ⟨k,rfl⟩ W tb h h1 h2
 have k1:=fun O2=>ja (qI w (.cells #[.int .i64 0, .nilIface] 138) O2).1 2 (by decide)
 have k2:=(qI w (.cells #[.int .i64 0, .nilIface] 138) (.cells #[.int .i64 0] 228)).2
 go_enter Tryz.func58,Tryz.ntmps58
 go_wp2_with (first
  | (go_at_call 57;refine (c2 w1 (w.heap.size+1) (hg.below bw1) kk.1 kk.2).mono ?_;rintro e w2 ⟨rfl,hc2,hb2⟩)
  | (go_at_call 57;refine (c1 _ w.heap.size (hg.below (b2 _ _)) (k1 _).1 (k1 _).2).mono ?_;rintro e w1 ⟨rfl,hc1,hb1,hk1⟩;have bw1:Below w.heap.size w w1:=(b2 _ _).trans (hb1 _ (Nat.le_refl _) (by simp;omega));have kk:=ja ((hk1 (w.heap.size+1) (by simp) (by omega)).trans k2) 1 (by decide)))
 go_ret2
 exact ⟨rfl,bw1.trans (hb2 _ (by omega) bw1.size)⟩
theorem zhD (aL:Addr) (w:World) :
  Calls Tryz.prog 56 #[.iface 418 (.pointer (some aL)), .iface 418 (.pointer (some aL))] w fun e w'=>e = .returned (.bool true)∧w'=w:=by
 have hT:=@run_callFunc_extern Tryz.prog 103 _ ReflectliteType.typeOf Tryz.func103 (by kernel_rfl) (by kernel_rfl) (by kernel_rfl) (by kernel_rfl)
 have tL:=Tryz.erTypeLong
 have mC:=Tryz.erComparable
 have hC:=@run_callFunc_extern Tryz.prog 307 _ (ReflectliteType.method (fun t=>do Rtype.noPackHeld "Comparable" t;pure (.bool (← typeInfo t).comparable))) Tryz.func307 (by kernel_rfl) (by kernel_rfl) (by kernel_rfl) (by kernel_rfl)
 have cL:=Tryz.erComparableLong
 obtain ⟨i,hi,hic⟩:∃i,Tryz.prog.info? 418=some i∧i.comparable=true:=by
  have h:(Tryz.prog.info? 418).map (·.comparable)=some true:=by kernel_rfl
  obtain ⟨i,h1,h2⟩:=Option.map_eq_some_iff.1 h
  exact ⟨i,h1,h2⟩
 obtain ⟨j,hj⟩:∃j,Tryz.prog.info? 437=some j:=by
  have h:(Tryz.prog.info? 437).isSome=true:=by kernel_rfl
  exact Option.isSome_iff_exists.1 h
 have eq:=fun W=>run_eql_iface_ptr_same (P:=Tryz.prog) (w:=W) aL Tryz.underlying74 Tryz.underlying418 hi hic hj
 clear hi hic hj
 go_enter Tryz.func56,Tryz.ntmps56
 go_wp2
 refine wp_loop_rounds 1 ?_
 rw [rounds_succ]
 go_wp2
 go_ret
 exact ⟨rfl,rfl⟩
theorem zfg (w:World) (a b c:Obj):Below w.heap.size w (((w.alloc a).alloc b).alloc c)∧(((w.alloc a).alloc b).alloc c).heap[w.heap.size]?=some a∧(((w.alloc a).alloc b).alloc c).heap[w.heap.size+1]?=some b∧(((w.alloc a).alloc b).alloc c).heap[w.heap.size+2]?=some c:=by
 refine ⟨(((Below.refl _ _).alloc (Nat.le_refl _) _).alloc (by simp) _).alloc (by simp;omega) _,?_,?_,?_⟩
 ·rw [Below.heap_alloc _ _ _ (by simp;omega)];exact (qI w a b).1
 ·rw [Below.heap_alloc _ _ _ (by simp)];exact (qI w a b).2
 ·have h:=heap_alloc_new ((w.alloc a).alloc b) c
  rw [World.size_alloc,World.size_alloc] at h
  exact h
theorem boxes (w:World):Below w.heap.size w (((w.alloc (.cells #[.int .i64 0] 140)).alloc (.cells #[.int .i64 0] 141)).alloc (.cells #[.int .i64 0] 142)) ∧
  (((w.alloc (.cells #[.int .i64 0] 140)).alloc (.cells #[.int .i64 0] 141)).alloc (.cells #[.int .i64 0] 142)).heap[w.heap.size]?=some (.cells #[.int .i64 0] 140) ∧
  (((w.alloc (.cells #[.int .i64 0] 140)).alloc (.cells #[.int .i64 0] 141)).alloc (.cells #[.int .i64 0] 142)).heap[w.heap.size+1]?=some (.cells #[.int .i64 0] 141) ∧
  (((w.alloc (.cells #[.int .i64 0] 140)).alloc (.cells #[.int .i64 0] 141)).alloc (.cells #[.int .i64 0] 142)).heap[w.heap.size+2]?=some (.cells #[.int .i64 0] 142):=zfg w _ _ _
theorem Yw (E:TypeId) (v EL:Value) (TL:TypeId) (yL:Value) (hEL:EL = .iface TL yL) (c:Int) (q:Nat) (w:World) (hg:jq w) (hl:w.cell? ⟨0,0,none⟩=some EL) (hI:zkM (.iface E v) EL) (m1:zaN (.iface E v) 145) (m2:zaN (.iface E v) 146) (m3:zaN (.iface E v) 147)
  (hS:∀W,jq W→Calls Tryz.prog 58 #[.iface E v] W fun e w'=>e = .returned (.tuple #[.int .i64 c, .int .i64 (q:Int)])∧Below W.heap.size W w') :
  Calls Tryz.prog 33 #[.iface E v] w fun e w'=>e = .returned (.tuple #[.int .i64 c, .int .i64 (q:Int)])∧Below w.heap.size w w':=by
 obtain ⟨b3,_,_,_⟩:=boxes w
 have hL3:=cell_later b3 hl
 have hG:∀W,Below w.heap.size w W→jq W:=fun W hb=>hg.below hb
 subst hEL
 clear hg hl
 go_enter Tryz.func33,Tryz.ntmps33
 go_wp2_with (first
  | (go_at_call 58;refine (hS w4 (hG w4 bw4)).mono ?_;rintro e w5 ⟨rfl,hb5⟩)
  | (go_at_call 57;refine (m3 w3 _ (hG w3 bw3)).mono ?_;rintro e w4 ⟨rfl,hb4⟩;have bw4:Below w.heap.size w w4:=bw3.trans (hb4.mono bw3.size))
  | (go_at_call 57;refine (m2 w2 _ (hG w2 bw2)).mono ?_;rintro e w3 ⟨rfl,hb3⟩;have bw3:Below w.heap.size w w3:=bw2.trans (hb3.mono bw2.size))
  | (go_at_call 57;refine (m1 w1 _ (hG w1 bw1)).mono ?_;rintro e w2 ⟨rfl,hb2⟩;have bw2:Below w.heap.size w w2:=bw1.trans (hb2.mono bw1.size))
  | (go_at_call 56;refine (hI _).mono ?_;rintro e w1 ⟨rfl,hb1⟩;have bw1:Below w.heap.size w w1:=b3.trans (hb1.mono b3.size)))
 go_ret2
 exact ⟨rfl,bw4.trans (hb5.mono bw4.size)⟩
theorem XV (E:TypeId) (v:Value) (aL:Addr) (hE:VG E) (hW:vk E):zkM (.iface E v) (.iface 418 (.pointer (some aL))):=fun W=>by
 refine (zf9 E v aL W hE hW).mono ?_
 rintro e w' ⟨rfl,rfl⟩
 exact ⟨rfl,Below.refl _ _⟩
theorem zhG (w:World):Calls Tryz.prog 33 #[.nilIface] w fun e w'=>e = .returned (.tuple #[.int .i64 0, .int .i64 0])∧Below w.heap.size w w':=by
 obtain ⟨b3,_,_,_⟩:=boxes w
 go_enter Tryz.func33,Tryz.ntmps33
 go_wp2
 go_ret2
 exact ⟨rfl,b3⟩
theorem zfE (aL:Addr) (w:World) (hl:w.cell? ⟨0,0,none⟩=some (.iface 418 (.pointer (some aL)))):Calls Tryz.prog 33 #[.iface 418 (.pointer (some aL))] w fun e w'=>e = .returned (.tuple #[.int .i64 1, .int .i64 0])∧Below w.heap.size w w':=by
 obtain ⟨b3,_,_,_⟩:=boxes w
 have hL3:=cell_later b3 hl
 clear hl
 go_enter Tryz.func33,Tryz.ntmps33
 go_wp2_with (go_at_call 56;refine (zhD aL _).mono ?_;rintro e w1 ⟨rfl,rfl⟩)
 go_ret2
 exact ⟨rfl,b3⟩
theorem zbD (k:Int) (aL:Addr) (w:World) (hg:jq w) (hl:w.cell? ⟨0,0,none⟩=some (.iface 418 (.pointer (some aL)))) :
  Calls Tryz.prog 33 #[.iface 140 (.agg #[.int .i64 k])] w fun e w'=>e = .returned (.tuple #[.int .i64 2, .int .i64 k])∧Below w.heap.size w w':=by
 obtain ⟨b3,q0,q1,q2⟩:=boxes w
 have hL3:=cell_later b3 hl
 have hG:∀W,Below w.heap.size w W→jq W:=fun W hb=>hg.below hb
 have hI:=XV 140 (.agg #[.int .i64 k]) aL Vp KF
 have hH:=U9 140 145 _ (.int .i64 k) jH Vp QA zcU ⟨k,rfl⟩
 have kb:=q0
 clear hg hl q0 q1 q2
 go_enter Tryz.func33,Tryz.ntmps33
 go_wp2_with (first
  | (go_at_call 57;refine (hH w1 (w.heap.size) (hG w1 bw1) (ja kw1 1 (by decide)).1 (ja kw1 1 (by decide)).2).mono ?_;rintro e wh ⟨rfl,hc,hbh⟩)
  | (go_at_call 56;refine (hI _).mono ?_;rintro e w1 ⟨rfl,hbw1⟩;have bw1:Below w.heap.size w w1:=b3.trans (hbw1.mono b3.size);have kw1:=(hbw1.block (w.heap.size) (by first|(simp;done)|(simp;omega))).trans kb;have zw1:w.heap.size+3≤w1.heap.size:=(by have:=hbw1.size;simp at this;omega)))
 go_quiet (fail)
 go_wp2
 go_ret2
 have hfin:=hbh w.heap.size (by omega) (bw1.size)
 refine ⟨rfl,?_⟩
 have h:=bw1.trans hfin
 exact ⟨h.os,h.tape,h.output,h.size,h.block⟩
theorem zgg (k:Int) (aL:Addr) (w:World) (hg:jq w) (hl:w.cell? ⟨0,0,none⟩=some (.iface 418 (.pointer (some aL)))) :
  Calls Tryz.prog 33 #[.iface 141 (.agg #[.int .i64 k])] w fun e w'=>e = .returned (.tuple #[.int .i64 3, .int .i64 k])∧Below w.heap.size w w':=by
 obtain ⟨b3,q0,q1,q2⟩:=boxes w
 have hL3:=cell_later b3 hl
 have hG:∀W,Below w.heap.size w W→jq W:=fun W hb=>hg.below hb
 have hI:=XV 141 (.agg #[.int .i64 k]) aL Jq Vm
 have m1:=fun W t h=>jP 140 145 141 (.agg #[.int .i64 k]) jH Jq Vm XQ W t h
 have hH:=U9 141 146 _ (.int .i64 k) ZV Jq Y5 zhU ⟨k,rfl⟩
 have kb:=q1
 clear hg hl q0 q1 q2
 go_enter Tryz.func33,Tryz.ntmps33
 go_wp2_with (first
  | (go_at_call 57;refine (hH w2 (w.heap.size+1) (hG w2 bw2) (ja kw2 1 (by decide)).1 (ja kw2 1 (by decide)).2).mono ?_;rintro e wh ⟨rfl,hc,hbh⟩)
  | (go_at_call 57;refine (m1 w1 _ (hG w1 bw1)).mono ?_;rintro e w2 ⟨rfl,hbw2⟩;have bw2:Below w.heap.size w w2:=bw1.trans (hbw2.mono bw1.size);have kw2:=(hbw2.block (w.heap.size+1) (by have:=bw1.size;have:=zw1;omega)).trans kw1;have zw2:w.heap.size+3≤w2.heap.size:=(by have:=hbw2.size;omega))
  | (go_at_call 56;refine (hI _).mono ?_;rintro e w1 ⟨rfl,hbw1⟩;have bw1:Below w.heap.size w w1:=b3.trans (hbw1.mono b3.size);have kw1:=(hbw1.block (w.heap.size+1) (by first|(simp;done)|(simp;omega))).trans kb;have zw1:w.heap.size+3≤w1.heap.size:=(by have:=hbw1.size;simp at this;omega)))
 go_quiet (fail)
 go_wp2
 go_ret2
 have hfin:=hbh w.heap.size (by omega) (bw2.size)
 refine ⟨rfl,?_⟩
 have h:=bw2.trans hfin
 exact ⟨h.os,h.tape,h.output,h.size,h.block⟩
theorem zcN (k:Int) (aL:Addr) (w:World) (hg:jq w) (hl:w.cell? ⟨0,0,none⟩=some (.iface 418 (.pointer (some aL)))) :
  Calls Tryz.prog 33 #[.iface 142 (.agg #[.int .i64 k])] w fun e w'=>e = .returned (.tuple #[.int .i64 4, .int .i64 k])∧Below w.heap.size w w':=by
 obtain ⟨b3,q0,q1,q2⟩:=boxes w
 have hL3:=cell_later b3 hl
 have hG:∀W,Below w.heap.size w W→jq W:=fun W hb=>hg.below hb
 have hI:=XV 142 (.agg #[.int .i64 k]) aL Ql ZJ
 have m1:=fun W t h=>jP 140 145 142 (.agg #[.int .i64 k]) jH Ql ZJ QU W t h
 have m2:=fun W t h=>jP 141 146 142 (.agg #[.int .i64 k]) ZV Ql ZJ X7 W t h
 have hH:=U9 142 147 _ (.int .i64 k) Qj Ql XM zfP ⟨k,rfl⟩
 have kb:=q2
 clear hg hl q0 q1 q2
 go_enter Tryz.func33,Tryz.ntmps33
 go_wp2_with (first
  | (go_at_call 57;refine (hH w3 (w.heap.size+2) (hG w3 bw3) (ja kw3 1 (by decide)).1 (ja kw3 1 (by decide)).2).mono ?_;rintro e wh ⟨rfl,hc,hbh⟩)
  | (go_at_call 57;refine (m2 w2 _ (hG w2 bw2)).mono ?_;rintro e w3 ⟨rfl,hbw3⟩;have bw3:Below w.heap.size w w3:=bw2.trans (hbw3.mono bw2.size);have kw3:=(hbw3.block (w.heap.size+2) (by have:=bw2.size;have:=zw2;omega)).trans kw2;have zw3:w.heap.size+3≤w3.heap.size:=(by have:=hbw3.size;omega))
  | (go_at_call 57;refine (m1 w1 _ (hG w1 bw1)).mono ?_;rintro e w2 ⟨rfl,hbw2⟩;have bw2:Below w.heap.size w w2:=bw1.trans (hbw2.mono bw1.size);have kw2:=(hbw2.block (w.heap.size+2) (by have:=bw1.size;have:=zw1;omega)).trans kw1;have zw2:w.heap.size+3≤w2.heap.size:=(by have:=hbw2.size;omega))
  | (go_at_call 56;refine (hI _).mono ?_;rintro e w1 ⟨rfl,hbw1⟩;have bw1:Below w.heap.size w w1:=b3.trans (hbw1.mono b3.size);have kw1:=(hbw1.block (w.heap.size+2) (by first|(simp;done)|(simp;omega))).trans kb;have zw1:w.heap.size+3≤w1.heap.size:=(by have:=hbw1.size;simp at this;omega)))
 go_quiet (fail)
 go_wp2
 go_ret2
 have hfin:=hbh w.heap.size (by omega) (bw3.size)
 refine ⟨rfl,?_⟩
 have h:=bw3.trans hfin
 exact ⟨h.os,h.tape,h.output,h.size,h.block⟩
theorem zlf (c:Int) (q:Nat) (u:Value) (aL:Addr) (w:World) (hg:jq w) (hl:w.cell? ⟨0,0,none⟩=some (.iface 418 (.pointer (some aL)))) (h:zi3 (.iface 418 (.pointer (some aL))) c q u) :
  Calls Tryz.prog 33 #[u] w fun e w'=>e = .returned (.tuple #[.int .i64 c, .int .i64 (q:Int)])∧Below w.heap.size w w':=by
 cases h with
 | ok=>exact zhG w
 | long=>exact zfE aL w hl
 | text _ _ hc=>
  rcases hc with rfl|rfl|rfl
  ·exact zbD _ aL w hg hl
  ·exact zgg _ aL w hg hl
  ·exact zcN _ aL w hg hl
 | doc p=>
  exact Yw _ _ _ _ _ rfl 5 0 w hg hl (XV _ _ aL xA qL) (jP _ _ _ _ jH xA qL vU) (jP _ _ _ _ ZV xA qL uX) (jP _ _ _ _ Qj xA qL uo) (fun W hW=>zgc p W hW)
 | shape n p=>
  exact Yw _ _ _ _ _ rfl 5 q w hg hl (fun W=>Ut _ _ _ aL W kQ xA qL) (yN _ _ _ _ _ jH xA qL uD vU) (yN _ _ _ _ _ ZV xA qL Zt uX) (yN _ _ _ _ _ Qj xA qL kM uo) (fun W hW=>zat q p W hW)
 | pat n k=>
  exact Yw _ _ _ _ _ rfl 6 q w hg hl (fun W=>Ut _ _ _ aL W kQ vP jQ) (yN _ _ _ _ _ jH vP jQ uD QN) (yN _ _ _ _ _ ZV vP jQ Zt X3) (yN _ _ _ _ _ Qj vP jQ kM Xf) (fun W hW=>zfB q k W hW)
structure ziV (w:World) (aL:Addr):Prop where
 q:zkz w (.iface 418 (.pointer (some aL)))
theorem ziV.below {w w':World} {aL:Addr} (h:ziV w aL) (hb:Below w.heap.size w w'):ziV w' aL:=⟨h.q.below hb⟩
end Go.Proofs.YtdakgnaojakldaaGreatDoor
