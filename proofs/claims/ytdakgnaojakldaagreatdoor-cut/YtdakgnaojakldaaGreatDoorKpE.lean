/- Contract of condition: one, or none. -/
import Derived.Test.YtdakgnaojakldaaGreatDoorKpD
import Derived.Deep.RegionWith
import Derived.Deep.RegionHeld3
import Derived.Deep.DeepCutAuto
import Derived.Deep.CutRange
import Derived.BigQuiet
namespace Go.Proofs.YtdakgnaojakldaaGreatDoor
open Go.RowKit

/-- A statement, raw, as a value. -/
def ruleV (r : Kp.Rule) (v1 v2 v3 : Value) : Value := .agg #[.bool r.deny, v1, v2, v3, .int .i64 r.nt, .int .i64 r.iff, .int .i64 r.key, .int .i64 r.val, .bool r.no, .int .i64 r.style]

/-- Its numbers are a machine's. -/
structure RuleFits (r : Kp.Rule) : Prop where
  nt : I64 r.nt
  iff : I64 r.iff
  key : I64 r.key
  val : I64 r.val
  style : I64 r.style

theorem Below.step {B : Nat} {a b c : World} (h : Below B a b) (k : Below b.heap.size b c) (hB : B ≤ a.heap.size) : Below B a c := h.trans (k.mono (Nat.le_trans hB h.size))

theorem strsIn_lit (w : World) (l : List ByteArray) (c : Nat) : StrsIn (w.alloc (.cells (l.map Value.string).toArray 9)) (.slice (some ⟨w.heap.size, 0, none⟩) l.length c) l :=
  ⟨_, _, rfl, fun k x hx => ⟨_, rfl, by
    have hk : k < l.length := (List.getElem?_eq_some_iff.1 hx).1
    rw [litStr w l k hk, List.getD_eq_getElem?_getD, hx]
    rfl⟩⟩
theorem strsIn_one (w : World) (s : ByteArray) : StrsIn (w.alloc (.cells #[.string s] 9)).drew (.slice (some ⟨w.heap.size, 0, none⟩) 1 1) [s] := strsIn_lit w [s] 1
theorem strsIn_two (w : World) (s : ByteArray) : StrsIn (w.alloc (.cells #[.string s, .string ⟨#[120]⟩] 9)).drew (.slice (some ⟨w.heap.size, 0, none⟩) 2 2) [s, ⟨#[120]⟩] := strsIn_lit w [s, ⟨#[120]⟩] 2

theorem wpAnyH_imp {P : Program} {md : Region.Mode} {ops : Array Oper} {Q : Exit → Act → World → Prop} {S S' : World → Prop} (hS : ∀ w, S' w → S w) : ∀ {fuel : Nat} {listed : Array Bool} {a : Act} {w : World}, wpAnyH P md ops Q S' fuel listed a w → wpAnyH P md ops Q S fuel listed a w
  | 0, _, _, _, h => h
  | fuel + 1, _, _, _, h => ⟨h.1, fun i hi => wpOp_mono (fun _ w' h' => ⟨hS w' h'.1, wpAnyH_imp hS (fuel := fuel) h'.2⟩) (h.2 i hi)⟩

set_option maxHeartbeats 40000000 in
set_option maxRecDepth 100000 in
theorem condK_p (r : Kp.Rule) (a1 : Option Addr) (n1 c1 : Nat) (a2 : Option Addr) (n2 c2 : Nat) (a3 : Option Addr) (n3 c3 : Nat) (w : World) (hr : RuleFits r) :
    Calls Tryz.prog 78 #[ruleV r (.slice a1 n1 c1) (.slice a2 n2 c2) (.slice a3 n3 c3)] w fun e w' => e = .returned (.string (Kp.condB r)) ∧ Below w.heap.size w w' := by
  obtain ⟨deny, who, act, on, nt, iff, key, val, no, st⟩ := r
  obtain ⟨f1, f2, f3, f4, f5⟩ := hr
  simp only at f1 f2 f3 f4 f5
  unfold ruleV
  simp only
  have hkz := Kp.headB_size ⟨deny, who, act, on, nt, iff, key, val, no, st⟩
  have hk : Kp.headB ⟨deny, who, act, on, nt, iff, key, val, no, st⟩ = ⟨#[34, 107, 101, 121, 34, 58, 34]⟩ ++ Kp.keys.getD (Kp.pickN key 5) ⟨#[]⟩ ++ ⟨#[34, 44, 34, 111, 112, 34, 58]⟩ := rfl
  have hno : Kp.noB ⟨deny, who, act, on, nt, iff, key, val, no, st⟩ = if no then ⟨#[44, 34, 110, 111, 34, 58, 116, 114, 117, 101]⟩ else ⟨#[]⟩ := rfl
  have hnz := Kp.noB_size ⟨deny, who, act, on, nt, iff, key, val, no, st⟩
  have hKz := Kp.getD_all (P := fun b => b.size ≤ 3) Kp.keys_size (by decide) (Kp.pickN key 5)
  obtain ⟨R, hR⟩ : ∃ R, Kp.condB ⟨deny, who, act, on, nt, iff, key, val, no, st⟩ = R := ⟨_, rfl⟩
  rw [hR]
  unfold Kp.condB Kp.condWith at hR
  simp only at hR
  obtain ⟨Hd, hHd⟩ : ∃ x, Kp.headB ⟨deny, who, act, on, nt, iff, key, val, no, st⟩ = x := ⟨_, rfl⟩
  obtain ⟨No, hNo⟩ : ∃ x, Kp.noB ⟨deny, who, act, on, nt, iff, key, val, no, st⟩ = x := ⟨_, rfl⟩
  rw [hHd] at hk hkz
  rw [hNo] at hno hnz
  simp only [hHd, hNo] at hR
  have ck := fun W => keyed_p key W f3
  obtain ⟨K, hK⟩ : ∃ x, Kp.keys.getD (Kp.pickN key 5) ⟨#[]⟩ = x := ⟨_, rfl⟩
  simp only [hK] at ck hk hKz
  have CK := hid ck
  have HK := hid hk
  have HNO := hid hno
  have cj := fun W => pick_p iff 8 W f2 (by decide) (by decide)
  have hj8 := Kp.pickN_lt iff 8 (by decide)
  obtain ⟨j, hj⟩ : ∃ j, Kp.pickN iff 8 = j := ⟨_, rfl⟩
  rw [hj] at hj8 hR
  simp only [hj] at cj
  have HR := hid hR
  clear hR
  have CJ := hid cj
  clear cj hj
  have cw := words_p
  have cp := patterns_p
  have CW := hid cw
  have CP := hid cp
  clear ck hk hno hHd hNo hK cw cp
  obtain ⟨A, hA⟩ : ∃ A, w.alloc (.cells #[.bool deny, .slice a1 n1 c1, .slice a2 n2 c2, .slice a3 n3 c3, .int .i64 nt, .int .i64 iff, .int .i64 key, .int .i64 val, .bool no, .int .i64 st] 66) = A := ⟨_, rfl⟩
  have bl := heap_alloc_new w (.cells #[.bool deny, .slice a1 n1 c1, .slice a2 n2 c2, .slice a3 n3 c3, .int .i64 nt, .int .i64 iff, .int .i64 key, .int .i64 val, .bool no, .int .i64 st] 66)
  have bwA : Below w.heap.size w A := by rw [← hA]; exact (Below.refl _ w).alloc (Nat.le_refl _) _
  rw [hA] at bl
  have k5 : A.cell? ⟨w.heap.size, 5, none⟩ = some (.int .i64 iff) := (cells_of_block bl 5).1
  have k6 : A.cell? ⟨w.heap.size, 6, none⟩ = some (.int .i64 key) := (cells_of_block bl 6).1
  have k7 : A.cell? ⟨w.heap.size, 7, none⟩ = some (.int .i64 val) := (cells_of_block bl 7).1
  have k8 : A.cell? ⟨w.heap.size, 8, none⟩ = some (.bool no) := (cells_of_block bl 8).1
  have k9 : A.cell? ⟨w.heap.size, 9, none⟩ = some (.int .i64 st) := (cells_of_block bl 9).1
  have HBW := hid bwA
  have HA := hid hA
  clear bl bwA hA
  go_enter Tryz.func78, Tryz.ntmps78
  go_upto_if 8 with (fail)
  go_cut [3] (fun s wx => s = .string No ∧ wx = A)
  case first =>
    cases no with
    | true =>
      go_wp2_with fail
      go_meet
      case rel => exact ⟨by rw [HNO.out]; rfl, HA.out⟩
    | false =>
      go_wp2_with fail
      go_meet
      case rel => exact ⟨by rw [HNO.out]; rfl, HA.out⟩
  case rest =>
    obtain ⟨rfl, hwc⟩ := hcut
    rw [hwc]
    clear hwc HNO HA
    go_upto_region 8 with (first
      | (go_at_call 19; refine (CJ.out _).mono ?_; rintro e w5 ⟨rfl, e5⟩; rw [e5]; clear e5)
      | (go_at_call 129; refine (CP.out _).mono ?_; rintro e w4 ⟨rfl, e4⟩; have HP := hid (fun k (hk : k < 14) => by rw [e4]; exact litStr w3 Kp.patterns k hk : ∀ k, k < 14 → w4.cell? ⟨w3.heap.size, k, none⟩ = some (.string (Kp.patterns.getD k ⟨#[]⟩))); have b4 : Below w3.heap.size w3 w4 := (by rw [e4]; exact (Below.refl _ w3).alloc (Nat.le_refl _) _); have n5 := cell_later b4 m5; have n7 := cell_later b4 m7; have n9 := cell_later b4 m9; have HB4 := hid (Below.step HB3.out b4 HBZ.out); have HQ := hid (fun k hk => cell_later b4 (HW.out k hk)); clear b4 e4 m5 m7 m9)
      | (go_at_call 91; refine (CW.out _).mono ?_; rintro e w3 ⟨rfl, e3⟩; have HW := hid (fun k (hk : k < 14) => by rw [e3]; exact litStr w2 Kp.words k hk : ∀ k, k < 14 → w3.cell? ⟨w2.heap.size, k, none⟩ = some (.string (Kp.words.getD k ⟨#[]⟩))); have b3 : Below w2.heap.size w2 w3 := (by rw [e3]; exact (Below.refl _ w2).alloc (Nat.le_refl _) _); have m5 := cell_later b3 l5; have m7 := cell_later b3 l7; have m9 := cell_later b3 l9; have HB3 := hid (Below.step HB2.out b3 HBZ.out); clear b3 e3 l5 l7 l9)
      | (go_at_call 128; refine (CK.out _).mono ?_; rintro e w2 ⟨rfl, b2⟩; have l5 := cell_later b2 k5; have l7 := cell_later b2 k7; have l9 := cell_later b2 k9; have HBZ : Hid (w.heap.size ≤ w.heap.size) := (Nat.le_refl _); have HB2 : Hid (Below w.heap.size w w2) := (Below.step HBW.out b2 (Nat.le_refl _)); clear b2 k5 k6 k7 k8 k9))
    rw [← HK.out]
    clear HK CK CW CP CJ HBW HBZ HB2 HB3 HW hKz n5
    have hz4 : w.heap.size < w4.heap.size := World.block_lt_of_cell? _ _ n9
    rcases (by omega : j = 0 ∨ j = 1 ∨ j = 2 ∨ j = 3 ∨ j = 4 ∨ j = 5 ∨ j = 6 ∨ j = 7) with rfl | rfl | rfl | rfl | rfl | rfl | rfl | rfl
    · go_wp2_with fail
      go_ret
      exact ⟨by rw [← HR.out]; rfl, HB4.out⟩
    · go_wp2_with fail
      go_ret
      exact ⟨by rw [← HR.out]; rfl, HB4.out⟩
    · have cp := fun W => pick_p val 14 W f4 (by decide) (by decide)
      have hlt := Kp.pickN_lt val 14 (by decide)
      have q := HQ.out _ hlt
      have s8 := Kp.getD_all (P := fun b => b.size ≤ 8) Kp.words_size (by decide) (Kp.pickN val 14)
      have hR := HR.out
      simp only at hR
      obtain ⟨k, hk⟩ : ∃ k, Kp.pickN val 14 = k := ⟨_, rfl⟩
      simp only [hk] at cp hlt q s8 hR
      obtain ⟨s, hs⟩ : ∃ s, Kp.words.getD k ⟨#[]⟩ = s := ⟨_, rfl⟩
      rw [hs] at q s8 hR
      have cl := fun W v (hv : StrsIn W v [s]) => listedK_p [s] v st W hv f5 (by simp) (by simpa using s8)
      have hlz := Kp.listedB_size [s] st (by simpa using s8)
      obtain ⟨L, hL⟩ : ∃ L, Kp.listedB [s] st = L := ⟨_, rfl⟩
      rw [hL] at hlz hR
      simp only [List.length_singleton] at hlz
      simp only [hL] at cl
      have CPK := hid cp
      have CL := hid cl
      have HR2 := hid hR
      clear cp cl hL hs HQ HP HR hR hk
      go_upto_region 13 with fail
      obtain ⟨f4a, f4b⟩ := f4
      obtain ⟨f5a, f5b⟩ := f5
      have BA : Hid (Below w4.heap.size w4 (w4.alloc (.cells #[.string s] 9)).drew) := ((Below.refl _ w4).alloc (Nat.le_refl _) _).drew
      have y1 : ¬ (9223372036854775807 < 1 + Hd.size) := by omega
      have y2 : ¬ (9223372036854775807 < 1 + Hd.size + 15) := by omega
      have y3 : ¬ (9223372036854775807 < 1 + Hd.size + 15 + L.size) := by omega
      have y4 : ¬ (9223372036854775807 < 1 + Hd.size + 15 + L.size + No.size) := by omega
      have y5 : ¬ (9223372036854775807 < 1 + Hd.size + 15 + L.size + No.size + 1) := by omega
      have k0 : (0 : Int) ≤ (k : Int) := by omega
      have k1 : (k : Int) < 14 := by omega
      go_region_held3 (fun w' => w'.cell? ⟨w.heap.size, 7, none⟩ = some (.int .i64 val) ∧ w'.cell? ⟨w.heap.size, 9, none⟩ = some (.int .i64 st) ∧ w'.cell? ⟨w2.heap.size, k, none⟩ = some (.string s)) (go_keep)
        (first
        | (go_at_call 19; refine (CPK.out _).mono ?_; rintro e w6 ⟨rfl, e6⟩; rw [e6]; clear e6)
        | (go_at_call 130; refine (CL.out _ _ (strsIn_one w4 s)).mono ?_; rintro e w7 ⟨rfl, b7⟩; have b74 := Below.step BA.out b7 (Nat.le_refl _); have z7 := cell_later b74 n7; have z9 := cell_later b74 n9; have zq := cell_later b74 q; have HB7 := hid (Below.step HB4.out b74 (Nat.le_refl _)); clear b7 b74))
      go_wp2_with fail
      go_ret
      exact ⟨by rw [← HR2.out]; rfl, HB7.out⟩
    · have cp := fun W => pick_p val 4 W f4 (by decide) (by decide)
      have hlt := Kp.pickN_lt val 4 (by decide)
      have s8 := Kp.getD_all (P := fun b => b.size ≤ 8) Kp.nums_size (by decide) (Kp.pickN val 4)
      have hR := HR.out
      simp only at hR
      obtain ⟨k, hk⟩ : ∃ k, Kp.pickN val 4 = k := ⟨_, rfl⟩
      simp only [hk] at cp hlt s8 hR
      have q := litStr w4 Kp.nums k hlt
      obtain ⟨s, hs⟩ : ∃ s, Kp.nums.getD k ⟨#[]⟩ = s := ⟨_, rfl⟩
      rw [hs] at s8 hR q
      have cl := fun W v (hv : StrsIn W v [s]) => listedK_p [s] v st W hv f5 (by simp) (by simpa using s8)
      have hlz := Kp.listedB_size [s] st (by simpa using s8)
      obtain ⟨L, hL⟩ : ∃ L, Kp.listedB [s] st = L := ⟨_, rfl⟩
      rw [hL] at hlz hR
      simp only [List.length_singleton] at hlz
      simp only [hL] at cl
      have HQ2 : Hid ((w4.alloc (.cells #[.string ⟨#[48]⟩, .string ⟨#[56]⟩, .string ⟨#[45, 52]⟩, .string ⟨#[49, 48, 48]⟩] 9)).drew.cell? ⟨w4.heap.size, k, none⟩ = some (.string s)) := hid q
      have CPK := hid cp
      have CL := hid cl
      have HR2 := hid hR
      clear cp cl hL hs HQ HP HR hR hk q
      go_upto_region 15 with fail
      obtain ⟨f4a, f4b⟩ := f4
      obtain ⟨f5a, f5b⟩ := f5
      have B1 : Hid (Below w4.heap.size w4 (w4.alloc (.cells #[.string ⟨#[48]⟩, .string ⟨#[56]⟩, .string ⟨#[45, 52]⟩, .string ⟨#[49, 48, 48]⟩] 9))) := (Below.refl _ w4).alloc (Nat.le_refl _) _
      have BA : Hid (Below w4.heap.size w4 ((w4.alloc (.cells #[.string ⟨#[48]⟩, .string ⟨#[56]⟩, .string ⟨#[45, 52]⟩, .string ⟨#[49, 48, 48]⟩] 9)).alloc (.cells #[.string s] 9)).drew) := (B1.out.alloc B1.out.size _).drew
      have BB : Hid (Below (w4.alloc (.cells #[.string ⟨#[48]⟩, .string ⟨#[56]⟩, .string ⟨#[45, 52]⟩, .string ⟨#[49, 48, 48]⟩] 9)).heap.size (w4.alloc (.cells #[.string ⟨#[48]⟩, .string ⟨#[56]⟩, .string ⟨#[45, 52]⟩, .string ⟨#[49, 48, 48]⟩] 9)) ((w4.alloc (.cells #[.string ⟨#[48]⟩, .string ⟨#[56]⟩, .string ⟨#[45, 52]⟩, .string ⟨#[49, 48, 48]⟩] 9)).alloc (.cells #[.string s] 9)).drew) := ((Below.refl _ (w4.alloc (.cells #[.string ⟨#[48]⟩, .string ⟨#[56]⟩, .string ⟨#[45, 52]⟩, .string ⟨#[49, 48, 48]⟩] 9))).alloc (Nat.le_refl _) _).drew
      have HS1 : Hid (StrsIn ((w4.alloc (.cells #[.string ⟨#[48]⟩, .string ⟨#[56]⟩, .string ⟨#[45, 52]⟩, .string ⟨#[49, 48, 48]⟩] 9)).alloc (.cells #[.string s] 9)).drew (.slice (some ⟨w4.heap.size + 1, 0, none⟩) 1 1) [s]) := hid (by have h := strsIn_one (w4.alloc (.cells #[.string ⟨#[48]⟩, .string ⟨#[56]⟩, .string ⟨#[45, 52]⟩, .string ⟨#[49, 48, 48]⟩] 9)) s; rw [show (w4.alloc (.cells #[.string ⟨#[48]⟩, .string ⟨#[56]⟩, .string ⟨#[45, 52]⟩, .string ⟨#[49, 48, 48]⟩] 9)).heap.size = w4.heap.size + 1 by simp] at h; exact h)
      have y1 : ¬ (9223372036854775807 < 1 + Hd.size) := by omega
      have y2 : ¬ (9223372036854775807 < 1 + Hd.size + 16) := by omega
      have y3 : ¬ (9223372036854775807 < 1 + Hd.size + 16 + L.size) := by omega
      have y4 : ¬ (9223372036854775807 < 1 + Hd.size + 16 + L.size + No.size) := by omega
      have y5 : ¬ (9223372036854775807 < 1 + Hd.size + 16 + L.size + No.size + 1) := by omega
      have k0 : (0 : Int) ≤ (k : Int) := by omega
      have k1 : (k : Int) < 4 := by omega
      refine wp_region_noPanic ?_
      refine wp_region_held_drew (S := fun w' => w'.cell? ⟨w.heap.size, 7, none⟩ = some (.int .i64 val) ∧ w'.cell? ⟨w.heap.size, 9, none⟩ = some (.int .i64 st)) (by kernel_rfl) ⟨n7, n9⟩ (fun hHeld => ?_)
      refine wpAnyH_take (i := 0) (oi := ?o1) (v := ?v1) ?hi1 (by kernel_rfl) (by kernel_rfl) (by kernel_rfl) (fun _ _ _ h => h) (Or.inl ⟨?hw1, ?hy1⟩) hHeld ?hrest1
      case hi1 => (rw [List.getElem?_toArray]; rfl)
      case hw1 => rfl
      case hy1 => (intro wT hSw; (try dsimp only at hSw); go_simp; try with_reducible rfl)
      try simp only [Act.put]
      try simp only [List.setIfInBounds_toArray]
      try simp only [List.set_cons_succ]
      try simp only [List.set_cons_zero]
      refine wpAnyH_take (i := 1) (oi := ?o2) (v := ?v2) ?hi2 (by kernel_rfl) (by kernel_rfl) (by kernel_rfl) (fun _ _ _ h => h) (Or.inl ⟨?hw2, ?hy2⟩) hHeld ?hrest2
      case hi2 => (rw [List.getElem?_toArray]; rfl)
      case hw2 => rfl
      case hy2 => (intro wT hSw; (try dsimp only at hSw); go_simp; try with_reducible rfl)
      try simp only [Act.put]
      try simp only [List.setIfInBounds_toArray]
      try simp only [List.set_cons_succ]
      try simp only [List.set_cons_zero]
      refine wpAnyH_take (i := 2) (oi := ?o3) (v := ?v3) ?hi3 (by kernel_rfl) (by kernel_rfl) (by kernel_rfl) (fun _ _ _ h => h) (Or.inl ⟨?hw3, ?hy3⟩) hHeld ?hrest3
      case hi3 => (rw [List.getElem?_toArray]; rfl)
      case hw3 => rfl
      case hy3 => (intro wT hSw; (try dsimp only at hSw); go_simp; try with_reducible rfl)
      try simp only [Act.put]
      try simp only [List.setIfInBounds_toArray]
      try simp only [List.set_cons_succ]
      try simp only [List.set_cons_zero]
      refine wpAnyH_take (i := 4) (oi := ?o4) (v := ?v4) ?hi4 (by kernel_rfl) (by kernel_rfl) (by kernel_rfl) (fun _ _ _ h => h) (Or.inl ⟨?hw4, ?hy4⟩) hHeld ?hrest4
      case hi4 => (rw [List.getElem?_toArray]; rfl)
      case hw4 => rfl
      case hy4 => (intro wT hSw; (try dsimp only at hSw); go_simp; try with_reducible rfl)
      try simp only [Act.put]
      try simp only [List.setIfInBounds_toArray]
      try simp only [List.set_cons_succ]
      try simp only [List.set_cons_zero]
      refine wpAnyH_take (i := 5) (oi := ?o5) (v := ?v5) ?hi5 (by kernel_rfl) (by kernel_rfl) (by kernel_rfl) (fun _ _ _ h => h) (Or.inl ⟨?hw5, ?hy5⟩) hHeld ?hrest5
      case hi5 => (rw [List.getElem?_toArray]; rfl)
      case hw5 => rfl
      case hy5 => (intro wT hSw; (try dsimp only at hSw); go_simp; try with_reducible rfl)
      try simp only [Act.put]
      try simp only [List.setIfInBounds_toArray]
      try simp only [List.set_cons_succ]
      try simp only [List.set_cons_zero]
      refine wpAnyH_take (i := 10) (oi := ?o6) (v := ?v6) ?hi6 (by kernel_rfl) (by kernel_rfl) (by kernel_rfl) (fun _ _ _ h => h) (Or.inl ⟨?hw6, ?hy6⟩) hHeld ?hrest6
      case hi6 => (rw [List.getElem?_toArray]; rfl)
      case hw6 => rfl
      case hy6 => (intro wT hSw; (try dsimp only at hSw); go_simp; try with_reducible rfl)
      try simp only [Act.put]
      try simp only [List.setIfInBounds_toArray]
      try simp only [List.set_cons_succ]
      try simp only [List.set_cons_zero]
      refine wpAnyH_take (i := 11) (oi := ?o7) (v := ?v7) ?hi7 (by kernel_rfl) (by kernel_rfl) (by kernel_rfl) (fun _ _ _ h => h) (Or.inl ⟨?hw7, ?hy7⟩) hHeld ?hrest7
      case hi7 => (rw [List.getElem?_toArray]; rfl)
      case hw7 => rfl
      case hy7 => (intro wT hSw; (try dsimp only at hSw); go_simp; try with_reducible rfl)
      try simp only [Act.put]
      try simp only [List.setIfInBounds_toArray]
      try simp only [List.set_cons_succ]
      try simp only [List.set_cons_zero]
      refine wpAnyH_take (i := 14) (oi := ?o8) (v := ?v8) ?hi8 (by kernel_rfl) (by kernel_rfl) (by kernel_rfl) (fun _ _ _ h => h) (Or.inl ⟨?hw8, ?hy8⟩) hHeld ?hrest8
      case hi8 => (rw [List.getElem?_toArray]; rfl)
      case hw8 => rfl
      case hy8 => (intro wT hSw; (try dsimp only at hSw); go_simp; try with_reducible rfl)
      try simp only [Act.put]
      try simp only [List.setIfInBounds_toArray]
      try simp only [List.set_cons_succ]
      try simp only [List.set_cons_zero]
      refine wpAnyH_ready (rs := [3, 6]) (by kernel_rfl) (by simp) ?rd9
      refine AllReadyH.cons (o := ?oa9) ?ha9 (fun K hK => ?sa9) ?ma9
      case ha9 => (rw [List.getElem?_toArray]; rfl)
      case sa9 =>
        go_simp
        refine hK.out _ _ ?sh9 (fun hHeld => ?cb9)
        case sh9 => ((try dsimp only); go_keep)
        clear hK K
        try simp only [Act.put]
        try simp only [List.setIfInBounds_toArray]
        try simp only [List.set_cons_succ]
        try simp only [List.set_cons_zero]
        refine wpAnyH_ready (rs := [6]) (by kernel_rfl) (by simp) ?rd10
        refine AllReadyH.cons (o := ?ob10) ?hb10 (fun K hK => ?sb10) AllReadyH.nil
        case hb10 => (rw [List.getElem?_toArray]; rfl)
        case sb10 =>
          go_simp
          refine (CPK.out _).mono ?_
          rintro e w6 ⟨rfl, e6⟩
          rw [e6]
          clear e6
          go_wp2_with fail
          refine hK.out _ _ ?sh10 (fun hHeld => ?cb10)
          case sh10 => ((try dsimp only); go_keep)
          clear hK K
          try simp only [Act.put]
          try simp only [List.setIfInBounds_toArray]
          try simp only [List.set_cons_succ]
          try simp only [List.set_cons_zero]
          have hH2 := And.intro hHeld.1 (And.intro hHeld.2 HQ2.out)
          clear hHeld
          have hHeld := hH2
          clear hH2
          refine wpAnyH_imp (S' := fun w' => w'.cell? ⟨w.heap.size, 7, none⟩ = some (.int .i64 val) ∧ w'.cell? ⟨w.heap.size, 9, none⟩ = some (.int .i64 st) ∧ w'.cell? ⟨w4.heap.size, k, none⟩ = some (.string s)) (fun _ h => ⟨h.1, h.2.1⟩) ?_
          refine wpAnyH_take (i := 7) (oi := ?o11) (v := ?v11) ?hi11 (by kernel_rfl) (by kernel_rfl) (by kernel_rfl) (fun _ _ _ h => h) (Or.inl ⟨?hw11, ?hy11⟩) hHeld ?hrest11
          case hi11 => (rw [List.getElem?_toArray]; rfl)
          case hw11 => rfl
          case hy11 => (intro wT hSw; (try dsimp only at hSw); go_simp; try with_reducible rfl)
          try simp only [Act.put]
          try simp only [List.setIfInBounds_toArray]
          try simp only [List.set_cons_succ]
          try simp only [List.set_cons_zero]
          refine wpAnyH_take (i := 8) (oi := ?o12) (v := ?v12) ?hi12 (by kernel_rfl) (by kernel_rfl) (by kernel_rfl) (fun _ _ _ h => h) (Or.inl ⟨?hw12, ?hy12⟩) hHeld ?hrest12
          case hi12 => (rw [List.getElem?_toArray]; rfl)
          case hw12 => rfl
          case hy12 => (intro wT hSw; (try dsimp only at hSw); go_simp; try with_reducible rfl)
          try simp only [Act.put]
          try simp only [List.setIfInBounds_toArray]
          try simp only [List.set_cons_succ]
          try simp only [List.set_cons_zero]
          refine wpAnyH_ready (rs := [9]) (by kernel_rfl) (by simp) ?rd13
          refine AllReadyH.cons (o := ?ob13) ?hb13 (fun K hK => ?sb13) AllReadyH.nil
          case hb13 => (rw [List.getElem?_toArray]; rfl)
          case sb13 =>
            go_simp
            refine hK.out _ _ ?sh13 (fun hHeld => ?cb13)
            case sh13 => exact ⟨cell_later BA.out n7, cell_later BA.out n9, cell_later BB.out HQ2.out⟩
            clear hK K
            try simp only [Act.put]
            try simp only [List.setIfInBounds_toArray]
            try simp only [List.set_cons_succ]
            try simp only [List.set_cons_zero]
            refine wpAnyH_ready (rs := [12]) (by kernel_rfl) (by simp) ?rd14
            refine AllReadyH.cons (o := ?ob14) ?hb14 (fun K hK => ?sb14) AllReadyH.nil
            case hb14 => (rw [List.getElem?_toArray]; rfl)
            case sb14 =>
              go_simp
              refine (CL.out _ _ HS1.out).mono ?_
              rintro e w7 ⟨rfl, b7⟩
              have b74 := Below.step BA.out b7 (Nat.le_refl _)
              have z7 := cell_later b74 n7
              have z9 := cell_later b74 n9
              have zq := cell_later (Below.step BB.out b7 (Nat.le_refl _)) HQ2.out
              have HB7 := hid (Below.step HB4.out b74 (Nat.le_refl _))
              clear b7 b74
              go_wp2_with fail
              refine hK.out _ _ ?sh14 (fun hHeld => ?cb14)
              case sh14 => exact ⟨z7, z9, zq⟩
              clear hK K
              try simp only [Act.put]
              try simp only [List.setIfInBounds_toArray]
              try simp only [List.set_cons_succ]
              try simp only [List.set_cons_zero]
              refine wpAnyH_take (i := 13) (oi := ?o15) (v := ?v15) ?hi15 (by kernel_rfl) (by kernel_rfl) (by kernel_rfl) (fun _ _ _ h => h) (Or.inl ⟨?hw15, ?hy15⟩) hHeld ?hrest15
              case hi15 => (rw [List.getElem?_toArray]; rfl)
              case hw15 => rfl
              case hy15 => (intro wT hSw; (try dsimp only at hSw); go_simp; try with_reducible rfl)
              try simp only [Act.put]
              try simp only [List.setIfInBounds_toArray]
              try simp only [List.set_cons_succ]
              try simp only [List.set_cons_zero]
              refine wpAnyH_take (i := 15) (oi := ?o16) (v := ?v16) ?hi16 (by kernel_rfl) (by kernel_rfl) (by kernel_rfl) (fun _ _ _ h => h) (Or.inl ⟨?hw16, ?hy16⟩) hHeld ?hrest16
              case hi16 => (rw [List.getElem?_toArray]; rfl)
              case hw16 => rfl
              case hy16 => (intro wT hSw; (try dsimp only at hSw); go_simp; try with_reducible rfl)
              try simp only [Act.put]
              try simp only [List.setIfInBounds_toArray]
              try simp only [List.set_cons_succ]
              try simp only [List.set_cons_zero]
              refine wpAnyH_take (i := 16) (oi := ?o17) (v := ?v17) ?hi17 (by kernel_rfl) (by kernel_rfl) (by kernel_rfl) (fun _ _ _ h => h) (Or.inl ⟨?hw17, ?hy17⟩) hHeld ?hrest17
              case hi17 => (rw [List.getElem?_toArray]; rfl)
              case hw17 => rfl
              case hy17 => (intro wT hSw; (try dsimp only at hSw); go_simp; try with_reducible rfl)
              try simp only [Act.put]
              try simp only [List.setIfInBounds_toArray]
              try simp only [List.set_cons_succ]
              try simp only [List.set_cons_zero]
              refine wpAnyH_take (i := 17) (oi := ?o18) (v := ?v18) ?hi18 (by kernel_rfl) (by kernel_rfl) (by kernel_rfl) (fun _ _ _ h => h) (Or.inl ⟨?hw18, ?hy18⟩) hHeld ?hrest18
              case hi18 => (rw [List.getElem?_toArray]; rfl)
              case hw18 => rfl
              case hy18 => (intro wT hSw; (try dsimp only at hSw); go_simp; try with_reducible rfl)
              try simp only [Act.put]
              try simp only [List.setIfInBounds_toArray]
              try simp only [List.set_cons_succ]
              try simp only [List.set_cons_zero]
              refine wpAnyH_done (by kernel_rfl) ?_ _
              refine NoPanic.normal ?_
              go_wp2_with fail
              go_ret
              exact ⟨by rw [← HR2.out]; rfl, HB7.out⟩
      refine AllReadyH.cons (o := ?ob19) ?hb19 (fun K hK => ?sb19) AllReadyH.nil
      case hb19 => (rw [List.getElem?_toArray]; rfl)
      case sb19 =>
        go_simp
        refine (CPK.out _).mono ?_
        rintro e w6 ⟨rfl, e6⟩
        rw [e6]
        clear e6
        go_wp2_with fail
        refine hK.out _ _ ?sh19 (fun hHeld => ?cb19)
        case sh19 => ((try dsimp only); go_keep)
        clear hK K
        try simp only [Act.put]
        try simp only [List.setIfInBounds_toArray]
        try simp only [List.set_cons_succ]
        try simp only [List.set_cons_zero]
        refine wpAnyH_ready (rs := [3]) (by kernel_rfl) (by simp) ?rd20
        refine AllReadyH.cons (o := ?ob20) ?hb20 (fun K hK => ?sb20) AllReadyH.nil
        case hb20 => (rw [List.getElem?_toArray]; rfl)
        case sb20 =>
          go_simp
          refine hK.out _ _ ?sh20 (fun hHeld => ?cb20)
          case sh20 => ((try dsimp only); go_keep)
          clear hK K
          try simp only [Act.put]
          try simp only [List.setIfInBounds_toArray]
          try simp only [List.set_cons_succ]
          try simp only [List.set_cons_zero]
          have hH2 := And.intro hHeld.1 (And.intro hHeld.2 HQ2.out)
          clear hHeld
          have hHeld := hH2
          clear hH2
          refine wpAnyH_imp (S' := fun w' => w'.cell? ⟨w.heap.size, 7, none⟩ = some (.int .i64 val) ∧ w'.cell? ⟨w.heap.size, 9, none⟩ = some (.int .i64 st) ∧ w'.cell? ⟨w4.heap.size, k, none⟩ = some (.string s)) (fun _ h => ⟨h.1, h.2.1⟩) ?_
          refine wpAnyH_take (i := 7) (oi := ?o21) (v := ?v21) ?hi21 (by kernel_rfl) (by kernel_rfl) (by kernel_rfl) (fun _ _ _ h => h) (Or.inl ⟨?hw21, ?hy21⟩) hHeld ?hrest21
          case hi21 => (rw [List.getElem?_toArray]; rfl)
          case hw21 => rfl
          case hy21 => (intro wT hSw; (try dsimp only at hSw); go_simp; try with_reducible rfl)
          try simp only [Act.put]
          try simp only [List.setIfInBounds_toArray]
          try simp only [List.set_cons_succ]
          try simp only [List.set_cons_zero]
          refine wpAnyH_take (i := 8) (oi := ?o22) (v := ?v22) ?hi22 (by kernel_rfl) (by kernel_rfl) (by kernel_rfl) (fun _ _ _ h => h) (Or.inl ⟨?hw22, ?hy22⟩) hHeld ?hrest22
          case hi22 => (rw [List.getElem?_toArray]; rfl)
          case hw22 => rfl
          case hy22 => (intro wT hSw; (try dsimp only at hSw); go_simp; try with_reducible rfl)
          try simp only [Act.put]
          try simp only [List.setIfInBounds_toArray]
          try simp only [List.set_cons_succ]
          try simp only [List.set_cons_zero]
          refine wpAnyH_ready (rs := [9]) (by kernel_rfl) (by simp) ?rd23
          refine AllReadyH.cons (o := ?ob23) ?hb23 (fun K hK => ?sb23) AllReadyH.nil
          case hb23 => (rw [List.getElem?_toArray]; rfl)
          case sb23 =>
            go_simp
            refine hK.out _ _ ?sh23 (fun hHeld => ?cb23)
            case sh23 => exact ⟨cell_later BA.out n7, cell_later BA.out n9, cell_later BB.out HQ2.out⟩
            clear hK K
            try simp only [Act.put]
            try simp only [List.setIfInBounds_toArray]
            try simp only [List.set_cons_succ]
            try simp only [List.set_cons_zero]
            refine wpAnyH_ready (rs := [12]) (by kernel_rfl) (by simp) ?rd24
            refine AllReadyH.cons (o := ?ob24) ?hb24 (fun K hK => ?sb24) AllReadyH.nil
            case hb24 => (rw [List.getElem?_toArray]; rfl)
            case sb24 =>
              go_simp
              refine (CL.out _ _ HS1.out).mono ?_
              rintro e w7 ⟨rfl, b7⟩
              have b74 := Below.step BA.out b7 (Nat.le_refl _)
              have z7 := cell_later b74 n7
              have z9 := cell_later b74 n9
              have zq := cell_later (Below.step BB.out b7 (Nat.le_refl _)) HQ2.out
              have HB7 := hid (Below.step HB4.out b74 (Nat.le_refl _))
              clear b7 b74
              go_wp2_with fail
              refine hK.out _ _ ?sh24 (fun hHeld => ?cb24)
              case sh24 => exact ⟨z7, z9, zq⟩
              clear hK K
              try simp only [Act.put]
              try simp only [List.setIfInBounds_toArray]
              try simp only [List.set_cons_succ]
              try simp only [List.set_cons_zero]
              refine wpAnyH_take (i := 13) (oi := ?o25) (v := ?v25) ?hi25 (by kernel_rfl) (by kernel_rfl) (by kernel_rfl) (fun _ _ _ h => h) (Or.inl ⟨?hw25, ?hy25⟩) hHeld ?hrest25
              case hi25 => (rw [List.getElem?_toArray]; rfl)
              case hw25 => rfl
              case hy25 => (intro wT hSw; (try dsimp only at hSw); go_simp; try with_reducible rfl)
              try simp only [Act.put]
              try simp only [List.setIfInBounds_toArray]
              try simp only [List.set_cons_succ]
              try simp only [List.set_cons_zero]
              refine wpAnyH_take (i := 15) (oi := ?o26) (v := ?v26) ?hi26 (by kernel_rfl) (by kernel_rfl) (by kernel_rfl) (fun _ _ _ h => h) (Or.inl ⟨?hw26, ?hy26⟩) hHeld ?hrest26
              case hi26 => (rw [List.getElem?_toArray]; rfl)
              case hw26 => rfl
              case hy26 => (intro wT hSw; (try dsimp only at hSw); go_simp; try with_reducible rfl)
              try simp only [Act.put]
              try simp only [List.setIfInBounds_toArray]
              try simp only [List.set_cons_succ]
              try simp only [List.set_cons_zero]
              refine wpAnyH_take (i := 16) (oi := ?o27) (v := ?v27) ?hi27 (by kernel_rfl) (by kernel_rfl) (by kernel_rfl) (fun _ _ _ h => h) (Or.inl ⟨?hw27, ?hy27⟩) hHeld ?hrest27
              case hi27 => (rw [List.getElem?_toArray]; rfl)
              case hw27 => rfl
              case hy27 => (intro wT hSw; (try dsimp only at hSw); go_simp; try with_reducible rfl)
              try simp only [Act.put]
              try simp only [List.setIfInBounds_toArray]
              try simp only [List.set_cons_succ]
              try simp only [List.set_cons_zero]
              refine wpAnyH_take (i := 17) (oi := ?o28) (v := ?v28) ?hi28 (by kernel_rfl) (by kernel_rfl) (by kernel_rfl) (fun _ _ _ h => h) (Or.inl ⟨?hw28, ?hy28⟩) hHeld ?hrest28
              case hi28 => (rw [List.getElem?_toArray]; rfl)
              case hw28 => rfl
              case hy28 => (intro wT hSw; (try dsimp only at hSw); go_simp; try with_reducible rfl)
              try simp only [Act.put]
              try simp only [List.setIfInBounds_toArray]
              try simp only [List.set_cons_succ]
              try simp only [List.set_cons_zero]
              refine wpAnyH_done (by kernel_rfl) ?_ _
              refine NoPanic.normal ?_
              go_wp2_with fail
              go_ret
              exact ⟨by rw [← HR2.out]; rfl, HB7.out⟩
    · have cp := fun W => pick_p val 3 W f4 (by decide) (by decide)
      have hlt := Kp.pickN_lt val 3 (by decide)
      have s8 := Kp.getD_all (P := fun b => b.size ≤ 8) Kp.unders_size (by decide) (Kp.pickN val 3)
      have hR := HR.out
      simp only at hR
      obtain ⟨k, hk⟩ : ∃ k, Kp.pickN val 3 = k := ⟨_, rfl⟩
      simp only [hk] at cp hlt s8 hR
      have q := litStr w4 Kp.unders k hlt
      obtain ⟨s, hs⟩ : ∃ s, Kp.unders.getD k ⟨#[]⟩ = s := ⟨_, rfl⟩
      rw [hs] at s8 hR q
      have cl := fun W v (hv : StrsIn W v [s]) => listedK_p [s] v st W hv f5 (by simp) (by simpa using s8)
      have hlz := Kp.listedB_size [s] st (by simpa using s8)
      obtain ⟨L, hL⟩ : ∃ L, Kp.listedB [s] st = L := ⟨_, rfl⟩
      rw [hL] at hlz hR
      simp only [List.length_singleton] at hlz
      simp only [hL] at cl
      have HQ2 : Hid ((w4.alloc (.cells #[.string ⟨#[98, 111, 120]⟩, .string ⟨#[98, 111, 120, 47, 49]⟩, .string ⟨#[97]⟩] 9)).drew.cell? ⟨w4.heap.size, k, none⟩ = some (.string s)) := hid q
      have CPK := hid cp
      have CL := hid cl
      have HR2 := hid hR
      clear cp cl hL hs HQ HP HR hR hk q
      go_upto_region 17 with fail
      obtain ⟨f4a, f4b⟩ := f4
      obtain ⟨f5a, f5b⟩ := f5
      have B1 : Hid (Below w4.heap.size w4 (w4.alloc (.cells #[.string ⟨#[98, 111, 120]⟩, .string ⟨#[98, 111, 120, 47, 49]⟩, .string ⟨#[97]⟩] 9))) := (Below.refl _ w4).alloc (Nat.le_refl _) _
      have BA : Hid (Below w4.heap.size w4 ((w4.alloc (.cells #[.string ⟨#[98, 111, 120]⟩, .string ⟨#[98, 111, 120, 47, 49]⟩, .string ⟨#[97]⟩] 9)).alloc (.cells #[.string s] 9)).drew) := (B1.out.alloc B1.out.size _).drew
      have BB : Hid (Below (w4.alloc (.cells #[.string ⟨#[98, 111, 120]⟩, .string ⟨#[98, 111, 120, 47, 49]⟩, .string ⟨#[97]⟩] 9)).heap.size (w4.alloc (.cells #[.string ⟨#[98, 111, 120]⟩, .string ⟨#[98, 111, 120, 47, 49]⟩, .string ⟨#[97]⟩] 9)) ((w4.alloc (.cells #[.string ⟨#[98, 111, 120]⟩, .string ⟨#[98, 111, 120, 47, 49]⟩, .string ⟨#[97]⟩] 9)).alloc (.cells #[.string s] 9)).drew) := ((Below.refl _ (w4.alloc (.cells #[.string ⟨#[98, 111, 120]⟩, .string ⟨#[98, 111, 120, 47, 49]⟩, .string ⟨#[97]⟩] 9))).alloc (Nat.le_refl _) _).drew
      have HS1 : Hid (StrsIn ((w4.alloc (.cells #[.string ⟨#[98, 111, 120]⟩, .string ⟨#[98, 111, 120, 47, 49]⟩, .string ⟨#[97]⟩] 9)).alloc (.cells #[.string s] 9)).drew (.slice (some ⟨w4.heap.size + 1, 0, none⟩) 1 1) [s]) := hid (by have h := strsIn_one (w4.alloc (.cells #[.string ⟨#[98, 111, 120]⟩, .string ⟨#[98, 111, 120, 47, 49]⟩, .string ⟨#[97]⟩] 9)) s; rw [show (w4.alloc (.cells #[.string ⟨#[98, 111, 120]⟩, .string ⟨#[98, 111, 120, 47, 49]⟩, .string ⟨#[97]⟩] 9)).heap.size = w4.heap.size + 1 by simp] at h; exact h)
      have y1 : ¬ (9223372036854775807 < 1 + Hd.size) := by omega
      have y2 : ¬ (9223372036854775807 < 1 + Hd.size + 16) := by omega
      have y3 : ¬ (9223372036854775807 < 1 + Hd.size + 16 + L.size) := by omega
      have y4 : ¬ (9223372036854775807 < 1 + Hd.size + 16 + L.size + No.size) := by omega
      have y5 : ¬ (9223372036854775807 < 1 + Hd.size + 16 + L.size + No.size + 1) := by omega
      have k0 : (0 : Int) ≤ (k : Int) := by omega
      have k1 : (k : Int) < 3 := by omega
      refine wp_region_noPanic ?_
      refine wp_region_held_drew (S := fun w' => w'.cell? ⟨w.heap.size, 7, none⟩ = some (.int .i64 val) ∧ w'.cell? ⟨w.heap.size, 9, none⟩ = some (.int .i64 st)) (by kernel_rfl) ⟨n7, n9⟩ (fun hHeld => ?_)
      refine wpAnyH_take (i := 0) (oi := ?o29) (v := ?v29) ?hi29 (by kernel_rfl) (by kernel_rfl) (by kernel_rfl) (fun _ _ _ h => h) (Or.inl ⟨?hw29, ?hy29⟩) hHeld ?hrest29
      case hi29 => (rw [List.getElem?_toArray]; rfl)
      case hw29 => rfl
      case hy29 => (intro wT hSw; (try dsimp only at hSw); go_simp; try with_reducible rfl)
      try simp only [Act.put]
      try simp only [List.setIfInBounds_toArray]
      try simp only [List.set_cons_succ]
      try simp only [List.set_cons_zero]
      refine wpAnyH_take (i := 1) (oi := ?o30) (v := ?v30) ?hi30 (by kernel_rfl) (by kernel_rfl) (by kernel_rfl) (fun _ _ _ h => h) (Or.inl ⟨?hw30, ?hy30⟩) hHeld ?hrest30
      case hi30 => (rw [List.getElem?_toArray]; rfl)
      case hw30 => rfl
      case hy30 => (intro wT hSw; (try dsimp only at hSw); go_simp; try with_reducible rfl)
      try simp only [Act.put]
      try simp only [List.setIfInBounds_toArray]
      try simp only [List.set_cons_succ]
      try simp only [List.set_cons_zero]
      refine wpAnyH_take (i := 2) (oi := ?o31) (v := ?v31) ?hi31 (by kernel_rfl) (by kernel_rfl) (by kernel_rfl) (fun _ _ _ h => h) (Or.inl ⟨?hw31, ?hy31⟩) hHeld ?hrest31
      case hi31 => (rw [List.getElem?_toArray]; rfl)
      case hw31 => rfl
      case hy31 => (intro wT hSw; (try dsimp only at hSw); go_simp; try with_reducible rfl)
      try simp only [Act.put]
      try simp only [List.setIfInBounds_toArray]
      try simp only [List.set_cons_succ]
      try simp only [List.set_cons_zero]
      refine wpAnyH_take (i := 4) (oi := ?o32) (v := ?v32) ?hi32 (by kernel_rfl) (by kernel_rfl) (by kernel_rfl) (fun _ _ _ h => h) (Or.inl ⟨?hw32, ?hy32⟩) hHeld ?hrest32
      case hi32 => (rw [List.getElem?_toArray]; rfl)
      case hw32 => rfl
      case hy32 => (intro wT hSw; (try dsimp only at hSw); go_simp; try with_reducible rfl)
      try simp only [Act.put]
      try simp only [List.setIfInBounds_toArray]
      try simp only [List.set_cons_succ]
      try simp only [List.set_cons_zero]
      refine wpAnyH_take (i := 5) (oi := ?o33) (v := ?v33) ?hi33 (by kernel_rfl) (by kernel_rfl) (by kernel_rfl) (fun _ _ _ h => h) (Or.inl ⟨?hw33, ?hy33⟩) hHeld ?hrest33
      case hi33 => (rw [List.getElem?_toArray]; rfl)
      case hw33 => rfl
      case hy33 => (intro wT hSw; (try dsimp only at hSw); go_simp; try with_reducible rfl)
      try simp only [Act.put]
      try simp only [List.setIfInBounds_toArray]
      try simp only [List.set_cons_succ]
      try simp only [List.set_cons_zero]
      refine wpAnyH_take (i := 10) (oi := ?o34) (v := ?v34) ?hi34 (by kernel_rfl) (by kernel_rfl) (by kernel_rfl) (fun _ _ _ h => h) (Or.inl ⟨?hw34, ?hy34⟩) hHeld ?hrest34
      case hi34 => (rw [List.getElem?_toArray]; rfl)
      case hw34 => rfl
      case hy34 => (intro wT hSw; (try dsimp only at hSw); go_simp; try with_reducible rfl)
      try simp only [Act.put]
      try simp only [List.setIfInBounds_toArray]
      try simp only [List.set_cons_succ]
      try simp only [List.set_cons_zero]
      refine wpAnyH_take (i := 11) (oi := ?o35) (v := ?v35) ?hi35 (by kernel_rfl) (by kernel_rfl) (by kernel_rfl) (fun _ _ _ h => h) (Or.inl ⟨?hw35, ?hy35⟩) hHeld ?hrest35
      case hi35 => (rw [List.getElem?_toArray]; rfl)
      case hw35 => rfl
      case hy35 => (intro wT hSw; (try dsimp only at hSw); go_simp; try with_reducible rfl)
      try simp only [Act.put]
      try simp only [List.setIfInBounds_toArray]
      try simp only [List.set_cons_succ]
      try simp only [List.set_cons_zero]
      refine wpAnyH_take (i := 14) (oi := ?o36) (v := ?v36) ?hi36 (by kernel_rfl) (by kernel_rfl) (by kernel_rfl) (fun _ _ _ h => h) (Or.inl ⟨?hw36, ?hy36⟩) hHeld ?hrest36
      case hi36 => (rw [List.getElem?_toArray]; rfl)
      case hw36 => rfl
      case hy36 => (intro wT hSw; (try dsimp only at hSw); go_simp; try with_reducible rfl)
      try simp only [Act.put]
      try simp only [List.setIfInBounds_toArray]
      try simp only [List.set_cons_succ]
      try simp only [List.set_cons_zero]
      refine wpAnyH_ready (rs := [3, 6]) (by kernel_rfl) (by simp) ?rd37
      refine AllReadyH.cons (o := ?oa37) ?ha37 (fun K hK => ?sa37) ?ma37
      case ha37 => (rw [List.getElem?_toArray]; rfl)
      case sa37 =>
        go_simp
        refine hK.out _ _ ?sh37 (fun hHeld => ?cb37)
        case sh37 => ((try dsimp only); go_keep)
        clear hK K
        try simp only [Act.put]
        try simp only [List.setIfInBounds_toArray]
        try simp only [List.set_cons_succ]
        try simp only [List.set_cons_zero]
        refine wpAnyH_ready (rs := [6]) (by kernel_rfl) (by simp) ?rd38
        refine AllReadyH.cons (o := ?ob38) ?hb38 (fun K hK => ?sb38) AllReadyH.nil
        case hb38 => (rw [List.getElem?_toArray]; rfl)
        case sb38 =>
          go_simp
          refine (CPK.out _).mono ?_
          rintro e w6 ⟨rfl, e6⟩
          rw [e6]
          clear e6
          go_wp2_with fail
          refine hK.out _ _ ?sh38 (fun hHeld => ?cb38)
          case sh38 => ((try dsimp only); go_keep)
          clear hK K
          try simp only [Act.put]
          try simp only [List.setIfInBounds_toArray]
          try simp only [List.set_cons_succ]
          try simp only [List.set_cons_zero]
          have hH2 := And.intro hHeld.1 (And.intro hHeld.2 HQ2.out)
          clear hHeld
          have hHeld := hH2
          clear hH2
          refine wpAnyH_imp (S' := fun w' => w'.cell? ⟨w.heap.size, 7, none⟩ = some (.int .i64 val) ∧ w'.cell? ⟨w.heap.size, 9, none⟩ = some (.int .i64 st) ∧ w'.cell? ⟨w4.heap.size, k, none⟩ = some (.string s)) (fun _ h => ⟨h.1, h.2.1⟩) ?_
          refine wpAnyH_take (i := 7) (oi := ?o39) (v := ?v39) ?hi39 (by kernel_rfl) (by kernel_rfl) (by kernel_rfl) (fun _ _ _ h => h) (Or.inl ⟨?hw39, ?hy39⟩) hHeld ?hrest39
          case hi39 => (rw [List.getElem?_toArray]; rfl)
          case hw39 => rfl
          case hy39 => (intro wT hSw; (try dsimp only at hSw); go_simp; try with_reducible rfl)
          try simp only [Act.put]
          try simp only [List.setIfInBounds_toArray]
          try simp only [List.set_cons_succ]
          try simp only [List.set_cons_zero]
          refine wpAnyH_take (i := 8) (oi := ?o40) (v := ?v40) ?hi40 (by kernel_rfl) (by kernel_rfl) (by kernel_rfl) (fun _ _ _ h => h) (Or.inl ⟨?hw40, ?hy40⟩) hHeld ?hrest40
          case hi40 => (rw [List.getElem?_toArray]; rfl)
          case hw40 => rfl
          case hy40 => (intro wT hSw; (try dsimp only at hSw); go_simp; try with_reducible rfl)
          try simp only [Act.put]
          try simp only [List.setIfInBounds_toArray]
          try simp only [List.set_cons_succ]
          try simp only [List.set_cons_zero]
          refine wpAnyH_ready (rs := [9]) (by kernel_rfl) (by simp) ?rd41
          refine AllReadyH.cons (o := ?ob41) ?hb41 (fun K hK => ?sb41) AllReadyH.nil
          case hb41 => (rw [List.getElem?_toArray]; rfl)
          case sb41 =>
            go_simp
            refine hK.out _ _ ?sh41 (fun hHeld => ?cb41)
            case sh41 => exact ⟨cell_later BA.out n7, cell_later BA.out n9, cell_later BB.out HQ2.out⟩
            clear hK K
            try simp only [Act.put]
            try simp only [List.setIfInBounds_toArray]
            try simp only [List.set_cons_succ]
            try simp only [List.set_cons_zero]
            refine wpAnyH_ready (rs := [12]) (by kernel_rfl) (by simp) ?rd42
            refine AllReadyH.cons (o := ?ob42) ?hb42 (fun K hK => ?sb42) AllReadyH.nil
            case hb42 => (rw [List.getElem?_toArray]; rfl)
            case sb42 =>
              go_simp
              refine (CL.out _ _ HS1.out).mono ?_
              rintro e w7 ⟨rfl, b7⟩
              have b74 := Below.step BA.out b7 (Nat.le_refl _)
              have z7 := cell_later b74 n7
              have z9 := cell_later b74 n9
              have zq := cell_later (Below.step BB.out b7 (Nat.le_refl _)) HQ2.out
              have HB7 := hid (Below.step HB4.out b74 (Nat.le_refl _))
              clear b7 b74
              go_wp2_with fail
              refine hK.out _ _ ?sh42 (fun hHeld => ?cb42)
              case sh42 => exact ⟨z7, z9, zq⟩
              clear hK K
              try simp only [Act.put]
              try simp only [List.setIfInBounds_toArray]
              try simp only [List.set_cons_succ]
              try simp only [List.set_cons_zero]
              refine wpAnyH_take (i := 13) (oi := ?o43) (v := ?v43) ?hi43 (by kernel_rfl) (by kernel_rfl) (by kernel_rfl) (fun _ _ _ h => h) (Or.inl ⟨?hw43, ?hy43⟩) hHeld ?hrest43
              case hi43 => (rw [List.getElem?_toArray]; rfl)
              case hw43 => rfl
              case hy43 => (intro wT hSw; (try dsimp only at hSw); go_simp; try with_reducible rfl)
              try simp only [Act.put]
              try simp only [List.setIfInBounds_toArray]
              try simp only [List.set_cons_succ]
              try simp only [List.set_cons_zero]
              refine wpAnyH_take (i := 15) (oi := ?o44) (v := ?v44) ?hi44 (by kernel_rfl) (by kernel_rfl) (by kernel_rfl) (fun _ _ _ h => h) (Or.inl ⟨?hw44, ?hy44⟩) hHeld ?hrest44
              case hi44 => (rw [List.getElem?_toArray]; rfl)
              case hw44 => rfl
              case hy44 => (intro wT hSw; (try dsimp only at hSw); go_simp; try with_reducible rfl)
              try simp only [Act.put]
              try simp only [List.setIfInBounds_toArray]
              try simp only [List.set_cons_succ]
              try simp only [List.set_cons_zero]
              refine wpAnyH_take (i := 16) (oi := ?o45) (v := ?v45) ?hi45 (by kernel_rfl) (by kernel_rfl) (by kernel_rfl) (fun _ _ _ h => h) (Or.inl ⟨?hw45, ?hy45⟩) hHeld ?hrest45
              case hi45 => (rw [List.getElem?_toArray]; rfl)
              case hw45 => rfl
              case hy45 => (intro wT hSw; (try dsimp only at hSw); go_simp; try with_reducible rfl)
              try simp only [Act.put]
              try simp only [List.setIfInBounds_toArray]
              try simp only [List.set_cons_succ]
              try simp only [List.set_cons_zero]
              refine wpAnyH_take (i := 17) (oi := ?o46) (v := ?v46) ?hi46 (by kernel_rfl) (by kernel_rfl) (by kernel_rfl) (fun _ _ _ h => h) (Or.inl ⟨?hw46, ?hy46⟩) hHeld ?hrest46
              case hi46 => (rw [List.getElem?_toArray]; rfl)
              case hw46 => rfl
              case hy46 => (intro wT hSw; (try dsimp only at hSw); go_simp; try with_reducible rfl)
              try simp only [Act.put]
              try simp only [List.setIfInBounds_toArray]
              try simp only [List.set_cons_succ]
              try simp only [List.set_cons_zero]
              refine wpAnyH_done (by kernel_rfl) ?_ _
              refine NoPanic.normal ?_
              go_wp2_with fail
              go_ret
              exact ⟨by rw [← HR2.out]; rfl, HB7.out⟩
      refine AllReadyH.cons (o := ?ob47) ?hb47 (fun K hK => ?sb47) AllReadyH.nil
      case hb47 => (rw [List.getElem?_toArray]; rfl)
      case sb47 =>
        go_simp
        refine (CPK.out _).mono ?_
        rintro e w6 ⟨rfl, e6⟩
        rw [e6]
        clear e6
        go_wp2_with fail
        refine hK.out _ _ ?sh47 (fun hHeld => ?cb47)
        case sh47 => ((try dsimp only); go_keep)
        clear hK K
        try simp only [Act.put]
        try simp only [List.setIfInBounds_toArray]
        try simp only [List.set_cons_succ]
        try simp only [List.set_cons_zero]
        refine wpAnyH_ready (rs := [3]) (by kernel_rfl) (by simp) ?rd48
        refine AllReadyH.cons (o := ?ob48) ?hb48 (fun K hK => ?sb48) AllReadyH.nil
        case hb48 => (rw [List.getElem?_toArray]; rfl)
        case sb48 =>
          go_simp
          refine hK.out _ _ ?sh48 (fun hHeld => ?cb48)
          case sh48 => ((try dsimp only); go_keep)
          clear hK K
          try simp only [Act.put]
          try simp only [List.setIfInBounds_toArray]
          try simp only [List.set_cons_succ]
          try simp only [List.set_cons_zero]
          have hH2 := And.intro hHeld.1 (And.intro hHeld.2 HQ2.out)
          clear hHeld
          have hHeld := hH2
          clear hH2
          refine wpAnyH_imp (S' := fun w' => w'.cell? ⟨w.heap.size, 7, none⟩ = some (.int .i64 val) ∧ w'.cell? ⟨w.heap.size, 9, none⟩ = some (.int .i64 st) ∧ w'.cell? ⟨w4.heap.size, k, none⟩ = some (.string s)) (fun _ h => ⟨h.1, h.2.1⟩) ?_
          refine wpAnyH_take (i := 7) (oi := ?o49) (v := ?v49) ?hi49 (by kernel_rfl) (by kernel_rfl) (by kernel_rfl) (fun _ _ _ h => h) (Or.inl ⟨?hw49, ?hy49⟩) hHeld ?hrest49
          case hi49 => (rw [List.getElem?_toArray]; rfl)
          case hw49 => rfl
          case hy49 => (intro wT hSw; (try dsimp only at hSw); go_simp; try with_reducible rfl)
          try simp only [Act.put]
          try simp only [List.setIfInBounds_toArray]
          try simp only [List.set_cons_succ]
          try simp only [List.set_cons_zero]
          refine wpAnyH_take (i := 8) (oi := ?o50) (v := ?v50) ?hi50 (by kernel_rfl) (by kernel_rfl) (by kernel_rfl) (fun _ _ _ h => h) (Or.inl ⟨?hw50, ?hy50⟩) hHeld ?hrest50
          case hi50 => (rw [List.getElem?_toArray]; rfl)
          case hw50 => rfl
          case hy50 => (intro wT hSw; (try dsimp only at hSw); go_simp; try with_reducible rfl)
          try simp only [Act.put]
          try simp only [List.setIfInBounds_toArray]
          try simp only [List.set_cons_succ]
          try simp only [List.set_cons_zero]
          refine wpAnyH_ready (rs := [9]) (by kernel_rfl) (by simp) ?rd51
          refine AllReadyH.cons (o := ?ob51) ?hb51 (fun K hK => ?sb51) AllReadyH.nil
          case hb51 => (rw [List.getElem?_toArray]; rfl)
          case sb51 =>
            go_simp
            refine hK.out _ _ ?sh51 (fun hHeld => ?cb51)
            case sh51 => exact ⟨cell_later BA.out n7, cell_later BA.out n9, cell_later BB.out HQ2.out⟩
            clear hK K
            try simp only [Act.put]
            try simp only [List.setIfInBounds_toArray]
            try simp only [List.set_cons_succ]
            try simp only [List.set_cons_zero]
            refine wpAnyH_ready (rs := [12]) (by kernel_rfl) (by simp) ?rd52
            refine AllReadyH.cons (o := ?ob52) ?hb52 (fun K hK => ?sb52) AllReadyH.nil
            case hb52 => (rw [List.getElem?_toArray]; rfl)
            case sb52 =>
              go_simp
              refine (CL.out _ _ HS1.out).mono ?_
              rintro e w7 ⟨rfl, b7⟩
              have b74 := Below.step BA.out b7 (Nat.le_refl _)
              have z7 := cell_later b74 n7
              have z9 := cell_later b74 n9
              have zq := cell_later (Below.step BB.out b7 (Nat.le_refl _)) HQ2.out
              have HB7 := hid (Below.step HB4.out b74 (Nat.le_refl _))
              clear b7 b74
              go_wp2_with fail
              refine hK.out _ _ ?sh52 (fun hHeld => ?cb52)
              case sh52 => exact ⟨z7, z9, zq⟩
              clear hK K
              try simp only [Act.put]
              try simp only [List.setIfInBounds_toArray]
              try simp only [List.set_cons_succ]
              try simp only [List.set_cons_zero]
              refine wpAnyH_take (i := 13) (oi := ?o53) (v := ?v53) ?hi53 (by kernel_rfl) (by kernel_rfl) (by kernel_rfl) (fun _ _ _ h => h) (Or.inl ⟨?hw53, ?hy53⟩) hHeld ?hrest53
              case hi53 => (rw [List.getElem?_toArray]; rfl)
              case hw53 => rfl
              case hy53 => (intro wT hSw; (try dsimp only at hSw); go_simp; try with_reducible rfl)
              try simp only [Act.put]
              try simp only [List.setIfInBounds_toArray]
              try simp only [List.set_cons_succ]
              try simp only [List.set_cons_zero]
              refine wpAnyH_take (i := 15) (oi := ?o54) (v := ?v54) ?hi54 (by kernel_rfl) (by kernel_rfl) (by kernel_rfl) (fun _ _ _ h => h) (Or.inl ⟨?hw54, ?hy54⟩) hHeld ?hrest54
              case hi54 => (rw [List.getElem?_toArray]; rfl)
              case hw54 => rfl
              case hy54 => (intro wT hSw; (try dsimp only at hSw); go_simp; try with_reducible rfl)
              try simp only [Act.put]
              try simp only [List.setIfInBounds_toArray]
              try simp only [List.set_cons_succ]
              try simp only [List.set_cons_zero]
              refine wpAnyH_take (i := 16) (oi := ?o55) (v := ?v55) ?hi55 (by kernel_rfl) (by kernel_rfl) (by kernel_rfl) (fun _ _ _ h => h) (Or.inl ⟨?hw55, ?hy55⟩) hHeld ?hrest55
              case hi55 => (rw [List.getElem?_toArray]; rfl)
              case hw55 => rfl
              case hy55 => (intro wT hSw; (try dsimp only at hSw); go_simp; try with_reducible rfl)
              try simp only [Act.put]
              try simp only [List.setIfInBounds_toArray]
              try simp only [List.set_cons_succ]
              try simp only [List.set_cons_zero]
              refine wpAnyH_take (i := 17) (oi := ?o56) (v := ?v56) ?hi56 (by kernel_rfl) (by kernel_rfl) (by kernel_rfl) (fun _ _ _ h => h) (Or.inl ⟨?hw56, ?hy56⟩) hHeld ?hrest56
              case hi56 => (rw [List.getElem?_toArray]; rfl)
              case hw56 => rfl
              case hy56 => (intro wT hSw; (try dsimp only at hSw); go_simp; try with_reducible rfl)
              try simp only [Act.put]
              try simp only [List.setIfInBounds_toArray]
              try simp only [List.set_cons_succ]
              try simp only [List.set_cons_zero]
              refine wpAnyH_done (by kernel_rfl) ?_ _
              refine NoPanic.normal ?_
              go_wp2_with fail
              go_ret
              exact ⟨by rw [← HR2.out]; rfl, HB7.out⟩
    · go_wp2_with fail
      go_ret
      exact ⟨by rw [← HR.out]; rfl, HB4.out⟩
    · have cp := fun W => pick_p val 14 W f4 (by decide) (by decide)
      have hlt := Kp.pickN_lt val 14 (by decide)
      have q := HP.out _ hlt
      have s8 := Kp.getD_all (P := fun b => b.size ≤ 8) Kp.patterns_size (by decide) (Kp.pickN val 14)
      have hR := HR.out
      simp only at hR
      obtain ⟨k, hk⟩ : ∃ k, Kp.pickN val 14 = k := ⟨_, rfl⟩
      simp only [hk] at cp hlt q s8 hR
      obtain ⟨s, hs⟩ : ∃ s, Kp.patterns.getD k ⟨#[]⟩ = s := ⟨_, rfl⟩
      rw [hs] at q s8 hR
      have cl := fun W v (hv : StrsIn W v [s, ⟨#[120]⟩]) => listedK_p [s, ⟨#[120]⟩] v st W hv f5 (by simp) (by intro b hb; simp at hb; rcases hb with rfl | rfl; exact s8; decide)
      have hlz := Kp.listedB_size [s, ⟨#[120]⟩] st (by intro b hb; simp at hb; rcases hb with rfl | rfl; exact s8; decide)
      obtain ⟨L, hL⟩ : ∃ L, Kp.listedB [s, ⟨#[120]⟩] st = L := ⟨_, rfl⟩
      rw [hL] at hlz hR
      simp only [List.length_cons, List.length_nil] at hlz
      simp only [hL] at cl
      have CPK := hid cp
      have CL := hid cl
      have HR2 := hid hR
      clear cp cl hL hs HQ HP HR hR hk
      go_upto_region 11 with fail
      obtain ⟨f4a, f4b⟩ := f4
      obtain ⟨f5a, f5b⟩ := f5
      have BA : Hid (Below w4.heap.size w4 (w4.alloc (.cells #[.string s, .string ⟨#[120]⟩] 9)).drew) := ((Below.refl _ w4).alloc (Nat.le_refl _) _).drew
      have y1 : ¬ (9223372036854775807 < 1 + Hd.size) := by omega
      have y2 : ¬ (9223372036854775807 < 1 + Hd.size + 15) := by omega
      have y3 : ¬ (9223372036854775807 < 1 + Hd.size + 15 + L.size) := by omega
      have y4 : ¬ (9223372036854775807 < 1 + Hd.size + 15 + L.size + No.size) := by omega
      have y5 : ¬ (9223372036854775807 < 1 + Hd.size + 15 + L.size + No.size + 1) := by omega
      have k0 : (0 : Int) ≤ (k : Int) := by omega
      have k1 : (k : Int) < 14 := by omega
      go_region_held3 (fun w' => w'.cell? ⟨w.heap.size, 7, none⟩ = some (.int .i64 val) ∧ w'.cell? ⟨w.heap.size, 9, none⟩ = some (.int .i64 st) ∧ w'.cell? ⟨w3.heap.size, k, none⟩ = some (.string s)) (go_keep)
        (first
        | (go_at_call 19; refine (CPK.out _).mono ?_; rintro e w6 ⟨rfl, e6⟩; rw [e6]; clear e6)
        | (go_at_call 130; refine (CL.out _ _ (strsIn_two w4 s)).mono ?_; rintro e w7 ⟨rfl, b7⟩; have b74 := Below.step BA.out b7 (Nat.le_refl _); have z7 := cell_later b74 n7; have z9 := cell_later b74 n9; have zq := cell_later b74 q; have HB7 := hid (Below.step HB4.out b74 (Nat.le_refl _)); clear b7 b74))
      go_wp2_with fail
      go_ret
      exact ⟨by rw [← HR2.out]; rfl, HB7.out⟩
    · go_wp2_with fail
      go_ret
      exact ⟨by rw [← HR.out]; rfl, HB4.out⟩

end Go.Proofs.YtdakgnaojakldaaGreatDoor
