/- Contract of statement: one that may be. -/
import Derived.Test.YtdakgnaojakldaaGreatDoorKpE
namespace Go.Proofs.YtdakgnaojakldaaGreatDoor
open Go.RowKit

/-- A world that has grown. -/
structure GrownK (A : World) where
  w : World
  b : Below A.heap.size A w

theorem toList_len (C : ByteArray) : C.toList.length = C.size := by rw [ByteArray.toList_eq, Ref.len_data]
theorem empty_of {C : ByteArray} (h : C.size = 0) : C.toList.isEmpty = true := by
  rw [List.isEmpty_iff, ← List.length_eq_zero_iff, toList_len]; exact h
theorem filled_of {C : ByteArray} (h : ¬ C.size = 0) : C.toList.isEmpty = false := by
  rw [List.isEmpty_eq_false_iff]
  intro e
  apply h
  rw [← toList_len, e]
  rfl

set_option maxHeartbeats 4000000 in
set_option maxRecDepth 100000 in
theorem stmtK_p (r : Kp.Rule) (v1 v2 v3 : Value) (w : World) (hr : RuleFits r) (h1 : IntsIn w v1 r.who) (h2 : IntsIn w v2 r.act) (h3 : IntsIn w v3 r.on) (m1 : r.who.length ≤ maxLen) (m2 : r.act.length ≤ maxLen) (m3 : r.on.length ≤ maxLen) :
    Calls Tryz.prog 39 #[ruleV r v1 v2 v3] w fun e w' => e = .returned (.string (Kp.stmtB r)) ∧ Below w.heap.size w w' := by
  obtain ⟨a1, c1, e1⟩ : ∃ a c, v1 = .slice a r.who.length c := by obtain ⟨a, c, e, _⟩ := h1; exact ⟨a, c, e⟩
  obtain ⟨a2, c2, e2⟩ : ∃ a c, v2 = .slice a r.act.length c := by obtain ⟨a, c, e, _⟩ := h2; exact ⟨a, c, e⟩
  obtain ⟨a3, c3, e3⟩ : ∃ a c, v3 = .slice a r.on.length c := by obtain ⟨a, c, e, _⟩ := h3; exact ⟨a, c, e⟩
  have cc := fun W => condK_p r a1 r.who.length c1 a2 r.act.length c2 a3 r.on.length c3 W hr
  obtain ⟨deny, who, act, on, nt, iff, key, val, no, st⟩ := r
  obtain ⟨f1, f2, f3, f4, f5⟩ := hr
  simp only at f1 f2 f3 f4 f5 e1 e2 e3 h1 h2 h3 m1 m2 m3
  have H1 : Hid (∀ (W : World), Below w.heap.size w W → ∀ nb, Calls Tryz.prog 79 #[v1, .bool nb, .int .i64 st] W fun e w' => e = .returned (.string (Kp.choiceB who nb st)) ∧ Below W.heap.size W w') := hid (fun W hb nb => choiceK_p who v1 nb st W (h1.below hb) m1 f5)
  have H2 : Hid (∀ (W : World), Below w.heap.size w W → ∀ nb, Calls Tryz.prog 79 #[v2, .bool nb, .int .i64 st] W fun e w' => e = .returned (.string (Kp.choiceB act nb st)) ∧ Below W.heap.size W w') := hid (fun W hb nb => choiceK_p act v2 nb st W (h2.below hb) m2 f5)
  have H3 : Hid (∀ (W : World), Below w.heap.size w W → ∀ nb, Calls Tryz.prog 79 #[v3, .bool nb, .int .i64 st] W fun e w' => e = .returned (.string (Kp.choiceB on nb st)) ∧ Below W.heap.size W w') := hid (fun W hb nb => choiceK_p on v3 nb st W (h3.below hb) m3 f5)
  subst e1 e2 e3
  unfold ruleV at cc ⊢
  simp only at cc ⊢
  have hcz := Kp.condB_size ⟨deny, who, act, on, nt, iff, key, val, no, st⟩
  have hez := Kp.effB_size ⟨deny, who, act, on, nt, iff, key, val, no, st⟩
  have hiz := Kp.withIf_size ⟨deny, who, act, on, nt, iff, key, val, no, st⟩
  have hE : Kp.effB ⟨deny, who, act, on, nt, iff, key, val, no, st⟩ = if deny then ⟨#[123, 34, 101, 102, 102, 101, 99, 116, 34, 58, 34, 100, 101, 110, 121, 34, 44]⟩ ++ Kp.padB st else ⟨#[123, 34, 101, 102, 102, 101, 99, 116, 34, 58, 34, 97, 108, 108, 111, 119, 34, 44]⟩ := rfl
  have hI : Kp.withIf ⟨deny, who, act, on, nt, iff, key, val, no, st⟩ = if (Kp.condB ⟨deny, who, act, on, nt, iff, key, val, no, st⟩).size = 0 then Kp.effB ⟨deny, who, act, on, nt, iff, key, val, no, st⟩ else Kp.effB ⟨deny, who, act, on, nt, iff, key, val, no, st⟩ ++ ⟨#[34, 105, 102, 34, 58, 91]⟩ ++ Kp.condB ⟨deny, who, act, on, nt, iff, key, val, no, st⟩ ++ ⟨#[93, 44]⟩ := rfl
  have hR : Kp.stmtB ⟨deny, who, act, on, nt, iff, key, val, no, st⟩ = Kp.withIf ⟨deny, who, act, on, nt, iff, key, val, no, st⟩ ++ ⟨#[34, 111, 110, 34, 58]⟩ ++ Kp.choiceB on (decide (Kp.pickN nt 16 = 1)) st ++ ⟨#[44, 34, 119, 104, 111, 34, 58]⟩ ++ Kp.choiceB who (decide (Kp.pickN nt 16 = 2)) st ++ ⟨#[44, 34, 100, 111, 34, 58]⟩ ++ Kp.choiceB act (decide (Kp.pickN nt 16 = 3)) st ++ ⟨#[125]⟩ := rfl
  rw [hR]
  obtain ⟨C, hC⟩ : ∃ x, Kp.condB ⟨deny, who, act, on, nt, iff, key, val, no, st⟩ = x := ⟨_, rfl⟩
  obtain ⟨E, hEE⟩ : ∃ x, Kp.effB ⟨deny, who, act, on, nt, iff, key, val, no, st⟩ = x := ⟨_, rfl⟩
  obtain ⟨I, hII⟩ : ∃ x, Kp.withIf ⟨deny, who, act, on, nt, iff, key, val, no, st⟩ = x := ⟨_, rfl⟩
  rw [hC, hEE, hII] at hI
  rw [hC] at hcz
  rw [hEE] at hez hE
  rw [hII] at hiz
  rw [hII]
  simp only [hC] at cc
  clear hR hC hEE hII
  have cp := fun W => pad_p st W f5
  have hpz := Kp.padB_size st
  obtain ⟨Pd, hPd⟩ : ∃ x, Kp.padB st = x := ⟨_, rfl⟩
  rw [hPd] at hE hpz
  simp only [hPd] at cp
  have cn := fun W => pick_p nt 16 W f1 (by decide) (by decide)
  have hn16 := Kp.pickN_lt nt 16 (by decide)
  obtain ⟨N, hN⟩ : ∃ x, Kp.pickN nt 16 = x := ⟨_, rfl⟩
  rw [hN] at hn16 ⊢
  simp only [hN] at cn
  have z1 := Kp.choiceB_size who (decide (N = 2)) st
  have z2 := Kp.choiceB_size act (decide (N = 3)) st
  have z3 := Kp.choiceB_size on (decide (N = 1)) st
  have x1 : (((N : Nat) : Int) == 1) = decide (N = 1) := by rw [Bool.eq_iff_iff]; simp; omega
  have x2 : (((N : Nat) : Int) == 2) = decide (N = 2) := by rw [Bool.eq_iff_iff]; simp; omega
  have x3 : (((N : Nat) : Int) == 3) = decide (N = 3) := by rw [Bool.eq_iff_iff]; simp; omega
  obtain ⟨y1, hy1⟩ : ∃ b, decide (N = 1) = b := ⟨_, rfl⟩
  obtain ⟨y2, hy2⟩ : ∃ b, decide (N = 2) = b := ⟨_, rfl⟩
  obtain ⟨y3, hy3⟩ : ∃ b, decide (N = 3) = b := ⟨_, rfl⟩
  rw [hy1] at x1 z3
  rw [hy2] at x2 z1
  rw [hy3] at x3 z2
  simp only [hy1, hy2, hy3]
  clear hy1 hy2 hy3
  have HE := hid hE
  have HI := hid hI
  have CC := hid cc
  have CP := hid cp
  have CN := hid cn
  clear hE hI cc cp cn hN hPd
  obtain ⟨A, hA⟩ : ∃ A, w.alloc (.cells #[.bool deny, .slice a1 who.length c1, .slice a2 act.length c2, .slice a3 on.length c3, .int .i64 nt, .int .i64 iff, .int .i64 key, .int .i64 val, .bool no, .int .i64 st] 66) = A := ⟨_, rfl⟩
  have bl := heap_alloc_new w (.cells #[.bool deny, .slice a1 who.length c1, .slice a2 act.length c2, .slice a3 on.length c3, .int .i64 nt, .int .i64 iff, .int .i64 key, .int .i64 val, .bool no, .int .i64 st] 66)
  have bwA : Below w.heap.size w A := by rw [← hA]; exact (Below.refl _ w).alloc (Nat.le_refl _) _
  rw [hA] at bl
  have k0 : A.cell? ⟨w.heap.size, 0, none⟩ = some (.bool deny) := (cells_of_block bl 0).1
  have k1 : A.cell? ⟨w.heap.size, 1, none⟩ = some (.slice a1 who.length c1) := (cells_of_block bl 1).1
  have k2 : A.cell? ⟨w.heap.size, 2, none⟩ = some (.slice a2 act.length c2) := (cells_of_block bl 2).1
  have k3 : A.cell? ⟨w.heap.size, 3, none⟩ = some (.slice a3 on.length c3) := (cells_of_block bl 3).1
  have k4 : A.cell? ⟨w.heap.size, 4, none⟩ = some (.int .i64 nt) := (cells_of_block bl 4).1
  have k5 : A.cell? ⟨w.heap.size, 5, none⟩ = some (.int .i64 iff) := (cells_of_block bl 5).1
  have k6 : A.cell? ⟨w.heap.size, 6, none⟩ = some (.int .i64 key) := (cells_of_block bl 6).1
  have k7 : A.cell? ⟨w.heap.size, 7, none⟩ = some (.int .i64 val) := (cells_of_block bl 7).1
  have k8 : A.cell? ⟨w.heap.size, 8, none⟩ = some (.bool no) := (cells_of_block bl 8).1
  have k9 : A.cell? ⟨w.heap.size, 9, none⟩ = some (.int .i64 st) := (cells_of_block bl 9).1
  have HBW := hid bwA
  have HA := hid hA
  obtain ⟨o1, ho1⟩ : ∃ x, who.length = x := ⟨_, rfl⟩
  obtain ⟨o2, ho2⟩ : ∃ x, act.length = x := ⟨_, rfl⟩
  obtain ⟨o3, ho3⟩ : ∃ x, on.length = x := ⟨_, rfl⟩
  rw [ho1] at m1 k1 H1 CC HA ⊢
  rw [ho2] at m2 k2 H2 CC HA ⊢
  rw [ho3] at m3 k3 H3 CC HA ⊢
  clear bl bwA hA h1 h2 h3 ho1 ho2 ho3
  go_enter Tryz.func39, Tryz.ntmps39
  go_upto_if 7 with (fail)
  go_cut [3] (fun s wx => s = .string E ∧ Below A.heap.size A wx)
  case first =>
    cases deny with
    | true =>
      go_wp2_with (go_at_call 77; refine (CP.out _).mono ?_; rintro e w2 ⟨rfl, b2⟩; have HB2 := hid b2; clear b2)
      go_meet
      case rel => exact ⟨by rw [HE.out]; rfl, by rw [← HA.out]; exact HB2.out⟩
    | false =>
      go_wp2_with fail
      go_meet
      case rel => exact ⟨by rw [HE.out]; rfl, by rw [← HA.out]; exact Below.refl _ _⟩
  case rest =>
    obtain ⟨rfl, hbc⟩ := hcut
    have l1 := cell_later hbc k1
    have l2 := cell_later hbc k2
    have l3 := cell_later hbc k3
    have l4 := cell_later hbc k4
    have l5 := cell_later hbc k5
    have l6 := cell_later hbc k6
    have l7 := cell_later hbc k7
    have l8 := cell_later hbc k8
    have l9 := cell_later hbc k9
    have l0 := cell_later hbc k0
    have HBC : Hid (Below w.heap.size w wc) := Below.step HBW.out hbc (Nat.le_refl _)
    clear hbc k0 k1 k2 k3 k4 k5 k6 k7 k8 k9 HE HA CP HBW
    go_upto_if 15 with (go_at_call 78; refine (CC.out _).mono ?_; rintro e w3 ⟨rfl, b3⟩; have HB3 := hid b3; clear b3)
    go_cut [3] (fun s wx => s = .string I ∧ wx = w3)
    case first =>
      have hiq := HI.out
      by_cases hc0 : C.size = 0
      · rw [if_pos hc0] at hiq
        rw [empty_of hc0]
        have HI2 := hid hiq
        clear hiq HI
        go_wp2_with fail
        go_meet
        case rel => exact ⟨by rw [HI2.out], rfl⟩
      · rw [if_neg hc0] at hiq
        rw [filled_of hc0]
        have HI2 := hid hiq
        clear hiq HI
        go_wp2_with fail
        go_meet
        case rel => exact ⟨by rw [HI2.out], rfl⟩
    case rest =>
      obtain ⟨rfl, hwc⟩ := hcut
      rw [hwc]
      clear hwc HI
      have n1 := cell_later HB3.out l1
      have n2 := cell_later HB3.out l2
      have n3 := cell_later HB3.out l3
      have n4 := cell_later HB3.out l4
      have n9 := cell_later HB3.out l9
      have HB4 : Hid (Below w.heap.size w w3) := Below.step HBC.out HB3.out (Nat.le_refl _)
      clear l0 l1 l2 l3 l4 l5 l6 l7 l8 l9 HBC HB3 CC
      go_upto_region 8 with (go_at_call 19; refine (CN.out _).mono ?_; rintro e w4 ⟨rfl, e4⟩; rw [e4]; clear e4)
      have g1 : ∀ X : GrownK w3, X.w.cell? ⟨w.heap.size, 1, none⟩ = some (.slice a1 o1 c1) := fun X => cell_later X.b n1
      have g2 : ∀ X : GrownK w3, X.w.cell? ⟨w.heap.size, 2, none⟩ = some (.slice a2 o2 c2) := fun X => cell_later X.b n2
      have g3 : ∀ X : GrownK w3, X.w.cell? ⟨w.heap.size, 3, none⟩ = some (.slice a3 o3 c3) := fun X => cell_later X.b n3
      have g9 : ∀ X : GrownK w3, X.w.cell? ⟨w.heap.size, 9, none⟩ = some (.int .i64 st) := fun X => cell_later X.b n9
      have G1 : Hid (∀ (X : GrownK w3) nb, Calls Tryz.prog 79 #[.slice a1 o1 c1, .bool nb, .int .i64 st] X.w fun e w'' => e = .returned (.string (Kp.choiceB who nb st)) ∧ ∃ Y : GrownK w3, w'' = Y.w) :=
        hid (fun X nb => (H1.out X.w (Below.step HB4.out X.b (Nat.le_refl _)) nb).mono (fun e w'' ⟨he, hb⟩ => ⟨he, ⟨w'', Below.step X.b hb (Nat.le_refl _)⟩, rfl⟩))
      have G2 : Hid (∀ (X : GrownK w3) nb, Calls Tryz.prog 79 #[.slice a2 o2 c2, .bool nb, .int .i64 st] X.w fun e w'' => e = .returned (.string (Kp.choiceB act nb st)) ∧ ∃ Y : GrownK w3, w'' = Y.w) :=
        hid (fun X nb => (H2.out X.w (Below.step HB4.out X.b (Nat.le_refl _)) nb).mono (fun e w'' ⟨he, hb⟩ => ⟨he, ⟨w'', Below.step X.b hb (Nat.le_refl _)⟩, rfl⟩))
      have G3 : Hid (∀ (X : GrownK w3) nb, Calls Tryz.prog 79 #[.slice a3 o3 c3, .bool nb, .int .i64 st] X.w fun e w'' => e = .returned (.string (Kp.choiceB on nb st)) ∧ ∃ Y : GrownK w3, w'' = Y.w) :=
        hid (fun X nb => (H3.out X.w (Below.step HB4.out X.b (Nat.le_refl _)) nb).mono (fun e w'' ⟨he, hb⟩ => ⟨he, ⟨w'', Below.step X.b hb (Nat.le_refl _)⟩, rfl⟩))
      have NE : Nonempty (GrownK w3) := ⟨⟨w3, Below.refl _ _⟩⟩
      clear n1 n2 n3 n4 n9 H1 H2 H3
      refine wp_region_quiet (C := fun W' => ∃ X : GrownK w3, W' = X.w) (by kernel_rfl) (by kernel_rfl) ⟨⟨_, (Below.refl _ w3).drew⟩, rfl⟩ ?_
      simp only
      repeat (go_big_quiet_step (fail))
      go_big_quiet_step (exact G3.out _ _)
      repeat (go_big_quiet_step (fail))
      go_big_quiet_step (exact G1.out _ _)
      repeat (go_big_quiet_step (fail))
      go_big_quiet_step (exact G2.out _ _)
      repeat (go_big_quiet_step (fail))
      refine wpQuiet_nil ?_
      intro w' hw'
      obtain ⟨X, rfl⟩ := hw'
      go_wp2_with fail
      go_ret
      exact ⟨rfl, Below.step HB4.out X.b (Nat.le_refl _)⟩

end Go.Proofs.YtdakgnaojakldaaGreatDoor
