/- Contracts of pick, pad, keyed, words, patterns: what raw numbers speak of. -/
import Derived.Test.YtdakgnaojakldaaGreatDoorJqE
import Derived.Test.YtdakgnaojakldaaGreatDoorKpMath
import Derived.OwnWalk
namespace Go.Proofs.YtdakgnaojakldaaGreatDoor
open Go.RowKit

/-- A number that a machine holds. -/
def I64 (x : Int) : Prop := -9223372036854775808 ≤ x ∧ x ≤ 9223372036854775807

theorem I64.tdiv {x : Int} (h : I64 x) (d : Nat) : I64 (x.tdiv d) := by
  obtain ⟨h1, h2⟩ := h
  have hq : (x.tdiv d).natAbs = x.natAbs / d := by rw [Int.natAbs_tdiv]; rfl
  have hle : x.natAbs / d ≤ x.natAbs := Nat.div_le_self _ _
  by_cases h0 : 0 ≤ x
  · have := Int.tdiv_nonneg h0 (show (0 : Int) ≤ (d : Int) by omega)
    unfold I64; omega
  · have h4 := Int.tdiv_nonneg (show (0 : Int) ≤ -x by omega) (show (0 : Int) ≤ (d : Int) by omega)
    rw [Int.neg_tdiv] at h4
    unfold I64; omega

theorem pickN_neg (c : Int) (n : Nat) (h : c < 0) : -(c + 1).tmod (n : Int) = (Kp.pickN c n : Int) := by
  unfold Kp.pickN
  rw [if_pos h, ← Int.neg_tmod, Int.tmod_eq_emod_of_nonneg (by omega)]
  have h1 := Int.emod_nonneg (-(c + 1)) (b := (n : Int))
  by_cases hn : (n : Int) = 0
  · rw [hn, Int.emod_zero]; omega
  · have := h1 hn; omega

theorem pickN_pos (c : Int) (n : Nat) (h : 0 ≤ c) : c % (n : Int) = (Kp.pickN c n : Int) := by
  unfold Kp.pickN
  rw [if_neg (by omega)]
  have h1 := Int.emod_nonneg c (b := (n : Int))
  by_cases hn : (n : Int) = 0
  · rw [hn, Int.emod_zero]; omega
  · have := h1 hn; omega

set_option maxHeartbeats 1000000 in
set_option maxRecDepth 100000 in
theorem pick_p (c : Int) (n : Nat) (w : World) (hc : I64 c) (hn : 0 < n) (hm : n ≤ 1000000) :
    Calls Tryz.prog 19 #[.int .i64 c, .int .i64 (n : Int)] w fun e w' => e = .returned (.int .i64 (Kp.pickN c n : Int)) ∧ w' = w := by
  obtain ⟨h1, h2⟩ := hc
  by_cases h0 : c < 0
  · have e := hid (pickN_neg c n h0)
    go_enter Tryz.func19, Tryz.ntmps19
    go_wp2
    go_ret
    exact ⟨by rw [← e.out]; rfl, rfl⟩
  · have e := hid (pickN_pos c n (by omega))
    go_enter Tryz.func19, Tryz.ntmps19
    go_wp2
    go_ret
    exact ⟨by rw [← e.out]; rfl, rfl⟩

theorem litStr (w : World) (l : List ByteArray) (k : Nat) (h : k < l.length) : (w.alloc (.cells (l.map Value.string).toArray 9)).cell? ⟨w.heap.size, k, none⟩ = some (.string (l.getD k ⟨#[]⟩)) := by
  have h1 := (cells_of_block (heap_alloc_new w (.cells (l.map Value.string).toArray 9)) k).1
  rw [h1, List.getD_eq_getElem?_getD]
  simp [List.getElem?_map, List.getElem?_eq_getElem h]

set_option maxHeartbeats 1000000 in
set_option maxRecDepth 100000 in
theorem pad_p (st : Int) (w : World) (hs : I64 st) :
    Calls Tryz.prog 77 #[.int .i64 st] w fun e w' => e = .returned (.string (Kp.padB st)) ∧ Below w.heap.size w w' := by
  have hq := hs.tdiv 8
  have c1 := fun W => pick_p (st.tdiv (8 : Nat)) 4 W hq (by decide) (by decide)
  have hlt := Kp.pickN_lt (st.tdiv (8 : Nat)) 4 (by decide)
  have hp : Kp.padB st = Kp.pads.getD (Kp.pickN (st.tdiv (8 : Nat)) 4) ⟨#[]⟩ := rfl
  rw [hp]
  obtain ⟨k, hk⟩ : ∃ k, Kp.pickN (st.tdiv (8 : Nat)) 4 = k := ⟨_, rfl⟩
  rw [hk] at hlt ⊢
  simp only [hk] at c1
  have C1 := hid c1
  have hl := litStr w Kp.pads k hlt
  obtain ⟨P, hP⟩ : ∃ P, Kp.pads.getD k ⟨#[]⟩ = P := ⟨_, rfl⟩
  rw [hP] at hl ⊢
  have hl2 : (w.alloc (.cells #[.string ⟨#[]⟩, .string ⟨#[32]⟩, .string ⟨#[10, 9]⟩, .string ⟨#[13, 32]⟩] 9)).cell? ⟨w.heap.size, k, none⟩ = some (.string P) := hl
  obtain ⟨h1, h2⟩ := hs
  clear c1 hP hk hp hl hq
  go_enter Tryz.func77, Tryz.ntmps77
  go_wp2_with (go_at_call 19; refine (C1.out _).mono ?_; rintro e w1 ⟨rfl, rfl⟩)
  go_ret
  exact ⟨rfl, (Below.refl _ w).alloc (Nat.le_refl _) _⟩

set_option maxHeartbeats 1000000 in
set_option maxRecDepth 100000 in
theorem keyed_p (c : Int) (w : World) (hs : I64 c) :
    Calls Tryz.prog 128 #[.int .i64 c] w fun e w' => e = .returned (.string (Kp.keys.getD (Kp.pickN c 5) ⟨#[]⟩)) ∧ Below w.heap.size w w' := by
  have c1 := fun W => pick_p c 5 W hs (by decide) (by decide)
  have hlt := Kp.pickN_lt c 5 (by decide)
  obtain ⟨k, hk⟩ : ∃ k, Kp.pickN c 5 = k := ⟨_, rfl⟩
  rw [hk] at hlt ⊢
  simp only [hk] at c1
  have C1 := hid c1
  have hl := litStr w Kp.keys k hlt
  obtain ⟨P, hP⟩ : ∃ P, Kp.keys.getD k ⟨#[]⟩ = P := ⟨_, rfl⟩
  rw [hP] at hl ⊢
  have hl2 : (w.alloc (.cells #[.string ⟨#[119, 104, 111]⟩, .string ⟨#[100, 111]⟩, .string ⟨#[111, 110]⟩, .string ⟨#[116, 97, 103]⟩, .string ⟨#[97, 103, 101]⟩] 9)).cell? ⟨w.heap.size, k, none⟩ = some (.string P) := hl
  obtain ⟨h1, h2⟩ := hs
  clear c1 hP hk hl
  go_enter Tryz.func128, Tryz.ntmps128
  go_wp2_with (go_at_call 19; refine (C1.out _).mono ?_; rintro e w1 ⟨rfl, rfl⟩)
  go_ret
  exact ⟨rfl, (Below.refl _ w).alloc (Nat.le_refl _) _⟩

set_option maxRecDepth 100000 in
theorem words_p (w : World) :
    Calls Tryz.prog 91 #[] w fun e w' => e = .returned (.slice (some ⟨w.heap.size, 0, none⟩) 14 14) ∧ w' = w.alloc (.cells (Kp.words.map Value.string).toArray 9) := by
  go_enter Tryz.func91, Tryz.ntmps91
  go_wp2
  go_ret
  exact ⟨rfl, rfl⟩

set_option maxRecDepth 100000 in
theorem patterns_p (w : World) :
    Calls Tryz.prog 129 #[] w fun e w' => e = .returned (.slice (some ⟨w.heap.size, 0, none⟩) 14 14) ∧ w' = w.alloc (.cells (Kp.patterns.map Value.string).toArray 9) := by
  go_enter Tryz.func129, Tryz.ntmps129
  go_wp2
  go_ret
  exact ⟨rfl, rfl⟩

end Go.Proofs.YtdakgnaojakldaaGreatDoor
