/- The statement Stars, walked. -/
import Derived.Test.YtdakgnaojakldaaDoorPgRb
import Derived.Test.YtdakgnaojakldaaDoorStA
import Derived.Test.YtdakgnaojakldaaDoorStMath2
namespace Go.Proofs.YtdakgnaojakldaaDoor
open Go.RowKit

set_option maxHeartbeats 2000000 in
set_option maxRecDepth 100000 in
/-- All six are asked, and none is refused but for its length. -/
theorem stars_yes (a b c : ByteArray) (w : World) (hE : Env w) (X4 X5 : Bool) (E4 E5 : Int) (ha : a.size ≤ 100) (hb : b.size ≤ 100) (hc : c.size ≤ 100)
    (h4 : X4 = false ∧ ((E4 = 0) ∨ (E4 = 11 ∧ b.size = 100))) (h5 : (E5 = 0 ∧ X5 = true) ∨ (E5 = 11 ∧ X5 = false ∧ a.size = 100))
    (c1 : ∀ W, Env W → Calls Tryd.prog 6 #[.string ⟨#[36, 123, 119, 104, 111, 125, 42, 36, 123, 111, 110, 125]⟩, .string (a ++ b ++ c), .agg #[.string a, .string b, .string c, .slice none 0 0]] W fun e w' => e = .returned (.tuple #[.bool true, .int .i64 0]) ∧ Below W.heap.size W w')
    (c2 : ∀ W, Env W → Calls Tryd.prog 6 #[.string ⟨#[42, 36, 123, 100, 111, 125, 42]⟩, .string (a ++ b ++ c), .agg #[.string a, .string b, .string c, .slice none 0 0]] W fun e w' => e = .returned (.tuple #[.bool true, .int .i64 0]) ∧ Below W.heap.size W w')
    (c3 : ∀ W, Env W → Calls Tryd.prog 6 #[.string ⟨#[36, 123, 100, 111, 125]⟩, .string b, .agg #[.string a, .string b, .string c, .slice none 0 0]] W fun e w' => e = .returned (.tuple #[.bool true, .int .i64 0]) ∧ Below W.heap.size W w')
    (c4 : ∀ W, Env W → Calls Tryd.prog 6 #[.string ⟨#[36, 123, 100, 111, 125]⟩, .string (b ++ ⟨#[120]⟩), .agg #[.string a, .string b, .string c, .slice none 0 0]] W fun e w' => e = .returned (.tuple #[.bool X4, .int .i64 E4]) ∧ Below W.heap.size W w')
    (c5 : ∀ W, Env W → Calls Tryd.prog 6 #[.string ⟨#[36, 123, 119, 104, 111, 125, 36, 42]⟩, .string (a ++ ⟨#[42]⟩), .agg #[.string a, .string b, .string c, .slice none 0 0]] W fun e w' => e = .returned (.tuple #[.bool X5, .int .i64 E5]) ∧ Below W.heap.size W w')
    (c6 : ∀ W, Env W → Calls Tryd.prog 6 #[.string ⟨#[36, 123, 110, 111, 110, 101, 125, 42]⟩, .string a, .agg #[.string a, .string b, .string c, .slice none 0 0]] W fun e w' => e = .returned (.tuple #[.bool false, .int .i64 0]) ∧ Below W.heap.size W w') :
    Calls Tryd.prog 4 #[.string a, .string b, .string c] w fun e w' => e = .returned (.bool true) ∧ Below w.heap.size w w' := by
  have b0 := fun O => (Below.refl _ w).alloc (Nat.le_refl _) O
  obtain ⟨rfl, h4⟩ := h4
  rcases h4 with rfl | ⟨rfl, h4⟩
  · rcases h5 with ⟨rfl, rfl⟩ | ⟨rfl, rfl, h5⟩
    · go_enter Tryd.func4, Tryd.ntmps4
      go_wp2_with (first
        | (go_at_call 6; refine (c6 w5 (hE.below bw5)).mono ?_; rintro e w6 ⟨rfl, hb6⟩; have bw6 : Below w.heap.size w w6 := bw5.trans (hb6.mono bw5.size); obtain ⟨bc6, bf6⟩ := bcell hb6; have hz6 : w.heap.size < w6.heap.size := by (have := hb6.size; omega))
        | (go_at_call 6; refine (c5 w4 (hE.below bw4)).mono ?_; rintro e w5 ⟨rfl, hb5⟩; have bw5 : Below w.heap.size w w5 := bw4.trans (hb5.mono bw4.size); obtain ⟨bc5, bf5⟩ := bcell hb5; have hz5 : w.heap.size < w5.heap.size := by (have := hb5.size; omega))
        | (go_at_call 6; refine (c4 w3 (hE.below bw3)).mono ?_; rintro e w4 ⟨rfl, hb4⟩; have bw4 : Below w.heap.size w w4 := bw3.trans (hb4.mono bw3.size); obtain ⟨bc4, bf4⟩ := bcell hb4; have hz4 : w.heap.size < w4.heap.size := by (have := hb4.size; omega))
        | (go_at_call 6; refine (c3 w2 (hE.below bw2)).mono ?_; rintro e w3 ⟨rfl, hb3⟩; have bw3 : Below w.heap.size w w3 := bw2.trans (hb3.mono bw2.size); obtain ⟨bc3, bf3⟩ := bcell hb3; have hz3 : w.heap.size < w3.heap.size := by (have := hb3.size; omega))
        | (go_at_call 6; refine (c2 w1 (hE.below bw1)).mono ?_; rintro e w2 ⟨rfl, hb2⟩; have bw2 : Below w.heap.size w w2 := bw1.trans (hb2.mono bw1.size); obtain ⟨bc2, bf2⟩ := bcell hb2; have hz2 : w.heap.size < w2.heap.size := by (have := hb2.size; omega))
        | (go_at_call 6; refine (c1 _ (hE.below (b0 _))).mono ?_; rintro e w1 ⟨rfl, hb1⟩; have bw1 : Below w.heap.size w w1 := (b0 _).trans (hb1.mono (by simp)); obtain ⟨bc1, bf1⟩ := bcell hb1; have hz1 : w.heap.size < w1.heap.size := by (have := hb1.size; simp at this; omega)))
      go_ret
      exact ⟨rfl, bw6⟩
    · have i5 : (a.size : Int) = 100 := by omega
      go_enter Tryd.func4, Tryd.ntmps4
      go_wp2_with (first
        | (go_at_call 6; refine (c6 w5 (hE.below bw5)).mono ?_; rintro e w6 ⟨rfl, hb6⟩; have bw6 : Below w.heap.size w w6 := bw5.trans (hb6.mono bw5.size); obtain ⟨bc6, bf6⟩ := bcell hb6; have hz6 : w.heap.size < w6.heap.size := by (have := hb6.size; omega))
        | (go_at_call 6; refine (c5 w4 (hE.below bw4)).mono ?_; rintro e w5 ⟨rfl, hb5⟩; have bw5 : Below w.heap.size w w5 := bw4.trans (hb5.mono bw4.size); obtain ⟨bc5, bf5⟩ := bcell hb5; have hz5 : w.heap.size < w5.heap.size := by (have := hb5.size; omega))
        | (go_at_call 6; refine (c4 w3 (hE.below bw3)).mono ?_; rintro e w4 ⟨rfl, hb4⟩; have bw4 : Below w.heap.size w w4 := bw3.trans (hb4.mono bw3.size); obtain ⟨bc4, bf4⟩ := bcell hb4; have hz4 : w.heap.size < w4.heap.size := by (have := hb4.size; omega))
        | (go_at_call 6; refine (c3 w2 (hE.below bw2)).mono ?_; rintro e w3 ⟨rfl, hb3⟩; have bw3 : Below w.heap.size w w3 := bw2.trans (hb3.mono bw2.size); obtain ⟨bc3, bf3⟩ := bcell hb3; have hz3 : w.heap.size < w3.heap.size := by (have := hb3.size; omega))
        | (go_at_call 6; refine (c2 w1 (hE.below bw1)).mono ?_; rintro e w2 ⟨rfl, hb2⟩; have bw2 : Below w.heap.size w w2 := bw1.trans (hb2.mono bw1.size); obtain ⟨bc2, bf2⟩ := bcell hb2; have hz2 : w.heap.size < w2.heap.size := by (have := hb2.size; omega))
        | (go_at_call 6; refine (c1 _ (hE.below (b0 _))).mono ?_; rintro e w1 ⟨rfl, hb1⟩; have bw1 : Below w.heap.size w w1 := (b0 _).trans (hb1.mono (by simp)); obtain ⟨bc1, bf1⟩ := bcell hb1; have hz1 : w.heap.size < w1.heap.size := by (have := hb1.size; simp at this; omega)))
      go_ret
      exact ⟨rfl, bw6⟩
  · have i4 : (b.size : Int) = 100 := by omega
    rcases h5 with ⟨rfl, rfl⟩ | ⟨rfl, rfl, h5⟩
    · go_enter Tryd.func4, Tryd.ntmps4
      go_wp2_with (first
        | (go_at_call 6; refine (c6 w5 (hE.below bw5)).mono ?_; rintro e w6 ⟨rfl, hb6⟩; have bw6 : Below w.heap.size w w6 := bw5.trans (hb6.mono bw5.size); obtain ⟨bc6, bf6⟩ := bcell hb6; have hz6 : w.heap.size < w6.heap.size := by (have := hb6.size; omega))
        | (go_at_call 6; refine (c5 w4 (hE.below bw4)).mono ?_; rintro e w5 ⟨rfl, hb5⟩; have bw5 : Below w.heap.size w w5 := bw4.trans (hb5.mono bw4.size); obtain ⟨bc5, bf5⟩ := bcell hb5; have hz5 : w.heap.size < w5.heap.size := by (have := hb5.size; omega))
        | (go_at_call 6; refine (c4 w3 (hE.below bw3)).mono ?_; rintro e w4 ⟨rfl, hb4⟩; have bw4 : Below w.heap.size w w4 := bw3.trans (hb4.mono bw3.size); obtain ⟨bc4, bf4⟩ := bcell hb4; have hz4 : w.heap.size < w4.heap.size := by (have := hb4.size; omega))
        | (go_at_call 6; refine (c3 w2 (hE.below bw2)).mono ?_; rintro e w3 ⟨rfl, hb3⟩; have bw3 : Below w.heap.size w w3 := bw2.trans (hb3.mono bw2.size); obtain ⟨bc3, bf3⟩ := bcell hb3; have hz3 : w.heap.size < w3.heap.size := by (have := hb3.size; omega))
        | (go_at_call 6; refine (c2 w1 (hE.below bw1)).mono ?_; rintro e w2 ⟨rfl, hb2⟩; have bw2 : Below w.heap.size w w2 := bw1.trans (hb2.mono bw1.size); obtain ⟨bc2, bf2⟩ := bcell hb2; have hz2 : w.heap.size < w2.heap.size := by (have := hb2.size; omega))
        | (go_at_call 6; refine (c1 _ (hE.below (b0 _))).mono ?_; rintro e w1 ⟨rfl, hb1⟩; have bw1 : Below w.heap.size w w1 := (b0 _).trans (hb1.mono (by simp)); obtain ⟨bc1, bf1⟩ := bcell hb1; have hz1 : w.heap.size < w1.heap.size := by (have := hb1.size; simp at this; omega)))
      go_ret
      exact ⟨rfl, bw6⟩
    · have i5 : (a.size : Int) = 100 := by omega
      go_enter Tryd.func4, Tryd.ntmps4
      go_wp2_with (first
        | (go_at_call 6; refine (c6 w5 (hE.below bw5)).mono ?_; rintro e w6 ⟨rfl, hb6⟩; have bw6 : Below w.heap.size w w6 := bw5.trans (hb6.mono bw5.size); obtain ⟨bc6, bf6⟩ := bcell hb6; have hz6 : w.heap.size < w6.heap.size := by (have := hb6.size; omega))
        | (go_at_call 6; refine (c5 w4 (hE.below bw4)).mono ?_; rintro e w5 ⟨rfl, hb5⟩; have bw5 : Below w.heap.size w w5 := bw4.trans (hb5.mono bw4.size); obtain ⟨bc5, bf5⟩ := bcell hb5; have hz5 : w.heap.size < w5.heap.size := by (have := hb5.size; omega))
        | (go_at_call 6; refine (c4 w3 (hE.below bw3)).mono ?_; rintro e w4 ⟨rfl, hb4⟩; have bw4 : Below w.heap.size w w4 := bw3.trans (hb4.mono bw3.size); obtain ⟨bc4, bf4⟩ := bcell hb4; have hz4 : w.heap.size < w4.heap.size := by (have := hb4.size; omega))
        | (go_at_call 6; refine (c3 w2 (hE.below bw2)).mono ?_; rintro e w3 ⟨rfl, hb3⟩; have bw3 : Below w.heap.size w w3 := bw2.trans (hb3.mono bw2.size); obtain ⟨bc3, bf3⟩ := bcell hb3; have hz3 : w.heap.size < w3.heap.size := by (have := hb3.size; omega))
        | (go_at_call 6; refine (c2 w1 (hE.below bw1)).mono ?_; rintro e w2 ⟨rfl, hb2⟩; have bw2 : Below w.heap.size w w2 := bw1.trans (hb2.mono bw1.size); obtain ⟨bc2, bf2⟩ := bcell hb2; have hz2 : w.heap.size < w2.heap.size := by (have := hb2.size; omega))
        | (go_at_call 6; refine (c1 _ (hE.below (b0 _))).mono ?_; rintro e w1 ⟨rfl, hb1⟩; have bw1 : Below w.heap.size w w1 := (b0 _).trans (hb1.mono (by simp)); obtain ⟨bc1, bf1⟩ := bcell hb1; have hz1 : w.heap.size < w1.heap.size := by (have := hb1.size; simp at this; omega)))
      go_ret
      exact ⟨rfl, bw6⟩

end Go.Proofs.YtdakgnaojakldaaDoor
