/- Contract of the program's Matches for arguments of any length that Go has. -/
import Derived.Test.YtdakgnaojakldaaDoorPgR
import Derived.Test.YtdakgnaojakldaaDoorPgJb
namespace Go.Proofs.YtdakgnaojakldaaDoor
open Go.RowKit

set_option maxHeartbeats 1000000 in
set_option maxRecDepth 100000 in
theorem progMatches_len (pattern word : ByteArray) (r : Ref.Req) (ao : Option Addr) (cap : Nat) (w : World) (hm : marksAt w ao r.marks) (hr : Pg.reqLen r) (hp : pattern.size ≤ maxLen) (hw : word.size ≤ maxLen) (hE : Env w) :
    Calls Tryd.prog 6 #[.string pattern, .string word, Ref.reqV r ao cap] w fun e w' =>
      e = .returned (.tuple #[.bool (Ref.matchesP pattern word r).1, .int .i64 (Ref.matchesP pattern word r).2]) ∧ Below w.heap.size w w' := by
  have b0 := fun O => (Below.refl _ w).alloc (Nat.le_refl _) O
  have cR := fun O => readP_any pattern (w.alloc O) hp (hE.max.below (b0 O)) (hE.tabs.below (b0 O))
  obtain ⟨P, hP⟩ : ∃ P, Ref.parts pattern = P := ⟨_, rfl⟩
  have hpl := Ref.parts_len pattern
  have hpo := Pg.parts_ok pattern
  rw [hP] at hpl hpo
  simp only [hP] at cR
  obtain ⟨⟨A, N⟩, hAN⟩ : ∃ p, Ref.matchesP pattern word r = p := ⟨_, rfl⟩
  rw [hAN]
  simp only
  have hz4 := hr.2.2.2.1
  have cM := fun W hb => mayBe_len r ao cap W (marksAt_below hm hb) hr (hE.tabs.below hb)
  have cW := fun W hb => isWord_p word W hw (hE.tabs.below hb)
  have cC := fun W name B hb => matches1_p r name ao cap B W hz4 (marksAt_below hm hb)
  have cY := fun W => saying_p r ao cap W
  have cF := fun W k hb => errno_fault k W (hE.err.below hb) (hE.long.below hb)
  unfold Ref.matchesP Ref.matchP at hAN
  rw [hP] at hAN
  have hsc := says_char r
  obtain ⟨who, act, on, ms⟩ := r
  unfold Ref.reqV at cM cY ⊢
  simp only at cM cC cY hz4 ⊢
  clear hr hE hm hP
  cases P with
  | none =>
    simp only [Option.isSome_none, if_true] at hAN
    obtain ⟨rfl, rfl⟩ := Prod.mk.inj hAN
    clear cM cW cC cY hsc hAN
    go_enter Tryd.func6, Tryd.ntmps6
    go_wp2_with (first
      | (go_at_call 11; refine (cF w1 _ bw1).mono ?_; rintro e w2 ⟨rfl, hb2⟩)
      | (go_at_call 10; refine (cR _).mono ?_; rintro e w1 ⟨v, x, rfl, hb1, hpost⟩; have bw1 : Below w.heap.size w w1 := (b0 _).trans (hb1.mono (by simp)); rcases hpost with ⟨_, rfl, k, rfl⟩ | ⟨ps, hps, _⟩; rotate_left; cases hps))
    go_ret2
    exact ⟨rfl, bw1.trans (hb2.mono bw1.size)⟩
  | some ps =>
    rw [if_neg (by simp)] at hAN
    simp only [Option.getD_some] at hpl hpo hAN
    clear cF
    cases d1 : Ref.reqOk ⟨who, act, on, ms⟩ with
    | false =>
      rw [d1] at cM hAN
      rw [if_pos (by simp)] at hAN
      obtain ⟨rfl, rfl⟩ := Prod.mk.inj hAN
      clear cW cC cY hsc hAN d1
      go_enter Tryd.func6, Tryd.ntmps6
      go_wp2_with (first
        | (go_at_call 12; refine (cM w1 bw1).mono ?_; rintro e w2 ⟨rfl, hb2⟩; have bw2 : Below w.heap.size w w2 := bw1.trans (hb2.mono bw1.size); obtain ⟨bc2, bf2⟩ := bcell hb2; have hz2 : w.heap.size < w2.heap.size := by (have := hb2.size; omega))
        | (go_at_call 10; refine (cR _).mono ?_; rintro e w1 ⟨v, x, rfl, hb1, hpost⟩; have bw1 : Below w.heap.size w w1 := (b0 _).trans (hb1.mono (by simp)); rcases hpost with ⟨hps, _⟩ | ⟨ps', hps, rfl, hown⟩; cases hps; cases hps; obtain ⟨bc1, bf1⟩ := bcell hb1; have hz1 : w.heap.size < w1.heap.size := by (have := hb1.size; simp at this; omega)))
      go_ret2
      exact ⟨rfl, bw2⟩
    | true =>
      rw [d1] at cM hAN
      cases d2 : Ref.wordOk word with
      | false =>
        simp only [d2] at cW
        rw [d2, if_pos (by simp)] at hAN
        obtain ⟨rfl, rfl⟩ := Prod.mk.inj hAN
        clear cC cY hsc hAN d1 d2
        go_enter Tryd.func6, Tryd.ntmps6
        go_wp2_with (first
          | (go_at_call 13; refine (cW w2 bw2).mono ?_; rintro e w3 ⟨rfl, hb3⟩; have bw3 : Below w.heap.size w w3 := bw2.trans (hb3.mono bw2.size))
          | (go_at_call 12; refine (cM w1 bw1).mono ?_; rintro e w2 ⟨rfl, hb2⟩; have bw2 : Below w.heap.size w w2 := bw1.trans (hb2.mono bw1.size); obtain ⟨bc2, bf2⟩ := bcell hb2; have hz2 : w.heap.size < w2.heap.size := by (have := hb2.size; omega))
          | (go_at_call 10; refine (cR _).mono ?_; rintro e w1 ⟨v, x, rfl, hb1, hpost⟩; have bw1 : Below w.heap.size w w1 := (b0 _).trans (hb1.mono (by simp)); rcases hpost with ⟨hps, _⟩ | ⟨ps', hps, rfl, hown⟩; cases hps; cases hps; obtain ⟨bc1, bf1⟩ := bcell hb1; have hz1 : w.heap.size < w1.heap.size := by (have := hb1.size; simp at this; omega)))
        go_ret2
        exact ⟨rfl, bw3⟩
      | true =>
        simp only [d2] at cW
        rw [d2, if_neg (by simp)] at hAN
        obtain ⟨hA, rfl⟩ := Prod.mk.inj hAN
        have hwd : word.size ≤ 100 ∧ (Ref.chars word).isSome = true := by
          unfold Ref.wordOk at d2
          simp at d2
          exact ⟨d2.2, d2.1⟩
        have cP := fun W0 (lv : Value) (hl : Pg.At (W0.alloc (.cells #[.string who, .string act, .string on, .slice ao ms.length cap] 24)) lv ps) (hbx : Below w.heap.size w W0) =>
          patMatches_any ⟨who, act, on, ms⟩ ps lv word 29 #[.pointer (some ⟨W0.heap.size, 0, none⟩)] (W0.alloc (.cells #[.string who, .string act, .string on, .slice ao ms.length cap] 24)) hl hpl hpo hwd.1 hwd.2 (hsc d1) (enters_of Tryd.func29 (by kernel_rfl) rfl)
            (fun W2 name h2 => by
              have hb2 : Below w.heap.size w W2 := (hbx.alloc hbx.size _).trans (h2.mono (by have := hbx.size; simp; omega))
              exact cC W2 name W0.heap.size hb2 (cell_later h2 (by simp)) (cell_later h2 (by simp)) (cell_later h2 (by simp)) (cell_later h2 (by simp)))
            A hA
        clear cC hsc hAN d1 d2 hA
        go_enter Tryd.func6, Tryd.ntmps6
        go_wp2_with (first
          | (go_at_call 14; refine (cP w3 v ((((Pg.at_own rfl hown).below hb2).below hb3).below ((Below.refl _ w3).alloc (Nat.le_refl _) _)) bw3).mono ?_; rintro e w4 ⟨rfl, hb4⟩)
          | (go_at_call 15; refine (cY w3).mono ?_; rintro e w4 ⟨rfl, rfl⟩)
          | (go_at_call 13; refine (cW w2 bw2).mono ?_; rintro e w3 ⟨rfl, hb3⟩; have bw3 : Below w.heap.size w w3 := bw2.trans (hb3.mono bw2.size); obtain ⟨bc3, bf3⟩ := bcell hb3; have hz3 : w.heap.size < w3.heap.size := by (have := hb3.size; omega))
          | (go_at_call 12; refine (cM w1 bw1).mono ?_; rintro e w2 ⟨rfl, hb2⟩; have bw2 : Below w.heap.size w w2 := bw1.trans (hb2.mono bw1.size); obtain ⟨bc2, bf2⟩ := bcell hb2; have hz2 : w.heap.size < w2.heap.size := by (have := hb2.size; omega))
          | (go_at_call 10; refine (cR _).mono ?_; rintro e w1 ⟨v, x, rfl, hb1, hpost⟩; have bw1 : Below w.heap.size w w1 := (b0 _).trans (hb1.mono (by simp)); rcases hpost with ⟨hps, _⟩ | ⟨ps', hps, rfl, hown⟩; cases hps; cases hps; obtain ⟨bc1, bf1⟩ := bcell hb1; have hz1 : w.heap.size < w1.heap.size := by (have := hb1.size; simp at this; omega)))
        go_ret2
        exact ⟨rfl, (bw3.alloc bw3.size _).trans (hb4.mono (by have := bw3.size; simp; omega))⟩

end Go.Proofs.YtdakgnaojakldaaDoor
