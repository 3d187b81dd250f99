/- Contract of the program's MayBe. -/
import Derived.Test.YtdakgnaojakldaaDoorPgI
namespace Go.Proofs.YtdakgnaojakldaaDoor
open Go.RowKit

theorem allOf_marks (ms : List (ByteArray × ByteArray)) (f : ByteArray × ByteArray → Bool) : allOf (fun j => f (markN ms j)) ms.length = ms.all f := by
  unfold allOf
  rw [Bool.eq_iff_iff, List.all_eq_true, List.all_eq_true]
  constructor
  · intro h c hc
    obtain ⟨j, hj, rfl⟩ := List.mem_iff_getElem.1 hc
    have := h j (List.mem_range.2 hj)
    rwa [markN_at ms j hj] at this
  · intro h j hj
    have hj' := List.mem_range.1 hj
    rw [markN_at ms j hj']
    exact h _ (List.getElem_mem hj')

/-- All marks, asked one by one. -/
theorem allMarks_p (ms : List (ByteArray × ByteArray)) (ao : Option Addr) (cap : Nat) (w : World) (hn : ms.length ≤ 100000000000) (hz : ∀ j, j < ms.length → (markN ms j).1.size ≤ maxLen ∧ (markN ms j).2.size ≤ maxLen) (hm : marksAt w ao ms) (hT : TabsAt w) :
    Calls Tryd.prog 24 #[.slice ao ms.length cap, .func (.func 25) #[] #[]] w fun e w' => e = .returned (.bool (ms.all Ref.markOk)) ∧ Below w.heap.size w w' := by
  have c := all_mark ms ao cap 25 #[] (fun j => Ref.markOk (markN ms j)) w hn (enters_of Tryd.func25 (by kernel_rfl) rfl) hm
    (fun W j hj hb => isMark_p (markN ms j) W (hz j hj).1 (hz j hj).2 (hT.below hb))
  rw [allOf_marks] at c
  exact c

set_option maxHeartbeats 1000000 in
set_option maxRecDepth 100000 in
theorem mayBe_any (r : Ref.Req) (ao : Option Addr) (cap : Nat) (w : World) (hm : marksAt w ao r.marks) (hr : Ref.reqFits r) (hT : TabsAt w) :
    Calls Tryd.prog 12 #[Ref.reqV r ao cap] w fun e w' => e = .returned (.bool (Ref.reqOk r)) ∧ Below w.heap.size w w' := by
  obtain ⟨who, act, on, ms⟩ := r
  obtain ⟨z1, z2, z3, z4, z5⟩ := hr
  simp only at z1 z2 z3 z4 z5 hm
  have cA := fun W hb => allMarks_p ms ao cap W z4 (fun j hj => by
    have := z5 (markN ms j) (by rw [markN_at ms j hj]; exact List.getElem_mem hj)
    unfold maxLen; omega) (marksAt_below hm hb) (hT.below hb)
  generalize hQ : Ref.reqOk ⟨who, act, on, ms⟩ = Q
  unfold Ref.reqOk at hQ
  simp only at hQ
  unfold Ref.reqV
  simp only
  have b0 := fun O => (Below.refl _ w).alloc (Nat.le_refl _) O
  have c1 := isWord_at who _ rfl (by unfold maxLen; omega)
  have c2 := isWord_at act _ rfl (by unfold maxLen; omega)
  have c3 := isWord_at on _ rfl (by unfold maxLen; omega)
  have HB : ∀ w1, Below w.heap.size w w1 → TabsAt w1 := fun w1 h => hT.below h
  clear hm hT
  cases d1 : Ref.wordOk who with
  | false =>
    have e : Q = false := by rw [← hQ, d1]; simp
    subst e
    rw [d1] at c1
    clear hQ d1 cA c2 c3
    go_enter Tryd.func12, Tryd.ntmps12
    go_wp2_with (go_at_call 13; refine (c1 _ (HB _ (b0 _))).mono ?_; rintro e w1 ⟨rfl, hb1⟩)
    go_ret
    exact ⟨rfl, (b0 _).trans (hb1.mono (by simp))⟩
  | true =>
  rw [d1] at c1
  cases d2 : Ref.wordOk act with
  | false =>
    have e : Q = false := by rw [← hQ, d2]; simp
    subst e
    rw [d2] at c2
    clear hQ d1 d2 cA c3
    go_enter Tryd.func12, Tryd.ntmps12
    go_wp2_with (first
      | (go_at_call 13; refine (c2 w1 (HB _ bw1)).mono ?_; rintro e w2 ⟨rfl, hb2⟩; have bw2 : Below w.heap.size w w2 := bw1.trans (hb2.mono bw1.size); obtain ⟨bc2, bf2⟩ := bcell hb2; have hz2 : w.heap.size < w2.heap.size := by (have := hb2.size; omega))
      | (go_at_call 13; refine (c1 _ (HB _ (b0 _))).mono ?_; rintro e w1 ⟨rfl, hb1⟩; have bw1 : Below w.heap.size w w1 := (b0 _).trans (hb1.mono (by simp)); obtain ⟨bc1, bf1⟩ := bcell hb1; have hz1 : w.heap.size < w1.heap.size := by (have := hb1.size; simp at this; omega)))
    go_ret
    exact ⟨rfl, bw2⟩
  | true =>
  rw [d2] at c2
  cases d3 : Ref.wordOk on with
  | false =>
    have e : Q = false := by rw [← hQ, d3]; simp
    subst e
    rw [d3] at c3
    clear hQ d1 d2 d3 cA
    go_enter Tryd.func12, Tryd.ntmps12
    go_wp2_with (first
      | (go_at_call 13; refine (c3 w2 (HB _ bw2)).mono ?_; rintro e w3 ⟨rfl, hb3⟩; have bw3 : Below w.heap.size w w3 := bw2.trans (hb3.mono bw2.size); obtain ⟨bc3, bf3⟩ := bcell hb3; have hz3 : w.heap.size < w3.heap.size := by (have := hb3.size; omega))
      | (go_at_call 13; refine (c2 w1 (HB _ bw1)).mono ?_; rintro e w2 ⟨rfl, hb2⟩; have bw2 : Below w.heap.size w w2 := bw1.trans (hb2.mono bw1.size); obtain ⟨bc2, bf2⟩ := bcell hb2; have hz2 : w.heap.size < w2.heap.size := by (have := hb2.size; omega))
      | (go_at_call 13; refine (c1 _ (HB _ (b0 _))).mono ?_; rintro e w1 ⟨rfl, hb1⟩; have bw1 : Below w.heap.size w w1 := (b0 _).trans (hb1.mono (by simp)); obtain ⟨bc1, bf1⟩ := bcell hb1; have hz1 : w.heap.size < w1.heap.size := by (have := hb1.size; simp at this; omega)))
    go_ret
    exact ⟨rfl, bw3⟩
  | true =>
  rw [d3] at c3
  by_cases d4 : ms.length ≤ 10
  · have e : Q = ms.all Ref.markOk := by rw [← hQ, d1, d2, d3, decide_eq_true d4]; simp
    have i4 : decide ((ms.length : Int) ≤ 10) = true := decide_eq_true (by omega)
    rw [← e] at cA
    clear hQ d1 d2 d3 d4 e
    go_enter Tryd.func12, Tryd.ntmps12
    go_wp2_with (first
      | (go_at_call 24; refine (cA w3 bw3).mono ?_; rintro e w4 ⟨rfl, hb4⟩)
      | (go_at_call 13; refine (c3 w2 (HB _ bw2)).mono ?_; rintro e w3 ⟨rfl, hb3⟩; have bw3 : Below w.heap.size w w3 := bw2.trans (hb3.mono bw2.size); obtain ⟨bc3, bf3⟩ := bcell hb3; have hz3 : w.heap.size < w3.heap.size := by (have := hb3.size; omega))
      | (go_at_call 13; refine (c2 w1 (HB _ bw1)).mono ?_; rintro e w2 ⟨rfl, hb2⟩; have bw2 : Below w.heap.size w w2 := bw1.trans (hb2.mono bw1.size); obtain ⟨bc2, bf2⟩ := bcell hb2; have hz2 : w.heap.size < w2.heap.size := by (have := hb2.size; omega))
      | (go_at_call 13; refine (c1 _ (HB _ (b0 _))).mono ?_; rintro e w1 ⟨rfl, hb1⟩; have bw1 : Below w.heap.size w w1 := (b0 _).trans (hb1.mono (by simp)); obtain ⟨bc1, bf1⟩ := bcell hb1; have hz1 : w.heap.size < w1.heap.size := by (have := hb1.size; simp at this; omega)))
    go_ret
    exact ⟨rfl, bw3.trans (hb4.mono bw3.size)⟩
  · have e : Q = false := by rw [← hQ, decide_eq_false d4]; simp
    have i4 : decide ((ms.length : Int) ≤ 10) = false := decide_eq_false (by omega)
    subst e
    clear hQ d1 d2 d3 d4 cA
    go_enter Tryd.func12, Tryd.ntmps12
    go_wp2_with (first
      | (go_at_call 13; refine (c3 w2 (HB _ bw2)).mono ?_; rintro e w3 ⟨rfl, hb3⟩; have bw3 : Below w.heap.size w w3 := bw2.trans (hb3.mono bw2.size); obtain ⟨bc3, bf3⟩ := bcell hb3; have hz3 : w.heap.size < w3.heap.size := by (have := hb3.size; omega))
      | (go_at_call 13; refine (c2 w1 (HB _ bw1)).mono ?_; rintro e w2 ⟨rfl, hb2⟩; have bw2 : Below w.heap.size w w2 := bw1.trans (hb2.mono bw1.size); obtain ⟨bc2, bf2⟩ := bcell hb2; have hz2 : w.heap.size < w2.heap.size := by (have := hb2.size; omega))
      | (go_at_call 13; refine (c1 _ (HB _ (b0 _))).mono ?_; rintro e w1 ⟨rfl, hb1⟩; have bw1 : Below w.heap.size w w1 := (b0 _).trans (hb1.mono (by simp)); obtain ⟨bc1, bf1⟩ := bcell hb1; have hz1 : w.heap.size < w1.heap.size := by (have := hb1.size; simp at this; omega)))
    go_ret
    exact ⟨rfl, bw3⟩

end Go.Proofs.YtdakgnaojakldaaDoor
