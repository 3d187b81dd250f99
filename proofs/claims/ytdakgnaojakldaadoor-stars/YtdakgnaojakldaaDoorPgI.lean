/- Contracts of the program's IsWord, isMark, MayBe. -/
import Derived.Test.YtdakgnaojakldaaDoorPgH
import Derived.Test.YtdakgnaojakldaaDoorPgMath4
import Derived.Shelf.Unicode.ValidAny
namespace Go.Proofs.YtdakgnaojakldaaDoor
open Go.RowKit

theorem valid_any (s : ByteArray) (w : World) (hs : s.size ≤ maxLen) (hT : TabsAt w) :
    Calls Tryd.prog 26 #[.string s] w fun e w' => e = .returned (.bool (Ref.chars s).isSome) ∧ Below w.heap.size w w' := by
  have c := Any.utf8_ValidString Tryd.lays196 s w (by unfold maxLen at hs; omega) hT
  rw [Pg.chars_valid] at c
  exact c

set_option maxRecDepth 100000 in
theorem isWord_p (s : ByteArray) (w : World) (hs : s.size ≤ maxLen) (hT : TabsAt w) :
    Calls Tryd.prog 13 #[.string s] w fun e w' => e = .returned (.bool (Ref.wordOk s)) ∧ Below w.heap.size w w' := by
  have c := valid_any s w hs hT
  unfold Ref.wordOk
  generalize (Ref.chars s).isSome = V at c ⊢
  unfold maxLen at hs
  by_cases h : s.size ≤ 100
  · have d : decide ((s.size : Int) ≤ 100) = true := decide_eq_true (by omega)
    rw [decide_eq_true h]
    go_enter Tryd.func13, Tryd.ntmps13
    go_wp2_with (go_at_call 26; refine c.mono ?_; rintro e w' ⟨rfl, hb'⟩)
    go_ret
    exact ⟨by simp, hb'⟩
  · have d : decide ((s.size : Int) ≤ 100) = false := decide_eq_false (by omega)
    rw [decide_eq_false h]
    go_enter Tryd.func13, Tryd.ntmps13
    go_wp2
    go_ret
    exact ⟨by simp, Below.refl _ _⟩

theorem isWord_at (s : ByteArray) (b : Bool) (hb : Ref.wordOk s = b) (hs : s.size ≤ maxLen) : ∀ w, TabsAt w →
    Calls Tryd.prog 13 #[.string s] w fun e w' => e = .returned (.bool b) ∧ Below w.heap.size w w' := by
  subst hb; exact fun w hT => isWord_p s w hs hT

set_option maxHeartbeats 400000 in
set_option maxRecDepth 100000 in
theorem isMark_p (m : ByteArray × ByteArray) (w : World) (h1 : m.1.size ≤ maxLen) (h2 : m.2.size ≤ maxLen) (hT : TabsAt w) :
    Calls Tryd.prog 25 #[markV m] w fun e w' => e = .returned (.bool (Ref.markOk m)) ∧ Below w.heap.size w w' := by
  obtain ⟨a, v⟩ := m
  unfold markV
  simp only at h1 h2 ⊢
  generalize hM : Ref.markOk (a, v) = M
  unfold Ref.markOk at hM
  simp only at hM
  have b0 := fun O => (Below.refl _ w).alloc (Nat.le_refl _) O
  cases d1 : a.toList == [119, 104, 111] with
  | true =>
    have e : M = false := by rw [← hM, d1]; simp
    subst e
    clear hM
    go_enter Tryd.func25, Tryd.ntmps25
    go_wp2
    go_ret
    exact ⟨rfl, b0 _⟩
  | false =>
  cases d2 : a.toList == [100, 111] with
  | true =>
    have e : M = false := by rw [← hM, d2]; simp
    subst e
    clear hM
    go_enter Tryd.func25, Tryd.ntmps25
    go_wp2
    go_ret
    exact ⟨rfl, b0 _⟩
  | false =>
  cases d3 : a.toList == [111, 110] with
  | true =>
    have e : M = false := by rw [← hM, d3]; simp
    subst e
    clear hM
    go_enter Tryd.func25, Tryd.ntmps25
    go_wp2
    go_ret
    exact ⟨rfl, b0 _⟩
  | false =>
  rw [d1, d2, d3] at hM
  have cn := fun W => isNameP a W h1
  cases hn : Ref.isName a with
  | false =>
    have e : M = false := by rw [← hM, hn]; simp
    subst e
    rw [hn] at cn
    clear hM hn
    go_enter Tryd.func25, Tryd.ntmps25
    go_wp2_with (go_at_call 47; refine (cn _).mono ?_; rintro e w' ⟨rfl, hb'⟩)
    go_ret
    exact ⟨rfl, (b0 _).trans (hb'.mono (by simp))⟩
  | true =>
    have cw := isWord_at v _ rfl h2
    have e : M = Ref.wordOk v := by rw [← hM, hn]; simp
    rw [← e] at cw
    rw [hn] at cn
    clear hM hn e
    go_enter Tryd.func25, Tryd.ntmps25
    go_wp2_with (first
      | (go_at_call 47; refine (cn _).mono ?_; rintro e w' ⟨rfl, hb'⟩; obtain ⟨bc, bf⟩ := bcell hb'; have hz : w.heap.size < w'.heap.size := by (have := hb'.size; simp at this; omega))
      | (go_at_call 13; refine (cw _ (hT.below ((b0 _).trans (hb'.mono (by simp))))).mono ?_; rintro e w2 ⟨rfl, hb2⟩))
    have bw : Below w.heap.size w w' := (b0 _).trans (hb'.mono (by simp))
    go_ret
    exact ⟨rfl, bw.trans (hb2.mono bw.size)⟩

end Go.Proofs.YtdakgnaojakldaaDoor
