/- Contracts of the program's isLetter and IsName. -/
import Derived.Test.YtdakgnaojakldaaDoorPgC
import Derived.Laws.IdiomStrings
namespace Go.Proofs.YtdakgnaojakldaaDoor
open Go.RowKit

def letterB (c : Nat) : Bool := decide (97 ≤ c ∧ c ≤ 122)

set_option maxRecDepth 100000 in
theorem isLetter_p (c : Nat) (w : World) (hc : c < 256) :
    Calls Tryd.prog 61 #[.int .u8 (c : Int)] w fun e w' => e = .returned (.bool (letterB c)) ∧ w' = w := by
  by_cases h1 : 97 ≤ c
  · have d1 : decide ((97 : Int) ≤ (c : Int)) = true := decide_eq_true (by omega)
    by_cases h2 : c ≤ 122
    · have d2 : decide ((c : Int) ≤ 122) = true := decide_eq_true (by omega)
      have e : letterB c = true := by unfold letterB; simp; omega
      rw [e]
      go_enter Tryd.func61, Tryd.ntmps61
      go_wp2
      go_ret
      exact ⟨rfl, rfl⟩
    · have d2 : decide ((c : Int) ≤ 122) = false := decide_eq_false (by omega)
      have e : letterB c = false := by unfold letterB; simp; omega
      rw [e]
      go_enter Tryd.func61, Tryd.ntmps61
      go_wp2
      go_ret
      exact ⟨rfl, rfl⟩
  · have d1 : decide ((97 : Int) ≤ (c : Int)) = false := decide_eq_false (by omega)
    have e : letterB c = false := by unfold letterB; simp; omega
    rw [e]
    go_enter Tryd.func61, Tryd.ntmps61
    go_wp2
    go_ret
    exact ⟨rfl, rfl⟩

theorem allOf_list (l : List UInt8) (f : Nat → Bool) : allOf (fun j => f (l.getD j 0).toNat) l.length = l.all fun c => f c.toNat := by
  unfold allOf
  rw [Bool.eq_iff_iff, List.all_eq_true, List.all_eq_true]
  constructor
  · intro h c hc
    obtain ⟨j, hj, rfl⟩ := List.mem_iff_getElem.1 hc
    have := h j (List.mem_range.2 hj)
    rwa [List.getD_eq_getElem?_getD, List.getElem?_eq_getElem hj] at this
  · intro h j hj
    have hj' := List.mem_range.1 hj
    rw [List.getD_eq_getElem?_getD, List.getElem?_eq_getElem hj']
    exact h _ (List.getElem_mem hj')

/-- The bytes of a string, laid as a new row. -/
theorem bytes_conv (s : ByteArray) (w : World) : ∃ C O, (convert 9 136 (.string s)).run Tryd.prog w = .ok (.slice (some ⟨w.heap.size, 0, none⟩) s.size C) (w.alloc O).drew
    ∧ ∀ j, j < s.size → (w.alloc O).drew.cell? ⟨w.heap.size, 0 + j, none⟩ = some (.int .u8 (((s.data.toList.getD j 0).toNat : Nat) : Int)) := by
  refine ⟨_, _, run_bytes_of_string w _ _ _ s Tryd.underlying9 Tryd.underlying136 Tryd.underlying5, fun j hj => ?_⟩
  show (w.alloc _).cell? _ = _
  rw [Nat.zero_add, World.cell?_alloc_mark]
  rw [bytesRow_at s _ j hj, Ref.getD_at s j hj]
  rfl

set_option maxHeartbeats 400000 in
set_option maxRecDepth 100000 in
theorem isNameP (s : ByteArray) (w : World) (hs : s.size ≤ maxLen) :
    Calls Tryd.prog 47 #[.string s] w fun e w' => e = .returned (.bool (Ref.isName s)) ∧ Below w.heap.size w w' := by
  unfold maxLen at hs
  by_cases h1 : 1 ≤ s.size
  · have d1 : decide ((0 : Int) < (s.size : Int)) = true := decide_eq_true (by omega)
    by_cases h2 : s.size ≤ 12
    · have d2 : decide ((s.size : Int) ≤ 12) = true := decide_eq_true (by omega)
      obtain ⟨C, O, hcv, hcl⟩ := bytes_conv s w
      have hb0 : Below w.heap.size w (w.alloc O).drew := ((Below.refl _ w).alloc (Nat.le_refl _) _).drew
      have c := all_byte s.size w.heap.size 0 C 61 #[] (fun j => (((s.data.toList.getD j 0).toNat : Nat) : Int)) (fun j => letterB (s.data.toList.getD j 0).toNat) _ (by omega)
        (enters_of Tryd.func61 (by kernel_rfl) rfl) hcl
        (fun W j _ _ => (isLetter_p _ W (UInt8.toNat_lt _)).mono fun e w' ⟨he, hw⟩ => ⟨he, hw ▸ Below.refl _ _⟩)
      have hl := allOf_list s.data.toList letterB
      rw [Ref.len_data] at hl
      rw [hl] at c
      have hn : Ref.isName s = s.data.toList.all fun c => letterB c.toNat := by
        unfold Ref.isName Ref.letters letterB
        rw [decide_eq_true (by omega)]; rfl
      rw [hn]
      generalize (s.data.toList.all fun c => letterB c.toNat) = R at c
      clear hl hn hcl
      go_enter Tryd.func47, Tryd.ntmps47
      go_wp2_with (go_at_call 60; refine c.mono ?_; rintro e w' ⟨rfl, hb'⟩)
      go_ret
      exact ⟨rfl, hb0.trans (hb'.mono hb0.size)⟩
    · have d2 : decide ((s.size : Int) ≤ 12) = false := decide_eq_false (by omega)
      rw [Ref.isName_size s (by omega)]
      go_enter Tryd.func47, Tryd.ntmps47
      go_wp2
      go_ret
      exact ⟨rfl, Below.refl _ _⟩
  · have d1 : decide ((0 : Int) < (s.size : Int)) = false := decide_eq_false (by omega)
    rw [Ref.isName_size s (by omega)]
    go_enter Tryd.func47, Tryd.ntmps47
    go_wp2
    go_ret
    exact ⟨rfl, Below.refl _ _⟩

end Go.Proofs.YtdakgnaojakldaaDoor
