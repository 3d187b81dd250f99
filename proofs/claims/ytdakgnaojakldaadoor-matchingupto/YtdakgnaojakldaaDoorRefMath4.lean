/- Plain mathematics of the reference: the characters of a word; what a name says. -/
import Derived.Test.YtdakgnaojakldaaDoorRefMath3
namespace Go.Proofs.YtdakgnaojakldaaDoor
namespace Ref

def charsF : Nat → ByteArray → Option (List ByteArray)
  | 0, _ => none
  | f + 1, s => if s.size = 0 then some [] else if charOk s = false then none else (charsF f (s.extract (charStr s).size s.size)).map fun r => charStr s :: r

/-- The characters of a word; none: it is not all UTF-8. -/
def chars (s : ByteArray) : Option (List ByteArray) := charsF (s.size + 1) s

def strCells (l : List ByteArray) : List Value := l.map Value.string

theorem strCells_snoc (l : List ByteArray) (c : ByteArray) : strCells (l ++ [c]) = strCells l ++ [.string c] := by simp [strCells]

theorem chars_next (P : Option (List ByteArray)) (f : Nat) (t : ByteArray) (done : List ByteArray) (hp : 0 < t.size) (hf : t.size < f) (h : P = (charsF f t).map fun r => done ++ r)
    (c : ByteArray) (hc : charStr t = c) (ho : charOk t = true) :
    ∃ f', (t.extract c.size t.size).size < f' ∧ P = (charsF f' (t.extract c.size t.size)).map fun r => (done ++ [c]) ++ r := by
  obtain ⟨g, rfl⟩ : ∃ g, f = g + 1 := ⟨f - 1, by omega⟩
  have hn := charStr_size t hp
  rw [hc] at hn
  refine ⟨g, by rw [ByteArray.size_extract]; omega, ?_⟩
  rw [h, charsF, if_neg (by omega), if_neg (by simp [ho]), hc]
  simp [Option.map_map, Function.comp_def]

theorem chars_stop (P : Option (List ByteArray)) (f : Nat) (t : ByteArray) (done : List ByteArray) (hp : 0 < t.size) (hf : t.size < f) (h : P = (charsF f t).map fun r => done ++ r) (ho : charOk t = false) : P = none := by
  obtain ⟨g, rfl⟩ : ∃ g, f = g + 1 := ⟨f - 1, by omega⟩
  rw [h, charsF, if_neg (by omega), if_pos ho]; rfl

theorem chars_end (P : Option (List ByteArray)) (f : Nat) (t : ByteArray) (done : List ByteArray) (hp : ¬ 0 < t.size) (hf : t.size < f) (h : P = (charsF f t).map fun r => done ++ r) : P = some done := by
  obtain ⟨g, rfl⟩ : ∃ g, f = g + 1 := ⟨f - 1, by omega⟩
  rw [h, charsF, if_pos (by omega)]; simp

/-- May a word stand in a request? -/
def wordOk (s : ByteArray) : Bool := (chars s).isSome && decide (s.size ≤ 100)

end Ref
end Go.Proofs.YtdakgnaojakldaaDoor
