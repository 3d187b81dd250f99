/- Plain mathematics of the reference's patterns: all the parts of a pattern. -/
import Derived.Test.YtdakgnaojakldaaDoorRefMath2
namespace Go.Proofs.YtdakgnaojakldaaDoor
namespace Ref

/-- The first part of a pattern: its kind, its text, how many bytes it takes. -/
def partStep (s : ByteArray) : Option (Int × ByteArray × Nat) :=
  if charOk s = false then none
  else if (charStr s).toList == [42] then some (3, charStr s, (charStr s).size)
  else if (charStr s).toList == [63] then some (2, charStr s, (charStr s).size)
  else if (charStr s).toList == [36] then (if (dollarP s).2.2 = 0 then none else some (dollarP s))
  else some (1, charStr s, (charStr s).size)

def partsF : Nat → ByteArray → Option (List (Int × ByteArray))
  | 0, _ => none
  | f + 1, s => if s.size = 0 then some [] else match partStep s with
    | none => none
    | some (k, t, n) => (partsF f (s.extract n s.size)).map fun r => (k, t) :: r

/-- The parts of a pattern; none: it is none. -/
def parts (s : ByteArray) : Option (List (Int × ByteArray)) := if 60 < s.size then none else partsF (s.size + 1) s

def partCells (l : List (Int × ByteArray)) : List Value := l.flatMap fun p => [.int .i64 p.1, .string p.2]

theorem partCells_snoc (l : List (Int × ByteArray)) (k : Int) (t : ByteArray) : partCells (l ++ [(k, t)]) = partCells l ++ [.int .i64 k, .string t] := by
  simp [partCells]

theorem charLen_le (s : ByteArray) : charLen s.data.toList ≤ s.size := by
  unfold charLen
  rw [len_data]
  split
  · omega
  split
  · omega
  split
  · omega
  split
  · omega
  split
  · have := leadN_bounds ((s.data.toList.getD 0 0).toNat : Int); omega
  · omega

theorem charStr_size (s : ByteArray) (hp : 0 < s.size) : 1 ≤ (charStr s).size ∧ (charStr s).size ≤ s.size := by
  have h := charLen_le s
  unfold charStr
  rw [ByteArray.size_extract]
  split <;> omega

theorem closeAt_two (s : ByteArray) : 2 ≤ closeAt s := by unfold closeAt; omega

theorem dollarP_size (s : ByteArray) : (dollarP s).2.2 ≤ s.size := by
  unfold dollarP
  split
  · simp
  split
  · simp; omega
  split
  · split
    · split
      · simp; omega
      · simp
    · simp
  · simp

theorem partStep_size (s : ByteArray) (hp : 0 < s.size) (k : Int) (t : ByteArray) (n : Nat) (h : partStep s = some (k, t, n)) : 1 ≤ n ∧ n ≤ s.size := by
  have hc := charStr_size s hp
  have hd := dollarP_size s
  unfold partStep at h
  split at h
  · simp at h
  split at h
  · simp at h; omega
  split at h
  · simp at h; omega
  split at h
  · split at h
    · simp at h
    · simp at h; rw [h] at hd; simp at hd; rename_i hn; rw [h] at hn; simp at hn; omega
  · simp at h; omega

/-- One round. -/
theorem parts_next (P : Option (List (Int × ByteArray))) (f : Nat) (t : ByteArray) (done : List (Int × ByteArray)) (hp : 0 < t.size) (hf : t.size < f) (h : P = (partsF f t).map fun r => done ++ r)
    (k : Int) (u : ByteArray) (n : Nat) (hs : partStep t = some (k, u, n)) :
    ∃ f', (t.extract n t.size).size < f' ∧ P = (partsF f' (t.extract n t.size)).map fun r => (done ++ [(k, u)]) ++ r := by
  obtain ⟨g, rfl⟩ : ∃ g, f = g + 1 := ⟨f - 1, by omega⟩
  have hn := partStep_size t hp k u n hs
  refine ⟨g, by rw [ByteArray.size_extract]; omega, ?_⟩
  rw [h, partsF, if_neg (by omega), hs]
  simp [Option.map_map, Function.comp_def]

theorem parts_stop (P : Option (List (Int × ByteArray))) (f : Nat) (t : ByteArray) (done : List (Int × ByteArray)) (hp : 0 < t.size) (hf : t.size < f) (h : P = (partsF f t).map fun r => done ++ r)
    (hs : partStep t = none) : P = none := by
  obtain ⟨g, rfl⟩ : ∃ g, f = g + 1 := ⟨f - 1, by omega⟩
  rw [h, partsF, if_neg (by omega), hs]; rfl

theorem parts_end (P : Option (List (Int × ByteArray))) (f : Nat) (t : ByteArray) (done : List (Int × ByteArray)) (hp : ¬ 0 < t.size) (hf : t.size < f) (h : P = (partsF f t).map fun r => done ++ r) : P = some done := by
  obtain ⟨g, rfl⟩ : ∃ g, f = g + 1 := ⟨f - 1, by omega⟩
  rw [h, partsF, if_pos (by omega)]; simp

def strLen : Value → Nat
  | .string b => b.size
  | _ => 0

end Ref
end Go.Proofs.YtdakgnaojakldaaDoor
