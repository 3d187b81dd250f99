/- Plain mathematics of the reference: variables laid out; what characters parts cover. -/
import Derived.Test.YtdakgnaojakldaaDoorRefMath6
namespace Go.Proofs.YtdakgnaojakldaaDoor
namespace Ref

/-- What a part is laid out as. -/
def laidOne (r : Req) (p : Int × ByteArray) : Option (List (Int × ByteArray)) :=
  if p.1 = 4 then (says r p.2).map fun v => ((chars v).getD []).map fun c => ((1 : Int), c) else some [p]

def laid (r : Req) : List (Int × ByteArray) → Option (List (Int × ByteArray))
  | [] => some []
  | p :: ps => match laidOne r p with
    | none => none
    | some a => (laid r ps).map fun b => a ++ b

theorem charsF_len (f : Nat) (s : ByteArray) (l : List ByteArray) (h : charsF f s = some l) : l.length ≤ s.size := by
  induction f generalizing s l with
  | zero => simp [charsF] at h
  | succ f ih =>
    rw [charsF] at h
    split at h
    · simp at h; subst h; simp
    split at h
    · simp at h
    · rename_i hz _
      obtain ⟨r, hr, rfl⟩ := Option.map_eq_some_iff.1 h
      have := ih _ _ hr
      have hc := charStr_size s (by omega)
      rw [ByteArray.size_extract] at this
      simp; omega

theorem chars_len (s : ByteArray) : ((chars s).getD []).length ≤ s.size := by
  cases h : chars s with
  | none => simp
  | some l => exact charsF_len _ _ _ h

theorem laid_next (r : Req) (ps : List (Int × ByteArray)) (k : Nat) (hk : k < ps.length) (done : List (Int × ByteArray)) (P : Option (List (Int × ByteArray)))
    (h : P = (laid r (ps.drop k)).map fun b => done ++ b) (a : List (Int × ByteArray)) (ha : laidOne r ps[k] = some a) : P = (laid r (ps.drop (k + 1))).map fun b => (done ++ a) ++ b := by
  rw [h, List.drop_eq_getElem_cons hk, laid, ha]
  simp [Option.map_map, Function.comp_def]

theorem laid_stop (r : Req) (ps : List (Int × ByteArray)) (k : Nat) (hk : k < ps.length) (done : List (Int × ByteArray)) (P : Option (List (Int × ByteArray)))
    (h : P = (laid r (ps.drop k)).map fun b => done ++ b) (ha : laidOne r ps[k] = none) : P = none := by
  rw [h, List.drop_eq_getElem_cons hk, laid, ha]; rfl

theorem laid_end (r : Req) (ps : List (Int × ByteArray)) (k : Nat) (hk : ¬ k < ps.length) (done : List (Int × ByteArray)) (P : Option (List (Int × ByteArray)))
    (h : P = (laid r (ps.drop k)).map fun b => done ++ b) : P = some done := by
  rw [h, List.drop_of_length_le (by omega), laid]; simp

theorem partCells_get (ps : List (Int × ByteArray)) (j : Nat) (h : j < ps.length) : (partCells ps)[j * 2]? = some (.int .i64 ps[j].1) ∧ (partCells ps)[j * 2 + 1]? = some (.string ps[j].2) := by
  induction ps generalizing j with
  | nil => simp at h
  | cons p ps ih =>
    have e : partCells (p :: ps) = .int .i64 p.1 :: .string p.2 :: partCells ps := by simp [partCells]
    rw [e]
    cases j with
    | zero => simp
    | succ j =>
      have := ih j (by simpa using h)
      rw [show (j + 1) * 2 = (j * 2) + 1 + 1 by omega, show (j * 2) + 1 + 1 + 1 = (j * 2 + 1) + 1 + 1 by omega]
      simpa using this

theorem strCells_get (l : List ByteArray) (j : Nat) (h : j < l.length) : (strCells l)[j]? = some (.string l[j]) := by
  simp [strCells, h]

end Ref
end Go.Proofs.YtdakgnaojakldaaDoor
