/- Plain mathematics of the reference: the table of parts and characters. -/
import Derived.Test.YtdakgnaojakldaaDoorRefMath7
namespace Go.Proofs.YtdakgnaojakldaaDoor
namespace Ref

/-- Are the first k characters made of these parts (the last one first)? -/
def covR (cs : List ByteArray) : List (Int × ByteArray) → Nat → Bool
  | [], k => k == 0
  | p :: ps, k => if p.1 = 3 then (List.range (k + 1)).any (covR cs ps) else if k = 0 then false else if p.1 = 2 then covR cs ps (k - 1) else covR cs ps (k - 1) && (p.2.toList == (cs.getD (k - 1) ⟨#[]⟩).toList)

/-- Are the characters made of the parts? -/
def covers (ps : List (Int × ByteArray)) (cs : List ByteArray) : Bool := covR cs ps.reverse cs.length

def rowCells (f : Nat → Bool) (n : Nat) : List Value := (List.range n).map fun j => .bool (f j)

theorem rowCells_get (f : Nat → Bool) (n j : Nat) (h : j < n) : (rowCells f n)[j]? = some (.bool (f j)) := by
  unfold rowCells; rw [List.getElem?_map, List.getElem?_range h]; rfl

/-- A row that is filled up to k. -/
def upTo (f : Nat → Bool) (k j : Nat) : Bool := decide (j < k) && f j

theorem rowCells_set (f : Nat → Bool) (n k : Nat) (b : Bool) (hb : f k = b) : (rowCells (upTo f k) n).set k (.bool b) = rowCells (upTo f (k + 1)) n := by
  apply List.ext_getElem?
  intro j
  unfold rowCells upTo
  rw [List.getElem?_set]
  by_cases hj : j < n
  · by_cases hk : k = j
    · subst hk; simp [hj, hb]
    · simp [hj, hk]
      have : (j < k) ↔ (j < k + 1) := by omega
      simp [this]
  · by_cases hk : k = j
    · subst hk; simp [hj]
    · simp [hj, hk]

theorem rowCells_skip (f : Nat → Bool) (n k : Nat) (hb : f k = false) : rowCells (upTo f k) n = rowCells (upTo f (k + 1)) n := by
  unfold rowCells
  apply List.map_congr_left
  intro j _
  unfold upTo
  by_cases hk : k = j
  · subst hk; simp [hb]
  · have : (j < k) ↔ (j < k + 1) := by omega
    simp [this]

theorem rowCells_full (f : Nat → Bool) (n k : Nat) (hk : n ≤ k) : rowCells (upTo f k) n = rowCells f n := by
  unfold rowCells
  apply List.map_congr_left
  intro j hj
  have := List.mem_range.1 hj
  unfold upTo
  simp; omega

theorem rowCells_none (f : Nat → Bool) (n : Nat) : rowCells (upTo f 0) n = List.replicate n (.bool false) := by
  apply List.ext_getElem?
  intro j
  unfold rowCells upTo
  by_cases hj : j < n <;> simp [hj]

theorem covR_nil (cs : List ByteArray) (n : Nat) : (List.replicate (n + 1) (Value.bool false)).set 0 (.bool true) = rowCells (covR cs []) (n + 1) := by
  have h := rowCells_set (covR cs []) (n + 1) 0 true rfl
  rw [rowCells_none] at h
  rw [h]
  unfold rowCells
  apply List.map_congr_left
  intro j _
  unfold upTo covR
  by_cases hj : j = 0
  · subst hj; rfl
  · have : ¬ j < 1 := by omega
    simp [this, hj]

theorem covR_star (cs : List ByteArray) (p : Int × ByteArray) (ps : List (Int × ByteArray)) (h : p.1 = 3) (k : Nat) (hk : 0 < k) : covR cs (p :: ps) k = (covR cs ps k || covR cs (p :: ps) (k - 1)) := by
  obtain ⟨m, rfl⟩ : ∃ m, k = m + 1 := ⟨k - 1, by omega⟩
  simp only [covR, h, if_true, Nat.add_sub_cancel]
  rw [List.range_succ (n := m + 1), List.any_append]
  simp [Bool.or_comm]

theorem covR_star0 (cs : List ByteArray) (p : Int × ByteArray) (ps : List (Int × ByteArray)) (h : p.1 = 3) : covR cs (p :: ps) 0 = covR cs ps 0 := by
  simp [covR, h]

theorem covR_zero (cs : List ByteArray) (p : Int × ByteArray) (ps : List (Int × ByteArray)) (h : p.1 ≠ 3) : covR cs (p :: ps) 0 = false := by
  simp [covR, h]

theorem covR_any (cs : List ByteArray) (p : Int × ByteArray) (ps : List (Int × ByteArray)) (h : p.1 = 2) (k : Nat) (hk : 0 < k) : covR cs (p :: ps) k = covR cs ps (k - 1) := by
  simp only [covR]; rw [if_neg (by omega), if_neg (by omega), if_pos h]

theorem covR_lit (cs : List ByteArray) (p : Int × ByteArray) (ps : List (Int × ByteArray)) (h3 : p.1 ≠ 3) (h2 : p.1 ≠ 2) (k : Nat) (hk : 0 < k) (hc : k - 1 < cs.length) :
    covR cs (p :: ps) k = (covR cs ps (k - 1) && (p.2.toList == cs[k - 1].toList)) := by
  simp only [covR]; rw [if_neg h3, if_neg (by omega), if_neg h2, List.getD_eq_getElem?_getD, List.getElem?_eq_getElem hc]; rfl

theorem take_rev (ps : List (Int × ByteArray)) (i : Nat) (h : i < ps.length) : (ps.take (i + 1)).reverse = ps[i] :: (ps.take i).reverse := by
  rw [List.take_succ_eq_append_getElem h, List.reverse_append]; rfl

end Ref
end Go.Proofs.YtdakgnaojakldaaDoor
