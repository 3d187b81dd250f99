/- Plain mathematics of the reference's text functions: characters of UTF-8, names, parts of patterns. No program in it. -/
import Derived.WalkKit
namespace Go.Proofs.YtdakgnaojakldaaDoor
theorem ret_bool {a b : Bool} (h : a = b) : Ending.returned (.bool a) = .returned (.bool b) := by rw [h]
theorem ret_int {k : IntKind} {a b : Int} (h : a = b) : Ending.returned (.int k a) = .returned (.int k b) := by rw [h]
theorem ret_string {a b : ByteArray} (h : a = b) : Ending.returned (.string a) = .returned (.string b) := by rw [h]
theorem ret_two {a1 a2 b1 b2 : Value} (h1 : a1 = b1) (h2 : a2 = b2) : Ending.returned (.tuple #[a1, a2]) = .returned (.tuple #[b1, b2]) := by rw [h1, h2]

namespace Ref

/-- How many bytes are to come behind a first byte, and between which bounds the next one lies. -/
def leadN (b : Int) : Int × Int × Int :=
  if 194 ≤ b ∧ b ≤ 223 then (1, 128, 191)
  else if b = 224 then (2, 160, 191)
  else if b = 237 then (2, 128, 159)
  else if 225 ≤ b ∧ b ≤ 239 then (2, 128, 191)
  else if b = 240 then (3, 144, 191)
  else if 241 ≤ b ∧ b ≤ 243 then (3, 128, 191)
  else if b = 244 then (3, 128, 143)
  else (0, 0, 0)

/-- Small letters alone. -/
def letters (l : List UInt8) : Bool := l.all fun c => decide (97 ≤ c.toNat ∧ c.toNat ≤ 122)

def isName (s : ByteArray) : Bool := decide (1 ≤ s.size ∧ s.size ≤ 12) && letters s.data.toList

theorem take_snoc (s : ByteArray) (k : Nat) (h : k < s.size) : s.data.toList.take (k + 1) = s.data.toList.take k ++ [s[k]] := by
  rw [List.take_succ_eq_append_getElem (by simpa using h)]; rfl

theorem letters_snoc (l : List UInt8) (c : UInt8) : letters (l ++ [c]) = (letters l && decide (97 ≤ c.toNat ∧ c.toNat ≤ 122)) := by
  simp [letters]

theorem letters_take_bad (s : ByteArray) (k : Nat) (h : k < s.size) (hb : ¬ (97 ≤ s[k].toNat ∧ s[k].toNat ≤ 122)) : letters s.data.toList = false := by
  have e : letters (s.data.toList.take (k + 1)) = false := by rw [take_snoc s k h, letters_snoc]; simp [hb]
  have := List.take_append_drop (k + 1) s.data.toList
  rw [← this]; unfold letters at *; rw [List.all_append, e]; rfl

theorem isName_bad (s : ByteArray) (k : Nat) (h : k < s.size) (hb : (s[k].toNat : Int) < 97 ∨ 122 < (s[k].toNat : Int)) : isName s = false := by
  unfold isName; rw [letters_take_bad s k h (by omega)]; simp

theorem letters_next (s : ByteArray) (k : Nat) (h : k < s.size) (hl : letters (s.data.toList.take k) = true) (ha : 97 ≤ (s[k].toNat : Int)) (hb : (s[k].toNat : Int) ≤ 122) :
    letters (s.data.toList.take (k + 1)) = true := by
  rw [take_snoc s k h, letters_snoc, hl]; simp; omega

theorem isName_good (s : ByteArray) (k : Nat) (h : ¬ k < s.size) (hk : k ≤ s.size) (h1 : 1 ≤ s.size) (h2 : s.size ≤ 12) (hl : letters (s.data.toList.take k) = true) : isName s = true := by
  unfold isName; rw [List.take_of_length_le (by simp; omega)] at hl; rw [hl]; simp; omega

theorem isName_size (s : ByteArray) (h : ¬ (1 ≤ s.size ∧ s.size ≤ 12)) : isName s = false := by
  unfold isName; simp [h]

theorem leadN_bounds (b : Int) : 0 ≤ (leadN b).1 ∧ (leadN b).1 ≤ 3 ∧ 0 ≤ (leadN b).2.1 ∧ (leadN b).2.1 ≤ 255 ∧ 0 ≤ (leadN b).2.2 ∧ (leadN b).2.2 ≤ 255 := by
  generalize hr : leadN b = r
  unfold leadN at hr
  (repeat' split at hr) <;> subst hr <;> simp

/-- The bytes 1 to n lie between the bounds: the first of them between lo and hi. -/
def contTo (l : List UInt8) (lo hi : Int) (n : Nat) : Bool :=
  (List.range n).all fun j => if j = 0 then decide (lo ≤ ((l.getD 1 0).toNat : Int) ∧ ((l.getD 1 0).toNat : Int) ≤ hi) else decide (128 ≤ (l.getD (j + 1) 0).toNat ∧ (l.getD (j + 1) 0).toNat ≤ 191)

/-- How many bytes the first character of a text has; 0: none of UTF-8 begins so. -/
def charLen (l : List UInt8) : Nat :=
  if l.length = 0 then 0
  else if (l.getD 0 0).toNat < 128 then 1
  else if (leadN (l.getD 0 0).toNat).1 = 0 then 0
  else if (l.length : Int) < (leadN (l.getD 0 0).toNat).1 + 1 then 0
  else if contTo l (leadN (l.getD 0 0).toNat).2.1 (leadN (l.getD 0 0).toNat).2.2 (leadN (l.getD 0 0).toNat).1.toNat then (leadN (l.getD 0 0).toNat).1.toNat + 1 else 0

theorem contTo_succ (l : List UInt8) (lo hi : Int) (n : Nat) :
    contTo l lo hi (n + 1) = (contTo l lo hi n && if n = 0 then decide (lo ≤ ((l.getD 1 0).toNat : Int) ∧ ((l.getD 1 0).toNat : Int) ≤ hi) else decide (128 ≤ (l.getD (n + 1) 0).toNat ∧ (l.getD (n + 1) 0).toNat ≤ 191)) := by
  unfold contTo; rw [List.range_succ, List.all_append]; simp

theorem contTo_mono (l : List UInt8) (lo hi : Int) (n k : Nat) (h : contTo l lo hi k = false) : contTo l lo hi (k + n) = false := by
  induction n with
  | zero => exact h
  | succ n ih => rw [← Nat.add_assoc, contTo_succ, ih]; rfl

theorem b255 (c : UInt8) : (c.toNat : Int) ≤ 255 := by have := c.toNat_lt; omega
theorem b0 (c : UInt8) : (0 : Int) ≤ c.toNat := by omega

theorem len_data (s : ByteArray) : s.data.toList.length = s.size := by simp

theorem getD_at (s : ByteArray) (k : Nat) (h : k < s.size) : s.data.toList.getD k 0 = s[k] := by
  rw [List.getD_eq_getElem?_getD, List.getElem?_eq_getElem (by simpa using h)]; rfl

/-- The first character of a text, as it is written (where there is none: its first byte); is there one? -/
def charStr (s : ByteArray) : ByteArray := s.extract 0 (if charLen s.data.toList = 0 then 1 else charLen s.data.toList)
def charOk (s : ByteArray) : Bool := charLen s.data.toList != 0

theorem char_of (s : ByteArray) (k : Nat) (h : charLen s.data.toList = k) : charStr s = s.extract 0 (if k = 0 then 1 else k) ∧ charOk s = (k != 0) := by
  unfold charStr charOk; rw [h]; exact ⟨rfl, rfl⟩

theorem charLen_ascii (s : ByteArray) (hp : 0 < s.size) (h : (s[0].toNat : Int) < 128) : charLen s.data.toList = 1 := by
  unfold charLen
  rw [if_neg (by rw [len_data]; omega), getD_at s 0 hp, if_pos (by omega)]

theorem charLen_lead0 (s : ByteArray) (hp : 0 < s.size) (lo hi : Int) (hr : leadN (s[0].toNat : Int) = (0, lo, hi)) (h : ¬ (s[0].toNat : Int) < 128) : charLen s.data.toList = 0 := by
  unfold charLen
  rw [if_neg (by rw [len_data]; omega), getD_at s 0 hp, if_neg (by omega), hr, if_pos rfl]

theorem charLen_short (s : ByteArray) (hp : 0 < s.size) (n lo hi : Int) (hr : leadN (s[0].toNat : Int) = (n, lo, hi)) (h : ¬ (s[0].toNat : Int) < 128) (hn : n ≠ 0) (hl : (s.size : Int) < n + 1) : charLen s.data.toList = 0 := by
  unfold charLen
  rw [if_neg (by rw [len_data]; omega), getD_at s 0 hp, if_neg (by omega), hr, if_neg hn, if_pos (by simpa using hl)]

theorem charLen_cont (s : ByteArray) (hp : 0 < s.size) (n lo hi : Int) (hr : leadN (s[0].toNat : Int) = (n, lo, hi)) (h : ¬ (s[0].toNat : Int) < 128) (hn : n ≠ 0) (hl : ¬ (s.size : Int) < n + 1) :
    charLen s.data.toList = if contTo s.data.toList lo hi n.toNat then n.toNat + 1 else 0 := by
  unfold charLen
  rw [if_neg (by rw [len_data]; omega), getD_at s 0 hp, if_neg (by omega), hr, if_neg hn, if_neg (by simpa using hl)]

theorem char_ends (s : ByteArray) (k : Nat) (h : charLen s.data.toList = k) (t : ByteArray) (b : Bool) (ht : t = s.extract 0 (if k = 0 then 1 else k)) (hb : b = (k != 0)) :
    Ending.returned (.tuple #[.string t, .bool b]) = .returned (.tuple #[.string (charStr s), .bool (charOk s)]) := by
  rw [(char_of s k h).1, (char_of s k h).2, ht, hb]

/-- The bounds of the byte at place k (k from 1 on). -/
def loAt (lo : Int) (k : Nat) : Int := if k = 1 then lo else 128
def hiAt (hi : Int) (k : Nat) : Int := if k = 1 then hi else 191

theorem contTo_next (s : ByteArray) (lo hi : Int) (k : Nat) (h1 : 1 ≤ k) (hk : k < s.size) (h : contTo s.data.toList lo hi (k - 1) = true) :
    contTo s.data.toList lo hi k = decide (loAt lo k ≤ (s[k].toNat : Int) ∧ (s[k].toNat : Int) ≤ hiAt hi k) := by
  obtain ⟨j, rfl⟩ : ∃ j, k = j + 1 := ⟨k - 1, by omega⟩
  simp only [Nat.add_sub_cancel] at h
  rw [contTo_succ, h, getD_at s (j + 1) hk]
  unfold loAt hiAt
  by_cases hj : j = 0
  · subst hj; rw [getD_at s 1 hk]; simp
  · rw [if_neg hj, if_neg (by omega), if_neg (by omega), Bool.true_and, decide_eq_decide]; omega

theorem charLen_bad (s : ByteArray) (hp : 0 < s.size) (n lo hi : Int) (hr : leadN (s[0].toNat : Int) = (n, lo, hi)) (h : ¬ (s[0].toNat : Int) < 128) (hn : n ≠ 0) (hl : ¬ (s.size : Int) < n + 1)
    (k : Nat) (h1 : 1 ≤ k) (hk : k < s.size) (hkn : (k : Int) ≤ n) (hc : contTo s.data.toList lo hi (k - 1) = true) (hb : (s[k].toNat : Int) < loAt lo k ∨ hiAt hi k < (s[k].toNat : Int)) : charLen s.data.toList = 0 := by
  have e := contTo_next s lo hi k h1 hk hc
  have e2 : contTo s.data.toList lo hi k = false := by rw [e, decide_eq_false_iff_not]; omega
  have e3 := contTo_mono s.data.toList lo hi (n.toNat - k) k e2
  rw [show k + (n.toNat - k) = n.toNat by omega] at e3
  rw [charLen_cont s hp n lo hi hr h hn hl, e3]; rfl

theorem contTo_good (s : ByteArray) (lo hi : Int) (k : Nat) (h1 : 1 ≤ k) (hk : k < s.size) (h : contTo s.data.toList lo hi (k - 1) = true) (ha : loAt lo k ≤ (s[k].toNat : Int)) (hb : (s[k].toNat : Int) ≤ hiAt hi k) :
    contTo s.data.toList lo hi (k + 1 - 1) = true := by
  rw [Nat.add_sub_cancel, contTo_next s lo hi k h1 hk h, decide_eq_true_eq]; exact ⟨ha, hb⟩

theorem charLen_good (s : ByteArray) (hp : 0 < s.size) (n lo hi : Int) (hr : leadN (s[0].toNat : Int) = (n, lo, hi)) (h : ¬ (s[0].toNat : Int) < 128) (hn : n ≠ 0) (hl : ¬ (s.size : Int) < n + 1)
    (k : Nat) (h1 : 1 ≤ k) (hkn : ¬ (k : Int) ≤ n) (hk1 : (k : Int) ≤ n + 1) (hc : contTo s.data.toList lo hi (k - 1) = true) : charLen s.data.toList = k := by
  rw [show k - 1 = n.toNat by omega] at hc
  rw [charLen_cont s hp n lo hi hr h hn hl, if_pos hc]; omega

theorem loAt_succ (lo : Int) (k : Nat) (h : 1 ≤ k) : loAt lo (k + 1) = 128 := by unfold loAt; rw [if_neg (by omega)]
theorem hiAt_succ (hi : Int) (k : Nat) (h : 1 ≤ k) : hiAt hi (k + 1) = 191 := by unfold hiAt; rw [if_neg (by omega)]

/-- Where the first closing brace stands, from place 2 on; the text's length, if there is none. -/
def closeAt (s : ByteArray) : Nat := 2 + (s.data.toList.drop 2).findIdx (fun c => c.toNat == 125)

theorem drop2_get (s : ByteArray) (k : Nat) (h2 : 2 ≤ k) (hk : k < s.size) : ∃ h : k - 2 < (s.data.toList.drop 2).length, (s.data.toList.drop 2)[k - 2] = s[k] := by
  have h : k - 2 < (s.data.toList.drop 2).length := by rw [List.length_drop, len_data]; omega
  refine ⟨h, ?_⟩
  rw [List.getElem_drop]
  have e : 2 + (k - 2) = k := by omega
  simp only [e]; rfl

theorem closeAt_hit (s : ByteArray) (k : Nat) (h2 : 2 ≤ k) (hk : k < s.size) (hc : k ≤ closeAt s) (h : (s[k].toNat : Int) = 125) : closeAt s = k := by
  obtain ⟨hl, e⟩ := drop2_get s k h2 hk
  unfold closeAt at *
  have : (s.data.toList.drop 2).findIdx (fun c => c.toNat == 125) ≤ k - 2 := by
    apply Nat.le_of_not_lt
    intro hh
    have := List.not_of_lt_findIdx hh
    rw [e] at this
    simp at this; omega
  omega

theorem closeAt_miss (s : ByteArray) (k : Nat) (h2 : 2 ≤ k) (hk : k < s.size) (hc : k ≤ closeAt s) (h : (s[k].toNat : Int) ≠ 125) : k + 1 ≤ closeAt s := by
  obtain ⟨hl, e⟩ := drop2_get s k h2 hk
  unfold closeAt at *
  have : (s.data.toList.drop 2).findIdx (fun c => c.toNat == 125) ≠ k - 2 := by
    intro hh
    have hlt : (s.data.toList.drop 2).findIdx (fun c => c.toNat == 125) < (s.data.toList.drop 2).length := by omega
    have := List.findIdx_getElem (w := hlt)
    simp only [hh, e] at this
    simp at this; omega
  omega

theorem closeAt_end (s : ByteArray) (k : Nat) (h2 : 2 ≤ k) (hk : ¬ k < s.size) (hks : k ≤ s.size) (hc : k ≤ closeAt s) : closeAt s = s.size := by
  unfold closeAt at *
  have := List.findIdx_le_length (xs := s.data.toList.drop 2) (p := fun c => c.toNat == 125)
  rw [List.length_drop, len_data] at this; omega

/-- The part that begins with a dollar: its kind, its text; how many bytes it has (0: it is none). -/
def dollarP (s : ByteArray) : Int × ByteArray × Nat :=
  if s.size < 2 then (0, ⟨#[]⟩, 0)
  else if (s.data.toList.getD 1 0).toNat = 36 ∨ (s.data.toList.getD 1 0).toNat = 42 ∨ (s.data.toList.getD 1 0).toNat = 63 then (1, s.extract 1 2, 2)
  else if (s.data.toList.getD 1 0).toNat = 123 then
    if closeAt s < s.size then (if isName (s.extract 2 (closeAt s)) then (4, s.extract 2 (closeAt s), closeAt s + 1) else (0, ⟨#[]⟩, 0)) else (0, ⟨#[]⟩, 0)
  else (0, ⟨#[]⟩, 0)

def partV (p : Int × ByteArray) : Value := .agg #[.int .i64 p.1, .string p.2]

end Ref
end Go.Proofs.YtdakgnaojakldaaDoor
