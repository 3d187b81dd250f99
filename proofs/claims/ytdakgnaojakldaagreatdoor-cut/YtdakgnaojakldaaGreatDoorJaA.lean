/- Several texts in one, each with its own opening remark. -/
import Derived.WalkKit
import Derived.Test.YtdakgnaojakldaaGreatDoorProg
import Derived.WalkSpells
import Derived.WalkLawsBesides
/- Plain mathematics of the reference's text functions: characters of UTF-8, names, parts of patterns. No program in it. -/
namespace Go.Proofs.YtdakgnaojakldaaGreatDoor
theorem ret_bool {a b : Bool} (h : a = b) : Ending.returned (.bool a) = .returned (.bool b) := by rw [h]
theorem ret_int {k : IntKind} {a b : Int} (h : a = b) : Ending.returned (.int k a) = .returned (.int k b) := by rw [h]
theorem ret_string {a b : ByteArray} (h : a = b) : Ending.returned (.string a) = .returned (.string b) := by rw [h]
theorem ret_two {a1 a2 b1 b2 : Value} (h1 : a1 = b1) (h2 : a2 = b2) : Ending.returned (.tuple #[a1, a2]) = .returned (.tuple #[b1, b2]) := by rw [h1, h2]

namespace Ref

/-- How many bytes are to come behind a first byte, and between which bounds the next one lies. -/
def leadN (b : Int) : Int × Int × Int :=
  if 194 ≤ b ∧ b ≤ 223 then (1, 128, 191)
  else if b = 224 then (2, 160, 191)
  else if b = 237 then (2, 128, 159)
  else if 225 ≤ b ∧ b ≤ 239 then (2, 128, 191)
  else if b = 240 then (3, 144, 191)
  else if 241 ≤ b ∧ b ≤ 243 then (3, 128, 191)
  else if b = 244 then (3, 128, 143)
  else (0, 0, 0)

/-- Small letters alone. -/
def letters (l : List UInt8) : Bool := l.all fun c => decide (97 ≤ c.toNat ∧ c.toNat ≤ 122)

def isName (s : ByteArray) : Bool := decide (1 ≤ s.size ∧ s.size ≤ 12) && letters s.data.toList

theorem take_snoc (s : ByteArray) (k : Nat) (h : k < s.size) : s.data.toList.take (k + 1) = s.data.toList.take k ++ [s[k]] := by
  rw [List.take_succ_eq_append_getElem (by simpa using h)]; rfl

theorem letters_snoc (l : List UInt8) (c : UInt8) : letters (l ++ [c]) = (letters l && decide (97 ≤ c.toNat ∧ c.toNat ≤ 122)) := by
  simp [letters]

theorem letters_take_bad (s : ByteArray) (k : Nat) (h : k < s.size) (hb : ¬ (97 ≤ s[k].toNat ∧ s[k].toNat ≤ 122)) : letters s.data.toList = false := by
  have e : letters (s.data.toList.take (k + 1)) = false := by rw [take_snoc s k h, letters_snoc]; simp [hb]
  have := List.take_append_drop (k + 1) s.data.toList
  rw [← this]; unfold letters at *; rw [List.all_append, e]; rfl

theorem isName_bad (s : ByteArray) (k : Nat) (h : k < s.size) (hb : (s[k].toNat : Int) < 97 ∨ 122 < (s[k].toNat : Int)) : isName s = false := by
  unfold isName; rw [letters_take_bad s k h (by omega)]; simp

theorem letters_next (s : ByteArray) (k : Nat) (h : k < s.size) (hl : letters (s.data.toList.take k) = true) (ha : 97 ≤ (s[k].toNat : Int)) (hb : (s[k].toNat : Int) ≤ 122) :
    letters (s.data.toList.take (k + 1)) = true := by
  rw [take_snoc s k h, letters_snoc, hl]; simp; omega

theorem isName_good (s : ByteArray) (k : Nat) (h : ¬ k < s.size) (hk : k ≤ s.size) (h1 : 1 ≤ s.size) (h2 : s.size ≤ 12) (hl : letters (s.data.toList.take k) = true) : isName s = true := by
  unfold isName; rw [List.take_of_length_le (by simp; omega)] at hl; rw [hl]; simp; omega

theorem isName_size (s : ByteArray) (h : ¬ (1 ≤ s.size ∧ s.size ≤ 12)) : isName s = false := by
  unfold isName; simp [h]

theorem leadN_bounds (b : Int) : 0 ≤ (leadN b).1 ∧ (leadN b).1 ≤ 3 ∧ 0 ≤ (leadN b).2.1 ∧ (leadN b).2.1 ≤ 255 ∧ 0 ≤ (leadN b).2.2 ∧ (leadN b).2.2 ≤ 255 := by
  generalize hr : leadN b = r
  unfold leadN at hr
  (repeat' split at hr) <;> subst hr <;> simp

/-- The bytes 1 to n lie between the bounds: the first of them between lo and hi. -/
def contTo (l : List UInt8) (lo hi : Int) (n : Nat) : Bool :=
  (List.range n).all fun j => if j = 0 then decide (lo ≤ ((l.getD 1 0).toNat : Int) ∧ ((l.getD 1 0).toNat : Int) ≤ hi) else decide (128 ≤ (l.getD (j + 1) 0).toNat ∧ (l.getD (j + 1) 0).toNat ≤ 191)

/-- How many bytes the first character of a text has; 0: none of UTF-8 begins so. -/
def charLen (l : List UInt8) : Nat :=
  if l.length = 0 then 0
  else if (l.getD 0 0).toNat < 128 then 1
  else if (leadN (l.getD 0 0).toNat).1 = 0 then 0
  else if (l.length : Int) < (leadN (l.getD 0 0).toNat).1 + 1 then 0
  else if contTo l (leadN (l.getD 0 0).toNat).2.1 (leadN (l.getD 0 0).toNat).2.2 (leadN (l.getD 0 0).toNat).1.toNat then (leadN (l.getD 0 0).toNat).1.toNat + 1 else 0

theorem contTo_succ (l : List UInt8) (lo hi : Int) (n : Nat) :
    contTo l lo hi (n + 1) = (contTo l lo hi n && if n = 0 then decide (lo ≤ ((l.getD 1 0).toNat : Int) ∧ ((l.getD 1 0).toNat : Int) ≤ hi) else decide (128 ≤ (l.getD (n + 1) 0).toNat ∧ (l.getD (n + 1) 0).toNat ≤ 191)) := by
  unfold contTo; rw [List.range_succ, List.all_append]; simp

theorem contTo_mono (l : List UInt8) (lo hi : Int) (n k : Nat) (h : contTo l lo hi k = false) : contTo l lo hi (k + n) = false := by
  induction n with
  | zero => exact h
  | succ n ih => rw [← Nat.add_assoc, contTo_succ, ih]; rfl

theorem b255 (c : UInt8) : (c.toNat : Int) ≤ 255 := by have := c.toNat_lt; omega
theorem b0 (c : UInt8) : (0 : Int) ≤ c.toNat := by omega

theorem len_data (s : ByteArray) : s.data.toList.length = s.size := by simp

theorem getD_at (s : ByteArray) (k : Nat) (h : k < s.size) : s.data.toList.getD k 0 = s[k] := by
  rw [List.getD_eq_getElem?_getD, List.getElem?_eq_getElem (by simpa using h)]; rfl

/-- The first character of a text, as it is written (where there is none: its first byte); is there one? -/
def charStr (s : ByteArray) : ByteArray := s.extract 0 (if charLen s.data.toList = 0 then 1 else charLen s.data.toList)
def charOk (s : ByteArray) : Bool := charLen s.data.toList != 0

theorem char_of (s : ByteArray) (k : Nat) (h : charLen s.data.toList = k) : charStr s = s.extract 0 (if k = 0 then 1 else k) ∧ charOk s = (k != 0) := by
  unfold charStr charOk; rw [h]; exact ⟨rfl, rfl⟩

theorem charLen_ascii (s : ByteArray) (hp : 0 < s.size) (h : (s[0].toNat : Int) < 128) : charLen s.data.toList = 1 := by
  unfold charLen
  rw [if_neg (by rw [len_data]; omega), getD_at s 0 hp, if_pos (by omega)]

theorem charLen_lead0 (s : ByteArray) (hp : 0 < s.size) (lo hi : Int) (hr : leadN (s[0].toNat : Int) = (0, lo, hi)) (h : ¬ (s[0].toNat : Int) < 128) : charLen s.data.toList = 0 := by
  unfold charLen
  rw [if_neg (by rw [len_data]; omega), getD_at s 0 hp, if_neg (by omega), hr, if_pos rfl]

theorem charLen_short (s : ByteArray) (hp : 0 < s.size) (n lo hi : Int) (hr : leadN (s[0].toNat : Int) = (n, lo, hi)) (h : ¬ (s[0].toNat : Int) < 128) (hn : n ≠ 0) (hl : (s.size : Int) < n + 1) : charLen s.data.toList = 0 := by
  unfold charLen
  rw [if_neg (by rw [len_data]; omega), getD_at s 0 hp, if_neg (by omega), hr, if_neg hn, if_pos (by simpa using hl)]

theorem charLen_cont (s : ByteArray) (hp : 0 < s.size) (n lo hi : Int) (hr : leadN (s[0].toNat : Int) = (n, lo, hi)) (h : ¬ (s[0].toNat : Int) < 128) (hn : n ≠ 0) (hl : ¬ (s.size : Int) < n + 1) :
    charLen s.data.toList = if contTo s.data.toList lo hi n.toNat then n.toNat + 1 else 0 := by
  unfold charLen
  rw [if_neg (by rw [len_data]; omega), getD_at s 0 hp, if_neg (by omega), hr, if_neg hn, if_neg (by simpa using hl)]

theorem char_ends (s : ByteArray) (k : Nat) (h : charLen s.data.toList = k) (t : ByteArray) (b : Bool) (ht : t = s.extract 0 (if k = 0 then 1 else k)) (hb : b = (k != 0)) :
    Ending.returned (.tuple #[.string t, .bool b]) = .returned (.tuple #[.string (charStr s), .bool (charOk s)]) := by
  rw [(char_of s k h).1, (char_of s k h).2, ht, hb]

/-- The bounds of the byte at place k (k from 1 on). -/
def loAt (lo : Int) (k : Nat) : Int := if k = 1 then lo else 128
def hiAt (hi : Int) (k : Nat) : Int := if k = 1 then hi else 191

theorem contTo_next (s : ByteArray) (lo hi : Int) (k : Nat) (h1 : 1 ≤ k) (hk : k < s.size) (h : contTo s.data.toList lo hi (k - 1) = true) :
    contTo s.data.toList lo hi k = decide (loAt lo k ≤ (s[k].toNat : Int) ∧ (s[k].toNat : Int) ≤ hiAt hi k) := by
  obtain ⟨j, rfl⟩ : ∃ j, k = j + 1 := ⟨k - 1, by omega⟩
  simp only [Nat.add_sub_cancel] at h
  rw [contTo_succ, h, getD_at s (j + 1) hk]
  unfold loAt hiAt
  by_cases hj : j = 0
  · subst hj; rw [getD_at s 1 hk]; simp
  · rw [if_neg hj, if_neg (by omega), if_neg (by omega), Bool.true_and, decide_eq_decide]; omega

theorem charLen_bad (s : ByteArray) (hp : 0 < s.size) (n lo hi : Int) (hr : leadN (s[0].toNat : Int) = (n, lo, hi)) (h : ¬ (s[0].toNat : Int) < 128) (hn : n ≠ 0) (hl : ¬ (s.size : Int) < n + 1)
    (k : Nat) (h1 : 1 ≤ k) (hk : k < s.size) (hkn : (k : Int) ≤ n) (hc : contTo s.data.toList lo hi (k - 1) = true) (hb : (s[k].toNat : Int) < loAt lo k ∨ hiAt hi k < (s[k].toNat : Int)) : charLen s.data.toList = 0 := by
  have e := contTo_next s lo hi k h1 hk hc
  have e2 : contTo s.data.toList lo hi k = false := by rw [e, decide_eq_false_iff_not]; omega
  have e3 := contTo_mono s.data.toList lo hi (n.toNat - k) k e2
  rw [show k + (n.toNat - k) = n.toNat by omega] at e3
  rw [charLen_cont s hp n lo hi hr h hn hl, e3]; rfl

theorem contTo_good (s : ByteArray) (lo hi : Int) (k : Nat) (h1 : 1 ≤ k) (hk : k < s.size) (h : contTo s.data.toList lo hi (k - 1) = true) (ha : loAt lo k ≤ (s[k].toNat : Int)) (hb : (s[k].toNat : Int) ≤ hiAt hi k) :
    contTo s.data.toList lo hi (k + 1 - 1) = true := by
  rw [Nat.add_sub_cancel, contTo_next s lo hi k h1 hk h, decide_eq_true_eq]; exact ⟨ha, hb⟩

theorem charLen_good (s : ByteArray) (hp : 0 < s.size) (n lo hi : Int) (hr : leadN (s[0].toNat : Int) = (n, lo, hi)) (h : ¬ (s[0].toNat : Int) < 128) (hn : n ≠ 0) (hl : ¬ (s.size : Int) < n + 1)
    (k : Nat) (h1 : 1 ≤ k) (hkn : ¬ (k : Int) ≤ n) (hk1 : (k : Int) ≤ n + 1) (hc : contTo s.data.toList lo hi (k - 1) = true) : charLen s.data.toList = k := by
  rw [show k - 1 = n.toNat by omega] at hc
  rw [charLen_cont s hp n lo hi hr h hn hl, if_pos hc]; omega

theorem loAt_succ (lo : Int) (k : Nat) (h : 1 ≤ k) : loAt lo (k + 1) = 128 := by unfold loAt; rw [if_neg (by omega)]
theorem hiAt_succ (hi : Int) (k : Nat) (h : 1 ≤ k) : hiAt hi (k + 1) = 191 := by unfold hiAt; rw [if_neg (by omega)]

/-- Where the first closing brace stands, from place 2 on; the text's length, if there is none. -/
def closeAt (s : ByteArray) : Nat := 2 + (s.data.toList.drop 2).findIdx (fun c => c.toNat == 125)

theorem drop2_get (s : ByteArray) (k : Nat) (h2 : 2 ≤ k) (hk : k < s.size) : ∃ h : k - 2 < (s.data.toList.drop 2).length, (s.data.toList.drop 2)[k - 2] = s[k] := by
  have h : k - 2 < (s.data.toList.drop 2).length := by rw [List.length_drop, len_data]; omega
  refine ⟨h, ?_⟩
  rw [List.getElem_drop]
  have e : 2 + (k - 2) = k := by omega
  simp only [e]; rfl

theorem closeAt_hit (s : ByteArray) (k : Nat) (h2 : 2 ≤ k) (hk : k < s.size) (hc : k ≤ closeAt s) (h : (s[k].toNat : Int) = 125) : closeAt s = k := by
  obtain ⟨hl, e⟩ := drop2_get s k h2 hk
  unfold closeAt at *
  have : (s.data.toList.drop 2).findIdx (fun c => c.toNat == 125) ≤ k - 2 := by
    apply Nat.le_of_not_lt
    intro hh
    have := List.not_of_lt_findIdx hh
    rw [e] at this
    simp at this; omega
  omega

theorem closeAt_miss (s : ByteArray) (k : Nat) (h2 : 2 ≤ k) (hk : k < s.size) (hc : k ≤ closeAt s) (h : (s[k].toNat : Int) ≠ 125) : k + 1 ≤ closeAt s := by
  obtain ⟨hl, e⟩ := drop2_get s k h2 hk
  unfold closeAt at *
  have : (s.data.toList.drop 2).findIdx (fun c => c.toNat == 125) ≠ k - 2 := by
    intro hh
    have hlt : (s.data.toList.drop 2).findIdx (fun c => c.toNat == 125) < (s.data.toList.drop 2).length := by omega
    have := List.findIdx_getElem (w := hlt)
    simp only [hh, e] at this
    simp at this; omega
  omega

theorem closeAt_end (s : ByteArray) (k : Nat) (h2 : 2 ≤ k) (hk : ¬ k < s.size) (hks : k ≤ s.size) (hc : k ≤ closeAt s) : closeAt s = s.size := by
  unfold closeAt at *
  have := List.findIdx_le_length (xs := s.data.toList.drop 2) (p := fun c => c.toNat == 125)
  rw [List.length_drop, len_data] at this; omega

/-- The part that begins with a dollar: its kind, its text; how many bytes it has (0: it is none). -/
def dollarP (s : ByteArray) : Int × ByteArray × Nat :=
  if s.size < 2 then (0, ⟨#[]⟩, 0)
  else if (s.data.toList.getD 1 0).toNat = 36 ∨ (s.data.toList.getD 1 0).toNat = 42 ∨ (s.data.toList.getD 1 0).toNat = 63 then (1, s.extract 1 2, 2)
  else if (s.data.toList.getD 1 0).toNat = 123 then
    if closeAt s < s.size then (if isName (s.extract 2 (closeAt s)) then (4, s.extract 2 (closeAt s), closeAt s + 1) else (0, ⟨#[]⟩, 0)) else (0, ⟨#[]⟩, 0)
  else (0, ⟨#[]⟩, 0)

def partV (p : Int × ByteArray) : Value := .agg #[.int .i64 p.1, .string p.2]

end Ref
end Go.Proofs.YtdakgnaojakldaaGreatDoor

/- Contracts of the reference's smallest functions: lead, IsName, hex, blank. -/
namespace Go.Proofs.YtdakgnaojakldaaGreatDoor
open Go.RowKit

set_option maxHeartbeats 400000 in
theorem lead_any (b : Int) (w : World) (h0 : 0 ≤ b) (h1 : b ≤ 255) :
    Calls Tryz.prog 203 #[.int .u8 b] w fun e w' => e = .returned (.tuple #[.int .i64 (Ref.leadN b).1, .int .u8 (Ref.leadN b).2.1, .int .u8 (Ref.leadN b).2.2]) ∧ w' = w := by
  go_enter Tryz.func203, Tryz.ntmps203
  go_wp2
  all_goals
    go_ret3
    refine ⟨?_, rfl⟩
    simp only [beq_iff_eq, beq_eq_false_iff_ne, ne_eq] at *
    generalize hr : Ref.leadN b = r
    unfold Ref.leadN at hr
    (repeat' split at hr) <;> subst hr <;> first | rfl | (exfalso; omega)

set_option maxHeartbeats 400000 in
theorem isName_any (s : ByteArray) (w : World) (hs : s.size ≤ maxLen) :
    Calls Tryz.prog 180 #[.string s] w fun e w' => e = .returned (.bool (Ref.isName s)) ∧ w' = w := by
  unfold maxLen at hs
  by_cases hsz : 1 ≤ s.size ∧ s.size ≤ 12
  · obtain ⟨hz1, hz2⟩ := hsz
    have hl1 : decide ((s.size : Int) < 1) = false := by simp; omega
    have hl2 : decide (12 < (s.size : Int)) = false := by simp; omega
    go_enter Tryz.func180, Tryz.ntmps180
    go_wp2
    go_loop [3] (fun i => ∃ k : Nat, k ≤ s.size ∧ i = .int .i64 k ∧ Ref.letters (s.data.toList.take k) = true) (fun i => s.size - (intOf i).toNat)
    case atStart => exact ⟨0, Nat.zero_le _, rfl, rfl⟩
    case round =>
      obtain ⟨k, hk, rfl, hl0⟩ := hrel
      have hl : Hid (Ref.letters (s.data.toList.take k) = true) := hl0
      clear hl0
      by_cases hlt : k < s.size
      · go_wp2
        all_goals first
          | (go_ret; exact ⟨ret_bool (Ref.isName_bad s k hlt (by omega)).symm, rfl⟩)
          | exact ⟨⟨k + 1, by omega, by go_num, Ref.letters_next s k hlt hl.out (by omega) (by omega)⟩, by simp [intOf]; omega⟩
      · go_wp2
        go_ret
        exact ⟨ret_bool (Ref.isName_good s k hlt hk hz1 hz2 hl.out).symm, rfl⟩
  · go_enter Tryz.func180, Tryz.ntmps180
    go_wp2
    all_goals first
      | (exfalso; omega)
      | (go_ret; exact ⟨ret_bool (Ref.isName_size s hsz).symm, rfl⟩)

end Go.Proofs.YtdakgnaojakldaaGreatDoor

/- Contract of the reference's character. -/
namespace Go.Proofs.YtdakgnaojakldaaGreatDoor
open Go.RowKit

theorem lead_at (b n lo hi : Int) (w : World) (h0 : 0 ≤ b) (h1 : b ≤ 255) (hr : Ref.leadN b = (n, lo, hi)) :
    Calls Tryz.prog 203 #[.int .u8 b] w fun e w' => e = .returned (.tuple #[.int .i64 n, .int .u8 lo, .int .u8 hi]) ∧ w' = w := by
  have h := lead_any b w h0 h1
  rw [hr] at h; exact h

set_option maxHeartbeats 400000 in
set_option maxRecDepth 100000 in
theorem character_any (s : ByteArray) (w : World) (hs : s.size ≤ maxLen) (hp : 0 < s.size) :
    Calls Tryz.prog 217 #[.string s] w fun e w' =>
      e = .returned (.tuple #[.string (Ref.charStr s), .bool (Ref.charOk s)]) ∧ w' = w := by
  unfold maxLen at hs
  obtain ⟨n, lo, hi, hr⟩ : ∃ n lo hi, Ref.leadN (s[0].toNat : Int) = (n, lo, hi) := ⟨_, _, _, rfl⟩
  have hbd := Ref.leadN_bounds (s[0].toNat : Int)
  rw [hr] at hbd
  simp only at hbd
  obtain ⟨n0, n3, l0, l1, g0, g1⟩ := hbd
  have HR : Hid (Ref.leadN (s[0].toNat : Int) = (n, lo, hi)) := hr
  clear hr
  go_enter Tryz.func217, Tryz.ntmps217
  go_wp2_with (go_at_call 203; refine (lead_at _ n lo hi _ (Ref.b0 _) (Ref.b255 _) HR.out).mono ?_; rintro e w' ⟨rfl, rfl⟩)
  all_goals try (go_loop [5, 6, 7] (fun low high i => ∃ k : Nat, 1 ≤ k ∧ (k : Int) ≤ n + 1 ∧ i = .int .i64 k ∧ low = .int .u8 (Ref.loAt lo k) ∧ high = .int .u8 (Ref.hiAt hi k) ∧ Ref.contTo s.data.toList lo hi (k - 1) = true) (fun _ _ i => (n + 1).toNat - (intOf i).toNat))
  · go_ret2
    exact ⟨Ref.char_ends s 1 (Ref.charLen_ascii s hp (by assumption)) _ _ rfl rfl, rfl⟩
  · go_ret2
    have hn0 : n = 0 := by assumption
    subst hn0
    exact ⟨Ref.char_ends s 0 (Ref.charLen_lead0 s hp lo hi HR.out (by omega)) _ _ rfl rfl, rfl⟩
  · go_ret2
    have hor : (n == 0) = true ∨ (s.size : Int) < n + 1 := by assumption
    simp only [beq_iff_eq] at hor
    exact ⟨Ref.char_ends s 0 (Ref.charLen_short s hp n lo hi HR.out (by omega) (by omega) (by omega)) _ _ rfl rfl, rfl⟩
  case atStart => exact ⟨1, by omega, by omega, rfl, rfl, rfl, rfl⟩
  case round =>
    obtain ⟨k, hk1, hkn, rfl, rfl, rfl, hc0⟩ := hrel
    have hc : Hid (Ref.contTo s.data.toList lo hi (k - 1) = true) := hc0
    clear hc0
    by_cases hlt : (k : Int) ≤ n
    · have hks : k < s.size := by omega
      have hlo : 0 ≤ Ref.loAt lo k ∧ Ref.loAt lo k ≤ 255 := by unfold Ref.loAt; split <;> omega
      have hhi : 0 ≤ Ref.hiAt hi k ∧ Ref.hiAt hi k ≤ 255 := by unfold Ref.hiAt; split <;> omega
      go_wp2
      · go_ret2
        exact ⟨Ref.char_ends s 0 (Ref.charLen_bad s hp n lo hi HR.out (by omega) (by omega) (by omega) k hk1 hks hlt hc.out (by omega)) _ _ rfl rfl, rfl⟩
      · go_round
        case rel => exact ⟨_, _, _, _, _, ⟨k + 1, by omega, by omega, by go_num, by rw [Ref.loAt_succ lo k hk1], by rw [Ref.hiAt_succ hi k hk1], Ref.contTo_good s lo hi k hk1 hks hc.out (by omega) (by omega)⟩, rfl, rfl, rfl, rfl, rfl⟩
        case measure => simp [intOf]; omega
      · go_ret2
        exact ⟨Ref.char_ends s 0 (Ref.charLen_bad s hp n lo hi HR.out (by omega) (by omega) (by omega) k hk1 hks hlt hc.out (by omega)) _ _ rfl rfl, rfl⟩
    · go_wp2
      go_ret2
      exact ⟨Ref.char_ends s k (Ref.charLen_good s hp _ lo hi HR.out (by omega) (by omega) (by omega) k hk1 (by omega) (by omega) hc.out) _ _ (by rw [if_neg (by omega), show (n + 1).toNat = k by omega]) (by rw [show (k != 0) = true by simp; omega]), rfl⟩

end Go.Proofs.YtdakgnaojakldaaGreatDoor

/- Plain mathematics of the reference's patterns: the parts. -/
namespace Go.Proofs.YtdakgnaojakldaaGreatDoor
namespace Ref

theorem dollarP_lit (s : ByteArray) (h2 : 1 < s.size) (h : (s[1].toNat : Int) = 36 ∨ (s[1].toNat : Int) = 42 ∨ (s[1].toNat : Int) = 63) : dollarP s = (1, s.extract 1 2, 2) := by
  unfold dollarP
  rw [if_neg (by omega), getD_at s 1 h2, if_pos (by omega)]

theorem dollarP_short (s : ByteArray) (h2 : s.size < 2) : dollarP s = (0, ⟨#[]⟩, 0) := by
  unfold dollarP; rw [if_pos h2]

theorem dollarP_other (s : ByteArray) (h2 : 1 < s.size) (h : (s[1].toNat : Int) ≠ 36 ∧ (s[1].toNat : Int) ≠ 42 ∧ (s[1].toNat : Int) ≠ 63 ∧ (s[1].toNat : Int) ≠ 123) : dollarP s = (0, ⟨#[]⟩, 0) := by
  unfold dollarP
  rw [if_neg (by omega), getD_at s 1 h2, if_neg (by omega), if_neg (by omega)]

theorem dollarP_name (s : ByteArray) (h2 : 1 < s.size) (h : (s[1].toNat : Int) = 123) (k : Nat) (hk : k < s.size) (hc : closeAt s = k) (b : Bool) (hb : isName (s.extract 2 k) = b) :
    dollarP s = if b then (4, s.extract 2 k, k + 1) else (0, ⟨#[]⟩, 0) := by
  unfold dollarP
  rw [if_neg (by omega), getD_at s 1 h2, if_neg (by omega), if_pos (by omega), hc, if_pos hk, hb]

theorem dollarP_open (s : ByteArray) (h2 : 1 < s.size) (h : (s[1].toNat : Int) = 123) (hc : closeAt s = s.size) : dollarP s = (0, ⟨#[]⟩, 0) := by
  unfold dollarP
  rw [if_neg (by omega), getD_at s 1 h2, if_neg (by omega), if_pos (by omega), hc, if_neg (by omega)]

theorem part_ends (s : ByteArray) (k : Int) (t : ByteArray) (n : Nat) (v : Value) (h : dollarP s = (k, t, n)) (hv : v = .int .i64 (n : Int)) :
    Ending.returned (.tuple #[.agg #[.int .i64 k, .string t], v]) = .returned (.tuple #[.agg #[.int .i64 (dollarP s).1, .string (dollarP s).2.1], .int .i64 ((dollarP s).2.2 : Nat)]) := by
  rw [h, hv]

end Ref
end Go.Proofs.YtdakgnaojakldaaGreatDoor

/- Contract of the reference's dollar. -/
namespace Go.Proofs.YtdakgnaojakldaaGreatDoor
open Go.RowKit

set_option maxHeartbeats 400000 in
set_option maxRecDepth 100000 in
theorem dollar_any (s : ByteArray) (w : World) (hs : s.size ≤ maxLen) :
    Calls Tryz.prog 218 #[.string s] w fun e w' =>
      e = .returned (.tuple #[.agg #[.int .i64 (Ref.dollarP s).1, .string (Ref.dollarP s).2.1], .int .i64 ((Ref.dollarP s).2.2 : Nat)]) ∧ Below w.heap.size w w' := by
  unfold maxLen at hs
  by_cases h2 : 2 ≤ s.size
  · have h2i : decide ((s.size : Int) < 2) = false := by simp; omega
    go_enter Tryz.func218, Tryz.ntmps218
    go_wp2
    rotate_left 3
    · go_loop [4] (fun i => ∃ k : Nat, 2 ≤ k ∧ k ≤ s.size ∧ i = .int .i64 k ∧ k ≤ Ref.closeAt s) (fun i => s.size - (intOf i).toNat)
      case atStart => exact ⟨2, by omega, by omega, rfl, by unfold Ref.closeAt; omega⟩
      case round =>
        obtain ⟨k, hk2, hks, rfl, hc0⟩ := hrel
        have hcl : Hid (k ≤ Ref.closeAt s) := hc0
        clear hc0
        by_cases hlt : k < s.size
        · go_wp2_with (go_at_call 180; refine (isName_any (s.extract 2 k) _ ?_).mono ?_; (simp [maxLen]; omega); rintro e w' ⟨rfl, rfl⟩)
          · have e1 : ((s[1]'(by omega)).toNat : Int) = 123 := by apply eq_of_beq; assumption
            have e2 : (s[k].toNat : Int) = 125 := by apply eq_of_beq; assumption
            have hd := Ref.dollarP_name s (by omega) e1 k hlt (Ref.closeAt_hit s k hk2 hlt hcl.out e2) true (by assumption)
            exact bodyPost_ret (v := .tuple #[.agg #[.int .i64 4, .string (s.extract 2 k)], .int .i64 ((k : Int) + 1)]) (by simp [results, Tryz.results218, go_sem]) rfl ⟨Ref.part_ends s _ _ (k + 1) _ hd (by go_num), (Below.refl _ _).alloc (Nat.le_refl _) _⟩
          · have e1 : ((s[1]'(by omega)).toNat : Int) = 123 := by apply eq_of_beq; assumption
            have e2 : (s[k].toNat : Int) = 125 := by apply eq_of_beq; assumption
            have hd := Ref.dollarP_name s (by omega) e1 k hlt (Ref.closeAt_hit s k hk2 hlt hcl.out e2) false (by assumption)
            exact bodyPost_ret (v := .tuple #[.agg #[.int .i64 0, .string ⟨#[]⟩], .int .i64 0]) (by simp [results, Tryz.results218, go_sem]) rfl ⟨Ref.part_ends s _ _ 0 _ hd rfl, (Below.refl _ _).alloc (Nat.le_refl _) _⟩
          · have e2 : (s[k].toNat : Int) ≠ 125 := by apply ne_of_beq_false; assumption
            exact ⟨⟨k + 1, by omega, by omega, by go_num, Ref.closeAt_miss s k hk2 hlt hcl.out e2⟩, by simp [intOf]; omega⟩
        · have e1 : ((s[1]'(by omega)).toNat : Int) = 123 := by apply eq_of_beq; assumption
          have hd := Ref.dollarP_open s (by omega) e1 (Ref.closeAt_end s k hk2 hlt hks hcl.out)
          have HD : Hid (Ref.dollarP s = (0, ⟨#[]⟩, 0)) := hd
          clear hd e1
          go_wp2
          exact bodyPost_ret (v := .tuple #[.agg #[.int .i64 0, .string ⟨#[]⟩], .int .i64 0]) (by simp [results, Tryz.results218, go_sem]) rfl ⟨Ref.part_ends s _ _ 0 _ HD.out rfl, (Below.refl _ _).alloc (Nat.le_refl _) _⟩
    all_goals simp only [beq_iff_eq, beq_eq_false_iff_ne, ne_eq] at *
    · exact bodyPost_ret (v := .tuple #[.agg #[.int .i64 0, .string ⟨#[]⟩], .int .i64 0]) (by simp [results, Tryz.results218, go_sem]) rfl ⟨Ref.part_ends s _ _ 0 _ (Ref.dollarP_other s (by omega) (by omega)) rfl, (Below.refl _ _).alloc (Nat.le_refl _) _⟩
    all_goals
      exact bodyPost_ret (v := .tuple #[.agg #[.int .i64 1, .string (s.extract 1 2)], .int .i64 2]) (by simp [results, Tryz.results218, go_sem]) rfl ⟨Ref.part_ends s _ _ 2 _ (Ref.dollarP_lit s (by omega) (by omega)) rfl, (Below.refl _ _).alloc (Nat.le_refl _) _⟩
  · go_enter Tryz.func218, Tryz.ntmps218
    go_wp2
    exact bodyPost_ret (v := .tuple #[.agg #[.int .i64 0, .string ⟨#[]⟩], .int .i64 0]) (by simp [results, Tryz.results218, go_sem]) rfl ⟨Ref.part_ends s _ _ 0 _ (Ref.dollarP_short s (by omega)) rfl, (Below.refl _ _).alloc (Nat.le_refl _) _⟩

end Go.Proofs.YtdakgnaojakldaaGreatDoor

/- Plain mathematics of the reference's patterns: all the parts of a pattern. -/
namespace Go.Proofs.YtdakgnaojakldaaGreatDoor
namespace Ref

/-- The first part of a pattern: its kind, its text, how many bytes it takes. -/
def partStep (s : ByteArray) : Option (Int × ByteArray × Nat) :=
  if charOk s = false then none
  else if (charStr s).toList == [42] then some (3, charStr s, (charStr s).size)
  else if (charStr s).toList == [63] then some (2, charStr s, (charStr s).size)
  else if (charStr s).toList == [36] then (if (dollarP s).2.2 = 0 then none else some (dollarP s))
  else some (1, charStr s, (charStr s).size)

def partsF : Nat → ByteArray → Option (List (Int × ByteArray))
  | 0, _ => none
  | f + 1, s => if s.size = 0 then some [] else match partStep s with
    | none => none
    | some (k, t, n) => (partsF f (s.extract n s.size)).map fun r => (k, t) :: r

/-- The parts of a pattern; none: it is none. -/
def parts (s : ByteArray) : Option (List (Int × ByteArray)) := if 60 < s.size then none else partsF (s.size + 1) s

def partCells (l : List (Int × ByteArray)) : List Value := l.flatMap fun p => [.int .i64 p.1, .string p.2]

theorem partCells_snoc (l : List (Int × ByteArray)) (k : Int) (t : ByteArray) : partCells (l ++ [(k, t)]) = partCells l ++ [.int .i64 k, .string t] := by
  simp [partCells]

theorem charLen_le (s : ByteArray) : charLen s.data.toList ≤ s.size := by
  unfold charLen
  rw [len_data]
  split
  · omega
  split
  · omega
  split
  · omega
  split
  · omega
  split
  · have := leadN_bounds ((s.data.toList.getD 0 0).toNat : Int); omega
  · omega

theorem charStr_size (s : ByteArray) (hp : 0 < s.size) : 1 ≤ (charStr s).size ∧ (charStr s).size ≤ s.size := by
  have h := charLen_le s
  unfold charStr
  rw [ByteArray.size_extract]
  split <;> omega

theorem closeAt_two (s : ByteArray) : 2 ≤ closeAt s := by unfold closeAt; omega

theorem dollarP_size (s : ByteArray) : (dollarP s).2.2 ≤ s.size := by
  unfold dollarP
  split
  · simp
  split
  · simp; omega
  split
  · split
    · split
      · simp; omega
      · simp
    · simp
  · simp

theorem partStep_size (s : ByteArray) (hp : 0 < s.size) (k : Int) (t : ByteArray) (n : Nat) (h : partStep s = some (k, t, n)) : 1 ≤ n ∧ n ≤ s.size := by
  have hc := charStr_size s hp
  have hd := dollarP_size s
  unfold partStep at h
  split at h
  · simp at h
  split at h
  · simp at h; omega
  split at h
  · simp at h; omega
  split at h
  · split at h
    · simp at h
    · simp at h; rw [h] at hd; simp at hd; rename_i hn; rw [h] at hn; simp at hn; omega
  · simp at h; omega

/-- One round. -/
theorem parts_next (P : Option (List (Int × ByteArray))) (f : Nat) (t : ByteArray) (done : List (Int × ByteArray)) (hp : 0 < t.size) (hf : t.size < f) (h : P = (partsF f t).map fun r => done ++ r)
    (k : Int) (u : ByteArray) (n : Nat) (hs : partStep t = some (k, u, n)) :
    ∃ f', (t.extract n t.size).size < f' ∧ P = (partsF f' (t.extract n t.size)).map fun r => (done ++ [(k, u)]) ++ r := by
  obtain ⟨g, rfl⟩ : ∃ g, f = g + 1 := ⟨f - 1, by omega⟩
  have hn := partStep_size t hp k u n hs
  refine ⟨g, by rw [ByteArray.size_extract]; omega, ?_⟩
  rw [h, partsF, if_neg (by omega), hs]
  simp [Option.map_map, Function.comp_def]

theorem parts_stop (P : Option (List (Int × ByteArray))) (f : Nat) (t : ByteArray) (done : List (Int × ByteArray)) (hp : 0 < t.size) (hf : t.size < f) (h : P = (partsF f t).map fun r => done ++ r)
    (hs : partStep t = none) : P = none := by
  obtain ⟨g, rfl⟩ : ∃ g, f = g + 1 := ⟨f - 1, by omega⟩
  rw [h, partsF, if_neg (by omega), hs]; rfl

theorem parts_end (P : Option (List (Int × ByteArray))) (f : Nat) (t : ByteArray) (done : List (Int × ByteArray)) (hp : ¬ 0 < t.size) (hf : t.size < f) (h : P = (partsF f t).map fun r => done ++ r) : P = some done := by
  obtain ⟨g, rfl⟩ : ∃ g, f = g + 1 := ⟨f - 1, by omega⟩
  rw [h, partsF, if_pos (by omega)]; simp

def strLen : Value → Nat
  | .string b => b.size
  | _ => 0

end Ref
end Go.Proofs.YtdakgnaojakldaaGreatDoor

/- Contract of the reference's Parts. -/
namespace Go.Proofs.YtdakgnaojakldaaGreatDoor
open Go.RowKit

theorem hid {p : Prop} (h : p) : Hid p := h

theorem ownsRow_below {w w' : World} {base : Nat} {e : TypeId} {size : Nat} {v : Value} {n : Nat} {xs : List Value} (h : w.ownsRow base e size v n xs) (hb : Below w.heap.size w w') : w'.ownsRow base e size v n xs := by
  obtain ⟨h1, h2⟩ := h
  refine ⟨h1, ?_⟩
  rcases h2 with h2 | ⟨g, cap, cur, hv, hg, hh, h3⟩
  · exact .inl h2
  · exact .inr ⟨g, cap, cur, hv, hg, by rw [hb.block g (lt_of_block hh)]; exact hh, h3⟩

theorem addr_add0 (g j : Nat) : (⟨g, 0, none⟩ : Addr).add j = ⟨g, j, none⟩ := by
  by_cases h : j = 0
  · subst h; simp [Addr.add]
  · simp [Addr.add, h]

theorem ownsRow_mono {w : World} {base base' : Nat} {e : TypeId} {size : Nat} {v : Value} {n : Nat} {xs : List Value} (h : w.ownsRow base e size v n xs) (hb : base' ≤ base) : w.ownsRow base' e size v n xs := by
  obtain ⟨h1, h2⟩ := h
  refine ⟨h1, ?_⟩
  rcases h2 with h2 | ⟨g, cap, cur, hv, hg, hh⟩
  · exact .inl h2
  · exact .inr ⟨g, cap, cur, hv, by omega, hh⟩

theorem below_undrew {w w' : World} (h : Below w.drew.heap.size w.drew w') : Below w.heap.size w w' := ⟨h.os, h.tape, h.output, h.size, h.block⟩

theorem below_oneB {w wr w1 : World} {B : Nat} {e : TypeId} {size : Nat} {v : Value} {n : Nat} {xs : List Value} (hbel : Below w.heap.size w wr) (hown : wr.ownsRow B e size v n xs) (hB : w.heap.size ≤ B) (a : Obj)
    (hg : (wr.alloc a).grownBy w1 v.ownBlock) : Below w.heap.size w w1 := by
  have hsz := hbel.size
  exact (hbel.alloc hsz a).grown hg (by simp; omega) (fun k hk => Nat.le_trans hB (hown.lt k hk).1)

theorem two_blocks (w : World) (a b : Obj) : ((w.alloc a).alloc b).heap[w.heap.size]? = some a ∧ ((w.alloc a).alloc b).heap[w.heap.size + 1]? = some b := by
  refine ⟨?_, ?_⟩
  · rw [Below.heap_alloc (w.alloc a) b w.heap.size (by simp)]; exact heap_alloc_new w a
  · have := heap_alloc_new (w.alloc a) b
    simpa using this

theorem cells_of_block {w : World} {b : Nat} {cs : Array Value} {t : TypeId} (h : w.heap[b]? = some (.cells cs t (0, 0))) (o : Nat) : w.cell? ⟨b, o, none⟩ = cs[o]? ∧ w.frozen? ⟨b, o, none⟩ = false := by
  simp [World.cell?, World.frozen?, h]

theorem cell_four_new (w : World) (a b c d : Value) (t : TypeId) : ∀ j u, [a, b, c, d][j]? = some u → (w.alloc (.cells #[a, b, c, d] t)).cell? ((⟨w.heap.size, 0, none⟩ : Addr).add j) = some u := by
  intro j u h
  rw [addr_add0]
  match j, h with
  | 0, h => simp at h; subst h; simp
  | 1, h => simp at h; subst h; simp
  | 2, h => simp at h; subst h; simp
  | 3, h => simp at h; subst h; simp

theorem addr_add (b o j : Nat) : (⟨b, o, none⟩ : Addr).add j = ⟨b, o + j, none⟩ := by
  by_cases h : j = 0
  · subst h; simp [Addr.add]
  · simp [Addr.add, h]

theorem cell_set_ne (w : World) (b o b' o' : Nat) (u : Value) (h : ¬ (b = b' ∧ o = o')) : (w.setCell ⟨b, o, none⟩ u).cell? ⟨b', o', none⟩ = w.cell? ⟨b', o', none⟩ := by
  by_cases hb : b = b'
  · subst hb
    unfold World.cell? World.setCell
    simp only [Array.getElem?_modify, if_true]
    cases w.heap[b]? with
    | none => rfl
    | some ob =>
      cases ob with
      | cells c t f => simp [Array.getElem?_setIfInBounds]; intro h2; omega
      | _ => rfl
  · exact World.cell?_of_block (w := w) (a := ⟨b', o', none⟩) (Below.heap_setCell w ⟨b, o, none⟩ u b' (fun e => hb e.symm))

theorem frozen_set (w : World) (p : Addr) (u : Value) (q : Addr) : (w.setCell p u).frozen? q = w.frozen? q := by
  unfold World.frozen? World.setCell
  by_cases hb : p.block = q.block
  · rw [hb]
    simp only [Array.getElem?_modify, if_true]
    cases w.heap[q.block]? with
    | none => rfl
    | some ob => cases ob <;> rfl
  · simp only [Array.getElem?_modify, if_neg hb]

theorem character_at (s c : ByteArray) (b : Bool) (w : World) (hs : s.size ≤ maxLen) (hp : 0 < s.size) (hc : Ref.charStr s = c) (hb : Ref.charOk s = b) :
    Calls Tryz.prog 217 #[.string s] w fun e w' => e = .returned (.tuple #[.string c, .bool b]) ∧ w' = w := by
  have h := character_any s w hs hp
  rw [hc, hb] at h; exact h

theorem dollar_at (s t : ByteArray) (k : Int) (n : Nat) (w : World) (hs : s.size ≤ maxLen) (hd : Ref.dollarP s = (k, t, n)) :
    Calls Tryz.prog 218 #[.string s] w fun e w' => e = .returned (.tuple #[.agg #[.int .i64 k, .string t], .int .i64 (n : Nat)]) ∧ Below w.heap.size w w' := by
  have h := dollar_any s w hs
  rw [hd] at h; exact h

theorem Tryz.infoPart : (Tryz.prog.info? 368).map (fun i => (i.zero, i.size, i.bytes)) = some (some (.agg #[.int .i64 0, .string ⟨#[]⟩]), 2, 24) := by kernel_rfl

theorem oneCell_part (k : Int) (c : ByteArray) : ∀ u ∈ [Value.int .i64 k, Value.string c], u.oneCell' = true := by
  intro u hu; simp at hu; rcases hu with rfl | rfl <;> rfl

theorem bcell {W w1 : World} (hb : Below W.heap.size W w1) : (∀ b o, b < W.heap.size → w1.cell? ⟨b, o, none⟩ = W.cell? ⟨b, o, none⟩) ∧ (∀ b o, b < W.heap.size → w1.frozen? ⟨b, o, none⟩ = W.frozen? ⟨b, o, none⟩) :=
  ⟨fun b o h => hb.cell (p := ⟨b, o, none⟩) h, fun b o h => hb.frozen (p := ⟨b, o, none⟩) h⟩

theorem cell_two_past (w : World) (o : Obj) (a b : Value) (t : TypeId) (k : Nat) (hk : k = (w.alloc o).heap.size) :
    ∀ j u, [a, b][j]? = some u → ((w.alloc o).alloc (.cells #[a, b] t)).cell? ((⟨k, 0, none⟩ : Addr).add j) = some u := by
  subst hk; exact cell_two_new _ _ _ _

theorem cell_two_at (w : World) (a b : Value) (t : TypeId) (k : Nat) (hk : k = w.heap.size) :
    ∀ j u, [a, b][j]? = some u → (w.alloc (.cells #[a, b] t)).cell? ((⟨k, 0, none⟩ : Addr).add j) = some u := by
  subst hk; exact cell_two_new _ _ _ _

theorem below_box {wr w2 : World} (O : Obj) (hb2 : Below (wr.alloc O).heap.size (wr.alloc O) w2) (x y : Value) :
    Below wr.heap.size wr ((w2.setCell ⟨wr.heap.size, 0, none⟩ x).setCell ⟨wr.heap.size, 1, none⟩ y) :=
  ((((Below.refl _ wr).alloc (Nat.le_refl _) O).trans (hb2.mono (by simp))).setCell (Nat.le_refl _) x).setCell (Nat.le_refl _) y

theorem below_one {w wr w1 : World} {e : TypeId} {size : Nat} {v : Value} {n : Nat} {xs : List Value} (hbel : Below w.heap.size w wr) (hown : wr.ownsRow w.heap.size e size v n xs) (a : Obj)
    (hg : (wr.alloc a).grownBy w1 v.ownBlock) : Below w.heap.size w w1 := by
  have hsz := hbel.size
  exact (hbel.alloc hsz a).grown hg (by simp; omega) (fun k hk => (hown.lt k hk).1)

theorem below_two {w wr w1 : World} {e : TypeId} {size : Nat} {v : Value} {n : Nat} {xs : List Value} (hbel : Below w.heap.size w wr) (hown : wr.ownsRow w.heap.size e size v n xs) (a b : Obj)
    (hg : ((wr.alloc a).alloc b).grownBy w1 v.ownBlock) : Below w.heap.size w w1 := by
  have hsz := hbel.size
  exact ((hbel.alloc hsz a).alloc (by simp; omega) b).grown hg (by simp; omega) (fun k hk => (hown.lt k hk).1)

set_option maxHeartbeats 1000000 in
set_option maxRecDepth 100000 in
theorem parts_any (s : ByteArray) (w : World) (hs : s.size ≤ 60) :
    Calls Tryz.prog 176 #[.string s] w fun e w' => ∃ v, e = .returned (.tuple #[v, .bool (Ref.parts s).isSome]) ∧ Below w.heap.size w w' ∧
      ((Ref.parts s).isSome = false → v = .slice none 0 0) ∧ w'.ownsRow w.heap.size 368 2 v ((Ref.parts s).getD []).length (Ref.partCells ((Ref.parts s).getD [])) := by
  obtain ⟨i0, hi, hz0, hz1, hz2⟩ := info_parts Tryz.infoPart
  have hs6 : decide (60 < (s.size : Int)) = false := by simp; omega
  have hP : Ref.parts s = (Ref.partsF (s.size + 1) s).map fun r => [] ++ r := by unfold Ref.parts; rw [if_neg (by omega)]; simp
  generalize hPP : Ref.parts s = P at *
  clear hPP
  have HP : Hid (P = (Ref.partsF (s.size + 1) s).map fun r => [] ++ r) := hP
  clear hP
  go_enter Tryz.func176, Tryz.ntmps176
  go_wp2
  go_loopw [0, 4] (fun sv lv wr => ∃ (t : ByteArray) (f : Nat) (done : List (Int × ByteArray)), sv = .string t ∧ done.length + t.size ≤ s.size ∧ t.size < f ∧ P = ((Ref.partsF f t).map fun r => done ++ r) ∧
      wr.ownsRow w.heap.size 368 2 lv done.length (Ref.partCells done) ∧ Below w.heap.size w wr) (fun sv _ _ => Ref.strLen sv)
  case atStart => exact ⟨s, s.size + 1, [], rfl, by simp, by omega, HP.out, World.ownsRow_nil _ _ _ _, Below.refl _ _⟩
  case round =>
    obtain ⟨t, f, done, rfl, hdt, hf, hP0, hown, hbel⟩ := hrel
    have HP1 : Hid (P = (Ref.partsF f t).map fun r => done ++ r) := hP0
    clear hP0 HP
    have hsz := hbel.size
    by_cases hp : 0 < t.size
    · have hcs := Ref.charStr_size t hp
      cases hok : Ref.charOk t with
      | false =>
        have HO : Hid (Ref.charOk t = false) := hok
        have hfin := Ref.parts_stop P f t done hp hf HP1.out (by unfold Ref.partStep; rw [if_pos hok])
        subst hfin
        clear hok
        go_wp2_with (go_at_call 217; refine (character_at t _ false _ (by unfold maxLen; omega) hp rfl HO.out).mono ?_; rintro e w' ⟨rfl, rfl⟩)
        go_ret2
        exact ⟨_, rfl, hbel, fun _ => rfl, World.ownsRow_nil _ _ _ _⟩
      | true =>
        obtain ⟨c, hc⟩ : ∃ c, Ref.charStr t = c := ⟨_, rfl⟩
        rw [hc] at hcs
        by_cases c1 : (c.toList == [42]) = true
        · have hst : Ref.partStep t = some (3, c, c.size) := by unfold Ref.partStep; rw [if_neg (by simp [hok]), hc, if_pos c1]
          obtain ⟨f', hf', hP'⟩ := Ref.parts_next P f t done hp hf HP1.out 3 c c.size hst
          have HP2 := hid hP'
          have HC := hid hc
          have HO := hid hok
          clear hP' hc hok hst HP1
          go_wp2_with (first
            | (go_at_call 217; refine (character_at t c true _ (by unfold maxLen; omega) hp HC.out HO.out).mono ?_; rintro e w' ⟨rfl, rfl⟩)
            | (at_builtin; refine wpList_append_own _ rfl _ _ 314 rfl w.heap.size 368 i0 (.agg #[.int .i64 0, .string ⟨#[]⟩]) 2 24 Tryz.underlying314 hi hz0 hz1 hz2 rfl (by decide) _ _ _ rfl ((hown.alloc _).alloc _) ⟨w'.heap.size + 1, 0, none⟩ 1 1 [.int .i64 3, .string c] rfl rfl ?_ ?_ ?_ ?_ ?_ ?_))
          · exact cell_two_past _ _ _ _ _ _ (by simp)
          · exact oneCell_part _ _
          · unfold maxLen; omega
          · omega
          · simp; omega
          · intro v' w1 hown' hgrow _
            have hb1 := below_two hbel hown _ _ hgrow
            have hown2 : w1.ownsRow w.heap.size 368 2 v' (done ++ [((3 : Int), c)]).length (Ref.partCells (done ++ [((3 : Int), c)])) := by rw [Ref.partCells_snoc, List.length_append]; exact hown'
            clear hown' hgrow hown
            go_wp2
            go_roundw
            case rel => exact ⟨_, f', _, rfl, by simp; omega, hf', HP2.out, hown2, hb1⟩
            case measure => simp [Ref.strLen]; omega
        rw [Bool.not_eq_true] at c1
        by_cases c2 : (c.toList == [63]) = true
        · have hst : Ref.partStep t = some (2, c, c.size) := by unfold Ref.partStep; rw [if_neg (by simp [hok]), hc, if_neg (by simp [c1]), if_pos c2]
          obtain ⟨f', hf', hP'⟩ := Ref.parts_next P f t done hp hf HP1.out 2 c c.size hst
          have HP2 := hid hP'
          have HC := hid hc
          have HO := hid hok
          clear hP' hc hok hst HP1
          go_wp2_with (first
            | (go_at_call 217; refine (character_at t c true _ (by unfold maxLen; omega) hp HC.out HO.out).mono ?_; rintro e w' ⟨rfl, rfl⟩)
            | (at_builtin; refine wpList_append_own _ rfl _ _ 314 rfl w.heap.size 368 i0 (.agg #[.int .i64 0, .string ⟨#[]⟩]) 2 24 Tryz.underlying314 hi hz0 hz1 hz2 rfl (by decide) _ _ _ rfl ((hown.alloc _).alloc _) ⟨w'.heap.size + 1, 0, none⟩ 1 1 [.int .i64 2, .string c] rfl rfl ?_ ?_ ?_ ?_ ?_ ?_))
          · exact cell_two_past _ _ _ _ _ _ (by simp)
          · exact oneCell_part _ _
          · unfold maxLen; omega
          · omega
          · simp; omega
          · intro v' w1 hown' hgrow _
            have hb1 := below_two hbel hown _ _ hgrow
            have hown2 : w1.ownsRow w.heap.size 368 2 v' (done ++ [((2 : Int), c)]).length (Ref.partCells (done ++ [((2 : Int), c)])) := by rw [Ref.partCells_snoc, List.length_append]; exact hown'
            clear hown' hgrow hown
            go_wp2
            go_roundw
            case rel => exact ⟨_, f', _, rfl, by simp; omega, hf', HP2.out, hown2, hb1⟩
            case measure => simp [Ref.strLen]; omega
        rw [Bool.not_eq_true] at c2
        by_cases c3 : (c.toList == [36]) = true
        · obtain ⟨k, u, n, hd⟩ : ∃ k u n, Ref.dollarP t = (k, u, n) := ⟨_, _, _, rfl⟩
          have hds := Ref.dollarP_size t
          rw [hd] at hds
          simp only at hds
          by_cases hn0 : n = 0
          · subst hn0
            have hst : Ref.partStep t = none := by unfold Ref.partStep; rw [if_neg (by simp [hok]), hc, if_neg (by simp [c1]), if_neg (by simp [c2]), if_pos c3, hd, if_pos rfl]
            have hfin := Ref.parts_stop P f t done hp hf HP1.out hst
            subst hfin
            have HC := hid hc
            have HO := hid hok
            have HD := hid hd
            clear hc hok hst hd HP1
            go_wp2_with (first
              | (go_at_call 217; refine (character_at t c true _ (by unfold maxLen; omega) hp HC.out HO.out).mono ?_; rintro e w' ⟨rfl, rfl⟩)
              | (go_at_call 218; refine (dollar_at t u k 0 _ (by unfold maxLen; omega) HD.out).mono ?_; rintro e w2 ⟨rfl, hb2⟩; obtain ⟨hcl, hfr⟩ := bcell hb2; have hz := hb2.size))
            go_ret2
            exact ⟨_, rfl, hbel.trans ((below_box _ hb2 _ _).mono hsz), fun _ => rfl, World.ownsRow_nil _ _ _ _⟩
          · have hst : Ref.partStep t = some (k, u, n) := by unfold Ref.partStep; rw [if_neg (by simp [hok]), hc, if_neg (by simp [c1]), if_neg (by simp [c2]), if_pos c3, hd, if_neg hn0]
            obtain ⟨f', hf', hP'⟩ := Ref.parts_next P f t done hp hf HP1.out k u n hst
            have HP2 := hid hP'
            have HC := hid hc
            have HO := hid hok
            have HD := hid hd
            have hn1 : ((n : Int) == 0) = false := by simp; omega
            clear hP' hc hok hst hd HP1
            go_wp2_with (first
              | (go_at_call 217; refine (character_at t c true _ (by unfold maxLen; omega) hp HC.out HO.out).mono ?_; rintro e w' ⟨rfl, rfl⟩)
              | (go_at_call 218; refine (dollar_at t u k n _ (by unfold maxLen; omega) HD.out).mono ?_; rintro e w2 ⟨rfl, hb2⟩; obtain ⟨hcl, hfr⟩ := bcell hb2; have hz := hb2.size)
              | (at_builtin; refine wpList_append_own _ rfl _ _ 314 rfl w.heap.size 368 i0 (.agg #[.int .i64 0, .string ⟨#[]⟩]) 2 24 Tryz.underlying314 hi hz0 hz1 hz2 rfl (by decide) _ done.length (Ref.partCells done) rfl ?_ ⟨w2.heap.size, 0, none⟩ 1 1 [.int .i64 k, .string u] rfl rfl ?_ ?_ ?_ ?_ ?_ ?_))
            · exact (ownsRow_below hown (below_box _ hb2 _ _)).alloc _
            · exact cell_two_at _ _ _ _ _ (by simp [World.setCell])
            · exact oneCell_part _ _
            · unfold maxLen; omega
            · omega
            · have := hb2.size; simp [World.setCell] at this ⊢; omega
            · intro v' w1 hown' hgrow _
              have hb1 := below_one (hbel.trans ((below_box _ hb2 _ _).mono hsz)) (ownsRow_below hown (below_box _ hb2 _ _)) _ hgrow
              have hown2 : w1.ownsRow w.heap.size 368 2 v' (done ++ [(k, u)]).length (Ref.partCells (done ++ [(k, u)])) := by rw [Ref.partCells_snoc, List.length_append]; exact hown'
              clear hown' hgrow hown hb2 hcl hfr hz
              go_wp2
              go_roundw
              case rel => exact ⟨_, f', _, rfl, by simp; omega, hf', HP2.out, hown2, hb1⟩
              case measure => simp [Ref.strLen]; omega
        · rw [Bool.not_eq_true] at c3
          have hst : Ref.partStep t = some (1, c, c.size) := by unfold Ref.partStep; rw [if_neg (by simp [hok]), hc, if_neg (by simp [c1]), if_neg (by simp [c2]), if_neg (by simp [c3])]
          obtain ⟨f', hf', hP'⟩ := Ref.parts_next P f t done hp hf HP1.out 1 c c.size hst
          have HP2 := hid hP'
          have HC := hid hc
          have HO := hid hok
          clear hP' hc hok hst HP1
          go_wp2_with (first
            | (go_at_call 217; refine (character_at t c true _ (by unfold maxLen; omega) hp HC.out HO.out).mono ?_; rintro e w' ⟨rfl, rfl⟩)
            | (at_builtin; refine wpList_append_own _ rfl _ _ 314 rfl w.heap.size 368 i0 (.agg #[.int .i64 0, .string ⟨#[]⟩]) 2 24 Tryz.underlying314 hi hz0 hz1 hz2 rfl (by decide) _ _ _ rfl ((hown.alloc _).alloc _) ⟨w'.heap.size + 1, 0, none⟩ 1 1 [.int .i64 1, .string c] rfl rfl ?_ ?_ ?_ ?_ ?_ ?_))
          · exact cell_two_past _ _ _ _ _ _ (by simp)
          · exact oneCell_part _ _
          · unfold maxLen; omega
          · omega
          · simp; omega
          · intro v' w1 hown' hgrow _
            have hb1 := below_two hbel hown _ _ hgrow
            have hown2 : w1.ownsRow w.heap.size 368 2 v' (done ++ [((1 : Int), c)]).length (Ref.partCells (done ++ [((1 : Int), c)])) := by rw [Ref.partCells_snoc, List.length_append]; exact hown'
            clear hown' hgrow hown
            go_wp2
            go_roundw
            case rel => exact ⟨_, f', _, rfl, by simp; omega, hf', HP2.out, hown2, hb1⟩
            case measure => simp [Ref.strLen]; omega
    · have hfin := Ref.parts_end P f t done hp hf HP1.out
      subst hfin
      clear HP1
      go_wp2
      go_ret2
      exact ⟨_, rfl, hbel, by simp, hown⟩

end Go.Proofs.YtdakgnaojakldaaGreatDoor

/- Plain mathematics of the reference: the characters of a word; what a name says. -/
namespace Go.Proofs.YtdakgnaojakldaaGreatDoor
namespace Ref

def charsF : Nat → ByteArray → Option (List ByteArray)
  | 0, _ => none
  | f + 1, s => if s.size = 0 then some [] else if charOk s = false then none else (charsF f (s.extract (charStr s).size s.size)).map fun r => charStr s :: r

/-- The characters of a word; none: it is not all UTF-8. -/
def chars (s : ByteArray) : Option (List ByteArray) := charsF (s.size + 1) s

def strCells (l : List ByteArray) : List Value := l.map Value.string

theorem strCells_snoc (l : List ByteArray) (c : ByteArray) : strCells (l ++ [c]) = strCells l ++ [.string c] := by simp [strCells]

theorem chars_next (P : Option (List ByteArray)) (f : Nat) (t : ByteArray) (done : List ByteArray) (hp : 0 < t.size) (hf : t.size < f) (h : P = (charsF f t).map fun r => done ++ r)
    (c : ByteArray) (hc : charStr t = c) (ho : charOk t = true) :
    ∃ f', (t.extract c.size t.size).size < f' ∧ P = (charsF f' (t.extract c.size t.size)).map fun r => (done ++ [c]) ++ r := by
  obtain ⟨g, rfl⟩ : ∃ g, f = g + 1 := ⟨f - 1, by omega⟩
  have hn := charStr_size t hp
  rw [hc] at hn
  refine ⟨g, by rw [ByteArray.size_extract]; omega, ?_⟩
  rw [h, charsF, if_neg (by omega), if_neg (by simp [ho]), hc]
  simp [Option.map_map, Function.comp_def]

theorem chars_stop (P : Option (List ByteArray)) (f : Nat) (t : ByteArray) (done : List ByteArray) (hp : 0 < t.size) (hf : t.size < f) (h : P = (charsF f t).map fun r => done ++ r) (ho : charOk t = false) : P = none := by
  obtain ⟨g, rfl⟩ : ∃ g, f = g + 1 := ⟨f - 1, by omega⟩
  rw [h, charsF, if_neg (by omega), if_pos ho]; rfl

theorem chars_end (P : Option (List ByteArray)) (f : Nat) (t : ByteArray) (done : List ByteArray) (hp : ¬ 0 < t.size) (hf : t.size < f) (h : P = (charsF f t).map fun r => done ++ r) : P = some done := by
  obtain ⟨g, rfl⟩ : ∃ g, f = g + 1 := ⟨f - 1, by omega⟩
  rw [h, charsF, if_pos (by omega)]; simp

/-- May a word stand in a request? -/
def wordOk (s : ByteArray) : Bool := (chars s).isSome && decide (s.size ≤ 100)

end Ref
end Go.Proofs.YtdakgnaojakldaaGreatDoor
