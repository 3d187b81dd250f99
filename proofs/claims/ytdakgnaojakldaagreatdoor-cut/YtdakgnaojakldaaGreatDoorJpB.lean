/- Several texts in one, each with its own opening remark. -/
import Derived.Test.YtdakgnaojakldaaGreatDoorJrA
import Derived.Lib.DecodeN
import Derived.Lib.Strings
import Derived.Lib.CutLaws
import Derived.Lib.ValidAsc
/- Plain mathematics: how the library reads a character, against how the reference does. No program in it. -/
namespace Go.Proofs.YtdakgnaojakldaaGreatDoor
namespace Pg
open Ref

/-- The bytes of a character's number, as numbers. -/
def encN (c : Nat) : List Nat :=
  if c < 128 then [c]
  else if c < 2048 then [192 + c / 64, 128 + c % 64]
  else if c < 65536 then [224 + c / 4096, 128 + c / 64 % 64, 128 + c % 64]
  else [240 + c / 262144, 128 + c / 4096 % 64, 128 + c / 64 % 64, 128 + c % 64]

/-- The number that the bytes of a character spell. -/
def decB (l : List Nat) : Nat :=
  if l.length = 1 then l.getD 0 0
  else if l.length = 2 then (l.getD 0 0 - 192) * 64 + (l.getD 1 0 - 128)
  else if l.length = 3 then (l.getD 0 0 - 224) * 4096 + (l.getD 1 0 - 128) * 64 + (l.getD 2 0 - 128)
  else (l.getD 0 0 - 240) * 262144 + (l.getD 1 0 - 128) * 4096 + (l.getD 2 0 - 128) * 64 + (l.getD 3 0 - 128)

theorem decB1 (a : Nat) : decB [a] = a := by
  simp [decB]
theorem decB2 (a b : Nat) : decB [a, b] = (a - 192) * 64 + (b - 128) := by
  simp [decB]
theorem decB3 (a b c : Nat) : decB [a, b, c] = (a - 224) * 4096 + (b - 128) * 64 + (c - 128) := by
  simp [decB]
theorem decB4 (a b c d : Nat) : decB [a, b, c, d] = (a - 240) * 262144 + (b - 128) * 4096 + (c - 128) * 64 + (d - 128) := by
  simp [decB]

theorem decB_encN (c : Nat) : decB (encN c) = c := by
  unfold encN
  by_cases h1 : c < 128
  · rw [if_pos h1, decB1]
  by_cases h2 : c < 2048
  · rw [if_neg h1, if_pos h2, decB2]; omega
  by_cases h3 : c < 65536
  · rw [if_neg h1, if_neg h2, if_pos h3, decB3]; omega
  · rw [if_neg h1, if_neg h2, if_neg h3, decB4]; omega

def nums (t : ByteArray) : List Nat := t.data.toList.map UInt8.toNat

/-- The number of the character that a text spells. -/
def runeOf (t : ByteArray) : Nat := decB (nums t)

def IsChar (t : ByteArray) : Prop := ∃ c, c ≤ 1114111 ∧ nums t = encN c

theorem nums_inj (s t : ByteArray) (h : nums s = nums t) : s.toList = t.toList := by
  rw [Lib.toList_data, Lib.toList_data]
  unfold nums at h
  exact (List.map_inj_right (fun a b e => UInt8.toNat_inj.1 e)).1 h

theorem rune_eq (s t : ByteArray) (hs : IsChar s) (ht : IsChar t) : (s.toList == t.toList) = decide (runeOf s = runeOf t) := by
  obtain ⟨c, _, hc⟩ := hs
  obtain ⟨d, _, hd⟩ := ht
  have e1 : runeOf s = c := by unfold runeOf; rw [hc, decB_encN]
  have e2 : runeOf t = d := by unfold runeOf; rw [hd, decB_encN]
  rw [e1, e2]
  by_cases h : c = d
  · subst h
    have := nums_inj s t (hc.trans hd.symm)
    rw [this]; simp
  · have : s.toList ≠ t.toList := by
      intro hl
      apply h
      rw [← e1, ← e2]; unfold runeOf nums
      rw [← Lib.toList_data, ← Lib.toList_data, hl]
    simp [this, h]

theorem rune_le (t : ByteArray) (h : IsChar t) : runeOf t ≤ 1114111 := by
  obtain ⟨c, hc, e⟩ := h
  unfold runeOf; rw [e, decB_encN]; exact hc

/-- How many bytes the first character has, by the first four bytes. -/
def lenN (n b0 b1 b2 b3 : Nat) : Nat :=
  if n = 0 then 0
  else if b0 < 128 then 1
  else if 194 ≤ b0 ∧ b0 ≤ 223 then (if 2 ≤ n ∧ 128 ≤ b1 ∧ b1 ≤ 191 then 2 else 0)
  else if b0 = 224 then (if 3 ≤ n ∧ 160 ≤ b1 ∧ b1 ≤ 191 ∧ 128 ≤ b2 ∧ b2 ≤ 191 then 3 else 0)
  else if b0 = 237 then (if 3 ≤ n ∧ 128 ≤ b1 ∧ b1 ≤ 159 ∧ 128 ≤ b2 ∧ b2 ≤ 191 then 3 else 0)
  else if 225 ≤ b0 ∧ b0 ≤ 239 then (if 3 ≤ n ∧ 128 ≤ b1 ∧ b1 ≤ 191 ∧ 128 ≤ b2 ∧ b2 ≤ 191 then 3 else 0)
  else if b0 = 240 then (if 4 ≤ n ∧ 144 ≤ b1 ∧ b1 ≤ 191 ∧ 128 ≤ b2 ∧ b2 ≤ 191 ∧ 128 ≤ b3 ∧ b3 ≤ 191 then 4 else 0)
  else if 241 ≤ b0 ∧ b0 ≤ 243 then (if 4 ≤ n ∧ 128 ≤ b1 ∧ b1 ≤ 191 ∧ 128 ≤ b2 ∧ b2 ≤ 191 ∧ 128 ≤ b3 ∧ b3 ≤ 191 then 4 else 0)
  else if b0 = 244 then (if 4 ≤ n ∧ 128 ≤ b1 ∧ b1 ≤ 143 ∧ 128 ≤ b2 ∧ b2 ≤ 191 ∧ 128 ≤ b3 ∧ b3 ≤ 191 then 4 else 0)
  else 0

theorem contTo_one (l : List UInt8) (lo hi : Int) : contTo l lo hi 1 = decide (lo ≤ ((l.getD 1 0).toNat : Int) ∧ ((l.getD 1 0).toNat : Int) ≤ hi) := by
  simp [contTo, List.range_succ]
theorem contTo_two (l : List UInt8) (lo hi : Int) : contTo l lo hi 2 = (decide (lo ≤ ((l.getD 1 0).toNat : Int) ∧ ((l.getD 1 0).toNat : Int) ≤ hi) && decide (128 ≤ (l.getD 2 0).toNat ∧ (l.getD 2 0).toNat ≤ 191)) := by
  rw [contTo_succ, contTo_one]; simp
theorem contTo_three (l : List UInt8) (lo hi : Int) : contTo l lo hi 3 = (decide (lo ≤ ((l.getD 1 0).toNat : Int) ∧ ((l.getD 1 0).toNat : Int) ≤ hi) && decide (128 ≤ (l.getD 2 0).toNat ∧ (l.getD 2 0).toNat ≤ 191) && decide (128 ≤ (l.getD 3 0).toNat ∧ (l.getD 3 0).toNat ≤ 191)) := by
  rw [contTo_succ, contTo_two]; simp

theorem charLen_of (l : List UInt8) (n lo hi : Int) (hl : l.length ≠ 0) (h : ¬ (l.getD 0 0).toNat < 128) (hr : leadN ((l.getD 0 0).toNat : Int) = (n, lo, hi)) :
    charLen l = if n = 0 then 0 else if (l.length : Int) < n + 1 then 0 else if contTo l lo hi n.toNat then n.toNat + 1 else 0 := by
  unfold charLen; rw [if_neg hl, if_neg h, hr]

theorem charLen_1 (l : List UInt8) (lo hi : Nat) (hl : l.length ≠ 0) (h : ¬ (l.getD 0 0).toNat < 128) (hr : leadN ((l.getD 0 0).toNat : Int) = (1, (lo : Int), (hi : Int))) :
    charLen l = if 2 ≤ l.length ∧ lo ≤ (l.getD 1 0).toNat ∧ (l.getD 1 0).toNat ≤ hi then 2 else 0 := by
  rw [charLen_of l _ _ _ hl h hr, if_neg (by decide), show (1 : Int).toNat = 1 from rfl, contTo_one]
  generalize (l.getD 1 0).toNat = b1
  by_cases c : 2 ≤ l.length ∧ lo ≤ b1 ∧ b1 ≤ hi
  · rw [if_pos c, if_neg (by omega), if_pos (by simp; omega)]
  · rw [if_neg c]
    by_cases d : (l.length : Int) < 1 + 1
    · rw [if_pos d]
    · rw [if_neg d, if_neg (by simp; omega)]

theorem charLen_2 (l : List UInt8) (lo hi : Nat) (hl : l.length ≠ 0) (h : ¬ (l.getD 0 0).toNat < 128) (hr : leadN ((l.getD 0 0).toNat : Int) = (2, (lo : Int), (hi : Int))) :
    charLen l = if 3 ≤ l.length ∧ lo ≤ (l.getD 1 0).toNat ∧ (l.getD 1 0).toNat ≤ hi ∧ 128 ≤ (l.getD 2 0).toNat ∧ (l.getD 2 0).toNat ≤ 191 then 3 else 0 := by
  rw [charLen_of l _ _ _ hl h hr, if_neg (by decide), show (2 : Int).toNat = 2 from rfl, contTo_two]
  generalize (l.getD 1 0).toNat = b1
  generalize (l.getD 2 0).toNat = b2
  by_cases c : 3 ≤ l.length ∧ lo ≤ b1 ∧ b1 ≤ hi ∧ 128 ≤ b2 ∧ b2 ≤ 191
  · rw [if_pos c, if_neg (by omega), if_pos (by simp; omega)]
  · rw [if_neg c]
    by_cases d : (l.length : Int) < 2 + 1
    · rw [if_pos d]
    · rw [if_neg d, if_neg (by simp; omega)]

theorem charLen_3 (l : List UInt8) (lo hi : Nat) (hl : l.length ≠ 0) (h : ¬ (l.getD 0 0).toNat < 128) (hr : leadN ((l.getD 0 0).toNat : Int) = (3, (lo : Int), (hi : Int))) :
    charLen l = if 4 ≤ l.length ∧ lo ≤ (l.getD 1 0).toNat ∧ (l.getD 1 0).toNat ≤ hi ∧ 128 ≤ (l.getD 2 0).toNat ∧ (l.getD 2 0).toNat ≤ 191 ∧ 128 ≤ (l.getD 3 0).toNat ∧ (l.getD 3 0).toNat ≤ 191 then 4 else 0 := by
  rw [charLen_of l _ _ _ hl h hr, if_neg (by decide), show (3 : Int).toNat = 3 from rfl, contTo_three]
  generalize (l.getD 1 0).toNat = b1
  generalize (l.getD 2 0).toNat = b2
  generalize (l.getD 3 0).toNat = b3
  by_cases c : 4 ≤ l.length ∧ lo ≤ b1 ∧ b1 ≤ hi ∧ 128 ≤ b2 ∧ b2 ≤ 191 ∧ 128 ≤ b3 ∧ b3 ≤ 191
  · rw [if_pos c, if_neg (by omega), if_pos (by simp; omega)]
  · rw [if_neg c]
    by_cases d : (l.length : Int) < 3 + 1
    · rw [if_pos d]
    · rw [if_neg d, if_neg (by simp; omega)]

theorem charLen_N (l : List UInt8) : charLen l = lenN l.length (l.getD 0 0).toNat (l.getD 1 0).toNat (l.getD 2 0).toNat (l.getD 3 0).toNat := by
  unfold lenN
  by_cases hl : l.length = 0
  · rw [if_pos hl]; unfold charLen; rw [if_pos hl]
  rw [if_neg hl]
  by_cases h : (l.getD 0 0).toNat < 128
  · rw [if_pos h]; unfold charLen; rw [if_neg hl, if_pos h]
  rw [if_neg h]
  by_cases c1 : 194 ≤ (l.getD 0 0).toNat ∧ (l.getD 0 0).toNat ≤ 223
  · rw [if_pos c1]
    exact charLen_1 l 128 191 hl h (by unfold leadN; rw [if_pos (by omega)]; rfl)
  rw [if_neg c1]
  by_cases c2 : (l.getD 0 0).toNat = 224
  · rw [if_pos c2]
    exact charLen_2 l 160 191 hl h (by unfold leadN; rw [if_neg (by omega), if_pos (by omega)]; rfl)
  rw [if_neg c2]
  by_cases c3 : (l.getD 0 0).toNat = 237
  · rw [if_pos c3]
    exact charLen_2 l 128 159 hl h (by unfold leadN; rw [if_neg (by omega), if_neg (by omega), if_pos (by omega)]; rfl)
  rw [if_neg c3]
  by_cases c4 : 225 ≤ (l.getD 0 0).toNat ∧ (l.getD 0 0).toNat ≤ 239
  · rw [if_pos c4]
    exact charLen_2 l 128 191 hl h (by unfold leadN; rw [if_neg (by omega), if_neg (by omega), if_neg (by omega), if_pos (by omega)]; rfl)
  rw [if_neg c4]
  by_cases c5 : (l.getD 0 0).toNat = 240
  · rw [if_pos c5]
    exact charLen_3 l 144 191 hl h (by unfold leadN; rw [if_neg (by omega), if_neg (by omega), if_neg (by omega), if_neg (by omega), if_pos (by omega)]; rfl)
  rw [if_neg c5]
  by_cases c6 : 241 ≤ (l.getD 0 0).toNat ∧ (l.getD 0 0).toNat ≤ 243
  · rw [if_pos c6]
    exact charLen_3 l 128 191 hl h (by unfold leadN; rw [if_neg (by omega), if_neg (by omega), if_neg (by omega), if_neg (by omega), if_neg (by omega), if_pos (by omega)]; rfl)
  rw [if_neg c6]
  by_cases c7 : (l.getD 0 0).toNat = 244
  · rw [if_pos c7]
    exact charLen_3 l 128 143 hl h (by unfold leadN; rw [if_neg (by omega), if_neg (by omega), if_neg (by omega), if_neg (by omega), if_neg (by omega), if_neg (by omega), if_pos (by omega)]; rfl)
  rw [if_neg c7]
  unfold charLen
  rw [if_neg hl, if_neg h, if_pos]
  unfold leadN
  rw [if_neg (by omega), if_neg (by omega), if_neg (by omega), if_neg (by omega), if_neg (by omega), if_neg (by omega), if_neg (by omega)]

theorem dec_one (n b0 b1 b2 b3 : Nat) (h : b0 < 128) : Lib.decodeN n b0 b1 b2 b3 = (b0, 1) := by
  unfold Lib.decodeN; rw [if_pos h]

theorem dec_two (n b0 b1 b2 b3 : Nat) (h : 194 ≤ b0 ∧ b0 ≤ 223) (hn : 2 ≤ n) (h1 : 128 ≤ b1 ∧ b1 ≤ 191) : Lib.decodeN n b0 b1 b2 b3 = (b0 % 32 * 64 + b1 % 64, 2) := by
  unfold Lib.decodeN; rw [if_neg (by omega), if_pos ⟨by omega, by omega, by omega⟩, if_pos (by omega)]

theorem dec_three (n b0 b1 b2 b3 : Nat) (h : 224 ≤ b0 ∧ b0 ≤ 239) (hn : 3 ≤ n) (h1 : 128 ≤ b1 ∧ b1 ≤ 191) (h2 : 128 ≤ b2 ∧ b2 ≤ 191) (ha : b0 = 224 → 160 ≤ b1) (hb : b0 = 237 → b1 ≤ 159) :
    Lib.decodeN n b0 b1 b2 b3 = (b0 % 16 * 4096 + b1 % 64 * 64 + b2 % 64, 3) := by
  unfold Lib.decodeN; rw [if_neg (by omega), if_neg (by omega), if_pos ⟨by omega, ⟨by omega, by omega⟩, by omega, by omega⟩, if_pos (by omega)]

theorem dec_four (n b0 b1 b2 b3 : Nat) (h : 240 ≤ b0 ∧ b0 ≤ 244) (hn : 4 ≤ n) (h1 : 128 ≤ b1 ∧ b1 ≤ 191) (h2 : 128 ≤ b2 ∧ b2 ≤ 191) (h3 : 128 ≤ b3 ∧ b3 ≤ 191) (ha : b0 = 240 → 144 ≤ b1) (hb : b0 = 244 → b1 ≤ 143) :
    Lib.decodeN n b0 b1 b2 b3 = (b0 % 8 * 262144 + b1 % 64 * 4096 + b2 % 64 * 64 + b3 % 64, 4) := by
  unfold Lib.decodeN; rw [if_neg (by omega), if_neg (by omega), if_neg (by omega), if_pos ⟨by omega, ⟨by omega, by omega⟩, ⟨by omega, by omega⟩, by omega, by omega⟩, if_pos (by omega)]

def Good (n b0 b1 b2 b3 k : Nat) : Prop :=
  Lib.decodeN n b0 b1 b2 b3 = (decB ([b0, b1, b2, b3].take k), k) ∧ k ≤ n ∧ k ≤ 4 ∧ ∃ c, c ≤ 1114111 ∧ [b0, b1, b2, b3].take k = encN c

theorem good_one (n b0 b1 b2 b3 : Nat) (hn : n ≠ 0) (h : b0 < 128) : Good n b0 b1 b2 b3 1 := by
  refine ⟨by rw [dec_one _ _ _ _ _ h]; rfl, by omega, by omega, b0, by omega, ?_⟩
  unfold encN; rw [if_pos h]; rfl

theorem good_two (n b0 b1 b2 b3 : Nat) (h : 194 ≤ b0 ∧ b0 ≤ 223) (hn : 2 ≤ n) (h1 : 128 ≤ b1 ∧ b1 ≤ 191) : Good n b0 b1 b2 b3 2 := by
  refine ⟨?_, by omega, by omega, b0 % 32 * 64 + b1 % 64, by omega, ?_⟩
  · rw [dec_two _ _ _ _ _ h hn h1]
    show _ = (decB [b0, b1], 2)
    rw [decB2, Prod.mk.injEq]
    exact ⟨by omega, rfl⟩
  · show [b0, b1] = _
    unfold encN; rw [if_neg (by omega), if_pos (by omega)]
    congr 1
    · omega
    · congr 1; omega

theorem good_three (n b0 b1 b2 b3 : Nat) (h : 224 ≤ b0 ∧ b0 ≤ 239) (hn : 3 ≤ n) (h1 : 128 ≤ b1 ∧ b1 ≤ 191) (h2 : 128 ≤ b2 ∧ b2 ≤ 191) (ha : b0 = 224 → 160 ≤ b1) (hb : b0 = 237 → b1 ≤ 159) : Good n b0 b1 b2 b3 3 := by
  refine ⟨?_, by omega, by omega, b0 % 16 * 4096 + b1 % 64 * 64 + b2 % 64, by omega, ?_⟩
  · rw [dec_three _ _ _ _ _ h hn h1 h2 ha hb]
    show _ = (decB [b0, b1, b2], 3)
    rw [decB3, Prod.mk.injEq]
    exact ⟨by omega, rfl⟩
  · show [b0, b1, b2] = _
    unfold encN; rw [if_neg (by omega), if_neg (by omega), if_pos (by omega)]
    congr 1
    · omega
    · congr 1
      · omega
      · congr 1; omega

theorem good_four (n b0 b1 b2 b3 : Nat) (h : 240 ≤ b0 ∧ b0 ≤ 244) (hn : 4 ≤ n) (h1 : 128 ≤ b1 ∧ b1 ≤ 191) (h2 : 128 ≤ b2 ∧ b2 ≤ 191) (h3 : 128 ≤ b3 ∧ b3 ≤ 191) (ha : b0 = 240 → 144 ≤ b1) (hb : b0 = 244 → b1 ≤ 143) : Good n b0 b1 b2 b3 4 := by
  refine ⟨?_, by omega, by omega, b0 % 8 * 262144 + b1 % 64 * 4096 + b2 % 64 * 64 + b3 % 64, by omega, ?_⟩
  · rw [dec_four _ _ _ _ _ h hn h1 h2 h3 ha hb]
    show _ = (decB [b0, b1, b2, b3], 4)
    rw [decB4, Prod.mk.injEq]
    exact ⟨by omega, rfl⟩
  · show [b0, b1, b2, b3] = _
    unfold encN; rw [if_neg (by omega), if_neg (by omega), if_neg (by omega)]
    congr 1
    · omega
    · congr 1
      · omega
      · congr 1
        · omega
        · congr 1; omega

set_option maxHeartbeats 4000000 in
theorem dec_bad (n b0 b1 b2 b3 : Nat) (hn : n ≠ 0) (h0 : b0 < 256) (h : lenN n b0 b1 b2 b3 = 0) : Lib.decodeN n b0 b1 b2 b3 = (65533, 1) := by
  unfold lenN at h
  rw [if_neg hn] at h
  unfold Lib.decodeN
  repeat' split at h
  all_goals first | (exfalso; omega) | skip
  all_goals repeat' split
  all_goals first | rfl | (exfalso; omega)

theorem len_good (n b0 b1 b2 b3 : Nat) (hn : n ≠ 0) (h : lenN n b0 b1 b2 b3 ≠ 0) : Good n b0 b1 b2 b3 (lenN n b0 b1 b2 b3) := by
  unfold lenN at h ⊢
  rw [if_neg hn] at h ⊢
  split at h
  · rename_i c; rw [if_pos c]; exact good_one _ _ _ _ _ hn c
  rename_i c0; rw [if_neg c0]
  split at h
  · rename_i c; rw [if_pos c]
    split at h
    · rename_i d; rw [if_pos d]; exact good_two _ _ _ _ _ c d.1 d.2
    · exact absurd rfl h
  rename_i c1; rw [if_neg c1]
  split at h
  · rename_i c; rw [if_pos c]
    split at h
    · rename_i d; rw [if_pos d]; exact good_three _ _ _ _ _ (by omega) d.1 (by omega) (by omega) (by omega) (by omega)
    · exact absurd rfl h
  rename_i c2; rw [if_neg c2]
  split at h
  · rename_i c; rw [if_pos c]
    split at h
    · rename_i d; rw [if_pos d]; exact good_three _ _ _ _ _ (by omega) d.1 (by omega) (by omega) (by omega) (by omega)
    · exact absurd rfl h
  rename_i c3; rw [if_neg c3]
  split at h
  · rename_i c; rw [if_pos c]
    split at h
    · rename_i d; rw [if_pos d]; exact good_three _ _ _ _ _ (by omega) d.1 (by omega) (by omega) (by omega) (by omega)
    · exact absurd rfl h
  rename_i c4; rw [if_neg c4]
  split at h
  · rename_i c; rw [if_pos c]
    split at h
    · rename_i d; rw [if_pos d]; exact good_four _ _ _ _ _ (by omega) d.1 (by omega) (by omega) (by omega) (by omega) (by omega)
    · exact absurd rfl h
  rename_i c5; rw [if_neg c5]
  split at h
  · rename_i c; rw [if_pos c]
    split at h
    · rename_i d; rw [if_pos d]; exact good_four _ _ _ _ _ (by omega) d.1 (by omega) (by omega) (by omega) (by omega) (by omega)
    · exact absurd rfl h
  rename_i c6; rw [if_neg c6]
  split at h
  · rename_i c; rw [if_pos c]
    split at h
    · rename_i d; rw [if_pos d]; exact good_four _ _ _ _ _ (by omega) d.1 (by omega) (by omega) (by omega) (by omega) (by omega)
    · exact absurd rfl h
  · exact absurd rfl h

theorem get_getD (s : ByteArray) (k : Nat) : s.get! k = s.data.toList.getD k 0 := by
  obtain ⟨⟨l⟩⟩ := s
  show (Array.mk l)[k]! = _
  by_cases h : k < l.length
  · simp [List.getD, h]
  · simp [List.getD, h]; rfl

theorem take_nums (l : List UInt8) (k : Nat) (hk : k ≤ 4) (hl : k ≤ l.length) : (l.take k).map UInt8.toNat = [(l.getD 0 0).toNat, (l.getD 1 0).toNat, (l.getD 2 0).toNat, (l.getD 3 0).toNat].take k := by
  obtain rfl | rfl | rfl | rfl | rfl : k = 0 ∨ k = 1 ∨ k = 2 ∨ k = 3 ∨ k = 4 := by omega
  all_goals rcases l with _ | ⟨a, _ | ⟨b, _ | ⟨c, _ | ⟨d, l⟩⟩⟩⟩
  all_goals first | rfl | (simp at hl)

theorem nums_ext (s : ByteArray) (k : Nat) : nums (s.extract 0 k) = (s.data.toList.take k).map UInt8.toNat := by
  unfold nums; simp [ByteArray.data_extract]

/-- What the library reads at a text's head. -/
theorem dec_char (s : ByteArray) (hp : 0 < s.size) :
    (charOk s = false ∧ Utf8.decode s 0 = (65533, 1)) ∨
    (charOk s = true ∧ IsChar (charStr s) ∧ Utf8.decode s 0 = (runeOf (charStr s), (charStr s).size) ∧ ¬ (runeOf (charStr s) = 65533 ∧ (charStr s).size = 1)) := by
  have hd := Lib.decode_at s 0
  simp only [get_getD, Nat.sub_zero, Nat.zero_add] at hd
  have hc := charLen_N s.data.toList
  have hln : s.data.toList.length = s.size := len_data s
  rw [hln] at hc
  by_cases h : charLen s.data.toList = 0
  · left
    refine ⟨by unfold charOk; rw [h]; rfl, ?_⟩
    rw [hd]
    exact dec_bad _ _ _ _ _ (by omega) (UInt8.toNat_lt _) (hc.symm.trans h)
  · right
    have hs : charStr s = s.extract 0 (charLen s.data.toList) := by unfold charStr; rw [if_neg h]
    have hg := len_good _ _ _ _ _ (by omega) (fun e => h (hc.trans e))
    rw [← hc] at hg
    obtain ⟨g1, g2, g3, c, g4, g5⟩ := hg
    have hn : nums (charStr s) = encN c := by
      rw [hs, nums_ext, take_nums _ _ g3 (by rw [hln]; exact g2)]; exact g5
    have hr : runeOf (charStr s) = c := by unfold runeOf; rw [hn, decB_encN]
    have hsz : (charStr s).size = charLen s.data.toList := by rw [hs, ByteArray.size_extract]; omega
    refine ⟨by unfold charOk; simp [h], ⟨c, g4, hn⟩, ?_, ?_⟩
    · rw [hd, g1, hr, hsz, g5, decB_encN]
    · rintro ⟨e1, e2⟩
      rw [hr] at e1
      have : (nums (charStr s)).length = 1 := by unfold nums; rw [List.length_map, len_data]; exact e2
      rw [hn, e1] at this
      simp [encN] at this

end Pg
end Go.Proofs.YtdakgnaojakldaaGreatDoor

/- Plain mathematics: the parts of a pattern as the program has them, against the reference's. No program in it. -/
namespace Go.Proofs.YtdakgnaojakldaaGreatDoor
namespace Pg
open Ref

/-- The program's sign and name of a part of the reference's. -/
def signOf (p : Int × ByteArray) : Int := if p.1 = 3 then -2 else if p.1 = 2 then -1 else if p.1 = 4 then 0 else (runeOf p.2 : Int)
def nameOf (p : Int × ByteArray) : ByteArray := if p.1 = 4 then p.2 else ⟨#[]⟩

/-- Where the first closing brace stands. -/
def brace (u : ByteArray) : Nat := u.data.toList.findIdx fun c => c.toNat == 125
def cutHas (u : ByteArray) : Bool := decide (brace u < u.size)
def cutName (u : ByteArray) : ByteArray := if cutHas u then u.extract 0 (brace u) else u

theorem index_brace (l : List UInt8) : Lib.index l [125] = if l.findIdx (fun c => c.toNat == 125) < l.length then ((l.findIdx fun c => c.toNat == 125 : Nat) : Int) else -1 := by
  induction l with
  | nil => rfl
  | cons b l ih =>
    unfold Lib.index
    rw [ih, List.findIdx_cons]
    have e : ([125].isPrefixOf (b :: l)) = (b.toNat == 125) := by
      simp only [List.isPrefixOf, Bool.and_true]
      rw [Bool.eq_iff_iff, beq_iff_eq, beq_iff_eq]
      constructor
      · intro h; rw [← h]; rfl
      · intro h; exact (UInt8.toNat_inj.1 (by rw [h]; rfl)).symm
    rw [e]
    cases h : b.toNat == 125 with
    | true => simp
    | false =>
      simp only [Bool.false_eq_true, if_false, cond_false, List.length_cons]
      generalize l.findIdx (fun c => c.toNat == 125) = f
      generalize l.length = n
      by_cases hl : f < n
      · have h1 : f + 1 < n + 1 := by omega
        have h2 : ((f : Int) == -1) = false := by rw [beq_eq_false_iff_ne]; omega
        simp [hl, h1, h2]
      · have h1 : ¬ f + 1 < n + 1 := by omega
        simp [hl, h1]

theorem cut_brace (u : ByteArray) : (⟨(Lib.cut u.data.toList [125]).1.toArray⟩ : ByteArray) = cutName u ∧ (Lib.cut u.data.toList [125]).2.2 = cutHas u := by
  have hi := index_brace u.data.toList
  rw [len_data] at hi
  unfold cutName cutHas brace
  by_cases h : u.data.toList.findIdx (fun c => c.toNat == 125) < u.size
  · rw [if_pos h] at hi
    have hc := Lib.cutB_hit u ⟨#[125]⟩ _ hi
    rw [decide_eq_true h, if_pos rfl]
    exact ⟨hc.1, hc.2.2⟩
  · rw [if_neg h] at hi
    have hc := Lib.cutB_miss u ⟨#[125]⟩ hi
    rw [decide_eq_false h, if_neg (by decide)]
    exact ⟨hc.1, hc.2.2⟩

/-- What the program reads behind a dollar: the sign, the name, how many bytes with the dollar; 0: no pattern begins so. -/
def dolT (t : ByteArray) : Int × ByteArray × Nat :=
  if t.size = 0 then (0, ⟨#[]⟩, 0)
  else if (t.data.toList.getD 0 0).toNat = 36 ∨ (t.data.toList.getD 0 0).toNat = 42 ∨ (t.data.toList.getD 0 0).toNat = 63 then ((t.data.toList.getD 0 0).toNat, ⟨#[]⟩, 2)
  else if (t.data.toList.getD 0 0).toNat = 123 then
    (if cutHas (t.extract 1 t.size) then (if isName (cutName (t.extract 1 t.size)) then (0, cutName (t.extract 1 t.size), 2 + (cutName (t.extract 1 t.size)).size + 1) else (0, ⟨#[]⟩, 0)) else (0, ⟨#[]⟩, 0))
  else (0, ⟨#[]⟩, 0)

/-- The same by the reference's words. -/
def stepR (p : Option (Int × ByteArray × Nat)) : Int × ByteArray × Nat := match p with
  | none => (0, ⟨#[]⟩, 0)
  | some (k, t, n) => (signOf (k, t), nameOf (k, t), n)

def dolO (s : ByteArray) : Option (Int × ByteArray × Nat) := if (dollarP s).2.2 = 0 then none else some (dollarP s)

theorem ext1_list (s : ByteArray) : (s.extract 1 s.size).data.toList = s.data.toList.drop 1 := Lib.ext_list s 1

theorem ext_ext (s : ByteArray) (k : Nat) : (s.extract k s.size).extract 1 (s.extract k s.size).size = s.extract (k + 1) s.size := by
  rw [ByteArray.extract_extract, ByteArray.size_extract]
  have e : min (k + (min s.size s.size - k)) s.size = s.size ∨ s.size ≤ k := by omega
  rcases e with e | e
  · rw [e]
  · have e1 : min (k + (min s.size s.size - k)) s.size = s.size := by omega
    rw [e1]

theorem runeOf_byte (s : ByteArray) (k : Nat) (hk : k < s.size) : runeOf (s.extract k (k + 1)) = (s.data.toList.getD k 0).toNat := by
  unfold runeOf nums
  have : (s.extract k (k + 1)).data.toList = [s.data.toList.getD k 0] := by
    have hk' : k < s.data.toList.length := by rw [len_data]; exact hk
    rw [ByteArray.data_extract, Array.toList_extract, List.getD_eq_getElem?_getD, List.getElem?_eq_getElem hk']
    simp only [List.extract_eq_take_drop, Option.getD_some]
    rw [List.drop_eq_getElem_cons hk']
    simp
  rw [this]
  simp only [List.map_cons, List.map_nil, decB1]

theorem dolT_eq (s : ByteArray) (hp : 0 < s.size) : dolT (s.extract 1 s.size) = stepR (dolO s) := by
  have hz : (s.extract 1 s.size).size = s.size - 1 := by rw [ByteArray.size_extract]; omega
  have h0 : (s.extract 1 s.size).data.toList.getD 0 0 = s.data.toList.getD 1 0 := by
    rw [ext1_list]; simp
  unfold dolT
  rw [h0, hz]
  unfold dolO dollarP
  by_cases h2 : s.size < 2
  · rw [if_pos (by omega), if_pos h2]; rfl
  rw [if_neg (by omega), if_neg h2]
  by_cases h3 : (s.data.toList.getD 1 0).toNat = 36 ∨ (s.data.toList.getD 1 0).toNat = 42 ∨ (s.data.toList.getD 1 0).toNat = 63
  · rw [if_pos h3, if_pos h3]
    show _ = (signOf (1, s.extract 1 2), nameOf (1, s.extract 1 2), 2)
    have : signOf (1, s.extract 1 2) = ((s.data.toList.getD 1 0).toNat : Int) := by
      show ((runeOf (s.extract 1 2) : Nat) : Int) = _
      rw [runeOf_byte s 1 (by omega)]
    rw [this]; rfl
  rw [if_neg h3, if_neg h3]
  by_cases h4 : (s.data.toList.getD 1 0).toNat = 123
  · rw [if_pos h4, if_pos h4]
    have hx : (s.extract 1 s.size).extract 1 (s.size - 1) = s.extract 2 s.size := by
      have := ext_ext s 1; rw [hz] at this; exact this
    rw [hx]
    have hl : (s.extract 2 s.size).data.toList = s.data.toList.drop 2 := Lib.ext_list s 2
    have hb : closeAt s = 2 + brace (s.extract 2 s.size) := by unfold closeAt brace; rw [hl]
    have hs2 : (s.extract 2 s.size).size = s.size - 2 := by rw [ByteArray.size_extract]; omega
    by_cases hc : closeAt s < s.size
    · have hh : cutHas (s.extract 2 s.size) = true := by unfold cutHas; rw [hs2]; exact decide_eq_true (by omega)
      have hn : cutName (s.extract 2 s.size) = s.extract 2 (closeAt s) := by
        unfold cutName; rw [hh, if_pos rfl, ByteArray.extract_extract]
        have e2 : min (2 + brace (s.extract 2 s.size)) s.size = closeAt s := by rw [hb] at hc ⊢; omega
        rw [e2]
      have hsz : (s.extract 2 (closeAt s)).size = closeAt s - 2 := by rw [ByteArray.size_extract]; omega
      rw [hh, if_pos rfl, if_pos hc, hn]
      by_cases hi : isName (s.extract 2 (closeAt s)) = true
      · rw [if_pos hi, if_pos hi]
        show _ = (signOf (4, _), nameOf (4, _), _)
        rw [hsz]
        have : 2 + (closeAt s - 2) + 1 = closeAt s + 1 := by omega
        rw [this]; rfl
      · rw [if_neg hi, if_neg hi]; rfl
    · have hh : cutHas (s.extract 2 s.size) = false := by unfold cutHas; rw [hs2]; exact decide_eq_false (by omega)
      rw [hh, if_neg (by decide), if_neg hc]; rfl
  · rw [if_neg h4, if_neg h4]; rfl

end Pg
end Go.Proofs.YtdakgnaojakldaaGreatDoor

/- Plain mathematics: one part of a pattern as the program reads it. No program in it. -/
namespace Go.Proofs.YtdakgnaojakldaaGreatDoor
namespace Pg
open Ref

theorem charHead (s : ByteArray) (hp : 0 < s.size) : (charStr s).data.toList.getD 0 0 = s.data.toList.getD 0 0 := by
  unfold charStr
  generalize hk : (if charLen s.data.toList = 0 then 1 else charLen s.data.toList) = k
  have h1 : 1 ≤ k := by rw [← hk]; split <;> omega
  obtain ⟨⟨l⟩⟩ := s
  cases l with
  | nil => exact absurd hp (by decide)
  | cons a l =>
    obtain ⟨j, rfl⟩ : ∃ j, k = j + 1 := ⟨k - 1, by omega⟩
    simp [ByteArray.data_extract]

theorem charNot (s : ByteArray) (hp : 0 < s.size) (c : UInt8) (h : (s.data.toList.getD 0 0).toNat ≠ c.toNat) : ((charStr s).toList == [c]) = false := by
  rw [beq_eq_false_iff_ne]
  intro e
  rw [Lib.toList_data] at e
  have := charHead s hp
  rw [e] at this
  apply h
  rw [← this]; rfl

theorem charIs (s : ByteArray) (hp : 0 < s.size) (c : UInt8) (hc : c.toNat < 128) (h : (s.data.toList.getD 0 0).toNat = c.toNat) : (charStr s).toList = [c] ∧ charOk s = true ∧ (charStr s).size = 1 := by
  have hl : charLen s.data.toList = 1 := by
    unfold charLen
    rw [len_data, if_neg (by omega), if_pos (by omega)]
  have hs : charStr s = s.extract 0 1 := by unfold charStr; rw [hl]; rfl
  have hz : (charStr s).size = 1 := by rw [hs, ByteArray.size_extract]; omega
  refine ⟨?_, by unfold charOk; rw [hl]; rfl, hz⟩
  rw [Lib.toList_data]
  have hh := charHead s hp
  have hlen : (charStr s).data.toList.length = 1 := by rw [len_data]; exact hz
  obtain ⟨a, ha⟩ := List.length_eq_one_iff.1 hlen
  rw [ha] at hh ⊢
  have : a = c := UInt8.toNat_inj.1 (by rw [← h, ← hh]; rfl)
  rw [this]

theorem step_star (s : ByteArray) (hp : 0 < s.size) (h : (s.data.toList.getD 0 0).toNat = 42) : stepR (partStep s) = (-2, ⟨#[]⟩, 1) := by
  obtain ⟨h1, h2, h3⟩ := charIs s hp 42 (by decide) h
  have : partStep s = some (3, charStr s, 1) := by
    unfold partStep
    rw [h2, h1, h3]; rfl
  rw [this]; rfl

theorem step_one (s : ByteArray) (hp : 0 < s.size) (h : (s.data.toList.getD 0 0).toNat = 63) : stepR (partStep s) = (-1, ⟨#[]⟩, 1) := by
  obtain ⟨h1, h2, h3⟩ := charIs s hp 63 (by decide) h
  have : partStep s = some (2, charStr s, 1) := by
    unfold partStep
    rw [h2, h1, h3]; rfl
  rw [this]; rfl

theorem step_dollar (s : ByteArray) (hp : 0 < s.size) (h : (s.data.toList.getD 0 0).toNat = 36) : stepR (partStep s) = dolT (s.extract 1 s.size) := by
  obtain ⟨h1, h2, h3⟩ := charIs s hp 36 (by decide) h
  have : partStep s = dolO s := by
    unfold partStep dolO
    rw [h2, h1]; rfl
  rw [this, dolT_eq s hp]

theorem step_char (s : ByteArray) (hp : 0 < s.size) (h1 : (s.data.toList.getD 0 0).toNat ≠ 42) (h2 : (s.data.toList.getD 0 0).toNat ≠ 63) (h3 : (s.data.toList.getD 0 0).toNat ≠ 36) :
    (Utf8.decode s 0 = (65533, 1) ∧ stepR (partStep s) = (0, ⟨#[]⟩, 0)) ∨
    (∃ c n, c ≤ 1114111 ∧ Utf8.decode s 0 = (c, n) ∧ ¬ (c = 65533 ∧ n = 1) ∧ n ≤ s.size ∧ stepR (partStep s) = ((c : Int), ⟨#[]⟩, n)) := by
  have e1 := charNot s hp 42 h1
  have e2 := charNot s hp 63 h2
  have e3 := charNot s hp 36 h3
  rcases dec_char s hp with ⟨ho, hd⟩ | ⟨ho, hc, hd, hn⟩
  · left
    refine ⟨hd, ?_⟩
    have : partStep s = none := by unfold partStep; rw [if_pos ho]
    rw [this]; rfl
  · right
    refine ⟨_, _, rune_le _ hc, hd, hn, (charStr_size s hp).2, ?_⟩
    have : partStep s = some (1, charStr s, (charStr s).size) := by
      unfold partStep; rw [ho, e1, e2, e3]; rfl
    rw [this]; rfl

end Pg
end Go.Proofs.YtdakgnaojakldaaGreatDoor
