/- Plain mathematics: one part of a pattern as the program reads it. No program in it. -/
import Derived.Test.YtdakgnaojakldaaDoorPgMath2
namespace Go.Proofs.YtdakgnaojakldaaDoor
namespace Pg
open Ref

theorem charHead (s : ByteArray) (hp : 0 < s.size) : (charStr s).data.toList.getD 0 0 = s.data.toList.getD 0 0 := by
  unfold charStr
  generalize hk : (if charLen s.data.toList = 0 then 1 else charLen s.data.toList) = k
  have h1 : 1 ≤ k := by rw [← hk]; split <;> omega
  obtain ⟨⟨l⟩⟩ := s
  cases l with
  | nil => exact absurd hp (by decide)
  | cons a l =>
    obtain ⟨j, rfl⟩ : ∃ j, k = j + 1 := ⟨k - 1, by omega⟩
    simp [ByteArray.data_extract]

theorem charNot (s : ByteArray) (hp : 0 < s.size) (c : UInt8) (h : (s.data.toList.getD 0 0).toNat ≠ c.toNat) : ((charStr s).toList == [c]) = false := by
  rw [beq_eq_false_iff_ne]
  intro e
  rw [Lib.toList_data] at e
  have := charHead s hp
  rw [e] at this
  apply h
  rw [← this]; rfl

theorem charIs (s : ByteArray) (hp : 0 < s.size) (c : UInt8) (hc : c.toNat < 128) (h : (s.data.toList.getD 0 0).toNat = c.toNat) : (charStr s).toList = [c] ∧ charOk s = true ∧ (charStr s).size = 1 := by
  have hl : charLen s.data.toList = 1 := by
    unfold charLen
    rw [len_data, if_neg (by omega), if_pos (by omega)]
  have hs : charStr s = s.extract 0 1 := by unfold charStr; rw [hl]; rfl
  have hz : (charStr s).size = 1 := by rw [hs, ByteArray.size_extract]; omega
  refine ⟨?_, by unfold charOk; rw [hl]; rfl, hz⟩
  rw [Lib.toList_data]
  have hh := charHead s hp
  have hlen : (charStr s).data.toList.length = 1 := by rw [len_data]; exact hz
  obtain ⟨a, ha⟩ := List.length_eq_one_iff.1 hlen
  rw [ha] at hh ⊢
  have : a = c := UInt8.toNat_inj.1 (by rw [← h, ← hh]; rfl)
  rw [this]

theorem step_star (s : ByteArray) (hp : 0 < s.size) (h : (s.data.toList.getD 0 0).toNat = 42) : stepR (partStep s) = (-2, ⟨#[]⟩, 1) := by
  obtain ⟨h1, h2, h3⟩ := charIs s hp 42 (by decide) h
  have : partStep s = some (3, charStr s, 1) := by
    unfold partStep
    rw [h2, h1, h3]; rfl
  rw [this]; rfl

theorem step_one (s : ByteArray) (hp : 0 < s.size) (h : (s.data.toList.getD 0 0).toNat = 63) : stepR (partStep s) = (-1, ⟨#[]⟩, 1) := by
  obtain ⟨h1, h2, h3⟩ := charIs s hp 63 (by decide) h
  have : partStep s = some (2, charStr s, 1) := by
    unfold partStep
    rw [h2, h1, h3]; rfl
  rw [this]; rfl

theorem step_dollar (s : ByteArray) (hp : 0 < s.size) (h : (s.data.toList.getD 0 0).toNat = 36) : stepR (partStep s) = dolT (s.extract 1 s.size) := by
  obtain ⟨h1, h2, h3⟩ := charIs s hp 36 (by decide) h
  have : partStep s = dolO s := by
    unfold partStep dolO
    rw [h2, h1]; rfl
  rw [this, dolT_eq s hp]

theorem step_char (s : ByteArray) (hp : 0 < s.size) (h1 : (s.data.toList.getD 0 0).toNat ≠ 42) (h2 : (s.data.toList.getD 0 0).toNat ≠ 63) (h3 : (s.data.toList.getD 0 0).toNat ≠ 36) :
    (Utf8.decode s 0 = (65533, 1) ∧ stepR (partStep s) = (0, ⟨#[]⟩, 0)) ∨
    (∃ c n, c ≤ 1114111 ∧ Utf8.decode s 0 = (c, n) ∧ ¬ (c = 65533 ∧ n = 1) ∧ n ≤ s.size ∧ stepR (partStep s) = ((c : Int), ⟨#[]⟩, n)) := by
  have e1 := charNot s hp 42 h1
  have e2 := charNot s hp 63 h2
  have e3 := charNot s hp 36 h3
  rcases dec_char s hp with ⟨ho, hd⟩ | ⟨ho, hc, hd, hn⟩
  · left
    refine ⟨hd, ?_⟩
    have : partStep s = none := by unfold partStep; rw [if_pos ho]
    rw [this]; rfl
  · right
    refine ⟨_, _, rune_le _ hc, hd, hn, (charStr_size s hp).2, ?_⟩
    have : partStep s = some (1, charStr s, (charStr s).size) := by
      unfold partStep; rw [ho, e1, e2, e3]; rfl
    rw [this]; rfl

end Pg
end Go.Proofs.YtdakgnaojakldaaDoor
