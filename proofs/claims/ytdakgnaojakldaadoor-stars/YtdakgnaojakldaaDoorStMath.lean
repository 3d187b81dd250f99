/- Plain mathematics of the statement Stars: six patterns, three words. No program in it. -/
import Derived.Test.YtdakgnaojakldaaDoorPgMath6
namespace Go.Proofs.YtdakgnaojakldaaDoor
namespace Pg
open Ref

theorem ext_append_left (a b : ByteArray) (n : Nat) (hn : n ≤ a.size) : (a ++ b).extract n (a ++ b).size = a.extract n a.size ++ b := by
  apply ByteArray.ext
  apply Array.ext'
  simp only [ByteArray.data_extract, ByteArray.data_append, Array.toList_extract, Array.toList_append, List.extract_eq_take_drop, ByteArray.size_append]
  have h1 : n ≤ a.data.toList.length := by rw [len_data]; exact hn
  have h2 : a.data.toList.length = a.size := len_data a
  have h3 : b.data.toList.length = b.size := len_data b
  rw [List.drop_append_of_le_length h1, List.take_of_length_le (by simp; omega), List.take_of_length_le (by simp)]

/-- The bytes of a character say of what follows nothing. -/
theorem lenN_more (n m b0 b1 b2 b3 x1 x2 x3 : Nat) (hk : lenN n b0 b1 b2 b3 ≠ 0) (h1 : 1 < n → x1 = b1) (h2 : 2 < n → x2 = b2) (h3 : 3 < n → x3 = b3) : lenN (n + m) b0 x1 x2 x3 = lenN n b0 b1 b2 b3 := by
  unfold lenN at hk ⊢
  by_cases hn : n = 0
  · rw [if_pos hn] at hk; exact absurd rfl hk
  rw [if_neg hn] at hk
  rw [if_neg hn, if_neg (show ¬ n + m = 0 by omega)]
  by_cases c0 : b0 < 128
  · rw [if_pos c0, if_pos c0]
  rw [if_neg c0] at hk
  rw [if_neg c0, if_neg c0]
  by_cases c1 : 194 ≤ b0 ∧ b0 ≤ 223
  · rw [if_pos c1] at hk
    rw [if_pos c1, if_pos c1]
    have d : 2 ≤ n ∧ 128 ≤ b1 ∧ b1 ≤ 191 := by
      by_cases d : 2 ≤ n ∧ 128 ≤ b1 ∧ b1 ≤ 191
      · exact d
      · rw [if_neg d] at hk; exact absurd rfl hk
    rw [if_pos d, h1 (by omega), if_pos ⟨by omega, d.2⟩]
  rw [if_neg c1] at hk
  rw [if_neg c1, if_neg c1]
  by_cases c2 : b0 = 224
  · rw [if_pos c2] at hk
    rw [if_pos c2, if_pos c2]
    have d : 3 ≤ n ∧ 160 ≤ b1 ∧ b1 ≤ 191 ∧ 128 ≤ b2 ∧ b2 ≤ 191 := by
      by_cases d : 3 ≤ n ∧ 160 ≤ b1 ∧ b1 ≤ 191 ∧ 128 ≤ b2 ∧ b2 ≤ 191
      · exact d
      · rw [if_neg d] at hk; exact absurd rfl hk
    rw [if_pos d, h1 (by omega), h2 (by omega), if_pos ⟨by omega, d.2⟩]
  rw [if_neg c2] at hk
  rw [if_neg c2, if_neg c2]
  by_cases c3 : b0 = 237
  · rw [if_pos c3] at hk
    rw [if_pos c3, if_pos c3]
    have d : 3 ≤ n ∧ 128 ≤ b1 ∧ b1 ≤ 159 ∧ 128 ≤ b2 ∧ b2 ≤ 191 := by
      by_cases d : 3 ≤ n ∧ 128 ≤ b1 ∧ b1 ≤ 159 ∧ 128 ≤ b2 ∧ b2 ≤ 191
      · exact d
      · rw [if_neg d] at hk; exact absurd rfl hk
    rw [if_pos d, h1 (by omega), h2 (by omega), if_pos ⟨by omega, d.2⟩]
  rw [if_neg c3] at hk
  rw [if_neg c3, if_neg c3]
  by_cases c4 : 225 ≤ b0 ∧ b0 ≤ 239
  · rw [if_pos c4] at hk
    rw [if_pos c4, if_pos c4]
    have d : 3 ≤ n ∧ 128 ≤ b1 ∧ b1 ≤ 191 ∧ 128 ≤ b2 ∧ b2 ≤ 191 := by
      by_cases d : 3 ≤ n ∧ 128 ≤ b1 ∧ b1 ≤ 191 ∧ 128 ≤ b2 ∧ b2 ≤ 191
      · exact d
      · rw [if_neg d] at hk; exact absurd rfl hk
    rw [if_pos d, h1 (by omega), h2 (by omega), if_pos ⟨by omega, d.2⟩]
  rw [if_neg c4] at hk
  rw [if_neg c4, if_neg c4]
  by_cases c5 : b0 = 240
  · rw [if_pos c5] at hk
    rw [if_pos c5, if_pos c5]
    have d : 4 ≤ n ∧ 144 ≤ b1 ∧ b1 ≤ 191 ∧ 128 ≤ b2 ∧ b2 ≤ 191 ∧ 128 ≤ b3 ∧ b3 ≤ 191 := by
      by_cases d : 4 ≤ n ∧ 144 ≤ b1 ∧ b1 ≤ 191 ∧ 128 ≤ b2 ∧ b2 ≤ 191 ∧ 128 ≤ b3 ∧ b3 ≤ 191
      · exact d
      · rw [if_neg d] at hk; exact absurd rfl hk
    rw [if_pos d, h1 (by omega), h2 (by omega), h3 (by omega), if_pos ⟨by omega, d.2⟩]
  rw [if_neg c5] at hk
  rw [if_neg c5, if_neg c5]
  by_cases c6 : 241 ≤ b0 ∧ b0 ≤ 243
  · rw [if_pos c6] at hk
    rw [if_pos c6, if_pos c6]
    have d : 4 ≤ n ∧ 128 ≤ b1 ∧ b1 ≤ 191 ∧ 128 ≤ b2 ∧ b2 ≤ 191 ∧ 128 ≤ b3 ∧ b3 ≤ 191 := by
      by_cases d : 4 ≤ n ∧ 128 ≤ b1 ∧ b1 ≤ 191 ∧ 128 ≤ b2 ∧ b2 ≤ 191 ∧ 128 ≤ b3 ∧ b3 ≤ 191
      · exact d
      · rw [if_neg d] at hk; exact absurd rfl hk
    rw [if_pos d, h1 (by omega), h2 (by omega), h3 (by omega), if_pos ⟨by omega, d.2⟩]
  rw [if_neg c6] at hk
  rw [if_neg c6, if_neg c6]
  by_cases c7 : b0 = 244
  · rw [if_pos c7] at hk
    rw [if_pos c7, if_pos c7]
    have d : 4 ≤ n ∧ 128 ≤ b1 ∧ b1 ≤ 143 ∧ 128 ≤ b2 ∧ b2 ≤ 191 ∧ 128 ≤ b3 ∧ b3 ≤ 191 := by
      by_cases d : 4 ≤ n ∧ 128 ≤ b1 ∧ b1 ≤ 143 ∧ 128 ≤ b2 ∧ b2 ≤ 191 ∧ 128 ≤ b3 ∧ b3 ≤ 191
      · exact d
      · rw [if_neg d] at hk; exact absurd rfl hk
    rw [if_pos d, h1 (by omega), h2 (by omega), h3 (by omega), if_pos ⟨by omega, d.2⟩]
  rw [if_neg c7] at hk
  rw [if_neg c7, if_neg c7]

theorem charLen_append (a b : ByteArray) (h : charOk a = true) : charLen (a ++ b).data.toList = charLen a.data.toList := by
  have h0 : charLen a.data.toList ≠ 0 := by unfold charOk at h; simpa using h
  have hl : (a ++ b).data.toList = a.data.toList ++ b.data.toList := by simp
  rw [charLen_N] at h0
  rw [hl, charLen_N, charLen_N, List.length_append]
  have hg : ∀ j, j < a.data.toList.length → (a.data.toList ++ b.data.toList).getD j 0 = a.data.toList.getD j 0 := by
    intro j hj
    rw [List.getD_eq_getElem?_getD, List.getD_eq_getElem?_getD, List.getElem?_append_left hj]
  have hp : 0 < a.data.toList.length := by
    rcases Nat.eq_zero_or_pos a.data.toList.length with e | e
    · rw [e] at h0; exact absurd rfl h0
    · exact e
  rw [hg 0 hp]
  exact lenN_more _ _ _ _ _ _ _ _ _ h0 (fun e => by rw [hg 1 e]) (fun e => by rw [hg 2 e]) (fun e => by rw [hg 3 e])

theorem charStr_append (a b : ByteArray) (h : charOk a = true) : charStr (a ++ b) = charStr a ∧ charOk (a ++ b) = true := by
  have hl := charLen_append a b h
  have h0 : charLen a.data.toList ≠ 0 := by unfold charOk at h; simpa using h
  have hle := charLen_le a
  refine ⟨?_, by unfold charOk; rw [hl]; exact h⟩
  unfold charStr
  rw [hl, if_neg h0]
  apply ByteArray.ext
  apply Array.ext'
  simp only [ByteArray.data_extract, ByteArray.data_append, Array.toList_extract, Array.toList_append, List.extract_eq_take_drop, List.drop_zero, Nat.sub_zero]
  rw [List.take_append_of_le_length (by rw [len_data]; exact hle)]

theorem charsF_append (f g : Nat) (a b : ByteArray) (la lb : List ByteArray) (ha : charsF f a = some la) (hb : charsF g b = some lb) : ∃ h, charsF h (a ++ b) = some (la ++ lb) := by
  induction f generalizing a la with
  | zero => simp [charsF] at ha
  | succ f ih =>
    rw [charsF] at ha
    by_cases h0 : a.size = 0
    · rw [if_pos h0] at ha
      simp at ha; subst ha
      have : a ++ b = b := by
        have e : a = ByteArray.empty := by simpa using h0
        rw [e]; simp
      rw [this]
      exact ⟨g, by simpa using hb⟩
    · rw [if_neg h0] at ha
      cases ho : charOk a with
      | false => rw [if_pos ho] at ha; simp at ha
      | true =>
        rw [if_neg (by rw [ho]; decide)] at ha
        obtain ⟨r, hr, rfl⟩ := Option.map_eq_some_iff.1 ha
        obtain ⟨hs, hok⟩ := charStr_append a b ho
        have hz := charStr_size a (by omega)
        obtain ⟨h, hh⟩ := ih _ r hr
        refine ⟨h + 1, ?_⟩
        rw [charsF, if_neg (by rw [ByteArray.size_append]; omega), if_neg (by rw [hok]; decide), hs, ext_append_left a b _ hz.2, hh]
        rfl

theorem charsF_more (f : Nat) (s : ByteArray) (l : List ByteArray) (h : charsF f s = some l) (g : Nat) (hg : s.size < g) : charsF g s = some l := by
  induction f generalizing s l g with
  | zero => simp [charsF] at h
  | succ f ih =>
    obtain ⟨g', rfl⟩ : ∃ g', g = g' + 1 := ⟨g - 1, by omega⟩
    rw [charsF] at h ⊢
    by_cases h0 : s.size = 0
    · rw [if_pos h0] at h ⊢; exact h
    · rw [if_neg h0] at h ⊢
      cases ho : charOk s with
      | false => rw [if_pos ho] at h; simp at h
      | true =>
        rw [if_neg (by simp [ho])] at h ⊢
        obtain ⟨r, hr, rfl⟩ := Option.map_eq_some_iff.1 h
        have hz := charStr_size s (by omega)
        rw [ih _ r hr g' (by rw [ByteArray.size_extract]; omega)]
        rfl

theorem chars_append (a b : ByteArray) (la lb : List ByteArray) (ha : chars a = some la) (hb : chars b = some lb) : chars (a ++ b) = some (la ++ lb) := by
  obtain ⟨h, hh⟩ := charsF_append _ _ a b la lb ha hb
  exact charsF_more h _ _ hh _ (by omega)

end Pg
end Go.Proofs.YtdakgnaojakldaaDoor
