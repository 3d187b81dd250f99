/- Plain mathematics: the characters of a word, as the library reads them. No program in it. -/
import Derived.Test.YtdakgnaojakldaaDoorPgMath2
import Derived.Lib.ValidLaws
import Derived.Laws.IdiomStrings
namespace Go.Proofs.YtdakgnaojakldaaDoor
namespace Pg
open Ref

theorem mk_list (s : ByteArray) : (⟨s.data.toList.toArray⟩ : ByteArray) = s := rfl

theorem valid_chars (f : Nat) (s : ByteArray) (h : s.size < f) : (charsF f s).isSome = Lib.validD s.data.toList := by
  induction f generalizing s with
  | zero => omega
  | succ f ih =>
    rw [charsF]
    by_cases h0 : s.size = 0
    · rw [if_pos h0]
      have : s.data.toList = [] := List.eq_nil_of_length_eq_zero (by rw [len_data]; exact h0)
      rw [this]; rfl
    · rw [if_neg h0]
      have hne : s.data.toList ≠ [] := fun e => h0 (by rw [← len_data, e]; rfl)
      rw [Lib.validD_step _ hne]
      have hd : Lib.decodeL s.data.toList = Utf8.decode s 0 := rfl
      rw [hd]
      rcases dec_char s (by omega) with ⟨ho, e⟩ | ⟨ho, hc, e, hn⟩
      · rw [if_pos ho, e]; simp
      · rw [e, if_neg hn, if_neg (by rw [ho]; decide), Option.isSome_map]
        have hz := charStr_size s (by omega)
        rw [ih _ (by rw [ByteArray.size_extract]; omega), Lib.ext_list]

theorem chars_valid (s : ByteArray) : Lib.validD s.data.toList = (chars s).isSome := (valid_chars _ s (by omega)).symm

theorem charsF_isChar (f : Nat) (s : ByteArray) (l : List ByteArray) (h : charsF f s = some l) : ∀ c ∈ l, IsChar c := by
  induction f generalizing s l with
  | zero => simp [charsF] at h
  | succ f ih =>
    rw [charsF] at h
    by_cases h0 : s.size = 0
    · rw [if_pos h0] at h; simp at h; subst h; simp
    · rw [if_neg h0] at h
      rcases dec_char s (by omega) with ⟨ho, e⟩ | ⟨ho, hc, e, hn⟩
      · rw [if_pos ho] at h; simp at h
      · rw [if_neg (by rw [ho]; decide)] at h
        obtain ⟨r, hr, rfl⟩ := Option.map_eq_some_iff.1 h
        intro c hcm
        rcases List.mem_cons.1 hcm with rfl | hcm
        · exact hc
        · exact ih _ _ hr c hcm

theorem chars_isChar (s : ByteArray) : ∀ c ∈ (chars s).getD [], IsChar c := by
  cases h : chars s with
  | none => simp
  | some l => exact charsF_isChar _ _ _ h

theorem decode_ext (s : ByteArray) (i : Nat) : Utf8.decode s i = Utf8.decode (s.extract i s.size) 0 := by
  rw [Lib.decode_at, Lib.decode_at]
  simp only [get_getD, Lib.ext_list, Nat.sub_zero, Nat.zero_add, ByteArray.size_extract, Nat.min_self]
  have e : ∀ j, (s.data.toList.drop i).getD j 0 = s.data.toList.getD (i + j) 0 := by
    intro j; simp [List.getD]
  simp only [e, Nat.add_zero]

def runeV (c : ByteArray) : Value := .int .i32 ((runeOf c : Nat) : Int)

theorem runes_from (f bound i : Nat) (s : ByteArray) (acc : Array Value) (l : List ByteArray) (hf : charsF f (s.extract i s.size) = some l) (hb : s.size - i ≤ bound) :
    Conv.runesFrom s bound i acc = acc ++ (l.map runeV).toArray := by
  induction f generalizing bound i acc l with
  | zero => simp [charsF] at hf
  | succ f ih =>
    rw [charsF] at hf
    have hz : (s.extract i s.size).size = s.size - i := by rw [ByteArray.size_extract]; omega
    by_cases h0 : s.size - i = 0
    · rw [if_pos (by rw [hz]; exact h0)] at hf
      simp at hf; subst hf
      cases bound with
      | zero => simp [Conv.runesFrom]
      | succ b => unfold Conv.runesFrom; rw [if_neg (by omega)]; simp
    · rw [if_neg (by rw [hz]; exact h0)] at hf
      rcases dec_char (s.extract i s.size) (by omega) with ⟨ho, e⟩ | ⟨ho, hc, e, hn⟩
      · rw [if_pos ho] at hf; simp at hf
      · rw [if_neg (by rw [ho]; decide)] at hf
        obtain ⟨r, hr, rfl⟩ := Option.map_eq_some_iff.1 hf
        have hcz := charStr_size (s.extract i s.size) (by omega)
        obtain ⟨b, rfl⟩ : ∃ b, bound = b + 1 := ⟨bound - 1, by omega⟩
        unfold Conv.runesFrom
        rw [if_pos (by omega), decode_ext, e]
        have hx : (s.extract i s.size).extract (charStr (s.extract i s.size)).size (s.extract i s.size).size = s.extract (i + (charStr (s.extract i s.size)).size) s.size := by
          rw [ByteArray.extract_extract, hz]
          have e : min (i + (s.size - i)) s.size = s.size := by omega
          rw [e]
        rw [hx] at hr
        simp only
        rw [ih b (i + (charStr (s.extract i s.size)).size) _ r hr (by omega)]
        rw [Array.push_eq_append, Array.append_assoc]
        congr 1
        simp [runeV]

theorem runes_all (s : ByteArray) (h : (chars s).isSome = true) : Conv.runesFrom s s.size 0 #[] = (((chars s).getD []).map runeV).toArray := by
  obtain ⟨l, hl⟩ := Option.isSome_iff_exists.1 h
  rw [hl]
  have e : s.extract 0 s.size = s := by simp
  have := runes_from (s.size + 1) s.size 0 s #[] l (by rw [e]; exact hl) (by omega)
  rw [this]; simp

end Pg
end Go.Proofs.YtdakgnaojakldaaDoor
