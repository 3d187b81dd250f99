/- Plain mathematics: the reference's table of parts and characters, against the program's row of signs. No program in it. -/
import Derived.Test.YtdakgnaojakldaaDoorPgMath5
import Derived.Test.YtdakgnaojakldaaDoorPgMath4
namespace Go.Proofs.YtdakgnaojakldaaDoor
namespace Pg
open Ref

theorem gl_append (a b w : List Int) : Gl (a ++ b) w ↔ ∃ j, j ≤ w.length ∧ Gl a (w.take j) ∧ Gl b (w.drop j) := by
  induction a generalizing w with
  | nil =>
    constructor
    · intro h; exact ⟨0, by omega, by simpa using Gl.nil, by simpa using h⟩
    · rintro ⟨j, hj, h1, h2⟩
      rw [gl_nil] at h1
      have : w.drop j = w := by
        rcases List.take_eq_nil_iff.1 h1 with rfl | rfl
        · simp
        · simp
      rw [this] at h2
      exact h2
  | cons s a ih =>
    by_cases hs : s = -2
    · subst hs
      rw [List.cons_append, gl_star]
      constructor
      · rintro ⟨i, hi, hg⟩
        obtain ⟨j, hj, h1, h2⟩ := (ih _).1 hg
        rw [List.length_drop] at hj
        refine ⟨i + j, by omega, (gl_star _ _).2 ⟨i, by simp; omega, ?_⟩, by rw [List.drop_drop] at h2; exact h2⟩
        rw [List.drop_take, show i + j - i = j by omega]; exact h1
      · rintro ⟨m, hm, h1, h2⟩
        obtain ⟨i, hi, hg⟩ := (gl_star _ _).1 h1
        simp at hi
        refine ⟨i, by omega, (ih _).2 ⟨m - i, by simp; omega, ?_, ?_⟩⟩
        · rw [List.drop_take] at hg; exact hg
        · rw [List.drop_drop, show i + (m - i) = m by omega]; exact h2
    · rw [List.cons_append, gl_lit _ _ _ hs]
      constructor
      · rintro ⟨c, w', rfl, hc, hg⟩
        obtain ⟨j, hj, h1, h2⟩ := (ih _).1 hg
        exact ⟨j + 1, by simp; omega, .one hs hc (by simpa using h1), by simpa using h2⟩
      · rintro ⟨j, hj, h1, h2⟩
        obtain ⟨c, w', hw, hc, hg⟩ := (gl_lit _ _ _ hs).1 h1
        cases w with
        | nil => simp at hw
        | cons x w =>
          cases j with
          | zero => simp at hw
          | succ j =>
            simp at hw
            obtain ⟨rfl, rfl⟩ := hw
            exact ⟨x, w, rfl, hc, (ih _).2 ⟨j, by simpa using hj, hg, by simpa using h2⟩⟩

theorem gl_any (w : List Int) : Gl [-2] w := (gl_star _ _).2 ⟨w.length, Nat.le_refl _, by rw [List.drop_length]; exact .nil⟩

theorem gl_snoc_star (a w : List Int) : Gl (a ++ [-2]) w ↔ ∃ j, j ≤ w.length ∧ Gl a (w.take j) := by
  rw [gl_append]
  constructor
  · rintro ⟨j, h1, h2, _⟩; exact ⟨j, h1, h2⟩
  · rintro ⟨j, h1, h2⟩; exact ⟨j, h1, h2, gl_any _⟩

theorem gl_single (s : Int) (hs : s ≠ -2) (v : List Int) : Gl [s] v ↔ ∃ c, v = [c] ∧ (s = -1 ∨ s = c) := by
  rw [gl_lit _ _ _ hs]
  constructor
  · rintro ⟨c, w', rfl, hc, hg⟩
    rw [gl_nil] at hg
    subst hg
    exact ⟨c, rfl, hc⟩
  · rintro ⟨c, rfl, hc⟩; exact ⟨c, [], rfl, hc, .nil⟩

theorem gl_snoc (a u : List Int) (s c : Int) (hs : s ≠ -2) : Gl (a ++ [s]) (u ++ [c]) ↔ (s = -1 ∨ s = c) ∧ Gl a u := by
  rw [gl_append]
  constructor
  · rintro ⟨j, hj, h1, h2⟩
    obtain ⟨d, hd, hc⟩ := (gl_single s hs _).1 h2
    have hl := congrArg List.length hd
    simp at hl hj
    have hju : j = u.length := by omega
    subst hju
    rw [List.drop_left] at hd
    rw [List.take_left] at h1
    simp at hd
    subst hd
    exact ⟨hc, h1⟩
  · rintro ⟨hc, hg⟩
    exact ⟨u.length, by simp, by rw [List.take_left]; exact hg, by rw [List.drop_left]; exact (gl_single s hs _).2 ⟨c, rfl, hc⟩⟩

theorem gl_snoc_nil (a : List Int) (s : Int) (hs : s ≠ -2) : ¬ Gl (a ++ [s]) [] := by
  intro h
  obtain ⟨j, hj, h1, h2⟩ := (gl_append _ _ _).1 h
  obtain ⟨c, hc, _⟩ := (gl_single s hs _).1 h2
  simp at hc

def rI (c : ByteArray) : Int := ((runeOf c : Nat) : Int)

/-- A part that is laid out. -/
def okPart (p : Int × ByteArray) : Prop := p.1 = 3 ∨ p.1 = 2 ∨ (p.1 = 1 ∧ IsChar p.2)

theorem take_map_snoc (cs : List ByteArray) (m : Nat) (h : m < cs.length) : (cs.take (m + 1)).map rI = (cs.take m).map rI ++ [rI cs[m]] := by
  rw [List.take_succ_eq_append_getElem h, List.map_append]; rfl

theorem covR_gl (cs : List ByteArray) (hcs : ∀ c ∈ cs, IsChar c) (ps : List (Int × ByteArray)) (hps : ∀ p ∈ ps, okPart p) (k : Nat) (hk : k ≤ cs.length) :
    covR cs ps k = true ↔ Gl (ps.reverse.map signOf) ((cs.take k).map rI) := by
  induction ps generalizing k with
  | nil =>
    simp only [covR, List.reverse_nil, List.map_nil, gl_nil, beq_iff_eq, List.map_eq_nil_iff, List.take_eq_nil_iff]
    constructor
    · intro h; exact .inl h
    · rintro (h | h)
      · exact h
      · subst h; simpa using hk
  | cons p ps ih =>
    have ih' := fun k hk => ih (fun q hq => hps q (by simp [hq])) k hk
    rw [List.reverse_cons, List.map_append]
    simp only [List.map_cons, List.map_nil]
    by_cases h3 : p.1 = 3
    · have hs : signOf p = -2 := by unfold signOf; rw [if_pos h3]
      rw [hs, gl_snoc_star]
      simp only [covR, h3, if_true, List.any_eq_true, List.mem_range]
      constructor
      · rintro ⟨j, hj, hc⟩
        refine ⟨j, by simp; omega, ?_⟩
        rw [← List.map_take, List.take_take, show min j k = j by omega]
        exact (ih' j (by omega)).1 hc
      · rintro ⟨j, hj, hg⟩
        simp at hj
        refine ⟨j, by omega, (ih' j (by omega)).2 ?_⟩
        rw [← List.map_take, List.take_take, show min j k = j by omega] at hg
        exact hg
    · have hns : signOf p ≠ -2 := by
        unfold signOf
        rw [if_neg h3]
        split
        · decide
        · split
          · decide
          · omega
      cases k with
      | zero =>
        rw [covR_zero cs p ps h3]
        simp only [List.take_zero, List.map_nil]
        constructor
        · intro h; cases h
        · intro h; exact absurd h (gl_snoc_nil _ _ hns)
      | succ m =>
        rw [take_map_snoc cs m (by omega), gl_snoc _ _ _ _ hns]
        by_cases h2 : p.1 = 2
        · rw [covR_any cs p ps h2 (m + 1) (by omega), show m + 1 - 1 = m by omega, ih' m (by omega)]
          have : signOf p = -1 := by unfold signOf; rw [if_neg h3, if_pos h2]
          rw [this]; simp
        · have h1 : p.1 = 1 ∧ IsChar p.2 := by
            rcases hps p (by simp) with h | h | h
            · exact absurd h h3
            · exact absurd h h2
            · exact h
          have hs : signOf p = rI p.2 := by unfold signOf; rw [if_neg h3, if_neg h2, if_neg (by omega)]; rfl
          rw [covR_lit cs p ps h3 h2 (m + 1) (by omega) (by omega), hs, Bool.and_eq_true]
          simp only [Nat.add_sub_cancel]
          rw [ih' m (by omega), rune_eq p.2 cs[m] h1.2 (hcs _ (List.getElem_mem _)), decide_eq_true_eq]
          unfold rI
          constructor
          · rintro ⟨g1, g2⟩; exact ⟨.inr (by rw [g2]), g1⟩
          · rintro ⟨g1 | g1, g2⟩
            · omega
            · exact ⟨g2, by omega⟩

theorem covers_gl (cs : List ByteArray) (hcs : ∀ c ∈ cs, IsChar c) (ps : List (Int × ByteArray)) (hps : ∀ p ∈ ps, okPart p) : covers ps cs = true ↔ Gl (ps.map signOf) (cs.map rI) := by
  unfold covers
  rw [covR_gl cs hcs ps.reverse (fun p hp => hps p (List.mem_reverse.1 hp)) cs.length (Nat.le_refl _), List.reverse_reverse, List.take_length]

/-- The parts of a pattern: what stands for itself is a character, a variable has a name. -/
def okRead (p : Int × ByteArray) : Prop := okPart p ∨ (p.1 = 4 ∧ isName p.2 = true)

theorem isChar_byte (s : ByteArray) (k : Nat) (hk : k < s.size) (h : (s.data.toList.getD k 0).toNat < 128) : IsChar (s.extract k (k + 1)) := by
  have hk' : k < s.data.toList.length := by rw [len_data]; exact hk
  refine ⟨(s.data.toList.getD k 0).toNat, by omega, ?_⟩
  unfold nums
  have : (s.extract k (k + 1)).data.toList = [s.data.toList.getD k 0] := by
    rw [ByteArray.data_extract, Array.toList_extract, List.getD_eq_getElem?_getD, List.getElem?_eq_getElem hk']
    simp only [List.extract_eq_take_drop, Option.getD_some]
    rw [List.drop_eq_getElem_cons hk']
    simp
  rw [this]
  unfold encN
  rw [if_pos h]; rfl

theorem dollarP_ok (s : ByteArray) (h : (dollarP s).2.2 ≠ 0) : okRead ((dollarP s).1, (dollarP s).2.1) := by
  unfold dollarP at h ⊢
  split at h
  · exact absurd rfl h
  rename_i h2
  rw [if_neg h2]
  split at h
  · rename_i h3
    rw [if_pos h3]
    exact .inl (.inr (.inr ⟨rfl, isChar_byte s 1 (by omega) (by omega)⟩))
  rename_i h3
  rw [if_neg h3]
  split at h
  · rename_i h4
    rw [if_pos h4]
    split at h
    · rename_i h5
      rw [if_pos h5]
      split at h
      · rename_i h6
        rw [if_pos h6]
        exact .inr ⟨rfl, h6⟩
      · exact absurd rfl h
    · exact absurd rfl h
  · exact absurd rfl h

theorem partStep_ok (s : ByteArray) (hp : 0 < s.size) (k : Int) (t : ByteArray) (n : Nat) (h : partStep s = some (k, t, n)) : okRead (k, t) := by
  unfold partStep at h
  split at h
  · simp at h
  rename_i ho
  split at h
  · simp at h; obtain ⟨rfl, rfl, rfl⟩ := h; exact .inl (.inl rfl)
  split at h
  · simp at h; obtain ⟨rfl, rfl, rfl⟩ := h; exact .inl (.inr (.inl rfl))
  split at h
  · split at h
    · simp at h
    · rename_i hn
      have := dollarP_ok s hn
      simp at h
      rw [h] at this
      exact this
  · simp at h
    obtain ⟨rfl, rfl, rfl⟩ := h
    rcases dec_char s hp with ⟨ho2, _⟩ | ⟨_, hc, _⟩
    · exact absurd ho2 ho
    · exact .inl (.inr (.inr ⟨rfl, hc⟩))

theorem partsF_ok (f : Nat) (s : ByteArray) (l : List (Int × ByteArray)) (h : partsF f s = some l) : ∀ p ∈ l, okRead p := by
  induction f generalizing s l with
  | zero => simp [partsF] at h
  | succ f ih =>
    rw [partsF] at h
    split at h
    · simp at h; subst h; simp
    rename_i hz
    split at h
    · simp at h
    · rename_i k t n hs
      obtain ⟨r, hr, rfl⟩ := Option.map_eq_some_iff.1 h
      intro p hp
      rcases List.mem_cons.1 hp with rfl | hp
      · exact partStep_ok s (by omega) k t n hs
      · exact ih _ _ hr p hp

theorem parts_ok (s : ByteArray) : ∀ p ∈ (parts s).getD [], okRead p := by
  cases h : parts s with
  | none => simp
  | some l =>
    unfold parts at h
    split at h
    · simp at h
    · exact partsF_ok _ _ _ h

theorem laid_ok (r : Req) (ps : List (Int × ByteArray)) (hps : ∀ p ∈ ps, okRead p) (q : List (Int × ByteArray)) (h : laid r ps = some q) : ∀ p ∈ q, okPart p := by
  induction ps generalizing q with
  | nil => simp [laid] at h; subst h; simp
  | cons p ps ih =>
    rw [laid] at h
    split at h
    · simp at h
    · rename_i a ha
      obtain ⟨b, hb, rfl⟩ := Option.map_eq_some_iff.1 h
      intro x hx
      rcases List.mem_append.1 hx with hx | hx
      · unfold laidOne at ha
        split at ha
        · obtain ⟨v, hv, rfl⟩ := Option.map_eq_some_iff.1 ha
          obtain ⟨c, hc, rfl⟩ := List.mem_map.1 hx
          exact .inr (.inr ⟨rfl, chars_isChar v c hc⟩)
        · rename_i h4
          simp at ha
          subst ha
          simp at hx
          subst hx
          rcases hps x (by simp) with h | ⟨h, _⟩
          · exact h
          · exact absurd h h4
      · exact ih (fun p hp => hps p (by simp [hp])) b hb x hx

theorem name_ne (s : ByteArray) (h : isName s = true) : (s.toList == []) = false := by
  unfold isName at h
  simp at h
  rw [beq_eq_false_iff_ne, Lib.toList_data]
  intro e
  have := len_data s
  rw [e] at this
  simp at this
  omega

end Pg
end Go.Proofs.YtdakgnaojakldaaDoor
