/- Plain mathematics: which words a row of signs takes; that letting only the last star take more is enough. No program in it. -/
import Derived.Test.YtdakgnaojakldaaDoorPgMath3
namespace Go.Proofs.YtdakgnaojakldaaDoor
namespace Pg
open Ref

/-- A row of signs takes a row of characters: -2 takes any, -1 any single one, others themselves. -/
inductive Gl : List Int → List Int → Prop
  | nil : Gl [] []
  | skip {ss w : List Int} : Gl ss w → Gl (-2 :: ss) w
  | more {ss w : List Int} {c : Int} : Gl (-2 :: ss) w → Gl (-2 :: ss) (c :: w)
  | one {s c : Int} {ss w : List Int} : s ≠ -2 → (s = -1 ∨ s = c) → Gl ss w → Gl (s :: ss) (c :: w)

theorem gl_nil (w : List Int) : Gl [] w ↔ w = [] := by
  constructor
  · intro h; cases h; rfl
  · rintro rfl; exact .nil

theorem gl_lit (s : Int) (ss w : List Int) (hs : s ≠ -2) : Gl (s :: ss) w ↔ ∃ c w', w = c :: w' ∧ (s = -1 ∨ s = c) ∧ Gl ss w' := by
  constructor
  · intro h
    cases h with
    | skip h => exact absurd rfl hs
    | more h => exact absurd rfl hs
    | one h1 h2 h3 => exact ⟨_, _, rfl, h2, h3⟩
  · rintro ⟨c, w', rfl, h2, h3⟩; exact .one hs h2 h3

theorem gl_star_mp {S w : List Int} (h : Gl S w) : ∀ ss, S = -2 :: ss → ∃ i, i ≤ w.length ∧ Gl ss (w.drop i) := by
  induction h with
  | nil => intro ss e; cases e
  | skip h _ => intro ss e; cases e; exact ⟨0, by omega, by simpa using h⟩
  | more h ih =>
    intro ss e
    cases e
    obtain ⟨i, hi, hg⟩ := ih _ rfl
    exact ⟨i + 1, by simp; omega, by simpa using hg⟩
  | one h1 _ _ _ => intro ss e; cases e; exact absurd rfl h1

theorem gl_star (ss w : List Int) : Gl (-2 :: ss) w ↔ ∃ i, i ≤ w.length ∧ Gl ss (w.drop i) := by
  constructor
  · intro h; exact gl_star_mp h ss rfl
  · rintro ⟨i, hi, hg⟩
    induction i generalizing w with
    | zero => exact .skip (by simpa using hg)
    | succ i ih =>
      cases w with
      | nil => simp at hi
      | cons c w => exact .more (ih w (by simpa using hi) (by simpa using hg))

/-- A row of signs without a star takes just so many characters. -/
inductive Seg : List Int → List Int → Prop
  | nil : Seg [] []
  | cons {s c : Int} {ss w : List Int} : s ≠ -2 → (s = -1 ∨ s = c) → Seg ss w → Seg (s :: ss) (c :: w)

theorem seg_len {a w : List Int} (h : Seg a w) : a.length = w.length := by
  induction h with
  | nil => rfl
  | cons _ _ _ ih => simp [ih]

theorem seg_snoc {a w : List Int} (h : Seg a w) (s c : Int) (hs : s ≠ -2) (hc : s = -1 ∨ s = c) : Seg (a ++ [s]) (w ++ [c]) := by
  induction h with
  | nil => exact .cons hs hc .nil
  | cons h1 h2 _ ih => exact .cons h1 h2 ih

def noStar (a : List Int) : Prop := ∀ s ∈ a, s ≠ -2

theorem seg_noStar {a w : List Int} (h : Seg a w) : noStar a := by
  induction h with
  | nil => intro s hs; cases hs
  | cons h1 _ _ ih =>
    intro s hs
    rcases List.mem_cons.1 hs with rfl | hs
    · exact h1
    · exact ih s hs

theorem seg_gl {a w : List Int} (h : Seg a w) (r v : List Int) (hr : Gl r v) : Gl (a ++ r) (w ++ v) := by
  induction h with
  | nil => exact hr
  | cons h1 h2 _ ih => exact .one h1 h2 ih

theorem gl_seg (a r w : List Int) (ha : noStar a) (h : Gl (a ++ r) w) : a.length ≤ w.length ∧ Gl r (w.drop a.length) := by
  induction a generalizing w with
  | nil => exact ⟨by simp, by simpa using h⟩
  | cons s a ih =>
    obtain ⟨c, w', rfl, _, h3⟩ := (gl_lit s (a ++ r) w (ha s (by simp))).1 h
    obtain ⟨h4, h5⟩ := ih w' (fun s hs => ha s (by simp [hs])) h3
    exact ⟨by simp; omega, by simpa using h5⟩

/-- Where the program stands: at the sign at, the character here; bs: behind the last star (0: none was met); tk: what it has taken. -/
def St (S W : List Int) (a bs tk here : Nat) : Prop :=
  a ≤ S.length ∧ here ≤ W.length ∧ tk ≤ here ∧ bs ≤ a ∧
  ((bs = 0 ∧ tk = 0 ∧ (Gl S W ↔ Gl (S.drop a) (W.drop here))) ∨
   (0 < bs ∧ here = tk + (a - bs) ∧ (Gl S W ↔ Gl (-2 :: S.drop bs) (W.drop tk)) ∧ Seg ((S.drop bs).take (a - bs)) ((W.drop tk).take (a - bs))))

theorem st_init (S W : List Int) : St S W 0 0 0 0 := ⟨by omega, by omega, by omega, by omega, .inl ⟨rfl, rfl, by simp⟩⟩

theorem drop_at (S : List Int) (a : Nat) (h : a < S.length) : S.drop a = S.getD a 0 :: S.drop (a + 1) := by
  rw [List.drop_eq_getElem_cons h, List.getD_eq_getElem?_getD, List.getElem?_eq_getElem h]; rfl

theorem drop_split (S : List Int) (b a : Nat) (h : b ≤ a) : S.drop b = (S.drop b).take (a - b) ++ S.drop a := by
  have e := List.take_append_drop (a - b) (S.drop b)
  rw [List.drop_drop, show b + (a - b) = a by omega] at e
  exact e.symm

/-- From a star on, what stands between may be taken as early as it was. -/
theorem star_seg (S W : List Int) (a bs tk here : Nat) (hba : bs ≤ a) (hh : here = tk + (a - bs)) (hW : here ≤ W.length) (hseg : Seg ((S.drop bs).take (a - bs)) ((W.drop tk).take (a - bs))) (haS : a ≤ S.length) :
    (Gl (-2 :: S.drop bs) (W.drop tk) ↔ ∃ j, here ≤ j ∧ j ≤ W.length ∧ (∃ i, tk ≤ i ∧ j = i + (a - bs) ∧ Gl (S.drop bs) (W.drop i)) ∧ Gl (S.drop a) (W.drop j)) := by
  have hn := seg_noStar hseg
  have hl : ((S.drop bs).take (a - bs)).length = a - bs := by simp; omega
  constructor
  · intro h
    obtain ⟨i, hi, hg⟩ := (gl_star _ _).1 h
    rw [List.drop_drop] at hg
    have hg2 := hg
    rw [drop_split S bs a hba] at hg2
    obtain ⟨h1, h2⟩ := gl_seg _ _ _ hn hg2
    rw [hl] at h1 h2
    rw [List.drop_drop] at h2
    simp at hi h1
    exact ⟨tk + i + (a - bs), by omega, by omega, ⟨tk + i, by omega, rfl, hg⟩, h2⟩
  · rintro ⟨j, h1, h2, ⟨i, h3, h4, h5⟩, _⟩
    refine (gl_star _ _).2 ⟨i - tk, by simp; omega, ?_⟩
    rw [List.drop_drop, show tk + (i - tk) = i by omega]
    exact h5

theorem star_more (ss W : List Int) (j h : Nat) (hj : h ≤ j) (hW : j ≤ W.length) (hg : Gl (-2 :: ss) (W.drop j)) : Gl (-2 :: ss) (W.drop h) := by
  obtain ⟨i, hi, hg⟩ := (gl_star _ _).1 hg
  refine (gl_star _ _).2 ⟨i + (j - h), by simp at hi ⊢; omega, ?_⟩
  rw [List.drop_drop] at hg ⊢
  rw [show h + (i + (j - h)) = j + i by omega]; exact hg

theorem seg_back (S W : List Int) (a bs tk here : Nat) (hba : bs ≤ a) (hh : here = tk + (a - bs)) (hseg : Seg ((S.drop bs).take (a - bs)) ((W.drop tk).take (a - bs)))
    (hg : Gl (S.drop a) (W.drop here)) : Gl (S.drop bs) (W.drop tk) := by
  have h2 := seg_gl hseg _ _ hg
  rw [← drop_split S bs a hba] at h2
  have e : (W.drop tk).take (a - bs) ++ W.drop here = W.drop tk := by
    have e := List.take_append_drop (a - bs) (W.drop tk)
    rw [List.drop_drop, ← hh] at e; exact e
  rwa [e] at h2

theorem st_star (S W : List Int) (a bs tk here : Nat) (h : St S W a bs tk here) (ha : a < S.length) (e : S.getD a 0 = -2) : St S W (a + 1) (a + 1) here here := by
  obtain ⟨h1, h2, h3, h4, h5⟩ := h
  refine ⟨by omega, h2, Nat.le_refl _, Nat.le_refl _, .inr ⟨by omega, by omega, ?_, by simp; exact .nil⟩⟩
  have hd := drop_at S a ha
  rw [e] at hd
  rw [← hd]
  rcases h5 with ⟨_, _, h6⟩ | ⟨_, hh, h6, hseg⟩
  · exact h6
  · rw [h6, star_seg S W a bs tk here h4 hh h2 hseg h1]
    constructor
    · rintro ⟨j, g1, g2, _, g4⟩
      rw [hd] at g4 ⊢
      exact star_more _ W j here g1 g2 g4
    · intro hg
      exact ⟨here, Nat.le_refl _, h2, ⟨tk, Nat.le_refl _, hh, seg_back S W a bs tk here h4 hh hseg hg⟩, hg⟩

theorem st_take (S W : List Int) (a bs tk here : Nat) (h : St S W a bs tk here) (ha : a < S.length) (hh : here < W.length) (e : S.getD a 0 ≠ -2) (et : S.getD a 0 = -1 ∨ S.getD a 0 = W.getD here 0) :
    St S W (a + 1) bs tk (here + 1) := by
  obtain ⟨h1, h2, h3, h4, h5⟩ := h
  refine ⟨by omega, by omega, by omega, by omega, ?_⟩
  rcases h5 with ⟨h6, h7, h8⟩ | ⟨h6, h7, h8, hseg⟩
  · refine .inl ⟨h6, h7, ?_⟩
    rw [h8, drop_at S a ha, drop_at W here hh, gl_lit _ _ _ e]
    constructor
    · rintro ⟨c, w', hw, _, hg⟩; cases hw; exact hg
    · intro hg; exact ⟨_, _, rfl, et, hg⟩
  · refine .inr ⟨h6, by omega, h8, ?_⟩
    have e1 : (S.drop bs).take (a + 1 - bs) = (S.drop bs).take (a - bs) ++ [S.getD a 0] := by
      rw [show a + 1 - bs = a - bs + 1 by omega, List.take_succ_eq_append_getElem (by simp; omega)]
      congr 1
      rw [List.getElem_drop, List.getD_eq_getElem?_getD, List.getElem?_eq_getElem ha]
      simp [show bs + (a - bs) = a by omega]
    have e2 : (W.drop tk).take (a + 1 - bs) = (W.drop tk).take (a - bs) ++ [W.getD here 0] := by
      rw [show a + 1 - bs = a - bs + 1 by omega, List.take_succ_eq_append_getElem (by simp; omega)]
      congr 1
      rw [List.getElem_drop, List.getD_eq_getElem?_getD, List.getElem?_eq_getElem hh]
      simp [show tk + (a - bs) = here by omega]
    rw [e1, e2]
    exact seg_snoc hseg _ _ e et

/-- Nothing goes on here. -/
def Bad (S W : List Int) (a here : Nat) : Prop := a < S.length → S.getD a 0 ≠ -2 ∧ ¬ (S.getD a 0 = -1 ∨ S.getD a 0 = W.getD here 0)

theorem bad_gl (S W : List Int) (a here : Nat) (hb : Bad S W a here) (hh : here < W.length) : ¬ Gl (S.drop a) (W.drop here) := by
  intro h
  by_cases ha : a < S.length
  · obtain ⟨b1, b2⟩ := hb ha
    rw [drop_at S a ha, drop_at W here hh, gl_lit _ _ _ b1] at h
    obtain ⟨c, w', hw, hc, _⟩ := h
    cases hw
    exact b2 hc
  · rw [List.drop_of_length_le (by omega), gl_nil] at h
    have := congrArg List.length h
    simp at this; omega

theorem st_back (S W : List Int) (a bs tk here : Nat) (h : St S W a bs tk here) (hb : Bad S W a here) (hh : here < W.length) (h0 : 0 < bs) : St S W bs bs (tk + 1) (tk + 1) := by
  obtain ⟨h1, h2, h3, h4, h5⟩ := h
  refine ⟨by omega, by omega, Nat.le_refl _, Nat.le_refl _, .inr ⟨h0, by omega, ?_, by simp; exact .nil⟩⟩
  rcases h5 with ⟨h6, _⟩ | ⟨_, h7, h8, hseg⟩
  · omega
  · rw [h8]
    constructor
    · intro hg
      rw [star_seg S W a bs tk here h4 h7 h2 hseg h1] at hg
      obtain ⟨j, g1, g2, ⟨i, g3, g4, g5⟩, g6⟩ := hg
      have : i ≠ tk := by
        rintro rfl
        have : j = here := by omega
        subst this
        exact bad_gl S W a j hb hh g6
      refine (gl_star _ _).2 ⟨i - (tk + 1), by simp; omega, ?_⟩
      rw [List.drop_drop, show tk + 1 + (i - (tk + 1)) = i by omega]
      exact g5
    · intro hg
      exact star_more _ W (tk + 1) tk (by omega) (by omega) hg

theorem st_fail (S W : List Int) (a tk here : Nat) (h : St S W a 0 tk here) (hb : Bad S W a here) (hh : here < W.length) : ¬ Gl S W := by
  obtain ⟨h1, h2, h3, h4, h5⟩ := h
  rcases h5 with ⟨_, _, h8⟩ | ⟨h6, _⟩
  · rw [h8]; exact bad_gl S W a here hb hh
  · omega

theorem gl_stars (S : List Int) : Gl S [] ↔ ∀ s ∈ S, s = -2 := by
  induction S with
  | nil => simp [gl_nil]
  | cons s S ih =>
    by_cases hs : s = -2
    · subst hs
      rw [gl_star]
      simp only [List.drop_nil, List.length_nil, List.mem_cons, forall_eq_or_imp, true_and]
      rw [← ih]
      constructor
      · rintro ⟨_, _, h⟩; exact h
      · intro h; exact ⟨0, Nat.le_refl _, h⟩
    · rw [gl_lit _ _ _ hs]
      constructor
      · rintro ⟨c, w', hw, _⟩; cases hw
      · intro h; exact absurd (h s (by simp)) hs

theorem st_end (S W : List Int) (a bs tk here : Nat) (h : St S W a bs tk here) (hh : ¬ here < W.length) : Gl S W ↔ ∀ s ∈ S.drop a, s = -2 := by
  obtain ⟨h1, h2, h3, h4, h5⟩ := h
  have he : here = W.length := by omega
  rw [← gl_stars]
  rcases h5 with ⟨_, _, h8⟩ | ⟨_, h7, h8, hseg⟩
  · rw [h8, he, List.drop_length]
  · rw [h8, star_seg S W a bs tk here h4 h7 h2 hseg h1]
    constructor
    · rintro ⟨j, g1, g2, _, g6⟩
      have : j = W.length := by omega
      rw [this, List.drop_length] at g6; exact g6
    · intro hg
      have hg' : Gl (S.drop a) (W.drop here) := by rw [he, List.drop_length]; exact hg
      exact ⟨here, Nat.le_refl _, h2, ⟨tk, Nat.le_refl _, h7, seg_back S W a bs tk here h4 h7 hseg hg'⟩, hg'⟩

/-- How much is left to do. -/
def meas (n m a tk : Nat) : Nat := (m + 1 - tk) * (n + 1) + (n + 1 - a)

theorem meas_at (n m a tk tk' : Nat) (ha : a < n) (ht : tk ≤ tk') : meas n m (a + 1) tk' < meas n m a tk := by
  unfold meas
  have : (m + 1 - tk') * (n + 1) ≤ (m + 1 - tk) * (n + 1) := Nat.mul_le_mul_right _ (by omega)
  omega

theorem meas_tk (n m a bs tk : Nat) (ht : tk < m) (ha : a ≤ n) : meas n m bs (tk + 1) < meas n m a tk := by
  unfold meas
  have : (m + 1 - tk) = (m + 1 - (tk + 1)) + 1 := by omega
  rw [this, Nat.succ_mul]
  omega

end Pg
end Go.Proofs.YtdakgnaojakldaaDoor
