/- Plain mathematics: what is cut off the end of a document's text is missed at that place; a sign too many, behind it or ahead of it, is told at its place. No program in it. -/
import Derived.Test.YtdakgnaojakldaaGreatDoorJaD
namespace Go.Proofs.YtdakgnaojakldaaGreatDoor
namespace Rd
open Ref

theorem run_ok (m : Mach) (c : UInt8) (r : List UInt8) (p : Nat) (h : (Ref.step m (c.toNat : Int)).1 = 0) : run m (c :: r) p = run (Ref.step m (c.toNat : Int)).2 r (p + 1) := by rw [run, if_pos h]
theorem run_bad (m : Mach) (c : UInt8) (r : List UInt8) (p : Nat) (h : (Ref.step m (c.toNat : Int)).1 ≠ 0) : run m (c :: r) p = ((Ref.step m (c.toNat : Int)).1, p, m) := by rw [run, if_neg h]

/-- A run over two parts. -/
theorem run_app : ∀ (a b : List UInt8) (m : Mach) (p : Nat), ((run m a p).1 = 0 → run m (a ++ b) p = run (run m a p).2.2 b (p + a.length)) ∧ ((run m a p).1 ≠ 0 → run m (a ++ b) p = run m a p)
  | [], b, m, p => ⟨fun _ => rfl, fun h => absurd rfl h⟩
  | c :: a, b, m, p => by
    by_cases h : (Ref.step m (c.toNat : Int)).1 = 0
    · have e1 := run_ok m c a p h
      have e2 := run_ok m c (a ++ b) p h
      rw [List.cons_append, e1, e2, List.length_cons, show p + (a.length + 1) = p + 1 + a.length by omega]
      exact run_app a b _ (p + 1)
    · have e1 := run_bad m c a p h
      have e2 := run_bad m c (a ++ b) p h
      rw [List.cons_append, e1, e2]
      exact ⟨fun h0 => absurd h0 h, fun _ => rfl⟩

/-- Behind a whole value nothing but blanks is taken. -/
theorem run_done : ∀ (a : List UInt8) (m : Mach) (p : Nat), m.state = 6 → m.opn = [] → (run m a p).1 = 0 → ∀ c ∈ a, blank c.toNat = true
  | [], _, _, _, _, _, c, hc => by simp at hc
  | x :: a, m, p, h6, ho, h, c, hc => by
    simp only [run] at h
    cases hb : blank x.toNat with
    | false =>
      exfalso
      have hst := step_after m x.toNat (.inl h6) hb
      unfold after at hst
      rw [if_neg (by rw [h6]; simp), if_pos (.inr ho)] at hst
      rw [hst] at h
      simp at h
    | true =>
      have hst := step_blank m (by omega) x.toNat hb
      rw [hst] at h
      simp only [if_true] at h
      rcases List.mem_cons.1 hc with rfl | hc
      · exact hb
      · exact run_done a m (p + 1) h6 ho h c hc

theorem verdict_init (l : List UInt8) : verdict l init 0 = if (run init l 0).1 ≠ 0 then run init l 0 else if (run init l 0).2.2.state ≠ 6 ∨ (run init l 0).2.2.opn ≠ [] then (2, l.length, (run init l 0).2.2) else run init l 0 := by
  unfold verdict; rw [List.drop_zero]

theorem readM_of_verdict {l : List UInt8} {e : Int} {q : Nat} {m : Mach} (h : verdict l init 0 = (e, q, m)) (he : e ≠ 0) : readM l = .err e q := by
  have ha := read_agrees l
  cases hr : readM l with
  | ok v p =>
    rw [hr] at ha
    simp only at ha
    obtain ⟨m', hv, _⟩ := ha
    rw [h] at hv
    injection hv with hv
    exact absurd hv he
  | err e' q' =>
    rw [hr] at ha
    simp only at ha
    obtain ⟨h1, h2⟩ := ha
    rw [h] at h1 h2
    simp only at h1 h2
    rw [h1, h2]

/-- The run over a text that is read. -/
theorem run_of_ok {l : List UInt8} {v : V} {q : Nat} (h : readM l = .ok v q) : ∃ m, run init l 0 = (0, l.length, m) ∧ m.state = 6 ∧ m.opn = [] := by
  have ha := read_agrees l
  rw [h] at ha
  simp only at ha
  obtain ⟨m, hv, h6, ho, _⟩ := ha
  rw [verdict_init] at hv
  by_cases c1 : (run init l 0).1 ≠ 0
  · rw [if_pos c1] at hv; rw [hv] at c1; exact absurd rfl c1
  rw [if_neg c1] at hv
  by_cases c2 : (run init l 0).2.2.state ≠ 6 ∨ (run init l 0).2.2.opn ≠ []
  · rw [if_pos c2] at hv; simp at hv
  rw [if_neg c2] at hv
  exact ⟨m, hv, h6, ho⟩

theorem cut_end (a b : List UInt8) (v : V) (q : Nat) (c : UInt8) (hc : c ∈ b) (hb : blank c.toNat = false) (h : readM (a ++ b) = .ok v q) : readM a = .err 2 a.length := by
  obtain ⟨m, hr, _, _⟩ := run_of_ok h
  by_cases c1 : (run init a 0).1 ≠ 0
  · rw [(run_app a b init 0).2 c1] at hr; rw [hr] at c1; exact absurd rfl c1
  have hz : (run init a 0).1 = 0 := by
    by_cases e : (run init a 0).1 = 0
    · exact e
    · exact absurd e c1
  rw [(run_app a b init 0).1 hz] at hr
  refine readM_of_verdict (m := (run init a 0).2.2) ?_ (by decide)
  rw [verdict_init, if_neg c1, if_pos]
  by_cases h6 : (run init a 0).2.2.state = 6
  · by_cases ho : (run init a 0).2.2.opn = []
    · exfalso
      have := run_done b _ _ h6 ho (by rw [hr]) c hc
      rw [hb] at this
      cases this
    · exact .inr ho
  · exact .inl h6

theorem cut_more (l : List UInt8) (v : V) (q : Nat) (h : readM l = .ok v q) : readM (l ++ [32, 93]) = .err 2 (l.length + 1) := by
  obtain ⟨m, hr, h6, ho⟩ := run_of_ok h
  have h1 := step_blank m (by omega) 32 (by decide)
  have h2 := step_after m 93 (.inl h6) (by decide)
  unfold after at h2
  rw [if_neg (by rw [h6]; simp), if_pos (.inr ho)] at h2
  have hrun : run init (l ++ [32, 93]) 0 = (2, l.length + 1, m) := by
    have g1 : Ref.step m ((32 : UInt8).toNat : Int) = (0, m) := h1
    have g2 : Ref.step m ((93 : UInt8).toNat : Int) = (2, m) := h2
    rw [(run_app l [32, 93] init 0).1 (by rw [hr]), hr]
    simp only [Nat.zero_add]
    rw [run_ok m 32 [93] _ (by rw [g1]), g1, run_bad m 93 [] _ (by rw [g2]; simp), g2]
  refine readM_of_verdict (m := m) ?_ (by decide)
  rw [verdict_init, hrun]
  simp

theorem cut_ahead (l : List UInt8) : readM (44 :: l) = .err 2 0 := by
  have hs : Ref.step init ((44 : UInt8).toNat : Int) = (2, init) := rfl
  have hr : run init (44 :: l) 0 = (2, 0, init) := by rw [run_bad init 44 l 0 (by rw [hs]; decide), hs]
  refine readM_of_verdict (m := init) ?_ (by decide)
  rw [verdict_init, hr]
  simp

end Rd
end Go.Proofs.YtdakgnaojakldaaGreatDoor
