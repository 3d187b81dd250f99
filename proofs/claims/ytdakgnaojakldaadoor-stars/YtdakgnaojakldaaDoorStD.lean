/- The statement Stars: every three texts. -/
import Derived.Test.YtdakgnaojakldaaDoorStC
namespace Go.Proofs.YtdakgnaojakldaaDoor
open Go.RowKit

theorem ask (pat word a b c : ByteArray) (X : Bool) (E : Int) (h : Ref.matchesP pat word (Pg.req a b c) = (X, E)) (hp : pat.size ≤ maxLen) (hw : word.size ≤ maxLen) (ha : a.size ≤ maxLen) (hb : b.size ≤ maxLen) (hc : c.size ≤ maxLen) :
    ∀ W, Env W → Calls Tryd.prog 6 #[.string pat, .string word, .agg #[.string a, .string b, .string c, .slice none 0 0]] W fun e w' => e = .returned (.tuple #[.bool X, .int .i64 E]) ∧ Below W.heap.size W w' := by
  intro W hE
  have c := progMatches_len pat word (Pg.req a b c) none 0 W (.inl rfl) ⟨ha, hb, hc, by simp [Pg.req], by simp [Pg.req]⟩ hp hw hE
  rw [h] at c
  exact c

theorem stars_any (a b c : ByteArray) (w : World) (hE : Env w) (ha : a.size ≤ 140737488355328) (hb : b.size ≤ 140737488355328) (hc : c.size ≤ 140737488355328) :
    Calls Tryd.prog 4 #[.string a, .string b, .string c] w fun e w' => e = .returned (.bool true) ∧ Below w.heap.size w w' := by
  have la : a.size ≤ maxLen := by unfold maxLen; omega
  have lb : b.size ≤ maxLen := by unfold maxLen; omega
  have lc : c.size ≤ maxLen := by unfold maxLen; omega
  have lw : (a ++ b ++ c).size ≤ maxLen := by simp only [ByteArray.size_append]; unfold maxLen; omega
  have lx : (b ++ Pg.bX).size ≤ maxLen := by rw [ByteArray.size_append]; show b.size + 1 ≤ _; unfold maxLen; omega
  have ls : (a ++ Pg.bStar).size ≤ maxLen := by rw [ByteArray.size_append]; show a.size + 1 ≤ _; unfold maxLen; omega
  have r1 := Pg.matches_of Pg.p1 (a ++ b ++ c) (Pg.req a b c) _ Pg.parts1 true (fun h _ => by
    obtain ⟨⟨la, h1⟩, ⟨lb, h2⟩, lc, h3⟩ := Pg.req_chars a b c h
    exact Pg.match1 a b c la lb lc h1 h2 h3)
  have r2 := Pg.matches_of Pg.p2 (a ++ b ++ c) (Pg.req a b c) _ Pg.parts2 true (fun h _ => by
    obtain ⟨⟨la, h1⟩, ⟨lb, h2⟩, lc, h3⟩ := Pg.req_chars a b c h
    exact Pg.match2 a b c la lb lc h1 h2 h3)
  have r3 := Pg.matches_of Pg.p3 b (Pg.req a b c) _ Pg.parts3 true (fun h _ => by
    obtain ⟨_, ⟨lb, h2⟩, _⟩ := Pg.req_chars a b c h
    exact Pg.match3 a b c lb h2)
  have r4 := Pg.matches_of Pg.p3 (b ++ Pg.bX) (Pg.req a b c) _ Pg.parts3 false (fun h _ => by
    obtain ⟨_, ⟨lb, h2⟩, _⟩ := Pg.req_chars a b c h
    exact Pg.match4 a b c lb h2)
  have r5 := Pg.matches_of Pg.p5 (a ++ Pg.bStar) (Pg.req a b c) _ Pg.parts5 true (fun h _ => by
    obtain ⟨⟨la, h1⟩, _, _⟩ := Pg.req_chars a b c h
    exact Pg.match5 a b c la h1)
  have r6 := Pg.matches_of Pg.p6 a (Pg.req a b c) _ Pg.parts6 false (fun _ _ => Pg.match6 a b c)
  by_cases hG : (Ref.reqOk (Pg.req a b c) && Ref.wordOk (a ++ b ++ c)) = true
  · rw [if_pos hG] at r1 r2
    simp only [Bool.and_eq_true] at hG
    obtain ⟨hq, hwd⟩ := hG
    obtain ⟨⟨ca, h1⟩, ⟨cb, h2⟩, cc, h3⟩ := Pg.req_chars a b c hq
    have hq2 := hq
    rw [Pg.reqOk_words] at hq2
    simp only [Bool.and_eq_true] at hq2
    obtain ⟨⟨oa, ob⟩, oc⟩ := hq2
    have sa : a.size ≤ 100 := Ref.wordOk_size _ oa
    have sb : b.size ≤ 100 := Ref.wordOk_size _ ob
    have sc : c.size ≤ 100 := Ref.wordOk_size _ oc
    rw [hq, ob] at r3
    rw [hq, oa] at r6
    rw [if_pos (by rfl)] at r3 r6
    rw [hq, Bool.true_and] at r4 r5
    have s1 : (b ++ Pg.bX).size = b.size + 1 := by rw [ByteArray.size_append]; rfl
    have s2 : (a ++ Pg.bStar).size = a.size + 1 := by rw [ByteArray.size_append]; rfl
    have x4 : ∃ E4 : Int, Ref.matchesP Pg.p3 (b ++ Pg.bX) (Pg.req a b c) = (false, E4) ∧ (E4 = 0 ∨ (E4 = 11 ∧ b.size = 100)) := by
      by_cases h : Ref.wordOk (b ++ Pg.bX) = true
      · rw [if_pos h] at r4; exact ⟨0, r4, .inl rfl⟩
      · rw [if_neg h] at r4
        refine ⟨11, r4, .inr ⟨rfl, ?_⟩⟩
        unfold Ref.wordOk at h
        rw [Pg.chars_append b Pg.bX cb [Pg.bX] h2 Pg.charsX, s1] at h
        simp at h
        omega
    have x5 : ∃ (X5 : Bool) (E5 : Int), Ref.matchesP Pg.p5 (a ++ Pg.bStar) (Pg.req a b c) = (X5, E5) ∧ ((E5 = 0 ∧ X5 = true) ∨ (E5 = 11 ∧ X5 = false ∧ a.size = 100)) := by
      by_cases h : Ref.wordOk (a ++ Pg.bStar) = true
      · rw [if_pos h] at r5; exact ⟨true, 0, r5, .inl ⟨rfl, rfl⟩⟩
      · rw [if_neg h] at r5
        refine ⟨false, 11, r5, .inr ⟨rfl, rfl, ?_⟩⟩
        unfold Ref.wordOk at h
        rw [Pg.chars_append a Pg.bStar ca [Pg.bStar] h1 Pg.charsStar, s2] at h
        simp at h
        omega
    obtain ⟨E4, q4, g4⟩ := x4
    obtain ⟨X5, E5, q5, g5⟩ := x5
    exact stars_yes a b c w hE false X5 E4 E5 sa sb sc ⟨rfl, g4⟩ g5 (ask _ _ a b c _ _ r1 (by decide) lw la lb lc) (ask _ _ a b c _ _ r2 (by decide) lw la lb lc) (ask _ _ a b c _ _ r3 (by decide) lb la lb lc)
      (ask _ _ a b c _ _ q4 (by decide) lx la lb lc) (ask _ _ a b c _ _ q5 (by decide) ls la lb lc) (ask _ _ a b c _ _ r6 (by decide) la la lb lc)
  · rw [if_neg hG] at r1
    refine stars_no a b c w hE _ _ _ _ _ _ _ _ _ _ la lb lc (by omega) ?_ (ask _ _ a b c _ _ r1 (by decide) lw la lb lc) (ask _ _ a b c _ _ rfl (by decide) lw la lb lc) (ask _ _ a b c _ _ rfl (by decide) lb la lb lc)
      (ask _ _ a b c _ _ rfl (by decide) lx la lb lc) (ask _ _ a b c _ _ rfl (by decide) ls la lb lc) (ask _ _ a b c _ _ rfl (by decide) la la lb lc)
    by_cases k1 : 100 < a.size
    · exact .inl k1
    by_cases k2 : 100 < b.size
    · exact .inr (.inl k2)
    by_cases k3 : 100 < c.size
    · exact .inr (.inr (.inl k3))
    by_cases k4 : 100 < a.size + b.size + c.size
    · exact .inr (.inr (.inr (.inl k4)))
    cases ua : Ref.chars a with
    | none => exact .inr (.inr (.inr (.inr (.inl rfl))))
    | some ca =>
    cases ub : Ref.chars b with
    | none => exact .inr (.inr (.inr (.inr (.inr (.inl rfl)))))
    | some cb =>
    cases uc : Ref.chars c with
    | none => exact .inr (.inr (.inr (.inr (.inr (.inr rfl)))))
    | some cc =>
    refine absurd ?_ hG
    have hw := Pg.chars_append (a ++ b) c (ca ++ cb) cc (Pg.chars_append a b ca cb ua ub) uc
    rw [Pg.reqOk_words]
    unfold Ref.wordOk
    rw [ua, ub, uc, hw, ByteArray.size_append, ByteArray.size_append]
    simp
    omega

end Go.Proofs.YtdakgnaojakldaaDoor
