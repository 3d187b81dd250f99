/- Contracts of the reference's Match and Matches. -/
import Derived.Test.YtdakgnaojakldaaDoorRefI
import Derived.Test.YtdakgnaojakldaaDoorRefMath9
namespace Go.Proofs.YtdakgnaojakldaaDoor
open Go.RowKit

set_option maxHeartbeats 1000000 in
set_option maxRecDepth 100000 in
theorem match_any (pattern word : ByteArray) (r : Ref.Req) (ao : Option Addr) (cap : Nat) (w : World) (hm : marksAt w ao r.marks) (hp : pattern.size ≤ 60) (hw : word.size ≤ 100) (hml : r.marks.length ≤ 10)
    (hsz : ∀ n v, Ref.says r n = some v → v.size ≤ 100) :
    Calls Tryd.prog 19 #[.string pattern, .string word, Ref.reqV r ao cap] w fun e w' => e = .returned (.bool (Ref.matchP pattern word r)) ∧ Below w.heap.size w w' := by
  obtain ⟨P, hP⟩ : ∃ P, Ref.matchP pattern word r = P := ⟨_, rfl⟩
  rw [hP]
  unfold Ref.matchP at hP
  have hpl := Ref.parts_len pattern
  have hcl := Ref.chars_len word
  have HP := hid hP
  have HM := hid hm
  have HS := hid hsz
  clear hP hm hsz
  generalize hr : Ref.reqV r ao cap = rv
  have hrv : rv = .agg #[.string r.who, .string r.act, .string r.on, .slice ao r.marks.length cap] := hr.symm
  subst hrv
  have HR := hid hr
  clear hr
  go_enter Tryd.func19, Tryd.ntmps19
  go_wp2_with fail
  refine (parts_any pattern _ hp).mono ?_
  rintro e w1 ⟨lv, rfl, hb1, _, hown1⟩
  have box1 : boxAt w1 w.heap.size r ao cap := boxAt_below (by simp [boxAt]) hb1
  have b1 : Below w.heap.size w w1 := ((Below.refl _ w).alloc (Nat.le_refl _) _).trans (hb1.mono (by simp))
  have pa1 := partsAt_own rfl hown1
  clear hb1 hown1
  go_wp2_with fail
  refine (characters_any word _ (by omega)).mono ?_
  rintro e w2 ⟨cv, rfl, hb2, hown2⟩
  have box2 := boxAt_below box1 hb2
  have b2 : Below w.heap.size w w2 := b1.trans (hb2.mono b1.size)
  have pa2 := partsAt_below pa1 hb2
  have sa2 := strsAt_own rfl hown2
  have hm2 := marksAt_below HM.out b2
  obtain ⟨g0, g1, g2, g3⟩ := box2
  have PA2 := hid pa2
  have SA2 := hid sa2
  have HM2 := hid hm2
  clear hb2 hown2 box1 pa1 pa2 sa2 hm2 b1
  go_wp2_with fail
  rw [← HR.out]
  refine (laid_any r _ lv ao cap _ HM2.out PA2.out hpl hml HS.out).mono ?_
  rintro e w3 ⟨qv, rfl, hb3, hown3, hq3⟩
  have b3 : Below w.heap.size w w3 := b2.trans (hb3.mono b2.size)
  have sa3 := strsAt_below SA2.out hb3
  have qa3 := partsAt_own rfl hown3
  have SA3 := hid sa3
  have QA3 := hid qa3
  clear hb3 hown3 sa3 qa3 g0 g1 g2 g3 PA2 SA2 HM2 b2
  cases hld : Ref.laid r ((Ref.parts pattern).getD []) with
  | none =>
    have hf : P = false := by rw [← HP.out, hld]
    subst hf
    go_wp2
    go_ret
    exact ⟨rfl, b3⟩
  | some q =>
    have hf : Ref.covers q ((Ref.chars word).getD []) = P := by rw [← HP.out, hld]
    have hq := QA3.out
    rw [hld] at hq hq3
    simp only [Option.getD_some] at hq hq3
    have HF := hid hf
    have HQ := hid hq
    clear hf hq QA3 HP
    go_wp2_with fail
    refine (covers_any q _ qv cv _ HQ.out SA3.out (by omega) (by omega)).mono ?_
    rw [HF.out]
    rintro e w4 ⟨rfl, hb4⟩
    have b4 : Below w.heap.size w w4 := b3.trans (hb4.mono b3.size)
    clear hb4 HQ SA3
    go_wp2
    go_ret
    exact ⟨rfl, b4⟩

set_option maxHeartbeats 1000000 in
set_option maxRecDepth 100000 in
theorem matches_any (pattern word : ByteArray) (r : Ref.Req) (ao : Option Addr) (cap : Nat) (w : World) (hm : marksAt w ao r.marks) (hr : Ref.reqFits r) (hp : pattern.size ≤ maxLen) (hw : word.size * 16 ≤ 140737488355328) :
    Calls Tryd.prog 7 #[.string pattern, .string word, Ref.reqV r ao cap] w fun e w' =>
      e = .returned (.tuple #[.bool (Ref.matchesP pattern word r).1, .int .i64 (Ref.matchesP pattern word r).2]) ∧ Below w.heap.size w w' := by
  obtain ⟨P, hP⟩ : ∃ P, Ref.matchesP pattern word r = P := ⟨_, rfl⟩
  rw [hP]
  unfold Ref.matchesP at hP
  have HM := hid hm
  have HF := hid hr
  clear hm hr
  obtain ⟨rv, hr⟩ : ∃ v, Ref.reqV r ao cap = v := ⟨_, rfl⟩
  rw [hr]
  have hrv : rv = .agg #[.string r.who, .string r.act, .string r.on, .slice ao r.marks.length cap] := hr.symm
  subst hrv
  have HR := hid hr
  clear hr
  by_cases hlong : 60 < pattern.size
  · have hnone : Ref.parts pattern = none := by unfold Ref.parts; rw [if_pos hlong]
    rw [hnone] at hP
    simp only [Option.isSome_none, if_true] at hP
    subst hP
    clear hnone
    go_enter Tryd.func7, Tryd.ntmps7
    go_wp2_with fail
    refine (parts_long pattern _ hp hlong).mono ?_
    rintro e w1 ⟨rfl, rfl⟩
    go_wp2
    go_ret2
    exact ⟨rfl, (Below.refl _ _).alloc (Nat.le_refl _) _⟩
  cases hpp : Ref.parts pattern with
  | none =>
    rw [hpp] at hP
    simp only [Option.isSome_none, if_true] at hP
    subst hP
    have HPP := hid hpp
    clear hpp
    go_enter Tryd.func7, Tryd.ntmps7
    go_wp2_with fail
    refine (parts_any pattern _ (by omega)).mono ?_
    rw [HPP.out]
    rintro e w1 ⟨lv, rfl, hb1, _, _⟩
    go_wp2
    go_ret2
    exact ⟨rfl, ((Below.refl _ w).alloc (Nat.le_refl _) _).trans (hb1.mono (by simp))⟩
  | some l =>
    rw [hpp] at hP
    simp only [Option.isSome_some, Bool.true_eq_false, if_false] at hP
    have HPP := hid hpp
    clear hpp
    obtain ⟨a, ha⟩ : ∃ a, Ref.reqOk r = a := ⟨_, rfl⟩
    obtain ⟨b, hb⟩ : ∃ a, Ref.wordOk word = a := ⟨_, rfl⟩
    rw [ha, hb] at hP
    have HP := hid hP
    have HA := hid ha
    have HB := hid hb
    clear hP ha hb
    go_enter Tryd.func7, Tryd.ntmps7
    go_wp2_with fail
    refine (parts_any pattern _ (by omega)).mono ?_
    rw [HPP.out]
    rintro e w1 ⟨lv, rfl, hb1, _, _⟩
    have box1 : boxAt w1 w.heap.size r ao cap := boxAt_below (by simp [boxAt]) hb1
    have b1 : Below w.heap.size w w1 := ((Below.refl _ w).alloc (Nat.le_refl _) _).trans (hb1.mono (by simp))
    have hm1 : Hid (marksAt w1 ao r.marks) := marksAt_below HM.out b1
    have BOX1 := hid box1
    obtain ⟨g0, g1, g2, g3⟩ := box1
    clear hb1
    go_wp2_with fail
    rw [← HR.out]
    refine (requestFits_any r ao cap _ HF.out hm1.out).mono ?_
    rw [HA.out]
    rintro e w2 ⟨rfl, hb2⟩
    have BOX2 : Hid (boxAt w2 w.heap.size r ao cap) := boxAt_below BOX1.out hb2
    have b2 : Below w.heap.size w w2 := b1.trans (hb2.mono b1.size)
    clear hb2 g0 g1 g2 g3 b1 hm1 BOX1
    go_wp2_with fail
    refine (wordFits_any word _ hw).mono ?_
    rw [HB.out]
    rintro e w3 ⟨rfl, hb3⟩
    have box3 := boxAt_below BOX2.out hb3
    have b3 : Below w.heap.size w w3 := b2.trans (hb3.mono b2.size)
    obtain ⟨g0, g1, g2, g3⟩ := box3
    clear hb3 b2 BOX2
    cases a with
    | false =>
      have hf : P = (false, 11) := by rw [← HP.out]; simp
      subst hf
      go_wp2
      go_ret2
      exact ⟨rfl, b3⟩
    | true =>
    cases b with
    | false =>
      have hf : P = (false, 11) := by rw [← HP.out]; simp
      subst hf
      go_wp2
      go_ret2
      exact ⟨rfl, b3⟩
    | true =>
      have hf : P = (Ref.matchP pattern word r, 0) := by rw [← HP.out]; simp
      obtain ⟨y, hy⟩ : ∃ y, Ref.matchP pattern word r = y := ⟨_, rfl⟩
      rw [hy] at hf
      subst hf
      have HY := hid hy
      have hm3 : Hid (marksAt w3 ao r.marks) := marksAt_below HM.out b3
      clear hy HP
      go_wp2_with fail
      rw [← HR.out]
      refine (match_any pattern word r ao cap _ hm3.out (by omega) (Ref.wordOk_size _ HB.out) (Ref.marks_len r HA.out) (Ref.says_size r HA.out)).mono ?_
      rw [HY.out]
      rintro e w4 ⟨rfl, hb4⟩
      have b4 : Below w.heap.size w w4 := b3.trans (hb4.mono b3.size)
      clear hb4 g0 g1 g2 g3 hm3
      go_wp2
      go_ret2
      exact ⟨rfl, b4⟩

end Go.Proofs.YtdakgnaojakldaaDoor
