/- Contracts of the program's isMany, takes, match. -/
import Derived.Test.YtdakgnaojakldaaDoorPgG
import Derived.Test.YtdakgnaojakldaaDoorPgMath5
import Derived.Deep.QuietTactic
import Derived.BigQuiet
namespace Go.Proofs.YtdakgnaojakldaaDoor
open Go.RowKit

def manyB (s : Int) : Bool := s == -2
def takesB (s c : Int) : Bool := s == -1 || s == c

theorem isMany_p (s : Int) (w : World) : Calls Tryd.prog 49 #[.int .i32 s] w fun e w' => e = .returned (.bool (manyB s)) ∧ w' = w := by
  unfold manyB
  go_enter Tryd.func49, Tryd.ntmps49
  go_wp2
  go_ret
  exact ⟨rfl, rfl⟩

theorem takes_p (s c : Int) (w : World) : Calls Tryd.prog 50 #[.int .i32 s, .int .i32 c] w fun e w' => e = .returned (.bool (takesB s c)) ∧ w' = w := by
  unfold takesB
  cases h : s == -1 with
  | true =>
    go_enter Tryd.func50, Tryd.ntmps50
    go_wp2
    go_ret
    exact ⟨rfl, rfl⟩
  | false =>
    go_enter Tryd.func50, Tryd.ntmps50
    go_wp2
    go_ret
    exact ⟨by simp, rfl⟩

theorem allMany_iff (S : List Int) (a : Nat) : allOf (fun j => manyB (S.getD (a + j) 0)) (S.length - a) = true ↔ ∀ s ∈ S.drop a, s = -2 := by
  unfold allOf manyB
  rw [List.all_eq_true]
  constructor
  · intro h s hs
    obtain ⟨j, hj, rfl⟩ := List.mem_iff_getElem.1 hs
    simp at hj
    have := h j (List.mem_range.2 (by omega))
    rw [List.getD_eq_getElem?_getD, List.getElem?_eq_getElem (by omega)] at this
    simpa [List.getElem_drop] using this
  · intro h j hj
    have hj' := List.mem_range.1 hj
    rw [List.getD_eq_getElem?_getD, List.getElem?_eq_getElem (by omega)]
    have := h (S[a + j]'(by omega)) (by rw [List.mem_iff_getElem]; exact ⟨j, by simp; omega, by simp⟩)
    simpa using this

set_option maxHeartbeats 1000000 in
set_option maxRecDepth 100000 in
theorem matchP_any (S W : List Int) (ao aw : Option Addr) (c1 c2 : Nat) (w : World) (hS : rowAt w ao S.length fun j => S.getD j 0) (hW : rowAt w aw W.length fun j => W.getD j 0)
    (hSl : S.length ≤ 1000000) (hWl : W.length ≤ 1000000) (hc1 : S.length ≤ c1) (A : Bool) (hA : A = true ↔ Pg.Gl S W) :
    Calls Tryd.prog 28 #[.slice ao S.length c1, .slice aw W.length c2] w fun e w' => e = .returned (.bool A) ∧ Below w.heap.size w w' := by
  have HA := hid hA
  clear hA
  go_enter Tryd.func28, Tryd.ntmps28
  go_wp2
  go_loopw [5, 6, 7, 8] (fun av bv tv hv wr => ∃ a b t h : Nat, av = .int .i64 a ∧ bv = .int .i64 b ∧ tv = .int .i64 t ∧ hv = .int .i64 h ∧ Pg.St S W a b t h ∧ Below w.heap.size w wr)
    (fun av _ tv _ _ => Pg.meas S.length W.length (intOf av).toNat (intOf tv).toNat)
  case atStart => exact ⟨0, 0, 0, 0, rfl, rfl, rfl, rfl, Pg.st_init S W, Below.refl _ _⟩
  case round =>
    obtain ⟨a, b, t, h, rfl, rfl, rfl, rfl, hst, hw⟩ := hrel
    have HS := hid hst
    have hbd : a ≤ S.length ∧ h ≤ W.length ∧ t ≤ h ∧ b ≤ a := ⟨hst.1, hst.2.1, hst.2.2.1, hst.2.2.2.1⟩
    obtain ⟨hb1, hb2, hb3, hb4⟩ := hbd
    clear hst
    by_cases hlt : h < W.length
    · have hlti : (h : Int) < (W.length : Int) := by omega
      rcases hW with h0 | ⟨wb, wo, rfl, hwc⟩
      · omega
      have qw := cell_later hw (hwc h hlt)
      obtain ⟨c, hc⟩ : ∃ c, W.getD h 0 = c := ⟨_, rfl⟩
      simp only [hc] at qw
      by_cases ha : a < S.length
      · have hai : (a : Int) < (S.length : Int) := by omega
        rcases hS with h0 | ⟨sb, so, rfl, hsc⟩
        · omega
        have qs := cell_later hw (hsc a ha)
        obtain ⟨s, hs⟩ : ∃ s, S.getD a 0 = s := ⟨_, rfl⟩
        simp only [hs] at qs
        clear hsc hwc
        cases hm : manyB s with
        | true =>
          have hs2 : S.getD a 0 = -2 := by rw [hs]; simpa [manyB] using hm
          have hst := hid (Pg.st_star S W a b t h HS.out ha hs2)
          have c50 := fun W' => isMany_p s W'
          rw [hm] at c50
          have HC := hid hc
          clear hs hs2 hm hc
          go_wp2_with (go_at_call 49; refine (c50 _).mono ?_; rintro e w' ⟨rfl, rfl⟩)
          go_roundw
          case rel => exact ⟨a + 1, a + 1, h, h, by go_num, by go_num, rfl, rfl, hst.out, hw⟩
          case measure => simp [intOf]; exact Pg.meas_at _ _ _ _ _ ha hb3
        | false =>
          have hs2 : S.getD a 0 ≠ -2 := by rw [hs]; simpa [manyB] using hm
          have c50 := fun W' => isMany_p s W'
          rw [hm] at c50
          have c51 := fun W' => takes_p s c W'
          cases hk : takesB s c with
          | true =>
            have hs3 : S.getD a 0 = -1 ∨ S.getD a 0 = W.getD h 0 := by rw [hs, hc]; simpa [takesB] using hk
            have hst := hid (Pg.st_take S W a b t h HS.out ha hlt hs2 hs3)
            rw [hk] at c51
            clear hs hs2 hs3 hm hc hk
            go_wp2_with (go_at_call 49; refine (c50 _).mono ?_; rintro e w' ⟨rfl, rfl⟩)
            go_quiet ((go_at_call 50; exact Calls.quiet_of_same (c51 _)))
            go_wp2
            exact ⟨⟨a + 1, b, t, h + 1, by go_num, rfl, rfl, by go_num, hst.out, below_drewN hw nq⟩, by simp [intOf]; exact Pg.meas_at _ _ _ _ _ ha (Nat.le_refl _)⟩
          | false =>
            have hbad : Pg.Bad S W a h := fun _ => ⟨hs2, by rw [hs, hc]; simpa [takesB] using hk⟩
            rw [hk] at c51
            by_cases hb0 : 0 < b
            · have hst := hid (Pg.st_back S W a b t h HS.out hbad hlt hb0)
              have hb0i : (0 : Int) < (b : Int) := by omega
              clear hs hs2 hm hc hk hbad
              go_wp2_with (go_at_call 49; refine (c50 _).mono ?_; rintro e w' ⟨rfl, rfl⟩)
              go_quiet ((go_at_call 50; exact Calls.quiet_of_same (c51 _)))
              go_wp2
              exact ⟨⟨b, b, t + 1, t + 1, rfl, rfl, by go_num, by go_num, hst.out, below_drewN hw nq⟩, by simp [intOf]; exact Pg.meas_tk _ _ _ _ _ (by omega) hb1⟩
            · obtain rfl : b = 0 := by omega
              have hf := Pg.st_fail S W a t h HS.out hbad hlt
              have hA : A = false := by
                cases A with
                | false => rfl
                | true => exact absurd (HA.out.1 rfl) hf
              subst hA
              clear hs hs2 hm hc hk hbad hf
              go_wp2_with (go_at_call 49; refine (c50 _).mono ?_; rintro e w' ⟨rfl, rfl⟩)
              go_quiet ((go_at_call 50; exact Calls.quiet_of_same (c51 _)))
              go_wp2
              go_ret
              exact ⟨rfl, below_drewN hw nq⟩
      · have hbad : Pg.Bad S W a h := fun h => absurd h ha
        have da : decide ((a : Int) < (S.length : Int)) = false := decide_eq_false (by omega)
        by_cases hb0 : 0 < b
        · have hst := hid (Pg.st_back S W a b t h HS.out hbad hlt hb0)
          have hb0i : (0 : Int) < (b : Int) := by omega
          clear hbad hc
          go_wp2_with fail
          go_quiet (fail)
          go_wp2
          exact ⟨⟨b, b, t + 1, t + 1, rfl, rfl, by go_num, by go_num, hst.out, below_drewN hw nq⟩, by simp [intOf]; exact Pg.meas_tk _ _ _ _ _ (by omega) hb1⟩
        · obtain rfl : b = 0 := by omega
          have hf := Pg.st_fail S W a t h HS.out hbad hlt
          have hA : A = false := by
            cases A with
            | false => rfl
            | true => exact absurd (HA.out.1 rfl) hf
          subst hA
          clear hbad hf hc
          go_wp2_with fail
          go_quiet (fail)
          go_wp2
          go_ret
          exact ⟨rfl, below_drewN hw nq⟩
    · have he := Pg.st_end S W a b t h HS.out hlt
      have hb1i : (a : Int) ≤ (S.length : Int) := by omega
      have hc1i : (a : Int) ≤ (c1 : Int) := by omega
      have hall : allOf (fun j => manyB (S.getD (a + j) 0)) (S.length - a) = A := by
        rw [Bool.eq_iff_iff, allMany_iff S a, ← he]; exact HA.out.symm
      have hrow := rowAt_below hS hw
      have cAll : ∀ (ao' : Option Addr) (cap' : Nat), rowAt wr ao' (S.length - a) (fun j => S.getD (a + j) 0) → Calls Tryd.prog 51 #[.slice ao' ((S.length - a : Nat)) cap', .func (.func 49) #[] #[]] wr fun e w' => e = .returned (.bool A) ∧ Below wr.heap.size wr w' := by
        intro ao' cap' hr
        have c := all_rune (S.length - a) ao' cap' 49 #[] (fun j => S.getD (a + j) 0) (fun j => manyB (S.getD (a + j) 0)) wr (by omega)
          (enters_of Tryd.func49 (by kernel_rfl) rfl) hr
          (fun W' j _ _ => (isMany_p _ W').mono fun e w' ⟨he, hw⟩ => ⟨he, hw ▸ Below.refl _ _⟩)
        rw [hall] at c
        exact c
      clear he hall
      by_cases hca : c1 = a
      · have c := cAll ao 0 (.inl (by omega))
        clear cAll hrow
        go_wp2_with (go_at_call 51; refine c.mono ?_; rintro e w' ⟨rfl, hb'⟩)
        go_ret
        exact ⟨rfl, hw.trans (hb'.mono hw.size)⟩
      · have c := cAll (ao.map fun x => x.add a) (c1 - a) (by
          rcases hrow with h0 | ⟨sb, so, rfl, hsc⟩
          · exact .inl (by omega)
          · refine .inr ⟨sb, so + a, by simp [addr_add], fun j hj => ?_⟩
            have := hsc (a + j) (by omega)
            rw [Nat.add_assoc]; exact this)
        clear cAll hrow
        go_wp2_with (go_at_call 51; refine c.mono ?_; rintro e w' ⟨rfl, hb'⟩)
        go_ret
        exact ⟨rfl, hw.trans (hb'.mono hw.size)⟩

end Go.Proofs.YtdakgnaojakldaaDoor
