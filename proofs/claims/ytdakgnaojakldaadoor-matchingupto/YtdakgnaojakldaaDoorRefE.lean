/- Contracts of the reference's Characters and wordFits, and of Parts of a text that is too long. -/
import Derived.Test.YtdakgnaojakldaaDoorRefD
import Derived.Test.YtdakgnaojakldaaDoorRefMath4
namespace Go.Proofs.YtdakgnaojakldaaDoor
open Go.RowKit

set_option maxHeartbeats 400000 in
set_option maxRecDepth 100000 in
theorem parts_long (s : ByteArray) (w : World) (hs : s.size ≤ maxLen) (h : 60 < s.size) :
    Calls Tryd.prog 16 #[.string s] w fun e w' => e = .returned (.tuple #[.slice none 0 0, .bool false]) ∧ w' = w := by
  unfold maxLen at hs
  go_enter Tryd.func16, Tryd.ntmps16
  go_wp2
  go_ret2
  exact ⟨rfl, rfl⟩

theorem Tryd.infoString : (Tryd.prog.info? 9).map (fun i => (i.zero, i.size, i.bytes)) = some (some (.string ⟨#[]⟩), 1, 16) := by kernel_rfl

set_option maxHeartbeats 1000000 in
set_option maxRecDepth 100000 in
theorem characters_any (s : ByteArray) (w : World) (hs : s.size * 16 ≤ 140737488355328) :
    Calls Tryd.prog 34 #[.string s] w fun e w' => ∃ v, e = .returned (.tuple #[v, .bool (Ref.chars s).isSome]) ∧ Below w.heap.size w w' ∧
      w'.ownsRow w.heap.size 9 1 v ((Ref.chars s).getD []).length (Ref.strCells ((Ref.chars s).getD [])) := by
  obtain ⟨i0, hi, hz0, hz1, hz2⟩ := info_parts Tryd.infoString
  have hP : Ref.chars s = (Ref.charsF (s.size + 1) s).map fun r => [] ++ r := by unfold Ref.chars; simp
  generalize hPP : Ref.chars s = P at *
  clear hPP
  have HP := hid hP
  clear hP
  go_enter Tryd.func34, Tryd.ntmps34
  go_wp2
  go_loopw [0, 4] (fun sv lv wr => ∃ (t : ByteArray) (f : Nat) (done : List ByteArray), sv = .string t ∧ done.length + t.size ≤ s.size ∧ t.size < f ∧ P = ((Ref.charsF f t).map fun r => done ++ r) ∧
      wr.ownsRow w.heap.size 9 1 lv done.length (Ref.strCells done) ∧ Below w.heap.size w wr) (fun sv _ _ => Ref.strLen sv)
  case atStart => exact ⟨s, s.size + 1, [], rfl, by simp, by omega, HP.out, World.ownsRow_nil _ _ _ _, Below.refl _ _⟩
  case round =>
    obtain ⟨t, f, done, rfl, hdt, hf, hP0, hown, hbel⟩ := hrel
    have HP1 := hid hP0
    clear hP0 HP
    have hsz := hbel.size
    by_cases hp : 0 < t.size
    · have hcs := Ref.charStr_size t hp
      cases hok : Ref.charOk t with
      | false =>
        have HO := hid hok
        have hfin := Ref.chars_stop P f t done hp hf HP1.out hok
        subst hfin
        clear hok HP1
        go_wp2_with (go_at_call 31; refine (character_at t _ false _ (by unfold maxLen; omega) hp rfl HO.out).mono ?_; rintro e w' ⟨rfl, rfl⟩)
        go_ret2
        exact ⟨_, rfl, hbel, World.ownsRow_nil _ _ _ _⟩
      | true =>
        obtain ⟨c, hc⟩ : ∃ c, Ref.charStr t = c := ⟨_, rfl⟩
        rw [hc] at hcs
        obtain ⟨f', hf', hP'⟩ := Ref.chars_next P f t done hp hf HP1.out c hc hok
        have HP2 := hid hP'
        have HC := hid hc
        have HO := hid hok
        clear hP' hc hok HP1
        go_wp2_with (first
          | (go_at_call 31; refine (character_at t c true _ (by unfold maxLen; omega) hp HC.out HO.out).mono ?_; rintro e w' ⟨rfl, rfl⟩)
          | (at_builtin; refine wpList_append_own _ rfl _ _ 77 rfl w.heap.size 9 i0 (.string ⟨#[]⟩) 1 16 Tryd.underlying77 hi hz0 hz1 hz2 rfl (by decide) _ done.length (Ref.strCells done) rfl (hown.alloc _) ⟨w'.heap.size, 0, none⟩ 1 1 [.string c] rfl rfl ?_ ?_ ?_ ?_ ?_ ?_))
        · exact cell_one_new _ _ _
        · intro u hu; simp at hu; subst hu; rfl
        · unfold maxLen; omega
        · omega
        · simp; omega
        · intro v' w1 hown' hgrow _
          have hb1 := below_one hbel hown _ hgrow
          have hown2 : w1.ownsRow w.heap.size 9 1 v' (done ++ [c]).length (Ref.strCells (done ++ [c])) := by rw [Ref.strCells_snoc, List.length_append]; exact hown'
          clear hown' hgrow hown
          go_wp2
          go_roundw
          case rel => exact ⟨_, f', _, rfl, by simp; omega, hf', HP2.out, hown2, hb1⟩
          case measure => simp [Ref.strLen]; omega
    · have hfin := Ref.chars_end P f t done hp hf HP1.out
      subst hfin
      clear HP1
      go_wp2
      go_ret2
      exact ⟨_, rfl, hbel, hown⟩

set_option maxHeartbeats 400000 in
set_option maxRecDepth 100000 in
theorem wordFits_any (s : ByteArray) (w : World) (hs : s.size * 16 ≤ 140737488355328) :
    Calls Tryd.prog 18 #[.string s] w fun e w' => e = .returned (.bool (Ref.wordOk s)) ∧ Below w.heap.size w w' := by
  have hw : Ref.wordOk s = ((Ref.chars s).isSome && decide ((s.size : Int) ≤ 100)) := by unfold Ref.wordOk; congr 1; rw [decide_eq_decide]; omega
  have HW := hid hw
  clear hw
  go_enter Tryd.func18, Tryd.ntmps18
  go_wp2_with (go_at_call 34; refine (characters_any s _ hs).mono ?_; rintro e w1 ⟨v, rfl, hb1, _⟩)
  · have hx : (Ref.chars s).isSome = true := by assumption
    go_ret
    exact ⟨ret_bool (by rw [HW.out, hx, Bool.true_and]), hb1⟩
  · have hx : ¬ (Ref.chars s).isSome = true := by assumption
    go_ret
    exact ⟨ret_bool (by rw [HW.out, Bool.eq_false_iff.2 hx, Bool.false_and]), hb1⟩

end Go.Proofs.YtdakgnaojakldaaDoor
