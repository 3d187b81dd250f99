/- Contract of the reference's RequestFits. -/
import Derived.Test.YtdakgnaojakldaaDoorRefF
import Derived.Test.YtdakgnaojakldaaDoorRefMath6
import Derived.Deep.RegionWith
import Derived.Deep.Light
namespace Go.Proofs.YtdakgnaojakldaaDoor
open Go.RowKit

theorem marksAt_below {w w' : World} {ao : Option Addr} {ms : List (ByteArray × ByteArray)} (h : marksAt w ao ms) (hb : Below w.heap.size w w') : marksAt w' ao ms := by
  rcases h with h | ⟨b, o, ha, hc⟩
  · exact .inl h
  · exact .inr ⟨b, o, ha, fun j hj => ⟨cell_later hb (hc j hj).1, cell_later hb (hc j hj).2⟩⟩

theorem wordFits_at (s : ByteArray) (b : Bool) (w : World) (hs : s.size * 16 ≤ 140737488355328) (hb : Ref.wordOk s = b) :
    Calls Tryd.prog 18 #[.string s] w fun e w' => e = .returned (.bool b) ∧ Below w.heap.size w w' := by
  subst hb; exact wordFits_any s w hs

theorem isName_at (s : ByteArray) (b : Bool) (w : World) (hs : s.size ≤ maxLen) (hb : Ref.isName s = b) :
    Calls Tryd.prog 33 #[.string s] w fun e w' => e = .returned (.bool b) ∧ w' = w := by
  subst hb; exact isName_any s w hs

set_option maxHeartbeats 400000 in
set_option maxRecDepth 100000 in
theorem requestFits_any (r : Ref.Req) (ao : Option Addr) (cap : Nat) (w : World) (hr : Ref.reqFits r) (hm : marksAt w ao r.marks) :
    Calls Tryd.prog 17 #[Ref.reqV r ao cap] w fun e w' => e = .returned (.bool (Ref.reqOk r)) ∧ Below w.heap.size w w' := by
  obtain ⟨who, act, on, ms⟩ := r
  obtain ⟨z1, z2, z3, z4, z5⟩ := hr
  simp only at z1 z2 z3 z4 z5 hm
  obtain ⟨P, hP⟩ : ∃ P, Ref.reqOk ⟨who, act, on, ms⟩ = P := ⟨_, rfl⟩
  rw [hP]
  unfold Ref.reqOk at hP
  simp only at hP
  unfold Ref.reqV
  simp only
  obtain ⟨a, ha⟩ : ∃ a, Ref.wordOk who = a := ⟨_, rfl⟩
  obtain ⟨b, hb⟩ : ∃ a, Ref.wordOk act = a := ⟨_, rfl⟩
  obtain ⟨c, hc⟩ : ∃ a, Ref.wordOk on = a := ⟨_, rfl⟩
  rw [ha, hb, hc] at hP
  have HP := hid hP
  have HA := hid ha
  have HB := hid hb
  have HC := hid hc
  have HM := hid hm
  have Z5 := hid z5
  clear hP ha hb hc hm z5
  go_enter Tryd.func17, Tryd.ntmps17
  go_wp2_with fail
  refine (wordFits_at who a _ z1 HA.out).mono ?_
  rintro e w1 ⟨rfl, hb1⟩
  have x1 : w1.cell? ⟨w.heap.size, 1, none⟩ = some (.string act) := cell_later hb1 (by simp)
  have x2 : w1.cell? ⟨w.heap.size, 2, none⟩ = some (.string on) := cell_later hb1 (by simp)
  have x3 : w1.cell? ⟨w.heap.size, 3, none⟩ = some (.slice ao ms.length cap) := cell_later hb1 (by simp)
  have b1 : Below w.heap.size w w1 := ((Below.refl _ w).alloc (Nat.le_refl _) _).trans (hb1.mono (by simp))
  clear hb1
  go_wp2_with fail
  refine (wordFits_at act b _ z2 HB.out).mono ?_
  rintro e w2 ⟨rfl, hb2⟩
  have y2 : w2.cell? ⟨w.heap.size, 2, none⟩ = some (.string on) := cell_later hb2 x2
  have y3 : w2.cell? ⟨w.heap.size, 3, none⟩ = some (.slice ao ms.length cap) := cell_later hb2 x3
  have b2 : Below w.heap.size w w2 := b1.trans (hb2.mono b1.size)
  clear hb2 x1 x2 x3
  go_wp2_with fail
  refine (wordFits_at on c _ z3 HC.out).mono ?_
  rintro e w3 ⟨rfl, hb3⟩
  have u3 : w3.cell? ⟨w.heap.size, 3, none⟩ = some (.slice ao ms.length cap) := cell_later hb3 y3
  have b3 : Below w.heap.size w w3 := b2.trans (hb3.mono b2.size)
  have hm3 : marksAt w3 ao ms := marksAt_below HM.out b3
  have HM3 := hid hm3
  clear hb3 y2 y3 b1 b2 hm3 HM
  cases a with
  | false =>
    have hf : P = false := by rw [← HP.out]; simp
    subst hf
    go_wp2
    go_ret
    exact ⟨rfl, b3⟩
  | true =>
  cases b with
  | false =>
    have hf : P = false := by rw [← HP.out]; simp
    subst hf
    go_wp2
    go_ret
    exact ⟨rfl, b3⟩
  | true =>
  cases c with
  | false =>
    have hf : P = false := by rw [← HP.out]; simp
    subst hf
    go_wp2
    go_ret
    exact ⟨rfl, b3⟩
  | true =>
  by_cases hl : 10 < ms.length
  · have hf : P = false := by rw [← HP.out]; simp; omega
    subst hf
    go_wp2
    go_ret
    exact ⟨rfl, b3⟩
  have hl2 : decide (10 < (ms.length : Int)) = false := by simp; omega
  have HP2 : Hid (ms.all Ref.markOk = P) := by
    have := HP.out
    rw [show decide (ms.length ≤ 10) = true by simp; omega] at this
    exact (by simpa using this : ms.all Ref.markOk = P)
  clear HP
  go_wp2
  go_loopw [6] (fun i wr => ∃ k : Nat, k ≤ ms.length ∧ i = .int .i64 k ∧ (ms.take k).all Ref.markOk = true ∧ Below w.heap.size w wr ∧ wr.cell? ⟨w.heap.size, 3, none⟩ = some (.slice ao ms.length cap) ∧ marksAt wr ao ms) (fun i _ => ms.length - (intOf i).toNat)
  case atStart => exact ⟨0, Nat.zero_le _, rfl, rfl, b3, u3, HM3.out⟩
  case round =>
    obtain ⟨k, hk, rfl, hall, hbel, hbx, hmr⟩ := hrel
    clear u3 b3 HM3
    have HALL := hid hall
    clear hall
    by_cases hlt : k < ms.length
    · rcases hmr with rfl | ⟨bb, o, rfl, hc⟩
      · simp at hlt
      have hmm := Z5.out ms[k] (List.getElem_mem hlt)
      obtain ⟨n1, hn1⟩ : ∃ n, ms[k].1 = n := ⟨_, rfl⟩
      obtain ⟨v1, hv1⟩ : ∃ n, ms[k].2 = n := ⟨_, rfl⟩
      obtain ⟨q1, q2⟩ := hc k hlt
      obtain ⟨d1, hd1⟩ : ∃ n, Ref.isName n1 = n := ⟨_, rfl⟩
      obtain ⟨d2, hd2⟩ : ∃ n, Ref.wordOk v1 = n := ⟨_, rfl⟩
      have hok : Ref.markOk ms[k] = (d1 && d2 && !(n1.toList == [119, 104, 111]) && !(n1.toList == [100, 111]) && !(n1.toList == [111, 110])) := by unfold Ref.markOk; rw [hn1, hv1, hd1, hd2]
      rw [hn1] at q1; rw [hv1] at q2
      rw [hn1, hv1] at hmm
      obtain ⟨m1, m2⟩ := hmm
      have HN := hid hd1
      have HV := hid hd2
      have HC2 := hid hc
      have HOK := hid hok
      clear hn1 hv1 hc hd1 hd2 hok
      go_wp2_with fail
      refine (isName_at n1 d1 _ (by unfold maxLen; omega) HN.out).mono ?_
      rintro e w4 ⟨rfl, rfl⟩
      go_wp2_with fail
      refine (wordFits_at v1 d2 _ m2 HV.out).mono ?_
      rintro e w5 ⟨rfl, hb5⟩
      have t3 := cell_later hb5 hbx
      have b5 : Below w.heap.size w w5 := hbel.trans (hb5.mono hbel.size)
      have hm5 : Hid (marksAt w5 (some ⟨bb, o, none⟩) ms) := marksAt_below (.inr ⟨bb, o, rfl, HC2.out⟩) hb5
      clear hb5 hbx hbel HC2 q1 q2
      go_wp2
      case roundEnd =>
        have hok2 : Ref.markOk ms[k] = true := by
          have hh := HOK.out
          go_light
          simp_all
        refine ⟨⟨k + 1, by omega, by go_num, ?_, b5, t3, hm5.out⟩, by simp [intOf]; omega⟩
        rw [Ref.all_take ms k hlt, HALL.out, hok2]; rfl
      all_goals
        have hok2 : Ref.markOk ms[k] = false := by
          have hh := HOK.out
          go_light
          simp_all
        have hf : P = false := by rw [← HP2.out, Ref.all_bad ms k hlt hok2]
        subst hf
        go_ret
        exact ⟨rfl, b5⟩
    · have hf : P = true := by rw [← HP2.out, ← HALL.out, List.take_of_length_le (by omega)]
      subst hf
      clear HP2 HALL
      go_wp2
      go_ret
      exact ⟨rfl, hbel⟩

end Go.Proofs.YtdakgnaojakldaaDoor
