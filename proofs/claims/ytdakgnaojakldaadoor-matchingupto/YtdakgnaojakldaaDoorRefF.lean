/- Contract of the reference's Says. -/
import Derived.Test.YtdakgnaojakldaaDoorRefE
import Derived.Test.YtdakgnaojakldaaDoorRefMath5
namespace Go.Proofs.YtdakgnaojakldaaDoor
open Go.RowKit

set_option maxHeartbeats 400000 in
set_option maxRecDepth 100000 in
theorem says_any (r : Ref.Req) (name : ByteArray) (ao : Option Addr) (cap : Nat) (w : World) (hn : r.marks.length ≤ 100000000000) (hm : marksAt w ao r.marks) :
    Calls Tryd.prog 55 #[Ref.reqV r ao cap, .string name] w fun e w' =>
      e = .returned (.tuple #[.string ((Ref.says r name).getD ⟨#[]⟩), .bool (Ref.says r name).isSome]) ∧ Below w.heap.size w w' := by
  obtain ⟨who, act, on, ms⟩ := r
  generalize hP : Ref.says ⟨who, act, on, ms⟩ name = P at *
  unfold Ref.says at hP
  simp only at hP hn hm
  unfold Ref.reqV
  simp only
  cases c1 : name.toList == [119, 104, 111] with
  | true =>
    rw [if_pos c1] at hP
    subst hP
    go_enter Tryd.func55, Tryd.ntmps55
    go_wp2
    go_ret2
    exact ⟨rfl, (Below.refl _ _).alloc (Nat.le_refl _) _⟩
  | false =>
  rw [if_neg (by simp [c1])] at hP
  cases c2 : name.toList == [100, 111] with
  | true =>
    rw [if_pos c2] at hP
    subst hP
    go_enter Tryd.func55, Tryd.ntmps55
    go_wp2
    go_ret2
    exact ⟨rfl, (Below.refl _ _).alloc (Nat.le_refl _) _⟩
  | false =>
  rw [if_neg (by simp [c2])] at hP
  cases c3 : name.toList == [111, 110] with
  | true =>
    rw [if_pos c3] at hP
    subst hP
    go_enter Tryd.func55, Tryd.ntmps55
    go_wp2
    go_ret2
    exact ⟨rfl, (Below.refl _ _).alloc (Nat.le_refl _) _⟩
  | false =>
  rw [if_neg (by simp [c3])] at hP
  have HP := hid hP
  clear hP
  go_enter Tryd.func55, Tryd.ntmps55
  go_wp2
  go_loop [6] (fun i => ∃ k : Nat, k ≤ ms.length ∧ i = .int .i64 k ∧ ∀ j (_ : j < k) (_ : j < ms.length), (ms[j].1.toList == name.toList) = false) (fun i => ms.length - (intOf i).toNat)
  case atStart => exact ⟨0, Nat.zero_le _, rfl, fun j h => by omega⟩
  case round =>
    obtain ⟨k, hk, rfl, hb⟩ := hrel
    have HB := hid hb
    clear hb
    by_cases hlt : k < ms.length
    · rcases hm with rfl | ⟨b, o, rfl, hc⟩
      · simp at hlt
      obtain ⟨n1, hn1⟩ : ∃ n, ms[k].1 = n := ⟨_, rfl⟩
      obtain ⟨v1, hv1⟩ : ∃ n, ms[k].2 = n := ⟨_, rfl⟩
      obtain ⟨q1, q2⟩ := hc k hlt
      rw [hn1] at q1; rw [hv1] at q2
      have HN := hid hn1
      have HV := hid hv1
      have q3 := fun O : Obj => cell_later ((Below.refl _ w).alloc (Nat.le_refl _) O) q1
      have q4 := fun O : Obj => cell_later ((Below.refl _ w).alloc (Nat.le_refl _) O) q2
      clear hn1 hv1 hc q1 q2
      go_wp2
      · have e0 : (n1.toList == name.toList) = true := by assumption
        have e := Ref.markSays_hit ms name k hlt (fun j h => HB.out j h (by omega)) (by rw [HN.out]; exact e0)
        rw [HV.out, HP.out] at e
        subst e
        go_ret2
        exact ⟨rfl, (Below.refl _ _).alloc (Nat.le_refl _) _⟩
      · have e0 : (n1.toList == name.toList) = false := by assumption
        refine ⟨⟨k + 1, by omega, by go_num, fun j h h2 => ?_⟩, by simp [intOf]; omega⟩
        by_cases hj : j = k
        · subst hj; rw [HN.out]; exact e0
        · exact HB.out j (by omega) h2
    · have e := Ref.markSays_none ms name k hlt HB.out
      rw [HP.out] at e
      subst e
      go_wp2
      go_ret2
      exact ⟨rfl, (Below.refl _ _).alloc (Nat.le_refl _) _⟩

theorem says_at (r : Ref.Req) (name : ByteArray) (ao : Option Addr) (cap : Nat) (w : World) (hn : r.marks.length ≤ 100000000000) (hm : marksAt w ao r.marks) (P : Option ByteArray) (hP : Ref.says r name = P) :
    Calls Tryd.prog 55 #[Ref.reqV r ao cap, .string name] w fun e w' =>
      e = .returned (.tuple #[.string (P.getD ⟨#[]⟩), .bool P.isSome]) ∧ Below w.heap.size w w' := by
  subst hP; exact says_any r name ao cap w hn hm

end Go.Proofs.YtdakgnaojakldaaDoor
