/- Contracts of the reference's smallest functions: lead, IsName, hex, blank. -/
import Derived.Test.YtdakgnaojakldaaDoorProg
import Derived.Test.YtdakgnaojakldaaDoorRefMath
import Derived.WalkKit
import Derived.WalkSpells
import Derived.WalkLawsBesides
namespace Go.Proofs.YtdakgnaojakldaaDoor
open Go.RowKit

set_option maxHeartbeats 400000 in
theorem lead_any (b : Int) (w : World) (h0 : 0 ≤ b) (h1 : b ≤ 255) :
    Calls Tryd.prog 54 #[.int .u8 b] w fun e w' => e = .returned (.tuple #[.int .i64 (Ref.leadN b).1, .int .u8 (Ref.leadN b).2.1, .int .u8 (Ref.leadN b).2.2]) ∧ w' = w := by
  go_enter Tryd.func54, Tryd.ntmps54
  go_wp2
  all_goals
    go_ret3
    refine ⟨?_, rfl⟩
    simp only [beq_iff_eq, beq_eq_false_iff_ne, ne_eq] at *
    generalize hr : Ref.leadN b = r
    unfold Ref.leadN at hr
    (repeat' split at hr) <;> subst hr <;> first | rfl | (exfalso; omega)

set_option maxHeartbeats 400000 in
theorem isName_any (s : ByteArray) (w : World) (hs : s.size ≤ maxLen) :
    Calls Tryd.prog 33 #[.string s] w fun e w' => e = .returned (.bool (Ref.isName s)) ∧ w' = w := by
  unfold maxLen at hs
  by_cases hsz : 1 ≤ s.size ∧ s.size ≤ 12
  · obtain ⟨hz1, hz2⟩ := hsz
    have hl1 : decide ((s.size : Int) < 1) = false := by simp; omega
    have hl2 : decide (12 < (s.size : Int)) = false := by simp; omega
    go_enter Tryd.func33, Tryd.ntmps33
    go_wp2
    go_loop [3] (fun i => ∃ k : Nat, k ≤ s.size ∧ i = .int .i64 k ∧ Ref.letters (s.data.toList.take k) = true) (fun i => s.size - (intOf i).toNat)
    case atStart => exact ⟨0, Nat.zero_le _, rfl, rfl⟩
    case round =>
      obtain ⟨k, hk, rfl, hl0⟩ := hrel
      have hl : Hid (Ref.letters (s.data.toList.take k) = true) := hl0
      clear hl0
      by_cases hlt : k < s.size
      · go_wp2
        all_goals first
          | (go_ret; exact ⟨ret_bool (Ref.isName_bad s k hlt (by omega)).symm, rfl⟩)
          | exact ⟨⟨k + 1, by omega, by go_num, Ref.letters_next s k hlt hl.out (by omega) (by omega)⟩, by simp [intOf]; omega⟩
      · go_wp2
        go_ret
        exact ⟨ret_bool (Ref.isName_good s k hlt hk hz1 hz2 hl.out).symm, rfl⟩
  · go_enter Tryd.func33, Tryd.ntmps33
    go_wp2
    all_goals first
      | (exfalso; omega)
      | (go_ret; exact ⟨ret_bool (Ref.isName_size s hsz).symm, rfl⟩)

end Go.Proofs.YtdakgnaojakldaaDoor
