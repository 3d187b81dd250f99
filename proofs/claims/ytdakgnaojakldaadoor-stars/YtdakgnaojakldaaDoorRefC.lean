/- Contract of the reference's dollar. -/
import Derived.Test.YtdakgnaojakldaaDoorRefB
import Derived.Test.YtdakgnaojakldaaDoorRefMath2
namespace Go.Proofs.YtdakgnaojakldaaDoor
open Go.RowKit

set_option maxHeartbeats 400000 in
set_option maxRecDepth 100000 in
theorem dollar_any (s : ByteArray) (w : World) (hs : s.size ≤ maxLen) :
    Calls Tryd.prog 32 #[.string s] w fun e w' =>
      e = .returned (.tuple #[.agg #[.int .i64 (Ref.dollarP s).1, .string (Ref.dollarP s).2.1], .int .i64 ((Ref.dollarP s).2.2 : Nat)]) ∧ Below w.heap.size w w' := by
  unfold maxLen at hs
  by_cases h2 : 2 ≤ s.size
  · have h2i : decide ((s.size : Int) < 2) = false := by simp; omega
    go_enter Tryd.func32, Tryd.ntmps32
    go_wp2
    rotate_left 3
    · go_loop [4] (fun i => ∃ k : Nat, 2 ≤ k ∧ k ≤ s.size ∧ i = .int .i64 k ∧ k ≤ Ref.closeAt s) (fun i => s.size - (intOf i).toNat)
      case atStart => exact ⟨2, by omega, by omega, rfl, by unfold Ref.closeAt; omega⟩
      case round =>
        obtain ⟨k, hk2, hks, rfl, hc0⟩ := hrel
        have hcl : Hid (k ≤ Ref.closeAt s) := hc0
        clear hc0
        by_cases hlt : k < s.size
        · go_wp2_with (go_at_call 33; refine (isName_any (s.extract 2 k) _ ?_).mono ?_; (simp [maxLen]; omega); rintro e w' ⟨rfl, rfl⟩)
          · have e1 : ((s[1]'(by omega)).toNat : Int) = 123 := by apply eq_of_beq; assumption
            have e2 : (s[k].toNat : Int) = 125 := by apply eq_of_beq; assumption
            have hd := Ref.dollarP_name s (by omega) e1 k hlt (Ref.closeAt_hit s k hk2 hlt hcl.out e2) true (by assumption)
            exact bodyPost_ret (v := .tuple #[.agg #[.int .i64 4, .string (s.extract 2 k)], .int .i64 ((k : Int) + 1)]) (by simp [results, Tryd.results32, go_sem]) rfl ⟨Ref.part_ends s _ _ (k + 1) _ hd (by go_num), (Below.refl _ _).alloc (Nat.le_refl _) _⟩
          · have e1 : ((s[1]'(by omega)).toNat : Int) = 123 := by apply eq_of_beq; assumption
            have e2 : (s[k].toNat : Int) = 125 := by apply eq_of_beq; assumption
            have hd := Ref.dollarP_name s (by omega) e1 k hlt (Ref.closeAt_hit s k hk2 hlt hcl.out e2) false (by assumption)
            exact bodyPost_ret (v := .tuple #[.agg #[.int .i64 0, .string ⟨#[]⟩], .int .i64 0]) (by simp [results, Tryd.results32, go_sem]) rfl ⟨Ref.part_ends s _ _ 0 _ hd rfl, (Below.refl _ _).alloc (Nat.le_refl _) _⟩
          · have e2 : (s[k].toNat : Int) ≠ 125 := by apply ne_of_beq_false; assumption
            exact ⟨⟨k + 1, by omega, by omega, by go_num, Ref.closeAt_miss s k hk2 hlt hcl.out e2⟩, by simp [intOf]; omega⟩
        · have e1 : ((s[1]'(by omega)).toNat : Int) = 123 := by apply eq_of_beq; assumption
          have hd := Ref.dollarP_open s (by omega) e1 (Ref.closeAt_end s k hk2 hlt hks hcl.out)
          have HD : Hid (Ref.dollarP s = (0, ⟨#[]⟩, 0)) := hd
          clear hd e1
          go_wp2
          exact bodyPost_ret (v := .tuple #[.agg #[.int .i64 0, .string ⟨#[]⟩], .int .i64 0]) (by simp [results, Tryd.results32, go_sem]) rfl ⟨Ref.part_ends s _ _ 0 _ HD.out rfl, (Below.refl _ _).alloc (Nat.le_refl _) _⟩
    all_goals simp only [beq_iff_eq, beq_eq_false_iff_ne, ne_eq] at *
    · exact bodyPost_ret (v := .tuple #[.agg #[.int .i64 0, .string ⟨#[]⟩], .int .i64 0]) (by simp [results, Tryd.results32, go_sem]) rfl ⟨Ref.part_ends s _ _ 0 _ (Ref.dollarP_other s (by omega) (by omega)) rfl, (Below.refl _ _).alloc (Nat.le_refl _) _⟩
    all_goals
      exact bodyPost_ret (v := .tuple #[.agg #[.int .i64 1, .string (s.extract 1 2)], .int .i64 2]) (by simp [results, Tryd.results32, go_sem]) rfl ⟨Ref.part_ends s _ _ 2 _ (Ref.dollarP_lit s (by omega) (by omega)) rfl, (Below.refl _ _).alloc (Nat.le_refl _) _⟩
  · go_enter Tryd.func32, Tryd.ntmps32
    go_wp2
    exact bodyPost_ret (v := .tuple #[.agg #[.int .i64 0, .string ⟨#[]⟩], .int .i64 0]) (by simp [results, Tryd.results32, go_sem]) rfl ⟨Ref.part_ends s _ _ 0 _ (Ref.dollarP_short s (by omega)) rfl, (Below.refl _ _).alloc (Nat.le_refl _) _⟩

end Go.Proofs.YtdakgnaojakldaaDoor
