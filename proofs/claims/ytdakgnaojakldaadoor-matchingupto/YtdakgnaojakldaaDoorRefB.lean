/- Contract of the reference's character. -/
import Derived.Test.YtdakgnaojakldaaDoorRefA
namespace Go.Proofs.YtdakgnaojakldaaDoor
open Go.RowKit

theorem lead_at (b n lo hi : Int) (w : World) (h0 : 0 ≤ b) (h1 : b ≤ 255) (hr : Ref.leadN b = (n, lo, hi)) :
    Calls Tryd.prog 54 #[.int .u8 b] w fun e w' => e = .returned (.tuple #[.int .i64 n, .int .u8 lo, .int .u8 hi]) ∧ w' = w := by
  have h := lead_any b w h0 h1
  rw [hr] at h; exact h

set_option maxHeartbeats 400000 in
set_option maxRecDepth 100000 in
theorem character_any (s : ByteArray) (w : World) (hs : s.size ≤ maxLen) (hp : 0 < s.size) :
    Calls Tryd.prog 31 #[.string s] w fun e w' =>
      e = .returned (.tuple #[.string (Ref.charStr s), .bool (Ref.charOk s)]) ∧ w' = w := by
  unfold maxLen at hs
  obtain ⟨n, lo, hi, hr⟩ : ∃ n lo hi, Ref.leadN (s[0].toNat : Int) = (n, lo, hi) := ⟨_, _, _, rfl⟩
  have hbd := Ref.leadN_bounds (s[0].toNat : Int)
  rw [hr] at hbd
  simp only at hbd
  obtain ⟨n0, n3, l0, l1, g0, g1⟩ := hbd
  have HR : Hid (Ref.leadN (s[0].toNat : Int) = (n, lo, hi)) := hr
  clear hr
  go_enter Tryd.func31, Tryd.ntmps31
  go_wp2_with (go_at_call 54; refine (lead_at _ n lo hi _ (Ref.b0 _) (Ref.b255 _) HR.out).mono ?_; rintro e w' ⟨rfl, rfl⟩)
  all_goals try (go_loop [5, 6, 7] (fun low high i => ∃ k : Nat, 1 ≤ k ∧ (k : Int) ≤ n + 1 ∧ i = .int .i64 k ∧ low = .int .u8 (Ref.loAt lo k) ∧ high = .int .u8 (Ref.hiAt hi k) ∧ Ref.contTo s.data.toList lo hi (k - 1) = true) (fun _ _ i => (n + 1).toNat - (intOf i).toNat))
  · go_ret2
    exact ⟨Ref.char_ends s 1 (Ref.charLen_ascii s hp (by assumption)) _ _ rfl rfl, rfl⟩
  · go_ret2
    have hn0 : n = 0 := by assumption
    subst hn0
    exact ⟨Ref.char_ends s 0 (Ref.charLen_lead0 s hp lo hi HR.out (by omega)) _ _ rfl rfl, rfl⟩
  · go_ret2
    have hor : (n == 0) = true ∨ (s.size : Int) < n + 1 := by assumption
    simp only [beq_iff_eq] at hor
    exact ⟨Ref.char_ends s 0 (Ref.charLen_short s hp n lo hi HR.out (by omega) (by omega) (by omega)) _ _ rfl rfl, rfl⟩
  case atStart => exact ⟨1, by omega, by omega, rfl, rfl, rfl, rfl⟩
  case round =>
    obtain ⟨k, hk1, hkn, rfl, rfl, rfl, hc0⟩ := hrel
    have hc : Hid (Ref.contTo s.data.toList lo hi (k - 1) = true) := hc0
    clear hc0
    by_cases hlt : (k : Int) ≤ n
    · have hks : k < s.size := by omega
      have hlo : 0 ≤ Ref.loAt lo k ∧ Ref.loAt lo k ≤ 255 := by unfold Ref.loAt; split <;> omega
      have hhi : 0 ≤ Ref.hiAt hi k ∧ Ref.hiAt hi k ≤ 255 := by unfold Ref.hiAt; split <;> omega
      go_wp2
      · go_ret2
        exact ⟨Ref.char_ends s 0 (Ref.charLen_bad s hp n lo hi HR.out (by omega) (by omega) (by omega) k hk1 hks hlt hc.out (by omega)) _ _ rfl rfl, rfl⟩
      · go_round
        case rel => exact ⟨_, _, _, _, _, ⟨k + 1, by omega, by omega, by go_num, by rw [Ref.loAt_succ lo k hk1], by rw [Ref.hiAt_succ hi k hk1], Ref.contTo_good s lo hi k hk1 hks hc.out (by omega) (by omega)⟩, rfl, rfl, rfl, rfl, rfl⟩
        case measure => simp [intOf]; omega
      · go_ret2
        exact ⟨Ref.char_ends s 0 (Ref.charLen_bad s hp n lo hi HR.out (by omega) (by omega) (by omega) k hk1 hks hlt hc.out (by omega)) _ _ rfl rfl, rfl⟩
    · go_wp2
      go_ret2
      exact ⟨Ref.char_ends s k (Ref.charLen_good s hp _ lo hi HR.out (by omega) (by omega) (by omega) k hk1 (by omega) (by omega) hc.out) _ _ (by rw [if_neg (by omega), show (n + 1).toNat = k by omega]) (by rw [show (k != 0) = true by simp; omega]), rfl⟩

end Go.Proofs.YtdakgnaojakldaaDoor
