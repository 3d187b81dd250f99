/- Plain mathematics of the reference's patterns: the parts. -/
import Derived.Test.YtdakgnaojakldaaDoorRefMath
namespace Go.Proofs.YtdakgnaojakldaaDoor
namespace Ref

theorem dollarP_lit (s : ByteArray) (h2 : 1 < s.size) (h : (s[1].toNat : Int) = 36 ∨ (s[1].toNat : Int) = 42 ∨ (s[1].toNat : Int) = 63) : dollarP s = (1, s.extract 1 2, 2) := by
  unfold dollarP
  rw [if_neg (by omega), getD_at s 1 h2, if_pos (by omega)]

theorem dollarP_short (s : ByteArray) (h2 : s.size < 2) : dollarP s = (0, ⟨#[]⟩, 0) := by
  unfold dollarP; rw [if_pos h2]

theorem dollarP_other (s : ByteArray) (h2 : 1 < s.size) (h : (s[1].toNat : Int) ≠ 36 ∧ (s[1].toNat : Int) ≠ 42 ∧ (s[1].toNat : Int) ≠ 63 ∧ (s[1].toNat : Int) ≠ 123) : dollarP s = (0, ⟨#[]⟩, 0) := by
  unfold dollarP
  rw [if_neg (by omega), getD_at s 1 h2, if_neg (by omega), if_neg (by omega)]

theorem dollarP_name (s : ByteArray) (h2 : 1 < s.size) (h : (s[1].toNat : Int) = 123) (k : Nat) (hk : k < s.size) (hc : closeAt s = k) (b : Bool) (hb : isName (s.extract 2 k) = b) :
    dollarP s = if b then (4, s.extract 2 k, k + 1) else (0, ⟨#[]⟩, 0) := by
  unfold dollarP
  rw [if_neg (by omega), getD_at s 1 h2, if_neg (by omega), if_pos (by omega), hc, if_pos hk, hb]

theorem dollarP_open (s : ByteArray) (h2 : 1 < s.size) (h : (s[1].toNat : Int) = 123) (hc : closeAt s = s.size) : dollarP s = (0, ⟨#[]⟩, 0) := by
  unfold dollarP
  rw [if_neg (by omega), getD_at s 1 h2, if_neg (by omega), if_pos (by omega), hc, if_neg (by omega)]

theorem part_ends (s : ByteArray) (k : Int) (t : ByteArray) (n : Nat) (v : Value) (h : dollarP s = (k, t, n)) (hv : v = .int .i64 (n : Int)) :
    Ending.returned (.tuple #[.agg #[.int .i64 k, .string t], v]) = .returned (.tuple #[.agg #[.int .i64 (dollarP s).1, .string (dollarP s).2.1], .int .i64 ((dollarP s).2.2 : Nat)]) := by
  rw [h, hv]

end Ref
end Go.Proofs.YtdakgnaojakldaaDoor
