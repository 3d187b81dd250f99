/- Checks: the program's Check and the reference's answer the same, for every text. -/
import Derived.Test.YtdakgnaojakldaaGreatDoorDocT
import Derived.Test.YtdakgnaojakldaaGreatDoorJqI
namespace Go.Proofs.YtdakgnaojakldaaGreatDoor
open Go.RowKit

set_option maxHeartbeats 1000000 in
set_option maxRecDepth 100000 in
theorem checks_any (s : ByteArray) (aL : Addr) (w : World) (hC : CEnv w aL) (hs : s.size ≤ maxLen) :
    Calls Tryz.prog 3 #[.string s] w fun e w' => e = .returned (.bool true) ∧ Below w.heap.size w w' := by
  have c1 := check_p s aL w hC
  have c2 := fun W => refCheck_any s W hs
  obtain ⟨A, hA⟩ : ∃ x, Rd.docAns s = x := ⟨_, rfl⟩
  simp only [hA] at c1 c2
  obtain ⟨a, b⟩ := A
  simp only at c1 c2
  have C1 := hid c1
  have C2 := hid c2
  have d1 : (a == a) = true := by simp
  have d2 : ((b : Int) == (b : Int)) = true := by simp
  clear c1 c2 hA
  go_enter Tryz.func3, Tryz.ntmps3
  go_wp2_with (first
    | (go_at_call 14; refine (C2.out w1).mono ?_; rintro e w2 ⟨rfl, hb2⟩)
    | (go_at_call 13; refine C1.out.mono ?_; rintro e w1 ⟨rfl, hb1⟩))
  go_ret
  exact ⟨by simp, hb1.trans (hb2.mono hb1.size)⟩

end Go.Proofs.YtdakgnaojakldaaGreatDoor
