/- Closed facts of the program, one by one. -/
import Derived.Test.YtdakgnaojakldaaGreatDoorRows
import Derived.JoinedCond
namespace Go.Proofs.YtdakgnaojakldaaGreatDoor.laws
theorem k_lo : (laidOutB Tryz.prog) = true := by kernel_rfl
theorem k_mr : (mapsRowed Tryz.prog) = true := by kernel_rfl
theorem k_s2 : ((Tryz.prog.stops == [])) = true := by kernel_rfl
theorem k_s4 : ((Tryz.prog.stopKnobs == [])) = true := by kernel_rfl
theorem k_sh : (Tryz.prog.stopsHeard) = true := by kernel_rfl
theorem k_me : (Tryz.prog.mayEnter) = true := by kernel_rfl
theorem k_and {a b : Bool} (h : a = true) (k : b = true) : (a && b) = true := by rw [h, k]; rfl
end Go.Proofs.YtdakgnaojakldaaGreatDoor.laws
