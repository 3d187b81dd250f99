/- Contract of the reference's Check. -/
import Derived.Test.YtdakgnaojakldaaGreatDoorDocS
namespace Go.Proofs.YtdakgnaojakldaaGreatDoor
open Go.RowKit

set_option maxHeartbeats 1000000 in
set_option maxRecDepth 100000 in
theorem refCheck_any (text : ByteArray) (w : World) (ht : text.size ≤ maxLen) :
    Calls Tryz.prog 14 #[.string text] w fun e w' => e = .returned (.tuple #[.int .i64 (Rd.docAns text).1, .int .i64 ((Rd.docAns text).2 : Int)]) ∧ Below w.heap.size w w' := by
  have c := document_any text w ht
  obtain ⟨A, hA⟩ : ∃ x, Rd.docAns text = x := ⟨_, rfl⟩
  obtain ⟨S, hS⟩ : ∃ x, refStmts text = x := ⟨_, rfl⟩
  rw [hA, hS] at c
  rw [hA]
  obtain ⟨a, b⟩ := A
  simp only at c ⊢
  have C := hid c
  clear c hA hS
  go_enter Tryz.func14, Tryz.ntmps14
  go_wp2_with (go_at_call 34; refine C.out.mono ?_; rintro e w1 ⟨lv, rfl, hb1, _⟩)
  go_ret2
  exact ⟨rfl, hb1⟩

end Go.Proofs.YtdakgnaojakldaaGreatDoor
