/- The witness of Cut: no statements and the number 0, in a world that holds the listed variables. -/
import Derived.Test.YtdakgnaojakldaaGreatDoorJxJ
namespace Go.Proofs.YtdakgnaojakldaaGreatDoor.cut
open Go.ChangeShapes Go.WideShapes Go.ChangeAt Go.RowKit Go.Joins Go.Deep

def wArgs : Array Value := #[.slice none 0 0, .int .i64 0]

theorem w_vars (os : Os) : ((laws.laidWorld os).forCall (fun _ _ => 0) ⟨#[], wArgs, []⟩).variablesRefB Tryz.prog = true := by kernel_rfl
theorem w_rest (os : Os) : (((laws.laidWorld os).forCall (fun _ _ => 0) ⟨#[], wArgs, []⟩).heap.toList.drop Tryz.prog.globals.size).take ((begin Tryz.prog (fun _ _ => 0) default).world.heap.size - Tryz.prog.globals.size) =
      (begin Tryz.prog (fun _ _ => 0) default).world.heap.toList.drop Tryz.prog.globals.size := by kernel_rfl
theorem w_ok (os : Os) : Input.okWideB Tryz.prog ((laws.laidWorld os).forCall (fun _ _ => 0) ⟨#[], wArgs, []⟩) 8 ⟨#[], wArgs, []⟩ = true := by kernel_rfl
theorem w_sized (os : Os) {H : Type} (enc : TypeId × Value → H) : (OpenSpec.ofChange Rows.cutSpec).bare.sizedB enc Tryz.prog Tryz.f8 false ((laws.laidWorld os).forCall (fun _ _ => 0) ⟨#[], wArgs, []⟩).memory wArgs 8 = true := by kernel_rfl
theorem w_init : Tryz.prog.inits.idxOf? 8 = none := by kernel_rfl

theorem reads (os : Os) {H : Type} (enc : TypeId × Value → H) : ∃ places, DataW.whole enc Tryz.prog ((laws.laidWorld os).forCall (fun _ _ => 0) ⟨#[], wArgs, []⟩).memory Tryz.f8.params.toList Rows.cutSpec.vars false wArgs.toList 8
    = some ([.nil, .lit (.int .i64 0)], [], places) := by
  have hw : (DataW.whole enc Tryz.prog ((laws.laidWorld os).forCall (fun _ _ => 0) ⟨#[], wArgs, []⟩).memory Tryz.f8.params.toList Rows.cutSpec.vars false wArgs.toList 8).map (fun x => (x.1, x.2.1)) =
      some ([.nil, .lit (.int .i64 0)], []) := by kernel_rfl
  obtain ⟨⟨x1, x2, x3⟩, hx, hx1⟩ := Option.map_eq_some_iff.1 hw
  simp only [Prod.mk.injEq] at hx1
  obtain ⟨rfl, rfl⟩ := hx1
  exact ⟨x3, hx⟩

end Go.Proofs.YtdakgnaojakldaaGreatDoor.cut
