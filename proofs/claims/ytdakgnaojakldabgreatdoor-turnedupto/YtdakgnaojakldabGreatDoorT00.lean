/- Small helps: a value and its name; a new block leaves all as it was. -/
import Derived.Test.YtdakgnaojakldabGreatDoorProg
import Derived.Below
import Derived.WalkKit
namespace Go.Proofs.YtdakgnaojakldabGreatDoor
open Go.RowKit
abbrev BA:=ByteArray
theorem Nm {α:Sort _} (a:α):∃x,a=x:=⟨_,rfl⟩
theorem nB (w:World) (O:Obj):Below w.heap.size w (w.alloc O):=(Below.refl _ w).alloc (Nat.le_refl _) O
theorem zb{w v:World}{a:Addr}{x:Value}(b:Below w.heap.size w v)(h:w.cell? a=some x):v.cell? a=some x:=by rw[b.cell (World.block_lt_of_cell? _ _ h)];exact h
end Go.Proofs.YtdakgnaojakldabGreatDoor
