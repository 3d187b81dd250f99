/- Contracts of the program's shapeErrnoOf and errnoOf at a fault of patterns. -/
import Derived.Test.YtdakgnaojakldaaDoorPgP
import Derived.Test.YtdakgnaojakldaaDoorPgOb
import Derived.Test.YtdakgnaojakldaaDoorPgOc
import Derived.Test.YtdakgnaojakldaaDoorPgOd
namespace Go.Proofs.YtdakgnaojakldaaDoor
open Go.RowKit

/-- The text's error of length is some error that errors.New gave. -/
def LongAt (w : World) : Prop := ∃ a, w.cell? ⟨0, 0, none⟩ = some (.iface 147 (.pointer (some a)))

theorem LongAt.below {w w' : World} (h : LongAt w) (hb : Below w.heap.size w w') : LongAt w' := by
  obtain ⟨a, ha⟩ := h
  exact ⟨a, cell_later hb ha⟩

set_option maxHeartbeats 1000000 in
set_option maxRecDepth 100000 in
theorem shape_fault (k : Int) (w : World) (hg : ErrAt w) :
    Calls Tryd.prog 23 #[.iface 52 (.agg #[.int .i64 k])] w fun e w' => e = .returned (.tuple #[.int .i64 6, .int .i64 0]) ∧ Below w.heap.size w w' := by
  have b2 := fun O1 O2 => ((Below.refl _ w).alloc (Nat.le_refl _) O1).alloc (by simp) O2
  have c1 := fun O1 O2 => asMissStatement (.agg #[.int .i64 k]) ⟨w.heap.size, 0, none⟩ ((w.alloc O1).alloc O2) (hg.below (b2 O1 O2))
  go_enter Tryd.func23, Tryd.ntmps23
  go_wp2_with (first
    | (go_at_call 22; refine (asHit k ⟨w.heap.size + 1, 0, none⟩ (.int .i64 0) w1 (hg.below bw1) ?_ ?_).mono ?_; exact cell_later hb1 (by simp); (rw [hb1.frozen (by simp)]; simp); rintro e w2 ⟨rfl, hb2⟩)
    | (go_at_call 22; refine (c1 _ _).mono ?_; rintro e w1 ⟨rfl, hb1⟩; have bw1 : Below w.heap.size w w1 := (b2 _ _).trans (hb1.mono (by simp; omega))))
  go_ret2
  exact ⟨rfl, bw1.trans (hb2 w.heap.size (by simp) bw1.size)⟩

set_option maxHeartbeats 1000000 in
set_option maxRecDepth 100000 in
theorem errno_fault (k : Int) (w : World) (hg : ErrAt w) (hl : LongAt w) :
    Calls Tryd.prog 11 #[.iface 52 (.agg #[.int .i64 k])] w fun e w' => e = .returned (.tuple #[.int .i64 6, .int .i64 0]) ∧ Below w.heap.size w w' := by
  obtain ⟨aL, hL⟩ := hl
  have b3 := fun O1 O2 O3 => (((Below.refl _ w).alloc (Nat.le_refl _) O1).alloc (by simp) O2).alloc (by simp; omega) O3
  have hL3 := fun O1 O2 O3 => cell_later (b3 O1 O2 O3) hL
  have c0 := fun W => is_miss (.agg #[.int .i64 k]) aL W
  have c1 := fun O1 O2 O3 => asMissSyntax (.agg #[.int .i64 k]) ⟨w.heap.size, 0, none⟩ (((w.alloc O1).alloc O2).alloc O3) (hg.below (b3 O1 O2 O3))
  have c2 := fun W h => asMissDeep (.agg #[.int .i64 k]) ⟨w.heap.size + 1, 0, none⟩ W h
  have c3 := fun W h => asMissTwice (.agg #[.int .i64 k]) ⟨w.heap.size + 2, 0, none⟩ W h
  have c4 := fun W h => shape_fault k W h
  have HG : ∀ W, Below w.heap.size w W → ErrAt W := fun W h => hg.below h
  clear hg hL
  go_enter Tryd.func11, Tryd.ntmps11
  go_wp2_with (first
    | (go_at_call 21; refine (c0 _).mono ?_; rintro e w0 ⟨rfl, rfl⟩)
    | (go_at_call 23; refine (c4 w3 (HG _ bw3)).mono ?_; rintro e w4 ⟨rfl, hb4⟩)
    | (go_at_call 22; refine (c3 w2 (HG _ bw2)).mono ?_; rintro e w3 ⟨rfl, hb3⟩; have bw3 : Below w.heap.size w w3 := bw2.trans (hb3.mono bw2.size))
    | (go_at_call 22; refine (c2 w1 (HG _ bw1)).mono ?_; rintro e w2 ⟨rfl, hb2⟩; have bw2 : Below w.heap.size w w2 := bw1.trans (hb2.mono bw1.size))
    | (go_at_call 22; refine (c1 _ _ _).mono ?_; rintro e w1 ⟨rfl, hb1⟩; have bw1 : Below w.heap.size w w1 := (b3 _ _ _).trans (hb1.mono (by simp; omega))))
  go_ret2
  exact ⟨rfl, bw3.trans (hb4.mono bw3.size)⟩

end Go.Proofs.YtdakgnaojakldaaDoor
