/- What holds while the reference's statement is at work; where it gives up at once. -/
import Derived.Test.YtdakgnaojakldaaGreatDoorDocN
namespace Go.Proofs.YtdakgnaojakldaaGreatDoor
open Go.RowKit

def RStmt (w : World) (base : Nat) (l1 l2 l3 lc : Value) (R : Rd.StmtR) : Prop :=
  w.ownsRow base 9 1 l1 R.who.2.length (Ref.strCells R.who.2) ∧ w.ownsRow base 9 1 l2 R.act.2.length (Ref.strCells R.act.2) ∧ w.ownsRow base 9 1 l3 R.on.2.length (Ref.strCells R.on.2) ∧ RConds w base lc R.cs

def StPost (w : World) (R : Rd.StmtR) (e : Ending) (w' : World) : Prop :=
  ∃ l1 l2 l3 lc, e = .returned (.tuple #[.agg #[.string R.eff, .bool R.who.1, l1, .bool R.act.1, l2, .bool R.on.1, l3, lc], .agg #[.bool R.sh, .bool R.pt]]) ∧ Below w.heap.size w w' ∧ RStmt w' w.heap.size l1 l2 l3 lc R

theorem RStmt.kept {w w' : World} {base : Nat} {l1 l2 l3 lc : Value} {R : Rd.StmtR} (h : RStmt w base l1 l2 l3 lc R) (hk : ∀ i, base ≤ i → i < w.heap.size → w'.heap[i]? = w.heap[i]?) : RStmt w' base l1 l2 l3 lc R :=
  ⟨ownsRow_kept h.1 hk, ownsRow_kept h.2.1 hk, ownsRow_kept h.2.2.1 hk, h.2.2.2.kept hk⟩
theorem RStmt.mono {w : World} {base base' : Nat} {l1 l2 l3 lc : Value} {R : Rd.StmtR} (h : RStmt w base l1 l2 l3 lc R) (hb : base' ≤ base) : RStmt w base' l1 l2 l3 lc R :=
  ⟨ownsRow_mono h.1 hb, ownsRow_mono h.2.1 hb, ownsRow_mono h.2.2.1 hb, h.2.2.2.mono hb⟩

/-- The five blocks of statement: its two results, the node, the statement so far, the faults. -/
structure StAt (w : World) (nc sc : Array Value) (sh pt : Bool) (wx : World) : Prop where
  g : Below w.heap.size w wx
  r : wx.heap[w.heap.size]? = some (.cells #[.string ⟨#[]⟩, .bool false, .slice none 0 0, .bool false, .slice none 0 0, .bool false, .slice none 0 0, .slice none 0 0] 160 (0, 0))
  rf : wx.heap[w.heap.size + 1]? = some (.cells #[.bool false, .bool false] 162 (0, 0))
  n : wx.heap[w.heap.size + 2]? = some (.cells nc 152 (0, 0))
  s : wx.heap[w.heap.size + 3]? = some (.cells sc 160 (0, 0))
  f : FltAt wx (w.heap.size + 4) sh pt

theorem five_blocks (w : World) (a b c d e : Obj) : (((((w.alloc a).alloc b).alloc c).alloc d).alloc e).heap[w.heap.size]? = some a ∧ (((((w.alloc a).alloc b).alloc c).alloc d).alloc e).heap[w.heap.size + 1]? = some b ∧ (((((w.alloc a).alloc b).alloc c).alloc d).alloc e).heap[w.heap.size + 2]? = some c ∧
    (((((w.alloc a).alloc b).alloc c).alloc d).alloc e).heap[w.heap.size + 3]? = some d ∧ (((((w.alloc a).alloc b).alloc c).alloc d).alloc e).heap[w.heap.size + 4]? = some e := by
  obtain ⟨t1, t2, t3⟩ := three_blocks w a b c
  have hz : (((w.alloc a).alloc b).alloc c).heap.size = w.heap.size + 3 := by simp
  obtain ⟨u1, u2⟩ := two_blocks (((w.alloc a).alloc b).alloc c) d e
  rw [hz] at u1 u2
  have k : ∀ i, i < w.heap.size + 3 → (((((w.alloc a).alloc b).alloc c).alloc d).alloc e).heap[i]? = (((w.alloc a).alloc b).alloc c).heap[i]? := by
    intro i hi
    rw [Below.heap_alloc _ _ _ (by simp; omega), Below.heap_alloc _ _ _ (by simp; omega)]
  exact ⟨(k _ (by omega)).trans t1, (k _ (by omega)).trans t2, (k _ (by omega)).trans t3, u1, u2⟩

theorem StAt.start (w : World) (nc : Array Value) :
    StAt w nc #[.string ⟨#[]⟩, .bool false, .slice none 0 0, .bool false, .slice none 0 0, .bool false, .slice none 0 0, .slice none 0 0] false false
      (((((w.alloc (.cells #[.string ⟨#[]⟩, .bool false, .slice none 0 0, .bool false, .slice none 0 0, .bool false, .slice none 0 0, .slice none 0 0] 160)).alloc (.cells #[.bool false, .bool false] 162)).alloc (.cells nc 152)).alloc (.cells #[.string ⟨#[]⟩, .bool false, .slice none 0 0, .bool false, .slice none 0 0, .bool false, .slice none 0 0, .slice none 0 0] 160)).alloc (.cells #[.bool false, .bool false] 162)) := by
  obtain ⟨t1, t2, t3, t4, t5⟩ := five_blocks w (.cells #[.string ⟨#[]⟩, .bool false, .slice none 0 0, .bool false, .slice none 0 0, .bool false, .slice none 0 0, .slice none 0 0] 160) (.cells #[.bool false, .bool false] 162) (.cells nc 152) (.cells #[.string ⟨#[]⟩, .bool false, .slice none 0 0, .bool false, .slice none 0 0, .bool false, .slice none 0 0, .slice none 0 0] 160) (.cells #[.bool false, .bool false] 162)
  exact ⟨((((((Below.refl _ _).alloc (Nat.le_refl _) _).alloc (by simp) _).alloc (by simp; omega) _).alloc (by simp; omega) _).alloc (by simp; omega) _), t1, t2, t3, t4, t5⟩

theorem StAt.size {w wx : World} {nc sc : Array Value} {sh pt : Bool} (h : StAt w nc sc sh pt wx) : w.heap.size + 5 ≤ wx.heap.size := lt_of_block h.f

theorem StAt.below {w wx wy : World} {nc sc : Array Value} {sh pt : Bool} (h : StAt w nc sc sh pt wx) (hb : Below wx.heap.size wx wy) : StAt w nc sc sh pt wy := by
  have hz := h.size
  exact ⟨h.g.trans (hb.mono (by omega)), (hb.block _ (by omega)).trans h.r, (hb.block _ (by omega)).trans h.rf, (hb.block _ (by omega)).trans h.n, (hb.block _ (by omega)).trans h.s, h.f.below hb⟩

theorem StAt.grown {w wx wy : World} {nc sc : Array Value} {sh pt sh' pt' : Bool} (h : StAt w nc sc sh pt wx) (hg : wx.grownBy wy (some (w.heap.size + 4))) (hf : FltAt wy (w.heap.size + 4) sh' pt') : StAt w nc sc sh' pt' wy := by
  have hz := h.size
  exact ⟨h.g.trans (But.below hg (by omega) (by omega)), (hg.block _ (by omega) (by simp)).trans h.r, (hg.block _ (by omega) (by simp)).trans h.rf, (hg.block _ (by omega) (by simp)).trans h.n, (hg.block _ (by omega) (by simp)).trans h.s, hf⟩

theorem StAt.shape {w wx : World} {nc sc : Array Value} {sh pt : Bool} (h : StAt w nc sc sh pt wx) (x : Bool) : StAt w nc sc x pt (wx.setCell ⟨w.heap.size + 4, 0, none⟩ (.bool x)) :=
  h.grown (But.set _ _ _ _) (h.f.shape x)

theorem StAt.put {w wx : World} {nc sc : Array Value} {sh pt : Bool} (h : StAt w nc sc sh pt wx) (o : Nat) (u : Value) (cc : Array Value) (hcc : cc = sc.set! o u) : StAt w nc cc sh pt (wx.setCell ⟨w.heap.size + 3, o, none⟩ u) := by
  subst hcc
  have ne : ∀ i, i ≠ w.heap.size + 3 → (wx.setCell ⟨w.heap.size + 3, o, none⟩ u).heap[i]? = wx.heap[i]? := fun i hi => Below.heap_setCell _ _ _ _ (by simp only; omega)
  exact ⟨h.g.setCell (by simp only; omega) _, (ne _ (by omega)).trans h.r, (ne _ (by omega)).trans h.rf, (ne _ (by omega)).trans h.n, heap_setCell_same wx _ o _ _ _ h.s, (ne _ (by omega)).trans h.f⟩

theorem StAt.cells {w wx : World} {n0 n1 n2 n3 c0 c1 c2 c3 c4 c5 c6 c7 : Value} {sh pt : Bool} (h : StAt w #[n0, n1, n2, n3] #[c0, c1, c2, c3, c4, c5, c6, c7] sh pt wx) :
    (wx.cell? ⟨w.heap.size + 2, 0, none⟩ = some n0 ∧ wx.cell? ⟨w.heap.size + 2, 1, none⟩ = some n1 ∧ wx.cell? ⟨w.heap.size + 2, 2, none⟩ = some n2 ∧ wx.cell? ⟨w.heap.size + 2, 3, none⟩ = some n3) ∧
    (wx.cell? ⟨w.heap.size + 3, 0, none⟩ = some c0 ∧ wx.cell? ⟨w.heap.size + 3, 1, none⟩ = some c1 ∧ wx.cell? ⟨w.heap.size + 3, 2, none⟩ = some c2 ∧ wx.cell? ⟨w.heap.size + 3, 3, none⟩ = some c3 ∧ wx.cell? ⟨w.heap.size + 3, 4, none⟩ = some c4 ∧ wx.cell? ⟨w.heap.size + 3, 5, none⟩ = some c5 ∧ wx.cell? ⟨w.heap.size + 3, 6, none⟩ = some c6 ∧ wx.cell? ⟨w.heap.size + 3, 7, none⟩ = some c7) ∧
    (∀ o, wx.frozen? ⟨w.heap.size + 3, o, none⟩ = false) ∧
    (wx.cell? ⟨w.heap.size + 4, 0, none⟩ = some (.bool sh) ∧ wx.cell? ⟨w.heap.size + 4, 1, none⟩ = some (.bool pt) ∧ wx.frozen? ⟨w.heap.size + 4, 0, none⟩ = false) :=
  ⟨⟨(cells_of_block h.n 0).1, (cells_of_block h.n 1).1, (cells_of_block h.n 2).1, (cells_of_block h.n 3).1⟩, ⟨(cells_of_block h.s 0).1, (cells_of_block h.s 1).1, (cells_of_block h.s 2).1, (cells_of_block h.s 3).1, (cells_of_block h.s 4).1, (cells_of_block h.s 5).1, (cells_of_block h.s 6).1, (cells_of_block h.s 7).1⟩,
   fun o => (cells_of_block h.s o).2, h.f.cell.1, h.f.cell.2.1, h.f.cell.2.2.1⟩

theorem StAt.res {w wx : World} {nc sc : Array Value} {sh pt : Bool} (h : StAt w nc sc sh pt wx) :
    (wx.cell? ⟨w.heap.size, 0, none⟩ = some (.string ⟨#[]⟩) ∧ wx.cell? ⟨w.heap.size, 1, none⟩ = some (.bool false) ∧ wx.cell? ⟨w.heap.size, 2, none⟩ = some (.slice none 0 0) ∧ wx.cell? ⟨w.heap.size, 3, none⟩ = some (.bool false) ∧ wx.cell? ⟨w.heap.size, 4, none⟩ = some (.slice none 0 0) ∧ wx.cell? ⟨w.heap.size, 5, none⟩ = some (.bool false) ∧ wx.cell? ⟨w.heap.size, 6, none⟩ = some (.slice none 0 0) ∧ wx.cell? ⟨w.heap.size, 7, none⟩ = some (.slice none 0 0)) ∧
    (wx.cell? ⟨w.heap.size + 1, 0, none⟩ = some (.bool false) ∧ wx.cell? ⟨w.heap.size + 1, 1, none⟩ = some (.bool false)) ∧ (∀ o, wx.frozen? ⟨w.heap.size, o, none⟩ = false) ∧ (∀ o, wx.frozen? ⟨w.heap.size + 1, o, none⟩ = false) :=
  ⟨⟨(cells_of_block h.r 0).1, (cells_of_block h.r 1).1, (cells_of_block h.r 2).1, (cells_of_block h.r 3).1, (cells_of_block h.r 4).1, (cells_of_block h.r 5).1, (cells_of_block h.r 6).1, (cells_of_block h.r 7).1⟩, ⟨(cells_of_block h.rf 0).1, (cells_of_block h.rf 1).1⟩, fun o => (cells_of_block h.r o).2, fun o => (cells_of_block h.rf o).2⟩

/-- Eight cells of a block, written one after the other. -/
def set8 (w : World) (b : Nat) (x0 x1 x2 x3 x4 x5 x6 x7 : Value) : World := (((((((w.setCell ⟨b, 0, none⟩ x0).setCell ⟨b, 1, none⟩ x1).setCell ⟨b, 2, none⟩ x2).setCell ⟨b, 3, none⟩ x3).setCell ⟨b, 4, none⟩ x4).setCell ⟨b, 5, none⟩ x5).setCell ⟨b, 6, none⟩ x6).setCell ⟨b, 7, none⟩ x7
def set2 (w : World) (b : Nat) (x0 x1 : Value) : World := (w.setCell ⟨b, 0, none⟩ x0).setCell ⟨b, 1, none⟩ x1

theorem set_one {w : World} {b : Nat} {t : TypeId} {cs : Array Value} (h : w.heap[b]? = some (.cells cs t (0, 0))) (o : Nat) (u : Value) : (w.setCell ⟨b, o, none⟩ u).heap[b]? = some (.cells (cs.set! o u) t (0, 0)) := heap_setCell_same w b o _ _ _ h
theorem set8_block {w : World} {b : Nat} {t : TypeId} {c0 c1 c2 c3 c4 c5 c6 c7 : Value} (h : w.heap[b]? = some (.cells #[c0, c1, c2, c3, c4, c5, c6, c7] t (0, 0))) (x0 x1 x2 x3 x4 x5 x6 x7 : Value) : (set8 w b x0 x1 x2 x3 x4 x5 x6 x7).heap[b]? = some (.cells #[x0, x1, x2, x3, x4, x5, x6, x7] t (0, 0)) := by
  have e0 : (#[c0, c1, c2, c3, c4, c5, c6, c7] : Array Value).set! 0 x0 = #[x0, c1, c2, c3, c4, c5, c6, c7] := rfl
  have h0 := set_one h 0 x0
  rw [e0] at h0
  have e1 : (#[x0, c1, c2, c3, c4, c5, c6, c7] : Array Value).set! 1 x1 = #[x0, x1, c2, c3, c4, c5, c6, c7] := rfl
  have h1 := set_one h0 1 x1
  rw [e1] at h1
  have e2 : (#[x0, x1, c2, c3, c4, c5, c6, c7] : Array Value).set! 2 x2 = #[x0, x1, x2, c3, c4, c5, c6, c7] := rfl
  have h2 := set_one h1 2 x2
  rw [e2] at h2
  have e3 : (#[x0, x1, x2, c3, c4, c5, c6, c7] : Array Value).set! 3 x3 = #[x0, x1, x2, x3, c4, c5, c6, c7] := rfl
  have h3 := set_one h2 3 x3
  rw [e3] at h3
  have e4 : (#[x0, x1, x2, x3, c4, c5, c6, c7] : Array Value).set! 4 x4 = #[x0, x1, x2, x3, x4, c5, c6, c7] := rfl
  have h4 := set_one h3 4 x4
  rw [e4] at h4
  have e5 : (#[x0, x1, x2, x3, x4, c5, c6, c7] : Array Value).set! 5 x5 = #[x0, x1, x2, x3, x4, x5, c6, c7] := rfl
  have h5 := set_one h4 5 x5
  rw [e5] at h5
  have e6 : (#[x0, x1, x2, x3, x4, x5, c6, c7] : Array Value).set! 6 x6 = #[x0, x1, x2, x3, x4, x5, x6, c7] := rfl
  have h6 := set_one h5 6 x6
  rw [e6] at h6
  have e7 : (#[x0, x1, x2, x3, x4, x5, x6, c7] : Array Value).set! 7 x7 = #[x0, x1, x2, x3, x4, x5, x6, x7] := rfl
  have h7 := set_one h6 7 x7
  rw [e7] at h7
  exact h7
theorem set2_block {w : World} {b : Nat} {t : TypeId} {c0 c1 : Value} (h : w.heap[b]? = some (.cells #[c0, c1] t (0, 0))) (x0 x1 : Value) : (set2 w b x0 x1).heap[b]? = some (.cells #[x0, x1] t (0, 0)) :=
  heap_setCell_same _ b 1 _ _ _ (heap_setCell_same _ b 0 _ _ _ h)
theorem set8_other (w : World) (b : Nat) (x0 x1 x2 x3 x4 x5 x6 x7 : Value) (i : Nat) (hi : i ≠ b) : (set8 w b x0 x1 x2 x3 x4 x5 x6 x7).heap[i]? = w.heap[i]? := by
  unfold set8
  iterate 8 rw [Below.heap_setCell _ _ _ _ (by simp only; exact hi)]
theorem set2_other (w : World) (b : Nat) (x0 x1 : Value) (i : Nat) (hi : i ≠ b) : (set2 w b x0 x1).heap[i]? = w.heap[i]? := by
  unfold set2
  iterate 2 rw [Below.heap_setCell _ _ _ _ (by simp only; exact hi)]
theorem set8_below {w0 w : World} {B b : Nat} (h : Below B w0 w) (hb : B ≤ b) (x0 x1 x2 x3 x4 x5 x6 x7 : Value) : Below B w0 (set8 w b x0 x1 x2 x3 x4 x5 x6 x7) :=
  (((((((h.setCell hb _).setCell hb _).setCell hb _).setCell hb _).setCell hb _).setCell hb _).setCell hb _).setCell hb _
theorem set2_below {w0 w : World} {B b : Nat} (h : Below B w0 w) (hb : B ≤ b) (x0 x1 : Value) : Below B w0 (set2 w b x0 x1) := (h.setCell hb _).setCell hb _

/-- What is left where the results are laid: by the first order of the two stores. -/
theorem StAt.fin {w wx : World} {nc sc : Array Value} {sh pt : Bool} (h : StAt w nc sc sh pt wx) (x0 x1 x2 x3 x4 x5 x6 x7 y0 y1 : Value) :
    Below w.heap.size w (set2 (set8 wx w.heap.size x0 x1 x2 x3 x4 x5 x6 x7) (w.heap.size + 1) y0 y1) ∧ (∀ i, w.heap.size + 2 ≤ i → (set2 (set8 wx w.heap.size x0 x1 x2 x3 x4 x5 x6 x7) (w.heap.size + 1) y0 y1).heap[i]? = wx.heap[i]?) ∧
    (set2 (set8 wx w.heap.size x0 x1 x2 x3 x4 x5 x6 x7) (w.heap.size + 1) y0 y1).heap[w.heap.size]? = some (.cells #[x0, x1, x2, x3, x4, x5, x6, x7] 160 (0, 0)) ∧
    (set2 (set8 wx w.heap.size x0 x1 x2 x3 x4 x5 x6 x7) (w.heap.size + 1) y0 y1).heap[w.heap.size + 1]? = some (.cells #[y0, y1] 162 (0, 0)) := by
  refine ⟨set2_below (set8_below h.g (Nat.le_refl _) _ _ _ _ _ _ _ _) (by omega) _ _, fun i hi => ?_, ?_, set2_block ((set8_other _ _ _ _ _ _ _ _ _ _ _ (by omega)).trans h.rf) _ _⟩
  · rw [set2_other _ _ _ _ _ (by omega), set8_other _ _ _ _ _ _ _ _ _ _ _ (by omega)]
  · rw [set2_other _ _ _ _ _ (by omega)]; exact set8_block h.r _ _ _ _ _ _ _ _
/-- By the other order. -/
theorem StAt.fin2 {w wx : World} {nc sc : Array Value} {sh pt : Bool} (h : StAt w nc sc sh pt wx) (x0 x1 x2 x3 x4 x5 x6 x7 y0 y1 : Value) :
    Below w.heap.size w (set8 (set2 wx (w.heap.size + 1) y0 y1) w.heap.size x0 x1 x2 x3 x4 x5 x6 x7) ∧ (∀ i, w.heap.size + 2 ≤ i → (set8 (set2 wx (w.heap.size + 1) y0 y1) w.heap.size x0 x1 x2 x3 x4 x5 x6 x7).heap[i]? = wx.heap[i]?) ∧
    (set8 (set2 wx (w.heap.size + 1) y0 y1) w.heap.size x0 x1 x2 x3 x4 x5 x6 x7).heap[w.heap.size]? = some (.cells #[x0, x1, x2, x3, x4, x5, x6, x7] 160 (0, 0)) ∧
    (set8 (set2 wx (w.heap.size + 1) y0 y1) w.heap.size x0 x1 x2 x3 x4 x5 x6 x7).heap[w.heap.size + 1]? = some (.cells #[y0, y1] 162 (0, 0)) := by
  refine ⟨set8_below (set2_below h.g (by omega) _ _) (Nat.le_refl _) _ _ _ _ _ _ _ _, fun i hi => ?_, set8_block ((set2_other _ _ _ _ _ (by omega)).trans h.r) _ _ _ _ _ _ _ _, ?_⟩
  · rw [set8_other _ _ _ _ _ _ _ _ _ _ _ (by omega), set2_other _ _ _ _ _ (by omega)]
  · rw [set8_other _ _ _ _ _ _ _ _ _ _ _ (by omega)]; exact set2_block h.rf _ _

theorem names5 {W : World} {g base : Nat} {a b c d e : ByteArray} (h : W.heap[g]? = some (.cells #[.string a, .string b, .string c, .string d, .string e] 9 (0, 0))) (hb : base ≤ g) :
    W.ownsRow base 9 1 (.slice (some ⟨g, 0, none⟩) 5 5) [a, b, c, d, e].length (Ref.strCells [a, b, c, d, e]) :=
  ⟨rfl, .inr ⟨g, 5, _, rfl, hb, h, by simp, by decide, rfl, rfl⟩⟩

end Go.Proofs.YtdakgnaojakldaaGreatDoor
