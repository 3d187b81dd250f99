/- Statements in memory; what is read of a text and has no fault. -/
import Derived.Test.YtdakgnaojakldaaGreatDoorDocQ
import Derived.Test.YtdakgnaojakldaaGreatDoorJdE
namespace Go.Proofs.YtdakgnaojakldaaGreatDoor
open Go.RowKit

theorem statement_any (i : Nat) (w0 : World) (base b gg cap : Nat) (ns : List Ref.Node) (n : Ref.Node) (w : World) (hE : DocEnv w0 base b gg cap ns w) (hi : ns[i]? = some n) :
    Calls Tryz.prog 61 #[.pointer (some ⟨b, 0, none⟩), .int .i64 (i : Int)] w (StPost w (Rd.stmtN ns n)) := by
  by_cases h : Ref.onlyN n [Rd.bEffect, Rd.bWho, Rd.bDo, Rd.bOn, Rd.bIf] = false ∨ Ref.hasN n Rd.bEffect < 0 ∨ Ref.kindOf ns (Ref.hasN n Rd.bEffect) ≠ 3
  · have e : Rd.stmtN ns n = Rd.noStmt := by unfold Rd.stmtN; rw [if_pos h]
    rw [e]
    exact statement_bad i w0 base b gg cap ns n w hE hi h
  · exact statement_ok i w0 base b gg cap ns n w hE hi h

/-- The cells of a statement at place j of a row. -/
def RSt (w : World) (base : Nat) (xs : List Value) (j : Nat) (R : Rd.StmtR) : Prop :=
  ∃ l1 l2 l3 lc, xs[j * 8]? = some (.string R.eff) ∧ xs[j * 8 + 1]? = some (.bool R.who.1) ∧ xs[j * 8 + 2]? = some l1 ∧ xs[j * 8 + 3]? = some (.bool R.act.1) ∧ xs[j * 8 + 4]? = some l2 ∧ xs[j * 8 + 5]? = some (.bool R.on.1) ∧ xs[j * 8 + 6]? = some l3 ∧ xs[j * 8 + 7]? = some lc ∧ RStmt w base l1 l2 l3 lc R

def RStmts (w : World) (base : Nat) (lv : Value) (rs : List Rd.StmtR) : Prop :=
  ∃ xs, w.ownsRow base 160 8 lv rs.length xs ∧ ∀ j, (h : j < rs.length) → RSt w base xs j rs[j]

theorem RStmts.nil (w : World) (base : Nat) : RStmts w base (.slice none 0 0) [] := ⟨[], World.ownsRow_nil _ _ _ _, fun j hj => by simp at hj⟩

theorem RStmts.kept {w w' : World} {base : Nat} {lv : Value} {rs : List Rd.StmtR} (h : RStmts w base lv rs) (hk : ∀ i, base ≤ i → i < w.heap.size → w'.heap[i]? = w.heap[i]?) : RStmts w' base lv rs := by
  obtain ⟨xs, h1, h2⟩ := h
  refine ⟨xs, ownsRow_kept h1 hk, fun j hj => ?_⟩
  obtain ⟨l1, l2, l3, lc, a0, a1, a2, a3, a4, a5, a6, a7, e⟩ := h2 j hj
  exact ⟨l1, l2, l3, lc, a0, a1, a2, a3, a4, a5, a6, a7, e.kept hk⟩

theorem RStmts.mono {w : World} {base base' : Nat} {lv : Value} {rs : List Rd.StmtR} (h : RStmts w base lv rs) (hb : base' ≤ base) : RStmts w base' lv rs := by
  obtain ⟨xs, h1, h2⟩ := h
  refine ⟨xs, ownsRow_mono h1 hb, fun j hj => ?_⟩
  obtain ⟨l1, l2, l3, lc, a0, a1, a2, a3, a4, a5, a6, a7, e⟩ := h2 j hj
  exact ⟨l1, l2, l3, lc, a0, a1, a2, a3, a4, a5, a6, a7, e.mono hb⟩

theorem RConds.other {W w3 : World} {base base' : Nat} {e : TypeId} {size n : Nat} {lv lc : Value} {xs : List Value} {cs : List Ref.CondR} (own : W.ownsRow base e size lv n xs) (h : RConds W base' lc cs) (h1 : e ≠ 244) (h2 : e ≠ 9) (hg : W.grownBy w3 lv.ownBlock) : RConds w3 base' lc cs := by
  obtain ⟨ys, a, b⟩ := h
  refine ⟨ys, row_other own a h1 hg, fun j hj => ?_⟩
  obtain ⟨l, p, q, r, s, t⟩ := b j hj
  exact ⟨l, p, q, r, s, row_other own t h2 hg⟩

theorem RStmt.other {W w3 : World} {base base' : Nat} {lv l1 l2 l3 lc : Value} {n : Nat} {xs : List Value} {R : Rd.StmtR} (own : W.ownsRow base 160 8 lv n xs) (h : RStmt W base' l1 l2 l3 lc R) (hg : W.grownBy w3 lv.ownBlock) : RStmt w3 base' l1 l2 l3 lc R :=
  ⟨row_other own h.1 (by decide) hg, row_other own h.2.1 (by decide) hg, row_other own h.2.2.1 (by decide) hg, h.2.2.2.other own (by decide) (by decide) hg⟩

theorem RStmts.snoc {W w3 : World} {base : Nat} {lv v' l1 l2 l3 lc : Value} {rs : List Rd.StmtR} {xs : List Value} (own : W.ownsRow base 160 8 lv rs.length xs) (hc : ∀ j, (h : j < rs.length) → RSt W base xs j rs[j]) (R : Rd.StmtR) (hR : RStmt W base l1 l2 l3 lc R)
    (hgrow : W.grownBy w3 lv.ownBlock) (hown' : w3.ownsRow base 160 8 v' (rs.length + 1) (xs ++ [.string R.eff, .bool R.who.1, l1, .bool R.act.1, l2, .bool R.on.1, l3, lc])) : RStmts w3 base v' (rs ++ [R]) := by
  have hx : xs.length = rs.length * 8 := own.1
  refine ⟨_, by rw [List.length_append]; exact hown', fun j hj => ?_⟩
  rw [List.length_append, List.length_singleton] at hj
  by_cases hlt : j < rs.length
  · rw [List.getElem_append_left hlt]
    obtain ⟨l1, l2, l3, lc, a0, a1, a2, a3, a4, a5, a6, a7, e⟩ := hc j hlt
    refine ⟨l1, l2, l3, lc, ?_, ?_, ?_, ?_, ?_, ?_, ?_, ?_, e.other own hgrow⟩
    · rw [List.getElem?_append_left (by omega)]; exact a0
    · rw [List.getElem?_append_left (by omega)]; exact a1
    · rw [List.getElem?_append_left (by omega)]; exact a2
    · rw [List.getElem?_append_left (by omega)]; exact a3
    · rw [List.getElem?_append_left (by omega)]; exact a4
    · rw [List.getElem?_append_left (by omega)]; exact a5
    · rw [List.getElem?_append_left (by omega)]; exact a6
    · rw [List.getElem?_append_left (by omega)]; exact a7
  · have hj2 : j = rs.length := by omega
    subst hj2
    rw [List.getElem_append_right (Nat.le_refl _)]
    simp only [Nat.sub_self, List.getElem_cons_zero]
    refine ⟨l1, l2, l3, lc, ?_, ?_, ?_, ?_, ?_, ?_, ?_, ?_, hR.other own hgrow⟩
    · rw [List.getElem?_append_right (by omega), hx, Nat.sub_self]; rfl
    · rw [List.getElem?_append_right (by omega), hx, show rs.length * 8 + 1 - rs.length * 8 = 1 by omega]; rfl
    · rw [List.getElem?_append_right (by omega), hx, show rs.length * 8 + 2 - rs.length * 8 = 2 by omega]; rfl
    · rw [List.getElem?_append_right (by omega), hx, show rs.length * 8 + 3 - rs.length * 8 = 3 by omega]; rfl
    · rw [List.getElem?_append_right (by omega), hx, show rs.length * 8 + 4 - rs.length * 8 = 4 by omega]; rfl
    · rw [List.getElem?_append_right (by omega), hx, show rs.length * 8 + 5 - rs.length * 8 = 5 by omega]; rfl
    · rw [List.getElem?_append_right (by omega), hx, show rs.length * 8 + 6 - rs.length * 8 = 6 by omega]; rfl
    · rw [List.getElem?_append_right (by omega), hx, show rs.length * 8 + 7 - rs.length * 8 = 7 by omega]; rfl

/-- What holds of the machine that Read hands over: only objects have names. -/
theorem readR_non (text : ByteArray) (h : (readR text).1 = 0) : Ref.NoN (readR text).2.2.nodes := by
  obtain ⟨R, hR⟩ : ∃ R, readR text = R := ⟨_, rfl⟩
  rw [hR] at h ⊢
  unfold readR at hR
  by_cases h1 : 4000 < text.size
  · rw [if_pos h1] at hR; subst hR; simp at h
  rw [if_neg h1] at hR
  by_cases h2 : (Ref.run Ref.init text.data.toList 0).1 ≠ 0
  · rw [if_pos h2] at hR; subst hR; exact absurd h h2
  rw [if_neg h2] at hR
  by_cases h3 : (Ref.run Ref.init text.data.toList 0).2.2.state ≠ 6 ∨ (Ref.run Ref.init text.data.toList 0).2.2.opn ≠ []
  · rw [if_pos h3] at hR; subst hR; simp at h
  rw [if_neg h3] at hR
  subst hR
  have hz : (Ref.run Ref.init text.data.toList 0).1 = 0 := by
    by_cases e : (Ref.run Ref.init text.data.toList 0).1 = 0
    · exact e
    · exact absurd e h2
  exact (Ref.run_tree2 text.data.toList Ref.init 0 Ref.init_tree2 init_wf hz).non

/-- The statements that the reference reads of a text. -/
def stmtsNN (ns : List Ref.Node) (root : Nat) : List Rd.StmtR := match ns[root]? with
  | none => []
  | some r => match ns[(Ref.hasN r Rd.bStatement).toNat]? with
    | none => []
    | some n => Rd.stmtsL ns n.kids
def refStmts (text : ByteArray) : List Rd.StmtR := stmtsNN (readR text).2.2.nodes (readR text).2.2.root.toNat

theorem stmtsL_take (ns : List Ref.Node) (ks : List Nat) (j : Nat) (hj : j < ks.length) (x : Ref.Node) (hx : ns[ks[j]]? = some x) : Rd.stmtsL ns (ks.take (j + 1)) = Rd.stmtsL ns (ks.take j) ++ [Rd.stmtN ns x] ∧ Rd.stmtsL ns (ks.drop j) = Rd.stmtN ns x :: Rd.stmtsL ns (ks.drop (j + 1)) := by
  constructor
  · rw [List.take_add_one, List.getElem?_eq_getElem hj]
    unfold Rd.stmtsL
    rw [List.map_append]
    simp [hx]
  · rw [List.drop_eq_getElem_cons hj]
    unfold Rd.stmtsL
    rw [List.map_cons, hx]

theorem firstBad_cons (r : Rd.StmtR) (rs : List Rd.StmtR) (i : Nat) : Rd.firstBad (r :: rs) i = if r.sh then (5, i + 1) else if r.pt then (6, i + 1) else Rd.firstBad rs (i + 1) := rfl

theorem stmt8 (w : World) (O P : Obj) (t : TypeId) (a b c d e f g h : Value) : ∀ (j : Nat) (u : Value), [a, b, c, d, e, f, g, h][j]? = some u → (((w.alloc O).alloc P).alloc (.cells #[a, b, c, d, e, f, g, h] t)).cell? ((⟨w.heap.size + 1 + 1, 0, none⟩ : Addr).add j) = some u := by
  have h := World.ownsRow_lit (base := w.heap.size) (e := t) (size := 8) ((w.alloc O).alloc P) #[a, b, c, d, e, f, g, h] 1 (by simp; omega) (by decide) rfl
  rw [World.size_alloc, World.size_alloc] at h
  exact fun j u hu => h.cells (g := w.heap.size + 1 + 1) rfl j u hu

/-- Behind a statement that was read: three new blocks, and what lay there before. -/
theorem stmts_step {wr w2 : World} {B : Nat} {lv l1 l2 l3 lc : Value} {done : List Rd.StmtR} {R : Rd.StmtR} (O P Q : Obj) (h : RStmts wr B lv done) (hB : B ≤ wr.heap.size) (hb2 : Below wr.heap.size wr w2) (hr : RStmt w2 wr.heap.size l1 l2 l3 lc R) :
    ∃ xs, (((w2.alloc O).alloc P).alloc Q).ownsRow B 160 8 lv done.length xs ∧ (∀ j, (h : j < done.length) → RSt (((w2.alloc O).alloc P).alloc Q) B xs j done[j]) ∧ RStmt (((w2.alloc O).alloc P).alloc Q) B l1 l2 l3 lc R := by
  have BW : Below w2.heap.size w2 (((w2.alloc O).alloc P).alloc Q) := (((Below.refl _ _).alloc (Nat.le_refl _) _).alloc (by simp) _).alloc (by simp; omega) _
  obtain ⟨xs, h1, h2⟩ := (h.kept (fun i hi hl => hb2.block i hl)).kept (fun i hi hl => BW.block i hl)
  exact ⟨xs, h1, h2, (hr.mono hB).kept (fun i hi hl => BW.block i hl)⟩

theorem Tryz.infoRStmt : (Tryz.prog.info? 160).map (fun i => (i.zero, i.size, i.bytes)) = some (some (.agg #[.string ⟨#[]⟩, .bool false, .slice none 0 0, .bool false, .slice none 0 0, .bool false, .slice none 0 0, .slice none 0 0]), 8, 136) := by kernel_rfl

end Go.Proofs.YtdakgnaojakldaaGreatDoor
