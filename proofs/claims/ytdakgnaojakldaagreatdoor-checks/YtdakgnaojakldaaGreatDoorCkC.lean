/- What the listed variables give: the table of operations; all that the walks of Check lean on; a world that holds them. -/
import Derived.Test.YtdakgnaojakldaaGreatDoorCkA
namespace Go.Proofs.YtdakgnaojakldaaGreatDoor.laws
open Go.ChangeShapes Go.WideShapes Go.ChangeAt Go.RowKit Go.Joins Go.Deep

/-- One row of the table of operations. -/
theorem op_cells {W : World} {fuel : Nat} {xs : List Value} {q : List MemPlace} (nm : ByteArray) {b1 b2 : UInt8} {r1 r2 : List UInt8} {f1 f2 : FuncId}
    (h1 : ((List.range Tryz.prog.funcs.size).filter fun f => (Tryz.prog.funcs[f]?).any (·.name.toUTF8.data.toList == b1 :: r1)) = [f1])
    (h2 : ((List.range Tryz.prog.funcs.size).filter fun f => (Tryz.prog.funcs[f]?).any (·.name.toUTF8.data.toList == b2 :: r2)) = [f2])
    (h : DataW.trod (funcToken Tryz.prog) Tryz.prog W 0 (fun _ => true) true fuel 342 xs = some (.agg [.lit (.string nm.data.toList), .held (b1 :: r1), .held (b2 :: r2)], q)) :
    xs = [.string nm, .func (.func f1) #[] #[], .func (.func f2) #[] #[]] := by
  obtain ⟨hl, hall⟩ := struct_cells Tryz.underlying342 (fun j f hj => by
    match j, hj with
    | 0, hj => simp at hj; subst hj; exact ⟨rfl, by kernel_rfl⟩
    | 1, hj => simp at hj; subst hj; exact ⟨rfl, by kernel_rfl⟩
    | 2, hj => simp at hj; subst hj; exact ⟨rfl, by kernel_rfl⟩
    | j + 3, hj => simp at hj) (by kernel_rfl) h
  obtain ⟨v0, d0, q0, n0, hv0, hd0, ht0⟩ := hall 0 _ rfl
  obtain ⟨v1, d1, q1, n1, hv1, hd1, ht1⟩ := hall 1 _ rfl
  obtain ⟨v2, d2, q2, n2, hv2, hd2, ht2⟩ := hall 2 _ rfl
  simp only [List.getElem?_cons_zero, List.getElem?_cons_succ, Option.some.injEq] at hd0 hd1 hd2
  subst hd0
  subst hd1
  subst hd2
  obtain ⟨s, hs, hx, _⟩ := DataW.trod_string Tryz.underlying9 ht0
  have e1 := func_of_trod Tryz.underlying339 h1 ht1
  have e2 := func_of_trod Tryz.underlying340 h2 ht2
  have hv : v0 = .string s := by simpa using hs
  have hsn : s = nm := by
    have := congrArg Prod.fst hx
    simp only [DataW.lit.injEq, Lit.string.injEq] at this
    exact ByteArray.ext (Array.toList_inj.1 this.symm)
  have hl3 : xs.length = 3 := hl
  match xs, hl3 with
  | [x0, x1, x2], _ =>
    simp only [List.getElem?_cons_zero, List.getElem?_cons_succ, Option.some.injEq] at hv0 hv1 hv2
    rw [hv0, hv1, hv2, hv, hsn, e1, e2]

def lookB : Nat → List UInt8
  | 0 => [119, 97, 114, 114, 97, 110, 116, 47, 100, 111, 99, 117, 109, 101, 110, 116, 115, 46, 108, 105, 107, 101, 86, 97, 108, 117, 101, 115]
  | 1 => [119, 97, 114, 114, 97, 110, 116, 47, 100, 111, 99, 117, 109, 101, 110, 116, 115, 46, 115, 97, 109, 101, 86, 97, 108, 117, 101, 115]
  | 2 => [119, 97, 114, 114, 97, 110, 116, 47, 100, 111, 99, 117, 109, 101, 110, 116, 115, 46, 98, 101, 108, 111, 119, 86, 97, 108, 117, 101, 115]
  | 3 => [119, 97, 114, 114, 97, 110, 116, 47, 100, 111, 99, 117, 109, 101, 110, 116, 115, 46, 117, 110, 100, 101, 114, 86, 97, 108, 117, 101, 115]
  | _ => [119, 97, 114, 114, 97, 110, 116, 47, 100, 111, 99, 117, 109, 101, 110, 116, 115, 46, 97, 98, 115, 101, 110, 116, 86, 97, 108, 117, 101, 115]
def testB : Nat → List UInt8
  | 0 => [119, 97, 114, 114, 97, 110, 116, 47, 100, 111, 99, 117, 109, 101, 110, 116, 115, 46, 105, 115, 76, 105, 107, 101]
  | 1 => [119, 97, 114, 114, 97, 110, 116, 47, 100, 111, 99, 117, 109, 101, 110, 116, 115, 46, 105, 115, 83, 97, 109, 101]
  | 2 => [119, 97, 114, 114, 97, 110, 116, 47, 100, 111, 99, 117, 109, 101, 110, 116, 115, 46, 105, 115, 66, 101, 108, 111, 119]
  | 3 => [119, 97, 114, 114, 97, 110, 116, 47, 100, 111, 99, 117, 109, 101, 110, 116, 115, 46, 105, 115, 85, 110, 100, 101, 114]
  | _ => [119, 97, 114, 114, 97, 110, 116, 47, 100, 111, 99, 117, 109, 101, 110, 116, 115, 46, 105, 115, 65, 98, 115, 101, 110, 116]

def opData : DataW (List UInt8) := .agg ((List.range 5).map fun i => .agg [.lit (.string (opN i).data.toList), .held (lookB i), .held (testB i)])
theorem opIs : ∃ d, (Rows.laid_warrant_documents_operations : DataW Unit) = .iface "func table" d ∧ d.funcsOut = opData := ⟨_, rfl, by kernel_rfl⟩
theorem gOps : Tryz.prog.globalNamed "warrant/documents.operations" = some 6 := by kernel_rfl
theorem yOps : (Tryz.prog.globals[(6 : Nat)]?).map (·.type) = some 402 := by kernel_rfl
theorem cOps : Tryz.prog.cellsOf 402 = 5 * 3 := by kernel_rfl
theorem cOpsE : Tryz.prog.cellsOf 342 = 3 := by kernel_rfl

def opRow (i : Nat) : List Value := [.string (opN i), .func (.func (opL i)) #[] #[], .func (.func (opT i)) #[] #[]]

theorem ops_of_funcs {W : World} {d : DataW Unit} (hd0 : d.funcsOut = opData) (h : funcsAt Tryz.prog W "warrant/documents.operations" d) : OpsAt W := by
  obtain ⟨g, t, cs, fuel, p, hg, hty, hvar, hd⟩ := h
  obtain rfl := Option.some.inj (gOps.symm.trans hg)
  obtain rfl := Option.some.inj (yOps.symm.trans hty)
  rw [hd0] at hd
  have hcs : cs.toList = (List.range 5).flatMap opRow := by
    refine array_rows Tryz.underlying402 cOpsE cOps hd _ (fun i d xs fuel' q hi hdi he => ?_)
    rw [List.getElem?_map, List.getElem?_range hi] at hdi
    simp only [Option.map_some, Option.some.injEq] at hdi
    subst hdi
    rcases lt5 hi with rfl | rfl | rfl | rfl | rfl
    · exact op_cells (opN 0) (f1 := opL 0) (f2 := opT 0) (by kernel_rfl) (by kernel_rfl) he
    · exact op_cells (opN 1) (f1 := opL 1) (f2 := opT 1) (by kernel_rfl) (by kernel_rfl) he
    · exact op_cells (opN 2) (f1 := opL 2) (f2 := opT 2) (by kernel_rfl) (by kernel_rfl) he
    · exact op_cells (opN 3) (f1 := opL 3) (f2 := opT 3) (by kernel_rfl) (by kernel_rfl) he
    · exact op_cells (opN 4) (f1 := opL 4) (f2 := opT 4) (by kernel_rfl) (by kernel_rfl) he
  obtain ⟨t, fr, hb⟩ := var_block gOps hvar
  refine ⟨t, fr, ?_⟩
  have e : cs = opCells.toArray := by
    rw [← Array.toList_inj, hcs]
    rfl
  rw [← e]
  exact hb

theorem own : ownKnob Tryz.prog.godebug = none := by kernel_rfl
theorem gLong : Tryz.prog.globalNamed "warrant/texts.ErrLong" = some 0 := by kernel_rfl
theorem gErr : Tryz.prog.globalNamed "errors.errorType" = some 1 := by kernel_rfl
theorem rtRow : (Tryz.prog.cutTypes.find? (·.1 == "internal/reflectlite.rtype")).map (·.2) = some 283 := by kernel_rfl
theorem tySize : Tryz.prog.types.size = 458 := by kernel_rfl
theorem oneRow : ((List.range 458).filter fun t => Tryz.prog.rowNamed t [101, 114, 114, 111, 114]) = [74] := by kernel_rfl
theorem handle : typeHandle Tryz.prog 74 = .pointer (some ⟨7, 74, none⟩) := by kernel_rfl
theorem firstIs : Rows.laid_unicode_utf8_first = Lib.firstData := by kernel_rfl
theorem acceptIs : (Rows.laid_unicode_utf8_acceptRanges : DataW Unit) = Lib.acceptData := by kernel_rfl
theorem starName : "*" ++ "errors.errorString" = "*errors.errorString" := by decide
theorem oneName (u : TypeId) (h : Tryz.prog.typeName? 3 u = some "*errors.errorString") : u = 418 :=
  typeName_ptr_named (nm := "errors.errorString") (by rw [starName]; kernel_rfl) (by kernel_rfl) (by decide) u (by rw [starName]; exact h)

theorem maxAt {W : World} (h : W.ShapedOpen Tryz.prog) : MaxAt W :=
  Go.Proofs.cell_of_shapedOpen_int (zero := #[.int .i64 0]) (t := 3) h (of_decide_eq_true (by kernel_rfl)) (by kernel_rfl) rfl (by kernel_rfl) (by kernel_rfl) Tryz.underlying3

def laidAll : List (String × DataW Unit) := [("unicode/utf8.acceptRanges", Rows.laid_unicode_utf8_acceptRanges), ("errors.errorType", Rows.laid_errors_errorType), ("warrant/texts.ErrLong", Rows.laid_warrant_texts_ErrLong), ("warrant/texts.sequences", Rows.laid_warrant_texts_sequences), ("warrant/documents.operations", Rows.laid_warrant_documents_operations), ("unicode/utf8.first", Rows.laid_unicode_utf8_first)]
def laidPlain : List (String × DataW Unit) := [("unicode/utf8.acceptRanges", Rows.laid_unicode_utf8_acceptRanges), ("warrant/texts.ErrLong", Rows.laid_warrant_texts_ErrLong), ("warrant/texts.sequences", Rows.laid_warrant_texts_sequences), ("unicode/utf8.first", Rows.laid_unicode_utf8_first)]

/-- What the listed variables give the walks. -/
theorem env_of_laid {W : World} (h : laidMetH Tryz.prog laidAll W) (hs : W.ShapedOpen Tryz.prog) : ∃ aL, CEnv W aL := by
  have h' : laidMet Tryz.prog laidPlain W ∧ handlesMet Tryz.prog [("errors.errorType", Rows.laid_errors_errorType), ("warrant/documents.operations", Rows.laid_warrant_documents_operations)] W := h
  obtain ⟨hp, hh⟩ := h'
  have htabs : TabsAt W := by
    have r1 : Lib.VarReads Tryz.prog W "unicode/utf8.first" Lib.firstData := by rw [← firstIs]; exact Lib.laidMet.reads hp (.tail _ (.tail _ (.tail _ (.head _))))
    have r2 : Lib.VarReads Tryz.prog W "unicode/utf8.acceptRanges" Lib.acceptData := by rw [← acceptIs]; exact Lib.laidMet.reads hp (.head _)
    exact utf8Tabs_of_readsT (U8Types.of196 Tryz.lays196) ⟨by kernel_rfl, by kernel_rfl, by kernel_rfl, by kernel_rfl, by kernel_rfl, by kernel_rfl, by kernel_rfl⟩ r1 r2
  have herr : ErTAt W := by
    obtain ⟨name, u, ty, e1, e2, e3, e4, e5⟩ := hh _ (.head _)
    have en : name = [101, 114, 114, 111, 114] := (Option.some.inj e1).symm
    subst en
    obtain rfl := Option.some.inj (rtRow.symm.trans e2)
    have hm : ty ∈ (List.range 458).filter fun t => Tryz.prog.rowNamed t [101, 114, 114, 111, 114] := List.mem_filter.2 ⟨List.mem_range.2 (by rw [← tySize]; exact e3), e4⟩
    rw [oneRow] at hm
    obtain rfl := List.mem_singleton.1 hm
    rw [handle] at e5
    show W.cell? _ = _
    simpa using World.var?_cell gErr e5 0
  have hops : OpsAt W := by
    obtain ⟨d, hd, hout⟩ := opIs
    exact ops_of_funcs hout (h.funcs (n := "warrant/documents.operations") (d := d) (by rw [← hd]; exact .tail _ (.tail _ (.tail _ (.tail _ (.head _))))))
  have hseq : SeqRow W := seq_of_reads (Lib.laidMet.reads hp (.tail _ (.tail _ (.head _))))
  obtain ⟨a, s, hv, _⟩ := laid_sentinel (tp := 418) (te := 437) (ts := 9) (laidMet.tail hp) gLong (by kernel_rfl) Tryz.underlying74 oneName Tryz.underlying418 Tryz.underlying437 rfl rfl Tryz.underlying9 (by kernel_rfl) (by kernel_rfl)
  exact ⟨a, ⟨⟨⟨⟨htabs, maxAt hs, herr⟩, hops⟩, hseq, by simpa using World.var?_cell gLong hv 0⟩⟩⟩

end Go.Proofs.YtdakgnaojakldaaGreatDoor.laws
