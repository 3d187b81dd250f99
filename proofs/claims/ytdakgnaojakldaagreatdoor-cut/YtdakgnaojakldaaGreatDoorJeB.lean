/- Several texts in one, each with its own opening remark. -/
import Derived.Test.YtdakgnaojakldaaGreatDoorJeA
/- What is known of the types of the program's faults. -/
namespace Go.Proofs.YtdakgnaojakldaaGreatDoor
open Go.RowKit Go.Extern.Stop Go.Stop Go.Extern

theorem errT_syntax : ErrT 140 :=
  ⟨fun v w => by kernel_rfl,
   fun v xT w => run_typeAssert_lacksB Tryz.underlying292 (by kernel_rfl) (by kernel_rfl) v xT w,
   fun v xT w => run_typeAssert_lacksB Tryz.underlying285 (by kernel_rfl) (by kernel_rfl) v xT w,
   fun v xT w => run_typeAssert_lacksB Tryz.underlying288 (by kernel_rfl) (by kernel_rfl) v xT w,
   by decide⟩
theorem noWrap_syntax : NoWrap 140 := fun v xT w => run_typeAssert_lacksB Tryz.underlying287 (by kernel_rfl) (by kernel_rfl) v xT w
theorem assign_syntax_syntax : Assign 140 140 true := fun w => by kernel_rfl
theorem assign_syntax_deep : Assign 140 141 false := fun w => by kernel_rfl
theorem assign_syntax_twice : Assign 140 142 false := fun w => by kernel_rfl
theorem assign_syntax_fault : Assign 140 228 false := fun w => by kernel_rfl
theorem assign_syntax_shape : Assign 140 125 false := fun w => by kernel_rfl
theorem assign_syntax_stmt : Assign 140 138 false := fun w => by kernel_rfl
theorem partsP_syntax (a : Addr) (w : World) : (ReflectliteValue.parts (.agg #[.pointer (some ⟨7, 145, none⟩), .pointer (some a), .int .u64 150])).run Tryz.prog w = .ok (some (145, a, 150)) w := by kernel_rfl
theorem elemP_syntax (w : World) : (Rtype.elem? 145).run Tryz.prog w = .ok (some 140) w := by kernel_rfl
theorem mk_syntax (p : Addr) (w : World) : (ReflectliteValue.mk 140 p ReflectliteValue.flagAddr).run Tryz.prog w = .ok (.agg #[.pointer (some ⟨7, 140, none⟩), .pointer (some p), .int .u64 409]) w := by kernel_rfl
theorem tgtT_syntax : TgtT 140 145 where
  unpack := fun t w => by kernel_rfl
  type := fun a w => by kernel_rfl
  kindP := fun w => by kernel_rfl
  kind := fun w => by kernel_rfl
  isNil := fun a p W ha => by
    delta ReflectliteValue.method
    rw [er_met_match]
    simp only [Sem.run_bind, partsP_syntax, Result.andThen]
    simp [ReflectliteValue.isNil, loadVar, isAgg, underlying, Tryz.underlying145, ha, Result.andThen]
  elem := fun w => by kernel_rfl
  impl := fun w => by kernel_rfl
  elemV := fun a p W ha => by
    delta ReflectliteValue.method
    rw [er_met_match]
    simp only [Sem.run_bind, partsP_syntax, Result.andThen]
    simp [ReflectliteValue.elem, loadVar, isAgg, underlying, Tryz.underlying145, ha, Result.andThen, elemP_syntax, mk_syntax]
theorem partsA_syntax (a : Addr) (w : World) : (ReflectliteValue.parts (.agg #[.pointer (some ⟨7, 140, none⟩), .pointer (some a), .int .u64 409])).run Tryz.prog w = .ok (some (140, a, 409)) w := by kernel_rfl
theorem partsB_syntax (a : Addr) (w : World) : (ReflectliteValue.parts (.agg #[.pointer (some ⟨7, 140, none⟩), .pointer (some a), .int .u64 153])).run Tryz.prog w = .ok (some (140, a, 153)) w := by kernel_rfl
theorem direct_syntax (w : World) : (Rtype.directlyAssignable 140 140).run Tryz.prog w = .ok true w := by kernel_rfl
theorem hitT_syntax : HitT 140 (fun x => ∃ k, x = .int .i64 k) where
  held := fun x w h => by obtain ⟨k, rfl⟩ := h; kernel_rfl
  set := fun ta b x old W h hb ht hf => by
    obtain ⟨k, rfl⟩ := h
    delta ReflectliteValue.set
    rw [er_set_match]
    simp only [Sem.run_bind, partsA_syntax, partsB_syntax, Result.andThen]
    simp [ReflectliteValue.flagAddr, loadVar, isAgg, Tryz.sizeOf140, loadCells, loadCellsFrom, hb, Result.andThen, direct_syntax, storeVar, Value.cells, storeCells, Addr.add]
    rw [run_store Tryz.prog W ta _ _ (by rfl)]
    simp [ht, hf]

theorem errT_deep : ErrT 141 :=
  ⟨fun v w => by kernel_rfl,
   fun v xT w => run_typeAssert_lacksB Tryz.underlying292 (by kernel_rfl) (by kernel_rfl) v xT w,
   fun v xT w => run_typeAssert_lacksB Tryz.underlying285 (by kernel_rfl) (by kernel_rfl) v xT w,
   fun v xT w => run_typeAssert_lacksB Tryz.underlying288 (by kernel_rfl) (by kernel_rfl) v xT w,
   by decide⟩
theorem noWrap_deep : NoWrap 141 := fun v xT w => run_typeAssert_lacksB Tryz.underlying287 (by kernel_rfl) (by kernel_rfl) v xT w
theorem assign_deep_syntax : Assign 141 140 false := fun w => by kernel_rfl
theorem assign_deep_deep : Assign 141 141 true := fun w => by kernel_rfl
theorem assign_deep_twice : Assign 141 142 false := fun w => by kernel_rfl
theorem assign_deep_fault : Assign 141 228 false := fun w => by kernel_rfl
theorem assign_deep_shape : Assign 141 125 false := fun w => by kernel_rfl
theorem assign_deep_stmt : Assign 141 138 false := fun w => by kernel_rfl
theorem partsP_deep (a : Addr) (w : World) : (ReflectliteValue.parts (.agg #[.pointer (some ⟨7, 146, none⟩), .pointer (some a), .int .u64 150])).run Tryz.prog w = .ok (some (146, a, 150)) w := by kernel_rfl
theorem elemP_deep (w : World) : (Rtype.elem? 146).run Tryz.prog w = .ok (some 141) w := by kernel_rfl
theorem mk_deep (p : Addr) (w : World) : (ReflectliteValue.mk 141 p ReflectliteValue.flagAddr).run Tryz.prog w = .ok (.agg #[.pointer (some ⟨7, 141, none⟩), .pointer (some p), .int .u64 409]) w := by kernel_rfl
theorem tgtT_deep : TgtT 141 146 where
  unpack := fun t w => by kernel_rfl
  type := fun a w => by kernel_rfl
  kindP := fun w => by kernel_rfl
  kind := fun w => by kernel_rfl
  isNil := fun a p W ha => by
    delta ReflectliteValue.method
    rw [er_met_match]
    simp only [Sem.run_bind, partsP_deep, Result.andThen]
    simp [ReflectliteValue.isNil, loadVar, isAgg, underlying, Tryz.underlying146, ha, Result.andThen]
  elem := fun w => by kernel_rfl
  impl := fun w => by kernel_rfl
  elemV := fun a p W ha => by
    delta ReflectliteValue.method
    rw [er_met_match]
    simp only [Sem.run_bind, partsP_deep, Result.andThen]
    simp [ReflectliteValue.elem, loadVar, isAgg, underlying, Tryz.underlying146, ha, Result.andThen, elemP_deep, mk_deep]
theorem partsA_deep (a : Addr) (w : World) : (ReflectliteValue.parts (.agg #[.pointer (some ⟨7, 141, none⟩), .pointer (some a), .int .u64 409])).run Tryz.prog w = .ok (some (141, a, 409)) w := by kernel_rfl
theorem partsB_deep (a : Addr) (w : World) : (ReflectliteValue.parts (.agg #[.pointer (some ⟨7, 141, none⟩), .pointer (some a), .int .u64 153])).run Tryz.prog w = .ok (some (141, a, 153)) w := by kernel_rfl
theorem direct_deep (w : World) : (Rtype.directlyAssignable 141 141).run Tryz.prog w = .ok true w := by kernel_rfl
theorem hitT_deep : HitT 141 (fun x => ∃ k, x = .int .i64 k) where
  held := fun x w h => by obtain ⟨k, rfl⟩ := h; kernel_rfl
  set := fun ta b x old W h hb ht hf => by
    obtain ⟨k, rfl⟩ := h
    delta ReflectliteValue.set
    rw [er_set_match]
    simp only [Sem.run_bind, partsA_deep, partsB_deep, Result.andThen]
    simp [ReflectliteValue.flagAddr, loadVar, isAgg, Tryz.sizeOf141, loadCells, loadCellsFrom, hb, Result.andThen, direct_deep, storeVar, Value.cells, storeCells, Addr.add]
    rw [run_store Tryz.prog W ta _ _ (by rfl)]
    simp [ht, hf]

theorem errT_twice : ErrT 142 :=
  ⟨fun v w => by kernel_rfl,
   fun v xT w => run_typeAssert_lacksB Tryz.underlying292 (by kernel_rfl) (by kernel_rfl) v xT w,
   fun v xT w => run_typeAssert_lacksB Tryz.underlying285 (by kernel_rfl) (by kernel_rfl) v xT w,
   fun v xT w => run_typeAssert_lacksB Tryz.underlying288 (by kernel_rfl) (by kernel_rfl) v xT w,
   by decide⟩
theorem noWrap_twice : NoWrap 142 := fun v xT w => run_typeAssert_lacksB Tryz.underlying287 (by kernel_rfl) (by kernel_rfl) v xT w
theorem assign_twice_syntax : Assign 142 140 false := fun w => by kernel_rfl
theorem assign_twice_deep : Assign 142 141 false := fun w => by kernel_rfl
theorem assign_twice_twice : Assign 142 142 true := fun w => by kernel_rfl
theorem assign_twice_fault : Assign 142 228 false := fun w => by kernel_rfl
theorem assign_twice_shape : Assign 142 125 false := fun w => by kernel_rfl
theorem assign_twice_stmt : Assign 142 138 false := fun w => by kernel_rfl
theorem partsP_twice (a : Addr) (w : World) : (ReflectliteValue.parts (.agg #[.pointer (some ⟨7, 147, none⟩), .pointer (some a), .int .u64 150])).run Tryz.prog w = .ok (some (147, a, 150)) w := by kernel_rfl
theorem elemP_twice (w : World) : (Rtype.elem? 147).run Tryz.prog w = .ok (some 142) w := by kernel_rfl
theorem mk_twice (p : Addr) (w : World) : (ReflectliteValue.mk 142 p ReflectliteValue.flagAddr).run Tryz.prog w = .ok (.agg #[.pointer (some ⟨7, 142, none⟩), .pointer (some p), .int .u64 409]) w := by kernel_rfl
theorem tgtT_twice : TgtT 142 147 where
  unpack := fun t w => by kernel_rfl
  type := fun a w => by kernel_rfl
  kindP := fun w => by kernel_rfl
  kind := fun w => by kernel_rfl
  isNil := fun a p W ha => by
    delta ReflectliteValue.method
    rw [er_met_match]
    simp only [Sem.run_bind, partsP_twice, Result.andThen]
    simp [ReflectliteValue.isNil, loadVar, isAgg, underlying, Tryz.underlying147, ha, Result.andThen]
  elem := fun w => by kernel_rfl
  impl := fun w => by kernel_rfl
  elemV := fun a p W ha => by
    delta ReflectliteValue.method
    rw [er_met_match]
    simp only [Sem.run_bind, partsP_twice, Result.andThen]
    simp [ReflectliteValue.elem, loadVar, isAgg, underlying, Tryz.underlying147, ha, Result.andThen, elemP_twice, mk_twice]
theorem partsA_twice (a : Addr) (w : World) : (ReflectliteValue.parts (.agg #[.pointer (some ⟨7, 142, none⟩), .pointer (some a), .int .u64 409])).run Tryz.prog w = .ok (some (142, a, 409)) w := by kernel_rfl
theorem partsB_twice (a : Addr) (w : World) : (ReflectliteValue.parts (.agg #[.pointer (some ⟨7, 142, none⟩), .pointer (some a), .int .u64 153])).run Tryz.prog w = .ok (some (142, a, 153)) w := by kernel_rfl
theorem direct_twice (w : World) : (Rtype.directlyAssignable 142 142).run Tryz.prog w = .ok true w := by kernel_rfl
theorem hitT_twice : HitT 142 (fun x => ∃ k, x = .int .i64 k) where
  held := fun x w h => by obtain ⟨k, rfl⟩ := h; kernel_rfl
  set := fun ta b x old W h hb ht hf => by
    obtain ⟨k, rfl⟩ := h
    delta ReflectliteValue.set
    rw [er_set_match]
    simp only [Sem.run_bind, partsA_twice, partsB_twice, Result.andThen]
    simp [ReflectliteValue.flagAddr, loadVar, isAgg, Tryz.sizeOf142, loadCells, loadCellsFrom, hb, Result.andThen, direct_twice, storeVar, Value.cells, storeCells, Addr.add]
    rw [run_store Tryz.prog W ta _ _ (by rfl)]
    simp [ht, hf]

theorem errT_fault : ErrT 228 :=
  ⟨fun v w => by kernel_rfl,
   fun v xT w => run_typeAssert_lacksB Tryz.underlying292 (by kernel_rfl) (by kernel_rfl) v xT w,
   fun v xT w => run_typeAssert_lacksB Tryz.underlying285 (by kernel_rfl) (by kernel_rfl) v xT w,
   fun v xT w => run_typeAssert_lacksB Tryz.underlying288 (by kernel_rfl) (by kernel_rfl) v xT w,
   by decide⟩
theorem noWrap_fault : NoWrap 228 := fun v xT w => run_typeAssert_lacksB Tryz.underlying287 (by kernel_rfl) (by kernel_rfl) v xT w
theorem assign_fault_syntax : Assign 228 140 false := fun w => by kernel_rfl
theorem assign_fault_deep : Assign 228 141 false := fun w => by kernel_rfl
theorem assign_fault_twice : Assign 228 142 false := fun w => by kernel_rfl
theorem assign_fault_fault : Assign 228 228 true := fun w => by kernel_rfl
theorem assign_fault_shape : Assign 228 125 false := fun w => by kernel_rfl
theorem assign_fault_stmt : Assign 228 138 false := fun w => by kernel_rfl
theorem partsP_fault (a : Addr) (w : World) : (ReflectliteValue.parts (.agg #[.pointer (some ⟨7, 230, none⟩), .pointer (some a), .int .u64 150])).run Tryz.prog w = .ok (some (230, a, 150)) w := by kernel_rfl
theorem elemP_fault (w : World) : (Rtype.elem? 230).run Tryz.prog w = .ok (some 228) w := by kernel_rfl
theorem mk_fault (p : Addr) (w : World) : (ReflectliteValue.mk 228 p ReflectliteValue.flagAddr).run Tryz.prog w = .ok (.agg #[.pointer (some ⟨7, 228, none⟩), .pointer (some p), .int .u64 409]) w := by kernel_rfl
theorem tgtT_fault : TgtT 228 230 where
  unpack := fun t w => by kernel_rfl
  type := fun a w => by kernel_rfl
  kindP := fun w => by kernel_rfl
  kind := fun w => by kernel_rfl
  isNil := fun a p W ha => by
    delta ReflectliteValue.method
    rw [er_met_match]
    simp only [Sem.run_bind, partsP_fault, Result.andThen]
    simp [ReflectliteValue.isNil, loadVar, isAgg, underlying, Tryz.underlying230, ha, Result.andThen]
  elem := fun w => by kernel_rfl
  impl := fun w => by kernel_rfl
  elemV := fun a p W ha => by
    delta ReflectliteValue.method
    rw [er_met_match]
    simp only [Sem.run_bind, partsP_fault, Result.andThen]
    simp [ReflectliteValue.elem, loadVar, isAgg, underlying, Tryz.underlying230, ha, Result.andThen, elemP_fault, mk_fault]
theorem partsA_fault (a : Addr) (w : World) : (ReflectliteValue.parts (.agg #[.pointer (some ⟨7, 228, none⟩), .pointer (some a), .int .u64 409])).run Tryz.prog w = .ok (some (228, a, 409)) w := by kernel_rfl
theorem partsB_fault (a : Addr) (w : World) : (ReflectliteValue.parts (.agg #[.pointer (some ⟨7, 228, none⟩), .pointer (some a), .int .u64 153])).run Tryz.prog w = .ok (some (228, a, 153)) w := by kernel_rfl
theorem direct_fault (w : World) : (Rtype.directlyAssignable 228 228).run Tryz.prog w = .ok true w := by kernel_rfl
theorem hitT_fault : HitT 228 (fun x => ∃ k, x = .int .i64 k) where
  held := fun x w h => by obtain ⟨k, rfl⟩ := h; kernel_rfl
  set := fun ta b x old W h hb ht hf => by
    obtain ⟨k, rfl⟩ := h
    delta ReflectliteValue.set
    rw [er_set_match]
    simp only [Sem.run_bind, partsA_fault, partsB_fault, Result.andThen]
    simp [ReflectliteValue.flagAddr, loadVar, isAgg, Tryz.sizeOf228, loadCells, loadCellsFrom, hb, Result.andThen, direct_fault, storeVar, Value.cells, storeCells, Addr.add]
    rw [run_store Tryz.prog W ta _ _ (by rfl)]
    simp [ht, hf]

theorem errT_shape : ErrT 125 :=
  ⟨fun v w => by kernel_rfl,
   fun v xT w => run_typeAssert_lacksB Tryz.underlying292 (by kernel_rfl) (by kernel_rfl) v xT w,
   fun v xT w => run_typeAssert_lacksB Tryz.underlying285 (by kernel_rfl) (by kernel_rfl) v xT w,
   fun v xT w => run_typeAssert_lacksB Tryz.underlying288 (by kernel_rfl) (by kernel_rfl) v xT w,
   by decide⟩
theorem noWrap_shape : NoWrap 125 := fun v xT w => run_typeAssert_lacksB Tryz.underlying287 (by kernel_rfl) (by kernel_rfl) v xT w
theorem assign_shape_syntax : Assign 125 140 false := fun w => by kernel_rfl
theorem assign_shape_deep : Assign 125 141 false := fun w => by kernel_rfl
theorem assign_shape_twice : Assign 125 142 false := fun w => by kernel_rfl
theorem assign_shape_fault : Assign 125 228 false := fun w => by kernel_rfl
theorem assign_shape_shape : Assign 125 125 true := fun w => by kernel_rfl
theorem assign_shape_stmt : Assign 125 138 false := fun w => by kernel_rfl
theorem partsP_shape (a : Addr) (w : World) : (ReflectliteValue.parts (.agg #[.pointer (some ⟨7, 347, none⟩), .pointer (some a), .int .u64 150])).run Tryz.prog w = .ok (some (347, a, 150)) w := by kernel_rfl
theorem elemP_shape (w : World) : (Rtype.elem? 347).run Tryz.prog w = .ok (some 125) w := by kernel_rfl
theorem mk_shape (p : Addr) (w : World) : (ReflectliteValue.mk 125 p ReflectliteValue.flagAddr).run Tryz.prog w = .ok (.agg #[.pointer (some ⟨7, 125, none⟩), .pointer (some p), .int .u64 409]) w := by kernel_rfl
theorem tgtT_shape : TgtT 125 347 where
  unpack := fun t w => by kernel_rfl
  type := fun a w => by kernel_rfl
  kindP := fun w => by kernel_rfl
  kind := fun w => by kernel_rfl
  isNil := fun a p W ha => by
    delta ReflectliteValue.method
    rw [er_met_match]
    simp only [Sem.run_bind, partsP_shape, Result.andThen]
    simp [ReflectliteValue.isNil, loadVar, isAgg, underlying, Tryz.underlying347, ha, Result.andThen]
  elem := fun w => by kernel_rfl
  impl := fun w => by kernel_rfl
  elemV := fun a p W ha => by
    delta ReflectliteValue.method
    rw [er_met_match]
    simp only [Sem.run_bind, partsP_shape, Result.andThen]
    simp [ReflectliteValue.elem, loadVar, isAgg, underlying, Tryz.underlying347, ha, Result.andThen, elemP_shape, mk_shape]
theorem partsA_shape (a : Addr) (w : World) : (ReflectliteValue.parts (.agg #[.pointer (some ⟨7, 125, none⟩), .pointer (some a), .int .u64 409])).run Tryz.prog w = .ok (some (125, a, 409)) w := by kernel_rfl
theorem partsB_shape (a : Addr) (w : World) : (ReflectliteValue.parts (.agg #[.pointer (some ⟨7, 125, none⟩), .pointer (some a), .int .u64 153])).run Tryz.prog w = .ok (some (125, a, 153)) w := by kernel_rfl
theorem direct_shape (w : World) : (Rtype.directlyAssignable 125 125).run Tryz.prog w = .ok true w := by kernel_rfl
theorem hitT_shape : HitT 125 (fun x => ∃ s, x = .string s) where
  held := fun x w h => by obtain ⟨k, rfl⟩ := h; kernel_rfl
  set := fun ta b x old W h hb ht hf => by
    obtain ⟨k, rfl⟩ := h
    delta ReflectliteValue.set
    rw [er_set_match]
    simp only [Sem.run_bind, partsA_shape, partsB_shape, Result.andThen]
    simp [ReflectliteValue.flagAddr, loadVar, isAgg, Tryz.sizeOf125, loadCells, loadCellsFrom, hb, Result.andThen, direct_shape, storeVar, Value.cells, storeCells, Addr.add]
    rw [run_store Tryz.prog W ta _ _ (by rfl)]
    simp [ht, hf]

theorem errT_stmt : ErrT 138 :=
  ⟨fun v w => by kernel_rfl,
   fun v xT w => run_typeAssert_lacksB Tryz.underlying292 (by kernel_rfl) (by kernel_rfl) v xT w,
   fun v xT w => run_typeAssert_lacksB Tryz.underlying285 (by kernel_rfl) (by kernel_rfl) v xT w,
   fun v xT w => run_typeAssert_lacksB Tryz.underlying288 (by kernel_rfl) (by kernel_rfl) v xT w,
   by decide⟩
theorem assign_stmt_syntax : Assign 138 140 false := fun w => by kernel_rfl
theorem assign_stmt_deep : Assign 138 141 false := fun w => by kernel_rfl
theorem assign_stmt_twice : Assign 138 142 false := fun w => by kernel_rfl
theorem assign_stmt_fault : Assign 138 228 false := fun w => by kernel_rfl
theorem assign_stmt_shape : Assign 138 125 false := fun w => by kernel_rfl
theorem assign_stmt_stmt : Assign 138 138 true := fun w => by kernel_rfl
theorem partsP_stmt (a : Addr) (w : World) : (ReflectliteValue.parts (.agg #[.pointer (some ⟨7, 229, none⟩), .pointer (some a), .int .u64 150])).run Tryz.prog w = .ok (some (229, a, 150)) w := by kernel_rfl
theorem elemP_stmt (w : World) : (Rtype.elem? 229).run Tryz.prog w = .ok (some 138) w := by kernel_rfl
theorem mk_stmt (p : Addr) (w : World) : (ReflectliteValue.mk 138 p ReflectliteValue.flagAddr).run Tryz.prog w = .ok (.agg #[.pointer (some ⟨7, 138, none⟩), .pointer (some p), .int .u64 409]) w := by kernel_rfl
theorem tgtT_stmt : TgtT 138 229 where
  unpack := fun t w => by kernel_rfl
  type := fun a w => by kernel_rfl
  kindP := fun w => by kernel_rfl
  kind := fun w => by kernel_rfl
  isNil := fun a p W ha => by
    delta ReflectliteValue.method
    rw [er_met_match]
    simp only [Sem.run_bind, partsP_stmt, Result.andThen]
    simp [ReflectliteValue.isNil, loadVar, isAgg, underlying, Tryz.underlying229, ha, Result.andThen]
  elem := fun w => by kernel_rfl
  impl := fun w => by kernel_rfl
  elemV := fun a p W ha => by
    delta ReflectliteValue.method
    rw [er_met_match]
    simp only [Sem.run_bind, partsP_stmt, Result.andThen]
    simp [ReflectliteValue.elem, loadVar, isAgg, underlying, Tryz.underlying229, ha, Result.andThen, elemP_stmt, mk_stmt]

end Go.Proofs.YtdakgnaojakldaaGreatDoor
