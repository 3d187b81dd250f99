/- Contract of the library's errors.Is at a fault of patterns and the text's error of length. -/
import Derived.Test.YtdakgnaojakldaaDoorPgM
import Derived.LaidEql
import Derived.Stop.Asserts
import Derived.RowKitTokens
namespace Go.Proofs.YtdakgnaojakldaaDoor
open Go.RowKit Go.Extern.Stop Go.Stop Go.Extern

theorem Tryd.typeOfLong (v : Value) (w : World) : (ReflectliteType.typeOf #[.iface 147 v]).run Tryd.prog w = .ok (.iface 120 (.agg #[.pointer (some ⟨5, 147, none⟩)])) w := by kernel_rfl

theorem Tryd.methodComparable (h : Value) (w : World) : (Go.method 280 120 (.agg #[h]) "Comparable").run Tryd.prog w = .ok (104, .agg #[h]) w := by kernel_rfl

theorem Tryd.comparableLong (w : World) : (ReflectliteType.method (fun t => do Rtype.noPackHeld "Comparable" t; (fun a => Value.bool a.comparable) <$> typeInfo t) #[.agg #[.pointer (some ⟨5, 147, none⟩)]]).run Tryd.prog w = .ok (.bool true) w := by kernel_rfl

theorem Tryd.faultNoIs (v : Value) (xT : TypeId) (w : World) : (Instr.typeAssert (.iface 52 v) xT 122 true).run Tryd.prog w = .ok (.tuple #[.nilIface, .bool false]) w := run_typeAssert_lacksB Tryd.underlying122 (by kernel_rfl) (by kernel_rfl) v xT w
theorem Tryd.faultNoUnwrap (v : Value) (xT : TypeId) (w : World) : (Instr.typeAssert (.iface 52 v) xT 125 true).run Tryd.prog w = .ok (.tuple #[.nilIface, .bool false]) w := run_typeAssert_lacksB Tryd.underlying125 (by kernel_rfl) (by kernel_rfl) v xT w
theorem Tryd.faultNoUnwraps (v : Value) (xT : TypeId) (w : World) : (Instr.typeAssert (.iface 52 v) xT 127 true).run Tryd.prog w = .ok (.tuple #[.nilIface, .bool false]) w := run_typeAssert_lacksB Tryd.underlying127 (by kernel_rfl) (by kernel_rfl) v xT w
theorem Tryd.faultNoAs (v : Value) (xT : TypeId) (w : World) : (Instr.typeAssert (.iface 52 v) xT 132 true).run Tryd.prog w = .ok (.tuple #[.nilIface, .bool false]) w := run_typeAssert_lacksB Tryd.underlying132 (by kernel_rfl) (by kernel_rfl) v xT w

set_option maxHeartbeats 1000000 in
set_option maxRecDepth 100000 in
theorem is_miss (v : Value) (aL : Addr) (w : World) :
    Calls Tryd.prog 21 #[.iface 52 v, .iface 147 (.pointer (some aL))] w fun e w' => e = .returned (.bool false) ∧ w' = w := by
  have hT := @run_callFunc_extern Tryd.prog 39 _ ReflectliteType.typeOf Tryd.func39 (by kernel_rfl) (by kernel_rfl) (by kernel_rfl) (by kernel_rfl)
  have tL := Tryd.typeOfLong
  have mC := Tryd.methodComparable
  have hC := @run_callFunc_extern Tryd.prog 104 _ (ReflectliteType.method (fun t => do Rtype.noPackHeld "Comparable" t; pure (.bool (← typeInfo t).comparable))) Tryd.func104 (by kernel_rfl) (by kernel_rfl) (by kernel_rfl) (by kernel_rfl)
  have cL := Tryd.comparableLong
  have n1 := Tryd.faultNoIs
  have n2 := Tryd.faultNoUnwrap
  have n3 := Tryd.faultNoUnwraps
  have ne := fun vx vy w => run_eql_iface_types (P := Tryd.prog) 52 147 vx vy Tryd.underlying38 (by decide) w
  go_enter Tryd.func21, Tryd.ntmps21
  go_wp2
  refine wp_loop_rounds 1 ?_
  rw [rounds_succ]
  go_wp2
  go_ret
  exact ⟨rfl, rfl⟩

end Go.Proofs.YtdakgnaojakldaaDoor
