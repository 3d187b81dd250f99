/- P -/
import Derived.Test.YtdakgnaojakldaaGreatDoorP02
import Derived.Shelf.Abstract
set_option maxRecDepth 100000
set_option maxHeartbeats 400000
namespace Go.Proofs.YtdakgnaojakldaaGreatDoor
open Go.RowKit Go.Extern.Stop Go.Stop Go.Extern
theorem Vp:VG 140:=
 ⟨fun v w=>by kernel_rfl,
  fun v xT w=>run_typeAssert_lacksB Tryz.underlying292 (by kernel_rfl) (by kernel_rfl) v xT w,
  fun v xT w=>run_typeAssert_lacksB Tryz.underlying285 (by kernel_rfl) (by kernel_rfl) v xT w,
  fun v xT w=>run_typeAssert_lacksB Tryz.underlying288 (by kernel_rfl) (by kernel_rfl) v xT w,
  by decide⟩
theorem KF:vk 140:=fun v xT w=>run_typeAssert_lacksB Tryz.underlying287 (by kernel_rfl) (by kernel_rfl) v xT w
theorem QA:Assign 140 140 true:=fun w=>by kernel_rfl
theorem XA (a:Addr) (w:World):(ReflectliteValue.parts (.agg #[.pointer (some ⟨7,145,none⟩), .pointer (some a), .int .u64 150])).run Tryz.prog w = .ok (some (145,a,150)) w:=by kernel_rfl
theorem zbH (w:World):(Rtype.elem? 145).run Tryz.prog w = .ok (some 140) w:=by kernel_rfl
theorem ziu (p:Addr) (w:World):(ReflectliteValue.mk 140 p ReflectliteValue.flagAddr).run Tryz.prog w = .ok (.agg #[.pointer (some ⟨7,140,none⟩), .pointer (some p), .int .u64 409]) w:=by kernel_rfl
theorem jH:zdj 140 145 where
 unpack:=fun t w=>by kernel_rfl
 type:=fun a w=>by kernel_rfl
 kindP:=fun w=>by kernel_rfl
 kind:=fun w=>by kernel_rfl
 isNil:=fun a p W ha=>by
  delta ReflectliteValue.method
  rw [qB]
  simp only [Sem.run_bind,XA,Result.andThen]
  simp [ReflectliteValue.isNil,loadVar,isAgg,underlying,Tryz.underlying145,ha,Result.andThen]
 elem:=fun w=>by kernel_rfl
 impl:=fun w=>by kernel_rfl
 elemV:=fun a p W ha=>by
  delta ReflectliteValue.method
  rw [qB]
  simp only [Sem.run_bind,XA,Result.andThen]
  simp [ReflectliteValue.elem,loadVar,isAgg,underlying,Tryz.underlying145,ha,Result.andThen,zbH,ziu]
theorem KY (a:Addr) (w:World):(ReflectliteValue.parts (.agg #[.pointer (some ⟨7,140,none⟩), .pointer (some a), .int .u64 409])).run Tryz.prog w = .ok (some (140,a,409)) w:=by kernel_rfl
theorem UR (a:Addr) (w:World):(ReflectliteValue.parts (.agg #[.pointer (some ⟨7,140,none⟩), .pointer (some a), .int .u64 153])).run Tryz.prog w = .ok (some (140,a,153)) w:=by kernel_rfl
theorem KJ (w:World):(Rtype.directlyAssignable 140 140).run Tryz.prog w = .ok true w:=by kernel_rfl
theorem zcU:zje 140 (fun x=>∃k,x = .int .i64 k) where
 held:=fun x w h=>by obtain ⟨k,rfl⟩:=h;kernel_rfl
 set:=fun ta b x old W h hb ht hf=>by
  obtain ⟨k,rfl⟩:=h
  delta ReflectliteValue.set
  rw [yU]
  simp only [Sem.run_bind,KY,UR,Result.andThen]
  simp [ReflectliteValue.flagAddr,loadVar,isAgg,Tryz.sizeOf140,loadCells,loadCellsFrom,hb,Result.andThen,KJ,storeVar,Value.cells,storeCells,Addr.add]
  rw [run_store Tryz.prog W ta _ _ (by rfl)]
  simp [ht,hf]
theorem Jq:VG 141:=
 ⟨fun v w=>by kernel_rfl,
  fun v xT w=>run_typeAssert_lacksB Tryz.underlying292 (by kernel_rfl) (by kernel_rfl) v xT w,
  fun v xT w=>run_typeAssert_lacksB Tryz.underlying285 (by kernel_rfl) (by kernel_rfl) v xT w,
  fun v xT w=>run_typeAssert_lacksB Tryz.underlying288 (by kernel_rfl) (by kernel_rfl) v xT w,
  by decide⟩
theorem Vm:vk 141:=fun v xT w=>run_typeAssert_lacksB Tryz.underlying287 (by kernel_rfl) (by kernel_rfl) v xT w
theorem XQ:Assign 141 140 false:=fun w=>by kernel_rfl
theorem Y5:Assign 141 141 true:=fun w=>by kernel_rfl
theorem JW (a:Addr) (w:World):(ReflectliteValue.parts (.agg #[.pointer (some ⟨7,146,none⟩), .pointer (some a), .int .u64 150])).run Tryz.prog w = .ok (some (146,a,150)) w:=by kernel_rfl
theorem zfi (w:World):(Rtype.elem? 146).run Tryz.prog w = .ok (some 141) w:=by kernel_rfl
theorem zlk (p:Addr) (w:World):(ReflectliteValue.mk 141 p ReflectliteValue.flagAddr).run Tryz.prog w = .ok (.agg #[.pointer (some ⟨7,141,none⟩), .pointer (some p), .int .u64 409]) w:=by kernel_rfl
theorem ZV:zdj 141 146 where
 unpack:=fun t w=>by kernel_rfl
 type:=fun a w=>by kernel_rfl
 kindP:=fun w=>by kernel_rfl
 kind:=fun w=>by kernel_rfl
 isNil:=fun a p W ha=>by
  delta ReflectliteValue.method
  rw [qB]
  simp only [Sem.run_bind,JW,Result.andThen]
  simp [ReflectliteValue.isNil,loadVar,isAgg,underlying,Tryz.underlying146,ha,Result.andThen]
 elem:=fun w=>by kernel_rfl
 impl:=fun w=>by kernel_rfl
 elemV:=fun a p W ha=>by
  delta ReflectliteValue.method
  rw [qB]
  simp only [Sem.run_bind,JW,Result.andThen]
  simp [ReflectliteValue.elem,loadVar,isAgg,underlying,Tryz.underlying146,ha,Result.andThen,zfi,zlk]
theorem zcr (a:Addr) (w:World):(ReflectliteValue.parts (.agg #[.pointer (some ⟨7,141,none⟩), .pointer (some a), .int .u64 409])).run Tryz.prog w = .ok (some (141,a,409)) w:=by kernel_rfl
theorem zdv (a:Addr) (w:World):(ReflectliteValue.parts (.agg #[.pointer (some ⟨7,141,none⟩), .pointer (some a), .int .u64 153])).run Tryz.prog w = .ok (some (141,a,153)) w:=by kernel_rfl
theorem zdr (w:World):(Rtype.directlyAssignable 141 141).run Tryz.prog w = .ok true w:=by kernel_rfl
theorem zhU:zje 141 (fun x=>∃k,x = .int .i64 k) where
 held:=fun x w h=>by obtain ⟨k,rfl⟩:=h;kernel_rfl
 set:=fun ta b x old W h hb ht hf=>by
  obtain ⟨k,rfl⟩:=h
  delta ReflectliteValue.set
  rw [yU]
  simp only [Sem.run_bind,zcr,zdv,Result.andThen]
  simp [ReflectliteValue.flagAddr,loadVar,isAgg,Tryz.sizeOf141,loadCells,loadCellsFrom,hb,Result.andThen,zdr,storeVar,Value.cells,storeCells,Addr.add]
  rw [run_store Tryz.prog W ta _ _ (by rfl)]
  simp [ht,hf]
theorem Ql:VG 142:=
 ⟨fun v w=>by kernel_rfl,
  fun v xT w=>run_typeAssert_lacksB Tryz.underlying292 (by kernel_rfl) (by kernel_rfl) v xT w,
  fun v xT w=>run_typeAssert_lacksB Tryz.underlying285 (by kernel_rfl) (by kernel_rfl) v xT w,
  fun v xT w=>run_typeAssert_lacksB Tryz.underlying288 (by kernel_rfl) (by kernel_rfl) v xT w,
  by decide⟩
theorem ZJ:vk 142:=fun v xT w=>run_typeAssert_lacksB Tryz.underlying287 (by kernel_rfl) (by kernel_rfl) v xT w
theorem QU:Assign 142 140 false:=fun w=>by kernel_rfl
theorem X7:Assign 142 141 false:=fun w=>by kernel_rfl
theorem XM:Assign 142 142 true:=fun w=>by kernel_rfl
theorem YM (a:Addr) (w:World):(ReflectliteValue.parts (.agg #[.pointer (some ⟨7,147,none⟩), .pointer (some a), .int .u64 150])).run Tryz.prog w = .ok (some (147,a,150)) w:=by kernel_rfl
theorem zdq (w:World):(Rtype.elem? 147).run Tryz.prog w = .ok (some 142) w:=by kernel_rfl
theorem zkh (p:Addr) (w:World):(ReflectliteValue.mk 142 p ReflectliteValue.flagAddr).run Tryz.prog w = .ok (.agg #[.pointer (some ⟨7,142,none⟩), .pointer (some p), .int .u64 409]) w:=by kernel_rfl
theorem Qj:zdj 142 147 where
 unpack:=fun t w=>by kernel_rfl
 type:=fun a w=>by kernel_rfl
 kindP:=fun w=>by kernel_rfl
 kind:=fun w=>by kernel_rfl
 isNil:=fun a p W ha=>by
  delta ReflectliteValue.method
  rw [qB]
  simp only [Sem.run_bind,YM,Result.andThen]
  simp [ReflectliteValue.isNil,loadVar,isAgg,underlying,Tryz.underlying147,ha,Result.andThen]
 elem:=fun w=>by kernel_rfl
 impl:=fun w=>by kernel_rfl
 elemV:=fun a p W ha=>by
  delta ReflectliteValue.method
  rw [qB]
  simp only [Sem.run_bind,YM,Result.andThen]
  simp [ReflectliteValue.elem,loadVar,isAgg,underlying,Tryz.underlying147,ha,Result.andThen,zdq,zkh]
theorem zbr (a:Addr) (w:World):(ReflectliteValue.parts (.agg #[.pointer (some ⟨7,142,none⟩), .pointer (some a), .int .u64 409])).run Tryz.prog w = .ok (some (142,a,409)) w:=by kernel_rfl
theorem zby (a:Addr) (w:World):(ReflectliteValue.parts (.agg #[.pointer (some ⟨7,142,none⟩), .pointer (some a), .int .u64 153])).run Tryz.prog w = .ok (some (142,a,153)) w:=by kernel_rfl
theorem zb4 (w:World):(Rtype.directlyAssignable 142 142).run Tryz.prog w = .ok true w:=by kernel_rfl
theorem zfP:zje 142 (fun x=>∃k,x = .int .i64 k) where
 held:=fun x w h=>by obtain ⟨k,rfl⟩:=h;kernel_rfl
 set:=fun ta b x old W h hb ht hf=>by
  obtain ⟨k,rfl⟩:=h
  delta ReflectliteValue.set
  rw [yU]
  simp only [Sem.run_bind,zbr,zby,Result.andThen]
  simp [ReflectliteValue.flagAddr,loadVar,isAgg,Tryz.sizeOf142,loadCells,loadCellsFrom,hb,Result.andThen,zb4,storeVar,Value.cells,storeCells,Addr.add]
  rw [run_store Tryz.prog W ta _ _ (by rfl)]
  simp [ht,hf]
theorem vP:VG 228:=
 ⟨fun v w=>by kernel_rfl,
  fun v xT w=>run_typeAssert_lacksB Tryz.underlying292 (by kernel_rfl) (by kernel_rfl) v xT w,
  fun v xT w=>run_typeAssert_lacksB Tryz.underlying285 (by kernel_rfl) (by kernel_rfl) v xT w,
  fun v xT w=>run_typeAssert_lacksB Tryz.underlying288 (by kernel_rfl) (by kernel_rfl) v xT w,
  by decide⟩
theorem jQ:vk 228:=fun v xT w=>run_typeAssert_lacksB Tryz.underlying287 (by kernel_rfl) (by kernel_rfl) v xT w
theorem QN:Assign 228 140 false:=fun w=>by kernel_rfl
theorem X3:Assign 228 141 false:=fun w=>by kernel_rfl
theorem Xf:Assign 228 142 false:=fun w=>by kernel_rfl
theorem Xa:Assign 228 228 true:=fun w=>by kernel_rfl
theorem Xr:Assign 228 125 false:=fun w=>by kernel_rfl
theorem YY (a:Addr) (w:World):(ReflectliteValue.parts (.agg #[.pointer (some ⟨7,230,none⟩), .pointer (some a), .int .u64 150])).run Tryz.prog w = .ok (some (230,a,150)) w:=by kernel_rfl
theorem zcx (w:World):(Rtype.elem? 230).run Tryz.prog w = .ok (some 228) w:=by kernel_rfl
theorem zkD (p:Addr) (w:World):(ReflectliteValue.mk 228 p ReflectliteValue.flagAddr).run Tryz.prog w = .ok (.agg #[.pointer (some ⟨7,228,none⟩), .pointer (some p), .int .u64 409]) w:=by kernel_rfl
theorem Yg:zdj 228 230 where
 unpack:=fun t w=>by kernel_rfl
 type:=fun a w=>by kernel_rfl
 kindP:=fun w=>by kernel_rfl
 kind:=fun w=>by kernel_rfl
 isNil:=fun a p W ha=>by
  delta ReflectliteValue.method
  rw [qB]
  simp only [Sem.run_bind,YY,Result.andThen]
  simp [ReflectliteValue.isNil,loadVar,isAgg,underlying,Tryz.underlying230,ha,Result.andThen]
 elem:=fun w=>by kernel_rfl
 impl:=fun w=>by kernel_rfl
 elemV:=fun a p W ha=>by
  delta ReflectliteValue.method
  rw [qB]
  simp only [Sem.run_bind,YY,Result.andThen]
  simp [ReflectliteValue.elem,loadVar,isAgg,underlying,Tryz.underlying230,ha,Result.andThen,zcx,zkD]
theorem zbI (a:Addr) (w:World):(ReflectliteValue.parts (.agg #[.pointer (some ⟨7,228,none⟩), .pointer (some a), .int .u64 409])).run Tryz.prog w = .ok (some (228,a,409)) w:=by kernel_rfl
theorem zbk (a:Addr) (w:World):(ReflectliteValue.parts (.agg #[.pointer (some ⟨7,228,none⟩), .pointer (some a), .int .u64 153])).run Tryz.prog w = .ok (some (228,a,153)) w:=by kernel_rfl
theorem zb5 (w:World):(Rtype.directlyAssignable 228 228).run Tryz.prog w = .ok true w:=by kernel_rfl
theorem zfd:zje 228 (fun x=>∃k,x = .int .i64 k) where
 held:=fun x w h=>by obtain ⟨k,rfl⟩:=h;kernel_rfl
 set:=fun ta b x old W h hb ht hf=>by
  obtain ⟨k,rfl⟩:=h
  delta ReflectliteValue.set
  rw [yU]
  simp only [Sem.run_bind,zbI,zbk,Result.andThen]
  simp [ReflectliteValue.flagAddr,loadVar,isAgg,Tryz.sizeOf228,loadCells,loadCellsFrom,hb,Result.andThen,zb5,storeVar,Value.cells,storeCells,Addr.add]
  rw [run_store Tryz.prog W ta _ _ (by rfl)]
  simp [ht,hf]
theorem xA:VG 125:=
 ⟨fun v w=>by kernel_rfl,
  fun v xT w=>run_typeAssert_lacksB Tryz.underlying292 (by kernel_rfl) (by kernel_rfl) v xT w,
  fun v xT w=>run_typeAssert_lacksB Tryz.underlying285 (by kernel_rfl) (by kernel_rfl) v xT w,
  fun v xT w=>run_typeAssert_lacksB Tryz.underlying288 (by kernel_rfl) (by kernel_rfl) v xT w,
  by decide⟩
theorem qL:vk 125:=fun v xT w=>run_typeAssert_lacksB Tryz.underlying287 (by kernel_rfl) (by kernel_rfl) v xT w
theorem vU:Assign 125 140 false:=fun w=>by kernel_rfl
theorem uX:Assign 125 141 false:=fun w=>by kernel_rfl
theorem uo:Assign 125 142 false:=fun w=>by kernel_rfl
theorem uI:Assign 125 228 false:=fun w=>by kernel_rfl
theorem Xl:Assign 125 125 true:=fun w=>by kernel_rfl
theorem Yh:Assign 125 138 false:=fun w=>by kernel_rfl
theorem Y4 (a:Addr) (w:World):(ReflectliteValue.parts (.agg #[.pointer (some ⟨7,347,none⟩), .pointer (some a), .int .u64 150])).run Tryz.prog w = .ok (some (347,a,150)) w:=by kernel_rfl
theorem zcC (w:World):(Rtype.elem? 347).run Tryz.prog w = .ok (some 125) w:=by kernel_rfl
theorem zjy (p:Addr) (w:World):(ReflectliteValue.mk 125 p ReflectliteValue.flagAddr).run Tryz.prog w = .ok (.agg #[.pointer (some ⟨7,125,none⟩), .pointer (some p), .int .u64 409]) w:=by kernel_rfl
theorem Yc:zdj 125 347 where
 unpack:=fun t w=>by kernel_rfl
 type:=fun a w=>by kernel_rfl
 kindP:=fun w=>by kernel_rfl
 kind:=fun w=>by kernel_rfl
 isNil:=fun a p W ha=>by
  delta ReflectliteValue.method
  rw [qB]
  simp only [Sem.run_bind,Y4,Result.andThen]
  simp [ReflectliteValue.isNil,loadVar,isAgg,underlying,Tryz.underlying347,ha,Result.andThen]
 elem:=fun w=>by kernel_rfl
 impl:=fun w=>by kernel_rfl
 elemV:=fun a p W ha=>by
  delta ReflectliteValue.method
  rw [qB]
  simp only [Sem.run_bind,Y4,Result.andThen]
  simp [ReflectliteValue.elem,loadVar,isAgg,underlying,Tryz.underlying347,ha,Result.andThen,zcC,zjy]
theorem zaM (a:Addr) (w:World):(ReflectliteValue.parts (.agg #[.pointer (some ⟨7,125,none⟩), .pointer (some a), .int .u64 409])).run Tryz.prog w = .ok (some (125,a,409)) w:=by kernel_rfl
theorem zbT (a:Addr) (w:World):(ReflectliteValue.parts (.agg #[.pointer (some ⟨7,125,none⟩), .pointer (some a), .int .u64 153])).run Tryz.prog w = .ok (some (125,a,153)) w:=by kernel_rfl
theorem zax (w:World):(Rtype.directlyAssignable 125 125).run Tryz.prog w = .ok true w:=by kernel_rfl
theorem zgq:zje 125 (fun x=>∃s,x = .string s) where
 held:=fun x w h=>by obtain ⟨k,rfl⟩:=h;kernel_rfl
 set:=fun ta b x old W h hb ht hf=>by
  obtain ⟨k,rfl⟩:=h
  delta ReflectliteValue.set
  rw [yU]
  simp only [Sem.run_bind,zaM,zbT,Result.andThen]
  simp [ReflectliteValue.flagAddr,loadVar,isAgg,Tryz.sizeOf125,loadCells,loadCellsFrom,hb,Result.andThen,zax,storeVar,Value.cells,storeCells,Addr.add]
  rw [run_store Tryz.prog W ta _ _ (by rfl)]
  simp [ht,hf]
theorem kQ:VG 138:=
 ⟨fun v w=>by kernel_rfl,
  fun v xT w=>run_typeAssert_lacksB Tryz.underlying292 (by kernel_rfl) (by kernel_rfl) v xT w,
  fun v xT w=>run_typeAssert_lacksB Tryz.underlying285 (by kernel_rfl) (by kernel_rfl) v xT w,
  fun v xT w=>run_typeAssert_lacksB Tryz.underlying288 (by kernel_rfl) (by kernel_rfl) v xT w,
  by decide⟩
theorem uD:Assign 138 140 false:=fun w=>by kernel_rfl
theorem Zt:Assign 138 141 false:=fun w=>by kernel_rfl
theorem kM:Assign 138 142 false:=fun w=>by kernel_rfl
theorem kR:Assign 138 228 false:=fun w=>by kernel_rfl
theorem Zw:Assign 138 138 true:=fun w=>by kernel_rfl
theorem Vy (a:Addr) (w:World):(ReflectliteValue.parts (.agg #[.pointer (some ⟨7,229,none⟩), .pointer (some a), .int .u64 150])).run Tryz.prog w = .ok (some (229,a,150)) w:=by kernel_rfl
theorem zgl (w:World):(Rtype.elem? 229).run Tryz.prog w = .ok (some 138) w:=by kernel_rfl
theorem zlU (p:Addr) (w:World):(ReflectliteValue.mk 138 p ReflectliteValue.flagAddr).run Tryz.prog w = .ok (.agg #[.pointer (some ⟨7,138,none⟩), .pointer (some p), .int .u64 409]) w:=by kernel_rfl
theorem ZH:zdj 138 229 where
 unpack:=fun t w=>by kernel_rfl
 type:=fun a w=>by kernel_rfl
 kindP:=fun w=>by kernel_rfl
 kind:=fun w=>by kernel_rfl
 isNil:=fun a p W ha=>by
  delta ReflectliteValue.method
  rw [qB]
  simp only [Sem.run_bind,Vy,Result.andThen]
  simp [ReflectliteValue.isNil,loadVar,isAgg,underlying,Tryz.underlying229,ha,Result.andThen]
 elem:=fun w=>by kernel_rfl
 impl:=fun w=>by kernel_rfl
 elemV:=fun a p W ha=>by
  delta ReflectliteValue.method
  rw [qB]
  simp only [Sem.run_bind,Vy,Result.andThen]
  simp [ReflectliteValue.elem,loadVar,isAgg,underlying,Tryz.underlying229,ha,Result.andThen,zgl,zlU]
end Go.Proofs.YtdakgnaojakldaaGreatDoor
namespace Go.Proofs.YtdakgnaojakldaaGreatDoor
open Go.RowKit
def J5 (g:Nat) (lb:Array Value) (el:Nat→Value) (n:Nat) (p:Nat→Bool) (w:World):Prop:=
 ∀W j,j<n→Below w.heap.size w W→Calls Tryz.prog g (#[el j]++lb) W fun e w'=>e = .returned (.bool (p j))∧Below W.heap.size W w'
def zB (p:Nat→Bool) (n:Nat):Option Nat:=(List.range n).find? p
def allOf (p:Nat→Bool) (n:Nat):Bool:=(List.range n).all p
theorem uh (p:Nat→Bool) (n k:Nat) (hk:k<n) (hb:∀j,j<k→p j=false) (h:p k=true):zB p n=some k:=by
 unfold zB
 rw [List.find?_range_eq_some]
 exact ⟨h,by simpa using hk,fun j hj=>by simp [hb j hj]⟩
theorem jW (p:Nat→Bool) (n:Nat) (hb:∀j,j<n→p j=false):zB p n=none:=by
 unfold zB
 rw [List.find?_eq_none]
 intro j hj
 simp [hb j (List.mem_range.1 hj)]
theorem Vd (p:Nat→Bool) (n:Nat):allOf p n=(zB (fun j=>!p j) n).isNone:=by
 unfold allOf zB
 rw [Bool.eq_iff_iff]
 simp
theorem jF (n b o cap g:Nat) (lb:Array Value) (v:Nat→Int) (p:Nat→Bool) (w:World) (hn:n≤1000000000000) (eg:∀args w,(callFunc g args).run Tryz.prog w = .ok (.enter g args) w)
  (hc:∀j,j<n→w.cell? ⟨b,o+j,none⟩=some (.int .u8 (v j))) (hp:J5 g lb (fun j => .int .u8 (v j)) n p w) :
  Calls Tryz.prog 223 #[.slice (some ⟨b,o,none⟩) n cap, .func (.func g) #[] lb] w fun e w'=>
   e = .returned (.tuple #[.int .i64 (((zB p n).getD 0:Nat):Int), .bool (zB p n).isSome])∧Below w.heap.size w w':=by
 generalize hF:zB p n=F
 have HF:=hid hF
 clear hF
 go_enter Tryz.func223,Tryz.ntmps223
 go_wp2
 go_loopw [10] (fun i wr=>∃k:Nat,k≤n∧i = .int .i64 k∧(∀j,j<k→p j=false)∧Below w.heap.size w wr) (fun i _=>n-(intOf i).toNat)
 case atStart=>exact ⟨0,Nat.zero_le _,rfl,fun j h=>by omega,Below.refl _ _⟩
 case round=>
  obtain ⟨k,hk,rfl,hb,hw⟩:=hrel
  have HB:=hid hb
  clear hb
  by_cases hlt:k<n
  ·have q:=cell_later hw (hc k hlt)
   have hpk:=fun W hb=>hp W k hlt hb
   simp only at hpk
   cases hpp:p k with
   | false=>
    rw [hpp] at hpk
    have HP:=hid hpp
    clear hpp
    go_wp2_with (go_at_fn g;refine (hpk _ hw).mono ?_;rintro e w' ⟨rfl,hb'⟩)
    refine ⟨⟨k+1,by omega,by go_num,fun j h=>?_,hw.trans (hb'.mono hw.size)⟩,by simp [intOf];omega⟩
    by_cases hj:j=k
    ·subst hj;exact HP.out
    ·exact HB.out j (by omega)
   | true=>
    rw [hpp] at hpk
    have e:=uh p n k hlt HB.out hpp
    rw [HF.out] at e
    subst e
    clear hpp
    go_wp2_with (go_at_fn g;refine (hpk _ hw).mono ?_;rintro e w' ⟨rfl,hb'⟩)
    go_ret2
    exact ⟨rfl,hw.trans (hb'.mono hw.size)⟩
  ·have e:=jW p n (fun j h=>HB.out j (by omega))
   rw [HF.out] at e
   subst e
   go_wp2
   go_ret2
   exact ⟨rfl,hw⟩
theorem zj6 (n b o cap g:Nat) (lb:Array Value) (v:Nat→Int) (p:Nat→Bool) (w:World) (hn:n≤1000000000000) (eg:∀args w,(callFunc g args).run Tryz.prog w = .ok (.enter g args) w)
  (hc:∀j,j<n→w.cell? ⟨b,o+j,none⟩=some (.int .u8 (v j))) (hp:J5 g lb (fun j => .int .u8 (v j)) n p w) :
  Calls Tryz.prog 184 #[.slice (some ⟨b,o,none⟩) n cap, .func (.func g) #[] lb] w fun e w'=>
   e = .returned (.bool (zB p n).isSome)∧Below w.heap.size w w':=by
 have c:=jF n b o cap g lb v p w hn eg hc hp
 generalize zB p n=F at c
 go_enter Tryz.func184,Tryz.ntmps184
 go_wp2_with (go_at_call 223;refine c.mono ?_;rintro e w' ⟨rfl,hb'⟩)
 go_ret
 exact ⟨rfl,hb'⟩
theorem zf3 (g:Nat) (lb:Array Value) (x:Int) (B:Nat) (y:Bool) (w:World) (eg:∀args w,(callFunc g args).run Tryz.prog w = .ok (.enter g args) w)
  (hB:w.cell? ⟨B,0,none⟩=some (.func (.func g) #[] lb)) (hp:Calls Tryz.prog g (#[.int .u8 x]++lb) w fun e w'=>e = .returned (.bool y)∧Below w.heap.size w w') :
  Calls Tryz.prog 185 #[.int .u8 x, .pointer (some ⟨B,0,none⟩)] w fun e w'=>e = .returned (.bool (!y))∧Below w.heap.size w w':=by
 go_enter Tryz.func185,Tryz.ntmps185
 go_wp2_with (go_at_fn g;refine hp.mono ?_;rintro e w' ⟨rfl,hb'⟩)
 go_ret
 exact ⟨rfl,hb'⟩
theorem zdU (n b o cap g:Nat) (lb:Array Value) (v:Nat→Int) (p:Nat→Bool) (w:World) (hn:n≤1000000000000) (eg:∀args w,(callFunc g args).run Tryz.prog w = .ok (.enter g args) w)
  (hc:∀j,j<n→w.cell? ⟨b,o+j,none⟩=some (.int .u8 (v j))) (hp:J5 g lb (fun j => .int .u8 (v j)) n p w) :
  Calls Tryz.prog 132 #[.slice (some ⟨b,o,none⟩) n cap, .func (.func g) #[] lb] w fun e w'=>
   e = .returned (.bool (allOf p n))∧Below w.heap.size w w':=by
 have e1:∀args w,(callFunc 185 args).run Tryz.prog w = .ok (.enter 185 args) w:=enters_of Tryz.func185 (by kernel_rfl) rfl
 have c:=zj6 n b o cap 185 #[.pointer (some ⟨w.heap.size,0,none⟩)] v (fun j=>!p j) (w.alloc (.cells #[.func (.func g) #[] lb] 257)) hn e1
  (fun j hj=>cell_later ((Below.refl _ w).alloc (Nat.le_refl _) _) (hc j hj))
  (fun W j hj hb=>by
   refine zf3 g lb (v j) w.heap.size (p j) W eg ?_ (hp W j hj (((Below.refl _ w).alloc (Nat.le_refl _) _).trans (hb.mono (by simp))))
   exact cell_later hb (by simp))
 rw [Vd]
 generalize zB (fun j=>!p j) n=F at c
 go_enter Tryz.func132,Tryz.ntmps132
 go_wp2_with (go_at_call 184;refine c.mono ?_;rintro e w' ⟨rfl,hb'⟩)
 go_ret
 exact ⟨rfl,((Below.refl _ w).alloc (Nat.le_refl _) _).trans (hb'.mono (by simp))⟩
theorem Yz (w:World):(Instr.typeAssert .nilIface 114 270 true).run Tryz.prog w = .ok (.tuple #[.string ⟨#[]⟩, .bool false]) w:=by kernel_rfl
theorem kY (v:Value) (w:World):(Instr.typeAssert (.iface 270 v) 114 270 true).run Tryz.prog w = .ok (.tuple #[v, .bool true]) w:=by kernel_rfl
theorem Q3 (v:Value) (w:World):(Instr.typeAssert (.iface 271 v) 114 270 true).run Tryz.prog w = .ok (.tuple #[.string ⟨#[]⟩, .bool false]) w:=by kernel_rfl
theorem QQ (v:Value) (w:World):(Instr.typeAssert (.iface 121 v) 114 270 true).run Tryz.prog w = .ok (.tuple #[.string ⟨#[]⟩, .bool false]) w:=by kernel_rfl
theorem Yo (v:Value) (w:World):(Instr.typeAssert (.iface 118 v) 114 270 true).run Tryz.prog w = .ok (.tuple #[.string ⟨#[]⟩, .bool false]) w:=by kernel_rfl
theorem zcm (v:Value) (w:World):(Instr.typeAssert (.iface 270 v) 114 271 true).run Tryz.prog w = .ok (.tuple #[.bool false, .bool false]) w:=by kernel_rfl
theorem zbm (v:Value) (w:World):(Instr.typeAssert (.iface 271 v) 114 271 true).run Tryz.prog w = .ok (.tuple #[v, .bool true]) w:=by kernel_rfl
theorem zbx (v:Value) (w:World):(Instr.typeAssert (.iface 121 v) 114 271 true).run Tryz.prog w = .ok (.tuple #[.bool false, .bool false]) w:=by kernel_rfl
theorem zcn (v:Value) (w:World):(Instr.typeAssert (.iface 118 v) 114 271 true).run Tryz.prog w = .ok (.tuple #[.bool false, .bool false]) w:=by kernel_rfl
theorem zdA (w:World):(Instr.typeAssert .nilIface 114 121 true).run Tryz.prog w = .ok (.tuple #[.slice none 0 0, .bool false]) w:=by kernel_rfl
theorem zdF (v:Value) (w:World):(Instr.typeAssert (.iface 270 v) 114 121 true).run Tryz.prog w = .ok (.tuple #[.slice none 0 0, .bool false]) w:=by kernel_rfl
theorem zar (v:Value) (w:World):(Instr.typeAssert (.iface 271 v) 114 121 true).run Tryz.prog w = .ok (.tuple #[.slice none 0 0, .bool false]) w:=by kernel_rfl
theorem ZU (v:Value) (w:World):(Instr.typeAssert (.iface 121 v) 114 121 true).run Tryz.prog w = .ok (.tuple #[v, .bool true]) w:=by kernel_rfl
theorem zdx (v:Value) (w:World):(Instr.typeAssert (.iface 118 v) 114 121 true).run Tryz.prog w = .ok (.tuple #[.slice none 0 0, .bool false]) w:=by kernel_rfl
theorem zeW (w:World):(Instr.typeAssert .nilIface 114 118 true).run Tryz.prog w = .ok (.tuple #[.slice none 0 0, .bool false]) w:=by kernel_rfl
theorem zfD (v:Value) (w:World):(Instr.typeAssert (.iface 270 v) 114 118 true).run Tryz.prog w = .ok (.tuple #[.slice none 0 0, .bool false]) w:=by kernel_rfl
theorem zdh (v:Value) (w:World):(Instr.typeAssert (.iface 271 v) 114 118 true).run Tryz.prog w = .ok (.tuple #[.slice none 0 0, .bool false]) w:=by kernel_rfl
theorem zcy (v:Value) (w:World):(Instr.typeAssert (.iface 121 v) 114 118 true).run Tryz.prog w = .ok (.tuple #[.slice none 0 0, .bool false]) w:=by kernel_rfl
theorem Yp (v:Value) (w:World):(Instr.typeAssert (.iface 118 v) 114 118 true).run Tryz.prog w = .ok (.tuple #[v, .bool true]) w:=by kernel_rfl
end Go.Proofs.YtdakgnaojakldaaGreatDoor
