/- P -/
import Derived.Test.YtdakgnaojakldaaGreatDoorP01
import Derived.LaidEql
import Derived.Stop.Asserts
import Derived.RowKitTokens
set_option maxRecDepth 100000
set_option maxHeartbeats 4000000
namespace Go.Proofs.YtdakgnaojakldaaGreatDoor
open Go.RowKit Go.Extern.Stop Go.Stop Go.Extern
theorem Tryz.erKind (h:Value) (w:World):(Go.method 558 283 (.agg #[h]) "Kind").run Tryz.prog w = .ok (288,h) w:=by kernel_rfl
theorem Tryz.erElem (h:Value) (w:World):(Go.method 558 283 (.agg #[h]) "Elem").run Tryz.prog w = .ok (308, .agg #[h]) w:=by kernel_rfl
theorem Tryz.erImplements (h:Value) (w:World):(Go.method 558 283 (.agg #[h]) "Implements").run Tryz.prog w = .ok (309, .agg #[h]) w:=by kernel_rfl
theorem Tryz.erAssignableTo (h:Value) (w:World):(Go.method 558 283 (.agg #[h]) "AssignableTo").run Tryz.prog w = .ok (306, .agg #[h]) w:=by kernel_rfl
structure VG (E:TypeId):Prop where
 typeOf:∀(v:Value) (w:World),(ReflectliteType.typeOf #[.iface E v]).run Tryz.prog w = .ok (.iface 283 (.agg #[.pointer (some ⟨7,E,none⟩)])) w
 noAs:∀(v:Value) (xT:TypeId) (w:World),(Instr.typeAssert (.iface E v) xT 292 true).run Tryz.prog w = .ok (.tuple #[.nilIface, .bool false]) w
 noIs:∀(v:Value) (xT:TypeId) (w:World),(Instr.typeAssert (.iface E v) xT 285 true).run Tryz.prog w = .ok (.tuple #[.nilIface, .bool false]) w
 noUnwraps:∀(v:Value) (xT:TypeId) (w:World),(Instr.typeAssert (.iface E v) xT 288 true).run Tryz.prog w = .ok (.tuple #[.nilIface, .bool false]) w
 ne:E≠418
def vk (E:TypeId):Prop:=∀(v:Value) (xT:TypeId) (w:World),(Instr.typeAssert (.iface E v) xT 287 true).run Tryz.prog w = .ok (.tuple #[.nilIface, .bool false]) w
def Assign (E T:TypeId) (b:Bool):Prop:=∀w:World,(ReflectliteType.relation "AssignableTo" ReflectliteType.assignableTo #[.agg #[.pointer (some ⟨7,E,none⟩)], .iface 283 (.agg #[.pointer (some ⟨7,T,none⟩)])]).run Tryz.prog w = .ok (.bool b) w
theorem Ul (E T:TypeId) (v tgt a1 a2 a3:Value) (w:World) (hE:VG E) (hW:vk E) (hA:Assign E T false) :
  Calls Tryz.prog 108 #[.iface E v,tgt, .agg #[a1,a2,a3], .iface 283 (.agg #[.pointer (some ⟨7,T,none⟩)])] w fun e w'=>e = .returned (.bool false)∧Below w.heap.size w w':=by
 have h10:=@run_callFunc_extern Tryz.prog 103 _ ReflectliteType.typeOf Tryz.func103 (by kernel_rfl) (by kernel_rfl) (by kernel_rfl) (by kernel_rfl)
 have h35:=@run_callFunc_extern Tryz.prog 306 _ (ReflectliteType.relation "AssignableTo" ReflectliteType.assignableTo) Tryz.func306 (by kernel_rfl) (by kernel_rfl) (by kernel_rfl) (by kernel_rfl)
 have tO:=hE.typeOf
 have mA:=Tryz.erAssignableTo
 have aT:=hA
 unfold Assign at aT
 have n1:=hE.noAs
 have n2:=hW
 unfold vk at n2
 have n3:=hE.noUnwraps
 clear hE hW hA
 go_enter Tryz.func108,Tryz.ntmps108
 go_wp2
 refine wp_loop_rounds 1 ?_
 rw [rounds_succ]
 go_wp2
 go_ret
 exact ⟨rfl,(Below.refl _ w).alloc (Nat.le_refl _) _⟩
def jq (w:World):Prop:=w.cell? ⟨1,0,none⟩=some (.iface 283 (.agg #[.pointer (some ⟨7,74,none⟩)]))
theorem jq.below {w w':World} (h:jq w) (hb:Below w.heap.size w w'):jq w':=cell_later hb h
structure zdj (T pT:TypeId):Prop where
 unpack:∀(t:Addr) (w:World),(ReflectliteValue.unpack (.iface pT (.pointer (some t)))).run Tryz.prog w = .ok (.agg #[.pointer (some ⟨7,pT,none⟩), .pointer (some ⟨w.heap.size,0,none⟩), .int .u64 150]) (w.alloc (.cells #[.pointer (some t)] pT))
 type:∀(a:Addr) (w:World),(ReflectliteValue.methodAny (ReflectliteValue.valueError "reflectlite.Value.Type" 0) (fun t _ _ _=>ReflectliteType.toType t) #[.agg #[.pointer (some ⟨7,pT,none⟩), .pointer (some a), .int .u64 150]]).run Tryz.prog w = .ok (.iface 283 (.agg #[.pointer (some ⟨7,pT,none⟩)])) w
 kindP:∀w:World,((ReflectliteType.abiMethod fun t=>(fun a:Nat=>Value.int IntKind.u8 (a:Int)) <$> Rtype.kind t) #[.pointer (some ⟨7,pT,none⟩)]).run Tryz.prog w = .ok (.int .u8 22) w
 kind:∀w:World,((ReflectliteType.abiMethod fun t=>(fun a:Nat=>Value.int IntKind.u8 (a:Int)) <$> Rtype.kind t) #[.pointer (some ⟨7,T,none⟩)]).run Tryz.prog w = .ok (.int .u8 25) w
 isNil:∀(a p:Addr) (W:World),W.cell? a=some (.pointer (some p))→(ReflectliteValue.method (ReflectliteValue.valueError "reflectlite.Value.IsNil" 0) ReflectliteValue.isNil #[.agg #[.pointer (some ⟨7,pT,none⟩), .pointer (some a), .int .u64 150]]).run Tryz.prog W = .ok (.bool false) W
 elem:∀w:World,(ReflectliteType.method ReflectliteType.elem #[.agg #[.pointer (some ⟨7,pT,none⟩)]]).run Tryz.prog w = .ok (.iface 283 (.agg #[.pointer (some ⟨7,T,none⟩)])) w
 impl:∀w:World,(ReflectliteType.relation "Implements" ReflectliteType.implements_ #[.agg #[.pointer (some ⟨7,T,none⟩)], .iface 283 (.agg #[.pointer (some ⟨7,74,none⟩)])]).run Tryz.prog w = .ok (.bool true) w
 elemV:∀(a p:Addr) (W:World),W.cell? a=some (.pointer (some p))→(ReflectliteValue.method (ReflectliteValue.valueError "reflectlite.Value.Elem" 0) ReflectliteValue.elem #[.agg #[.pointer (some ⟨7,pT,none⟩), .pointer (some a), .int .u64 150]]).run Tryz.prog W = .ok (.agg #[.pointer (some ⟨7,T,none⟩), .pointer (some p), .int .u64 409]) W
theorem zbZ (T pT E:TypeId) (v:Value) (t:Addr) (w:World) (hg:jq w) (hT:zdj T pT) (b:Bool) (Q:World→Prop)
  (hc:∀O,Calls Tryz.prog 108 #[.iface E v, .iface pT (.pointer (some t)), .agg #[.pointer (some ⟨7,pT,none⟩), .pointer (some ⟨w.heap.size,0,none⟩), .int .u64 150], .iface 283 (.agg #[.pointer (some ⟨7,T,none⟩)])]
   ((w.alloc (.cells #[.pointer (some t)] pT)).alloc O) fun e w'=>e = .returned (.bool b)∧Q w') :
  Calls Tryz.prog 57 #[.iface E v, .iface pT (.pointer (some t))] w fun e w'=>e = .returned (.bool b)∧Q w':=by
 have h6:=@run_callFunc_extern Tryz.prog 105 _ (fun args=>ReflectliteValue.unpack (args.getD 0 (.tuple #[]))) Tryz.func105 (by kernel_rfl) (by kernel_rfl) (by kernel_rfl) (by kernel_rfl)
 have h7:=@run_callFunc_extern Tryz.prog 106 _ (ReflectliteValue.methodAny (ReflectliteValue.valueError "reflectlite.Value.Type" 0) (fun t _ _ _=>ReflectliteType.toType t)) Tryz.func106 (by kernel_rfl) (by kernel_rfl) (by kernel_rfl) (by kernel_rfl)
 have h8:=@run_callFunc_extern Tryz.prog 107 _ (ReflectliteValue.method (ReflectliteValue.valueError "reflectlite.Value.IsNil" 0) ReflectliteValue.isNil) Tryz.func107 (by kernel_rfl) (by kernel_rfl) (by kernel_rfl) (by kernel_rfl)
 have h27:=@run_callFunc_extern Tryz.prog 288 _ (ReflectliteType.abiMethod fun t=>do pure (.int .u8 (← Rtype.kind t))) Tryz.func288 (by kernel_rfl) (by kernel_rfl) (by kernel_rfl) (by kernel_rfl)
 have h37:=@run_callFunc_extern Tryz.prog 308 _ (ReflectliteType.method ReflectliteType.elem) Tryz.func308 (by kernel_rfl) (by kernel_rfl) (by kernel_rfl) (by kernel_rfl)
 have h38:=@run_callFunc_extern Tryz.prog 309 _ (ReflectliteType.relation "Implements" ReflectliteType.implements_) Tryz.func309 (by kernel_rfl) (by kernel_rfl) (by kernel_rfl) (by kernel_rfl)
 have mK:=Tryz.erKind
 have mE:=Tryz.erElem
 have mI:=Tryz.erImplements
 have f6:=hT.unpack
 have f7:=hT.type
 have kP:=hT.kindP
 have kT:=hT.kind
 have eP:=hT.elem
 have iT:=hT.impl
 have n8:=fun O=>hT.isNil ⟨w.heap.size,0,none⟩ t ((w.alloc (.cells #[.pointer (some t)] pT)).alloc O) (by simp)
 have hgA:=fun O1 O2:Obj=>hg.below (((Below.refl _ w).alloc (Nat.le_refl _) O1).alloc (by simp) O2)
 unfold jq at hgA
 clear hg hT
 go_enter Tryz.func57,Tryz.ntmps57
 go_wp2_with (go_at_call 108;refine (hc _).mono ?_;rintro e w1 ⟨rfl,hq⟩)
 go_ret
 exact ⟨rfl,hq⟩
structure zje (E:TypeId) (ok:Value→Prop):Prop where
 held:∀(x:Value) (w:World),ok x→(ReflectliteValue.unpack (.iface E (.agg #[x]))).run Tryz.prog w = .ok (.agg #[.pointer (some ⟨7,E,none⟩), .pointer (some ⟨w.heap.size,0,none⟩), .int .u64 153]) (w.alloc (.cells #[x] E))
 set:∀(ta b:Addr) (x old:Value) (W:World),ok x→W.cell? b=some x→W.cell? ta=some old→W.frozen? ta=false →
  (ReflectliteValue.set #[.agg #[.pointer (some ⟨7,E,none⟩), .pointer (some ta), .int .u64 409], .agg #[.pointer (some ⟨7,E,none⟩), .pointer (some b), .int .u64 153]]).run Tryz.prog W = .ok (.tuple #[]) (W.setCell ta x)
theorem zi {w:World} {a:Addr} {v:Value} (h:w.cell? a=some v) (O:Obj):(w.alloc O).cell? a=some v:=by
 have hl:a.block<w.heap.size:=by
  rcases Nat.lt_or_ge a.block w.heap.size with h'|h'
  ·exact h'
  ·simp [World.cell?,Array.getElem?_eq_none h'] at h
 rw [World.cell?_alloc_lt _ _ a hl];exact h
theorem zO {w:World} {a:Addr} {v:Value} (h:w.cell? a=some v) (hf:w.frozen? a=false) (O:Obj):(w.alloc O).frozen? a=false:=by
 have hl:a.block<w.heap.size:=by
  rcases Nat.lt_or_ge a.block w.heap.size with h'|h'
  ·exact h'
  ·simp [World.cell?,Array.getElem?_eq_none h'] at h
 rw [World.frozen?_alloc_old _ _ a (Nat.ne_of_lt hl)];exact hf
theorem zbE (E pE:TypeId) (ok:Value→Prop) (x tgt old:Value) (a t:Addr) (w:World) (hE:VG E) (hA:Assign E E true) (hT:zdj E pE) (hH:zje E ok) (hx:ok x) (ha:w.cell? a=some (.pointer (some t))) (ht:w.cell? t=some old) (hf:w.frozen? t=false) :
  Calls Tryz.prog 108 #[.iface E (.agg #[x]),tgt, .agg #[.pointer (some ⟨7,pE,none⟩), .pointer (some a), .int .u64 150], .iface 283 (.agg #[.pointer (some ⟨7,E,none⟩)])] w fun e w'=>
   e = .returned (.bool true)∧w'.cell? t=some x∧∀base,base≤t.block→base≤w.heap.size→Below base w w':=by
 have h10:=@run_callFunc_extern Tryz.prog 103 _ ReflectliteType.typeOf Tryz.func103 (by kernel_rfl) (by kernel_rfl) (by kernel_rfl) (by kernel_rfl)
 have h35:=@run_callFunc_extern Tryz.prog 306 _ (ReflectliteType.relation "AssignableTo" ReflectliteType.assignableTo) Tryz.func306 (by kernel_rfl) (by kernel_rfl) (by kernel_rfl) (by kernel_rfl)
 have h6:=@run_callFunc_extern Tryz.prog 105 _ (fun args=>ReflectliteValue.unpack (args.getD 0 (.tuple #[]))) Tryz.func105 (by kernel_rfl) (by kernel_rfl) (by kernel_rfl) (by kernel_rfl)
 have h11:=@run_callFunc_extern Tryz.prog 156 _ (ReflectliteValue.method (ReflectliteValue.valueError "reflectlite.Value.Elem" 0) ReflectliteValue.elem) Tryz.func156 (by kernel_rfl) (by kernel_rfl) (by kernel_rfl) (by kernel_rfl)
 have h12:=@run_callFunc_extern Tryz.prog 157 _ ReflectliteValue.set Tryz.func157 (by kernel_rfl) (by kernel_rfl) (by kernel_rfl) (by kernel_rfl)
 have tO:=hE.typeOf
 have mA:=Tryz.erAssignableTo
 have aT:=hA
 unfold Assign at aT
 have vH:=fun w=>hH.held x w hx
 have el:=fun O=>hT.elemV a t (w.alloc O) (zi ha O)
 have st:=fun O=>hH.set t ⟨w.heap.size+1,0,none⟩ x old ((w.alloc O).alloc (.cells #[x] E)) hx (by rw [World.cell?_alloc_at _ _ _ _ (by simp)];rfl) (zi (zi ht O) _) (zO (zi ht O) (zO ht hf O) _)
 have fin:=fun O=>World.cell?_setCell_same ((w.alloc O).alloc (.cells #[x] E)) t x (zi (zi ht O) (.cells #[x] E))
 clear hE hA hT hH ha
 go_enter Tryz.func108,Tryz.ntmps108
 go_wp2
 refine wp_loop_rounds 1 ?_
 rw [rounds_succ]
 go_wp2
 go_ret
 refine ⟨rfl,fin _,fun base hb1 hb2=>?_⟩
 exact (((Below.refl base w).alloc hb2 _).alloc (by simp;omega) _).setCell hb1 _
theorem Tryz.stUnwraps (v:Value) (xT:TypeId) (w:World):(Instr.typeAssert (.iface 138 v) xT 287 true).run Tryz.prog w = .ok (.tuple #[.iface 138 v, .bool true]) w:=by kernel_rfl
theorem Tryz.stUnwrap (v:Value) (w:World):(Go.method 558 138 v "Unwrap").run Tryz.prog w = .ok (295,v) w:=by kernel_rfl
theorem Vl (n:Int) (E:TypeId) (v:Value) (w:World) :
  Calls Tryz.prog 295 #[.agg #[.int .i64 n, .iface E v]] w fun e w'=>e = .returned (.iface E v)∧Below w.heap.size w w':=by
 go_enter Tryz.func295,Tryz.ntmps295
 go_wp2
 go_ret
 exact ⟨rfl,by first|exact Below.refl _ _|exact (Below.refl _ w).alloc (Nat.le_refl _) _⟩
theorem zb8 (E T:TypeId) (n:Int) (v tgt a1 a2 a3:Value) (w:World) (hS:VG 138) (hE:VG E) (hW:vk E) (hA:Assign 138 T false) (hB:Assign E T false) :
  Calls Tryz.prog 108 #[.iface 138 (.agg #[.int .i64 n, .iface E v]),tgt, .agg #[a1,a2,a3], .iface 283 (.agg #[.pointer (some ⟨7,T,none⟩)])] w fun e w'=>e = .returned (.bool false)∧Below w.heap.size w w':=by
 have h10:=@run_callFunc_extern Tryz.prog 103 _ ReflectliteType.typeOf Tryz.func103 (by kernel_rfl) (by kernel_rfl) (by kernel_rfl) (by kernel_rfl)
 have h35:=@run_callFunc_extern Tryz.prog 306 _ (ReflectliteType.relation "AssignableTo" ReflectliteType.assignableTo) Tryz.func306 (by kernel_rfl) (by kernel_rfl) (by kernel_rfl) (by kernel_rfl)
 have tO:=hE.typeOf
 have tS:=hS.typeOf
 have mA:=Tryz.erAssignableTo
 have aT:=hB
 have aS:=hA
 unfold Assign at aT aS
 have n1:=hE.noAs
 have n2:=hW
 unfold vk at n2
 have n3:=hE.noUnwraps
 have s1:=hS.noAs
 have u1:=Tryz.stUnwraps
 have u2:=Tryz.stUnwrap
 clear hE hW hA hB hS
 go_enter Tryz.func108,Tryz.ntmps108
 go_wp2
 refine wp_loop_rounds 2 ?_
 rw [rounds_succ]
 go_wp2_with (go_at_call 295;refine (Vl n E v _).mono ?_;rintro e w1 ⟨rfl,hb1⟩)
 rw [rounds_succ]
 go_wp2
 go_ret
 exact ⟨rfl,((Below.refl _ w).alloc (Nat.le_refl _) _).trans (hb1.mono (by simp))⟩
theorem zc4 (E pE:TypeId) (ok:Value→Prop) (n:Int) (x tgt old:Value) (a t:Addr) (w:World) (hS:VG 138) (hE:VG E) (hA:Assign 138 E false) (hB:Assign E E true) (hT:zdj E pE) (hH:zje E ok) (hx:ok x)
  (ha:w.cell? a=some (.pointer (some t))) (ht:w.cell? t=some old) (hf:w.frozen? t=false) :
  Calls Tryz.prog 108 #[.iface 138 (.agg #[.int .i64 n, .iface E (.agg #[x])]),tgt, .agg #[.pointer (some ⟨7,pE,none⟩), .pointer (some a), .int .u64 150], .iface 283 (.agg #[.pointer (some ⟨7,E,none⟩)])] w fun e w'=>
   e = .returned (.bool true)∧w'.cell? t=some x∧∀base,base≤t.block→base≤w.heap.size→Below base w w':=by
 have h10:=@run_callFunc_extern Tryz.prog 103 _ ReflectliteType.typeOf Tryz.func103 (by kernel_rfl) (by kernel_rfl) (by kernel_rfl) (by kernel_rfl)
 have h35:=@run_callFunc_extern Tryz.prog 306 _ (ReflectliteType.relation "AssignableTo" ReflectliteType.assignableTo) Tryz.func306 (by kernel_rfl) (by kernel_rfl) (by kernel_rfl) (by kernel_rfl)
 have h6:=@run_callFunc_extern Tryz.prog 105 _ (fun args=>ReflectliteValue.unpack (args.getD 0 (.tuple #[]))) Tryz.func105 (by kernel_rfl) (by kernel_rfl) (by kernel_rfl) (by kernel_rfl)
 have h11:=@run_callFunc_extern Tryz.prog 156 _ (ReflectliteValue.method (ReflectliteValue.valueError "reflectlite.Value.Elem" 0) ReflectliteValue.elem) Tryz.func156 (by kernel_rfl) (by kernel_rfl) (by kernel_rfl) (by kernel_rfl)
 have h12:=@run_callFunc_extern Tryz.prog 157 _ ReflectliteValue.set Tryz.func157 (by kernel_rfl) (by kernel_rfl) (by kernel_rfl) (by kernel_rfl)
 have tO:=hE.typeOf
 have tS:=hS.typeOf
 have mA:=Tryz.erAssignableTo
 have aT:=hB
 have aS:=hA
 unfold Assign at aT aS
 have s1:=hS.noAs
 have u1:=Tryz.stUnwraps
 have u2:=Tryz.stUnwrap
 have vH:=fun w=>hH.held x w hx
 have el:=fun W h=>hT.elemV a t W h
 have st:=fun W b h1 h2 h3=>hH.set t b x old W hx h1 h2 h3
 clear hE hA hB hT hH hS
 go_enter Tryz.func108,Tryz.ntmps108
 go_wp2
 refine wp_loop_rounds 2 ?_
 rw [rounds_succ]
 go_wp2_with (go_at_call 295;refine (Vl n E (.agg #[x]) _).mono ?_;rintro e w1 ⟨rfl,hb1⟩)
 have ha1:=cell_later hb1 (zi ha _)
 have ht1:=cell_later hb1 (zi ht _)
 have hf1:=(hb1.frozen (p:=t) (by
  have h:=zi ht (.cells #[.pointer (some ⟨7,pE,none⟩), .pointer (some a), .int .u64 150] 221)
  rcases Nat.lt_or_ge t.block (w.alloc (.cells #[.pointer (some ⟨7,pE,none⟩), .pointer (some a), .int .u64 150] 221)).heap.size with h'|h'
  ·exact h'
  ·simp [World.cell?,Array.getElem?_eq_none h'] at h)).trans (zO ht hf _)
 have el1:=el w1 ha1
 have bx0:w1.cell? ⟨w.heap.size,0,none⟩=some (.pointer (some ⟨7,pE,none⟩)):=cell_later hb1 (by simp)
 have bx1:w1.cell? ⟨w.heap.size,1,none⟩=some (.pointer (some a)):=cell_later hb1 (by simp)
 have bx2:w1.cell? ⟨w.heap.size,2,none⟩=some (.int .u64 150):=cell_later hb1 (by simp)
 have st1:=st (w1.alloc (.cells #[x] E)) ⟨w1.heap.size,0,none⟩ (by rw [World.cell?_alloc_at _ _ _ _ (by simp)];rfl) (zi ht1 _) (zO ht1 hf1 _)
 have fin:=World.cell?_setCell_same (w1.alloc (.cells #[x] E)) t x (zi ht1 _)
 clear el st
 rw [rounds_succ]
 go_wp2
 go_ret
 refine ⟨rfl,fin,fun base hb1' hb2=>?_⟩
 exact ((((Below.refl base w).alloc hb2 _).trans (hb1.mono (by simp;omega))).alloc (by have:=hb1.size;simp at this;omega) _).setCell hb1' _
theorem Tryz.stHeld (n:Int) (u:Value) (w:World):(ReflectliteValue.unpack (.iface 138 (.agg #[.int .i64 n,u]))).run Tryz.prog w = .ok (.agg #[.pointer (some ⟨7,138,none⟩), .pointer (some ⟨w.heap.size,0,none⟩), .int .u64 153]) (w.alloc (.cells #[.int .i64 n,u] 138)):=by kernel_rfl
theorem Tryz.stPartsA (a:Addr) (w:World):(ReflectliteValue.parts (.agg #[.pointer (some ⟨7,138,none⟩), .pointer (some a), .int .u64 409])).run Tryz.prog w = .ok (some (138,a,409)) w:=by kernel_rfl
theorem Tryz.stPartsB (a:Addr) (w:World):(ReflectliteValue.parts (.agg #[.pointer (some ⟨7,138,none⟩), .pointer (some a), .int .u64 153])).run Tryz.prog w = .ok (some (138,a,153)) w:=by kernel_rfl
theorem Tryz.stDirect (w:World):(Rtype.directlyAssignable 138 138).run Tryz.prog w = .ok true w:=by kernel_rfl
theorem yU (v x:Value) (h1:Value→Value→Sem Value) (h2:Array Value→Sem Value):ReflectliteValue.set.match_3 (fun _=>Sem Value) #[v,x] h1 h2=h1 v x:=rfl
theorem qB (v:Value) (h1:Value→Sem Value) (h2:Array Value→Sem Value):ReflectliteValue.method.match_2 (fun _=>Sem Value) #[v] h1 h2=h1 v:=rfl
theorem Tryz.stSet (tb b:Nat) (n:Int) (E:TypeId) (v o1 o2:Value) (W:World) (h1:W.cell? ⟨b,0,none⟩=some (.int .i64 n)) (h2:W.cell? ⟨b,1,none⟩=some (.iface E v)) (t1:W.cell? ⟨tb,0,none⟩=some o1) (t2:W.cell? ⟨tb,1,none⟩=some o2) (f1:W.frozen? ⟨tb,0,none⟩=false) (f2:W.frozen? ⟨tb,1,none⟩=false) :
  (ReflectliteValue.set #[.agg #[.pointer (some ⟨7,138,none⟩), .pointer (some ⟨tb,0,none⟩), .int .u64 409], .agg #[.pointer (some ⟨7,138,none⟩), .pointer (some ⟨b,0,none⟩), .int .u64 153]]).run Tryz.prog W
   = .ok (.tuple #[]) ((W.setCell ⟨tb,0,none⟩ (.int .i64 n)).setCell ⟨tb,1,none⟩ (.iface E v)):=by
 delta ReflectliteValue.set
 rw [yU]
 simp only [Sem.run_bind,Tryz.stPartsA,Tryz.stPartsB,Result.andThen]
 have e1:(W.setCell ⟨tb,0,none⟩ (.int .i64 n)).cell? ⟨tb,1,none⟩=some o2:=(World.cell?_setCell_other _ _ _ _ (by simp)).trans t2
 have e2:(W.setCell ⟨tb,0,none⟩ (.int .i64 n)).frozen? ⟨tb,1,none⟩=false:=by rw [World.frozen?_setCell];exact f2
 simp [ReflectliteValue.flagAddr,loadVar,isAgg,Tryz.sizeOf138,loadCells,loadCellsFrom,h1,h2,Result.andThen,Tryz.stDirect,storeVar,Value.cells,storeCells,Addr.add]
 rw [run_store Tryz.prog W ⟨tb,0,none⟩ _ _ (by rfl)]
 simp [t1,f1]
 rw [run_store Tryz.prog _ ⟨tb,1,none⟩ _ _ (by rfl)]
 simp [e1,e2]
theorem zic (pS E:TypeId) (n:Int) (v tgt o1 o2:Value) (a:Addr) (tb:Nat) (w:World) (hS:VG 138) (hA:Assign 138 138 true) (hT:zdj 138 pS)
  (ha:w.cell? a=some (.pointer (some ⟨tb,0,none⟩))) (t1:w.cell? ⟨tb,0,none⟩=some o1) (t2:w.cell? ⟨tb,1,none⟩=some o2) (f1:w.frozen? ⟨tb,0,none⟩=false) (f2:w.frozen? ⟨tb,1,none⟩=false) :
  Calls Tryz.prog 108 #[.iface 138 (.agg #[.int .i64 n, .iface E v]),tgt, .agg #[.pointer (some ⟨7,pS,none⟩), .pointer (some a), .int .u64 150], .iface 283 (.agg #[.pointer (some ⟨7,138,none⟩)])] w fun e w'=>
   e = .returned (.bool true)∧w'.cell? ⟨tb,0,none⟩=some (.int .i64 n)∧∀base,base≤tb→base≤w.heap.size→Below base w w':=by
 have h10:=@run_callFunc_extern Tryz.prog 103 _ ReflectliteType.typeOf Tryz.func103 (by kernel_rfl) (by kernel_rfl) (by kernel_rfl) (by kernel_rfl)
 have h35:=@run_callFunc_extern Tryz.prog 306 _ (ReflectliteType.relation "AssignableTo" ReflectliteType.assignableTo) Tryz.func306 (by kernel_rfl) (by kernel_rfl) (by kernel_rfl) (by kernel_rfl)
 have h6:=@run_callFunc_extern Tryz.prog 105 _ (fun args=>ReflectliteValue.unpack (args.getD 0 (.tuple #[]))) Tryz.func105 (by kernel_rfl) (by kernel_rfl) (by kernel_rfl) (by kernel_rfl)
 have h11:=@run_callFunc_extern Tryz.prog 156 _ (ReflectliteValue.method (ReflectliteValue.valueError "reflectlite.Value.Elem" 0) ReflectliteValue.elem) Tryz.func156 (by kernel_rfl) (by kernel_rfl) (by kernel_rfl) (by kernel_rfl)
 have h12:=@run_callFunc_extern Tryz.prog 157 _ ReflectliteValue.set Tryz.func157 (by kernel_rfl) (by kernel_rfl) (by kernel_rfl) (by kernel_rfl)
 have tO:=hS.typeOf
 have mA:=Tryz.erAssignableTo
 have aT:=hA
 unfold Assign at aT
 have vH:=fun w=>Tryz.stHeld n (.iface E v) w
 have el:=fun O=>hT.elemV a ⟨tb,0,none⟩ (w.alloc O) (zi ha O)
 have st:=fun O=>Tryz.stSet tb (w.heap.size+1) n E v o1 o2 ((w.alloc O).alloc (.cells #[.int .i64 n, .iface E v] 138)) (by rw [World.cell?_alloc_at _ _ _ _ (by simp)];rfl) (by rw [World.cell?_alloc_at _ _ _ _ (by simp)];rfl) (zi (zi t1 O) _) (zi (zi t2 O) _) (zO (zi t1 O) (zO t1 f1 O) _) (zO (zi t2 O) (zO t2 f2 O) _)
 have fin:=fun O=>(World.cell?_setCell_other (((w.alloc O).alloc (.cells #[.int .i64 n, .iface E v] 138)).setCell ⟨tb,0,none⟩ (.int .i64 n)) ⟨tb,1,none⟩ ⟨tb,0,none⟩ (.iface E v) (by simp)).trans (World.cell?_setCell_same ((w.alloc O).alloc (.cells #[.int .i64 n, .iface E v] 138)) ⟨tb,0,none⟩ (.int .i64 n) (zi (zi t1 O) (.cells #[.int .i64 n, .iface E v] 138)))
 clear hA hT ha hS
 go_enter Tryz.func108,Tryz.ntmps108
 go_wp2
 refine wp_loop_rounds 1 ?_
 rw [rounds_succ]
 go_wp2
 go_ret
 refine ⟨rfl,fin _,fun base hb1 hb2=>?_⟩
 exact ((((Below.refl base w).alloc hb2 _).alloc (by simp;omega) _).setCell hb1 _).setCell hb1 _
theorem Tryz.erTypeLong (v:Value) (w:World):(ReflectliteType.typeOf #[.iface 418 v]).run Tryz.prog w = .ok (.iface 283 (.agg #[.pointer (some ⟨7,418,none⟩)])) w:=by kernel_rfl
theorem Tryz.erComparable (h:Value) (w:World):(Go.method 558 283 (.agg #[h]) "Comparable").run Tryz.prog w = .ok (307, .agg #[h]) w:=by kernel_rfl
theorem Tryz.erComparableLong (w:World):(ReflectliteType.method (fun t=>do Rtype.noPackHeld "Comparable" t;(fun a=>Value.bool a.comparable) <$> typeInfo t) #[.agg #[.pointer (some ⟨7,418,none⟩)]]).run Tryz.prog w = .ok (.bool true) w:=by kernel_rfl
theorem zf9 (E:TypeId) (v:Value) (aL:Addr) (w:World) (hE:VG E) (hW:vk E) :
  Calls Tryz.prog 56 #[.iface E v, .iface 418 (.pointer (some aL))] w fun e w'=>e = .returned (.bool false)∧w'=w:=by
 have hT:=@run_callFunc_extern Tryz.prog 103 _ ReflectliteType.typeOf Tryz.func103 (by kernel_rfl) (by kernel_rfl) (by kernel_rfl) (by kernel_rfl)
 have tL:=Tryz.erTypeLong
 have mC:=Tryz.erComparable
 have hC:=@run_callFunc_extern Tryz.prog 307 _ (ReflectliteType.method (fun t=>do Rtype.noPackHeld "Comparable" t;pure (.bool (← typeInfo t).comparable))) Tryz.func307 (by kernel_rfl) (by kernel_rfl) (by kernel_rfl) (by kernel_rfl)
 have cL:=Tryz.erComparableLong
 have n1:=hE.noIs
 have n2:=hW
 unfold vk at n2
 have n3:=hE.noUnwraps
 have ne:=fun vx vy w=>run_eql_iface_types (P:=Tryz.prog) E 418 vx vy Tryz.underlying74 hE.ne w
 clear hE hW
 go_enter Tryz.func56,Tryz.ntmps56
 go_wp2
 refine wp_loop_rounds 1 ?_
 rw [rounds_succ]
 go_wp2
 go_ret
 exact ⟨rfl,rfl⟩
theorem Ut (E:TypeId) (n:Int) (v:Value) (aL:Addr) (w:World) (hS:VG 138) (hE:VG E) (hW:vk E) :
  Calls Tryz.prog 56 #[.iface 138 (.agg #[.int .i64 n, .iface E v]), .iface 418 (.pointer (some aL))] w fun e w'=>e = .returned (.bool false)∧Below w.heap.size w w':=by
 have hT:=@run_callFunc_extern Tryz.prog 103 _ ReflectliteType.typeOf Tryz.func103 (by kernel_rfl) (by kernel_rfl) (by kernel_rfl) (by kernel_rfl)
 have tL:=Tryz.erTypeLong
 have mC:=Tryz.erComparable
 have hC:=@run_callFunc_extern Tryz.prog 307 _ (ReflectliteType.method (fun t=>do Rtype.noPackHeld "Comparable" t;pure (.bool (← typeInfo t).comparable))) Tryz.func307 (by kernel_rfl) (by kernel_rfl) (by kernel_rfl) (by kernel_rfl)
 have cL:=Tryz.erComparableLong
 have n1:=hE.noIs
 have n2:=hW
 unfold vk at n2
 have n3:=hE.noUnwraps
 have ne:=fun vx vy w=>run_eql_iface_types (P:=Tryz.prog) E 418 vx vy Tryz.underlying74 hE.ne w
 have ns:=fun vx vy w=>run_eql_iface_types (P:=Tryz.prog) 138 418 vx vy Tryz.underlying74 hS.ne w
 have s1:=hS.noIs
 have u1:=Tryz.stUnwraps
 have u2:=Tryz.stUnwrap
 clear hE hW hS
 go_enter Tryz.func56,Tryz.ntmps56
 go_wp2
 refine wp_loop_rounds 2 ?_
 rw [rounds_succ]
 go_wp2_with (go_at_call 295;refine (Vl n E v _).mono ?_;rintro e w1 ⟨rfl,hb1⟩)
 rw [rounds_succ]
 go_wp2
 go_ret
 exact ⟨rfl,hb1⟩
end Go.Proofs.YtdakgnaojakldaaGreatDoor
