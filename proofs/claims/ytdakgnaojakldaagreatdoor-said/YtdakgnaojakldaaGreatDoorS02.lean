/- P -/
import Derived.Test.YtdakgnaojakldaaGreatDoorS01
import Derived.LaidEql
import Derived.Stop.Asserts
import Derived.RowKitTokens
open Go.Proofs.Tryz
set_option maxRecDepth 100000
set_option maxHeartbeats 4000000
namespace Go.Proofs.YtdakgnaojakldaaGreatDoor
open Go.RowKit Go.Extern.Stop Go.Stop Go.Extern
theorem Tryz.erKind (h:Value) (w:World):(Go.method 558 283 (.agg #[h]) "Kind").run prog w = .ok (288,h) w:=by kernel_rfl
theorem Tryz.erElem (h:Value) (w:World):(Go.method 558 283 (.agg #[h]) "Elem").run prog w = .ok (308,.agg #[h]) w:=by kernel_rfl
theorem Tryz.erImplements (h:Value) (w:World):(Go.method 558 283 (.agg #[h]) "Implements").run prog w = .ok (309,.agg #[h]) w:=by kernel_rfl
theorem Tryz.erAssignableTo (h:Value) (w:World):(Go.method 558 283 (.agg #[h]) "AssignableTo").run prog w = .ok (306,.agg #[h]) w:=by kernel_rfl
structure xL (E:TypeId):Prop where
 typeOf:∀(v:Value) (w:World),(ReflectliteType.typeOf #[.iface E v]).run prog w = .ok (.iface 283 (.agg #[.pointer (some ⟨7,E,none⟩)])) w
 noAs:∀(v:Value) (xT:TypeId) (w:World),(Instr.typeAssert (.iface E v) xT 292 true).run prog w = .ok (.tuple #[.nilIface,.bool false]) w
 noIs:∀(v:Value) (xT:TypeId) (w:World),(Instr.typeAssert (.iface E v) xT 285 true).run prog w = .ok (.tuple #[.nilIface,.bool false]) w
 noUnwraps:∀(v:Value) (xT:TypeId) (w:World),(Instr.typeAssert (.iface E v) xT 288 true).run prog w = .ok (.tuple #[.nilIface,.bool false]) w
 ne:E≠418
def yS(E:TypeId):Prop:=∀(v:Value) (a:TypeId) (w:World),(Instr.typeAssert (.iface E v) a 287 true).run prog w = .ok (.tuple #[.nilIface,.bool false]) w
def Assign (E T:TypeId) (b:Bool):Prop:=∀w:World,(ReflectliteType.relation "AssignableTo" ReflectliteType.assignableTo #[.agg #[.pointer (some ⟨7,E,none⟩)],.iface 283 (.agg #[.pointer (some ⟨7,T,none⟩)])]).run prog w = .ok (.bool b) w
theorem aa(E T:TypeId)(v b f g h:Value)(w:World)(a:xL E)(d:yS E)(c:Assign E T false) :
  Calls prog 108 #[.iface E v,b,.agg #[f,g,h],.iface 283 (.agg #[.pointer (some ⟨7,T,none⟩)])] w λe m=>e = .returned (.bool false)/\Below w.heap.size w m:=by
 have j:=@run_callFunc_extern prog 103 _ ReflectliteType.typeOf func103 (by kernel_rfl) (by kernel_rfl) (by kernel_rfl) (by kernel_rfl)
 have k:=@run_callFunc_extern prog 306 _ (ReflectliteType.relation "AssignableTo" ReflectliteType.assignableTo) func306 (by kernel_rfl) (by kernel_rfl) (by kernel_rfl) (by kernel_rfl)
 have q:=a.typeOf;have n:=Tryz.erAssignableTo;have i:=c;unfold Assign at i;have o:=a.noAs;have l:=d;unfold yS at l;have p:=a.noUnwraps;clear a d c;go_enter func108,ntmps108
 go_wp2
 refine wp_loop_rounds 1 ?_;rw[rounds_succ]
 go_wp2
 go_ret;exact⟨rfl,nb w _⟩
def qC(w:World):Prop:=w.cell? ⟨1,0,none⟩=some (.iface 283 (.agg #[.pointer (some ⟨7,74,none⟩)]))
theorem qC.below{w a:World}(h:qC w)(hb:Below w.heap.size w a):qC a:=zg hb h
structure jG (T pT:TypeId):Prop where
 unpack:∀(t:Addr) (w:World),(ReflectliteValue.unpack (.iface pT (.pointer (some t)))).run prog w = .ok (.agg #[.pointer (some ⟨7,pT,none⟩),.pointer (some ⟨w.heap.size,0,none⟩),.int .u64 150]) (w.alloc (.cells #[.pointer (some t)] pT))
 type:∀(a:Addr) (w:World),(ReflectliteValue.methodAny (ReflectliteValue.valueError "reflectlite.Value.Type" 0) (λt _ _ _=>ReflectliteType.toType t) #[.agg #[.pointer (some ⟨7,pT,none⟩),.pointer (some a),.int .u64 150]]).run prog w = .ok (.iface 283 (.agg #[.pointer (some ⟨7,pT,none⟩)])) w
 kindP:∀w:World,((ReflectliteType.abiMethod λt=>(λa:Nat=>Value.int IntKind.u8 (a:Int)) <$> Rtype.kind t) #[.pointer (some ⟨7,pT,none⟩)]).run prog w = .ok (.int .u8 22) w
 kind:∀w:World,((ReflectliteType.abiMethod λt=>(λa:Nat=>Value.int IntKind.u8 (a:Int)) <$> Rtype.kind t) #[.pointer (some ⟨7,T,none⟩)]).run prog w = .ok (.int .u8 25) w
 isNil:∀(a p:Addr) (W:World),W.cell? a=some (.pointer (some p))->(ReflectliteValue.method (ReflectliteValue.valueError "reflectlite.Value.IsNil" 0) ReflectliteValue.isNil #[.agg #[.pointer (some ⟨7,pT,none⟩),.pointer (some a),.int .u64 150]]).run prog W = .ok (.bool false) W
 elem:∀w:World,(ReflectliteType.method ReflectliteType.elem #[.agg #[.pointer (some ⟨7,pT,none⟩)]]).run prog w = .ok (.iface 283 (.agg #[.pointer (some ⟨7,T,none⟩)])) w
 impl:∀w:World,(ReflectliteType.relation "Implements" ReflectliteType.implements_ #[.agg #[.pointer (some ⟨7,T,none⟩)],.iface 283 (.agg #[.pointer (some ⟨7,74,none⟩)])]).run prog w = .ok (.bool true) w
 elemV:∀(a p:Addr) (W:World),W.cell? a=some (.pointer (some p))->(ReflectliteValue.method (ReflectliteValue.valueError "reflectlite.Value.Elem" 0) ReflectliteValue.elem #[.agg #[.pointer (some ⟨7,pT,none⟩),.pointer (some a),.int .u64 150]]).run prog W = .ok (.agg #[.pointer (some ⟨7,T,none⟩),.pointer (some p),.int .u64 409]) W
theorem Qm(T c E:TypeId)(v:Value)(t:Addr)(w:World)(g:qC w)(a:jG T c)(b:Bool)(Q:World->Prop)
  (m:∀O,Calls prog 108 #[.iface E v,.iface c (.pointer (some t)),.agg #[.pointer (some ⟨7,c,none⟩),.pointer (some ⟨w.heap.size,0,none⟩),.int .u64 150],.iface 283 (.agg #[.pointer (some ⟨7,T,none⟩)])]
    ((w.alloc (.cells #[.pointer (some t)] c)).alloc O) λe f=>e = .returned (.bool b)/\Q f) :
  Calls prog 57 #[.iface E v,.iface c (.pointer (some t))] w λe f=>e = .returned (.bool b)/\Q f:=by
 have r:=@run_callFunc_extern prog 105 _ (λargs=>ReflectliteValue.unpack (args.getD 0 (.tuple #[]))) func105 (by kernel_rfl) (by kernel_rfl) (by kernel_rfl) (by kernel_rfl)
 have s:=@run_callFunc_extern prog 106 _ (ReflectliteValue.methodAny (ReflectliteValue.valueError "reflectlite.Value.Type" 0) (λt _ _ _=>ReflectliteType.toType t)) func106 (by kernel_rfl) (by kernel_rfl) (by kernel_rfl) (by kernel_rfl)
 have u:=@run_callFunc_extern prog 107 _ (ReflectliteValue.method (ReflectliteValue.valueError "reflectlite.Value.IsNil" 0) ReflectliteValue.isNil) func107 (by kernel_rfl) (by kernel_rfl) (by kernel_rfl) (by kernel_rfl)
 have j:=@run_callFunc_extern prog 288 _ (ReflectliteType.abiMethod λt=>do pure (.int .u8 (<- Rtype.kind t))) func288 (by kernel_rfl) (by kernel_rfl) (by kernel_rfl) (by kernel_rfl);have k:=@run_callFunc_extern prog 308 _ (ReflectliteType.method ReflectliteType.elem) func308 (by kernel_rfl) (by kernel_rfl) (by kernel_rfl) (by kernel_rfl)
 have l:=@run_callFunc_extern prog 309 _ (ReflectliteType.relation "Implements" ReflectliteType.implements_) func309 (by kernel_rfl) (by kernel_rfl) (by kernel_rfl) (by kernel_rfl)
 have C:=Tryz.erKind;have A:=Tryz.erElem;have B:=Tryz.erImplements;have p:=a.unpack;have q:=a.type;have y:=a.kindP;have z:=a.kind;have o:=a.elem;have x:=a.impl;have D:=λO=>a.isNil ⟨w.heap.size,0,none⟩ t ((w.alloc (.cells #[.pointer (some t)] c)).alloc O) (by simp);have d:=λh i:Obj=>g.below ((nb w h).alloc (by simp) i);unfold qC at d;clear g a;go_enter func57,ntmps57
 go_wp2_with (go_at_call 108;refine (m _).mono ?_;rintro e F ⟨rfl,n⟩)
 go_ret;exact⟨rfl,n⟩
structure kR (E:TypeId) (ok:Value->Prop):Prop where
 held:∀(x:Value) (w:World),ok x->(ReflectliteValue.unpack (.iface E (.agg #[x]))).run prog w = .ok (.agg #[.pointer (some ⟨7,E,none⟩),.pointer (some ⟨w.heap.size,0,none⟩),.int .u64 153]) (w.alloc (.cells #[x] E))
 set:∀(ta b:Addr) (x old:Value) (W:World),ok x->W.cell? b=some x->W.cell? ta=some old->W.frozen? ta=false ->
  (ReflectliteValue.set #[.agg #[.pointer (some ⟨7,E,none⟩),.pointer (some ta),.int .u64 409],.agg #[.pointer (some ⟨7,E,none⟩),.pointer (some b),.int .u64 153]]).run prog W = .ok (.tuple #[]) (W.setCell ta x)
theorem zB{w:World}{a:Addr}{v:Value}(h:w.cell? a=some v)(O:Obj):(w.alloc O).cell? a=some v:=by
 have b:a.block<w.heap.size:=by
  rcases Nat.lt_or_ge a.block w.heap.size with h'|h'
  ·exact h'
  ·simp[World.cell?,Array.getElem?_eq_none h'] at h
 rw[World.cell?_alloc_lt _ _ a b];exact h
theorem yw{w:World}{a:Addr}{v:Value}(h:w.cell? a=some v)(b:w.frozen? a=false)(O:Obj):(w.alloc O).frozen? a=false:=by
 have c:a.block<w.heap.size:=by
  rcases Nat.lt_or_ge a.block w.heap.size with h'|h'
  ·exact h'
  ·simp[World.cell?,Array.getElem?_eq_none h'] at h
 rw[World.frozen?_alloc_old _ _ a (Nat.ne_of_lt c)];exact b
theorem K9(E m:TypeId)(ok:Value->Prop)(x g old:Value)(a t:Addr)(w:World)(i:xL E)(h:Assign E E true)(j:jG E m)(c:kR E ok)(l:ok x)(k:w.cell? a=some (.pointer (some t)))(b:w.cell? t=some old)(u:w.frozen? t=false) :
  Calls prog 108 #[.iface E (.agg #[x]),g,.agg #[.pointer (some ⟨7,m,none⟩),.pointer (some a),.int .u64 150],.iface 283 (.agg #[.pointer (some ⟨7,E,none⟩)])] w λe n=>
   e = .returned (.bool true)/\n.cell? t=some x/\∀base,base<=t.block->base<=w.heap.size->Below base w n:=by
 have p:=@run_callFunc_extern prog 103 _ ReflectliteType.typeOf func103 (by kernel_rfl) (by kernel_rfl) (by kernel_rfl) (by kernel_rfl)
 have s:=@run_callFunc_extern prog 306 _ (ReflectliteType.relation "AssignableTo" ReflectliteType.assignableTo) func306 (by kernel_rfl) (by kernel_rfl) (by kernel_rfl) (by kernel_rfl)
 have y:=@run_callFunc_extern prog 105 _ (λargs=>ReflectliteValue.unpack (args.getD 0 (.tuple #[]))) func105 (by kernel_rfl) (by kernel_rfl) (by kernel_rfl) (by kernel_rfl)
 have q:=@run_callFunc_extern prog 156 _ (ReflectliteValue.method (ReflectliteValue.valueError "reflectlite.Value.Elem" 0) ReflectliteValue.elem) func156 (by kernel_rfl) (by kernel_rfl) (by kernel_rfl) (by kernel_rfl)
 have r:=@run_callFunc_extern prog 157 _ ReflectliteValue.set func157 (by kernel_rfl) (by kernel_rfl) (by kernel_rfl) (by kernel_rfl);have B:=i.typeOf;have z:=Tryz.erAssignableTo;have o:=h;unfold Assign at o;have C:=λw=>c.held x w l;have v:=λO=>j.elemV a t (w.alloc O) (zB k O);have A:=λO=>c.set t ⟨w.heap.size+1,0,none⟩ x old ((w.alloc O).alloc (.cells #[x] E)) l (by rw[World.cell?_alloc_at _ _ _ _ (by simp)];rfl) (zB (zB b O) _) (yw (zB b O) (yw b u O) _);have fin:=λO=>World.cell?_setCell_same ((w.alloc O).alloc (.cells #[x] E)) t x (zB (zB b O) (.cells #[x] E));clear i h j c k;go_enter func108,ntmps108
 go_wp2
 refine wp_loop_rounds 1 ?_;rw[rounds_succ]
 go_wp2
 go_ret;refine⟨rfl,fin _,λbase d f=>?_⟩;exact (((Below.refl base w).alloc f _).alloc (by simp;omega) _).setCell d _
theorem Tryz.stUnwraps(v:Value)(a:TypeId)(w:World):(Instr.typeAssert (.iface 138 v) a 287 true).run prog w = .ok (.tuple #[.iface 138 v,.bool true]) w:=by kernel_rfl
theorem Tryz.stUnwrap (v:Value) (w:World):(Go.method 558 138 v "Unwrap").run prog w = .ok (295,v) w:=by kernel_rfl
theorem V8(n:Int)(E:TypeId)(v:Value)(w:World) :
  Calls prog 295 #[.agg #[.int .i64 n,.iface E v]] w λe a=>e = .returned (.iface E v)/\Below w.heap.size w a:=by
 go_enter func295,ntmps295
 go_wp2
 go_ret;exact⟨rfl,by first|exact Below.refl _ _|exact nb w _⟩
theorem rU(E T:TypeId)(n:Int)(v d i j k:Value)(w:World)(b:xL 138)(a:xL E)(h:yS E)(f:Assign 138 T false)(g:Assign E T false) :
  Calls prog 108 #[.iface 138 (.agg #[.int .i64 n,.iface E v]),d,.agg #[i,j,k],.iface 283 (.agg #[.pointer (some ⟨7,T,none⟩)])] w λe r=>e = .returned (.bool false)/\Below w.heap.size w r:=by
 have o:=@run_callFunc_extern prog 103 _ ReflectliteType.typeOf func103 (by kernel_rfl) (by kernel_rfl) (by kernel_rfl) (by kernel_rfl)
 have p:=@run_callFunc_extern prog 306 _ (ReflectliteType.relation "AssignableTo" ReflectliteType.assignableTo) func306 (by kernel_rfl) (by kernel_rfl) (by kernel_rfl) (by kernel_rfl)
 have y:=a.typeOf;have z:=b.typeOf;have s:=Tryz.erAssignableTo;have m:=g;have l:=f;unfold Assign at m l;have t:=a.noAs;have q:=h;unfold yS at q;have u:=a.noUnwraps;have x:=b.noAs;have u1:=Tryz.stUnwraps;have u2:=Tryz.stUnwrap;clear a h f g b;go_enter func108,ntmps108
 go_wp2
 refine wp_loop_rounds 2 ?_;rw[rounds_succ]
 go_wp2_with (go_at_call 295;refine (V8 n E v _).mono ?_;rintro e A ⟨rfl,c⟩)
 rw[rounds_succ]
 go_wp2
 go_ret;exact⟨rfl,(nb w _).trans (c.mono (by simp))⟩
theorem rT(E i:TypeId)(ok:Value->Prop)(n:Int)(x r old:Value)(a t:Addr)(w:World)(k:xL 138)(y:xL E)(u:Assign 138 E false)(v:Assign E E true)(z:jG E i)(j:kR E ok)(A:ok x)
  (R:w.cell? a=some (.pointer (some t)))(q:w.cell? t=some old)(S:w.frozen? t=false) :
  Calls prog 108 #[.iface 138 (.agg #[.int .i64 n,.iface E (.agg #[x])]),r,.agg #[.pointer (some ⟨7,i,none⟩),.pointer (some a),.int .u64 150],.iface 283 (.agg #[.pointer (some ⟨7,E,none⟩)])] w λe C=>
   e = .returned (.bool true)/\C.cell? t=some x/\∀base,base<=t.block->base<=w.heap.size->Below base w C:=by
 have L:=@run_callFunc_extern prog 103 _ ReflectliteType.typeOf func103 (by kernel_rfl) (by kernel_rfl) (by kernel_rfl) (by kernel_rfl)
 have Q:=@run_callFunc_extern prog 306 _ (ReflectliteType.relation "AssignableTo" ReflectliteType.assignableTo) func306 (by kernel_rfl) (by kernel_rfl) (by kernel_rfl) (by kernel_rfl)
 have U:=@run_callFunc_extern prog 105 _ (λargs=>ReflectliteValue.unpack (args.getD 0 (.tuple #[]))) func105 (by kernel_rfl) (by kernel_rfl) (by kernel_rfl) (by kernel_rfl)
 have M:=@run_callFunc_extern prog 156 _ (ReflectliteValue.method (ReflectliteValue.valueError "reflectlite.Value.Elem" 0) ReflectliteValue.elem) func156 (by kernel_rfl) (by kernel_rfl) (by kernel_rfl) (by kernel_rfl)
 have N:=@run_callFunc_extern prog 157 _ ReflectliteValue.set func157 (by kernel_rfl) (by kernel_rfl) (by kernel_rfl) (by kernel_rfl);have Y:=y.typeOf;have Z:=k.typeOf;have V:=Tryz.erAssignableTo;have F:=v;have D:=u;unfold Assign at F D;have X:=k.noAs;have u1:=Tryz.stUnwraps;have u2:=Tryz.stUnwrap;have vH:=λw=>j.held x w A;have s:=λW h=>z.elemV a t W h;have B:=λW b K O P=>j.set t b x old W A K O P;clear y u v z j k;go_enter func108,ntmps108
 go_wp2
 refine wp_loop_rounds 2 ?_;rw[rounds_succ]
 go_wp2_with (go_at_call 295;refine (V8 n E (.agg #[x]) _).mono ?_;rintro e f ⟨rfl,c⟩)
 have l:=zg c (zB R _);have d:=zg c (zB q _)
 have o:=(c.frozen (p:=t) (by
  have h:=zB q (.cells #[.pointer (some ⟨7,i,none⟩),.pointer (some a),.int .u64 150] 221)
  rcases Nat.lt_or_ge t.block (w.alloc (.cells #[.pointer (some ⟨7,i,none⟩),.pointer (some a),.int .u64 150] 221)).heap.size with h'|h'
  ·exact h'
  ·simp[World.cell?,Array.getElem?_eq_none h'] at h)).trans (yw q S _)
 have J:=s f l;have G:f.cell? ⟨w.heap.size,0,none⟩=some (.pointer (some ⟨7,i,none⟩)):=zg c (by simp);have H:f.cell? ⟨w.heap.size,1,none⟩=some (.pointer (some a)):=zg c (by simp);have I:f.cell? ⟨w.heap.size,2,none⟩=some (.int .u64 150):=zg c (by simp);have T:=B (f.alloc (.cells #[x] E)) ⟨f.heap.size,0,none⟩ (by rw[World.cell?_alloc_at _ _ _ _ (by simp)];rfl) (zB d _) (yw d o _);have fin:=World.cell?_setCell_same (f.alloc (.cells #[x] E)) t x (zB d _);clear s B;rw[rounds_succ]
 go_wp2
 go_ret;refine⟨rfl,fin,λbase g m=>?_⟩;exact ((((Below.refl base w).alloc m _).trans (c.mono (by simp;omega))).alloc (by have:=c.size;simp at this;omega) _).setCell g _
theorem Tryz.stHeld(n:Int)(u:Value)(w:World):(ReflectliteValue.unpack (.iface 138 (.agg #[.int .i64 n,u]))).run prog w = .ok (.agg #[.pointer (some ⟨7,138,none⟩),.pointer (some ⟨w.heap.size,0,none⟩),.int .u64 153]) (w.alloc (.cells #[.int .i64 n,u] 138)):=by kernel_rfl
theorem Tryz.stPartsA(a:Addr)(w:World):(ReflectliteValue.parts (.agg #[.pointer (some ⟨7,138,none⟩),.pointer (some a),.int .u64 409])).run prog w = .ok (some (138,a,409)) w:=by kernel_rfl
theorem Tryz.stPartsB(a:Addr)(w:World):(ReflectliteValue.parts (.agg #[.pointer (some ⟨7,138,none⟩),.pointer (some a),.int .u64 153])).run prog w = .ok (some (138,a,153)) w:=by kernel_rfl
theorem Tryz.stDirect(w:World):(Rtype.directlyAssignable 138 138).run prog w = .ok true w:=by kernel_rfl
theorem QT(v x:Value)(a:Value->Value->Sem Value)(b:Array Value->Sem Value):ReflectliteValue.set.match_3 (λ_=>Sem Value) #[v,x] a b=a v x:=rfl
theorem vM(v:Value)(a:Value->Sem Value)(b:Array Value->Sem Value):ReflectliteValue.method.match_2 (λ_=>Sem Value) #[v] a b=a v:=rfl
theorem Tryz.stSet(a b:Nat)(n:Int)(E:TypeId)(v h c:Value)(W:World)(f:W.cell? ⟨b,0,none⟩=some (.int .i64 n))(g:W.cell? ⟨b,1,none⟩=some (.iface E v))(i:W.cell? ⟨a,0,none⟩=some h)(j:W.cell? ⟨a,1,none⟩=some c)(f1:W.frozen? ⟨a,0,none⟩=false)(f2:W.frozen? ⟨a,1,none⟩=false) :
  (ReflectliteValue.set #[.agg #[.pointer (some ⟨7,138,none⟩),.pointer (some ⟨a,0,none⟩),.int .u64 409],.agg #[.pointer (some ⟨7,138,none⟩),.pointer (some ⟨b,0,none⟩),.int .u64 153]]).run prog W
    = .ok (.tuple #[]) ((W.setCell ⟨a,0,none⟩ (.int .i64 n)).setCell ⟨a,1,none⟩ (.iface E v)):=by
 delta ReflectliteValue.set
 rw[QT];simp only[Sem.run_bind,Tryz.stPartsA,Tryz.stPartsB,Result.andThen];have d:(W.setCell ⟨a,0,none⟩ (.int .i64 n)).cell? ⟨a,1,none⟩=some c:=(World.cell?_setCell_other _ _ _ _ (by simp)).trans j;have e:(W.setCell ⟨a,0,none⟩ (.int .i64 n)).frozen? ⟨a,1,none⟩=false:=by rw[World.frozen?_setCell];exact f2
 simp[ReflectliteValue.flagAddr,loadVar,isAgg,Tryz.sizeOf138,loadCells,loadCellsFrom,f,g,Result.andThen,Tryz.stDirect,storeVar,Value.cells,storeCells,Addr.add];rw[run_store prog W ⟨a,0,none⟩ _ _ (by rfl)];simp[i,f1];rw[run_store prog _ ⟨a,1,none⟩ _ _ (by rfl)];simp[d,e]
theorem Tryz.erTypeLong(v:Value)(w:World):(ReflectliteType.typeOf #[.iface 418 v]).run prog w = .ok (.iface 283 (.agg #[.pointer (some ⟨7,418,none⟩)])) w:=by kernel_rfl
theorem Tryz.erComparable (h:Value) (w:World):(Go.method 558 283 (.agg #[h]) "Comparable").run prog w = .ok (307,.agg #[h]) w:=by kernel_rfl
theorem Tryz.erComparableLong (w:World):(ReflectliteType.method (λt=>do Rtype.noPackHeld "Comparable" t;(λa=>Value.bool a.comparable) <$> typeInfo t) #[.agg #[.pointer (some ⟨7,418,none⟩)]]).run prog w = .ok (.bool true) w:=by kernel_rfl
theorem rP(E:TypeId)(v:Value)(c:Addr)(w:World)(a:xL E)(b:yS E) :
  Calls prog 56 #[.iface E v,.iface 418 (.pointer (some c))] w λe h=>e = .returned (.bool false)/\h=w:=by
 have k:=@run_callFunc_extern prog 103 _ ReflectliteType.typeOf func103 (by kernel_rfl) (by kernel_rfl) (by kernel_rfl) (by kernel_rfl);have o:=Tryz.erTypeLong;have l:=Tryz.erComparable
 have j:=@run_callFunc_extern prog 307 _ (ReflectliteType.method (λt=>do Rtype.noPackHeld "Comparable" t;pure (.bool (<- typeInfo t).comparable))) func307 (by kernel_rfl) (by kernel_rfl) (by kernel_rfl) (by kernel_rfl)
 have i:=Tryz.erComparableLong;have m:=a.noIs;have d:=b;unfold yS at d;have n:=a.noUnwraps;have ne:=λf g w=>run_eql_iface_types (P:=prog) E 418 f g underlying74 a.ne w;clear a b;go_enter func56,ntmps56
 go_wp2
 refine wp_loop_rounds 1 ?_;rw[rounds_succ]
 go_wp2
 go_ret;exact⟨rfl,rfl⟩
theorem K8(E:TypeId)(n:Int)(v:Value)(h:Addr)(w:World)(b:xL 138)(a:xL E)(g:yS E) :
  Calls prog 56 #[.iface 138 (.agg #[.int .i64 n,.iface E v]),.iface 418 (.pointer (some h))] w λe j=>e = .returned (.bool false)/\Below w.heap.size w j:=by
 have m:=@run_callFunc_extern prog 103 _ ReflectliteType.typeOf func103 (by kernel_rfl) (by kernel_rfl) (by kernel_rfl) (by kernel_rfl);have u:=Tryz.erTypeLong;have o:=Tryz.erComparable
 have l:=@run_callFunc_extern prog 307 _ (ReflectliteType.method (λt=>do Rtype.noPackHeld "Comparable" t;pure (.bool (<- typeInfo t).comparable))) func307 (by kernel_rfl) (by kernel_rfl) (by kernel_rfl) (by kernel_rfl)
 have k:=Tryz.erComparableLong;have p:=a.noIs;have i:=g;unfold yS at i;have q:=a.noUnwraps;have ne:=λd f w=>run_eql_iface_types (P:=prog) E 418 d f underlying74 a.ne w;have r:=λd f w=>run_eql_iface_types (P:=prog) 138 418 d f underlying74 b.ne w;have s:=b.noIs;have u1:=Tryz.stUnwraps;have u2:=Tryz.stUnwrap;clear a g b;go_enter func56,ntmps56
 go_wp2
 refine wp_loop_rounds 2 ?_;rw[rounds_succ]
 go_wp2_with (go_at_call 295;refine (V8 n E v _).mono ?_;rintro e x ⟨rfl,c⟩)
 rw[rounds_succ]
 go_wp2
 go_ret;exact⟨rfl,c⟩
end Go.Proofs.YtdakgnaojakldaaGreatDoor
