/- P -/
import Derived.Test.YtdakgnaojakldaaGreatDoorK01
import Derived.LaidEql
import Derived.Stop.Asserts
import Derived.RowKitTokens
open Go.Proofs.Tryz
set_option maxRecDepth 100000
set_option maxHeartbeats 4000000
namespace Go.Proofs.YtdakgnaojakldaaGreatDoor
open Go.RowKit Go.Extern.Stop Go.Stop Go.Extern
theorem Tryz.erKind (h:Value) (w:World):(Go.method 558 283 (.agg #[h]) "Kind").run prog w = .ok (288,h) w:=by kernel_rfl
theorem Tryz.erElem (h:Value) (w:World):(Go.method 558 283 (.agg #[h]) "Elem").run prog w = .ok (308,.agg #[h]) w:=by kernel_rfl
theorem Tryz.erImplements (h:Value) (w:World):(Go.method 558 283 (.agg #[h]) "Implements").run prog w = .ok (309,.agg #[h]) w:=by kernel_rfl
theorem Tryz.erAssignableTo (h:Value) (w:World):(Go.method 558 283 (.agg #[h]) "AssignableTo").run prog w = .ok (306,.agg #[h]) w:=by kernel_rfl
structure yT (E:TypeId):Prop where
 typeOf:∀(v:Value) (w:World),(ReflectliteType.typeOf #[.iface E v]).run prog w = .ok (.iface 283 (.agg #[.pointer (some ⟨7,E,none⟩)])) w
 noAs:∀(v:Value) (xT:TypeId) (w:World),(Instr.typeAssert (.iface E v) xT 292 true).run prog w = .ok (.tuple #[.nilIface,.bool false]) w
 noIs:∀(v:Value) (xT:TypeId) (w:World),(Instr.typeAssert (.iface E v) xT 285 true).run prog w = .ok (.tuple #[.nilIface,.bool false]) w
 noUnwraps:∀(v:Value) (xT:TypeId) (w:World),(Instr.typeAssert (.iface E v) xT 288 true).run prog w = .ok (.tuple #[.nilIface,.bool false]) w
 ne:E≠418
def vP(E:TypeId):Prop:=∀(v:Value) (a:TypeId) (w:World),(Instr.typeAssert (.iface E v) a 287 true).run prog w = .ok (.tuple #[.nilIface,.bool false]) w
def Assign (E T:TypeId) (b:Bool):Prop:=∀w:World,(ReflectliteType.relation "AssignableTo" ReflectliteType.assignableTo #[.agg #[.pointer (some ⟨7,E,none⟩)],.iface 283 (.agg #[.pointer (some ⟨7,T,none⟩)])]).run prog w = .ok (.bool b) w
theorem iQ(E T:TypeId)(v b f g h:Value)(w:World)(a:yT E)(d:vP E)(c:Assign E T false) :
  Calls prog 108 #[.iface E v,b,.agg #[f,g,h],.iface 283 (.agg #[.pointer (some ⟨7,T,none⟩)])] w λe w'=>e = .returned (.bool false)/\Below w.heap.size w w':=by
 have j:=@xC prog 103 _ ReflectliteType.typeOf func103 (by kernel_rfl) (by kernel_rfl) (by kernel_rfl) (by kernel_rfl)
 have k:=@xC prog 306 _ (ReflectliteType.relation "AssignableTo" ReflectliteType.assignableTo) func306 (by kernel_rfl) (by kernel_rfl) (by kernel_rfl) (by kernel_rfl)
 have p:=a.typeOf;have m:=Tryz.erAssignableTo;have i:=c;unfold Assign at i;have n:=a.noAs;have l:=d;unfold vP at l;have o:=a.noUnwraps;clear a d c;go_enter func108,ntmps108
 go_wp2
 refine Ym 1 ?_;rw[Qp]
 go_wp2
 go_ret;exact⟨rfl,nbl w _⟩
def xE(w:World):Prop:=w.cell? ⟨1,0,none⟩=some (.iface 283 (.agg #[.pointer (some ⟨7,74,none⟩)]))
theorem xE.below{w w':World}(h:xE w)(hb:Below w.heap.size w w'):xE w':=zh hb h
structure uG (T pT:TypeId):Prop where
 unpack:∀(t:Addr) (w:World),(ReflectliteValue.unpack (.iface pT (.pointer (some t)))).run prog w = .ok (.agg #[.pointer (some ⟨7,pT,none⟩),.pointer (some ⟨w.heap.size,0,none⟩),.int .u64 150]) (w.alloc (.cells #[.pointer (some t)] pT))
 type:∀(a:Addr) (w:World),(ReflectliteValue.methodAny (ReflectliteValue.valueError "reflectlite.Value.Type" 0) (λt _ _ _=>ReflectliteType.toType t) #[.agg #[.pointer (some ⟨7,pT,none⟩),.pointer (some a),.int .u64 150]]).run prog w = .ok (.iface 283 (.agg #[.pointer (some ⟨7,pT,none⟩)])) w
 kindP:∀w:World,((ReflectliteType.abiMethod λt=>(λa:Nat=>Value.int IntKind.u8 (a:Int)) <$> Rtype.kind t) #[.pointer (some ⟨7,pT,none⟩)]).run prog w = .ok (.int .u8 22) w
 kind:∀w:World,((ReflectliteType.abiMethod λt=>(λa:Nat=>Value.int IntKind.u8 (a:Int)) <$> Rtype.kind t) #[.pointer (some ⟨7,T,none⟩)]).run prog w = .ok (.int .u8 25) w
 isNil:∀(a p:Addr) (W:World),W.cell? a=some (.pointer (some p))->(ReflectliteValue.method (ReflectliteValue.valueError "reflectlite.Value.IsNil" 0) ReflectliteValue.isNil #[.agg #[.pointer (some ⟨7,pT,none⟩),.pointer (some a),.int .u64 150]]).run prog W = .ok (.bool false) W
 elem:∀w:World,(ReflectliteType.method ReflectliteType.elem #[.agg #[.pointer (some ⟨7,pT,none⟩)]]).run prog w = .ok (.iface 283 (.agg #[.pointer (some ⟨7,T,none⟩)])) w
 impl:∀w:World,(ReflectliteType.relation "Implements" ReflectliteType.implements_ #[.agg #[.pointer (some ⟨7,T,none⟩)],.iface 283 (.agg #[.pointer (some ⟨7,74,none⟩)])]).run prog w = .ok (.bool true) w
 elemV:∀(a p:Addr) (W:World),W.cell? a=some (.pointer (some p))->(ReflectliteValue.method (ReflectliteValue.valueError "reflectlite.Value.Elem" 0) ReflectliteValue.elem #[.agg #[.pointer (some ⟨7,pT,none⟩),.pointer (some a),.int .u64 150]]).run prog W = .ok (.agg #[.pointer (some ⟨7,T,none⟩),.pointer (some p),.int .u64 409]) W
theorem XX(T c E:TypeId)(v:Value)(t:Addr)(w:World)(f:xE w)(a:uG T c)(b:Bool)(Q:World->Prop)
  (l:∀O,Calls prog 108 #[.iface E v,.iface c (.pointer (some t)),.agg #[.pointer (some ⟨7,c,none⟩),.pointer (some ⟨w.heap.size,0,none⟩),.int .u64 150],.iface 283 (.agg #[.pointer (some ⟨7,T,none⟩)])]
    ((w.alloc (.cells #[.pointer (some t)] c)).alloc O) λe w'=>e = .returned (.bool b)/\Q w') :
  Calls prog 57 #[.iface E v,.iface c (.pointer (some t))] w λe w'=>e = .returned (.bool b)/\Q w':=by
 have q:=@xC prog 105 _ (λargs=>ReflectliteValue.unpack (args.getD 0 (.tuple #[]))) func105 (by kernel_rfl) (by kernel_rfl) (by kernel_rfl) (by kernel_rfl)
 have r:=@xC prog 106 _ (ReflectliteValue.methodAny (ReflectliteValue.valueError "reflectlite.Value.Type" 0) (λt _ _ _=>ReflectliteType.toType t)) func106 (by kernel_rfl) (by kernel_rfl) (by kernel_rfl) (by kernel_rfl)
 have s:=@xC prog 107 _ (ReflectliteValue.method (ReflectliteValue.valueError "reflectlite.Value.IsNil" 0) ReflectliteValue.isNil) func107 (by kernel_rfl) (by kernel_rfl) (by kernel_rfl) (by kernel_rfl)
 have i:=@xC prog 288 _ (ReflectliteType.abiMethod λt=>do pure (.int .u8 (<- Rtype.kind t))) func288 (by kernel_rfl) (by kernel_rfl) (by kernel_rfl) (by kernel_rfl);have j:=@xC prog 308 _ (ReflectliteType.method ReflectliteType.elem) func308 (by kernel_rfl) (by kernel_rfl) (by kernel_rfl) (by kernel_rfl)
 have k:=@xC prog 309 _ (ReflectliteType.relation "Implements" ReflectliteType.implements_) func309 (by kernel_rfl) (by kernel_rfl) (by kernel_rfl) (by kernel_rfl)
 have B:=Tryz.erKind;have z:=Tryz.erElem;have A:=Tryz.erImplements;have o:=a.unpack;have p:=a.type;have x:=a.kindP;have y:=a.kind;have n:=a.elem;have u:=a.impl;have C:=λO=>a.isNil ⟨w.heap.size,0,none⟩ t ((w.alloc (.cells #[.pointer (some t)] c)).alloc O) (by simp);have d:=λg h:Obj=>f.below ((nbl w g).alloc (by simp) h);unfold xE at d;clear f a;go_enter func57,ntmps57
 go_wp2_with (go_at_call 108;refine (l _).mono ?_;rintro e w1 ⟨rfl,m⟩)
 go_ret;exact⟨rfl,m⟩
structure Qw (E:TypeId) (ok:Value->Prop):Prop where
 held:∀(x:Value) (w:World),ok x->(ReflectliteValue.unpack (.iface E (.agg #[x]))).run prog w = .ok (.agg #[.pointer (some ⟨7,E,none⟩),.pointer (some ⟨w.heap.size,0,none⟩),.int .u64 153]) (w.alloc (.cells #[x] E))
 set:∀(ta b:Addr) (x old:Value) (W:World),ok x->W.cell? b=some x->W.cell? ta=some old->W.frozen? ta=false ->
  (ReflectliteValue.set #[.agg #[.pointer (some ⟨7,E,none⟩),.pointer (some ta),.int .u64 409],.agg #[.pointer (some ⟨7,E,none⟩),.pointer (some b),.int .u64 153]]).run prog W = .ok (.tuple #[]) (W.setCell ta x)
theorem zQ{w:World}{a:Addr}{v:Value}(h:w.cell? a=some v)(O:Obj):(w.alloc O).cell? a=some v:=by
 have b:a.block<w.heap.size:=by
  rcases Nat.lt_or_ge a.block w.heap.size with h'|h'
  ·exact h'
  ·simp[World.cell?,Array.getElem?_eq_none h'] at h
 rw[World.cell?_alloc_lt _ _ a b];exact h
theorem jV{w:World}{a:Addr}{v:Value}(h:w.cell? a=some v)(b:w.frozen? a=false)(O:Obj):(w.alloc O).frozen? a=false:=by
 have c:a.block<w.heap.size:=by
  rcases Nat.lt_or_ge a.block w.heap.size with h'|h'
  ·exact h'
  ·simp[World.cell?,Array.getElem?_eq_none h'] at h
 rw[World.frozen?_alloc_old _ _ a (Nat.ne_of_lt c)];exact b
theorem iP(E m:TypeId)(ok:Value->Prop)(x g old:Value)(a t:Addr)(w:World)(i:yT E)(h:Assign E E true)(j:uG E m)(c:Qw E ok)(l:ok x)(k:w.cell? a=some (.pointer (some t)))(b:w.cell? t=some old)(s:w.frozen? t=false) :
  Calls prog 108 #[.iface E (.agg #[x]),g,.agg #[.pointer (some ⟨7,m,none⟩),.pointer (some a),.int .u64 150],.iface 283 (.agg #[.pointer (some ⟨7,E,none⟩)])] w λe w'=>
   e = .returned (.bool true)/\w'.cell? t=some x/\∀base,base<=t.block->base<=w.heap.size->Below base w w':=by
 have o:=@xC prog 103 _ ReflectliteType.typeOf func103 (by kernel_rfl) (by kernel_rfl) (by kernel_rfl) (by kernel_rfl)
 have r:=@xC prog 306 _ (ReflectliteType.relation "AssignableTo" ReflectliteType.assignableTo) func306 (by kernel_rfl) (by kernel_rfl) (by kernel_rfl) (by kernel_rfl)
 have v:=@xC prog 105 _ (λargs=>ReflectliteValue.unpack (args.getD 0 (.tuple #[]))) func105 (by kernel_rfl) (by kernel_rfl) (by kernel_rfl) (by kernel_rfl)
 have p:=@xC prog 156 _ (ReflectliteValue.method (ReflectliteValue.valueError "reflectlite.Value.Elem" 0) ReflectliteValue.elem) func156 (by kernel_rfl) (by kernel_rfl) (by kernel_rfl) (by kernel_rfl)
 have q:=@xC prog 157 _ ReflectliteValue.set func157 (by kernel_rfl) (by kernel_rfl) (by kernel_rfl) (by kernel_rfl);have z:=i.typeOf;have y:=Tryz.erAssignableTo;have n:=h;unfold Assign at n;have A:=λw=>c.held x w l;have u:=λO=>j.elemV a t (w.alloc O) (zQ k O);have st:=λO=>c.set t ⟨w.heap.size+1,0,none⟩ x old ((w.alloc O).alloc (.cells #[x] E)) l (by rw[Km _ _ _ _ (by simp)];rfl) (zQ (zQ b O) _) (jV (zQ b O) (jV b s O) _);have fin:=λO=>uH ((w.alloc O).alloc (.cells #[x] E)) t x (zQ (zQ b O) (.cells #[x] E));clear i h j c k;go_enter func108,ntmps108
 go_wp2
 refine Ym 1 ?_;rw[Qp]
 go_wp2
 go_ret;refine⟨rfl,fin _,λbase d f=>?_⟩;exact (((zf base w).alloc f _).alloc (by simp;omega) _).setCell d _
theorem Tryz.stUnwraps(v:Value)(a:TypeId)(w:World):(Instr.typeAssert (.iface 138 v) a 287 true).run prog w = .ok (.tuple #[.iface 138 v,.bool true]) w:=by kernel_rfl
theorem Tryz.stUnwrap (v:Value) (w:World):(Go.method 558 138 v "Unwrap").run prog w = .ok (295,v) w:=by kernel_rfl
theorem df(n:Int)(E:TypeId)(v:Value)(w:World) :
  Calls prog 295 #[.agg #[.int .i64 n,.iface E v]] w λe w'=>e = .returned (.iface E v)/\Below w.heap.size w w':=by
 go_enter func295,ntmps295
 go_wp2
 go_ret;exact⟨rfl,by first|exact zf _ _|exact nbl w _⟩
theorem DR(E T:TypeId)(n:Int)(v d i j k:Value)(w:World)(b:yT 138)(a:yT E)(h:vP E)(f:Assign 138 T false)(g:Assign E T false) :
  Calls prog 108 #[.iface 138 (.agg #[.int .i64 n,.iface E v]),d,.agg #[i,j,k],.iface 283 (.agg #[.pointer (some ⟨7,T,none⟩)])] w λe w'=>e = .returned (.bool false)/\Below w.heap.size w w':=by
 have o:=@xC prog 103 _ ReflectliteType.typeOf func103 (by kernel_rfl) (by kernel_rfl) (by kernel_rfl) (by kernel_rfl)
 have p:=@xC prog 306 _ (ReflectliteType.relation "AssignableTo" ReflectliteType.assignableTo) func306 (by kernel_rfl) (by kernel_rfl) (by kernel_rfl) (by kernel_rfl)
 have x:=a.typeOf;have y:=b.typeOf;have r:=Tryz.erAssignableTo;have m:=g;have l:=f;unfold Assign at m l;have s:=a.noAs;have q:=h;unfold vP at q;have t:=a.noUnwraps;have u:=b.noAs;have u1:=Tryz.stUnwraps;have u2:=Tryz.stUnwrap;clear a h f g b;go_enter func108,ntmps108
 go_wp2
 refine Ym 2 ?_;rw[Qp]
 go_wp2_with (go_at_call 295;refine (df n E v _).mono ?_;rintro e w1 ⟨rfl,c⟩)
 rw[Qp]
 go_wp2
 go_ret;exact⟨rfl,(nbl w _).trans (c.mono (by simp))⟩
theorem DN(E g:TypeId)(ok:Value->Prop)(n:Int)(x q old:Value)(a t:Addr)(w:World)(j:yT 138)(v:yT E)(s:Assign 138 E false)(u:Assign E E true)(y:uG E g)(i:Qw E ok)(z:ok x)
  (O:w.cell? a=some (.pointer (some t)))(o:w.cell? t=some old)(P:w.frozen? t=false) :
  Calls prog 108 #[.iface 138 (.agg #[.int .i64 n,.iface E (.agg #[x])]),q,.agg #[.pointer (some ⟨7,g,none⟩),.pointer (some a),.int .u64 150],.iface 283 (.agg #[.pointer (some ⟨7,E,none⟩)])] w λe w'=>
   e = .returned (.bool true)/\w'.cell? t=some x/\∀base,base<=t.block->base<=w.heap.size->Below base w w':=by
 have I:=@xC prog 103 _ ReflectliteType.typeOf func103 (by kernel_rfl) (by kernel_rfl) (by kernel_rfl) (by kernel_rfl)
 have N:=@xC prog 306 _ (ReflectliteType.relation "AssignableTo" ReflectliteType.assignableTo) func306 (by kernel_rfl) (by kernel_rfl) (by kernel_rfl) (by kernel_rfl)
 have R:=@xC prog 105 _ (λargs=>ReflectliteValue.unpack (args.getD 0 (.tuple #[]))) func105 (by kernel_rfl) (by kernel_rfl) (by kernel_rfl) (by kernel_rfl)
 have J:=@xC prog 156 _ (ReflectliteValue.method (ReflectliteValue.valueError "reflectlite.Value.Elem" 0) ReflectliteValue.elem) func156 (by kernel_rfl) (by kernel_rfl) (by kernel_rfl) (by kernel_rfl)
 have K:=@xC prog 157 _ ReflectliteValue.set func157 (by kernel_rfl) (by kernel_rfl) (by kernel_rfl) (by kernel_rfl);have U:=v.typeOf;have V:=j.typeOf;have S:=Tryz.erAssignableTo;have B:=u;have A:=s;unfold Assign at B A;have T:=j.noAs;have u1:=Tryz.stUnwraps;have u2:=Tryz.stUnwrap;have X:=λw=>i.held x w z;have r:=λW h=>y.elemV a t W h;have st:=λW b H L M=>i.set t b x old W z H L M;clear v s u y i j;go_enter func108,ntmps108
 go_wp2
 refine Ym 2 ?_;rw[Qp]
 go_wp2_with (go_at_call 295;refine (df n E (.agg #[x]) _).mono ?_;rintro e w1 ⟨rfl,c⟩)
 have k:=zh c (zQ O _);have d:=zh c (zQ o _)
 have m:=(c.frozen (p:=t) (by
  have h:=zQ o (.cells #[.pointer (some ⟨7,g,none⟩),.pointer (some a),.int .u64 150] 221)
  rcases Nat.lt_or_ge t.block (w.alloc (.cells #[.pointer (some ⟨7,g,none⟩),.pointer (some a),.int .u64 150] 221)).heap.size with h'|h'
  ·exact h'
  ·simp[World.cell?,Array.getElem?_eq_none h'] at h)).trans (jV o P _)
 have G:=r w1 k;have C:w1.cell? ⟨w.heap.size,0,none⟩=some (.pointer (some ⟨7,g,none⟩)):=zh c (by simp);have D:w1.cell? ⟨w.heap.size,1,none⟩=some (.pointer (some a)):=zh c (by simp);have F:w1.cell? ⟨w.heap.size,2,none⟩=some (.int .u64 150):=zh c (by simp);have Q:=st (w1.alloc (.cells #[x] E)) ⟨w1.heap.size,0,none⟩ (by rw[Km _ _ _ _ (by simp)];rfl) (zQ d _) (jV d m _);have fin:=uH (w1.alloc (.cells #[x] E)) t x (zQ d _);clear r st;rw[Qp]
 go_wp2
 go_ret;refine⟨rfl,fin,λbase f l=>?_⟩;exact ((((zf base w).alloc l _).trans (c.mono (by simp;omega))).alloc (by have:=c.size;simp at this;omega) _).setCell f _
theorem Tryz.stHeld(n:Int)(u:Value)(w:World):(ReflectliteValue.unpack (.iface 138 (.agg #[.int .i64 n,u]))).run prog w = .ok (.agg #[.pointer (some ⟨7,138,none⟩),.pointer (some ⟨w.heap.size,0,none⟩),.int .u64 153]) (w.alloc (.cells #[.int .i64 n,u] 138)):=by kernel_rfl
theorem Tryz.stPartsA(a:Addr)(w:World):(ReflectliteValue.parts (.agg #[.pointer (some ⟨7,138,none⟩),.pointer (some a),.int .u64 409])).run prog w = .ok (some (138,a,409)) w:=by kernel_rfl
theorem Tryz.stPartsB(a:Addr)(w:World):(ReflectliteValue.parts (.agg #[.pointer (some ⟨7,138,none⟩),.pointer (some a),.int .u64 153])).run prog w = .ok (some (138,a,153)) w:=by kernel_rfl
theorem Tryz.stDirect(w:World):(Rtype.directlyAssignable 138 138).run prog w = .ok true w:=by kernel_rfl
theorem YL(v x:Value)(a:Value->Value->Sem Value)(b:Array Value->Sem Value):ReflectliteValue.set.match_3 (λ_=>Sem Value) #[v,x] a b=a v x:=rfl
theorem Zj(v:Value)(a:Value->Sem Value)(b:Array Value->Sem Value):ReflectliteValue.method.match_2 (λ_=>Sem Value) #[v] a b=a v:=rfl
theorem Tryz.stSet(a b:Nat)(n:Int)(E:TypeId)(v h c:Value)(W:World)(f:W.cell? ⟨b,0,none⟩=some (.int .i64 n))(g:W.cell? ⟨b,1,none⟩=some (.iface E v))(i:W.cell? ⟨a,0,none⟩=some h)(j:W.cell? ⟨a,1,none⟩=some c)(f1:W.frozen? ⟨a,0,none⟩=false)(f2:W.frozen? ⟨a,1,none⟩=false) :
  (ReflectliteValue.set #[.agg #[.pointer (some ⟨7,138,none⟩),.pointer (some ⟨a,0,none⟩),.int .u64 409],.agg #[.pointer (some ⟨7,138,none⟩),.pointer (some ⟨b,0,none⟩),.int .u64 153]]).run prog W
    = .ok (.tuple #[]) ((W.setCell ⟨a,0,none⟩ (.int .i64 n)).setCell ⟨a,1,none⟩ (.iface E v)):=by
 delta ReflectliteValue.set
 rw[YL];simp only[vw,Tryz.stPartsA,Tryz.stPartsB,Result.andThen];have d:(W.setCell ⟨a,0,none⟩ (.int .i64 n)).cell? ⟨a,1,none⟩=some c:=(qK _ _ _ _ (by simp)).trans j;have e:(W.setCell ⟨a,0,none⟩ (.int .i64 n)).frozen? ⟨a,1,none⟩=false:=by rw[World.frozen?_setCell];exact f2
 simp[ReflectliteValue.flagAddr,loadVar,isAgg,Tryz.sizeOf138,loadCells,loadCellsFrom,f,g,Result.andThen,Tryz.stDirect,storeVar,Value.cells,storeCells,Addr.add];rw[Zt prog W ⟨a,0,none⟩ _ _ (by rfl)];simp[i,f1];rw[Zt prog _ ⟨a,1,none⟩ _ _ (by rfl)];simp[d,e]
theorem Tryz.erTypeLong(v:Value)(w:World):(ReflectliteType.typeOf #[.iface 418 v]).run prog w = .ok (.iface 283 (.agg #[.pointer (some ⟨7,418,none⟩)])) w:=by kernel_rfl
theorem Tryz.erComparable (h:Value) (w:World):(Go.method 558 283 (.agg #[h]) "Comparable").run prog w = .ok (307,.agg #[h]) w:=by kernel_rfl
theorem Tryz.erComparableLong (w:World):(ReflectliteType.method (λt=>do Rtype.noPackHeld "Comparable" t;(λa=>Value.bool a.comparable) <$> typeInfo t) #[.agg #[.pointer (some ⟨7,418,none⟩)]]).run prog w = .ok (.bool true) w:=by kernel_rfl
theorem DJ(E:TypeId)(v:Value)(c:Addr)(w:World)(a:yT E)(b:vP E) :
  Calls prog 56 #[.iface E v,.iface 418 (.pointer (some c))] w λe w'=>e = .returned (.bool false)/\w'=w:=by
 have j:=@xC prog 103 _ ReflectliteType.typeOf func103 (by kernel_rfl) (by kernel_rfl) (by kernel_rfl) (by kernel_rfl);have n:=Tryz.erTypeLong;have k:=Tryz.erComparable
 have i:=@xC prog 307 _ (ReflectliteType.method (λt=>do Rtype.noPackHeld "Comparable" t;pure (.bool (<- typeInfo t).comparable))) func307 (by kernel_rfl) (by kernel_rfl) (by kernel_rfl) (by kernel_rfl)
 have h:=Tryz.erComparableLong;have l:=a.noIs;have d:=b;unfold vP at d;have m:=a.noUnwraps;have ne:=λf g w=>run_eql_iface_types (P:=prog) E 418 f g underlying74 a.ne w;clear a b;go_enter func56,ntmps56
 go_wp2
 refine Ym 1 ?_;rw[Qp]
 go_wp2
 go_ret;exact⟨rfl,rfl⟩
theorem iO(E:TypeId)(n:Int)(v:Value)(h:Addr)(w:World)(b:yT 138)(a:yT E)(g:vP E) :
  Calls prog 56 #[.iface 138 (.agg #[.int .i64 n,.iface E v]),.iface 418 (.pointer (some h))] w λe w'=>e = .returned (.bool false)/\Below w.heap.size w w':=by
 have l:=@xC prog 103 _ ReflectliteType.typeOf func103 (by kernel_rfl) (by kernel_rfl) (by kernel_rfl) (by kernel_rfl);have r:=Tryz.erTypeLong;have m:=Tryz.erComparable
 have k:=@xC prog 307 _ (ReflectliteType.method (λt=>do Rtype.noPackHeld "Comparable" t;pure (.bool (<- typeInfo t).comparable))) func307 (by kernel_rfl) (by kernel_rfl) (by kernel_rfl) (by kernel_rfl)
 have j:=Tryz.erComparableLong;have o:=a.noIs;have i:=g;unfold vP at i;have p:=a.noUnwraps;have ne:=λd f w=>run_eql_iface_types (P:=prog) E 418 d f underlying74 a.ne w;have ns:=λd f w=>run_eql_iface_types (P:=prog) 138 418 d f underlying74 b.ne w;have q:=b.noIs;have u1:=Tryz.stUnwraps;have u2:=Tryz.stUnwrap;clear a g b;go_enter func56,ntmps56
 go_wp2
 refine Ym 2 ?_;rw[Qp]
 go_wp2_with (go_at_call 295;refine (df n E v _).mono ?_;rintro e w1 ⟨rfl,c⟩)
 rw[Qp]
 go_wp2
 go_ret;exact⟨rfl,c⟩
end Go.Proofs.YtdakgnaojakldaaGreatDoor
