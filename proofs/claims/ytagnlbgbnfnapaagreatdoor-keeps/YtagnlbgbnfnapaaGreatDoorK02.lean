/- P -/
import Derived.Test.YtagnlbgbnfnapaaGreatDoorK01
open Go.Proofs.Tryz
set_option maxRecDepth 100000
set_option maxHeartbeats 4000000
namespace Go.Proofs.YtagnlbgbnfnapaaGreatDoor
open Go.RowKit Go.Extern.Stop Go.Stop Go.Extern
theorem Tryz.erKind (h:Value) (w:World):(Go.method 554 289 (.agg #[h]) "Kind").run prog w = .ok (281,h) w:=by kernel_rfl
theorem Tryz.erElem (h:Value) (w:World):(Go.method 554 289 (.agg #[h]) "Elem").run prog w = .ok (301,.agg #[h]) w:=by kernel_rfl
theorem Tryz.erImplements (h:Value) (w:World):(Go.method 554 289 (.agg #[h]) "Implements").run prog w = .ok (302,.agg #[h]) w:=by kernel_rfl
theorem Tryz.erAssignableTo (h:Value) (w:World):(Go.method 554 289 (.agg #[h]) "AssignableTo").run prog w = .ok (299,.agg #[h]) w:=by kernel_rfl
structure yN (E:TypeId):Prop where
 typeOf:∀(v:Value) (w:World),(ReflectliteType.typeOf #[.iface E v]).run prog w = .ok (.iface 289 (.agg #[.pointer (some ⟨7,E,none⟩)])) w
 noAs:∀(v:Value) (xT:TypeId) (w:World),(Instr.typeAssert (.iface E v) xT 298 true).run prog w = .ok (.tuple #[.nilIface,.bool false]) w
 noIs:∀(v:Value) (xT:TypeId) (w:World),(Instr.typeAssert (.iface E v) xT 291 true).run prog w = .ok (.tuple #[.nilIface,.bool false]) w
 noUnwraps:∀(v:Value) (xT:TypeId) (w:World),(Instr.typeAssert (.iface E v) xT 294 true).run prog w = .ok (.tuple #[.nilIface,.bool false]) w
 ne:E≠414
def vR(E:TypeId):Prop:=∀(v:Value) (a:TypeId) (w:World),(Instr.typeAssert (.iface E v) a 293 true).run prog w = .ok (.tuple #[.nilIface,.bool false]) w
def Assign (E T:TypeId) (b:Bool):Prop:=∀w:World,(ReflectliteType.relation "AssignableTo" ReflectliteType.assignableTo #[.agg #[.pointer (some ⟨7,E,none⟩)],.iface 289 (.agg #[.pointer (some ⟨7,T,none⟩)])]).run prog w = .ok (.bool b) w
theorem lG(E T:TypeId)(v b f g h:Value)(w:World)(a:yN E)(d:vR E)(c:Assign E T false) :
  Calls prog 107 #[.iface E v,b,.agg #[f,g,h],.iface 289 (.agg #[.pointer (some ⟨7,T,none⟩)])] w λe w'=>e = .returned (.bool false)/\Below w.heap.size w w':=by
 have j:=@qQ prog 102 _ ReflectliteType.typeOf func102 (by kernel_rfl) (by kernel_rfl) (by kernel_rfl) (by kernel_rfl)
 have k:=@qQ prog 299 _ (ReflectliteType.relation "AssignableTo" ReflectliteType.assignableTo) func299 (by kernel_rfl) (by kernel_rfl) (by kernel_rfl) (by kernel_rfl)
 have p:=a.typeOf;have m:=Tryz.erAssignableTo;have i:=c;unfold Assign at i;have n:=a.noAs;have l:=d;unfold vR at l;have o:=a.noUnwraps;clear a d c;go_enter func107,ntmps107
 go_wp2
 refine XF 1 ?_;rw[ZX]
 go_wp2
 go_ret;exact⟨rfl,nbl w _⟩
def xH(w:World):Prop:=w.cell? ⟨1,0,none⟩=some (.iface 289 (.agg #[.pointer (some ⟨7,86,none⟩)]))
theorem xH.below{w w':World}(h:xH w)(hb:Below w.heap.size w w'):xH w':=zi hb h
structure uj (T pT:TypeId):Prop where
 unpack:∀(t:Addr) (w:World),(ReflectliteValue.unpack (.iface pT (.pointer (some t)))).run prog w = .ok (.agg #[.pointer (some ⟨7,pT,none⟩),.pointer (some ⟨w.heap.size,0,none⟩),.int .u64 150]) (w.alloc (.cells #[.pointer (some t)] pT))
 type:∀(a:Addr) (w:World),(ReflectliteValue.methodAny (ReflectliteValue.valueError "reflectlite.Value.Type" 0) (λt _ _ _=>ReflectliteType.toType t) #[.agg #[.pointer (some ⟨7,pT,none⟩),.pointer (some a),.int .u64 150]]).run prog w = .ok (.iface 289 (.agg #[.pointer (some ⟨7,pT,none⟩)])) w
 kindP:∀w:World,((ReflectliteType.abiMethod λt=>(λa:Nat=>Value.int IntKind.u8 (a:Int)) <$> Rtype.kind t) #[.pointer (some ⟨7,pT,none⟩)]).run prog w = .ok (.int .u8 22) w
 kind:∀w:World,((ReflectliteType.abiMethod λt=>(λa:Nat=>Value.int IntKind.u8 (a:Int)) <$> Rtype.kind t) #[.pointer (some ⟨7,T,none⟩)]).run prog w = .ok (.int .u8 25) w
 isNil:∀(a p:Addr) (W:World),W.cell? a=some (.pointer (some p))->(ReflectliteValue.method (ReflectliteValue.valueError "reflectlite.Value.IsNil" 0) ReflectliteValue.isNil #[.agg #[.pointer (some ⟨7,pT,none⟩),.pointer (some a),.int .u64 150]]).run prog W = .ok (.bool false) W
 elem:∀w:World,(ReflectliteType.method ReflectliteType.elem #[.agg #[.pointer (some ⟨7,pT,none⟩)]]).run prog w = .ok (.iface 289 (.agg #[.pointer (some ⟨7,T,none⟩)])) w
 impl:∀w:World,(ReflectliteType.relation "Implements" ReflectliteType.implements_ #[.agg #[.pointer (some ⟨7,T,none⟩)],.iface 289 (.agg #[.pointer (some ⟨7,86,none⟩)])]).run prog w = .ok (.bool true) w
 elemV:∀(a p:Addr) (W:World),W.cell? a=some (.pointer (some p))->(ReflectliteValue.method (ReflectliteValue.valueError "reflectlite.Value.Elem" 0) ReflectliteValue.elem #[.agg #[.pointer (some ⟨7,pT,none⟩),.pointer (some a),.int .u64 150]]).run prog W = .ok (.agg #[.pointer (some ⟨7,T,none⟩),.pointer (some p),.int .u64 409]) W
theorem Xq(T c E:TypeId)(v:Value)(t:Addr)(w:World)(f:xH w)(a:uj T c)(b:Bool)(Q:World->Prop)
  (l:∀O,Calls prog 107 #[.iface E v,.iface c (.pointer (some t)),.agg #[.pointer (some ⟨7,c,none⟩),.pointer (some ⟨w.heap.size,0,none⟩),.int .u64 150],.iface 289 (.agg #[.pointer (some ⟨7,T,none⟩)])]
    ((w.alloc (.cells #[.pointer (some t)] c)).alloc O) λe w'=>e = .returned (.bool b)/\Q w') :
  Calls prog 59 #[.iface E v,.iface c (.pointer (some t))] w λe w'=>e = .returned (.bool b)/\Q w':=by
 have q:=@qQ prog 104 _ (λargs=>ReflectliteValue.unpack (args.getD 0 (.tuple #[]))) func104 (by kernel_rfl) (by kernel_rfl) (by kernel_rfl) (by kernel_rfl)
 have r:=@qQ prog 105 _ (ReflectliteValue.methodAny (ReflectliteValue.valueError "reflectlite.Value.Type" 0) (λt _ _ _=>ReflectliteType.toType t)) func105 (by kernel_rfl) (by kernel_rfl) (by kernel_rfl) (by kernel_rfl)
 have s:=@qQ prog 106 _ (ReflectliteValue.method (ReflectliteValue.valueError "reflectlite.Value.IsNil" 0) ReflectliteValue.isNil) func106 (by kernel_rfl) (by kernel_rfl) (by kernel_rfl) (by kernel_rfl)
 have i:=@qQ prog 281 _ (ReflectliteType.abiMethod λt=>do pure (.int .u8 (<- Rtype.kind t))) func281 (by kernel_rfl) (by kernel_rfl) (by kernel_rfl) (by kernel_rfl);have j:=@qQ prog 301 _ (ReflectliteType.method ReflectliteType.elem) func301 (by kernel_rfl) (by kernel_rfl) (by kernel_rfl) (by kernel_rfl)
 have k:=@qQ prog 302 _ (ReflectliteType.relation "Implements" ReflectliteType.implements_) func302 (by kernel_rfl) (by kernel_rfl) (by kernel_rfl) (by kernel_rfl)
 have B:=Tryz.erKind;have z:=Tryz.erElem;have A:=Tryz.erImplements;have o:=a.unpack;have p:=a.type;have x:=a.kindP;have y:=a.kind;have n:=a.elem;have u:=a.impl;have C:=λO=>a.isNil ⟨w.heap.size,0,none⟩ t ((w.alloc (.cells #[.pointer (some t)] c)).alloc O) (by simp);have d:=λg h:Obj=>f.below ((nbl w g).alloc (by simp) h);unfold xH at d;clear f a;go_enter func59,ntmps59
 go_wp2_with (go_at_call 107;refine (l _).mono ?_;rintro e w1 ⟨rfl,m⟩)
 go_ret;exact⟨rfl,m⟩
structure QA (E:TypeId) (ok:Value->Prop):Prop where
 held:∀(x:Value) (w:World),ok x->(ReflectliteValue.unpack (.iface E (.agg #[x]))).run prog w = .ok (.agg #[.pointer (some ⟨7,E,none⟩),.pointer (some ⟨w.heap.size,0,none⟩),.int .u64 153]) (w.alloc (.cells #[x] E))
 set:∀(ta b:Addr) (x old:Value) (W:World),ok x->W.cell? b=some x->W.cell? ta=some old->W.frozen? ta=false ->
  (ReflectliteValue.set #[.agg #[.pointer (some ⟨7,E,none⟩),.pointer (some ta),.int .u64 409],.agg #[.pointer (some ⟨7,E,none⟩),.pointer (some b),.int .u64 153]]).run prog W = .ok (.tuple #[]) (W.setCell ta x)
theorem zF{w:World}{a:Addr}{v:Value}(h:w.cell? a=some v)(O:Obj):(w.alloc O).cell? a=some v:=by
 have b:a.block<w.heap.size:=by
  rcases Nat.lt_or_ge a.block w.heap.size with h'|h'
  ·exact h'
  ·simp[World.cell?,Array.getElem?_eq_none h'] at h
 rw[World.cell?_alloc_lt _ _ a b];exact h
theorem x9{w:World}{a:Addr}{v:Value}(h:w.cell? a=some v)(b:w.frozen? a=false)(O:Obj):(w.alloc O).frozen? a=false:=by
 have c:a.block<w.heap.size:=by
  rcases Nat.lt_or_ge a.block w.heap.size with h'|h'
  ·exact h'
  ·simp[World.cell?,Array.getElem?_eq_none h'] at h
 rw[World.frozen?_alloc_old _ _ a (Nat.ne_of_lt c)];exact b
theorem lF(E m:TypeId)(ok:Value->Prop)(x g old:Value)(a t:Addr)(w:World)(i:yN E)(h:Assign E E true)(j:uj E m)(c:QA E ok)(l:ok x)(k:w.cell? a=some (.pointer (some t)))(b:w.cell? t=some old)(s:w.frozen? t=false) :
  Calls prog 107 #[.iface E (.agg #[x]),g,.agg #[.pointer (some ⟨7,m,none⟩),.pointer (some a),.int .u64 150],.iface 289 (.agg #[.pointer (some ⟨7,E,none⟩)])] w λe w'=>
   e = .returned (.bool true)/\w'.cell? t=some x/\∀base,base<=t.block->base<=w.heap.size->Below base w w':=by
 have o:=@qQ prog 102 _ ReflectliteType.typeOf func102 (by kernel_rfl) (by kernel_rfl) (by kernel_rfl) (by kernel_rfl)
 have r:=@qQ prog 299 _ (ReflectliteType.relation "AssignableTo" ReflectliteType.assignableTo) func299 (by kernel_rfl) (by kernel_rfl) (by kernel_rfl) (by kernel_rfl)
 have v:=@qQ prog 104 _ (λargs=>ReflectliteValue.unpack (args.getD 0 (.tuple #[]))) func104 (by kernel_rfl) (by kernel_rfl) (by kernel_rfl) (by kernel_rfl)
 have p:=@qQ prog 153 _ (ReflectliteValue.method (ReflectliteValue.valueError "reflectlite.Value.Elem" 0) ReflectliteValue.elem) func153 (by kernel_rfl) (by kernel_rfl) (by kernel_rfl) (by kernel_rfl)
 have q:=@qQ prog 154 _ ReflectliteValue.set func154 (by kernel_rfl) (by kernel_rfl) (by kernel_rfl) (by kernel_rfl);have z:=i.typeOf;have y:=Tryz.erAssignableTo;have n:=h;unfold Assign at n;have A:=λw=>c.held x w l;have u:=λO=>j.elemV a t (w.alloc O) (zF k O);have st:=λO=>c.set t ⟨w.heap.size+1,0,none⟩ x old ((w.alloc O).alloc (.cells #[x] E)) l (by rw[JC _ _ _ _ (by simp)];rfl) (zF (zF b O) _) (x9 (zF b O) (x9 b s O) _);have fin:=λO=>uk ((w.alloc O).alloc (.cells #[x] E)) t x (zF (zF b O) (.cells #[x] E));clear i h j c k;go_enter func107,ntmps107
 go_wp2
 refine XF 1 ?_;rw[ZX]
 go_wp2
 go_ret;refine⟨rfl,fin _,λbase d f=>?_⟩;exact (((zf base w).alloc f _).alloc (by simp;omega) _).setCell d _
theorem Tryz.stUnwraps(v:Value)(a:TypeId)(w:World):(Instr.typeAssert (.iface 143 v) a 293 true).run prog w = .ok (.tuple #[.iface 143 v,.bool true]) w:=by kernel_rfl
theorem Tryz.stUnwrap (v:Value) (w:World):(Go.method 554 143 v "Unwrap").run prog w = .ok (288,v) w:=by kernel_rfl
theorem dF(n:Int)(E:TypeId)(v:Value)(w:World) :
  Calls prog 288 #[.agg #[.int .i64 n,.iface E v]] w λe w'=>e = .returned (.iface E v)/\Below w.heap.size w w':=by
 go_enter func288,ntmps288
 go_wp2
 go_ret;exact⟨rfl,by first|exact zf _ _|exact nbl w _⟩
theorem Em(E T:TypeId)(n:Int)(v d i j k:Value)(w:World)(b:yN 143)(a:yN E)(h:vR E)(f:Assign 143 T false)(g:Assign E T false) :
  Calls prog 107 #[.iface 143 (.agg #[.int .i64 n,.iface E v]),d,.agg #[i,j,k],.iface 289 (.agg #[.pointer (some ⟨7,T,none⟩)])] w λe w'=>e = .returned (.bool false)/\Below w.heap.size w w':=by
 have o:=@qQ prog 102 _ ReflectliteType.typeOf func102 (by kernel_rfl) (by kernel_rfl) (by kernel_rfl) (by kernel_rfl)
 have p:=@qQ prog 299 _ (ReflectliteType.relation "AssignableTo" ReflectliteType.assignableTo) func299 (by kernel_rfl) (by kernel_rfl) (by kernel_rfl) (by kernel_rfl)
 have x:=a.typeOf;have y:=b.typeOf;have r:=Tryz.erAssignableTo;have m:=g;have l:=f;unfold Assign at m l;have s:=a.noAs;have q:=h;unfold vR at q;have t:=a.noUnwraps;have u:=b.noAs;have u1:=Tryz.stUnwraps;have u2:=Tryz.stUnwrap;clear a h f g b;go_enter func107,ntmps107
 go_wp2
 refine XF 2 ?_;rw[ZX]
 go_wp2_with (go_at_call 288;refine (dF n E v _).mono ?_;rintro e w1 ⟨rfl,c⟩)
 rw[ZX]
 go_wp2
 go_ret;exact⟨rfl,(nbl w _).trans (c.mono (by simp))⟩
theorem El(E g:TypeId)(ok:Value->Prop)(n:Int)(x q old:Value)(a t:Addr)(w:World)(j:yN 143)(v:yN E)(s:Assign 143 E false)(u:Assign E E true)(y:uj E g)(i:QA E ok)(z:ok x)
  (O:w.cell? a=some (.pointer (some t)))(o:w.cell? t=some old)(P:w.frozen? t=false) :
  Calls prog 107 #[.iface 143 (.agg #[.int .i64 n,.iface E (.agg #[x])]),q,.agg #[.pointer (some ⟨7,g,none⟩),.pointer (some a),.int .u64 150],.iface 289 (.agg #[.pointer (some ⟨7,E,none⟩)])] w λe w'=>
   e = .returned (.bool true)/\w'.cell? t=some x/\∀base,base<=t.block->base<=w.heap.size->Below base w w':=by
 have I:=@qQ prog 102 _ ReflectliteType.typeOf func102 (by kernel_rfl) (by kernel_rfl) (by kernel_rfl) (by kernel_rfl)
 have N:=@qQ prog 299 _ (ReflectliteType.relation "AssignableTo" ReflectliteType.assignableTo) func299 (by kernel_rfl) (by kernel_rfl) (by kernel_rfl) (by kernel_rfl)
 have R:=@qQ prog 104 _ (λargs=>ReflectliteValue.unpack (args.getD 0 (.tuple #[]))) func104 (by kernel_rfl) (by kernel_rfl) (by kernel_rfl) (by kernel_rfl)
 have J:=@qQ prog 153 _ (ReflectliteValue.method (ReflectliteValue.valueError "reflectlite.Value.Elem" 0) ReflectliteValue.elem) func153 (by kernel_rfl) (by kernel_rfl) (by kernel_rfl) (by kernel_rfl)
 have K:=@qQ prog 154 _ ReflectliteValue.set func154 (by kernel_rfl) (by kernel_rfl) (by kernel_rfl) (by kernel_rfl);have U:=v.typeOf;have V:=j.typeOf;have S:=Tryz.erAssignableTo;have B:=u;have A:=s;unfold Assign at B A;have T:=j.noAs;have u1:=Tryz.stUnwraps;have u2:=Tryz.stUnwrap;have X:=λw=>i.held x w z;have r:=λW h=>y.elemV a t W h;have st:=λW b H L M=>i.set t b x old W z H L M;clear v s u y i j;go_enter func107,ntmps107
 go_wp2
 refine XF 2 ?_;rw[ZX]
 go_wp2_with (go_at_call 288;refine (dF n E (.agg #[x]) _).mono ?_;rintro e w1 ⟨rfl,c⟩)
 have k:=zi c (zF O _);have d:=zi c (zF o _)
 have m:=(c.frozen (p:=t) (by
  have h:=zF o (.cells #[.pointer (some ⟨7,g,none⟩),.pointer (some a),.int .u64 150] 209)
  rcases Nat.lt_or_ge t.block (w.alloc (.cells #[.pointer (some ⟨7,g,none⟩),.pointer (some a),.int .u64 150] 209)).heap.size with h'|h'
  ·exact h'
  ·simp[World.cell?,Array.getElem?_eq_none h'] at h)).trans (x9 o P _)
 have G:=r w1 k;have C:w1.cell? ⟨w.heap.size,0,none⟩=some (.pointer (some ⟨7,g,none⟩)):=zi c (by simp);have D:w1.cell? ⟨w.heap.size,1,none⟩=some (.pointer (some a)):=zi c (by simp);have F:w1.cell? ⟨w.heap.size,2,none⟩=some (.int .u64 150):=zi c (by simp);have Q:=st (w1.alloc (.cells #[x] E)) ⟨w1.heap.size,0,none⟩ (by rw[JC _ _ _ _ (by simp)];rfl) (zF d _) (x9 d m _);have fin:=uk (w1.alloc (.cells #[x] E)) t x (zF d _);clear r st;rw[ZX]
 go_wp2
 go_ret;refine⟨rfl,fin,λbase f l=>?_⟩;exact ((((zf base w).alloc l _).trans (c.mono (by simp;omega))).alloc (by have:=c.size;simp at this;omega) _).setCell f _
theorem Tryz.stHeld(n:Int)(u:Value)(w:World):(ReflectliteValue.unpack (.iface 143 (.agg #[.int .i64 n,u]))).run prog w = .ok (.agg #[.pointer (some ⟨7,143,none⟩),.pointer (some ⟨w.heap.size,0,none⟩),.int .u64 153]) (w.alloc (.cells #[.int .i64 n,u] 143)):=by kernel_rfl
theorem Tryz.stPartsA(a:Addr)(w:World):(ReflectliteValue.parts (.agg #[.pointer (some ⟨7,143,none⟩),.pointer (some a),.int .u64 409])).run prog w = .ok (some (143,a,409)) w:=by kernel_rfl
theorem Tryz.stPartsB(a:Addr)(w:World):(ReflectliteValue.parts (.agg #[.pointer (some ⟨7,143,none⟩),.pointer (some a),.int .u64 153])).run prog w = .ok (some (143,a,153)) w:=by kernel_rfl
theorem Tryz.stDirect(w:World):(Rtype.directlyAssignable 143 143).run prog w = .ok true w:=by kernel_rfl
theorem YO(v x:Value)(a:Value->Value->Sem Value)(b:Array Value->Sem Value):ReflectliteValue.set.match_3 (λ_=>Sem Value) #[v,x] a b=a v x:=rfl
theorem Zl(v:Value)(a:Value->Sem Value)(b:Array Value->Sem Value):ReflectliteValue.method.match_2 (λ_=>Sem Value) #[v] a b=a v:=rfl
theorem Tryz.stSet(a b:Nat)(n:Int)(E:TypeId)(v h c:Value)(W:World)(f:W.cell? ⟨b,0,none⟩=some (.int .i64 n))(g:W.cell? ⟨b,1,none⟩=some (.iface E v))(i:W.cell? ⟨a,0,none⟩=some h)(j:W.cell? ⟨a,1,none⟩=some c)(f1:W.frozen? ⟨a,0,none⟩=false)(f2:W.frozen? ⟨a,1,none⟩=false) :
  (ReflectliteValue.set #[.agg #[.pointer (some ⟨7,143,none⟩),.pointer (some ⟨a,0,none⟩),.int .u64 409],.agg #[.pointer (some ⟨7,143,none⟩),.pointer (some ⟨b,0,none⟩),.int .u64 153]]).run prog W
    = .ok (.tuple #[]) ((W.setCell ⟨a,0,none⟩ (.int .i64 n)).setCell ⟨a,1,none⟩ (.iface E v)):=by
 delta ReflectliteValue.set
 rw[YO];simp only[vC,Tryz.stPartsA,Tryz.stPartsB,Result.andThen];have d:(W.setCell ⟨a,0,none⟩ (.int .i64 n)).cell? ⟨a,1,none⟩=some c:=(qH _ _ _ _ (by simp)).trans j;have e:(W.setCell ⟨a,0,none⟩ (.int .i64 n)).frozen? ⟨a,1,none⟩=false:=by rw[World.frozen?_setCell];exact f2
 simp[ReflectliteValue.flagAddr,loadVar,isAgg,Tryz.sizeOf143,loadCells,loadCellsFrom,f,g,Result.andThen,Tryz.stDirect,storeVar,Value.cells,storeCells,Addr.add];rw[Zv prog W ⟨a,0,none⟩ _ _ (by rfl)];simp[i,f1];rw[Zv prog _ ⟨a,1,none⟩ _ _ (by rfl)];simp[d,e]
theorem Ei(p E:TypeId)(n:Int)(v h m o:Value)(a:Addr)(b:Nat)(w:World)(j:yN 143)(i:Assign 143 143 true)(k:uj 143 p)
  (l:w.cell? a=some (.pointer (some ⟨b,0,none⟩)))(d:w.cell? ⟨b,0,none⟩=some m)(g:w.cell? ⟨b,1,none⟩=some o)(f1:w.frozen? ⟨b,0,none⟩=false)(f2:w.frozen? ⟨b,1,none⟩=false) :
  Calls prog 107 #[.iface 143 (.agg #[.int .i64 n,.iface E v]),h,.agg #[.pointer (some ⟨7,p,none⟩),.pointer (some a),.int .u64 150],.iface 289 (.agg #[.pointer (some ⟨7,143,none⟩)])] w λe w'=>
   e = .returned (.bool true)/\w'.cell? ⟨b,0,none⟩=some (.int .i64 n)/\∀base,base<=b->base<=w.heap.size->Below base w w':=by
 have r:=@qQ prog 102 _ ReflectliteType.typeOf func102 (by kernel_rfl) (by kernel_rfl) (by kernel_rfl) (by kernel_rfl)
 have u:=@qQ prog 299 _ (ReflectliteType.relation "AssignableTo" ReflectliteType.assignableTo) func299 (by kernel_rfl) (by kernel_rfl) (by kernel_rfl) (by kernel_rfl)
 have y:=@qQ prog 104 _ (λargs=>ReflectliteValue.unpack (args.getD 0 (.tuple #[]))) func104 (by kernel_rfl) (by kernel_rfl) (by kernel_rfl) (by kernel_rfl)
 have s:=@qQ prog 153 _ (ReflectliteValue.method (ReflectliteValue.valueError "reflectlite.Value.Elem" 0) ReflectliteValue.elem) func153 (by kernel_rfl) (by kernel_rfl) (by kernel_rfl) (by kernel_rfl)
 have t:=@qQ prog 154 _ ReflectliteValue.set func154 (by kernel_rfl) (by kernel_rfl) (by kernel_rfl) (by kernel_rfl);have A:=j.typeOf;have z:=Tryz.erAssignableTo;have q:=i;unfold Assign at q;have B:=λw=>Tryz.stHeld n (.iface E v) w;have x:=λO=>k.elemV a ⟨b,0,none⟩ (w.alloc O) (zF l O);have st:=λO=>Tryz.stSet b (w.heap.size+1) n E v m o ((w.alloc O).alloc (.cells #[.int .i64 n,.iface E v] 143)) (by rw[JC _ _ _ _ (by simp)];rfl) (by rw[JC _ _ _ _ (by simp)];rfl) (zF (zF d O) _) (zF (zF g O) _) (x9 (zF d O) (x9 d f1 O) _) (x9 (zF g O) (x9 g f2 O) _);have fin:=λO=>(qH (((w.alloc O).alloc (.cells #[.int .i64 n,.iface E v] 143)).setCell ⟨b,0,none⟩ (.int .i64 n)) ⟨b,1,none⟩ ⟨b,0,none⟩ (.iface E v) (by simp)).trans (uk ((w.alloc O).alloc (.cells #[.int .i64 n,.iface E v] 143)) ⟨b,0,none⟩ (.int .i64 n) (zF (zF d O) (.cells #[.int .i64 n,.iface E v] 143)));clear i k l j;go_enter func107,ntmps107
 go_wp2
 refine XF 1 ?_;rw[ZX]
 go_wp2
 go_ret;refine⟨rfl,fin _,λbase c f=>?_⟩;exact ((((zf base w).alloc f _).alloc (by simp;omega) _).setCell c _).setCell c _
theorem Tryz.erTypeLong(v:Value)(w:World):(ReflectliteType.typeOf #[.iface 414 v]).run prog w = .ok (.iface 289 (.agg #[.pointer (some ⟨7,414,none⟩)])) w:=by kernel_rfl
theorem Tryz.erComparable (h:Value) (w:World):(Go.method 554 289 (.agg #[h]) "Comparable").run prog w = .ok (300,.agg #[h]) w:=by kernel_rfl
theorem Tryz.erComparableLong (w:World):(ReflectliteType.method (λt=>do Rtype.noPackHeld "Comparable" t;(λa=>Value.bool a.comparable) <$> typeInfo t) #[.agg #[.pointer (some ⟨7,414,none⟩)]]).run prog w = .ok (.bool true) w:=by kernel_rfl
theorem Eg(E:TypeId)(v:Value)(c:Addr)(w:World)(a:yN E)(b:vR E) :
  Calls prog 58 #[.iface E v,.iface 414 (.pointer (some c))] w λe w'=>e = .returned (.bool false)/\w'=w:=by
 have j:=@qQ prog 102 _ ReflectliteType.typeOf func102 (by kernel_rfl) (by kernel_rfl) (by kernel_rfl) (by kernel_rfl);have n:=Tryz.erTypeLong;have k:=Tryz.erComparable
 have i:=@qQ prog 300 _ (ReflectliteType.method (λt=>do Rtype.noPackHeld "Comparable" t;pure (.bool (<- typeInfo t).comparable))) func300 (by kernel_rfl) (by kernel_rfl) (by kernel_rfl) (by kernel_rfl)
 have h:=Tryz.erComparableLong;have l:=a.noIs;have d:=b;unfold vR at d;have m:=a.noUnwraps;have ne:=λf g w=>rO (P:=prog) E 414 f g underlying86 a.ne w;clear a b;go_enter func58,ntmps58
 go_wp2
 refine XF 1 ?_;rw[ZX]
 go_wp2
 go_ret;exact⟨rfl,rfl⟩
theorem lD(E:TypeId)(n:Int)(v:Value)(h:Addr)(w:World)(b:yN 143)(a:yN E)(g:vR E) :
  Calls prog 58 #[.iface 143 (.agg #[.int .i64 n,.iface E v]),.iface 414 (.pointer (some h))] w λe w'=>e = .returned (.bool false)/\Below w.heap.size w w':=by
 have l:=@qQ prog 102 _ ReflectliteType.typeOf func102 (by kernel_rfl) (by kernel_rfl) (by kernel_rfl) (by kernel_rfl);have r:=Tryz.erTypeLong;have m:=Tryz.erComparable
 have k:=@qQ prog 300 _ (ReflectliteType.method (λt=>do Rtype.noPackHeld "Comparable" t;pure (.bool (<- typeInfo t).comparable))) func300 (by kernel_rfl) (by kernel_rfl) (by kernel_rfl) (by kernel_rfl)
 have j:=Tryz.erComparableLong;have o:=a.noIs;have i:=g;unfold vR at i;have p:=a.noUnwraps;have ne:=λd f w=>rO (P:=prog) E 414 d f underlying86 a.ne w;have ns:=λd f w=>rO (P:=prog) 143 414 d f underlying86 b.ne w;have q:=b.noIs;have u1:=Tryz.stUnwraps;have u2:=Tryz.stUnwrap;clear a g b;go_enter func58,ntmps58
 go_wp2
 refine XF 2 ?_;rw[ZX]
 go_wp2_with (go_at_call 288;refine (dF n E v _).mono ?_;rintro e w1 ⟨rfl,c⟩)
 rw[ZX]
 go_wp2
 go_ret;exact⟨rfl,c⟩
end Go.Proofs.YtagnlbgbnfnapaaGreatDoor
