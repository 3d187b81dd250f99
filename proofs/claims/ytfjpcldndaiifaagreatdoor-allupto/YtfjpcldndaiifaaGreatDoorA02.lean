/- P -/
import Derived.Test.YtfjpcldndaiifaaGreatDoorA01
open Go.Proofs.Tryz
set_option maxRecDepth 100000
set_option maxHeartbeats 4000000
namespace Go.Proofs.YtfjpcldndaiifaaGreatDoor
open Go.RowKit Go.Extern.Stop Go.Stop Go.Extern
theorem Tryz.erKind (h:Y) (w:J):(Go.method 531 302 (.agg #[h]) "Kind").run prog w=.ok (261,h) w:=by kernel_rfl
theorem Tryz.erElem (h:Y) (w:J):(Go.method 531 302 (.agg #[h]) "Elem").run prog w=.ok (281,.agg #[h]) w:=by kernel_rfl
theorem Tryz.erImplements (h:Y) (w:J):(Go.method 531 302 (.agg #[h]) "Implements").run prog w=.ok (282,.agg #[h]) w:=by kernel_rfl
theorem Tryz.erAssignableTo (h:Y) (w:J):(Go.method 531 302 (.agg #[h]) "AssignableTo").run prog w=.ok (279,.agg #[h]) w:=by kernel_rfl
structure jZ (E:TypeId):Prop where
 typeOf:∀(v:Y) (w:J),(ReflectliteType.typeOf #[.iface E v]).run prog w=.ok (.iface 302 (.agg #[.pointer (some ⟨7,E,none⟩)])) w
 noAs:∀(v:Y) (xT:TypeId) (w:J),(Instr.typeAssert (.iface E v) xT 311 true).run prog w=.ok (.tuple #[.nilIface,.bool false]) w
 noIs:∀(v:Y) (xT:TypeId) (w:J),(Instr.typeAssert (.iface E v) xT 304 true).run prog w=.ok (.tuple #[.nilIface,.bool false]) w
 noUnwraps:∀(v:Y) (xT:TypeId) (w:J),(Instr.typeAssert (.iface E v) xT 307 true).run prog w=.ok (.tuple #[.nilIface,.bool false]) w
 ne:E≠391
def kZ(E:TypeId):Prop:=∀(v:Y) (a:TypeId) (w:J),(Instr.typeAssert (.iface E v) a 306 true).run prog w=.ok (.tuple #[.nilIface,.bool false]) w
def Assign (E T:TypeId) (b:Bool):Prop:=∀w:J,(ReflectliteType.relation "AssignableTo" ReflectliteType.assignableTo #[.agg #[RG 7 E],.iface 302 (.agg #[RG 7 T])]).run prog w=.ok (.bool b) w
abbrev bz:=@zO prog 110 _ ReflectliteType.typeOf func110 (by kernel_rfl) (by kernel_rfl) (by kernel_rfl) (by kernel_rfl)
abbrev bW:=@zO prog 279 _ (ReflectliteType.relation "AssignableTo" ReflectliteType.assignableTo) func279 (by kernel_rfl) (by kernel_rfl) (by kernel_rfl) (by kernel_rfl)
theorem AJ(E T:TypeId)(v b f g h:Y)(w:J)(a:jZ E)(d:kZ E)(c:Assign E T false):R8 115 #[.iface E v,b,.agg #[f,g,h],.iface 302 (.agg #[RG 7 T])] w (G5 T9 w):=by
 have j:=bz
 have k:=bW
 have q:=a.typeOf;have n:=Tryz.erAssignableTo;have i:=c;unfold Assign at i;have o:=a.noAs;have l:=d;unfold kZ at l;have p:=a.noUnwraps;clear a d c;go_enter func115,ntmps115;go_wp2;refine Qy 1 ?_;rw[Zi];go_wp2;go_ret;exact⟨rfl,nbl w _⟩
def yj(w:J):Prop:=w.cell? (G8 1 0)=some (.iface 302 (.agg #[RG 7 82]))
theorem yj.below{w w':J}(h:yj w)(a:BQ w w'):yj w':=zi a h
structure ZQ (T pT:TypeId):Prop where
 unpack:∀(t:Addr) (w:J),(ReflectliteValue.unpack (.iface pT (.pointer (some t)))).run prog w=.ok (.agg #[.pointer (some ⟨7,pT,none⟩),.pointer (some ⟨w.heap.size,0,none⟩),.int .u64 150]) (w.alloc (.cells #[.pointer (some t)] pT))
 type:∀(a:Addr) (w:J),(ReflectliteValue.methodAny (ReflectliteValue.valueError "reflectlite.Value.Type" 0) (λt _ _ _=>ReflectliteType.toType t) #[.agg #[.pointer (some ⟨7,pT,none⟩),.pointer (some a),.int .u64 150]]).run prog w=.ok (.iface 302 (.agg #[.pointer (some ⟨7,pT,none⟩)])) w
 kindP:∀w:J,((ReflectliteType.abiMethod λt=>(λa:Nat=>Value.int IntKind.u8 (a:Int)) <$> Rtype.kind t) #[.pointer (some ⟨7,pT,none⟩)]).run prog w=.ok (.int .u8 22) w
 kind:∀w:J,((ReflectliteType.abiMethod λt=>(λa:Nat=>Value.int IntKind.u8 (a:Int)) <$> Rtype.kind t) #[.pointer (some ⟨7,T,none⟩)]).run prog w=.ok (.int .u8 25) w
 isNil:∀(a p:Addr) (W:J),W.cell? a=some (.pointer (some p))->(ReflectliteValue.method (ReflectliteValue.valueError "reflectlite.Value.IsNil" 0) ReflectliteValue.isNil #[.agg #[.pointer (some ⟨7,pT,none⟩),.pointer (some a),.int .u64 150]]).run prog W=.ok (.bool false) W
 elem:∀w:J,(ReflectliteType.method ReflectliteType.elem #[.agg #[.pointer (some ⟨7,pT,none⟩)]]).run prog w=.ok (.iface 302 (.agg #[.pointer (some ⟨7,T,none⟩)])) w
 impl:∀w:J,(ReflectliteType.relation "Implements" ReflectliteType.implements_ #[.agg #[.pointer (some ⟨7,T,none⟩)],.iface 302 (.agg #[.pointer (some ⟨7,82,none⟩)])]).run prog w=.ok (.bool true) w
 elemV:∀(a p:Addr) (W:J),W.cell? a=some (.pointer (some p))->(ReflectliteValue.method (ReflectliteValue.valueError "reflectlite.Value.Elem" 0) ReflectliteValue.elem #[.agg #[.pointer (some ⟨7,pT,none⟩),.pointer (some a),.int .u64 150]]).run prog W=.ok (.agg #[.pointer (some ⟨7,T,none⟩),.pointer (some p),.int .u64 409]) W
abbrev cB:=@zO prog 112 _ (λd=>ReflectliteValue.unpack (d.getD 0 (.tuple #[]))) func112 (by kernel_rfl) (by kernel_rfl) (by kernel_rfl) (by kernel_rfl)
abbrev eP:=@zO prog 113 _ (ReflectliteValue.methodAny (ReflectliteValue.valueError "reflectlite.Value.Type" 0) (λt _ _ _=>ReflectliteType.toType t)) func113 (by kernel_rfl) (by kernel_rfl) (by kernel_rfl) (by kernel_rfl)
abbrev fC:=@zO prog 114 _ (ReflectliteValue.method (ReflectliteValue.valueError "reflectlite.Value.IsNil" 0) ReflectliteValue.isNil) func114 (by kernel_rfl) (by kernel_rfl) (by kernel_rfl) (by kernel_rfl)
abbrev iT:=@zO prog 261 _ (ReflectliteType.abiMethod λt=>do pure (.int .u8 (<- Rtype.kind t))) func261 (by kernel_rfl) (by kernel_rfl) (by kernel_rfl) (by kernel_rfl)
abbrev kz:=@zO prog 281 _ (ReflectliteType.method ReflectliteType.elem) func281 (by kernel_rfl) (by kernel_rfl) (by kernel_rfl) (by kernel_rfl)
abbrev kP:=@zO prog 282 _ (ReflectliteType.relation "Implements" ReflectliteType.implements_) func282 (by kernel_rfl) (by kernel_rfl) (by kernel_rfl) (by kernel_rfl)
theorem Jo(T c E:TypeId)(v:Y)(t:Addr)(w:J)(h:yj w)(a:ZQ T c)(b:Bool)(Q:J->Prop)
  (n:∀O,R8 115 #[.iface E v,.iface c (.pointer (some t)),.agg #[RG 7 c,R7 w 0,.int .u64 150],.iface 302 (.agg #[RG 7 T])]
    ((w.alloc (L8 #[.pointer (some t)] c)).alloc O) λe g=>e=.returned (.bool b)/\Q g):R8 65 #[.iface E v,.iface c (.pointer (some t))] w λe g=>e=.returned (.bool b)/\Q g:=by
 have q:=cB
 have r:=eP
 have s:=fC
 have k:=iT;have l:=kz
 have m:=kP
 have B:=Tryz.erKind;have z:=Tryz.erElem;have A:=Tryz.erImplements;have f6:=a.unpack;have f7:=a.type;have x:=a.kindP;have y:=a.kind;have p:=a.elem;have u:=a.impl;have C:=λO=>a.isNil (R6 w 0) t ((w.alloc (L8 #[.pointer (some t)] c)).alloc O) (by simp);have f:=λi j:Obj=>h.below ((nbl w i).alloc (by simp) j);unfold yj at f;clear h a;go_enter func65,ntmps65;go_wp2_with(go_at_call 115;apply(n _).mono;rintro e D⟨rfl,o⟩);go_ret;exact⟨rfl,o⟩
structure Yv (E:TypeId) (ok:Y->Prop):Prop where
 held:∀(x:Y) (w:J),ok x->(ReflectliteValue.unpack (.iface E (.agg #[x]))).run prog w=.ok (.agg #[.pointer (some ⟨7,E,none⟩),.pointer (some ⟨w.heap.size,0,none⟩),.int .u64 153]) (w.alloc (.cells #[x] E))
 set:∀(ta b:Addr) (x old:Y) (W:J),ok x->W.cell? b=some x->W.cell? ta=some old->W.frozen? ta=false ->
  (ReflectliteValue.set #[.agg #[.pointer (some ⟨7,E,none⟩),.pointer (some ta),.int .u64 409],.agg #[.pointer (some ⟨7,E,none⟩),.pointer (some b),.int .u64 153]]).run prog W=.ok (.tuple #[]) (W.setCell ta x)
theorem zR{w:J}{a:Addr}{v:Y}(h:w.cell? a=some v)(O:Obj):(w.alloc O).cell? a=some v:=by
 have b:a.block<w.heap.size:=by
  rcases UW a.block w.heap.size with h'|h'
  ·exact h'
  simp[World.cell?,Array.getElem?_eq_none h']at h
 rw[World.cell?_alloc_lt _ _ a b];exact h
theorem jQ{w:J}{a:Addr}{v:Y}(h:w.cell? a=some v)(b:w.frozen? a=false)(O:Obj):(w.alloc O).frozen? a=false:=by
 have c:a.block<w.heap.size:=by
  rcases UW a.block w.heap.size with h'|h'
  ·exact h'
  simp[World.cell?,Array.getElem?_eq_none h']at h
 rw[World.frozen?_alloc_old _ _ a (Nat.ne_of_lt c)];exact b
abbrev kT:=@zO prog 162 _ (ReflectliteValue.method (ReflectliteValue.valueError "reflectlite.Value.Elem" 0) ReflectliteValue.elem) func162 (by kernel_rfl) (by kernel_rfl) (by kernel_rfl) (by kernel_rfl)
abbrev mE:=@zO prog 163 _ ReflectliteValue.set func163 (by kernel_rfl) (by kernel_rfl) (by kernel_rfl) (by kernel_rfl)
theorem AC(E o:TypeId)(n:Y->Prop)(x h old:Y)(a t:Addr)(w:J)(j:jZ E)(i:Assign E E true)(k:ZQ E o)(d:Yv E n)(m:n x)(l:w.cell? a=some (.pointer (some t)))(c:w.cell? t=some old)(y:w.frozen? t=false):R8 115 #[.iface E (.agg #[x]),h,.agg #[.pointer (some ⟨7,o,none⟩),.pointer (some a),.int .u64 150],.iface 302 (.agg #[.pointer (some ⟨7,E,none⟩)])] w λe p=>
   e=.returned (.bool true)/\p.cell? t=some x/\∀base,base<=t.block->base<=w.heap.size->Below base w p:=by
 have r:=bz
 have v:=bW
 have A:=@zO prog 112 _ (λb=>ReflectliteValue.unpack (b.getD 0 (.tuple #[]))) func112 (by kernel_rfl) (by kernel_rfl) (by kernel_rfl) (by kernel_rfl)
 have s:=kT
 have u:=mE;have D:=j.typeOf;have B:=Tryz.erAssignableTo;have q:=i;unfold Assign at q;have F:=λw=>d.held x w m;have z:=λO=>k.elemV a t (w.alloc O) (zR l O);have C:=λO=>d.set t ⟨w.heap.size+1,0,none⟩ x old ((w.alloc O).alloc (.cells #[x] E)) m (by rw[U1 _ _ _ _ (by simp)];rfl) (zR (zR c O) _) (jQ (zR c O) (jQ c y O) _);have fin:=λO=>ZR ((w.alloc O).alloc (.cells #[x] E)) t x (zR (zR c O) (.cells #[x] E));clear j i k d l;go_enter func115,ntmps115;go_wp2;refine Qy 1 ?_;rw[Zi];go_wp2;go_ret;refine⟨rfl,fin _,λbase f g=>?_⟩;exact(((zf base w).alloc g _).alloc (by simp;omega) _).setCell f _
theorem Tryz.stUnwraps(v:Y)(a:TypeId)(w:J):(Instr.typeAssert (.iface 146 v) a 306 true).run prog w=.ok (.tuple #[.iface 146 v,L6]) w:=by kernel_rfl
theorem Tryz.stUnwrap (v:Y) (w:J):(Go.method 531 146 v "Unwrap").run prog w=.ok (268,v) w:=by kernel_rfl
theorem ou(n:Int)(E:TypeId)(v:Y)(w:J):R8 268 #[.agg #[R9 n,.iface E v]] w (G5 (.iface E v) w):=by
 go_enter func268,ntmps268;go_wp2;go_ret;exact⟨rfl,by first|exact zf _ _|exact nbl w _⟩
theorem Po(E T:TypeId)(n:Int)(v d i j k:Y)(w:J)(b:jZ 146)(a:jZ E)(h:kZ E)(f:Assign 146 T false)(g:Assign E T false):R8 115 #[.iface 146 (.agg #[R9 n,.iface E v]),d,.agg #[i,j,k],.iface 302 (.agg #[RG 7 T])] w (G5 T9 w):=by
 have o:=bz
 have p:=bW
 have y:=a.typeOf;have z:=b.typeOf;have s:=Tryz.erAssignableTo;have m:=g;have l:=f;unfold Assign at m l;have t:=a.noAs;have q:=h;unfold kZ at q;have u:=a.noUnwraps;have x:=b.noAs;have u1:=Tryz.stUnwraps;have u2:=Tryz.stUnwrap;clear a h f g b;go_enter func115,ntmps115;go_wp2;refine Qy 2 ?_;rw[Zi];go_wp2_with(go_at_call 268;apply(ou n E v _).mono;rintro e A⟨rfl,c⟩);rw[Zi];go_wp2;go_ret;exact⟨rfl,(nbl w _).trans (c.mono (by simp))⟩
theorem Pn(E j:TypeId)(C:Y->Prop)(n:Int)(x s old:Y)(a t:Addr)(w:J)(l:jZ 146)(z:jZ E)(v:Assign 146 E false)(y:Assign E E true)(A:ZQ E j)(k:Yv E C)(B:C x)
  (V:w.cell? a=some (.pointer (some t)))(r:w.cell? t=some old)(X:w.frozen? t=false):R8 115 #[.iface 146 (.agg #[R9 n,.iface E (.agg #[x])]),s,.agg #[RG 7 j,.pointer (some a),.int .u64 150],.iface 302 (.agg #[RG 7 E])] w λe F=>
   e=.returned L6/\F.cell? t=some x/\∀base,base<=t.block->base<=w.heap.size->Below base w F:=by
 have O:=bz
 have T:=bW
 have h6:=@zO prog 112 _ (λg=>ReflectliteValue.unpack (g.getD 0 (.tuple #[]))) func112 (by kernel_rfl) (by kernel_rfl) (by kernel_rfl) (by kernel_rfl)
 have P:=kT
 have Q:=mE;have tO:=z.typeOf;have tS:=l.typeOf;have mA:=Tryz.erAssignableTo;have H:=y;have G:=v;unfold Assign at H G;have s1:=l.noAs;have u1:=Tryz.stUnwraps;have u2:=Tryz.stUnwrap;have vH:=λw=>k.held x w B;have u:=λW h=>A.elemV a t W h;have D:=λW b N R S=>k.set t b x old W B N R S;clear z v y A k l;go_enter func115,ntmps115;go_wp2;refine Qy 2 ?_;rw[Zi];go_wp2_with(go_at_call 268;apply(ou n E (.agg #[x]) _).mono;rintro e f⟨rfl,c⟩);have m:=zi c (zR V _);have d:=zi c (zR r _)
 have q:=(c.frozen (p:=t) (by
  have h:=zR r (L8 #[RG 7 j,.pointer (some a),.int .u64 150] 238)
  rcases UW t.block (w.alloc (L8 #[RG 7 j,.pointer (some a),.int .u64 150] 238)).heap.size with h'|h'
  ·exact h'
  simp[World.cell?,Array.getElem?_eq_none h']at h)).trans (jQ r X _)
 have M:=u f m;have I:f.cell? (R6 w 0)=some (RG 7 j):=zi c (by simp);have K:f.cell? (R6 w 1)=some (.pointer (some a)):=zi c (by simp);have L:f.cell? (R6 w 2)=some (.int .u64 150):=zi c (by simp);have a0:=D (f.alloc (L8 #[x] E)) (R6 f 0) (by rw[U1 _ _ _ _ (by simp)];rfl) (zR d _) (jQ d q _);have fin:=ZR (f.alloc (L8 #[x] E)) t x (zR d _);clear u D;rw[Zi];go_wp2;go_ret;refine⟨rfl,fin,λbase i o=>?_⟩;exact((((zf base w).alloc o _).trans (c.mono (by simp;omega))).alloc (by have:=c.size;simp at this;omega) _).setCell i _
theorem Tryz.stHeld(n:Int)(u:Y)(w:J):(ReflectliteValue.unpack (.iface 146 (.agg #[R9 n,u]))).run prog w=.ok (.agg #[RG 7 146,R7 w 0,.int .u64 153]) (w.alloc (L8 #[R9 n,u] 146)):=by kernel_rfl
theorem Tryz.stPartsA(a:Addr)(w:J):(ReflectliteValue.parts (.agg #[RG 7 146,.pointer (some a),.int .u64 409])).run prog w=.ok (some (146,a,409)) w:=by kernel_rfl
theorem Tryz.stPartsB(a:Addr)(w:J):(ReflectliteValue.parts (.agg #[RG 7 146,.pointer (some a),.int .u64 153])).run prog w=.ok (some (146,a,153)) w:=by kernel_rfl
theorem Tryz.stDirect(w:J):(Rtype.directlyAssignable 146 146).run prog w=.ok true w:=by kernel_rfl
theorem V4(v x:Y)(a:Y->Y->Sem Y)(b:Array Y->Sem Y):ReflectliteValue.set.match_3 (λ_=>Sem Y) #[v,x] a b=a v x:=rfl
theorem QN(v:Y)(a:Y->Sem Y)(b:Array Y->Sem Y):ReflectliteValue.method.match_2 (λ_=>Sem Y) #[v] a b=a v:=rfl
theorem Tryz.stSet(a b:Nat)(n:Int)(E:TypeId)(v h c:Y)(W:J)(f:W.cell? (G8 b 0)=some (R9 n))(g:W.cell? (G8 b 1)=some (.iface E v))(t1:W.cell? (G8 a 0)=some h)(t2:W.cell? (G8 a 1)=some c)(f1:W.frozen? (G8 a 0)=false)(f2:W.frozen? (G8 a 1)=false):(ReflectliteValue.set #[.agg #[RG 7 146,RG a 0,.int .u64 409],.agg #[RG 7 146,RG b 0,.int .u64 153]]).run prog W
    = .ok (.tuple #[]) ((W.setCell (G8 a 0) (R9 n)).setCell (G8 a 1) (.iface E v)):=by
 delta ReflectliteValue.set
 rw[V4];simp only[ji,Tryz.stPartsA,Tryz.stPartsB,Result.andThen];have d:(W.setCell (G8 a 0) (R9 n)).cell? (G8 a 1)=some c:=(xu _ _ _ _ (by simp)).trans t2;have e:(W.setCell (G8 a 0) (R9 n)).frozen? (G8 a 1)=false:=by rw[World.frozen?_setCell];exact f2
 simp[ReflectliteValue.flagAddr,loadVar,isAgg,Tryz.sizeOf146,loadCells,loadCellsFrom,f,g,Result.andThen,Tryz.stDirect,storeVar,Value.cells,storeCells,Addr.add];rw[ZB prog W (G8 a 0) _ _ (by rfl)];simp[t1,f1];rw[ZB prog _ (G8 a 1) _ _ (by rfl)];simp[d,e]
theorem Tryz.erTypeLong(v:Y)(w:J):(ReflectliteType.typeOf #[.iface 391 v]).run prog w=.ok (.iface 302 (.agg #[RG 7 391])) w:=by kernel_rfl
theorem Tryz.erComparable (h:Y) (w:J):(Go.method 531 302 (.agg #[h]) "Comparable").run prog w=.ok (280,.agg #[h]) w:=by kernel_rfl
theorem Tryz.erComparableLong (w:J):(ReflectliteType.method (λt=>do Rtype.noPackHeld "Comparable" t;(λa=>Value.bool a.comparable) <$> typeInfo t) #[.agg #[RG 7 391]]).run prog w=.ok L6 w:=by kernel_rfl
theorem Pj(E:TypeId)(v:Y)(c:Addr)(w:J)(a:jZ E)(b:kZ E):R8 64 #[.iface E v,.iface 391 (.pointer (some c))] w λe h=>e=.returned T9/\h=w:=by
 have k:=bz;have o:=Tryz.erTypeLong;have l:=Tryz.erComparable
 have j:=@zO prog 280 _ (ReflectliteType.method (λt=>do Rtype.noPackHeld "Comparable" t;pure (.bool (<- typeInfo t).comparable))) func280 (by kernel_rfl) (by kernel_rfl) (by kernel_rfl) (by kernel_rfl)
 have i:=Tryz.erComparableLong;have m:=a.noIs;have d:=b;unfold kZ at d;have n:=a.noUnwraps;have ne:=λf g w=>nZ (P:=prog) E 391 f g underlying82 a.ne w;clear a b;go_enter func64,ntmps64;go_wp2;refine Qy 1 ?_;rw[Zi];go_wp2;go_ret;exact⟨rfl,rfl⟩
theorem AA(E:TypeId)(n:Int)(v:Y)(h:Addr)(w:J)(b:jZ 146)(a:jZ E)(g:kZ E):R8 64 #[.iface 146 (.agg #[R9 n,.iface E v]),.iface 391 (.pointer (some h))] w (G5 T9 w):=by
 have m:=bz;have u:=Tryz.erTypeLong;have o:=Tryz.erComparable
 have l:=@zO prog 280 _ (ReflectliteType.method (λt=>do Rtype.noPackHeld "Comparable" t;pure (.bool (<- typeInfo t).comparable))) func280 (by kernel_rfl) (by kernel_rfl) (by kernel_rfl) (by kernel_rfl)
 have k:=Tryz.erComparableLong;have p:=a.noIs;have i:=g;unfold kZ at i;have q:=a.noUnwraps;have ne:=λd f w=>nZ (P:=prog) E 391 d f underlying82 a.ne w;have r:=λd f w=>nZ (P:=prog) 146 391 d f underlying82 b.ne w;have s:=b.noIs;have u1:=Tryz.stUnwraps;have u2:=Tryz.stUnwrap;clear a g b;go_enter func64,ntmps64;go_wp2;refine Qy 2 ?_;rw[Zi];go_wp2_with(go_at_call 268;apply(ou n E v _).mono;rintro e x⟨rfl,c⟩);rw[Zi];go_wp2;go_ret;exact⟨rfl,c⟩
theorem AP:jZ 148:=
 ⟨λv w=>by kernel_rfl,
  λv a w=>yS underlying311 (by kernel_rfl) (by kernel_rfl) v a w,
  λv a w=>yS underlying304 (by kernel_rfl) (by kernel_rfl) v a w,
  λv a w=>yS underlying307 (by kernel_rfl) (by kernel_rfl) v a w,
  by decide⟩
theorem zbk:kZ 148:=λv a w=>yS underlying306 (by kernel_rfl) (by kernel_rfl) v a w
theorem Lc:Assign 148 148 true:=λw=>by kernel_rfl
theorem Ei(a:Addr)(w:J):(ReflectliteValue.parts (.agg #[RG 7 153,.pointer (some a),.int .u64 150])).run prog w=.ok (some (153,a,150)) w:=by kernel_rfl
theorem Pd(w:J):(Rtype.elem? 153).run prog w=.ok (some 148) w:=by kernel_rfl
theorem za5(p:Addr)(w:J):(ReflectliteValue.mk 148 p ReflectliteValue.flagAddr).run prog w=.ok (.agg #[RG 7 148,.pointer (some p),.int .u64 409]) w:=by kernel_rfl
theorem UF:ZQ 148 153 where
 unpack:=λt w=>by kernel_rfl
 type:=λa w=>by kernel_rfl
 kindP:=λw=>by kernel_rfl
 kind:=λw=>by kernel_rfl
 isNil:=λa p W b=>by
  delta ReflectliteValue.method
  rw[QN];simp only[ji,Ei,Result.andThen];simp[ReflectliteValue.isNil,loadVar,isAgg,underlying,underlying153,b,Result.andThen]
 elem:=λw=>by kernel_rfl
 impl:=λw=>by kernel_rfl
 elemV:=λa p W b=>by
  delta ReflectliteValue.method
  rw[QN];simp only[ji,Ei,Result.andThen];simp[ReflectliteValue.elem,loadVar,isAgg,underlying,underlying153,b,Result.andThen,Pd,za5]
theorem zbZ(a:Addr)(w:J):(ReflectliteValue.parts (.agg #[RG 7 148,.pointer (some a),.int .u64 409])).run prog w=.ok (some (148,a,409)) w:=by kernel_rfl
theorem zb4(a:Addr)(w:J):(ReflectliteValue.parts (.agg #[RG 7 148,.pointer (some a),.int .u64 153])).run prog w=.ok (some (148,a,153)) w:=by kernel_rfl
theorem Ol(w:J):(Rtype.directlyAssignable 148 148).run prog w=.ok true w:=by kernel_rfl
theorem SC:Yv 148 (λx=>∃k,x=R9 k) where
 held:=λx w h=>by obtain⟨k,rfl⟩:=h;kernel_rfl
 set:=λe b x old W h a d c=>by
  obtain⟨k,rfl⟩:=h
  delta ReflectliteValue.set
  rw[V4];simp only[ji,zbZ,zb4,Result.andThen];simp[ReflectliteValue.flagAddr,loadVar,isAgg,Tryz.sizeOf148,loadCells,loadCellsFrom,a,Result.andThen,Ol,storeVar,Value.cells,storeCells,Addr.add];rw[ZB prog W e _ _ (by rfl)];simp[d,c]
theorem lg:jZ 149:=
 ⟨λv w=>by kernel_rfl,
  λv a w=>yS underlying311 (by kernel_rfl) (by kernel_rfl) v a w,
  λv a w=>yS underlying304 (by kernel_rfl) (by kernel_rfl) v a w,
  λv a w=>yS underlying307 (by kernel_rfl) (by kernel_rfl) v a w,
  by decide⟩
theorem Dv:kZ 149:=λv a w=>yS underlying306 (by kernel_rfl) (by kernel_rfl) v a w
theorem IU:Assign 149 148 false:=λw=>by kernel_rfl
theorem IR:Assign 149 149 true:=λw=>by kernel_rfl
theorem Ee(a:Addr)(w:J):(ReflectliteValue.parts (.agg #[RG 7 154,.pointer (some a),.int .u64 150])).run prog w=.ok (some (154,a,150)) w:=by kernel_rfl
theorem OX(w:J):(Rtype.elem? 154).run prog w=.ok (some 149) w:=by kernel_rfl
theorem za1(p:Addr)(w:J):(ReflectliteValue.mk 149 p ReflectliteValue.flagAddr).run prog w=.ok (.agg #[RG 7 149,.pointer (some p),.int .u64 409]) w:=by kernel_rfl
theorem af:ZQ 149 154 where
 unpack:=λt w=>by kernel_rfl
 type:=λa w=>by kernel_rfl
 kindP:=λw=>by kernel_rfl
 kind:=λw=>by kernel_rfl
 isNil:=λa p W b=>by
  delta ReflectliteValue.method
  rw[QN];simp only[ji,Ee,Result.andThen];simp[ReflectliteValue.isNil,loadVar,isAgg,underlying,underlying154,b,Result.andThen]
 elem:=λw=>by kernel_rfl
 impl:=λw=>by kernel_rfl
 elemV:=λa p W b=>by
  delta ReflectliteValue.method
  rw[QN];simp only[ji,Ee,Result.andThen];simp[ReflectliteValue.elem,loadVar,isAgg,underlying,underlying154,b,Result.andThen,OX,za1]
theorem zbW(a:Addr)(w:J):(ReflectliteValue.parts (.agg #[RG 7 149,.pointer (some a),.int .u64 409])).run prog w=.ok (some (149,a,409)) w:=by kernel_rfl
theorem zb1(a:Addr)(w:J):(ReflectliteValue.parts (.agg #[RG 7 149,.pointer (some a),.int .u64 153])).run prog w=.ok (some (149,a,153)) w:=by kernel_rfl
theorem Oh(w:J):(Rtype.directlyAssignable 149 149).run prog w=.ok true w:=by kernel_rfl
theorem Sz:Yv 149 (λx=>∃k,x=R9 k) where
 held:=λx w h=>by obtain⟨k,rfl⟩:=h;kernel_rfl
 set:=λe b x old W h a d c=>by
  obtain⟨k,rfl⟩:=h
  delta ReflectliteValue.set
  rw[V4];simp only[ji,zbW,zb1,Result.andThen];simp[ReflectliteValue.flagAddr,loadVar,isAgg,Tryz.sizeOf149,loadCells,loadCellsFrom,a,Result.andThen,Oh,storeVar,Value.cells,storeCells,Addr.add];rw[ZB prog W e _ _ (by rfl)];simp[d,c]
theorem bV:jZ 150:=
 ⟨λv w=>by kernel_rfl,
  λv a w=>yS underlying311 (by kernel_rfl) (by kernel_rfl) v a w,
  λv a w=>yS underlying304 (by kernel_rfl) (by kernel_rfl) v a w,
  λv a w=>yS underlying307 (by kernel_rfl) (by kernel_rfl) v a w,
  by decide⟩
theorem mU:kZ 150:=λv a w=>yS underlying306 (by kernel_rfl) (by kernel_rfl) v a w
theorem Le:Assign 150 148 false:=λw=>by kernel_rfl
theorem Ld:Assign 150 149 false:=λw=>by kernel_rfl
theorem Lf:Assign 150 150 true:=λw=>by kernel_rfl
theorem Ej(a:Addr)(w:J):(ReflectliteValue.parts (.agg #[RG 7 155,.pointer (some a),.int .u64 150])).run prog w=.ok (some (155,a,150)) w:=by kernel_rfl
theorem Pe(w:J):(Rtype.elem? 155).run prog w=.ok (some 150) w:=by kernel_rfl
theorem za6(p:Addr)(w:J):(ReflectliteValue.mk 150 p ReflectliteValue.flagAddr).run prog w=.ok (.agg #[RG 7 150,.pointer (some p),.int .u64 409]) w:=by kernel_rfl
theorem fw:ZQ 150 155 where
 unpack:=λt w=>by kernel_rfl
 type:=λa w=>by kernel_rfl
 kindP:=λw=>by kernel_rfl
 kind:=λw=>by kernel_rfl
 isNil:=λa p W b=>by
  delta ReflectliteValue.method
  rw[QN];simp only[ji,Ej,Result.andThen];simp[ReflectliteValue.isNil,loadVar,isAgg,underlying,underlying155,b,Result.andThen]
 elem:=λw=>by kernel_rfl
 impl:=λw=>by kernel_rfl
 elemV:=λa p W b=>by
  delta ReflectliteValue.method
  rw[QN];simp only[ji,Ej,Result.andThen];simp[ReflectliteValue.elem,loadVar,isAgg,underlying,underlying155,b,Result.andThen,Pe,za6]
theorem zb0(a:Addr)(w:J):(ReflectliteValue.parts (.agg #[RG 7 150,.pointer (some a),.int .u64 409])).run prog w=.ok (some (150,a,409)) w:=by kernel_rfl
theorem zb5(a:Addr)(w:J):(ReflectliteValue.parts (.agg #[RG 7 150,.pointer (some a),.int .u64 153])).run prog w=.ok (some (150,a,153)) w:=by kernel_rfl
theorem Om(w:J):(Rtype.directlyAssignable 150 150).run prog w=.ok true w:=by kernel_rfl
theorem SE:Yv 150 (λx=>∃k,x=R9 k) where
 held:=λx w h=>by obtain⟨k,rfl⟩:=h;kernel_rfl
 set:=λe b x old W h a d c=>by
  obtain⟨k,rfl⟩:=h
  delta ReflectliteValue.set
  rw[V4];simp only[ji,zb0,zb5,Result.andThen];simp[ReflectliteValue.flagAddr,loadVar,isAgg,Tryz.sizeOf150,loadCells,loadCellsFrom,a,Result.andThen,Om,storeVar,Value.cells,storeCells,Addr.add];rw[ZB prog W e _ _ (by rfl)];simp[d,c]
theorem V5:jZ 188:=
 ⟨λv w=>by kernel_rfl,
  λv a w=>yS underlying311 (by kernel_rfl) (by kernel_rfl) v a w,
  λv a w=>yS underlying304 (by kernel_rfl) (by kernel_rfl) v a w,
  λv a w=>yS underlying307 (by kernel_rfl) (by kernel_rfl) v a w,
  by decide⟩
theorem KJ:kZ 188:=λv a w=>yS underlying306 (by kernel_rfl) (by kernel_rfl) v a w
theorem IY:Assign 188 148 false:=λw=>by kernel_rfl
theorem IV:Assign 188 149 false:=λw=>by kernel_rfl
theorem IZ:Assign 188 150 false:=λw=>by kernel_rfl
theorem IW:Assign 188 188 true:=λw=>by kernel_rfl
theorem IX:Assign 188 132 false:=λw=>by kernel_rfl
theorem Ef(a:Addr)(w:J):(ReflectliteValue.parts (.agg #[RG 7 246,.pointer (some a),.int .u64 150])).run prog w=.ok (some (246,a,150)) w:=by kernel_rfl
theorem OY(w:J):(Rtype.elem? 246).run prog w=.ok (some 188) w:=by kernel_rfl
theorem za2(p:Addr)(w:J):(ReflectliteValue.mk 188 p ReflectliteValue.flagAddr).run prog w=.ok (.agg #[RG 7 188,.pointer (some p),.int .u64 409]) w:=by kernel_rfl
theorem pz:ZQ 188 246 where
 unpack:=λt w=>by kernel_rfl
 type:=λa w=>by kernel_rfl
 kindP:=λw=>by kernel_rfl
 kind:=λw=>by kernel_rfl
 isNil:=λa p W b=>by
  delta ReflectliteValue.method
  rw[QN];simp only[ji,Ef,Result.andThen];simp[ReflectliteValue.isNil,loadVar,isAgg,underlying,underlying246,b,Result.andThen]
 elem:=λw=>by kernel_rfl
 impl:=λw=>by kernel_rfl
 elemV:=λa p W b=>by
  delta ReflectliteValue.method
  rw[QN];simp only[ji,Ef,Result.andThen];simp[ReflectliteValue.elem,loadVar,isAgg,underlying,underlying246,b,Result.andThen,OY,za2]
theorem zbX(a:Addr)(w:J):(ReflectliteValue.parts (.agg #[RG 7 188,.pointer (some a),.int .u64 409])).run prog w=.ok (some (188,a,409)) w:=by kernel_rfl
theorem zb2(a:Addr)(w:J):(ReflectliteValue.parts (.agg #[RG 7 188,.pointer (some a),.int .u64 153])).run prog w=.ok (some (188,a,153)) w:=by kernel_rfl
theorem Oi(w:J):(Rtype.directlyAssignable 188 188).run prog w=.ok true w:=by kernel_rfl
theorem SA:Yv 188 (λx=>∃k,x=R9 k) where
 held:=λx w h=>by obtain⟨k,rfl⟩:=h;kernel_rfl
 set:=λe b x old W h a d c=>by
  obtain⟨k,rfl⟩:=h
  delta ReflectliteValue.set
  rw[V4];simp only[ji,zbX,zb2,Result.andThen];simp[ReflectliteValue.flagAddr,loadVar,isAgg,Tryz.sizeOf188,loadCells,loadCellsFrom,a,Result.andThen,Oi,storeVar,Value.cells,storeCells,Addr.add];rw[ZB prog W e _ _ (by rfl)];simp[d,c]
theorem QO:jZ 132:=
 ⟨λv w=>by kernel_rfl,
  λv a w=>yS underlying311 (by kernel_rfl) (by kernel_rfl) v a w,
  λv a w=>yS underlying304 (by kernel_rfl) (by kernel_rfl) v a w,
  λv a w=>yS underlying307 (by kernel_rfl) (by kernel_rfl) v a w,
  by decide⟩
theorem Xy:kZ 132:=λv a w=>yS underlying306 (by kernel_rfl) (by kernel_rfl) v a w
theorem sJ:Assign 132 148 false:=λw=>by kernel_rfl
theorem sH:Assign 132 149 false:=λw=>by kernel_rfl
theorem sK:Assign 132 150 false:=λw=>by kernel_rfl
theorem sI:Assign 132 188 false:=λw=>by kernel_rfl
theorem La:Assign 132 132 true:=λw=>by kernel_rfl
theorem Lb:Assign 132 146 false:=λw=>by kernel_rfl
theorem Eg(a:Addr)(w:J):(ReflectliteValue.parts (.agg #[RG 7 351,.pointer (some a),.int .u64 150])).run prog w=.ok (some (351,a,150)) w:=by kernel_rfl
theorem OZ(w:J):(Rtype.elem? 351).run prog w=.ok (some 132) w:=by kernel_rfl
theorem za3(p:Addr)(w:J):(ReflectliteValue.mk 132 p ReflectliteValue.flagAddr).run prog w=.ok (.agg #[RG 7 132,.pointer (some p),.int .u64 409]) w:=by kernel_rfl
theorem pF:ZQ 132 351 where
 unpack:=λt w=>by kernel_rfl
 type:=λa w=>by kernel_rfl
 kindP:=λw=>by kernel_rfl
 kind:=λw=>by kernel_rfl
 isNil:=λa p W b=>by
  delta ReflectliteValue.method
  rw[QN];simp only[ji,Eg,Result.andThen];simp[ReflectliteValue.isNil,loadVar,isAgg,underlying,underlying351,b,Result.andThen]
 elem:=λw=>by kernel_rfl
 impl:=λw=>by kernel_rfl
 elemV:=λa p W b=>by
  delta ReflectliteValue.method
  rw[QN];simp only[ji,Eg,Result.andThen];simp[ReflectliteValue.elem,loadVar,isAgg,underlying,underlying351,b,Result.andThen,OZ,za3]
theorem zbY(a:Addr)(w:J):(ReflectliteValue.parts (.agg #[RG 7 132,.pointer (some a),.int .u64 409])).run prog w=.ok (some (132,a,409)) w:=by kernel_rfl
theorem zb3(a:Addr)(w:J):(ReflectliteValue.parts (.agg #[RG 7 132,.pointer (some a),.int .u64 153])).run prog w=.ok (some (132,a,153)) w:=by kernel_rfl
theorem Oj(w:J):(Rtype.directlyAssignable 132 132).run prog w=.ok true w:=by kernel_rfl
theorem SB:Yv 132 (λx=>∃s,x=S9 s) where
 held:=λx w h=>by obtain⟨k,rfl⟩:=h;kernel_rfl
 set:=λe b x old W h a d c=>by
  obtain⟨k,rfl⟩:=h
  delta ReflectliteValue.set
  rw[V4];simp only[ji,zbY,zb3,Result.andThen];simp[ReflectliteValue.flagAddr,loadVar,isAgg,Tryz.sizeOf132,loadCells,loadCellsFrom,a,Result.andThen,Oj,storeVar,Value.cells,storeCells,Addr.add];rw[ZB prog W e _ _ (by rfl)];simp[d,c]
theorem V6:jZ 146:=
 ⟨λv w=>by kernel_rfl,
  λv a w=>yS underlying311 (by kernel_rfl) (by kernel_rfl) v a w,
  λv a w=>yS underlying304 (by kernel_rfl) (by kernel_rfl) v a w,
  λv a w=>yS underlying307 (by kernel_rfl) (by kernel_rfl) v a w,
  by decide⟩
theorem sP:Assign 146 148 false:=λw=>by kernel_rfl
theorem sM:Assign 146 149 false:=λw=>by kernel_rfl
theorem sQ:Assign 146 150 false:=λw=>by kernel_rfl
theorem sN:Assign 146 188 false:=λw=>by kernel_rfl
theorem sO:Assign 146 146 true:=λw=>by kernel_rfl
theorem Eh(a:Addr)(w:J):(ReflectliteValue.parts (.agg #[RG 7 245,.pointer (some a),.int .u64 150])).run prog w=.ok (some (245,a,150)) w:=by kernel_rfl
theorem Pb(w:J):(Rtype.elem? 245).run prog w=.ok (some 146) w:=by kernel_rfl
theorem za4(p:Addr)(w:J):(ReflectliteValue.mk 146 p ReflectliteValue.flagAddr).run prog w=.ok (.agg #[RG 7 146,.pointer (some p),.int .u64 409]) w:=by kernel_rfl
theorem ag:ZQ 146 245 where
 unpack:=λt w=>by kernel_rfl
 type:=λa w=>by kernel_rfl
 kindP:=λw=>by kernel_rfl
 kind:=λw=>by kernel_rfl
 isNil:=λa p W b=>by
  delta ReflectliteValue.method
  rw[QN];simp only[ji,Eh,Result.andThen];simp[ReflectliteValue.isNil,loadVar,isAgg,underlying,underlying245,b,Result.andThen]
 elem:=λw=>by kernel_rfl
 impl:=λw=>by kernel_rfl
 elemV:=λa p W b=>by
  delta ReflectliteValue.method
  rw[QN];simp only[ji,Eh,Result.andThen];simp[ReflectliteValue.elem,loadVar,isAgg,underlying,underlying245,b,Result.andThen,Pb,za4]
end Go.Proofs.YtfjpcldndaiifaaGreatDoor
namespace Go.Proofs.YtfjpcldndaiifaaGreatDoor
open Go.RowKit
def ul(g:Nat)(b:Array Y)(a:Nat->Y)(n:Nat)(p:Nat->Bool)(w:J):Prop:=
 ∀W j,j<n->BQ w W->R8 g (#[a j]++b) W (G5 (.bool (p j)) W)
def zC(p:Nat->Bool)(n:Nat):Option Nat:=(List.range n).find? p
def Zc(p:Nat->Bool)(n:Nat):Bool:=(List.range n).all p
theorem Xp(p:Nat->Bool)(n k:Nat)(c:k<n)(a:∀j,j<k->p j=false)(h:p k=true):zC p n=some k:=by
 unfold zC;rw[UQ];exact⟨h,by simpa using c,λj b=>by simp[a j b]⟩
theorem Xq(p:Nat->Bool)(n:Nat)(a:∀j,j<n->p j=false):zC p n=none:=by
 unfold zC;rw[Y5];intro j b;simp[a j (List.mem_range.1 b)]
theorem bE(p:Nat->Bool)(n:Nat):Zc p n=(zC (λj=>!p j) n).isNone:=by
 unfold Zc zC;rw[Zp]
 simp
theorem YK(n b o cap g:Nat)(t:Array Y)(v:Nat->Int)(p:Nat->Bool)(w:J)(B:n<=1000000000000)(z:L9 g)
  (x:∀j,j<n->w.cell? (G8 b (o+j))=some (.int .u8 (v j)))(y:ul g t (λj => .int .u8 (v j)) n p w):R8 187 #[TL (some (G8 b o)) n cap,.func (.func g) #[] t] w λe r=>
   e=.returned (.tuple #[R9 (((zC p n).getD 0:Nat):Int),.bool (zC p n).isSome])/\BQ w r:=by
 generalize hF:zC p n=F;have s:=G7 hF;clear hF;go_enter func187,ntmps187;go_wp2
 go_loopw [10] (λi wr=>∃k:Nat,k<=n/\i=R9 k/\(∀j,j<k->p j=false)/\BQ w wr) (λi _=>n-(intOf i).toNat)
 case atStart=>exact⟨0,zD _,rfl,λj h=>by omega,zf _ _⟩
 case round=>
  obtain⟨k,A,rfl,l,d⟩:=hrel;have m:=G7 l;clear l
  by_cases hlt:k<n
  ·have q:=zi d (x k hlt);have a:=λW l=>y W k hlt l;simp only at a
   cases hpp:p k with
   | false=>
    rw[hpp]at a;have u:=G7 hpp;clear hpp;go_wp2_with(go_at_fn g;apply(a _ d).mono;rintro e r⟨rfl,f⟩);refine⟨⟨k+1,by omega,by go_num,λj h=>?_,d.trans (f.mono d.size)⟩,by simp[intOf];omega⟩
    by_cases hj:j=k
    ·subst hj;exact u
    ·exact m j (by omega)
   | true=>
    rw[hpp]at a;have e:=Xp p n k hlt m hpp;rw[s.o]at e;subst e;clear hpp;go_wp2_with(go_at_fn g;apply(a _ d).mono;rintro e r⟨rfl,f⟩);go_ret2;exact⟨rfl,d.trans (f.mono d.size)⟩
  have e:=Xq p n (λj h=>m j (by omega));rw[s.o]at e;subst e;go_wp2;go_ret2;exact⟨rfl,d⟩
theorem Iu(n b o cap g:Nat)(f:Array Y)(v:Nat->Int)(p:Nat->Bool)(w:J)(l:n<=1000000000000)(i:L9 g)
  (k:∀j,j<n->w.cell? (G8 b (o+j))=some (.int .u8 (v j)))(m:ul g f (λj => .int .u8 (v j)) n p w):R8 147 #[TL (some (G8 b o)) n cap,.func (.func g) #[] f] w λe h=>
   e=.returned (.bool (zC p n).isSome)/\BQ w h:=by
 have c:=YK n b o cap g f v p w l i k m;generalize zC p n=F at c;go_enter func147,ntmps147;go_wp2_with(go_at_call 187;apply c.mono;rintro e h⟨rfl,d⟩);go_ret;exact⟨rfl,d⟩
theorem Hy(g:Nat)(d:Array Y)(x:Int)(B:Nat)(y:Bool)(w:J)(h:L9 g)
  (i:w.cell? (G8 B 0)=some (.func (.func g) #[] d))(f:R8 g (#[.int .u8 x]++d) w (G5 (.bool y) w)):R8 148 #[.int .u8 x,RG B 0] w (G5 (.bool (!y)) w):=by
 go_enter func148,ntmps148;go_wp2_with(go_at_fn g;apply f.mono;rintro e b⟨rfl,c⟩);go_ret;exact⟨rfl,c⟩
theorem rV(n b o cap g:Nat)(d:Array Y)(v:Nat->Int)(p:Nat->Bool)(w:J)(r:n<=1000000000000)(m:L9 g)
  (q:∀j,j<n->w.cell? (G8 b (o+j))=some (.int .u8 (v j)))(s:ul g d (λj => .int .u8 (v j)) n p w):R8 97 #[TL (some (G8 b o)) n cap,.func (.func g) #[] d] w λe k=>
   e=.returned (.bool (Zc p n))/\BQ w k:=by
 have l:L9 148:=qo func148 (by kernel_rfl) rfl
 have c:=Iu n b o cap 148 #[R7 w 0] v (λj=>!p j) (w.alloc (L8 #[.func (.func g) #[] d] 211)) r l
  (λj h=>zi (nbl w _) (q j h))
  (λW j h i=>by
    refine Hy g d (v j) w.heap.size (p j) W m ?_ (s W j h ((nbl w _).trans (i.mono (by simp))));exact zi i (by simp))
 rw[bE];generalize zC (λj=>!p j) n=F at c;go_enter func97,ntmps97;go_wp2_with(go_at_call 147;apply c.mono;rintro e k⟨rfl,f⟩);go_ret;exact⟨rfl,(nbl w _).trans (f.mono (by simp))⟩
def rowAt(w:J)(ao:Option Addr)(n:Nat)(v:Nat->Int):Prop:=
 n=0\/∃b o,ao=some (G8 b o)/\∀j,j<n->w.cell? (G8 b (o+j))=some (.int .i32 (v j))
theorem nW{w w':J}{ao:Option Addr}{n:Nat}{v:Nat->Int}(h:rowAt w ao n v)(a:BQ w w'):rowAt w' ao n v:=by
 rcases h with h|⟨b,o,h1,h2⟩
 ·exact .inl h
 exact .inr ⟨b,o,h1,λj c=>zi a (h2 j c)⟩
theorem Rj(n:Nat)(ao:Option Addr)(cap g:Nat)(t:Array Y)(v:Nat->Int)(p:Nat->Bool)(w:J)(B:n<=1000000000000)(z:L9 g)
  (x:rowAt w ao n v)(y:ul g t (λj => .int .i32 (v j)) n p w):R8 213 #[TL ao n cap,.func (.func g) #[] t] w λe r=>
   e=.returned (.tuple #[R9 (((zC p n).getD 0:Nat):Int),.bool (zC p n).isSome])/\BQ w r:=by
 generalize hF:zC p n=F;have s:=G7 hF;clear hF;go_enter func213,ntmps213;go_wp2
 go_loopw [10] (λi wr=>∃k:Nat,k<=n/\i=R9 k/\(∀j,j<k->p j=false)/\BQ w wr) (λi _=>n-(intOf i).toNat)
 case atStart=>exact⟨0,zD _,rfl,λj h=>by omega,zf _ _⟩
 case round=>
  obtain⟨k,A,rfl,l,d⟩:=hrel;have m:=G7 l;clear l
  by_cases hlt:k<n
  ·rcases x with h0|⟨b,o,rfl,hcc⟩
   ·omega
   have q:=zi d (hcc k hlt);have a:=λW l=>y W k hlt l;simp only at a
   cases hpp:p k with
   | false=>
    rw[hpp]at a;have u:=G7 hpp;clear hpp;go_wp2_with(go_at_fn g;apply(a _ d).mono;rintro e r⟨rfl,f⟩);refine⟨⟨k+1,by omega,by go_num,λj h=>?_,d.trans (f.mono d.size)⟩,by simp[intOf];omega⟩
    by_cases hj:j=k
    ·subst hj;exact u
    ·exact m j (by omega)
   | true=>
    rw[hpp]at a;have e:=Xp p n k hlt m hpp;rw[s.o]at e;subst e;clear hpp;go_wp2_with(go_at_fn g;apply(a _ d).mono;rintro e r⟨rfl,f⟩);go_ret2;exact⟨rfl,d.trans (f.mono d.size)⟩
  have e:=Xq p n (λj h=>m j (by omega));rw[s.o]at e;subst e;go_wp2;go_ret2;exact⟨rfl,d⟩
theorem IA(n:Nat)(ao:Option Addr)(cap g:Nat)(d:Array Y)(v:Nat->Int)(p:Nat->Bool)(w:J)(k:n<=1000000000000)(h:L9 g)
  (i:rowAt w ao n v)(l:ul g d (λj => .int .i32 (v j)) n p w):R8 185 #[TL ao n cap,.func (.func g) #[] d] w λe f=>
   e=.returned (.bool (zC p n).isSome)/\BQ w f:=by
 have c:=Rj n ao cap g d v p w k h i l;generalize zC p n=F at c;go_enter func185,ntmps185;go_wp2_with(go_at_call 213;apply c.mono;rintro e f⟨rfl,b⟩);go_ret;exact⟨rfl,b⟩
theorem Ij(g:Nat)(d:Array Y)(x:Int)(B:Nat)(y:Bool)(w:J)(h:L9 g)
  (i:w.cell? (G8 B 0)=some (.func (.func g) #[] d))(f:R8 g (#[.int .i32 x]++d) w (G5 (.bool y) w)):R8 186 #[.int .i32 x,RG B 0] w (G5 (.bool (!y)) w):=by
 go_enter func186,ntmps186;go_wp2_with(go_at_fn g;apply f.mono;rintro e b⟨rfl,c⟩);go_ret;exact⟨rfl,c⟩
theorem Ii(n:Nat)(ao:Option Addr)(cap g:Nat)(b:Array Y)(v:Nat->Int)(p:Nat->Bool)(w:J)(o:n<=1000000000000)(k:L9 g)
  (l:rowAt w ao n v)(q:ul g b (λj => .int .i32 (v j)) n p w):R8 142 #[TL ao n cap,.func (.func g) #[] b] w λe h=>
   e=.returned (.bool (Zc p n))/\BQ w h:=by
 have i:L9 186:=qo func186 (by kernel_rfl) rfl
 have c:=IA n ao cap 186 #[R7 w 0] v (λj=>!p j) (w.alloc (L8 #[.func (.func g) #[] b] 278)) o i
  (nW l (nbl w _))
  (λW j m f=>by
    refine Ij g b (v j) w.heap.size (p j) W k ?_ (q W j m ((nbl w _).trans (f.mono (by simp))));exact zi f (by simp))
 rw[bE];generalize zC (λj=>!p j) n=F at c;go_enter func142,ntmps142;go_wp2_with(go_at_call 185;apply c.mono;rintro e h⟨rfl,d⟩);go_ret;exact⟨rfl,(nbl w _).trans (d.mono (by simp))⟩
theorem oW(w:J):(Instr.typeAssert .nilIface 121 289 true).run prog w=.ok (.tuple #[R5,T9]) w:=by kernel_rfl
theorem K9(v:Y)(w:J):(Instr.typeAssert (.iface 289 v) 121 289 true).run prog w=.ok (.tuple #[v,L6]) w:=by kernel_rfl
theorem pg(v:Y)(w:J):(Instr.typeAssert (.iface 290 v) 121 289 true).run prog w=.ok (.tuple #[R5,T9]) w:=by kernel_rfl
theorem oU(v:Y)(w:J):(Instr.typeAssert (.iface 128 v) 121 289 true).run prog w=.ok (.tuple #[R5,T9]) w:=by kernel_rfl
theorem oZ(v:Y)(w:J):(Instr.typeAssert (.iface 125 v) 121 289 true).run prog w=.ok (.tuple #[R5,T9]) w:=by kernel_rfl
theorem ze7(v:Y)(w:J):(Instr.typeAssert (.iface 289 v) 121 290 true).run prog w=.ok (.tuple #[T9,T9]) w:=by kernel_rfl
theorem ze8(v:Y)(w:J):(Instr.typeAssert (.iface 290 v) 121 290 true).run prog w=.ok (.tuple #[v,L6]) w:=by kernel_rfl
theorem ze5(v:Y)(w:J):(Instr.typeAssert (.iface 128 v) 121 290 true).run prog w=.ok (.tuple #[T9,T9]) w:=by kernel_rfl
theorem ze6(v:Y)(w:J):(Instr.typeAssert (.iface 125 v) 121 290 true).run prog w=.ok (.tuple #[T9,T9]) w:=by kernel_rfl
theorem zeW(w:J):(Instr.typeAssert .nilIface 121 128 true).run prog w=.ok (.tuple #[R4,T9]) w:=by kernel_rfl
theorem zeY(v:Y)(w:J):(Instr.typeAssert (.iface 289 v) 121 128 true).run prog w=.ok (.tuple #[R4,T9]) w:=by kernel_rfl
theorem zeZ(v:Y)(w:J):(Instr.typeAssert (.iface 290 v) 121 128 true).run prog w=.ok (.tuple #[R4,T9]) w:=by kernel_rfl
theorem oN(v:Y)(w:J):(Instr.typeAssert (.iface 128 v) 121 128 true).run prog w=.ok (.tuple #[v,L6]) w:=by kernel_rfl
theorem zeX(v:Y)(w:J):(Instr.typeAssert (.iface 125 v) 121 128 true).run prog w=.ok (.tuple #[R4,T9]) w:=by kernel_rfl
theorem ze1(w:J):(Instr.typeAssert .nilIface 121 125 true).run prog w=.ok (.tuple #[R4,T9]) w:=by kernel_rfl
theorem ze2(v:Y)(w:J):(Instr.typeAssert (.iface 289 v) 121 125 true).run prog w=.ok (.tuple #[R4,T9]) w:=by kernel_rfl
theorem ze3(v:Y)(w:J):(Instr.typeAssert (.iface 290 v) 121 125 true).run prog w=.ok (.tuple #[R4,T9]) w:=by kernel_rfl
theorem ze0(v:Y)(w:J):(Instr.typeAssert (.iface 128 v) 121 125 true).run prog w=.ok (.tuple #[R4,T9]) w:=by kernel_rfl
theorem oQ(v:Y)(w:J):(Instr.typeAssert (.iface 125 v) 121 125 true).run prog w=.ok (.tuple #[v,L6]) w:=by kernel_rfl
end Go.Proofs.YtfjpcldndaiifaaGreatDoor
