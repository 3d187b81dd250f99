/- P -/
import Derived.Test.YtagnlbgbnfnapaaGreatDoorZ01
open Go.Proofs.Tryz
set_option maxRecDepth 100000
namespace Go.Proofs.YtagnlbgbnfnapaaGreatDoor
open Go.RowKit Go.Extern.Stop Go.Stop Go.Extern
theorem oU:yX 145:=
 ⟨λv w=>by kernel_rfl,
  λv a w=>jd underlying298 (by kernel_rfl) (by kernel_rfl) v a w,
  λv a w=>jd underlying291 (by kernel_rfl) (by kernel_rfl) v a w,
  λv a w=>jd underlying294 (by kernel_rfl) (by kernel_rfl) v a w,
  by decide⟩
theorem OJ:uu 145:=λv a w=>jd underlying293 (by kernel_rfl) (by kernel_rfl) v a w
theorem Er:Assign 145 145 true:=λw=>by kernel_rfl
theorem Ah(a:Addr)(w:World):(ReflectliteValue.parts (.agg #[.pointer (some ⟨7,150,none⟩),.pointer (some a),.int .u64 150])).run prog w = .ok (some (150,a,150)) w:=by kernel_rfl
theorem Hm(w:World):(Rtype.elem? 150).run prog w = .ok (some 145) w:=by kernel_rfl
theorem Ot(p:Addr)(w:World):(ReflectliteValue.mk 145 p ReflectliteValue.flagAddr).run prog w = .ok (.agg #[.pointer (some ⟨7,145,none⟩),.pointer (some p),.int .u64 409]) w:=by kernel_rfl
theorem Vq:kg 145 150 where
 unpack:=λt w=>by kernel_rfl
 type:=λa w=>by kernel_rfl
 kindP:=λw=>by kernel_rfl
 kind:=λw=>by kernel_rfl
 isNil:=λa p W b=>by
  delta ReflectliteValue.method
  rw[Z0];simp only[vS,Ah,Result.andThen];simp[ReflectliteValue.isNil,loadVar,isAgg,underlying,underlying150,b,Result.andThen]
 elem:=λw=>by kernel_rfl
 impl:=λw=>by kernel_rfl
 elemV:=λa p W b=>by
  delta ReflectliteValue.method
  rw[Z0];simp only[vS,Ah,Result.andThen];simp[ReflectliteValue.elem,loadVar,isAgg,underlying,underlying150,b,Result.andThen,Hm,Ot]
theorem Ra(a:Addr)(w:World):(ReflectliteValue.parts (.agg #[.pointer (some ⟨7,145,none⟩),.pointer (some a),.int .u64 409])).run prog w = .ok (some (145,a,409)) w:=by kernel_rfl
theorem Rh(a:Addr)(w:World):(ReflectliteValue.parts (.agg #[.pointer (some ⟨7,145,none⟩),.pointer (some a),.int .u64 153])).run prog w = .ok (some (145,a,153)) w:=by kernel_rfl
theorem Gr(w:World):(Rtype.directlyAssignable 145 145).run prog w = .ok true w:=by kernel_rfl
theorem Mf:Xu 145 (λx=>∃k,x = .int .i64 k) where
 held:=λx w h=>by obtain⟨k,rfl⟩:=h;kernel_rfl
 set:=λd b x old W h hb c a=>by
  obtain⟨k,rfl⟩:=h
  delta ReflectliteValue.set
  rw[JQ];simp only[vS,Ra,Rh,Result.andThen];simp[ReflectliteValue.flagAddr,loadVar,isAgg,Tryz.sizeOf145,loadCells,loadCellsFrom,hb,Result.andThen,Gr,storeVar,Value.cells,storeCells,Addr.add];rw[Zk prog W d _ _ (by rfl)];simp[c,a]
theorem bU:yX 146:=
 ⟨λv w=>by kernel_rfl,
  λv a w=>jd underlying298 (by kernel_rfl) (by kernel_rfl) v a w,
  λv a w=>jd underlying291 (by kernel_rfl) (by kernel_rfl) v a w,
  λv a w=>jd underlying294 (by kernel_rfl) (by kernel_rfl) v a w,
  by decide⟩
theorem wu:uu 146:=λv a w=>jd underlying293 (by kernel_rfl) (by kernel_rfl) v a w
theorem Eh:Assign 146 145 false:=λw=>by kernel_rfl
theorem Eg:Assign 146 146 true:=λw=>by kernel_rfl
theorem Ad(a:Addr)(w:World):(ReflectliteValue.parts (.agg #[.pointer (some ⟨7,151,none⟩),.pointer (some a),.int .u64 150])).run prog w = .ok (some (151,a,150)) w:=by kernel_rfl
theorem He(w:World):(Rtype.elem? 151).run prog w = .ok (some 146) w:=by kernel_rfl
theorem Ol(p:Addr)(w:World):(ReflectliteValue.mk 146 p ReflectliteValue.flagAddr).run prog w = .ok (.agg #[.pointer (some ⟨7,146,none⟩),.pointer (some p),.int .u64 409]) w:=by kernel_rfl
theorem Un:kg 146 151 where
 unpack:=λt w=>by kernel_rfl
 type:=λa w=>by kernel_rfl
 kindP:=λw=>by kernel_rfl
 kind:=λw=>by kernel_rfl
 isNil:=λa p W b=>by
  delta ReflectliteValue.method
  rw[Z0];simp only[vS,Ad,Result.andThen];simp[ReflectliteValue.isNil,loadVar,isAgg,underlying,underlying151,b,Result.andThen]
 elem:=λw=>by kernel_rfl
 impl:=λw=>by kernel_rfl
 elemV:=λa p W b=>by
  delta ReflectliteValue.method
  rw[Z0];simp only[vS,Ad,Result.andThen];simp[ReflectliteValue.elem,loadVar,isAgg,underlying,underlying151,b,Result.andThen,He,Ol]
theorem PV(a:Addr)(w:World):(ReflectliteValue.parts (.agg #[.pointer (some ⟨7,146,none⟩),.pointer (some a),.int .u64 409])).run prog w = .ok (some (146,a,409)) w:=by kernel_rfl
theorem Rc(a:Addr)(w:World):(ReflectliteValue.parts (.agg #[.pointer (some ⟨7,146,none⟩),.pointer (some a),.int .u64 153])).run prog w = .ok (some (146,a,153)) w:=by kernel_rfl
theorem Gn(w:World):(Rtype.directlyAssignable 146 146).run prog w = .ok true w:=by kernel_rfl
theorem Mc:Xu 146 (λx=>∃k,x = .int .i64 k) where
 held:=λx w h=>by obtain⟨k,rfl⟩:=h;kernel_rfl
 set:=λd b x old W h hb c a=>by
  obtain⟨k,rfl⟩:=h
  delta ReflectliteValue.set
  rw[JQ];simp only[vS,PV,Rc,Result.andThen];simp[ReflectliteValue.flagAddr,loadVar,isAgg,Tryz.sizeOf146,loadCells,loadCellsFrom,hb,Result.andThen,Gn,storeVar,Value.cells,storeCells,Addr.add];rw[Zk prog W d _ _ (by rfl)];simp[c,a]
theorem U3:yX 147:=
 ⟨λv w=>by kernel_rfl,
  λv a w=>jd underlying298 (by kernel_rfl) (by kernel_rfl) v a w,
  λv a w=>jd underlying291 (by kernel_rfl) (by kernel_rfl) v a w,
  λv a w=>jd underlying294 (by kernel_rfl) (by kernel_rfl) v a w,
  by decide⟩
theorem fV:uu 147:=λv a w=>jd underlying293 (by kernel_rfl) (by kernel_rfl) v a w
theorem Et:Assign 147 145 false:=λw=>by kernel_rfl
theorem Es:Assign 147 146 false:=λw=>by kernel_rfl
theorem Eu:Assign 147 147 true:=λw=>by kernel_rfl
theorem Ai(a:Addr)(w:World):(ReflectliteValue.parts (.agg #[.pointer (some ⟨7,152,none⟩),.pointer (some a),.int .u64 150])).run prog w = .ok (some (152,a,150)) w:=by kernel_rfl
theorem Ho(w:World):(Rtype.elem? 152).run prog w = .ok (some 147) w:=by kernel_rfl
theorem Ou(p:Addr)(w:World):(ReflectliteValue.mk 147 p ReflectliteValue.flagAddr).run prog w = .ok (.agg #[.pointer (some ⟨7,147,none⟩),.pointer (some p),.int .u64 409]) w:=by kernel_rfl
theorem KW:kg 147 152 where
 unpack:=λt w=>by kernel_rfl
 type:=λa w=>by kernel_rfl
 kindP:=λw=>by kernel_rfl
 kind:=λw=>by kernel_rfl
 isNil:=λa p W b=>by
  delta ReflectliteValue.method
  rw[Z0];simp only[vS,Ai,Result.andThen];simp[ReflectliteValue.isNil,loadVar,isAgg,underlying,underlying152,b,Result.andThen]
 elem:=λw=>by kernel_rfl
 impl:=λw=>by kernel_rfl
 elemV:=λa p W b=>by
  delta ReflectliteValue.method
  rw[Z0];simp only[vS,Ai,Result.andThen];simp[ReflectliteValue.elem,loadVar,isAgg,underlying,underlying152,b,Result.andThen,Ho,Ou]
theorem Rb(a:Addr)(w:World):(ReflectliteValue.parts (.agg #[.pointer (some ⟨7,147,none⟩),.pointer (some a),.int .u64 409])).run prog w = .ok (some (147,a,409)) w:=by kernel_rfl
theorem Ri(a:Addr)(w:World):(ReflectliteValue.parts (.agg #[.pointer (some ⟨7,147,none⟩),.pointer (some a),.int .u64 153])).run prog w = .ok (some (147,a,153)) w:=by kernel_rfl
theorem Gs(w:World):(Rtype.directlyAssignable 147 147).run prog w = .ok true w:=by kernel_rfl
theorem Mg:Xu 147 (λx=>∃k,x = .int .i64 k) where
 held:=λx w h=>by obtain⟨k,rfl⟩:=h;kernel_rfl
 set:=λd b x old W h hb c a=>by
  obtain⟨k,rfl⟩:=h
  delta ReflectliteValue.set
  rw[JQ];simp only[vS,Rb,Ri,Result.andThen];simp[ReflectliteValue.flagAddr,loadVar,isAgg,Tryz.sizeOf147,loadCells,loadCellsFrom,hb,Result.andThen,Gs,storeVar,Value.cells,storeCells,Addr.add];rw[Zk prog W d _ _ (by rfl)];simp[c,a]
theorem JR:yX 216:=
 ⟨λv w=>by kernel_rfl,
  λv a w=>jd underlying298 (by kernel_rfl) (by kernel_rfl) v a w,
  λv a w=>jd underlying291 (by kernel_rfl) (by kernel_rfl) v a w,
  λv a w=>jd underlying294 (by kernel_rfl) (by kernel_rfl) v a w,
  by decide⟩
theorem V5:uu 216:=λv a w=>jd underlying293 (by kernel_rfl) (by kernel_rfl) v a w
theorem Em:Assign 216 145 false:=λw=>by kernel_rfl
theorem Ei:Assign 216 146 false:=λw=>by kernel_rfl
theorem En:Assign 216 147 false:=λw=>by kernel_rfl
theorem Ej:Assign 216 216 true:=λw=>by kernel_rfl
theorem El:Assign 216 129 false:=λw=>by kernel_rfl
theorem Ae(a:Addr)(w:World):(ReflectliteValue.parts (.agg #[.pointer (some ⟨7,218,none⟩),.pointer (some a),.int .u64 150])).run prog w = .ok (some (218,a,150)) w:=by kernel_rfl
theorem Hf(w:World):(Rtype.elem? 218).run prog w = .ok (some 216) w:=by kernel_rfl
theorem Om(p:Addr)(w:World):(ReflectliteValue.mk 216 p ReflectliteValue.flagAddr).run prog w = .ok (.agg #[.pointer (some ⟨7,216,none⟩),.pointer (some p),.int .u64 409]) w:=by kernel_rfl
theorem iP:kg 216 218 where
 unpack:=λt w=>by kernel_rfl
 type:=λa w=>by kernel_rfl
 kindP:=λw=>by kernel_rfl
 kind:=λw=>by kernel_rfl
 isNil:=λa p W b=>by
  delta ReflectliteValue.method
  rw[Z0];simp only[vS,Ae,Result.andThen];simp[ReflectliteValue.isNil,loadVar,isAgg,underlying,underlying218,b,Result.andThen]
 elem:=λw=>by kernel_rfl
 impl:=λw=>by kernel_rfl
 elemV:=λa p W b=>by
  delta ReflectliteValue.method
  rw[Z0];simp only[vS,Ae,Result.andThen];simp[ReflectliteValue.elem,loadVar,isAgg,underlying,underlying218,b,Result.andThen,Hf,Om]
theorem PY(a:Addr)(w:World):(ReflectliteValue.parts (.agg #[.pointer (some ⟨7,216,none⟩),.pointer (some a),.int .u64 409])).run prog w = .ok (some (216,a,409)) w:=by kernel_rfl
theorem Re(a:Addr)(w:World):(ReflectliteValue.parts (.agg #[.pointer (some ⟨7,216,none⟩),.pointer (some a),.int .u64 153])).run prog w = .ok (some (216,a,153)) w:=by kernel_rfl
theorem Gp(w:World):(Rtype.directlyAssignable 216 216).run prog w = .ok true w:=by kernel_rfl
theorem Md:Xu 216 (λx=>∃k,x = .int .i64 k) where
 held:=λx w h=>by obtain⟨k,rfl⟩:=h;kernel_rfl
 set:=λd b x old W h hb c a=>by
  obtain⟨k,rfl⟩:=h
  delta ReflectliteValue.set
  rw[JQ];simp only[vS,PY,Re,Result.andThen];simp[ReflectliteValue.flagAddr,loadVar,isAgg,Tryz.sizeOf216,loadCells,loadCellsFrom,hb,Result.andThen,Gp,storeVar,Value.cells,storeCells,Addr.add];rw[Zk prog W d _ _ (by rfl)];simp[c,a]
theorem Z4:yX 129:=
 ⟨λv w=>by kernel_rfl,
  λv a w=>jd underlying298 (by kernel_rfl) (by kernel_rfl) v a w,
  λv a w=>jd underlying291 (by kernel_rfl) (by kernel_rfl) v a w,
  λv a w=>jd underlying294 (by kernel_rfl) (by kernel_rfl) v a w,
  by decide⟩
theorem QG:uu 129:=λv a w=>jd underlying293 (by kernel_rfl) (by kernel_rfl) v a w
theorem mR:Assign 129 145 false:=λw=>by kernel_rfl
theorem mP:Assign 129 146 false:=λw=>by kernel_rfl
theorem mU:Assign 129 147 false:=λw=>by kernel_rfl
theorem mQ:Assign 129 216 false:=λw=>by kernel_rfl
theorem Eo:Assign 129 129 true:=λw=>by kernel_rfl
theorem Ep:Assign 129 143 false:=λw=>by kernel_rfl
theorem Af(a:Addr)(w:World):(ReflectliteValue.parts (.agg #[.pointer (some ⟨7,355,none⟩),.pointer (some a),.int .u64 150])).run prog w = .ok (some (355,a,150)) w:=by kernel_rfl
theorem Hg(w:World):(Rtype.elem? 355).run prog w = .ok (some 129) w:=by kernel_rfl
theorem Oo(p:Addr)(w:World):(ReflectliteValue.mk 129 p ReflectliteValue.flagAddr).run prog w = .ok (.agg #[.pointer (some ⟨7,129,none⟩),.pointer (some p),.int .u64 409]) w:=by kernel_rfl
theorem iQ:kg 129 355 where
 unpack:=λt w=>by kernel_rfl
 type:=λa w=>by kernel_rfl
 kindP:=λw=>by kernel_rfl
 kind:=λw=>by kernel_rfl
 isNil:=λa p W b=>by
  delta ReflectliteValue.method
  rw[Z0];simp only[vS,Af,Result.andThen];simp[ReflectliteValue.isNil,loadVar,isAgg,underlying,underlying355,b,Result.andThen]
 elem:=λw=>by kernel_rfl
 impl:=λw=>by kernel_rfl
 elemV:=λa p W b=>by
  delta ReflectliteValue.method
  rw[Z0];simp only[vS,Af,Result.andThen];simp[ReflectliteValue.elem,loadVar,isAgg,underlying,underlying355,b,Result.andThen,Hg,Oo]
theorem PZ(a:Addr)(w:World):(ReflectliteValue.parts (.agg #[.pointer (some ⟨7,129,none⟩),.pointer (some a),.int .u64 409])).run prog w = .ok (some (129,a,409)) w:=by kernel_rfl
theorem Rf(a:Addr)(w:World):(ReflectliteValue.parts (.agg #[.pointer (some ⟨7,129,none⟩),.pointer (some a),.int .u64 153])).run prog w = .ok (some (129,a,153)) w:=by kernel_rfl
theorem Gq(w:World):(Rtype.directlyAssignable 129 129).run prog w = .ok true w:=by kernel_rfl
theorem Me:Xu 129 (λx=>∃s,x = .string s) where
 held:=λx w h=>by obtain⟨k,rfl⟩:=h;kernel_rfl
 set:=λd b x old W h hb c a=>by
  obtain⟨k,rfl⟩:=h
  delta ReflectliteValue.set
  rw[JQ];simp only[vS,PZ,Rf,Result.andThen];simp[ReflectliteValue.flagAddr,loadVar,isAgg,Tryz.sizeOf129,loadCells,loadCellsFrom,hb,Result.andThen,Gq,storeVar,Value.cells,storeCells,Addr.add];rw[Zk prog W d _ _ (by rfl)];simp[c,a]
theorem JS:yX 143:=
 ⟨λv w=>by kernel_rfl,
  λv a w=>jd underlying298 (by kernel_rfl) (by kernel_rfl) v a w,
  λv a w=>jd underlying291 (by kernel_rfl) (by kernel_rfl) v a w,
  λv a w=>jd underlying294 (by kernel_rfl) (by kernel_rfl) v a w,
  by decide⟩
theorem mY:Assign 143 145 false:=λw=>by kernel_rfl
theorem mV:Assign 143 146 false:=λw=>by kernel_rfl
theorem mZ:Assign 143 147 false:=λw=>by kernel_rfl
theorem mW:Assign 143 216 false:=λw=>by kernel_rfl
theorem mX:Assign 143 143 true:=λw=>by kernel_rfl
theorem Ag(a:Addr)(w:World):(ReflectliteValue.parts (.agg #[.pointer (some ⟨7,217,none⟩),.pointer (some a),.int .u64 150])).run prog w = .ok (some (217,a,150)) w:=by kernel_rfl
theorem Hl(w:World):(Rtype.elem? 217).run prog w = .ok (some 143) w:=by kernel_rfl
theorem Oq(p:Addr)(w:World):(ReflectliteValue.mk 143 p ReflectliteValue.flagAddr).run prog w = .ok (.agg #[.pointer (some ⟨7,143,none⟩),.pointer (some p),.int .u64 409]) w:=by kernel_rfl
theorem Uo:kg 143 217 where
 unpack:=λt w=>by kernel_rfl
 type:=λa w=>by kernel_rfl
 kindP:=λw=>by kernel_rfl
 kind:=λw=>by kernel_rfl
 isNil:=λa p W b=>by
  delta ReflectliteValue.method
  rw[Z0];simp only[vS,Ag,Result.andThen];simp[ReflectliteValue.isNil,loadVar,isAgg,underlying,underlying217,b,Result.andThen]
 elem:=λw=>by kernel_rfl
 impl:=λw=>by kernel_rfl
 elemV:=λa p W b=>by
  delta ReflectliteValue.method
  rw[Z0];simp only[vS,Ag,Result.andThen];simp[ReflectliteValue.elem,loadVar,isAgg,underlying,underlying217,b,Result.andThen,Hl,Oq]
end Go.Proofs.YtagnlbgbnfnapaaGreatDoor
