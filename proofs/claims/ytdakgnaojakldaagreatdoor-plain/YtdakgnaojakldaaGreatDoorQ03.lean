/- P -/
import Derived.Test.YtdakgnaojakldaaGreatDoorQ02
open Go.Proofs.Tryz
set_option maxRecDepth 100000
namespace Go.Proofs.YtdakgnaojakldaaGreatDoor
open Go.RowKit Go.Extern.Stop Go.Stop Go.Extern
theorem mX:yO 140:=
 ⟨λv w=>by kernel_rfl,
  λv a w=>run_typeAssert_lacksB underlying292 (by kernel_rfl) (by kernel_rfl) v a w,
  λv a w=>run_typeAssert_lacksB underlying285 (by kernel_rfl) (by kernel_rfl) v a w,
  λv a w=>run_typeAssert_lacksB underlying288 (by kernel_rfl) (by kernel_rfl) v a w,
  by decide⟩
theorem Oc:vS 140:=λv a w=>run_typeAssert_lacksB underlying287 (by kernel_rfl) (by kernel_rfl) v a w
theorem Cx:Assign 140 140 true:=λw=>by kernel_rfl
theorem sD(a:Addr)(w:World):(ReflectliteValue.parts (.agg #[.pointer (some ⟨7,145,none⟩),.pointer (some a),.int .u64 150])).run prog w = .ok (some (145,a,150)) w:=by kernel_rfl
theorem FK(w:World):(Rtype.elem? 145).run prog w = .ok (some 140) w:=by kernel_rfl
theorem NJ(p:Addr)(w:World):(ReflectliteValue.mk 140 p ReflectliteValue.flagAddr).run prog w = .ok (.agg #[.pointer (some ⟨7,140,none⟩),.pointer (some p),.int .u64 409]) w:=by kernel_rfl
theorem JV:uu 140 145 where
 unpack:=λt w=>by kernel_rfl
 type:=λa w=>by kernel_rfl
 kindP:=λw=>by kernel_rfl
 kind:=λw=>by kernel_rfl
 isNil:=λa p W b=>by
  delta ReflectliteValue.method
  rw[Zv];simp only[vk,sD,Result.andThen];simp[ReflectliteValue.isNil,loadVar,isAgg,underlying,underlying145,b,Result.andThen]
 elem:=λw=>by kernel_rfl
 impl:=λw=>by kernel_rfl
 elemV:=λa p W b=>by
  delta ReflectliteValue.method
  rw[Zv];simp only[vk,sD,Result.andThen];simp[ReflectliteValue.elem,loadVar,isAgg,underlying,underlying145,b,Result.andThen,FK,NJ]
theorem Pi(a:Addr)(w:World):(ReflectliteValue.parts (.agg #[.pointer (some ⟨7,140,none⟩),.pointer (some a),.int .u64 409])).run prog w = .ok (some (140,a,409)) w:=by kernel_rfl
theorem Po(a:Addr)(w:World):(ReflectliteValue.parts (.agg #[.pointer (some ⟨7,140,none⟩),.pointer (some a),.int .u64 153])).run prog w = .ok (some (140,a,153)) w:=by kernel_rfl
theorem ET(w:World):(Rtype.directlyAssignable 140 140).run prog w = .ok true w:=by kernel_rfl
theorem Iq:QU 140 (λx=>∃k,x = .int .i64 k) where
 held:=λx w h=>by obtain⟨k,rfl⟩:=h;kernel_rfl
 set:=λd b x old W h hb c a=>by
  obtain⟨k,rfl⟩:=h
  delta ReflectliteValue.set
  rw[Jl];simp only[vk,Pi,Po,Result.andThen];simp[ReflectliteValue.flagAddr,loadVar,isAgg,Tryz.sizeOf140,loadCells,loadCellsFrom,hb,Result.andThen,ET,storeVar,Value.cells,storeCells,Addr.add];rw[kE prog W d _ _ (by rfl)];simp[c,a]
theorem aY:yO 141:=
 ⟨λv w=>by kernel_rfl,
  λv a w=>run_typeAssert_lacksB underlying292 (by kernel_rfl) (by kernel_rfl) v a w,
  λv a w=>run_typeAssert_lacksB underlying285 (by kernel_rfl) (by kernel_rfl) v a w,
  λv a w=>run_typeAssert_lacksB underlying288 (by kernel_rfl) (by kernel_rfl) v a w,
  by decide⟩
theorem pY:vS 141:=λv a w=>run_typeAssert_lacksB underlying287 (by kernel_rfl) (by kernel_rfl) v a w
theorem Co:Assign 141 140 false:=λw=>by kernel_rfl
theorem Cn:Assign 141 141 true:=λw=>by kernel_rfl
theorem si(a:Addr)(w:World):(ReflectliteValue.parts (.agg #[.pointer (some ⟨7,146,none⟩),.pointer (some a),.int .u64 150])).run prog w = .ok (some (146,a,150)) w:=by kernel_rfl
theorem FE(w:World):(Rtype.elem? 146).run prog w = .ok (some 141) w:=by kernel_rfl
theorem NF(p:Addr)(w:World):(ReflectliteValue.mk 141 p ReflectliteValue.flagAddr).run prog w = .ok (.agg #[.pointer (some ⟨7,141,none⟩),.pointer (some p),.int .u64 409]) w:=by kernel_rfl
theorem VU:uu 141 146 where
 unpack:=λt w=>by kernel_rfl
 type:=λa w=>by kernel_rfl
 kindP:=λw=>by kernel_rfl
 kind:=λw=>by kernel_rfl
 isNil:=λa p W b=>by
  delta ReflectliteValue.method
  rw[Zv];simp only[vk,si,Result.andThen];simp[ReflectliteValue.isNil,loadVar,isAgg,underlying,underlying146,b,Result.andThen]
 elem:=λw=>by kernel_rfl
 impl:=λw=>by kernel_rfl
 elemV:=λa p W b=>by
  delta ReflectliteValue.method
  rw[Zv];simp only[vk,si,Result.andThen];simp[ReflectliteValue.elem,loadVar,isAgg,underlying,underlying146,b,Result.andThen,FE,NF]
theorem Pe(a:Addr)(w:World):(ReflectliteValue.parts (.agg #[.pointer (some ⟨7,141,none⟩),.pointer (some a),.int .u64 409])).run prog w = .ok (some (141,a,409)) w:=by kernel_rfl
theorem Pk(a:Addr)(w:World):(ReflectliteValue.parts (.agg #[.pointer (some ⟨7,141,none⟩),.pointer (some a),.int .u64 153])).run prog w = .ok (some (141,a,153)) w:=by kernel_rfl
theorem EP(w:World):(Rtype.directlyAssignable 141 141).run prog w = .ok true w:=by kernel_rfl
theorem Im:QU 141 (λx=>∃k,x = .int .i64 k) where
 held:=λx w h=>by obtain⟨k,rfl⟩:=h;kernel_rfl
 set:=λd b x old W h hb c a=>by
  obtain⟨k,rfl⟩:=h
  delta ReflectliteValue.set
  rw[Jl];simp only[vk,Pe,Pk,Result.andThen];simp[ReflectliteValue.flagAddr,loadVar,isAgg,Tryz.sizeOf141,loadCells,loadCellsFrom,hb,Result.andThen,EP,storeVar,Value.cells,storeCells,Addr.add];rw[kE prog W d _ _ (by rfl)];simp[c,a]
theorem UE:yO 142:=
 ⟨λv w=>by kernel_rfl,
  λv a w=>run_typeAssert_lacksB underlying292 (by kernel_rfl) (by kernel_rfl) v a w,
  λv a w=>run_typeAssert_lacksB underlying285 (by kernel_rfl) (by kernel_rfl) v a w,
  λv a w=>run_typeAssert_lacksB underlying288 (by kernel_rfl) (by kernel_rfl) v a w,
  by decide⟩
theorem dB:vS 142:=λv a w=>run_typeAssert_lacksB underlying287 (by kernel_rfl) (by kernel_rfl) v a w
theorem Cz:Assign 142 140 false:=λw=>by kernel_rfl
theorem Cy:Assign 142 141 false:=λw=>by kernel_rfl
theorem CV:Assign 142 142 true:=λw=>by kernel_rfl
theorem sF(a:Addr)(w:World):(ReflectliteValue.parts (.agg #[.pointer (some ⟨7,147,none⟩),.pointer (some a),.int .u64 150])).run prog w = .ok (some (147,a,150)) w:=by kernel_rfl
theorem FL(w:World):(Rtype.elem? 147).run prog w = .ok (some 142) w:=by kernel_rfl
theorem NK(p:Addr)(w:World):(ReflectliteValue.mk 142 p ReflectliteValue.flagAddr).run prog w = .ok (.agg #[.pointer (some ⟨7,142,none⟩),.pointer (some p),.int .u64 409]) w:=by kernel_rfl
theorem Kz:uu 142 147 where
 unpack:=λt w=>by kernel_rfl
 type:=λa w=>by kernel_rfl
 kindP:=λw=>by kernel_rfl
 kind:=λw=>by kernel_rfl
 isNil:=λa p W b=>by
  delta ReflectliteValue.method
  rw[Zv];simp only[vk,sF,Result.andThen];simp[ReflectliteValue.isNil,loadVar,isAgg,underlying,underlying147,b,Result.andThen]
 elem:=λw=>by kernel_rfl
 impl:=λw=>by kernel_rfl
 elemV:=λa p W b=>by
  delta ReflectliteValue.method
  rw[Zv];simp only[vk,sF,Result.andThen];simp[ReflectliteValue.elem,loadVar,isAgg,underlying,underlying147,b,Result.andThen,FL,NK]
theorem Pj(a:Addr)(w:World):(ReflectliteValue.parts (.agg #[.pointer (some ⟨7,142,none⟩),.pointer (some a),.int .u64 409])).run prog w = .ok (some (142,a,409)) w:=by kernel_rfl
theorem Pp(a:Addr)(w:World):(ReflectliteValue.parts (.agg #[.pointer (some ⟨7,142,none⟩),.pointer (some a),.int .u64 153])).run prog w = .ok (some (142,a,153)) w:=by kernel_rfl
theorem EU(w:World):(Rtype.directlyAssignable 142 142).run prog w = .ok true w:=by kernel_rfl
theorem Ir:QU 142 (λx=>∃k,x = .int .i64 k) where
 held:=λx w h=>by obtain⟨k,rfl⟩:=h;kernel_rfl
 set:=λd b x old W h hb c a=>by
  obtain⟨k,rfl⟩:=h
  delta ReflectliteValue.set
  rw[Jl];simp only[vk,Pj,Pp,Result.andThen];simp[ReflectliteValue.flagAddr,loadVar,isAgg,Tryz.sizeOf142,loadCells,loadCellsFrom,hb,Result.andThen,EU,storeVar,Value.cells,storeCells,Addr.add];rw[kE prog W d _ _ (by rfl)];simp[c,a]
theorem Jm:yO 228:=
 ⟨λv w=>by kernel_rfl,
  λv a w=>run_typeAssert_lacksB underlying292 (by kernel_rfl) (by kernel_rfl) v a w,
  λv a w=>run_typeAssert_lacksB underlying285 (by kernel_rfl) (by kernel_rfl) v a w,
  λv a w=>run_typeAssert_lacksB underlying288 (by kernel_rfl) (by kernel_rfl) v a w,
  by decide⟩
theorem VA:vS 228:=λv a w=>run_typeAssert_lacksB underlying287 (by kernel_rfl) (by kernel_rfl) v a w
theorem Ct:Assign 228 140 false:=λw=>by kernel_rfl
theorem Cq:Assign 228 141 false:=λw=>by kernel_rfl
theorem Cu:Assign 228 142 false:=λw=>by kernel_rfl
theorem Cr:Assign 228 228 true:=λw=>by kernel_rfl
theorem Cs:Assign 228 125 false:=λw=>by kernel_rfl
theorem sj(a:Addr)(w:World):(ReflectliteValue.parts (.agg #[.pointer (some ⟨7,230,none⟩),.pointer (some a),.int .u64 150])).run prog w = .ok (some (230,a,150)) w:=by kernel_rfl
theorem FH(w:World):(Rtype.elem? 230).run prog w = .ok (some 228) w:=by kernel_rfl
theorem NG(p:Addr)(w:World):(ReflectliteValue.mk 228 p ReflectliteValue.flagAddr).run prog w = .ok (.agg #[.pointer (some ⟨7,228,none⟩),.pointer (some p),.int .u64 409]) w:=by kernel_rfl
theorem gq:uu 228 230 where
 unpack:=λt w=>by kernel_rfl
 type:=λa w=>by kernel_rfl
 kindP:=λw=>by kernel_rfl
 kind:=λw=>by kernel_rfl
 isNil:=λa p W b=>by
  delta ReflectliteValue.method
  rw[Zv];simp only[vk,sj,Result.andThen];simp[ReflectliteValue.isNil,loadVar,isAgg,underlying,underlying230,b,Result.andThen]
 elem:=λw=>by kernel_rfl
 impl:=λw=>by kernel_rfl
 elemV:=λa p W b=>by
  delta ReflectliteValue.method
  rw[Zv];simp only[vk,sj,Result.andThen];simp[ReflectliteValue.elem,loadVar,isAgg,underlying,underlying230,b,Result.andThen,FH,NG]
theorem Pf(a:Addr)(w:World):(ReflectliteValue.parts (.agg #[.pointer (some ⟨7,228,none⟩),.pointer (some a),.int .u64 409])).run prog w = .ok (some (228,a,409)) w:=by kernel_rfl
theorem Pm(a:Addr)(w:World):(ReflectliteValue.parts (.agg #[.pointer (some ⟨7,228,none⟩),.pointer (some a),.int .u64 153])).run prog w = .ok (some (228,a,153)) w:=by kernel_rfl
theorem EQ(w:World):(Rtype.directlyAssignable 228 228).run prog w = .ok true w:=by kernel_rfl
theorem Io:QU 228 (λx=>∃k,x = .int .i64 k) where
 held:=λx w h=>by obtain⟨k,rfl⟩:=h;kernel_rfl
 set:=λd b x old W h hb c a=>by
  obtain⟨k,rfl⟩:=h
  delta ReflectliteValue.set
  rw[Jl];simp only[vk,Pf,Pm,Result.andThen];simp[ReflectliteValue.flagAddr,loadVar,isAgg,Tryz.sizeOf228,loadCells,loadCellsFrom,hb,Result.andThen,EQ,storeVar,Value.cells,storeCells,Addr.add];rw[kE prog W d _ _ (by rfl)];simp[c,a]
theorem Zw:yO 125:=
 ⟨λv w=>by kernel_rfl,
  λv a w=>run_typeAssert_lacksB underlying292 (by kernel_rfl) (by kernel_rfl) v a w,
  λv a w=>run_typeAssert_lacksB underlying285 (by kernel_rfl) (by kernel_rfl) v a w,
  λv a w=>run_typeAssert_lacksB underlying288 (by kernel_rfl) (by kernel_rfl) v a w,
  by decide⟩
theorem Z7:vS 125:=λv a w=>run_typeAssert_lacksB underlying287 (by kernel_rfl) (by kernel_rfl) v a w
theorem iG:Assign 125 140 false:=λw=>by kernel_rfl
theorem iE:Assign 125 141 false:=λw=>by kernel_rfl
theorem iH:Assign 125 142 false:=λw=>by kernel_rfl
theorem iF:Assign 125 228 false:=λw=>by kernel_rfl
theorem Cv:Assign 125 125 true:=λw=>by kernel_rfl
theorem Cw:Assign 125 138 false:=λw=>by kernel_rfl
theorem su(a:Addr)(w:World):(ReflectliteValue.parts (.agg #[.pointer (some ⟨7,347,none⟩),.pointer (some a),.int .u64 150])).run prog w = .ok (some (347,a,150)) w:=by kernel_rfl
theorem FI(w:World):(Rtype.elem? 347).run prog w = .ok (some 125) w:=by kernel_rfl
theorem NH(p:Addr)(w:World):(ReflectliteValue.mk 125 p ReflectliteValue.flagAddr).run prog w = .ok (.agg #[.pointer (some ⟨7,125,none⟩),.pointer (some p),.int .u64 409]) w:=by kernel_rfl
theorem gu:uu 125 347 where
 unpack:=λt w=>by kernel_rfl
 type:=λa w=>by kernel_rfl
 kindP:=λw=>by kernel_rfl
 kind:=λw=>by kernel_rfl
 isNil:=λa p W b=>by
  delta ReflectliteValue.method
  rw[Zv];simp only[vk,su,Result.andThen];simp[ReflectliteValue.isNil,loadVar,isAgg,underlying,underlying347,b,Result.andThen]
 elem:=λw=>by kernel_rfl
 impl:=λw=>by kernel_rfl
 elemV:=λa p W b=>by
  delta ReflectliteValue.method
  rw[Zv];simp only[vk,su,Result.andThen];simp[ReflectliteValue.elem,loadVar,isAgg,underlying,underlying347,b,Result.andThen,FI,NH]
theorem Ph(a:Addr)(w:World):(ReflectliteValue.parts (.agg #[.pointer (some ⟨7,125,none⟩),.pointer (some a),.int .u64 409])).run prog w = .ok (some (125,a,409)) w:=by kernel_rfl
theorem Pn(a:Addr)(w:World):(ReflectliteValue.parts (.agg #[.pointer (some ⟨7,125,none⟩),.pointer (some a),.int .u64 153])).run prog w = .ok (some (125,a,153)) w:=by kernel_rfl
theorem ER(w:World):(Rtype.directlyAssignable 125 125).run prog w = .ok true w:=by kernel_rfl
theorem Ip:QU 125 (λx=>∃s,x = .string s) where
 held:=λx w h=>by obtain⟨k,rfl⟩:=h;kernel_rfl
 set:=λd b x old W h hb c a=>by
  obtain⟨k,rfl⟩:=h
  delta ReflectliteValue.set
  rw[Jl];simp only[vk,Ph,Pn,Result.andThen];simp[ReflectliteValue.flagAddr,loadVar,isAgg,Tryz.sizeOf125,loadCells,loadCellsFrom,hb,Result.andThen,ER,storeVar,Value.cells,storeCells,Addr.add];rw[kE prog W d _ _ (by rfl)];simp[c,a]
theorem Jn:yO 138:=
 ⟨λv w=>by kernel_rfl,
  λv a w=>run_typeAssert_lacksB underlying292 (by kernel_rfl) (by kernel_rfl) v a w,
  λv a w=>run_typeAssert_lacksB underlying285 (by kernel_rfl) (by kernel_rfl) v a w,
  λv a w=>run_typeAssert_lacksB underlying288 (by kernel_rfl) (by kernel_rfl) v a w,
  by decide⟩
theorem iL:Assign 138 140 false:=λw=>by kernel_rfl
theorem iI:Assign 138 141 false:=λw=>by kernel_rfl
theorem iM:Assign 138 142 false:=λw=>by kernel_rfl
theorem iJ:Assign 138 228 false:=λw=>by kernel_rfl
theorem iK:Assign 138 138 true:=λw=>by kernel_rfl
theorem sw(a:Addr)(w:World):(ReflectliteValue.parts (.agg #[.pointer (some ⟨7,229,none⟩),.pointer (some a),.int .u64 150])).run prog w = .ok (some (229,a,150)) w:=by kernel_rfl
theorem FJ(w:World):(Rtype.elem? 229).run prog w = .ok (some 138) w:=by kernel_rfl
theorem NI(p:Addr)(w:World):(ReflectliteValue.mk 138 p ReflectliteValue.flagAddr).run prog w = .ok (.agg #[.pointer (some ⟨7,138,none⟩),.pointer (some p),.int .u64 409]) w:=by kernel_rfl
theorem VV:uu 138 229 where
 unpack:=λt w=>by kernel_rfl
 type:=λa w=>by kernel_rfl
 kindP:=λw=>by kernel_rfl
 kind:=λw=>by kernel_rfl
 isNil:=λa p W b=>by
  delta ReflectliteValue.method
  rw[Zv];simp only[vk,sw,Result.andThen];simp[ReflectliteValue.isNil,loadVar,isAgg,underlying,underlying229,b,Result.andThen]
 elem:=λw=>by kernel_rfl
 impl:=λw=>by kernel_rfl
 elemV:=λa p W b=>by
  delta ReflectliteValue.method
  rw[Zv];simp only[vk,sw,Result.andThen];simp[ReflectliteValue.elem,loadVar,isAgg,underlying,underlying229,b,Result.andThen,FJ,NI]
end Go.Proofs.YtdakgnaojakldaaGreatDoor
