/- P -/
import Derived.Test.YtdakgnaojakldaaGreatDoorF01
import Derived.Shelf.Abstract
open Go.Proofs.Tryz
set_option maxRecDepth 100000
set_option maxHeartbeats 400000
namespace Go.Proofs.YtdakgnaojakldaaGreatDoor
open Go.RowKit Go.Extern.Stop Go.Stop Go.Extern
theorem fq:yg 140:=
 ⟨λv w=>by kernel_rfl,
  λv a w=>run_typeAssert_lacksB underlying292 (by kernel_rfl) (by kernel_rfl) v a w,
  λv a w=>run_typeAssert_lacksB underlying285 (by kernel_rfl) (by kernel_rfl) v a w,
  λv a w=>run_typeAssert_lacksB underlying288 (by kernel_rfl) (by kernel_rfl) v a w,
  by decide⟩
theorem Lh:jH 140:=λv a w=>run_typeAssert_lacksB underlying287 (by kernel_rfl) (by kernel_rfl) v a w
theorem tV:Assign 140 140 true:=λw=>by kernel_rfl
theorem mD(a:Addr)(w:World):(ReflectliteValue.parts (.agg #[.pointer (some ⟨7,145,none⟩),.pointer (some a),.int .u64 150])).run prog w = .ok (some (145,a,150)) w:=by kernel_rfl
theorem Cm(w:World):(Rtype.elem? 145).run prog w = .ok (some 140) w:=by kernel_rfl
theorem IR(p:Addr)(w:World):(ReflectliteValue.mk 140 p ReflectliteValue.flagAddr).run prog w = .ok (.agg #[.pointer (some ⟨7,140,none⟩),.pointer (some p),.int .u64 409]) w:=by kernel_rfl
theorem Yq:vQ 140 145 where
 unpack:=λt w=>by kernel_rfl
 type:=λa w=>by kernel_rfl
 kindP:=λw=>by kernel_rfl
 kind:=λw=>by kernel_rfl
 isNil:=λa p W b=>by
  delta ReflectliteValue.method
  rw[uU];simp only[Sem.run_bind,mD,Result.andThen];simp[ReflectliteValue.isNil,loadVar,isAgg,underlying,underlying145,b,Result.andThen]
 elem:=λw=>by kernel_rfl
 impl:=λw=>by kernel_rfl
 elemV:=λa p W b=>by
  delta ReflectliteValue.method
  rw[uU];simp only[Sem.run_bind,mD,Result.andThen];simp[ReflectliteValue.elem,loadVar,isAgg,underlying,underlying145,b,Result.andThen,Cm,IR]
theorem MC(a:Addr)(w:World):(ReflectliteValue.parts (.agg #[.pointer (some ⟨7,140,none⟩),.pointer (some a),.int .u64 409])).run prog w = .ok (some (140,a,409)) w:=by kernel_rfl
theorem MI(a:Addr)(w:World):(ReflectliteValue.parts (.agg #[.pointer (some ⟨7,140,none⟩),.pointer (some a),.int .u64 153])).run prog w = .ok (some (140,a,153)) w:=by kernel_rfl
theorem Bz(w:World):(Rtype.directlyAssignable 140 140).run prog w = .ok true w:=by kernel_rfl
theorem ER:ZR 140 (λx=>∃k,x = .int .i64 k) where
 held:=λx w h=>by obtain⟨k,rfl⟩:=h;kernel_rfl
 set:=λd b x old W h hb c a=>by
  obtain⟨k,rfl⟩:=h
  delta ReflectliteValue.set
  rw[XU];simp only[Sem.run_bind,MC,MI,Result.andThen];simp[ReflectliteValue.flagAddr,loadVar,isAgg,Tryz.sizeOf140,loadCells,loadCellsFrom,hb,Result.andThen,Bz,storeVar,Value.cells,storeCells,Addr.add];rw[run_store prog W d _ _ (by rfl)];simp[c,a]
theorem UJ:yg 141:=
 ⟨λv w=>by kernel_rfl,
  λv a w=>run_typeAssert_lacksB underlying292 (by kernel_rfl) (by kernel_rfl) v a w,
  λv a w=>run_typeAssert_lacksB underlying285 (by kernel_rfl) (by kernel_rfl) v a w,
  λv a w=>run_typeAssert_lacksB underlying288 (by kernel_rfl) (by kernel_rfl) v a w,
  by decide⟩
theorem iZ:jH 141:=λv a w=>run_typeAssert_lacksB underlying287 (by kernel_rfl) (by kernel_rfl) v a w
theorem tu:Assign 141 140 false:=λw=>by kernel_rfl
theorem tq:Assign 141 141 true:=λw=>by kernel_rfl
theorem mi(a:Addr)(w:World):(ReflectliteValue.parts (.agg #[.pointer (some ⟨7,146,none⟩),.pointer (some a),.int .u64 150])).run prog w = .ok (some (146,a,150)) w:=by kernel_rfl
theorem Ch(w:World):(Rtype.elem? 146).run prog w = .ok (some 141) w:=by kernel_rfl
theorem IL(p:Addr)(w:World):(ReflectliteValue.mk 141 p ReflectliteValue.flagAddr).run prog w = .ok (.agg #[.pointer (some ⟨7,141,none⟩),.pointer (some p),.int .u64 409]) w:=by kernel_rfl
theorem Jq:vQ 141 146 where
 unpack:=λt w=>by kernel_rfl
 type:=λa w=>by kernel_rfl
 kindP:=λw=>by kernel_rfl
 kind:=λw=>by kernel_rfl
 isNil:=λa p W b=>by
  delta ReflectliteValue.method
  rw[uU];simp only[Sem.run_bind,mi,Result.andThen];simp[ReflectliteValue.isNil,loadVar,isAgg,underlying,underlying146,b,Result.andThen]
 elem:=λw=>by kernel_rfl
 impl:=λw=>by kernel_rfl
 elemV:=λa p W b=>by
  delta ReflectliteValue.method
  rw[uU];simp only[Sem.run_bind,mi,Result.andThen];simp[ReflectliteValue.elem,loadVar,isAgg,underlying,underlying146,b,Result.andThen,Ch,IL]
theorem Mw(a:Addr)(w:World):(ReflectliteValue.parts (.agg #[.pointer (some ⟨7,141,none⟩),.pointer (some a),.int .u64 409])).run prog w = .ok (some (141,a,409)) w:=by kernel_rfl
theorem MF(a:Addr)(w:World):(ReflectliteValue.parts (.agg #[.pointer (some ⟨7,141,none⟩),.pointer (some a),.int .u64 153])).run prog w = .ok (some (141,a,153)) w:=by kernel_rfl
theorem Bu(w:World):(Rtype.directlyAssignable 141 141).run prog w = .ok true w:=by kernel_rfl
theorem EO:ZR 141 (λx=>∃k,x = .int .i64 k) where
 held:=λx w h=>by obtain⟨k,rfl⟩:=h;kernel_rfl
 set:=λd b x old W h hb c a=>by
  obtain⟨k,rfl⟩:=h
  delta ReflectliteValue.set
  rw[XU];simp only[Sem.run_bind,Mw,MF,Result.andThen];simp[ReflectliteValue.flagAddr,loadVar,isAgg,Tryz.sizeOf141,loadCells,loadCellsFrom,hb,Result.andThen,Bu,storeVar,Value.cells,storeCells,Addr.add];rw[run_store prog W d _ _ (by rfl)];simp[c,a]
theorem JX:yg 142:=
 ⟨λv w=>by kernel_rfl,
  λv a w=>run_typeAssert_lacksB underlying292 (by kernel_rfl) (by kernel_rfl) v a w,
  λv a w=>run_typeAssert_lacksB underlying285 (by kernel_rfl) (by kernel_rfl) v a w,
  λv a w=>run_typeAssert_lacksB underlying288 (by kernel_rfl) (by kernel_rfl) v a w,
  by decide⟩
theorem Kt:jH 142:=λv a w=>run_typeAssert_lacksB underlying287 (by kernel_rfl) (by kernel_rfl) v a w
theorem tY:Assign 142 140 false:=λw=>by kernel_rfl
theorem tX:Assign 142 141 false:=λw=>by kernel_rfl
theorem tZ:Assign 142 142 true:=λw=>by kernel_rfl
theorem mF(a:Addr)(w:World):(ReflectliteValue.parts (.agg #[.pointer (some ⟨7,147,none⟩),.pointer (some a),.int .u64 150])).run prog w = .ok (some (147,a,150)) w:=by kernel_rfl
theorem Cn(w:World):(Rtype.elem? 147).run prog w = .ok (some 142) w:=by kernel_rfl
theorem IU(p:Addr)(w:World):(ReflectliteValue.mk 142 p ReflectliteValue.flagAddr).run prog w = .ok (.agg #[.pointer (some ⟨7,142,none⟩),.pointer (some p),.int .u64 409]) w:=by kernel_rfl
theorem VP:vQ 142 147 where
 unpack:=λt w=>by kernel_rfl
 type:=λa w=>by kernel_rfl
 kindP:=λw=>by kernel_rfl
 kind:=λw=>by kernel_rfl
 isNil:=λa p W b=>by
  delta ReflectliteValue.method
  rw[uU];simp only[Sem.run_bind,mF,Result.andThen];simp[ReflectliteValue.isNil,loadVar,isAgg,underlying,underlying147,b,Result.andThen]
 elem:=λw=>by kernel_rfl
 impl:=λw=>by kernel_rfl
 elemV:=λa p W b=>by
  delta ReflectliteValue.method
  rw[uU];simp only[Sem.run_bind,mF,Result.andThen];simp[ReflectliteValue.elem,loadVar,isAgg,underlying,underlying147,b,Result.andThen,Cn,IU]
theorem ME(a:Addr)(w:World):(ReflectliteValue.parts (.agg #[.pointer (some ⟨7,142,none⟩),.pointer (some a),.int .u64 409])).run prog w = .ok (some (142,a,409)) w:=by kernel_rfl
theorem MJ(a:Addr)(w:World):(ReflectliteValue.parts (.agg #[.pointer (some ⟨7,142,none⟩),.pointer (some a),.int .u64 153])).run prog w = .ok (some (142,a,153)) w:=by kernel_rfl
theorem BC(w:World):(Rtype.directlyAssignable 142 142).run prog w = .ok true w:=by kernel_rfl
theorem ET:ZR 142 (λx=>∃k,x = .int .i64 k) where
 held:=λx w h=>by obtain⟨k,rfl⟩:=h;kernel_rfl
 set:=λd b x old W h hb c a=>by
  obtain⟨k,rfl⟩:=h
  delta ReflectliteValue.set
  rw[XU];simp only[Sem.run_bind,ME,MJ,Result.andThen];simp[ReflectliteValue.flagAddr,loadVar,isAgg,Tryz.sizeOf142,loadCells,loadCellsFrom,hb,Result.andThen,BC,storeVar,Value.cells,storeCells,Addr.add];rw[run_store prog W d _ _ (by rfl)];simp[c,a]
theorem XV:yg 228:=
 ⟨λv w=>by kernel_rfl,
  λv a w=>run_typeAssert_lacksB underlying292 (by kernel_rfl) (by kernel_rfl) v a w,
  λv a w=>run_typeAssert_lacksB underlying285 (by kernel_rfl) (by kernel_rfl) v a w,
  λv a w=>run_typeAssert_lacksB underlying288 (by kernel_rfl) (by kernel_rfl) v a w,
  by decide⟩
theorem Y4:jH 228:=λv a w=>run_typeAssert_lacksB underlying287 (by kernel_rfl) (by kernel_rfl) v a w
theorem tJ:Assign 228 140 false:=λw=>by kernel_rfl
theorem tC:Assign 228 141 false:=λw=>by kernel_rfl
theorem tK:Assign 228 142 false:=λw=>by kernel_rfl
theorem tF:Assign 228 228 true:=λw=>by kernel_rfl
theorem tH:Assign 228 125 false:=λw=>by kernel_rfl
theorem mo(a:Addr)(w:World):(ReflectliteValue.parts (.agg #[.pointer (some ⟨7,230,none⟩),.pointer (some a),.int .u64 150])).run prog w = .ok (some (230,a,150)) w:=by kernel_rfl
theorem Ci(w:World):(Rtype.elem? 230).run prog w = .ok (some 228) w:=by kernel_rfl
theorem IM(p:Addr)(w:World):(ReflectliteValue.mk 228 p ReflectliteValue.flagAddr).run prog w = .ok (.agg #[.pointer (some ⟨7,228,none⟩),.pointer (some p),.int .u64 409]) w:=by kernel_rfl
theorem aH:vQ 228 230 where
 unpack:=λt w=>by kernel_rfl
 type:=λa w=>by kernel_rfl
 kindP:=λw=>by kernel_rfl
 kind:=λw=>by kernel_rfl
 isNil:=λa p W b=>by
  delta ReflectliteValue.method
  rw[uU];simp only[Sem.run_bind,mo,Result.andThen];simp[ReflectliteValue.isNil,loadVar,isAgg,underlying,underlying230,b,Result.andThen]
 elem:=λw=>by kernel_rfl
 impl:=λw=>by kernel_rfl
 elemV:=λa p W b=>by
  delta ReflectliteValue.method
  rw[uU];simp only[Sem.run_bind,mo,Result.andThen];simp[ReflectliteValue.elem,loadVar,isAgg,underlying,underlying230,b,Result.andThen,Ci,IM]
theorem Mx(a:Addr)(w:World):(ReflectliteValue.parts (.agg #[.pointer (some ⟨7,228,none⟩),.pointer (some a),.int .u64 409])).run prog w = .ok (some (228,a,409)) w:=by kernel_rfl
theorem MG(a:Addr)(w:World):(ReflectliteValue.parts (.agg #[.pointer (some ⟨7,228,none⟩),.pointer (some a),.int .u64 153])).run prog w = .ok (some (228,a,153)) w:=by kernel_rfl
theorem Bv(w:World):(Rtype.directlyAssignable 228 228).run prog w = .ok true w:=by kernel_rfl
theorem EP:ZR 228 (λx=>∃k,x = .int .i64 k) where
 held:=λx w h=>by obtain⟨k,rfl⟩:=h;kernel_rfl
 set:=λd b x old W h hb c a=>by
  obtain⟨k,rfl⟩:=h
  delta ReflectliteValue.set
  rw[XU];simp only[Sem.run_bind,Mx,MG,Result.andThen];simp[ReflectliteValue.flagAddr,loadVar,isAgg,Tryz.sizeOf228,loadCells,loadCellsFrom,hb,Result.andThen,Bv,storeVar,Value.cells,storeCells,Addr.add];rw[run_store prog W d _ _ (by rfl)];simp[c,a]
theorem uW:yg 125:=
 ⟨λv w=>by kernel_rfl,
  λv a w=>run_typeAssert_lacksB underlying292 (by kernel_rfl) (by kernel_rfl) v a w,
  λv a w=>run_typeAssert_lacksB underlying285 (by kernel_rfl) (by kernel_rfl) v a w,
  λv a w=>run_typeAssert_lacksB underlying288 (by kernel_rfl) (by kernel_rfl) v a w,
  by decide⟩
theorem Zc:jH 125:=λv a w=>run_typeAssert_lacksB underlying287 (by kernel_rfl) (by kernel_rfl) v a w
theorem bQ:Assign 125 140 false:=λw=>by kernel_rfl
theorem bO:Assign 125 141 false:=λw=>by kernel_rfl
theorem bR:Assign 125 142 false:=λw=>by kernel_rfl
theorem bP:Assign 125 228 false:=λw=>by kernel_rfl
theorem tN:Assign 125 125 true:=λw=>by kernel_rfl
theorem tQ:Assign 125 138 false:=λw=>by kernel_rfl
theorem mq(a:Addr)(w:World):(ReflectliteValue.parts (.agg #[.pointer (some ⟨7,347,none⟩),.pointer (some a),.int .u64 150])).run prog w = .ok (some (347,a,150)) w:=by kernel_rfl
theorem Cj(w:World):(Rtype.elem? 347).run prog w = .ok (some 125) w:=by kernel_rfl
theorem IP(p:Addr)(w:World):(ReflectliteValue.mk 125 p ReflectliteValue.flagAddr).run prog w = .ok (.agg #[.pointer (some ⟨7,125,none⟩),.pointer (some p),.int .u64 409]) w:=by kernel_rfl
theorem aI:vQ 125 347 where
 unpack:=λt w=>by kernel_rfl
 type:=λa w=>by kernel_rfl
 kindP:=λw=>by kernel_rfl
 kind:=λw=>by kernel_rfl
 isNil:=λa p W b=>by
  delta ReflectliteValue.method
  rw[uU];simp only[Sem.run_bind,mq,Result.andThen];simp[ReflectliteValue.isNil,loadVar,isAgg,underlying,underlying347,b,Result.andThen]
 elem:=λw=>by kernel_rfl
 impl:=λw=>by kernel_rfl
 elemV:=λa p W b=>by
  delta ReflectliteValue.method
  rw[uU];simp only[Sem.run_bind,mq,Result.andThen];simp[ReflectliteValue.elem,loadVar,isAgg,underlying,underlying347,b,Result.andThen,Cj,IP]
theorem MB(a:Addr)(w:World):(ReflectliteValue.parts (.agg #[.pointer (some ⟨7,125,none⟩),.pointer (some a),.int .u64 409])).run prog w = .ok (some (125,a,409)) w:=by kernel_rfl
theorem MH(a:Addr)(w:World):(ReflectliteValue.parts (.agg #[.pointer (some ⟨7,125,none⟩),.pointer (some a),.int .u64 153])).run prog w = .ok (some (125,a,153)) w:=by kernel_rfl
theorem Bw(w:World):(Rtype.directlyAssignable 125 125).run prog w = .ok true w:=by kernel_rfl
theorem EQ:ZR 125 (λx=>∃s,x = .string s) where
 held:=λx w h=>by obtain⟨k,rfl⟩:=h;kernel_rfl
 set:=λd b x old W h hb c a=>by
  obtain⟨k,rfl⟩:=h
  delta ReflectliteValue.set
  rw[XU];simp only[Sem.run_bind,MB,MH,Result.andThen];simp[ReflectliteValue.flagAddr,loadVar,isAgg,Tryz.sizeOf125,loadCells,loadCellsFrom,hb,Result.andThen,Bw,storeVar,Value.cells,storeCells,Addr.add];rw[run_store prog W d _ _ (by rfl)];simp[c,a]
theorem YS:yg 138:=
 ⟨λv w=>by kernel_rfl,
  λv a w=>run_typeAssert_lacksB underlying292 (by kernel_rfl) (by kernel_rfl) v a w,
  λv a w=>run_typeAssert_lacksB underlying285 (by kernel_rfl) (by kernel_rfl) v a w,
  λv a w=>run_typeAssert_lacksB underlying288 (by kernel_rfl) (by kernel_rfl) v a w,
  by decide⟩
theorem bU:Assign 138 140 false:=λw=>by kernel_rfl
theorem bS:Assign 138 141 false:=λw=>by kernel_rfl
theorem bW:Assign 138 142 false:=λw=>by kernel_rfl
theorem bT:Assign 138 228 false:=λw=>by kernel_rfl
theorem tT:Assign 138 138 true:=λw=>by kernel_rfl
theorem mr(a:Addr)(w:World):(ReflectliteValue.parts (.agg #[.pointer (some ⟨7,229,none⟩),.pointer (some a),.int .u64 150])).run prog w = .ok (some (229,a,150)) w:=by kernel_rfl
theorem Ck(w:World):(Rtype.elem? 229).run prog w = .ok (some 138) w:=by kernel_rfl
theorem IQ(p:Addr)(w:World):(ReflectliteValue.mk 138 p ReflectliteValue.flagAddr).run prog w = .ok (.agg #[.pointer (some ⟨7,138,none⟩),.pointer (some p),.int .u64 409]) w:=by kernel_rfl
theorem aJ:vQ 138 229 where
 unpack:=λt w=>by kernel_rfl
 type:=λa w=>by kernel_rfl
 kindP:=λw=>by kernel_rfl
 kind:=λw=>by kernel_rfl
 isNil:=λa p W b=>by
  delta ReflectliteValue.method
  rw[uU];simp only[Sem.run_bind,mr,Result.andThen];simp[ReflectliteValue.isNil,loadVar,isAgg,underlying,underlying229,b,Result.andThen]
 elem:=λw=>by kernel_rfl
 impl:=λw=>by kernel_rfl
 elemV:=λa p W b=>by
  delta ReflectliteValue.method
  rw[uU];simp only[Sem.run_bind,mr,Result.andThen];simp[ReflectliteValue.elem,loadVar,isAgg,underlying,underlying229,b,Result.andThen,Ck,IQ]
end Go.Proofs.YtdakgnaojakldaaGreatDoor
namespace Go.Proofs.YtdakgnaojakldaaGreatDoor
open Go.RowKit
def yK(g:Nat)(b:Array Value)(a:Nat->Value)(n:Nat)(p:Nat->Bool)(w:World):Prop:=
 ∀W j,j<n->Below w.heap.size w W->Calls prog g (#[a j]++b) W λe c=>e = .returned (.bool (p j))/\Below W.heap.size W c
def zn(p:Nat->Bool)(n:Nat):Option Nat:=(List.range n).find? p
def jK(p:Nat->Bool)(n:Nat):Bool:=(List.range n).all p
theorem kW(p:Nat->Bool)(n k:Nat)(b:k<n)(hb:∀j,j<k->p j=false)(h:p k=true):zn p n=some k:=by
 unfold zn;rw[List.find?_range_eq_some];exact⟨h,by simpa using b,λj a=>by simp[hb j a]⟩
theorem kX(p:Nat->Bool)(n:Nat)(hb:∀j,j<n->p j=false):zn p n=none:=by
 unfold zn;rw[List.find?_eq_none];intro j a;simp[hb j (List.mem_range.1 a)]
theorem JA(p:Nat->Bool)(n:Nat):jK p n=(zn (λj=>!p j) n).isNone:=by
 unfold jK zn;rw[Bool.eq_iff_iff]
 simp
theorem J2(n b o cap g:Nat)(r:Array Value)(v:Nat->Int)(p:Nat->Bool)(w:World)(z:n<=1000000000000)(x:∀args w,(callFunc g args).run prog w = .ok (.enter g args) w)
  (t:∀j,j<n->w.cell? ⟨b,o+j,none⟩=some (.int .u8 (v j)))(u:yK g r (λj => .int .u8 (v j)) n p w) :
  Calls prog 223 #[.slice (some ⟨b,o,none⟩) n cap,.func (.func g) #[] r] w λe l=>
   e = .returned (.tuple #[.int .i64 (((zn p n).getD 0:Nat):Int),.bool (zn p n).isSome])/\Below w.heap.size w l:=by
 generalize hF:zn p n=F;have m:=hid hF;clear hF;go_enter func223,ntmps223
 go_wp2
 go_loopw [10] (λi wr=>∃k:Nat,k<=n/\i = .int .i64 k/\(∀j,j<k->p j=false)/\Below w.heap.size w wr) (λi _=>n-(intOf i).toNat)
 case atStart=>exact⟨0,Nat.zero_le _,rfl,λj h=>by omega,Below.refl _ _⟩
 case round=>
  obtain⟨k,y,rfl,hb,c⟩:=hrel;have f:=hid hb;clear hb
  by_cases hlt:k<n
  ·have q:=zb c (t k hlt);have a:=λW hb=>u W k hlt hb;simp only at a
   cases hpp:p k with
   | false=>
    rw[hpp] at a;have s:=hid hpp;clear hpp
    go_wp2_with (go_at_fn g;refine (a _ c).mono ?_;rintro e l ⟨rfl,d⟩)
    refine⟨⟨k+1,by omega,by go_num,λj h=>?_,c.trans (d.mono c.size)⟩,by simp[intOf];omega⟩
    by_cases hj:j=k
    ·subst hj;exact s.out
    ·exact f.out j (by omega)
   | true=>
    rw[hpp] at a;have e:=kW p n k hlt f.out hpp;rw[m.out] at e;subst e;clear hpp
    go_wp2_with (go_at_fn g;refine (a _ c).mono ?_;rintro e l ⟨rfl,d⟩)
    go_ret2;exact⟨rfl,c.trans (d.mono c.size)⟩
  ·have e:=kX p n (λj h=>f.out j (by omega));rw[m.out] at e;subst e
   go_wp2
   go_ret2;exact⟨rfl,c⟩
theorem sH(n b o cap g:Nat)(d:Array Value)(v:Nat->Int)(p:Nat->Bool)(w:World)(k:n<=1000000000000)(h:∀args w,(callFunc g args).run prog w = .ok (.enter g args) w)
  (i:∀j,j<n->w.cell? ⟨b,o+j,none⟩=some (.int .u8 (v j)))(l:yK g d (λj => .int .u8 (v j)) n p w) :
  Calls prog 184 #[.slice (some ⟨b,o,none⟩) n cap,.func (.func g) #[] d] w λe f=>
   e = .returned (.bool (zn p n).isSome)/\Below w.heap.size w f:=by
 have c:=J2 n b o cap g d v p w k h i l;generalize zn p n=F at c;go_enter func184,ntmps184
 go_wp2_with (go_at_call 223;refine c.mono ?_;rintro e f ⟨rfl,a⟩)
 go_ret;exact⟨rfl,a⟩
theorem rT(g:Nat)(c:Array Value)(x:Int)(B:Nat)(y:Bool)(w:World)(f:∀args w,(callFunc g args).run prog w = .ok (.enter g args) w)
  (h:w.cell? ⟨B,0,none⟩=some (.func (.func g) #[] c))(d:Calls prog g (#[.int .u8 x]++c) w λe a=>e = .returned (.bool y)/\Below w.heap.size w a) :
  Calls prog 185 #[.int .u8 x,.pointer (some ⟨B,0,none⟩)] w λe a=>e = .returned (.bool (!y))/\Below w.heap.size w a:=by
 go_enter func185,ntmps185
 go_wp2_with (go_at_fn g;refine d.mono ?_;rintro e a ⟨rfl,b⟩)
 go_ret;exact⟨rfl,b⟩
theorem bE(n b o cap g:Nat)(a:Array Value)(v:Nat->Int)(p:Nat->Bool)(w:World)(m:n<=1000000000000)(k:∀args w,(callFunc g args).run prog w = .ok (.enter g args) w)
  (l:∀j,j<n->w.cell? ⟨b,o+j,none⟩=some (.int .u8 (v j)))(q:yK g a (λj => .int .u8 (v j)) n p w) :
  Calls prog 132 #[.slice (some ⟨b,o,none⟩) n cap,.func (.func g) #[] a] w λe h=>
   e = .returned (.bool (jK p n))/\Below w.heap.size w h:=by
 have i:∀args w,(callFunc 185 args).run prog w = .ok (.enter 185 args) w:=enters_of func185 (by kernel_rfl) rfl
 have c:=sH n b o cap 185 #[.pointer (some ⟨w.heap.size,0,none⟩)] v (λj=>!p j) (w.alloc (.cells #[.func (.func g) #[] a] 257)) m i
  (λj f=>zb (nB w _) (l j f))
  (λW j f hb=>by
    refine rT g a (v j) w.heap.size (p j) W k ?_ (q W j f ((nB w _).trans (hb.mono (by simp))));exact zb hb (by simp))
 rw[JA];generalize zn (λj=>!p j) n=F at c;go_enter func132,ntmps132
 go_wp2_with (go_at_call 184;refine c.mono ?_;rintro e h ⟨rfl,d⟩)
 go_ret;exact⟨rfl,(nB w _).trans (d.mono (by simp))⟩
def rowAt(w:World)(ao:Option Addr)(n:Nat)(v:Nat->Int):Prop:=
 n=0\/∃b o,ao=some ⟨b,o,none⟩/\∀j,j<n->w.cell? ⟨b,o+j,none⟩=some (.int .i32 (v j))
theorem KZ{w a:World}{ao:Option Addr}{n:Nat}{v:Nat->Int}(h:rowAt w ao n v)(hb:Below w.heap.size w a):rowAt a ao n v:=by
 rcases h with h|⟨b,o,h1,h2⟩
 ·exact .inl h
 ·exact .inr ⟨b,o,h1,λj c=>zb hb (h2 j c)⟩
theorem DR(n:Nat)(ao:Option Addr)(cap g:Nat)(r:Array Value)(v:Nat->Int)(p:Nat->Bool)(w:World)(z:n<=1000000000000)(x:∀args w,(callFunc g args).run prog w = .ok (.enter g args) w)
  (t:rowAt w ao n v)(u:yK g r (λj => .int .i32 (v j)) n p w) :
  Calls prog 262 #[.slice ao n cap,.func (.func g) #[] r] w λe l=>
   e = .returned (.tuple #[.int .i64 (((zn p n).getD 0:Nat):Int),.bool (zn p n).isSome])/\Below w.heap.size w l:=by
 generalize hF:zn p n=F;have m:=hid hF;clear hF;go_enter func262,ntmps262
 go_wp2
 go_loopw [10] (λi wr=>∃k:Nat,k<=n/\i = .int .i64 k/\(∀j,j<k->p j=false)/\Below w.heap.size w wr) (λi _=>n-(intOf i).toNat)
 case atStart=>exact⟨0,Nat.zero_le _,rfl,λj h=>by omega,Below.refl _ _⟩
 case round=>
  obtain⟨k,y,rfl,hb,c⟩:=hrel;have f:=hid hb;clear hb
  by_cases hlt:k<n
  ·rcases t with h0|⟨b,o,rfl,hcc⟩
   ·omega
   have q:=zb c (hcc k hlt);have a:=λW hb=>u W k hlt hb;simp only at a
   cases hpp:p k with
   | false=>
    rw[hpp] at a;have s:=hid hpp;clear hpp
    go_wp2_with (go_at_fn g;refine (a _ c).mono ?_;rintro e l ⟨rfl,d⟩)
    refine⟨⟨k+1,by omega,by go_num,λj h=>?_,c.trans (d.mono c.size)⟩,by simp[intOf];omega⟩
    by_cases hj:j=k
    ·subst hj;exact s.out
    ·exact f.out j (by omega)
   | true=>
    rw[hpp] at a;have e:=kW p n k hlt f.out hpp;rw[m.out] at e;subst e;clear hpp
    go_wp2_with (go_at_fn g;refine (a _ c).mono ?_;rintro e l ⟨rfl,d⟩)
    go_ret2;exact⟨rfl,c.trans (d.mono c.size)⟩
  ·have e:=kX p n (λj h=>f.out j (by omega));rw[m.out] at e;subst e
   go_wp2
   go_ret2;exact⟨rfl,c⟩
theorem sM(n:Nat)(ao:Option Addr)(cap g:Nat)(b:Array Value)(v:Nat->Int)(p:Nat->Bool)(w:World)(i:n<=1000000000000)(f:∀args w,(callFunc g args).run prog w = .ok (.enter g args) w)
  (h:rowAt w ao n v)(k:yK g b (λj => .int .i32 (v j)) n p w) :
  Calls prog 254 #[.slice ao n cap,.func (.func g) #[] b] w λe d=>
   e = .returned (.bool (zn p n).isSome)/\Below w.heap.size w d:=by
 have c:=DR n ao cap g b v p w i f h k;generalize zn p n=F at c;go_enter func254,ntmps254
 go_wp2_with (go_at_call 262;refine c.mono ?_;rintro e d ⟨rfl,a⟩)
 go_ret;exact⟨rfl,a⟩
theorem su(g:Nat)(c:Array Value)(x:Int)(B:Nat)(y:Bool)(w:World)(f:∀args w,(callFunc g args).run prog w = .ok (.enter g args) w)
  (h:w.cell? ⟨B,0,none⟩=some (.func (.func g) #[] c))(d:Calls prog g (#[.int .i32 x]++c) w λe a=>e = .returned (.bool y)/\Below w.heap.size w a) :
  Calls prog 255 #[.int .i32 x,.pointer (some ⟨B,0,none⟩)] w λe a=>e = .returned (.bool (!y))/\Below w.heap.size w a:=by
 go_enter func255,ntmps255
 go_wp2_with (go_at_fn g;refine d.mono ?_;rintro e a ⟨rfl,b⟩)
 go_ret;exact⟨rfl,b⟩
theorem sj(n:Nat)(ao:Option Addr)(cap g:Nat)(a:Array Value)(v:Nat->Int)(p:Nat->Bool)(w:World)(l:n<=1000000000000)(h:∀args w,(callFunc g args).run prog w = .ok (.enter g args) w)
  (i:rowAt w ao n v)(m:yK g a (λj => .int .i32 (v j)) n p w) :
  Calls prog 240 #[.slice ao n cap,.func (.func g) #[] a] w λe d=>
   e = .returned (.bool (jK p n))/\Below w.heap.size w d:=by
 have f:∀args w,(callFunc 255 args).run prog w = .ok (.enter 255 args) w:=enters_of func255 (by kernel_rfl) rfl
 have c:=sM n ao cap 255 #[.pointer (some ⟨w.heap.size,0,none⟩)] v (λj=>!p j) (w.alloc (.cells #[.func (.func g) #[] a] 390)) l f
  (KZ i (nB w _))
  (λW j k hb=>by
    refine su g a (v j) w.heap.size (p j) W h ?_ (m W j k ((nB w _).trans (hb.mono (by simp))));exact zb hb (by simp))
 rw[JA];generalize zn (λj=>!p j) n=F at c;go_enter func240,ntmps240
 go_wp2_with (go_at_call 254;refine c.mono ?_;rintro e d ⟨rfl,b⟩)
 go_ret;exact⟨rfl,(nB w _).trans (b.mono (by simp))⟩
theorem aC(w:World):(Instr.typeAssert .nilIface 114 270 true).run prog w = .ok (.tuple #[.string ⟨#[]⟩,.bool false]) w:=by kernel_rfl
theorem Jo(v:Value)(w:World):(Instr.typeAssert (.iface 270 v) 114 270 true).run prog w = .ok (.tuple #[v,.bool true]) w:=by kernel_rfl
theorem aF(v:Value)(w:World):(Instr.typeAssert (.iface 271 v) 114 270 true).run prog w = .ok (.tuple #[.string ⟨#[]⟩,.bool false]) w:=by kernel_rfl
theorem aB(v:Value)(w:World):(Instr.typeAssert (.iface 121 v) 114 270 true).run prog w = .ok (.tuple #[.string ⟨#[]⟩,.bool false]) w:=by kernel_rfl
theorem aD(v:Value)(w:World):(Instr.typeAssert (.iface 118 v) 114 270 true).run prog w = .ok (.tuple #[.string ⟨#[]⟩,.bool false]) w:=by kernel_rfl
theorem RQ(v:Value)(w:World):(Instr.typeAssert (.iface 270 v) 114 271 true).run prog w = .ok (.tuple #[.bool false,.bool false]) w:=by kernel_rfl
theorem RS(v:Value)(w:World):(Instr.typeAssert (.iface 271 v) 114 271 true).run prog w = .ok (.tuple #[v,.bool true]) w:=by kernel_rfl
theorem RN(v:Value)(w:World):(Instr.typeAssert (.iface 121 v) 114 271 true).run prog w = .ok (.tuple #[.bool false,.bool false]) w:=by kernel_rfl
theorem RP(v:Value)(w:World):(Instr.typeAssert (.iface 118 v) 114 271 true).run prog w = .ok (.tuple #[.bool false,.bool false]) w:=by kernel_rfl
theorem Rz(w:World):(Instr.typeAssert .nilIface 114 121 true).run prog w = .ok (.tuple #[.slice none 0 0,.bool false]) w:=by kernel_rfl
theorem RD(v:Value)(w:World):(Instr.typeAssert (.iface 270 v) 114 121 true).run prog w = .ok (.tuple #[.slice none 0 0,.bool false]) w:=by kernel_rfl
theorem RF(v:Value)(w:World):(Instr.typeAssert (.iface 271 v) 114 121 true).run prog w = .ok (.tuple #[.slice none 0 0,.bool false]) w:=by kernel_rfl
theorem au(v:Value)(w:World):(Instr.typeAssert (.iface 121 v) 114 121 true).run prog w = .ok (.tuple #[v,.bool true]) w:=by kernel_rfl
theorem RA(v:Value)(w:World):(Instr.typeAssert (.iface 118 v) 114 121 true).run prog w = .ok (.tuple #[.slice none 0 0,.bool false]) w:=by kernel_rfl
theorem RH(w:World):(Instr.typeAssert .nilIface 114 118 true).run prog w = .ok (.tuple #[.slice none 0 0,.bool false]) w:=by kernel_rfl
theorem RI(v:Value)(w:World):(Instr.typeAssert (.iface 270 v) 114 118 true).run prog w = .ok (.tuple #[.slice none 0 0,.bool false]) w:=by kernel_rfl
theorem RJ(v:Value)(w:World):(Instr.typeAssert (.iface 271 v) 114 118 true).run prog w = .ok (.tuple #[.slice none 0 0,.bool false]) w:=by kernel_rfl
theorem RG(v:Value)(w:World):(Instr.typeAssert (.iface 121 v) 114 118 true).run prog w = .ok (.tuple #[.slice none 0 0,.bool false]) w:=by kernel_rfl
theorem az(v:Value)(w:World):(Instr.typeAssert (.iface 118 v) 114 118 true).run prog w = .ok (.tuple #[v,.bool true]) w:=by kernel_rfl
end Go.Proofs.YtdakgnaojakldaaGreatDoor
