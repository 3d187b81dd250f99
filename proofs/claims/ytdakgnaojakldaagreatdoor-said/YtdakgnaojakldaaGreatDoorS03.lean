/- P -/
import Derived.Test.YtdakgnaojakldaaGreatDoorS02
import Derived.Shelf.Abstract
open Go.Proofs.Tryz
set_option maxRecDepth 100000
set_option maxHeartbeats 400000
namespace Go.Proofs.YtdakgnaojakldaaGreatDoor
open Go.RowKit Go.Extern.Stop Go.Stop Go.Extern
theorem ae:xL 140:=
 ⟨λv w=>by kernel_rfl,
  λv a w=>run_typeAssert_lacksB underlying292 (by kernel_rfl) (by kernel_rfl) v a w,
  λv a w=>run_typeAssert_lacksB underlying285 (by kernel_rfl) (by kernel_rfl) v a w,
  λv a w=>run_typeAssert_lacksB underlying288 (by kernel_rfl) (by kernel_rfl) v a w,
  by decide⟩
theorem DY:yS 140:=λv a w=>run_typeAssert_lacksB underlying287 (by kernel_rfl) (by kernel_rfl) v a w
theorem mF:Assign 140 140 true:=λw=>by kernel_rfl
theorem eF(a:Addr)(w:World):(ReflectliteValue.parts (.agg #[.pointer (some ⟨7,145,none⟩),.pointer (some a),.int .u64 150])).run prog w = .ok (some (145,a,150)) w:=by kernel_rfl
theorem rH(w:World):(Rtype.elem? 145).run prog w = .ok (some 140) w:=by kernel_rfl
theorem DK(p:Addr)(w:World):(ReflectliteValue.mk 140 p ReflectliteValue.flagAddr).run prog w = .ok (.agg #[.pointer (some ⟨7,140,none⟩),.pointer (some p),.int .u64 409]) w:=by kernel_rfl
theorem Xi:jG 140 145 where
 unpack:=λt w=>by kernel_rfl
 type:=λa w=>by kernel_rfl
 kindP:=λw=>by kernel_rfl
 kind:=λw=>by kernel_rfl
 isNil:=λa p W b=>by
  delta ReflectliteValue.method
  rw[vM];simp only[Sem.run_bind,eF,Result.andThen];simp[ReflectliteValue.isNil,loadVar,isAgg,underlying,underlying145,b,Result.andThen]
 elem:=λw=>by kernel_rfl
 impl:=λw=>by kernel_rfl
 elemV:=λa p W b=>by
  delta ReflectliteValue.method
  rw[vM];simp only[Sem.run_bind,eF,Result.andThen];simp[ReflectliteValue.elem,loadVar,isAgg,underlying,underlying145,b,Result.andThen,rH,DK]
theorem EW(a:Addr)(w:World):(ReflectliteValue.parts (.agg #[.pointer (some ⟨7,140,none⟩),.pointer (some a),.int .u64 409])).run prog w = .ok (some (140,a,409)) w:=by kernel_rfl
theorem Fb(a:Addr)(w:World):(ReflectliteValue.parts (.agg #[.pointer (some ⟨7,140,none⟩),.pointer (some a),.int .u64 153])).run prog w = .ok (some (140,a,153)) w:=by kernel_rfl
theorem oZ(w:World):(Rtype.directlyAssignable 140 140).run prog w = .ok true w:=by kernel_rfl
theorem Ap:kR 140 (λx=>∃k,x = .int .i64 k) where
 held:=λx w h=>by obtain⟨k,rfl⟩:=h;kernel_rfl
 set:=λd b x old W h hb c a=>by
  obtain⟨k,rfl⟩:=h
  delta ReflectliteValue.set
  rw[QT];simp only[Sem.run_bind,EW,Fb,Result.andThen];simp[ReflectliteValue.flagAddr,loadVar,isAgg,Tryz.sizeOf140,loadCells,loadCellsFrom,hb,Result.andThen,oZ,storeVar,Value.cells,storeCells,Addr.add];rw[run_store prog W d _ _ (by rfl)];simp[c,a]
theorem Vd:xL 141:=
 ⟨λv w=>by kernel_rfl,
  λv a w=>run_typeAssert_lacksB underlying292 (by kernel_rfl) (by kernel_rfl) v a w,
  λv a w=>run_typeAssert_lacksB underlying285 (by kernel_rfl) (by kernel_rfl) v a w,
  λv a w=>run_typeAssert_lacksB underlying288 (by kernel_rfl) (by kernel_rfl) v a w,
  by decide⟩
theorem dA:yS 141:=λv a w=>run_typeAssert_lacksB underlying287 (by kernel_rfl) (by kernel_rfl) v a w
theorem lY:Assign 141 140 false:=λw=>by kernel_rfl
theorem lX:Assign 141 141 true:=λw=>by kernel_rfl
theorem ek(a:Addr)(w:World):(ReflectliteValue.parts (.agg #[.pointer (some ⟨7,146,none⟩),.pointer (some a),.int .u64 150])).run prog w = .ok (some (146,a,150)) w:=by kernel_rfl
theorem rD(w:World):(Rtype.elem? 146).run prog w = .ok (some 141) w:=by kernel_rfl
theorem DD(p:Addr)(w:World):(ReflectliteValue.mk 141 p ReflectliteValue.flagAddr).run prog w = .ok (.agg #[.pointer (some ⟨7,141,none⟩),.pointer (some p),.int .u64 409]) w:=by kernel_rfl
theorem Yl:jG 141 146 where
 unpack:=λt w=>by kernel_rfl
 type:=λa w=>by kernel_rfl
 kindP:=λw=>by kernel_rfl
 kind:=λw=>by kernel_rfl
 isNil:=λa p W b=>by
  delta ReflectliteValue.method
  rw[vM];simp only[Sem.run_bind,ek,Result.andThen];simp[ReflectliteValue.isNil,loadVar,isAgg,underlying,underlying146,b,Result.andThen]
 elem:=λw=>by kernel_rfl
 impl:=λw=>by kernel_rfl
 elemV:=λa p W b=>by
  delta ReflectliteValue.method
  rw[vM];simp only[Sem.run_bind,ek,Result.andThen];simp[ReflectliteValue.elem,loadVar,isAgg,underlying,underlying146,b,Result.andThen,rD,DD]
theorem ER(a:Addr)(w:World):(ReflectliteValue.parts (.agg #[.pointer (some ⟨7,141,none⟩),.pointer (some a),.int .u64 409])).run prog w = .ok (some (141,a,409)) w:=by kernel_rfl
theorem EY(a:Addr)(w:World):(ReflectliteValue.parts (.agg #[.pointer (some ⟨7,141,none⟩),.pointer (some a),.int .u64 153])).run prog w = .ok (some (141,a,153)) w:=by kernel_rfl
theorem oU(w:World):(Rtype.directlyAssignable 141 141).run prog w = .ok true w:=by kernel_rfl
theorem Al:kR 141 (λx=>∃k,x = .int .i64 k) where
 held:=λx w h=>by obtain⟨k,rfl⟩:=h;kernel_rfl
 set:=λd b x old W h hb c a=>by
  obtain⟨k,rfl⟩:=h
  delta ReflectliteValue.set
  rw[QT];simp only[Sem.run_bind,ER,EY,Result.andThen];simp[ReflectliteValue.flagAddr,loadVar,isAgg,Tryz.sizeOf141,loadCells,loadCellsFrom,hb,Result.andThen,oU,storeVar,Value.cells,storeCells,Addr.add];rw[run_store prog W d _ _ (by rfl)];simp[c,a]
theorem YK:xL 142:=
 ⟨λv w=>by kernel_rfl,
  λv a w=>run_typeAssert_lacksB underlying292 (by kernel_rfl) (by kernel_rfl) v a w,
  λv a w=>run_typeAssert_lacksB underlying285 (by kernel_rfl) (by kernel_rfl) v a w,
  λv a w=>run_typeAssert_lacksB underlying288 (by kernel_rfl) (by kernel_rfl) v a w,
  by decide⟩
theorem VJ:yS 142:=λv a w=>run_typeAssert_lacksB underlying287 (by kernel_rfl) (by kernel_rfl) v a w
theorem mH:Assign 142 140 false:=λw=>by kernel_rfl
theorem mG:Assign 142 141 false:=λw=>by kernel_rfl
theorem mJ:Assign 142 142 true:=λw=>by kernel_rfl
theorem eG(a:Addr)(w:World):(ReflectliteValue.parts (.agg #[.pointer (some ⟨7,147,none⟩),.pointer (some a),.int .u64 150])).run prog w = .ok (some (147,a,150)) w:=by kernel_rfl
theorem rJ(w:World):(Rtype.elem? 147).run prog w = .ok (some 142) w:=by kernel_rfl
theorem DL(p:Addr)(w:World):(ReflectliteValue.mk 142 p ReflectliteValue.flagAddr).run prog w = .ok (.agg #[.pointer (some ⟨7,142,none⟩),.pointer (some p),.int .u64 409]) w:=by kernel_rfl
theorem Jn:jG 142 147 where
 unpack:=λt w=>by kernel_rfl
 type:=λa w=>by kernel_rfl
 kindP:=λw=>by kernel_rfl
 kind:=λw=>by kernel_rfl
 isNil:=λa p W b=>by
  delta ReflectliteValue.method
  rw[vM];simp only[Sem.run_bind,eG,Result.andThen];simp[ReflectliteValue.isNil,loadVar,isAgg,underlying,underlying147,b,Result.andThen]
 elem:=λw=>by kernel_rfl
 impl:=λw=>by kernel_rfl
 elemV:=λa p W b=>by
  delta ReflectliteValue.method
  rw[vM];simp only[Sem.run_bind,eG,Result.andThen];simp[ReflectliteValue.elem,loadVar,isAgg,underlying,underlying147,b,Result.andThen,rJ,DL]
theorem EX(a:Addr)(w:World):(ReflectliteValue.parts (.agg #[.pointer (some ⟨7,142,none⟩),.pointer (some a),.int .u64 409])).run prog w = .ok (some (142,a,409)) w:=by kernel_rfl
theorem Fe(a:Addr)(w:World):(ReflectliteValue.parts (.agg #[.pointer (some ⟨7,142,none⟩),.pointer (some a),.int .u64 153])).run prog w = .ok (some (142,a,153)) w:=by kernel_rfl
theorem pq(w:World):(Rtype.directlyAssignable 142 142).run prog w = .ok true w:=by kernel_rfl
theorem Aq:kR 142 (λx=>∃k,x = .int .i64 k) where
 held:=λx w h=>by obtain⟨k,rfl⟩:=h;kernel_rfl
 set:=λd b x old W h hb c a=>by
  obtain⟨k,rfl⟩:=h
  delta ReflectliteValue.set
  rw[QT];simp only[Sem.run_bind,EX,Fe,Result.andThen];simp[ReflectliteValue.flagAddr,loadVar,isAgg,Tryz.sizeOf142,loadCells,loadCellsFrom,hb,Result.andThen,pq,storeVar,Value.cells,storeCells,Addr.add];rw[run_store prog W d _ _ (by rfl)];simp[c,a]
theorem QU:xL 228:=
 ⟨λv w=>by kernel_rfl,
  λv a w=>run_typeAssert_lacksB underlying292 (by kernel_rfl) (by kernel_rfl) v a w,
  λv a w=>run_typeAssert_lacksB underlying285 (by kernel_rfl) (by kernel_rfl) v a w,
  λv a w=>run_typeAssert_lacksB underlying288 (by kernel_rfl) (by kernel_rfl) v a w,
  by decide⟩
theorem XY:yS 228:=λv a w=>run_typeAssert_lacksB underlying287 (by kernel_rfl) (by kernel_rfl) v a w
theorem mi:Assign 228 140 false:=λw=>by kernel_rfl
theorem mf:Assign 228 141 false:=λw=>by kernel_rfl
theorem mo:Assign 228 142 false:=λw=>by kernel_rfl
theorem mg:Assign 228 228 true:=λw=>by kernel_rfl
theorem mh:Assign 228 125 false:=λw=>by kernel_rfl
theorem eu(a:Addr)(w:World):(ReflectliteValue.parts (.agg #[.pointer (some ⟨7,230,none⟩),.pointer (some a),.int .u64 150])).run prog w = .ok (some (230,a,150)) w:=by kernel_rfl
theorem rE(w:World):(Rtype.elem? 230).run prog w = .ok (some 228) w:=by kernel_rfl
theorem DF(p:Addr)(w:World):(ReflectliteValue.mk 228 p ReflectliteValue.flagAddr).run prog w = .ok (.agg #[.pointer (some ⟨7,228,none⟩),.pointer (some p),.int .u64 409]) w:=by kernel_rfl
theorem Uw:jG 228 230 where
 unpack:=λt w=>by kernel_rfl
 type:=λa w=>by kernel_rfl
 kindP:=λw=>by kernel_rfl
 kind:=λw=>by kernel_rfl
 isNil:=λa p W b=>by
  delta ReflectliteValue.method
  rw[vM];simp only[Sem.run_bind,eu,Result.andThen];simp[ReflectliteValue.isNil,loadVar,isAgg,underlying,underlying230,b,Result.andThen]
 elem:=λw=>by kernel_rfl
 impl:=λw=>by kernel_rfl
 elemV:=λa p W b=>by
  delta ReflectliteValue.method
  rw[vM];simp only[Sem.run_bind,eu,Result.andThen];simp[ReflectliteValue.elem,loadVar,isAgg,underlying,underlying230,b,Result.andThen,rE,DF]
theorem ET(a:Addr)(w:World):(ReflectliteValue.parts (.agg #[.pointer (some ⟨7,228,none⟩),.pointer (some a),.int .u64 409])).run prog w = .ok (some (228,a,409)) w:=by kernel_rfl
theorem EZ(a:Addr)(w:World):(ReflectliteValue.parts (.agg #[.pointer (some ⟨7,228,none⟩),.pointer (some a),.int .u64 153])).run prog w = .ok (some (228,a,153)) w:=by kernel_rfl
theorem oV(w:World):(Rtype.directlyAssignable 228 228).run prog w = .ok true w:=by kernel_rfl
theorem Am:kR 228 (λx=>∃k,x = .int .i64 k) where
 held:=λx w h=>by obtain⟨k,rfl⟩:=h;kernel_rfl
 set:=λd b x old W h hb c a=>by
  obtain⟨k,rfl⟩:=h
  delta ReflectliteValue.set
  rw[QT];simp only[Sem.run_bind,ET,EZ,Result.andThen];simp[ReflectliteValue.flagAddr,loadVar,isAgg,Tryz.sizeOf228,loadCells,loadCellsFrom,hb,Result.andThen,oV,storeVar,Value.cells,storeCells,Addr.add];rw[run_store prog W d _ _ (by rfl)];simp[c,a]
theorem vN:xL 125:=
 ⟨λv w=>by kernel_rfl,
  λv a w=>run_typeAssert_lacksB underlying292 (by kernel_rfl) (by kernel_rfl) v a w,
  λv a w=>run_typeAssert_lacksB underlying285 (by kernel_rfl) (by kernel_rfl) v a w,
  λv a w=>run_typeAssert_lacksB underlying288 (by kernel_rfl) (by kernel_rfl) v a w,
  by decide⟩
theorem uy:yS 125:=λv a w=>run_typeAssert_lacksB underlying287 (by kernel_rfl) (by kernel_rfl) v a w
theorem U3:Assign 125 140 false:=λw=>by kernel_rfl
theorem U1:Assign 125 141 false:=λw=>by kernel_rfl
theorem U4:Assign 125 142 false:=λw=>by kernel_rfl
theorem U2:Assign 125 228 false:=λw=>by kernel_rfl
theorem mq:Assign 125 125 true:=λw=>by kernel_rfl
theorem mr:Assign 125 138 false:=λw=>by kernel_rfl
theorem eB(a:Addr)(w:World):(ReflectliteValue.parts (.agg #[.pointer (some ⟨7,347,none⟩),.pointer (some a),.int .u64 150])).run prog w = .ok (some (347,a,150)) w:=by kernel_rfl
theorem rF(w:World):(Rtype.elem? 347).run prog w = .ok (some 125) w:=by kernel_rfl
theorem DI(p:Addr)(w:World):(ReflectliteValue.mk 125 p ReflectliteValue.flagAddr).run prog w = .ok (.agg #[.pointer (some ⟨7,125,none⟩),.pointer (some p),.int .u64 409]) w:=by kernel_rfl
theorem Ux:jG 125 347 where
 unpack:=λt w=>by kernel_rfl
 type:=λa w=>by kernel_rfl
 kindP:=λw=>by kernel_rfl
 kind:=λw=>by kernel_rfl
 isNil:=λa p W b=>by
  delta ReflectliteValue.method
  rw[vM];simp only[Sem.run_bind,eB,Result.andThen];simp[ReflectliteValue.isNil,loadVar,isAgg,underlying,underlying347,b,Result.andThen]
 elem:=λw=>by kernel_rfl
 impl:=λw=>by kernel_rfl
 elemV:=λa p W b=>by
  delta ReflectliteValue.method
  rw[vM];simp only[Sem.run_bind,eB,Result.andThen];simp[ReflectliteValue.elem,loadVar,isAgg,underlying,underlying347,b,Result.andThen,rF,DI]
theorem EU(a:Addr)(w:World):(ReflectliteValue.parts (.agg #[.pointer (some ⟨7,125,none⟩),.pointer (some a),.int .u64 409])).run prog w = .ok (some (125,a,409)) w:=by kernel_rfl
theorem Fa(a:Addr)(w:World):(ReflectliteValue.parts (.agg #[.pointer (some ⟨7,125,none⟩),.pointer (some a),.int .u64 153])).run prog w = .ok (some (125,a,153)) w:=by kernel_rfl
theorem oW(w:World):(Rtype.directlyAssignable 125 125).run prog w = .ok true w:=by kernel_rfl
theorem Ao:kR 125 (λx=>∃s,x = .string s) where
 held:=λx w h=>by obtain⟨k,rfl⟩:=h;kernel_rfl
 set:=λd b x old W h hb c a=>by
  obtain⟨k,rfl⟩:=h
  delta ReflectliteValue.set
  rw[QT];simp only[Sem.run_bind,EU,Fa,Result.andThen];simp[ReflectliteValue.flagAddr,loadVar,isAgg,Tryz.sizeOf125,loadCells,loadCellsFrom,hb,Result.andThen,oW,storeVar,Value.cells,storeCells,Addr.add];rw[run_store prog W d _ _ (by rfl)];simp[c,a]
theorem XM:xL 138:=
 ⟨λv w=>by kernel_rfl,
  λv a w=>run_typeAssert_lacksB underlying292 (by kernel_rfl) (by kernel_rfl) v a w,
  λv a w=>run_typeAssert_lacksB underlying285 (by kernel_rfl) (by kernel_rfl) v a w,
  λv a w=>run_typeAssert_lacksB underlying288 (by kernel_rfl) (by kernel_rfl) v a w,
  by decide⟩
theorem U7:Assign 138 140 false:=λw=>by kernel_rfl
theorem U5:Assign 138 141 false:=λw=>by kernel_rfl
theorem U8:Assign 138 142 false:=λw=>by kernel_rfl
theorem U6:Assign 138 228 false:=λw=>by kernel_rfl
theorem mD:Assign 138 138 true:=λw=>by kernel_rfl
theorem eD(a:Addr)(w:World):(ReflectliteValue.parts (.agg #[.pointer (some ⟨7,229,none⟩),.pointer (some a),.int .u64 150])).run prog w = .ok (some (229,a,150)) w:=by kernel_rfl
theorem rG(w:World):(Rtype.elem? 229).run prog w = .ok (some 138) w:=by kernel_rfl
theorem DJ(p:Addr)(w:World):(ReflectliteValue.mk 138 p ReflectliteValue.flagAddr).run prog w = .ok (.agg #[.pointer (some ⟨7,138,none⟩),.pointer (some p),.int .u64 409]) w:=by kernel_rfl
theorem Uy:jG 138 229 where
 unpack:=λt w=>by kernel_rfl
 type:=λa w=>by kernel_rfl
 kindP:=λw=>by kernel_rfl
 kind:=λw=>by kernel_rfl
 isNil:=λa p W b=>by
  delta ReflectliteValue.method
  rw[vM];simp only[Sem.run_bind,eD,Result.andThen];simp[ReflectliteValue.isNil,loadVar,isAgg,underlying,underlying229,b,Result.andThen]
 elem:=λw=>by kernel_rfl
 impl:=λw=>by kernel_rfl
 elemV:=λa p W b=>by
  delta ReflectliteValue.method
  rw[vM];simp only[Sem.run_bind,eD,Result.andThen];simp[ReflectliteValue.elem,loadVar,isAgg,underlying,underlying229,b,Result.andThen,rG,DJ]
end Go.Proofs.YtdakgnaojakldaaGreatDoor
namespace Go.Proofs.YtdakgnaojakldaaGreatDoor
open Go.RowKit
def yf(g:Nat)(b:Array Value)(a:Nat->Value)(n:Nat)(p:Nat->Bool)(w:World):Prop:=
 ∀W j,j<n->Below w.heap.size w W->Calls prog g (#[a j]++b) W λe c=>e = .returned (.bool (p j))/\Below W.heap.size W c
def zl(p:Nat->Bool)(n:Nat):Option Nat:=(List.range n).find? p
def yX(p:Nat->Bool)(n:Nat):Bool:=(List.range n).all p
theorem um(p:Nat->Bool)(n k:Nat)(b:k<n)(hb:∀j,j<k->p j=false)(h:p k=true):zl p n=some k:=by
 unfold zl;rw[List.find?_range_eq_some];exact⟨h,by simpa using b,λj a=>by simp[hb j a]⟩
theorem uo(p:Nat->Bool)(n:Nat)(hb:∀j,j<n->p j=false):zl p n=none:=by
 unfold zl;rw[List.find?_eq_none];intro j a;simp[hb j (List.mem_range.1 a)]
theorem Yt(p:Nat->Bool)(n:Nat):yX p n=(zl (λj=>!p j) n).isNone:=by
 unfold yX zl;rw[Bool.eq_iff_iff]
 simp
theorem YN(n b o cap g:Nat)(r:Array Value)(v:Nat->Int)(p:Nat->Bool)(w:World)(z:n<=1000000000000)(x:∀args w,(callFunc g args).run prog w = .ok (.enter g args) w)
  (t:∀j,j<n->w.cell? ⟨b,o+j,none⟩=some (.int .u8 (v j)))(u:yf g r (λj => .int .u8 (v j)) n p w) :
  Calls prog 223 #[.slice (some ⟨b,o,none⟩) n cap,.func (.func g) #[] r] w λe l=>
   e = .returned (.tuple #[.int .i64 (((zl p n).getD 0:Nat):Int),.bool (zl p n).isSome])/\Below w.heap.size w l:=by
 generalize hF:zl p n=F;have m:=hid hF;clear hF;go_enter func223,ntmps223
 go_wp2
 go_loopw [10] (λi wr=>∃k:Nat,k<=n/\i = .int .i64 k/\(∀j,j<k->p j=false)/\Below w.heap.size w wr) (λi _=>n-(intOf i).toNat)
 case atStart=>exact⟨0,Nat.zero_le _,rfl,λj h=>by omega,Below.refl _ _⟩
 case round=>
  obtain⟨k,y,rfl,hb,c⟩:=hrel;have f:=hid hb;clear hb
  by_cases hlt:k<n
  ·have q:=zg c (t k hlt);have a:=λW hb=>u W k hlt hb;simp only at a
   cases hpp:p k with
   | false=>
    rw[hpp] at a;have s:=hid hpp;clear hpp
    go_wp2_with (go_at_fn g;refine (a _ c).mono ?_;rintro e l ⟨rfl,d⟩)
    refine⟨⟨k+1,by omega,by go_num,λj h=>?_,c.trans (d.mono c.size)⟩,by simp[intOf];omega⟩
    by_cases hj:j=k
    ·subst hj;exact s.out
    ·exact f.out j (by omega)
   | true=>
    rw[hpp] at a;have e:=um p n k hlt f.out hpp;rw[m.out] at e;subst e;clear hpp
    go_wp2_with (go_at_fn g;refine (a _ c).mono ?_;rintro e l ⟨rfl,d⟩)
    go_ret2;exact⟨rfl,c.trans (d.mono c.size)⟩
  ·have e:=uo p n (λj h=>f.out j (by omega));rw[m.out] at e;subst e
   go_wp2
   go_ret2;exact⟨rfl,c⟩
theorem lK(n b o cap g:Nat)(d:Array Value)(v:Nat->Int)(p:Nat->Bool)(w:World)(k:n<=1000000000000)(h:∀args w,(callFunc g args).run prog w = .ok (.enter g args) w)
  (i:∀j,j<n->w.cell? ⟨b,o+j,none⟩=some (.int .u8 (v j)))(l:yf g d (λj => .int .u8 (v j)) n p w) :
  Calls prog 184 #[.slice (some ⟨b,o,none⟩) n cap,.func (.func g) #[] d] w λe f=>
   e = .returned (.bool (zl p n).isSome)/\Below w.heap.size w f:=by
 have c:=YN n b o cap g d v p w k h i l;generalize zl p n=F at c;go_enter func184,ntmps184
 go_wp2_with (go_at_call 223;refine c.mono ?_;rintro e f ⟨rfl,a⟩)
 go_ret;exact⟨rfl,a⟩
theorem lh(g:Nat)(c:Array Value)(x:Int)(B:Nat)(y:Bool)(w:World)(f:∀args w,(callFunc g args).run prog w = .ok (.enter g args) w)
  (h:w.cell? ⟨B,0,none⟩=some (.func (.func g) #[] c))(d:Calls prog g (#[.int .u8 x]++c) w λe a=>e = .returned (.bool y)/\Below w.heap.size w a) :
  Calls prog 185 #[.int .u8 x,.pointer (some ⟨B,0,none⟩)] w λe a=>e = .returned (.bool (!y))/\Below w.heap.size w a:=by
 go_enter func185,ntmps185
 go_wp2_with (go_at_fn g;refine d.mono ?_;rintro e a ⟨rfl,b⟩)
 go_ret;exact⟨rfl,b⟩
theorem UU(n b o cap g:Nat)(a:Array Value)(v:Nat->Int)(p:Nat->Bool)(w:World)(m:n<=1000000000000)(k:∀args w,(callFunc g args).run prog w = .ok (.enter g args) w)
  (l:∀j,j<n->w.cell? ⟨b,o+j,none⟩=some (.int .u8 (v j)))(q:yf g a (λj => .int .u8 (v j)) n p w) :
  Calls prog 132 #[.slice (some ⟨b,o,none⟩) n cap,.func (.func g) #[] a] w λe h=>
   e = .returned (.bool (yX p n))/\Below w.heap.size w h:=by
 have i:∀args w,(callFunc 185 args).run prog w = .ok (.enter 185 args) w:=enters_of func185 (by kernel_rfl) rfl
 have c:=lK n b o cap 185 #[.pointer (some ⟨w.heap.size,0,none⟩)] v (λj=>!p j) (w.alloc (.cells #[.func (.func g) #[] a] 257)) m i
  (λj f=>zg (nb w _) (l j f))
  (λW j f hb=>by
    refine lh g a (v j) w.heap.size (p j) W k ?_ (q W j f ((nb w _).trans (hb.mono (by simp))));exact zg hb (by simp))
 rw[Yt];generalize zl (λj=>!p j) n=F at c;go_enter func132,ntmps132
 go_wp2_with (go_at_call 184;refine c.mono ?_;rintro e h ⟨rfl,d⟩)
 go_ret;exact⟨rfl,(nb w _).trans (d.mono (by simp))⟩
def rowAt(w:World)(ao:Option Addr)(n:Nat)(v:Nat->Int):Prop:=
 n=0\/∃b o,ao=some ⟨b,o,none⟩/\∀j,j<n->w.cell? ⟨b,o+j,none⟩=some (.int .i32 (v j))
theorem V4{w a:World}{ao:Option Addr}{n:Nat}{v:Nat->Int}(h:rowAt w ao n v)(hb:Below w.heap.size w a):rowAt a ao n v:=by
 rcases h with h|⟨b,o,h1,h2⟩
 ·exact .inl h
 ·exact .inr ⟨b,o,h1,λj c=>zg hb (h2 j c)⟩
theorem tK(n:Nat)(ao:Option Addr)(cap g:Nat)(r:Array Value)(v:Nat->Int)(p:Nat->Bool)(w:World)(z:n<=1000000000000)(x:∀args w,(callFunc g args).run prog w = .ok (.enter g args) w)
  (t:rowAt w ao n v)(u:yf g r (λj => .int .i32 (v j)) n p w) :
  Calls prog 262 #[.slice ao n cap,.func (.func g) #[] r] w λe l=>
   e = .returned (.tuple #[.int .i64 (((zl p n).getD 0:Nat):Int),.bool (zl p n).isSome])/\Below w.heap.size w l:=by
 generalize hF:zl p n=F;have m:=hid hF;clear hF;go_enter func262,ntmps262
 go_wp2
 go_loopw [10] (λi wr=>∃k:Nat,k<=n/\i = .int .i64 k/\(∀j,j<k->p j=false)/\Below w.heap.size w wr) (λi _=>n-(intOf i).toNat)
 case atStart=>exact⟨0,Nat.zero_le _,rfl,λj h=>by omega,Below.refl _ _⟩
 case round=>
  obtain⟨k,y,rfl,hb,c⟩:=hrel;have f:=hid hb;clear hb
  by_cases hlt:k<n
  ·rcases t with h0|⟨b,o,rfl,hcc⟩
   ·omega
   have q:=zg c (hcc k hlt);have a:=λW hb=>u W k hlt hb;simp only at a
   cases hpp:p k with
   | false=>
    rw[hpp] at a;have s:=hid hpp;clear hpp
    go_wp2_with (go_at_fn g;refine (a _ c).mono ?_;rintro e l ⟨rfl,d⟩)
    refine⟨⟨k+1,by omega,by go_num,λj h=>?_,c.trans (d.mono c.size)⟩,by simp[intOf];omega⟩
    by_cases hj:j=k
    ·subst hj;exact s.out
    ·exact f.out j (by omega)
   | true=>
    rw[hpp] at a;have e:=um p n k hlt f.out hpp;rw[m.out] at e;subst e;clear hpp
    go_wp2_with (go_at_fn g;refine (a _ c).mono ?_;rintro e l ⟨rfl,d⟩)
    go_ret2;exact⟨rfl,c.trans (d.mono c.size)⟩
  ·have e:=uo p n (λj h=>f.out j (by omega));rw[m.out] at e;subst e
   go_wp2
   go_ret2;exact⟨rfl,c⟩
theorem lQ(n:Nat)(ao:Option Addr)(cap g:Nat)(b:Array Value)(v:Nat->Int)(p:Nat->Bool)(w:World)(i:n<=1000000000000)(f:∀args w,(callFunc g args).run prog w = .ok (.enter g args) w)
  (h:rowAt w ao n v)(k:yf g b (λj => .int .i32 (v j)) n p w) :
  Calls prog 254 #[.slice ao n cap,.func (.func g) #[] b] w λe d=>
   e = .returned (.bool (zl p n).isSome)/\Below w.heap.size w d:=by
 have c:=tK n ao cap g b v p w i f h k;generalize zl p n=F at c;go_enter func254,ntmps254
 go_wp2_with (go_at_call 262;refine c.mono ?_;rintro e d ⟨rfl,a⟩)
 go_ret;exact⟨rfl,a⟩
theorem lG(g:Nat)(c:Array Value)(x:Int)(B:Nat)(y:Bool)(w:World)(f:∀args w,(callFunc g args).run prog w = .ok (.enter g args) w)
  (h:w.cell? ⟨B,0,none⟩=some (.func (.func g) #[] c))(d:Calls prog g (#[.int .i32 x]++c) w λe a=>e = .returned (.bool y)/\Below w.heap.size w a) :
  Calls prog 255 #[.int .i32 x,.pointer (some ⟨B,0,none⟩)] w λe a=>e = .returned (.bool (!y))/\Below w.heap.size w a:=by
 go_enter func255,ntmps255
 go_wp2_with (go_at_fn g;refine d.mono ?_;rintro e a ⟨rfl,b⟩)
 go_ret;exact⟨rfl,b⟩
theorem lF(n:Nat)(ao:Option Addr)(cap g:Nat)(a:Array Value)(v:Nat->Int)(p:Nat->Bool)(w:World)(l:n<=1000000000000)(h:∀args w,(callFunc g args).run prog w = .ok (.enter g args) w)
  (i:rowAt w ao n v)(m:yf g a (λj => .int .i32 (v j)) n p w) :
  Calls prog 240 #[.slice ao n cap,.func (.func g) #[] a] w λe d=>
   e = .returned (.bool (yX p n))/\Below w.heap.size w d:=by
 have f:∀args w,(callFunc 255 args).run prog w = .ok (.enter 255 args) w:=enters_of func255 (by kernel_rfl) rfl
 have c:=lQ n ao cap 255 #[.pointer (some ⟨w.heap.size,0,none⟩)] v (λj=>!p j) (w.alloc (.cells #[.func (.func g) #[] a] 390)) l f
  (V4 i (nb w _))
  (λW j k hb=>by
    refine lG g a (v j) w.heap.size (p j) W h ?_ (m W j k ((nb w _).trans (hb.mono (by simp))));exact zg hb (by simp))
 rw[Yt];generalize zl (λj=>!p j) n=F at c;go_enter func240,ntmps240
 go_wp2_with (go_at_call 254;refine c.mono ?_;rintro e d ⟨rfl,b⟩)
 go_ret;exact⟨rfl,(nb w _).trans (b.mono (by simp))⟩
theorem Ur(w:World):(Instr.typeAssert .nilIface 114 270 true).run prog w = .ok (.tuple #[.string ⟨#[]⟩,.bool false]) w:=by kernel_rfl
theorem Yj(v:Value)(w:World):(Instr.typeAssert (.iface 270 v) 114 270 true).run prog w = .ok (.tuple #[v,.bool true]) w:=by kernel_rfl
theorem Ut(v:Value)(w:World):(Instr.typeAssert (.iface 271 v) 114 270 true).run prog w = .ok (.tuple #[.string ⟨#[]⟩,.bool false]) w:=by kernel_rfl
theorem Uq(v:Value)(w:World):(Instr.typeAssert (.iface 121 v) 114 270 true).run prog w = .ok (.tuple #[.string ⟨#[]⟩,.bool false]) w:=by kernel_rfl
theorem Us(v:Value)(w:World):(Instr.typeAssert (.iface 118 v) 114 270 true).run prog w = .ok (.tuple #[.string ⟨#[]⟩,.bool false]) w:=by kernel_rfl
theorem LF(v:Value)(w:World):(Instr.typeAssert (.iface 270 v) 114 271 true).run prog w = .ok (.tuple #[.bool false,.bool false]) w:=by kernel_rfl
theorem LG(v:Value)(w:World):(Instr.typeAssert (.iface 271 v) 114 271 true).run prog w = .ok (.tuple #[v,.bool true]) w:=by kernel_rfl
theorem LB(v:Value)(w:World):(Instr.typeAssert (.iface 121 v) 114 271 true).run prog w = .ok (.tuple #[.bool false,.bool false]) w:=by kernel_rfl
theorem LD(v:Value)(w:World):(Instr.typeAssert (.iface 118 v) 114 271 true).run prog w = .ok (.tuple #[.bool false,.bool false]) w:=by kernel_rfl
theorem Lm(w:World):(Instr.typeAssert .nilIface 114 121 true).run prog w = .ok (.tuple #[.slice none 0 0,.bool false]) w:=by kernel_rfl
theorem Lr(v:Value)(w:World):(Instr.typeAssert (.iface 270 v) 114 121 true).run prog w = .ok (.tuple #[.slice none 0 0,.bool false]) w:=by kernel_rfl
theorem Ls(v:Value)(w:World):(Instr.typeAssert (.iface 271 v) 114 121 true).run prog w = .ok (.tuple #[.slice none 0 0,.bool false]) w:=by kernel_rfl
theorem Ul(v:Value)(w:World):(Instr.typeAssert (.iface 121 v) 114 121 true).run prog w = .ok (.tuple #[v,.bool true]) w:=by kernel_rfl
theorem Lp(v:Value)(w:World):(Instr.typeAssert (.iface 118 v) 114 121 true).run prog w = .ok (.tuple #[.slice none 0 0,.bool false]) w:=by kernel_rfl
theorem Lu(w:World):(Instr.typeAssert .nilIface 114 118 true).run prog w = .ok (.tuple #[.slice none 0 0,.bool false]) w:=by kernel_rfl
theorem Lv(v:Value)(w:World):(Instr.typeAssert (.iface 270 v) 114 118 true).run prog w = .ok (.tuple #[.slice none 0 0,.bool false]) w:=by kernel_rfl
theorem Lx(v:Value)(w:World):(Instr.typeAssert (.iface 271 v) 114 118 true).run prog w = .ok (.tuple #[.slice none 0 0,.bool false]) w:=by kernel_rfl
theorem Lt(v:Value)(w:World):(Instr.typeAssert (.iface 121 v) 114 118 true).run prog w = .ok (.tuple #[.slice none 0 0,.bool false]) w:=by kernel_rfl
theorem Uo(v:Value)(w:World):(Instr.typeAssert (.iface 118 v) 114 118 true).run prog w = .ok (.tuple #[v,.bool true]) w:=by kernel_rfl
end Go.Proofs.YtdakgnaojakldaaGreatDoor
