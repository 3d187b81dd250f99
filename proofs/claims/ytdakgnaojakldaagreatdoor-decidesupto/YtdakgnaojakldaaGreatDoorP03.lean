/- P -/
import Derived.Test.YtdakgnaojakldaaGreatDoorP02
import Derived.Shelf.Abstract
open Go.Proofs.Tryz
set_option maxRecDepth 100000
set_option maxHeartbeats 400000
namespace Go.Proofs.YtdakgnaojakldaaGreatDoor
open Go.RowKit Go.Extern.Stop Go.Stop Go.Extern
theorem ry:jD 140:=
 ⟨λv w=>by kernel_rfl,
  λv a w=>run_typeAssert_lacksB underlying292 (by kernel_rfl) (by kernel_rfl) v a w,
  λv a w=>run_typeAssert_lacksB underlying285 (by kernel_rfl) (by kernel_rfl) v a w,
  λv a w=>run_typeAssert_lacksB underlying288 (by kernel_rfl) (by kernel_rfl) v a w,
  by decide⟩
theorem Tp:uQ 140:=λv a w=>run_typeAssert_lacksB underlying287 (by kernel_rfl) (by kernel_rfl) v a w
theorem Fg:Assign 140 140 true:=λw=>by kernel_rfl
theorem Bb(a:Addr)(w:World):(ReflectliteValue.parts (.agg #[.pointer (some ⟨7,145,none⟩),.pointer (some a),.int .u64 150])).run prog w = .ok (some (145,a,150)) w:=by kernel_rfl
theorem LX(w:World):(Rtype.elem? 145).run prog w = .ok (some 140) w:=by kernel_rfl
theorem Td(p:Addr)(w:World):(ReflectliteValue.mk 140 p ReflectliteValue.flagAddr).run prog w = .ok (.agg #[.pointer (some ⟨7,140,none⟩),.pointer (some p),.int .u64 409]) w:=by kernel_rfl
theorem VG:Zq 140 145 where
 unpack:=λt w=>by kernel_rfl
 type:=λa w=>by kernel_rfl
 kindP:=λw=>by kernel_rfl
 kind:=λw=>by kernel_rfl
 isNil:=λa p W b=>by
  delta ReflectliteValue.method
  rw[Qk];simp only[uy,Bb,Result.andThen];simp[ReflectliteValue.isNil,loadVar,isAgg,underlying,underlying145,b,Result.andThen]
 elem:=λw=>by kernel_rfl
 impl:=λw=>by kernel_rfl
 elemV:=λa p W b=>by
  delta ReflectliteValue.method
  rw[Qk];simp only[uy,Bb,Result.andThen];simp[ReflectliteValue.elem,loadVar,isAgg,underlying,underlying145,b,Result.andThen,LX,Td]
theorem Wq(a:Addr)(w:World):(ReflectliteValue.parts (.agg #[.pointer (some ⟨7,140,none⟩),.pointer (some a),.int .u64 409])).run prog w = .ok (some (140,a,409)) w:=by kernel_rfl
theorem Ww(a:Addr)(w:World):(ReflectliteValue.parts (.agg #[.pointer (some ⟨7,140,none⟩),.pointer (some a),.int .u64 153])).run prog w = .ok (some (140,a,153)) w:=by kernel_rfl
theorem IY(w:World):(Rtype.directlyAssignable 140 140).run prog w = .ok true w:=by kernel_rfl
theorem Om:XQ 140 (λx=>∃k,x = .int .i64 k) where
 held:=λx w h=>by obtain⟨k,rfl⟩:=h;kernel_rfl
 set:=λd b x old W h hb c a=>by
  obtain⟨k,rfl⟩:=h
  delta ReflectliteValue.set
  rw[Vb];simp only[uy,Wq,Ww,Result.andThen];simp[ReflectliteValue.flagAddr,loadVar,isAgg,Tryz.sizeOf140,loadCells,loadCellsFrom,hb,Result.andThen,IY,storeVar,Value.cells,storeCells,Addr.add];rw[ZC prog W d _ _ (by rfl)];simp[c,a]
theorem eG:jD 141:=
 ⟨λv w=>by kernel_rfl,
  λv a w=>run_typeAssert_lacksB underlying292 (by kernel_rfl) (by kernel_rfl) v a w,
  λv a w=>run_typeAssert_lacksB underlying285 (by kernel_rfl) (by kernel_rfl) v a w,
  λv a w=>run_typeAssert_lacksB underlying288 (by kernel_rfl) (by kernel_rfl) v a w,
  by decide⟩
theorem Ag:uQ 141:=λv a w=>run_typeAssert_lacksB underlying287 (by kernel_rfl) (by kernel_rfl) v a w
theorem EU:Assign 141 140 false:=λw=>by kernel_rfl
theorem ET:Assign 141 141 true:=λw=>by kernel_rfl
theorem AX(a:Addr)(w:World):(ReflectliteValue.parts (.agg #[.pointer (some ⟨7,146,none⟩),.pointer (some a),.int .u64 150])).run prog w = .ok (some (146,a,150)) w:=by kernel_rfl
theorem LQ(w:World):(Rtype.elem? 146).run prog w = .ok (some 141) w:=by kernel_rfl
theorem SX(p:Addr)(w:World):(ReflectliteValue.mk 141 p ReflectliteValue.flagAddr).run prog w = .ok (.agg #[.pointer (some ⟨7,141,none⟩),.pointer (some p),.int .u64 409]) w:=by kernel_rfl
theorem UW:Zq 141 146 where
 unpack:=λt w=>by kernel_rfl
 type:=λa w=>by kernel_rfl
 kindP:=λw=>by kernel_rfl
 kind:=λw=>by kernel_rfl
 isNil:=λa p W b=>by
  delta ReflectliteValue.method
  rw[Qk];simp only[uy,AX,Result.andThen];simp[ReflectliteValue.isNil,loadVar,isAgg,underlying,underlying146,b,Result.andThen]
 elem:=λw=>by kernel_rfl
 impl:=λw=>by kernel_rfl
 elemV:=λa p W b=>by
  delta ReflectliteValue.method
  rw[Qk];simp only[uy,AX,Result.andThen];simp[ReflectliteValue.elem,loadVar,isAgg,underlying,underlying146,b,Result.andThen,LQ,SX]
theorem Wn(a:Addr)(w:World):(ReflectliteValue.parts (.agg #[.pointer (some ⟨7,141,none⟩),.pointer (some a),.int .u64 409])).run prog w = .ok (some (141,a,409)) w:=by kernel_rfl
theorem Wt(a:Addr)(w:World):(ReflectliteValue.parts (.agg #[.pointer (some ⟨7,141,none⟩),.pointer (some a),.int .u64 153])).run prog w = .ok (some (141,a,153)) w:=by kernel_rfl
theorem IV(w:World):(Rtype.directlyAssignable 141 141).run prog w = .ok true w:=by kernel_rfl
theorem Oi:XQ 141 (λx=>∃k,x = .int .i64 k) where
 held:=λx w h=>by obtain⟨k,rfl⟩:=h;kernel_rfl
 set:=λd b x old W h hb c a=>by
  obtain⟨k,rfl⟩:=h
  delta ReflectliteValue.set
  rw[Vb];simp only[uy,Wn,Wt,Result.andThen];simp[ReflectliteValue.flagAddr,loadVar,isAgg,Tryz.sizeOf141,loadCells,loadCellsFrom,hb,Result.andThen,IV,storeVar,Value.cells,storeCells,Addr.add];rw[ZC prog W d _ _ (by rfl)];simp[c,a]
theorem KI:jD 142:=
 ⟨λv w=>by kernel_rfl,
  λv a w=>run_typeAssert_lacksB underlying292 (by kernel_rfl) (by kernel_rfl) v a w,
  λv a w=>run_typeAssert_lacksB underlying285 (by kernel_rfl) (by kernel_rfl) v a w,
  λv a w=>run_typeAssert_lacksB underlying288 (by kernel_rfl) (by kernel_rfl) v a w,
  by decide⟩
theorem gF:uQ 142:=λv a w=>run_typeAssert_lacksB underlying287 (by kernel_rfl) (by kernel_rfl) v a w
theorem Fj:Assign 142 140 false:=λw=>by kernel_rfl
theorem Fh:Assign 142 141 false:=λw=>by kernel_rfl
theorem Fp:Assign 142 142 true:=λw=>by kernel_rfl
theorem Bc(a:Addr)(w:World):(ReflectliteValue.parts (.agg #[.pointer (some ⟨7,147,none⟩),.pointer (some a),.int .u64 150])).run prog w = .ok (some (147,a,150)) w:=by kernel_rfl
theorem LY(w:World):(Rtype.elem? 147).run prog w = .ok (some 142) w:=by kernel_rfl
theorem Te(p:Addr)(w:World):(ReflectliteValue.mk 142 p ReflectliteValue.flagAddr).run prog w = .ok (.agg #[.pointer (some ⟨7,142,none⟩),.pointer (some p),.int .u64 409]) w:=by kernel_rfl
theorem aZ:Zq 142 147 where
 unpack:=λt w=>by kernel_rfl
 type:=λa w=>by kernel_rfl
 kindP:=λw=>by kernel_rfl
 kind:=λw=>by kernel_rfl
 isNil:=λa p W b=>by
  delta ReflectliteValue.method
  rw[Qk];simp only[uy,Bc,Result.andThen];simp[ReflectliteValue.isNil,loadVar,isAgg,underlying,underlying147,b,Result.andThen]
 elem:=λw=>by kernel_rfl
 impl:=λw=>by kernel_rfl
 elemV:=λa p W b=>by
  delta ReflectliteValue.method
  rw[Qk];simp only[uy,Bc,Result.andThen];simp[ReflectliteValue.elem,loadVar,isAgg,underlying,underlying147,b,Result.andThen,LY,Te]
theorem Ws(a:Addr)(w:World):(ReflectliteValue.parts (.agg #[.pointer (some ⟨7,142,none⟩),.pointer (some a),.int .u64 409])).run prog w = .ok (some (142,a,409)) w:=by kernel_rfl
theorem Wx(a:Addr)(w:World):(ReflectliteValue.parts (.agg #[.pointer (some ⟨7,142,none⟩),.pointer (some a),.int .u64 153])).run prog w = .ok (some (142,a,153)) w:=by kernel_rfl
theorem IZ(w:World):(Rtype.directlyAssignable 142 142).run prog w = .ok true w:=by kernel_rfl
theorem Oo:XQ 142 (λx=>∃k,x = .int .i64 k) where
 held:=λx w h=>by obtain⟨k,rfl⟩:=h;kernel_rfl
 set:=λd b x old W h hb c a=>by
  obtain⟨k,rfl⟩:=h
  delta ReflectliteValue.set
  rw[Vb];simp only[uy,Ws,Wx,Result.andThen];simp[ReflectliteValue.flagAddr,loadVar,isAgg,Tryz.sizeOf142,loadCells,loadCellsFrom,hb,Result.andThen,IZ,storeVar,Value.cells,storeCells,Addr.add];rw[ZC prog W d _ _ (by rfl)];simp[c,a]
theorem Vd:jD 228:=
 ⟨λv w=>by kernel_rfl,
  λv a w=>run_typeAssert_lacksB underlying292 (by kernel_rfl) (by kernel_rfl) v a w,
  λv a w=>run_typeAssert_lacksB underlying285 (by kernel_rfl) (by kernel_rfl) v a w,
  λv a w=>run_typeAssert_lacksB underlying288 (by kernel_rfl) (by kernel_rfl) v a w,
  by decide⟩
theorem UD:uQ 228:=λv a w=>run_typeAssert_lacksB underlying287 (by kernel_rfl) (by kernel_rfl) v a w
theorem EZ:Assign 228 140 false:=λw=>by kernel_rfl
theorem EW:Assign 228 141 false:=λw=>by kernel_rfl
theorem Fa:Assign 228 142 false:=λw=>by kernel_rfl
theorem EX:Assign 228 228 true:=λw=>by kernel_rfl
theorem EY:Assign 228 125 false:=λw=>by kernel_rfl
theorem AY(a:Addr)(w:World):(ReflectliteValue.parts (.agg #[.pointer (some ⟨7,230,none⟩),.pointer (some a),.int .u64 150])).run prog w = .ok (some (230,a,150)) w:=by kernel_rfl
theorem LU(w:World):(Rtype.elem? 230).run prog w = .ok (some 228) w:=by kernel_rfl
theorem SY(p:Addr)(w:World):(ReflectliteValue.mk 228 p ReflectliteValue.flagAddr).run prog w = .ok (.agg #[.pointer (some ⟨7,228,none⟩),.pointer (some p),.int .u64 409]) w:=by kernel_rfl
theorem lw:Zq 228 230 where
 unpack:=λt w=>by kernel_rfl
 type:=λa w=>by kernel_rfl
 kindP:=λw=>by kernel_rfl
 kind:=λw=>by kernel_rfl
 isNil:=λa p W b=>by
  delta ReflectliteValue.method
  rw[Qk];simp only[uy,AY,Result.andThen];simp[ReflectliteValue.isNil,loadVar,isAgg,underlying,underlying230,b,Result.andThen]
 elem:=λw=>by kernel_rfl
 impl:=λw=>by kernel_rfl
 elemV:=λa p W b=>by
  delta ReflectliteValue.method
  rw[Qk];simp only[uy,AY,Result.andThen];simp[ReflectliteValue.elem,loadVar,isAgg,underlying,underlying230,b,Result.andThen,LU,SY]
theorem Wo(a:Addr)(w:World):(ReflectliteValue.parts (.agg #[.pointer (some ⟨7,228,none⟩),.pointer (some a),.int .u64 409])).run prog w = .ok (some (228,a,409)) w:=by kernel_rfl
theorem Wu(a:Addr)(w:World):(ReflectliteValue.parts (.agg #[.pointer (some ⟨7,228,none⟩),.pointer (some a),.int .u64 153])).run prog w = .ok (some (228,a,153)) w:=by kernel_rfl
theorem IW(w:World):(Rtype.directlyAssignable 228 228).run prog w = .ok true w:=by kernel_rfl
theorem Oj:XQ 228 (λx=>∃k,x = .int .i64 k) where
 held:=λx w h=>by obtain⟨k,rfl⟩:=h;kernel_rfl
 set:=λd b x old W h hb c a=>by
  obtain⟨k,rfl⟩:=h
  delta ReflectliteValue.set
  rw[Vb];simp only[uy,Wo,Wu,Result.andThen];simp[ReflectliteValue.flagAddr,loadVar,isAgg,Tryz.sizeOf228,loadCells,loadCellsFrom,hb,Result.andThen,IW,storeVar,Value.cells,storeCells,Addr.add];rw[ZC prog W d _ _ (by rfl)];simp[c,a]
theorem Ql:jD 125:=
 ⟨λv w=>by kernel_rfl,
  λv a w=>run_typeAssert_lacksB underlying292 (by kernel_rfl) (by kernel_rfl) v a w,
  λv a w=>run_typeAssert_lacksB underlying285 (by kernel_rfl) (by kernel_rfl) v a w,
  λv a w=>run_typeAssert_lacksB underlying288 (by kernel_rfl) (by kernel_rfl) v a w,
  by decide⟩
theorem QW:uQ 125:=λv a w=>run_typeAssert_lacksB underlying287 (by kernel_rfl) (by kernel_rfl) v a w
theorem ni:Assign 125 140 false:=λw=>by kernel_rfl
theorem mY:Assign 125 141 false:=λw=>by kernel_rfl
theorem nu:Assign 125 142 false:=λw=>by kernel_rfl
theorem mZ:Assign 125 228 false:=λw=>by kernel_rfl
theorem Fb:Assign 125 125 true:=λw=>by kernel_rfl
theorem Fe:Assign 125 138 false:=λw=>by kernel_rfl
theorem AZ(a:Addr)(w:World):(ReflectliteValue.parts (.agg #[.pointer (some ⟨7,347,none⟩),.pointer (some a),.int .u64 150])).run prog w = .ok (some (347,a,150)) w:=by kernel_rfl
theorem LV(w:World):(Rtype.elem? 347).run prog w = .ok (some 125) w:=by kernel_rfl
theorem Ta(p:Addr)(w:World):(ReflectliteValue.mk 125 p ReflectliteValue.flagAddr).run prog w = .ok (.agg #[.pointer (some ⟨7,125,none⟩),.pointer (some p),.int .u64 409]) w:=by kernel_rfl
theorem lC:Zq 125 347 where
 unpack:=λt w=>by kernel_rfl
 type:=λa w=>by kernel_rfl
 kindP:=λw=>by kernel_rfl
 kind:=λw=>by kernel_rfl
 isNil:=λa p W b=>by
  delta ReflectliteValue.method
  rw[Qk];simp only[uy,AZ,Result.andThen];simp[ReflectliteValue.isNil,loadVar,isAgg,underlying,underlying347,b,Result.andThen]
 elem:=λw=>by kernel_rfl
 impl:=λw=>by kernel_rfl
 elemV:=λa p W b=>by
  delta ReflectliteValue.method
  rw[Qk];simp only[uy,AZ,Result.andThen];simp[ReflectliteValue.elem,loadVar,isAgg,underlying,underlying347,b,Result.andThen,LV,Ta]
theorem Wp(a:Addr)(w:World):(ReflectliteValue.parts (.agg #[.pointer (some ⟨7,125,none⟩),.pointer (some a),.int .u64 409])).run prog w = .ok (some (125,a,409)) w:=by kernel_rfl
theorem Wv(a:Addr)(w:World):(ReflectliteValue.parts (.agg #[.pointer (some ⟨7,125,none⟩),.pointer (some a),.int .u64 153])).run prog w = .ok (some (125,a,153)) w:=by kernel_rfl
theorem IX(w:World):(Rtype.directlyAssignable 125 125).run prog w = .ok true w:=by kernel_rfl
theorem Ol:XQ 125 (λx=>∃s,x = .string s) where
 held:=λx w h=>by obtain⟨k,rfl⟩:=h;kernel_rfl
 set:=λd b x old W h hb c a=>by
  obtain⟨k,rfl⟩:=h
  delta ReflectliteValue.set
  rw[Vb];simp only[uy,Wp,Wv,Result.andThen];simp[ReflectliteValue.flagAddr,loadVar,isAgg,Tryz.sizeOf125,loadCells,loadCellsFrom,hb,Result.andThen,IX,storeVar,Value.cells,storeCells,Addr.add];rw[ZC prog W d _ _ (by rfl)];simp[c,a]
theorem Um:jD 138:=
 ⟨λv w=>by kernel_rfl,
  λv a w=>run_typeAssert_lacksB underlying292 (by kernel_rfl) (by kernel_rfl) v a w,
  λv a w=>run_typeAssert_lacksB underlying285 (by kernel_rfl) (by kernel_rfl) v a w,
  λv a w=>run_typeAssert_lacksB underlying288 (by kernel_rfl) (by kernel_rfl) v a w,
  by decide⟩
theorem nC:Assign 138 140 false:=λw=>by kernel_rfl
theorem ny:Assign 138 141 false:=λw=>by kernel_rfl
theorem nD:Assign 138 142 false:=λw=>by kernel_rfl
theorem nz:Assign 138 228 false:=λw=>by kernel_rfl
theorem Ff:Assign 138 138 true:=λw=>by kernel_rfl
theorem Ba(a:Addr)(w:World):(ReflectliteValue.parts (.agg #[.pointer (some ⟨7,229,none⟩),.pointer (some a),.int .u64 150])).run prog w = .ok (some (229,a,150)) w:=by kernel_rfl
theorem LW(w:World):(Rtype.elem? 229).run prog w = .ok (some 138) w:=by kernel_rfl
theorem Tc(p:Addr)(w:World):(ReflectliteValue.mk 138 p ReflectliteValue.flagAddr).run prog w = .ok (.agg #[.pointer (some ⟨7,138,none⟩),.pointer (some p),.int .u64 409]) w:=by kernel_rfl
theorem lD:Zq 138 229 where
 unpack:=λt w=>by kernel_rfl
 type:=λa w=>by kernel_rfl
 kindP:=λw=>by kernel_rfl
 kind:=λw=>by kernel_rfl
 isNil:=λa p W b=>by
  delta ReflectliteValue.method
  rw[Qk];simp only[uy,Ba,Result.andThen];simp[ReflectliteValue.isNil,loadVar,isAgg,underlying,underlying229,b,Result.andThen]
 elem:=λw=>by kernel_rfl
 impl:=λw=>by kernel_rfl
 elemV:=λa p W b=>by
  delta ReflectliteValue.method
  rw[Qk];simp only[uy,Ba,Result.andThen];simp[ReflectliteValue.elem,loadVar,isAgg,underlying,underlying229,b,Result.andThen,LW,Tc]
end Go.Proofs.YtdakgnaojakldaaGreatDoor
namespace Go.Proofs.YtdakgnaojakldaaGreatDoor
open Go.RowKit
def vI(g:Nat)(b:Array Value)(a:Nat->Value)(n:Nat)(p:Nat->Bool)(w:World):Prop:=
 ∀W j,j<n->Below w.heap.size w W->Calls prog g (#[a j]++b) W λe w'=>e = .returned (.bool (p j))/\Below W.heap.size W w'
def zx(p:Nat->Bool)(n:Nat):Option Nat:=(List.range n).find? p
def uT(p:Nat->Bool)(n:Nat):Bool:=(List.range n).all p
theorem QO(p:Nat->Bool)(n k:Nat)(b:k<n)(hb:∀j,j<k->p j=false)(h:p k=true):zx p n=some k:=by
 unfold zx;rw[VT];exact⟨h,by simpa using b,λj a=>by simp[hb j a]⟩
theorem QP(p:Nat->Bool)(n:Nat)(hb:∀j,j<n->p j=false):zx p n=none:=by
 unfold zx;rw[Yv];intro j a;simp[hb j (List.mem_range.1 a)]
theorem Kq(p:Nat->Bool)(n:Nat):uT p n=(zx (λj=>!p j) n).isNone:=by
 unfold uT zx;rw[kL]
 simp
theorem X8(n b o cap g:Nat)(m:Array Value)(v:Nat->Int)(p:Nat->Bool)(w:World)(y:n<=1000000000000)(u:∀args w,(callFunc g args).run prog w = .ok (.enter g args) w)
  (s:∀j,j<n->w.cell? ⟨b,o+j,none⟩=some (.int .u8 (v j)))(t:vI g m (λj => .int .u8 (v j)) n p w) :
  Calls prog 223 #[.slice (some ⟨b,o,none⟩) n cap,.func (.func g) #[] m] w λe w'=>
   e = .returned (.tuple #[.int .i64 (((zx p n).getD 0:Nat):Int),.bool (zx p n).isSome])/\Below w.heap.size w w':=by
 generalize hF:zx p n=F;have l:=hid hF;clear hF;go_enter func223,ntmps223
 go_wp2
 go_loopw [10] (λi wr=>∃k:Nat,k<=n/\i = .int .i64 k/\(∀j,j<k->p j=false)/\Below w.heap.size w wr) (λi _=>n-(intOf i).toNat)
 case atStart=>exact⟨0,zH _,rfl,λj h=>by omega,ze _ _⟩
 case round=>
  obtain⟨k,x,rfl,hb,c⟩:=hrel;have f:=hid hb;clear hb
  by_cases hlt:k<n
  ·have q:=zh c (s k hlt);have a:=λW hb=>t W k hlt hb;simp only at a
   cases hpp:p k with
   | false=>
    rw[hpp] at a;have r:=hid hpp;clear hpp
    go_wp2_with (go_at_fn g;refine (a _ c).mono ?_;rintro e w' ⟨rfl,d⟩)
    refine⟨⟨k+1,by omega,by go_num,λj h=>?_,c.trans (d.mono c.size)⟩,by simp[intOf];omega⟩
    by_cases hj:j=k
    ·subst hj;exact r.out
    ·exact f.out j (by omega)
   | true=>
    rw[hpp] at a;have e:=QO p n k hlt f.out hpp;rw[l.out] at e;subst e;clear hpp
    go_wp2_with (go_at_fn g;refine (a _ c).mono ?_;rintro e w' ⟨rfl,d⟩)
    go_ret2;exact⟨rfl,c.trans (d.mono c.size)⟩
  ·have e:=QP p n (λj h=>f.out j (by omega));rw[l.out] at e;subst e
   go_wp2
   go_ret2;exact⟨rfl,c⟩
theorem EH(n b o cap g:Nat)(d:Array Value)(v:Nat->Int)(p:Nat->Bool)(w:World)(i:n<=1000000000000)(f:∀args w,(callFunc g args).run prog w = .ok (.enter g args) w)
  (h:∀j,j<n->w.cell? ⟨b,o+j,none⟩=some (.int .u8 (v j)))(k:vI g d (λj => .int .u8 (v j)) n p w) :
  Calls prog 184 #[.slice (some ⟨b,o,none⟩) n cap,.func (.func g) #[] d] w λe w'=>
   e = .returned (.bool (zx p n).isSome)/\Below w.heap.size w w':=by
 have c:=X8 n b o cap g d v p w i f h k;generalize zx p n=F at c;go_enter func184,ntmps184
 go_wp2_with (go_at_call 223;refine c.mono ?_;rintro e w' ⟨rfl,a⟩)
 go_ret;exact⟨rfl,a⟩
theorem Em(g:Nat)(b:Array Value)(x:Int)(B:Nat)(y:Bool)(w:World)(d:∀args w,(callFunc g args).run prog w = .ok (.enter g args) w)
  (f:w.cell? ⟨B,0,none⟩=some (.func (.func g) #[] b))(c:Calls prog g (#[.int .u8 x]++b) w λe w'=>e = .returned (.bool y)/\Below w.heap.size w w') :
  Calls prog 185 #[.int .u8 x,.pointer (some ⟨B,0,none⟩)] w λe w'=>e = .returned (.bool (!y))/\Below w.heap.size w w':=by
 go_enter func185,ntmps185
 go_wp2_with (go_at_fn g;refine c.mono ?_;rintro e w' ⟨rfl,a⟩)
 go_ret;exact⟨rfl,a⟩
theorem mG(n b o cap g:Nat)(a:Array Value)(v:Nat->Int)(p:Nat->Bool)(w:World)(l:n<=1000000000000)(i:∀args w,(callFunc g args).run prog w = .ok (.enter g args) w)
  (k:∀j,j<n->w.cell? ⟨b,o+j,none⟩=some (.int .u8 (v j)))(m:vI g a (λj => .int .u8 (v j)) n p w) :
  Calls prog 132 #[.slice (some ⟨b,o,none⟩) n cap,.func (.func g) #[] a] w λe w'=>
   e = .returned (.bool (uT p n))/\Below w.heap.size w w':=by
 have h:∀args w,(callFunc 185 args).run prog w = .ok (.enter 185 args) w:=enters_of func185 (by kernel_rfl) rfl
 have c:=EH n b o cap 185 #[.pointer (some ⟨w.heap.size,0,none⟩)] v (λj=>!p j) (w.alloc (.cells #[.func (.func g) #[] a] 257)) l h
  (λj f=>zh (nbl w _) (k j f))
  (λW j f hb=>by
    refine Em g a (v j) w.heap.size (p j) W i ?_ (m W j f ((nbl w _).trans (hb.mono (by simp))));exact zh hb (by simp))
 rw[Kq];generalize zx (λj=>!p j) n=F at c;go_enter func132,ntmps132
 go_wp2_with (go_at_call 184;refine c.mono ?_;rintro e w' ⟨rfl,d⟩)
 go_ret;exact⟨rfl,(nbl w _).trans (d.mono (by simp))⟩
def rowAt(w:World)(ao:Option Addr)(n:Nat)(v:Nat->Int):Prop:=
 n=0\/∃b o,ao=some ⟨b,o,none⟩/\∀j,j<n->w.cell? ⟨b,o+j,none⟩=some (.int .i32 (v j))
theorem iB{w w':World}{ao:Option Addr}{n:Nat}{v:Nat->Int}(h:rowAt w ao n v)(hb:Below w.heap.size w w'):rowAt w' ao n v:=by
 rcases h with h|⟨b,o,h1,h2⟩
 ·exact .inl h
 ·exact .inr ⟨b,o,h1,λj a=>zh hb (h2 j a)⟩
theorem Nb(n:Nat)(ao:Option Addr)(cap g:Nat)(m:Array Value)(v:Nat->Int)(p:Nat->Bool)(w:World)(y:n<=1000000000000)(u:∀args w,(callFunc g args).run prog w = .ok (.enter g args) w)
  (s:rowAt w ao n v)(t:vI g m (λj => .int .i32 (v j)) n p w) :
  Calls prog 262 #[.slice ao n cap,.func (.func g) #[] m] w λe w'=>
   e = .returned (.tuple #[.int .i64 (((zx p n).getD 0:Nat):Int),.bool (zx p n).isSome])/\Below w.heap.size w w':=by
 generalize hF:zx p n=F;have l:=hid hF;clear hF;go_enter func262,ntmps262
 go_wp2
 go_loopw [10] (λi wr=>∃k:Nat,k<=n/\i = .int .i64 k/\(∀j,j<k->p j=false)/\Below w.heap.size w wr) (λi _=>n-(intOf i).toNat)
 case atStart=>exact⟨0,zH _,rfl,λj h=>by omega,ze _ _⟩
 case round=>
  obtain⟨k,x,rfl,hb,c⟩:=hrel;have f:=hid hb;clear hb
  by_cases hlt:k<n
  ·rcases s with h0|⟨b,o,rfl,hcc⟩
   ·omega
   have q:=zh c (hcc k hlt);have a:=λW hb=>t W k hlt hb;simp only at a
   cases hpp:p k with
   | false=>
    rw[hpp] at a;have r:=hid hpp;clear hpp
    go_wp2_with (go_at_fn g;refine (a _ c).mono ?_;rintro e w' ⟨rfl,d⟩)
    refine⟨⟨k+1,by omega,by go_num,λj h=>?_,c.trans (d.mono c.size)⟩,by simp[intOf];omega⟩
    by_cases hj:j=k
    ·subst hj;exact r.out
    ·exact f.out j (by omega)
   | true=>
    rw[hpp] at a;have e:=QO p n k hlt f.out hpp;rw[l.out] at e;subst e;clear hpp
    go_wp2_with (go_at_fn g;refine (a _ c).mono ?_;rintro e w' ⟨rfl,d⟩)
    go_ret2;exact⟨rfl,c.trans (d.mono c.size)⟩
  ·have e:=QP p n (λj h=>f.out j (by omega));rw[l.out] at e;subst e
   go_wp2
   go_ret2;exact⟨rfl,c⟩
theorem EM(n:Nat)(ao:Option Addr)(cap g:Nat)(b:Array Value)(v:Nat->Int)(p:Nat->Bool)(w:World)(h:n<=1000000000000)(d:∀args w,(callFunc g args).run prog w = .ok (.enter g args) w)
  (f:rowAt w ao n v)(i:vI g b (λj => .int .i32 (v j)) n p w) :
  Calls prog 254 #[.slice ao n cap,.func (.func g) #[] b] w λe w'=>
   e = .returned (.bool (zx p n).isSome)/\Below w.heap.size w w':=by
 have c:=Nb n ao cap g b v p w h d f i;generalize zx p n=F at c;go_enter func254,ntmps254
 go_wp2_with (go_at_call 262;refine c.mono ?_;rintro e w' ⟨rfl,a⟩)
 go_ret;exact⟨rfl,a⟩
theorem Ex(g:Nat)(b:Array Value)(x:Int)(B:Nat)(y:Bool)(w:World)(d:∀args w,(callFunc g args).run prog w = .ok (.enter g args) w)
  (f:w.cell? ⟨B,0,none⟩=some (.func (.func g) #[] b))(c:Calls prog g (#[.int .i32 x]++b) w λe w'=>e = .returned (.bool y)/\Below w.heap.size w w') :
  Calls prog 255 #[.int .i32 x,.pointer (some ⟨B,0,none⟩)] w λe w'=>e = .returned (.bool (!y))/\Below w.heap.size w w':=by
 go_enter func255,ntmps255
 go_wp2_with (go_at_fn g;refine c.mono ?_;rintro e w' ⟨rfl,a⟩)
 go_ret;exact⟨rfl,a⟩
theorem Ew(n:Nat)(ao:Option Addr)(cap g:Nat)(a:Array Value)(v:Nat->Int)(p:Nat->Bool)(w:World)(k:n<=1000000000000)(f:∀args w,(callFunc g args).run prog w = .ok (.enter g args) w)
  (h:rowAt w ao n v)(l:vI g a (λj => .int .i32 (v j)) n p w) :
  Calls prog 240 #[.slice ao n cap,.func (.func g) #[] a] w λe w'=>
   e = .returned (.bool (uT p n))/\Below w.heap.size w w':=by
 have d:∀args w,(callFunc 255 args).run prog w = .ok (.enter 255 args) w:=enters_of func255 (by kernel_rfl) rfl
 have c:=EM n ao cap 255 #[.pointer (some ⟨w.heap.size,0,none⟩)] v (λj=>!p j) (w.alloc (.cells #[.func (.func g) #[] a] 390)) k d
  (iB h (nbl w _))
  (λW j i hb=>by
    refine Ex g a (v j) w.heap.size (p j) W f ?_ (l W j i ((nbl w _).trans (hb.mono (by simp))));exact zh hb (by simp))
 rw[Kq];generalize zx (λj=>!p j) n=F at c;go_enter func240,ntmps240
 go_wp2_with (go_at_call 254;refine c.mono ?_;rintro e w' ⟨rfl,b⟩)
 go_ret;exact⟨rfl,(nbl w _).trans (b.mono (by simp))⟩
theorem lh(w:World):(Instr.typeAssert .nilIface 114 270 true).run prog w = .ok (.tuple #[.string ⟨#[]⟩,.bool false]) w:=by kernel_rfl
theorem UT(v:Value)(w:World):(Instr.typeAssert (.iface 270 v) 114 270 true).run prog w = .ok (.tuple #[v,.bool true]) w:=by kernel_rfl
theorem lm(v:Value)(w:World):(Instr.typeAssert (.iface 271 v) 114 270 true).run prog w = .ok (.tuple #[.string ⟨#[]⟩,.bool false]) w:=by kernel_rfl
theorem lg(v:Value)(w:World):(Instr.typeAssert (.iface 121 v) 114 270 true).run prog w = .ok (.tuple #[.string ⟨#[]⟩,.bool false]) w:=by kernel_rfl
theorem ll(v:Value)(w:World):(Instr.typeAssert (.iface 118 v) 114 270 true).run prog w = .ok (.tuple #[.string ⟨#[]⟩,.bool false]) w:=by kernel_rfl
theorem zcr(v:Value)(w:World):(Instr.typeAssert (.iface 270 v) 114 271 true).run prog w = .ok (.tuple #[.bool false,.bool false]) w:=by kernel_rfl
theorem zcs(v:Value)(w:World):(Instr.typeAssert (.iface 271 v) 114 271 true).run prog w = .ok (.tuple #[v,.bool true]) w:=by kernel_rfl
theorem zcp(v:Value)(w:World):(Instr.typeAssert (.iface 121 v) 114 271 true).run prog w = .ok (.tuple #[.bool false,.bool false]) w:=by kernel_rfl
theorem zcq(v:Value)(w:World):(Instr.typeAssert (.iface 118 v) 114 271 true).run prog w = .ok (.tuple #[.bool false,.bool false]) w:=by kernel_rfl
theorem zcg(w:World):(Instr.typeAssert .nilIface 114 121 true).run prog w = .ok (.tuple #[.slice none 0 0,.bool false]) w:=by kernel_rfl
theorem zci(v:Value)(w:World):(Instr.typeAssert (.iface 270 v) 114 121 true).run prog w = .ok (.tuple #[.slice none 0 0,.bool false]) w:=by kernel_rfl
theorem zcj(v:Value)(w:World):(Instr.typeAssert (.iface 271 v) 114 121 true).run prog w = .ok (.tuple #[.slice none 0 0,.bool false]) w:=by kernel_rfl
theorem iW(v:Value)(w:World):(Instr.typeAssert (.iface 121 v) 114 121 true).run prog w = .ok (.tuple #[v,.bool true]) w:=by kernel_rfl
theorem zch(v:Value)(w:World):(Instr.typeAssert (.iface 118 v) 114 121 true).run prog w = .ok (.tuple #[.slice none 0 0,.bool false]) w:=by kernel_rfl
theorem zcl(w:World):(Instr.typeAssert .nilIface 114 118 true).run prog w = .ok (.tuple #[.slice none 0 0,.bool false]) w:=by kernel_rfl
theorem zcm(v:Value)(w:World):(Instr.typeAssert (.iface 270 v) 114 118 true).run prog w = .ok (.tuple #[.slice none 0 0,.bool false]) w:=by kernel_rfl
theorem zcn(v:Value)(w:World):(Instr.typeAssert (.iface 271 v) 114 118 true).run prog w = .ok (.tuple #[.slice none 0 0,.bool false]) w:=by kernel_rfl
theorem zck(v:Value)(w:World):(Instr.typeAssert (.iface 121 v) 114 118 true).run prog w = .ok (.tuple #[.slice none 0 0,.bool false]) w:=by kernel_rfl
theorem iZ(v:Value)(w:World):(Instr.typeAssert (.iface 118 v) 114 118 true).run prog w = .ok (.tuple #[v,.bool true]) w:=by kernel_rfl
end Go.Proofs.YtdakgnaojakldaaGreatDoor
