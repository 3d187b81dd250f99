/- P -/
import Derived.Test.YtdakgnaojakldaaGreatDoorK02
import Derived.Shelf.Abstract
open Go.Proofs.Tryz
set_option maxRecDepth 100000
set_option maxHeartbeats 400000
namespace Go.Proofs.YtdakgnaojakldaaGreatDoor
open Go.RowKit Go.Extern.Stop Go.Stop Go.Extern
theorem iR:yT 140:=
 ⟨λv w=>by kernel_rfl,
  λv a w=>run_typeAssert_lacksB underlying292 (by kernel_rfl) (by kernel_rfl) v a w,
  λv a w=>run_typeAssert_lacksB underlying285 (by kernel_rfl) (by kernel_rfl) v a w,
  λv a w=>run_typeAssert_lacksB underlying288 (by kernel_rfl) (by kernel_rfl) v a w,
  by decide⟩
theorem LJ:vP 140:=λv a w=>run_typeAssert_lacksB underlying287 (by kernel_rfl) (by kernel_rfl) v a w
theorem wW:Assign 140 140 true:=λw=>by kernel_rfl
theorem oD(a:Addr)(w:World):(ReflectliteValue.parts (.agg #[.pointer (some ⟨7,145,none⟩),.pointer (some a),.int .u64 150])).run prog w = .ok (some (145,a,150)) w:=by kernel_rfl
theorem Dz(w:World):(Rtype.elem? 145).run prog w = .ok (some 140) w:=by kernel_rfl
theorem Lr(p:Addr)(w:World):(ReflectliteValue.mk 140 p ReflectliteValue.flagAddr).run prog w = .ok (.agg #[.pointer (some ⟨7,140,none⟩),.pointer (some p),.int .u64 409]) w:=by kernel_rfl
theorem Y9:uG 140 145 where
 unpack:=λt w=>by kernel_rfl
 type:=λa w=>by kernel_rfl
 kindP:=λw=>by kernel_rfl
 kind:=λw=>by kernel_rfl
 isNil:=λa p W b=>by
  delta ReflectliteValue.method
  rw[Zj];simp only[vw,oD,Result.andThen];simp[ReflectliteValue.isNil,loadVar,isAgg,underlying,underlying145,b,Result.andThen]
 elem:=λw=>by kernel_rfl
 impl:=λw=>by kernel_rfl
 elemV:=λa p W b=>by
  delta ReflectliteValue.method
  rw[Zj];simp only[vw,oD,Result.andThen];simp[ReflectliteValue.elem,loadVar,isAgg,underlying,underlying145,b,Result.andThen,Dz,Lr]
theorem MJ(a:Addr)(w:World):(ReflectliteValue.parts (.agg #[.pointer (some ⟨7,140,none⟩),.pointer (some a),.int .u64 409])).run prog w = .ok (some (140,a,409)) w:=by kernel_rfl
theorem MO(a:Addr)(w:World):(ReflectliteValue.parts (.agg #[.pointer (some ⟨7,140,none⟩),.pointer (some a),.int .u64 153])).run prog w = .ok (some (140,a,153)) w:=by kernel_rfl
theorem Cy(w:World):(Rtype.directlyAssignable 140 140).run prog w = .ok true w:=by kernel_rfl
theorem FL:Qw 140 (λx=>∃k,x = .int .i64 k) where
 held:=λx w h=>by obtain⟨k,rfl⟩:=h;kernel_rfl
 set:=λd b x old W h hb c a=>by
  obtain⟨k,rfl⟩:=h
  delta ReflectliteValue.set
  rw[YL];simp only[vw,MJ,MO,Result.andThen];simp[ReflectliteValue.flagAddr,loadVar,isAgg,Tryz.sizeOf140,loadCells,loadCellsFrom,hb,Result.andThen,Cy,storeVar,Value.cells,storeCells,Addr.add];rw[Zt prog W d _ _ (by rfl)];simp[c,a]
theorem K5:yT 141:=
 ⟨λv w=>by kernel_rfl,
  λv a w=>run_typeAssert_lacksB underlying292 (by kernel_rfl) (by kernel_rfl) v a w,
  λv a w=>run_typeAssert_lacksB underlying285 (by kernel_rfl) (by kernel_rfl) v a w,
  λv a w=>run_typeAssert_lacksB underlying288 (by kernel_rfl) (by kernel_rfl) v a w,
  by decide⟩
theorem nI:vP 141:=λv a w=>run_typeAssert_lacksB underlying287 (by kernel_rfl) (by kernel_rfl) v a w
theorem wI:Assign 141 140 false:=λw=>by kernel_rfl
theorem wH:Assign 141 141 true:=λw=>by kernel_rfl
theorem ou(a:Addr)(w:World):(ReflectliteValue.parts (.agg #[.pointer (some ⟨7,146,none⟩),.pointer (some a),.int .u64 150])).run prog w = .ok (some (146,a,150)) w:=by kernel_rfl
theorem Dv(w:World):(Rtype.elem? 146).run prog w = .ok (some 141) w:=by kernel_rfl
theorem Li(p:Addr)(w:World):(ReflectliteValue.mk 141 p ReflectliteValue.flagAddr).run prog w = .ok (.agg #[.pointer (some ⟨7,141,none⟩),.pointer (some p),.int .u64 409]) w:=by kernel_rfl
theorem Vf:uG 141 146 where
 unpack:=λt w=>by kernel_rfl
 type:=λa w=>by kernel_rfl
 kindP:=λw=>by kernel_rfl
 kind:=λw=>by kernel_rfl
 isNil:=λa p W b=>by
  delta ReflectliteValue.method
  rw[Zj];simp only[vw,ou,Result.andThen];simp[ReflectliteValue.isNil,loadVar,isAgg,underlying,underlying146,b,Result.andThen]
 elem:=λw=>by kernel_rfl
 impl:=λw=>by kernel_rfl
 elemV:=λa p W b=>by
  delta ReflectliteValue.method
  rw[Zj];simp only[vw,ou,Result.andThen];simp[ReflectliteValue.elem,loadVar,isAgg,underlying,underlying146,b,Result.andThen,Dv,Li]
theorem MG(a:Addr)(w:World):(ReflectliteValue.parts (.agg #[.pointer (some ⟨7,141,none⟩),.pointer (some a),.int .u64 409])).run prog w = .ok (some (141,a,409)) w:=by kernel_rfl
theorem ML(a:Addr)(w:World):(ReflectliteValue.parts (.agg #[.pointer (some ⟨7,141,none⟩),.pointer (some a),.int .u64 153])).run prog w = .ok (some (141,a,153)) w:=by kernel_rfl
theorem Cv(w:World):(Rtype.directlyAssignable 141 141).run prog w = .ok true w:=by kernel_rfl
theorem FH:Qw 141 (λx=>∃k,x = .int .i64 k) where
 held:=λx w h=>by obtain⟨k,rfl⟩:=h;kernel_rfl
 set:=λd b x old W h hb c a=>by
  obtain⟨k,rfl⟩:=h
  delta ReflectliteValue.set
  rw[YL];simp only[vw,MG,ML,Result.andThen];simp[ReflectliteValue.flagAddr,loadVar,isAgg,Tryz.sizeOf141,loadCells,loadCellsFrom,hb,Result.andThen,Cv,storeVar,Value.cells,storeCells,Addr.add];rw[Zt prog W d _ _ (by rfl)];simp[c,a]
theorem VX:yT 142:=
 ⟨λv w=>by kernel_rfl,
  λv a w=>run_typeAssert_lacksB underlying292 (by kernel_rfl) (by kernel_rfl) v a w,
  λv a w=>run_typeAssert_lacksB underlying285 (by kernel_rfl) (by kernel_rfl) v a w,
  λv a w=>run_typeAssert_lacksB underlying288 (by kernel_rfl) (by kernel_rfl) v a w,
  by decide⟩
theorem bg:vP 142:=λv a w=>run_typeAssert_lacksB underlying287 (by kernel_rfl) (by kernel_rfl) v a w
theorem wY:Assign 142 140 false:=λw=>by kernel_rfl
theorem wX:Assign 142 141 false:=λw=>by kernel_rfl
theorem wZ:Assign 142 142 true:=λw=>by kernel_rfl
theorem oF(a:Addr)(w:World):(ReflectliteValue.parts (.agg #[.pointer (some ⟨7,147,none⟩),.pointer (some a),.int .u64 150])).run prog w = .ok (some (147,a,150)) w:=by kernel_rfl
theorem DC(w:World):(Rtype.elem? 147).run prog w = .ok (some 142) w:=by kernel_rfl
theorem Ls(p:Addr)(w:World):(ReflectliteValue.mk 142 p ReflectliteValue.flagAddr).run prog w = .ok (.agg #[.pointer (some ⟨7,142,none⟩),.pointer (some p),.int .u64 409]) w:=by kernel_rfl
theorem UM:uG 142 147 where
 unpack:=λt w=>by kernel_rfl
 type:=λa w=>by kernel_rfl
 kindP:=λw=>by kernel_rfl
 kind:=λw=>by kernel_rfl
 isNil:=λa p W b=>by
  delta ReflectliteValue.method
  rw[Zj];simp only[vw,oF,Result.andThen];simp[ReflectliteValue.isNil,loadVar,isAgg,underlying,underlying147,b,Result.andThen]
 elem:=λw=>by kernel_rfl
 impl:=λw=>by kernel_rfl
 elemV:=λa p W b=>by
  delta ReflectliteValue.method
  rw[Zj];simp only[vw,oF,Result.andThen];simp[ReflectliteValue.elem,loadVar,isAgg,underlying,underlying147,b,Result.andThen,DC,Ls]
theorem MK(a:Addr)(w:World):(ReflectliteValue.parts (.agg #[.pointer (some ⟨7,142,none⟩),.pointer (some a),.int .u64 409])).run prog w = .ok (some (142,a,409)) w:=by kernel_rfl
theorem MP(a:Addr)(w:World):(ReflectliteValue.parts (.agg #[.pointer (some ⟨7,142,none⟩),.pointer (some a),.int .u64 153])).run prog w = .ok (some (142,a,153)) w:=by kernel_rfl
theorem Cz(w:World):(Rtype.directlyAssignable 142 142).run prog w = .ok true w:=by kernel_rfl
theorem FM:Qw 142 (λx=>∃k,x = .int .i64 k) where
 held:=λx w h=>by obtain⟨k,rfl⟩:=h;kernel_rfl
 set:=λd b x old W h hb c a=>by
  obtain⟨k,rfl⟩:=h
  delta ReflectliteValue.set
  rw[YL];simp only[vw,MK,MP,Result.andThen];simp[ReflectliteValue.flagAddr,loadVar,isAgg,Tryz.sizeOf142,loadCells,loadCellsFrom,hb,Result.andThen,Cz,storeVar,Value.cells,storeCells,Addr.add];rw[Zt prog W d _ _ (by rfl)];simp[c,a]
theorem YM:yT 228:=
 ⟨λv w=>by kernel_rfl,
  λv a w=>run_typeAssert_lacksB underlying292 (by kernel_rfl) (by kernel_rfl) v a w,
  λv a w=>run_typeAssert_lacksB underlying285 (by kernel_rfl) (by kernel_rfl) v a w,
  λv a w=>run_typeAssert_lacksB underlying288 (by kernel_rfl) (by kernel_rfl) v a w,
  by decide⟩
theorem JY:vP 228:=λv a w=>run_typeAssert_lacksB underlying287 (by kernel_rfl) (by kernel_rfl) v a w
theorem wO:Assign 228 140 false:=λw=>by kernel_rfl
theorem wJ:Assign 228 141 false:=λw=>by kernel_rfl
theorem wQ:Assign 228 142 false:=λw=>by kernel_rfl
theorem wL:Assign 228 228 true:=λw=>by kernel_rfl
theorem wM:Assign 228 125 false:=λw=>by kernel_rfl
theorem ow(a:Addr)(w:World):(ReflectliteValue.parts (.agg #[.pointer (some ⟨7,230,none⟩),.pointer (some a),.int .u64 150])).run prog w = .ok (some (230,a,150)) w:=by kernel_rfl
theorem Dw(w:World):(Rtype.elem? 230).run prog w = .ok (some 228) w:=by kernel_rfl
theorem Lj(p:Addr)(w:World):(ReflectliteValue.mk 228 p ReflectliteValue.flagAddr).run prog w = .ok (.agg #[.pointer (some ⟨7,228,none⟩),.pointer (some p),.int .u64 409]) w:=by kernel_rfl
theorem dM:uG 228 230 where
 unpack:=λt w=>by kernel_rfl
 type:=λa w=>by kernel_rfl
 kindP:=λw=>by kernel_rfl
 kind:=λw=>by kernel_rfl
 isNil:=λa p W b=>by
  delta ReflectliteValue.method
  rw[Zj];simp only[vw,ow,Result.andThen];simp[ReflectliteValue.isNil,loadVar,isAgg,underlying,underlying230,b,Result.andThen]
 elem:=λw=>by kernel_rfl
 impl:=λw=>by kernel_rfl
 elemV:=λa p W b=>by
  delta ReflectliteValue.method
  rw[Zj];simp only[vw,ow,Result.andThen];simp[ReflectliteValue.elem,loadVar,isAgg,underlying,underlying230,b,Result.andThen,Dw,Lj]
theorem MH(a:Addr)(w:World):(ReflectliteValue.parts (.agg #[.pointer (some ⟨7,228,none⟩),.pointer (some a),.int .u64 409])).run prog w = .ok (some (228,a,409)) w:=by kernel_rfl
theorem MM(a:Addr)(w:World):(ReflectliteValue.parts (.agg #[.pointer (some ⟨7,228,none⟩),.pointer (some a),.int .u64 153])).run prog w = .ok (some (228,a,153)) w:=by kernel_rfl
theorem Cw(w:World):(Rtype.directlyAssignable 228 228).run prog w = .ok true w:=by kernel_rfl
theorem FJ:Qw 228 (λx=>∃k,x = .int .i64 k) where
 held:=λx w h=>by obtain⟨k,rfl⟩:=h;kernel_rfl
 set:=λd b x old W h hb c a=>by
  obtain⟨k,rfl⟩:=h
  delta ReflectliteValue.set
  rw[YL];simp only[vw,MH,MM,Result.andThen];simp[ReflectliteValue.flagAddr,loadVar,isAgg,Tryz.sizeOf228,loadCells,loadCellsFrom,hb,Result.andThen,Cw,storeVar,Value.cells,storeCells,Addr.add];rw[Zt prog W d _ _ (by rfl)];simp[c,a]
theorem Zk:yT 125:=
 ⟨λv w=>by kernel_rfl,
  λv a w=>run_typeAssert_lacksB underlying292 (by kernel_rfl) (by kernel_rfl) v a w,
  λv a w=>run_typeAssert_lacksB underlying285 (by kernel_rfl) (by kernel_rfl) v a w,
  λv a w=>run_typeAssert_lacksB underlying288 (by kernel_rfl) (by kernel_rfl) v a w,
  by decide⟩
theorem ZO:vP 125:=λv a w=>run_typeAssert_lacksB underlying287 (by kernel_rfl) (by kernel_rfl) v a w
theorem fM:Assign 125 140 false:=λw=>by kernel_rfl
theorem fJ:Assign 125 141 false:=λw=>by kernel_rfl
theorem fO:Assign 125 142 false:=λw=>by kernel_rfl
theorem fK:Assign 125 228 false:=λw=>by kernel_rfl
theorem wR:Assign 125 125 true:=λw=>by kernel_rfl
theorem wT:Assign 125 138 false:=λw=>by kernel_rfl
theorem oz(a:Addr)(w:World):(ReflectliteValue.parts (.agg #[.pointer (some ⟨7,347,none⟩),.pointer (some a),.int .u64 150])).run prog w = .ok (some (347,a,150)) w:=by kernel_rfl
theorem Dx(w:World):(Rtype.elem? 347).run prog w = .ok (some 125) w:=by kernel_rfl
theorem Ll(p:Addr)(w:World):(ReflectliteValue.mk 125 p ReflectliteValue.flagAddr).run prog w = .ok (.agg #[.pointer (some ⟨7,125,none⟩),.pointer (some p),.int .u64 409]) w:=by kernel_rfl
theorem dN:uG 125 347 where
 unpack:=λt w=>by kernel_rfl
 type:=λa w=>by kernel_rfl
 kindP:=λw=>by kernel_rfl
 kind:=λw=>by kernel_rfl
 isNil:=λa p W b=>by
  delta ReflectliteValue.method
  rw[Zj];simp only[vw,oz,Result.andThen];simp[ReflectliteValue.isNil,loadVar,isAgg,underlying,underlying347,b,Result.andThen]
 elem:=λw=>by kernel_rfl
 impl:=λw=>by kernel_rfl
 elemV:=λa p W b=>by
  delta ReflectliteValue.method
  rw[Zj];simp only[vw,oz,Result.andThen];simp[ReflectliteValue.elem,loadVar,isAgg,underlying,underlying347,b,Result.andThen,Dx,Ll]
theorem MI(a:Addr)(w:World):(ReflectliteValue.parts (.agg #[.pointer (some ⟨7,125,none⟩),.pointer (some a),.int .u64 409])).run prog w = .ok (some (125,a,409)) w:=by kernel_rfl
theorem MN(a:Addr)(w:World):(ReflectliteValue.parts (.agg #[.pointer (some ⟨7,125,none⟩),.pointer (some a),.int .u64 153])).run prog w = .ok (some (125,a,153)) w:=by kernel_rfl
theorem Cx(w:World):(Rtype.directlyAssignable 125 125).run prog w = .ok true w:=by kernel_rfl
theorem FK:Qw 125 (λx=>∃s,x = .string s) where
 held:=λx w h=>by obtain⟨k,rfl⟩:=h;kernel_rfl
 set:=λd b x old W h hb c a=>by
  obtain⟨k,rfl⟩:=h
  delta ReflectliteValue.set
  rw[YL];simp only[vw,MI,MN,Result.andThen];simp[ReflectliteValue.flagAddr,loadVar,isAgg,Tryz.sizeOf125,loadCells,loadCellsFrom,hb,Result.andThen,Cx,storeVar,Value.cells,storeCells,Addr.add];rw[Zt prog W d _ _ (by rfl)];simp[c,a]
theorem JD:yT 138:=
 ⟨λv w=>by kernel_rfl,
  λv a w=>run_typeAssert_lacksB underlying292 (by kernel_rfl) (by kernel_rfl) v a w,
  λv a w=>run_typeAssert_lacksB underlying285 (by kernel_rfl) (by kernel_rfl) v a w,
  λv a w=>run_typeAssert_lacksB underlying288 (by kernel_rfl) (by kernel_rfl) v a w,
  by decide⟩
theorem fT:Assign 138 140 false:=λw=>by kernel_rfl
theorem fP:Assign 138 141 false:=λw=>by kernel_rfl
theorem fU:Assign 138 142 false:=λw=>by kernel_rfl
theorem fQ:Assign 138 228 false:=λw=>by kernel_rfl
theorem wU:Assign 138 138 true:=λw=>by kernel_rfl
theorem oC(a:Addr)(w:World):(ReflectliteValue.parts (.agg #[.pointer (some ⟨7,229,none⟩),.pointer (some a),.int .u64 150])).run prog w = .ok (some (229,a,150)) w:=by kernel_rfl
theorem Dy(w:World):(Rtype.elem? 229).run prog w = .ok (some 138) w:=by kernel_rfl
theorem Lp(p:Addr)(w:World):(ReflectliteValue.mk 138 p ReflectliteValue.flagAddr).run prog w = .ok (.agg #[.pointer (some ⟨7,138,none⟩),.pointer (some p),.int .u64 409]) w:=by kernel_rfl
theorem dO:uG 138 229 where
 unpack:=λt w=>by kernel_rfl
 type:=λa w=>by kernel_rfl
 kindP:=λw=>by kernel_rfl
 kind:=λw=>by kernel_rfl
 isNil:=λa p W b=>by
  delta ReflectliteValue.method
  rw[Zj];simp only[vw,oC,Result.andThen];simp[ReflectliteValue.isNil,loadVar,isAgg,underlying,underlying229,b,Result.andThen]
 elem:=λw=>by kernel_rfl
 impl:=λw=>by kernel_rfl
 elemV:=λa p W b=>by
  delta ReflectliteValue.method
  rw[Zj];simp only[vw,oC,Result.andThen];simp[ReflectliteValue.elem,loadVar,isAgg,underlying,underlying229,b,Result.andThen,Dy,Lp]
end Go.Proofs.YtdakgnaojakldaaGreatDoor
namespace Go.Proofs.YtdakgnaojakldaaGreatDoor
open Go.RowKit
def ZA(g:Nat)(b:Array Value)(a:Nat->Value)(n:Nat)(p:Nat->Bool)(w:World):Prop:=
 ∀W j,j<n->Below w.heap.size w W->Calls prog g (#[a j]++b) W λe w'=>e = .returned (.bool (p j))/\Below W.heap.size W w'
def zW(p:Nat->Bool)(n:Nat):Option Nat:=(List.range n).find? p
def QH(p:Nat->Bool)(n:Nat):Bool:=(List.range n).all p
theorem JG(p:Nat->Bool)(n k:Nat)(b:k<n)(hb:∀j,j<k->p j=false)(h:p k=true):zW p n=some k:=by
 unfold zW;rw[Vr];exact⟨h,by simpa using b,λj a=>by simp[hb j a]⟩
theorem JH(p:Nat->Bool)(n:Nat)(hb:∀j,j<n->p j=false):zW p n=none:=by
 unfold zW;rw[Yw];intro j a;simp[hb j (List.mem_range.1 a)]
theorem eZ(p:Nat->Bool)(n:Nat):QH p n=(zW (λj=>!p j) n).isNone:=by
 unfold QH zW;rw[XA]
 simp
theorem X0(n b o cap g:Nat)(m:Array Value)(v:Nat->Int)(p:Nat->Bool)(w:World)(y:n<=1000000000000)(u:∀args w,(callFunc g args).run prog w = .ok (.enter g args) w)
  (s:∀j,j<n->w.cell? ⟨b,o+j,none⟩=some (.int .u8 (v j)))(t:ZA g m (λj => .int .u8 (v j)) n p w) :
  Calls prog 223 #[.slice (some ⟨b,o,none⟩) n cap,.func (.func g) #[] m] w λe w'=>
   e = .returned (.tuple #[.int .i64 (((zW p n).getD 0:Nat):Int),.bool (zW p n).isSome])/\Below w.heap.size w w':=by
 generalize hF:zW p n=F;have l:=hid hF;clear hF;go_enter func223,ntmps223
 go_wp2
 go_loopw [10] (λi wr=>∃k:Nat,k<=n/\i = .int .i64 k/\(∀j,j<k->p j=false)/\Below w.heap.size w wr) (λi _=>n-(intOf i).toNat)
 case atStart=>exact⟨0,zD _,rfl,λj h=>by omega,zf _ _⟩
 case round=>
  obtain⟨k,x,rfl,hb,c⟩:=hrel;have f:=hid hb;clear hb
  by_cases hlt:k<n
  ·have q:=zh c (s k hlt);have a:=λW hb=>t W k hlt hb;simp only at a
   cases hpp:p k with
   | false=>
    rw[hpp] at a;have r:=hid hpp;clear hpp
    go_wp2_with (go_at_fn g;refine (a _ c).mono ?_;rintro e w' ⟨rfl,d⟩)
    refine⟨⟨k+1,by omega,by go_num,λj h=>?_,c.trans (d.mono c.size)⟩,by simp[intOf];omega⟩
    by_cases hj:j=k
    ·subst hj;exact r.out
    ·exact f.out j (by omega)
   | true=>
    rw[hpp] at a;have e:=JG p n k hlt f.out hpp;rw[l.out] at e;subst e;clear hpp
    go_wp2_with (go_at_fn g;refine (a _ c).mono ?_;rintro e w' ⟨rfl,d⟩)
    go_ret2;exact⟨rfl,c.trans (d.mono c.size)⟩
  ·have e:=JH p n (λj h=>f.out j (by omega));rw[l.out] at e;subst e
   go_wp2
   go_ret2;exact⟨rfl,c⟩
theorem tZ(n b o cap g:Nat)(d:Array Value)(v:Nat->Int)(p:Nat->Bool)(w:World)(i:n<=1000000000000)(f:∀args w,(callFunc g args).run prog w = .ok (.enter g args) w)
  (h:∀j,j<n->w.cell? ⟨b,o+j,none⟩=some (.int .u8 (v j)))(k:ZA g d (λj => .int .u8 (v j)) n p w) :
  Calls prog 184 #[.slice (some ⟨b,o,none⟩) n cap,.func (.func g) #[] d] w λe w'=>
   e = .returned (.bool (zW p n).isSome)/\Below w.heap.size w w':=by
 have c:=X0 n b o cap g d v p w i f h k;generalize zW p n=F at c;go_enter func184,ntmps184
 go_wp2_with (go_at_call 223;refine c.mono ?_;rintro e w' ⟨rfl,a⟩)
 go_ret;exact⟨rfl,a⟩
theorem tQ(g:Nat)(b:Array Value)(x:Int)(B:Nat)(y:Bool)(w:World)(d:∀args w,(callFunc g args).run prog w = .ok (.enter g args) w)
  (f:w.cell? ⟨B,0,none⟩=some (.func (.func g) #[] b))(c:Calls prog g (#[.int .u8 x]++b) w λe w'=>e = .returned (.bool y)/\Below w.heap.size w w') :
  Calls prog 185 #[.int .u8 x,.pointer (some ⟨B,0,none⟩)] w λe w'=>e = .returned (.bool (!y))/\Below w.heap.size w w':=by
 go_enter func185,ntmps185
 go_wp2_with (go_at_fn g;refine c.mono ?_;rintro e w' ⟨rfl,a⟩)
 go_ret;exact⟨rfl,a⟩
theorem fu(n b o cap g:Nat)(a:Array Value)(v:Nat->Int)(p:Nat->Bool)(w:World)(l:n<=1000000000000)(i:∀args w,(callFunc g args).run prog w = .ok (.enter g args) w)
  (k:∀j,j<n->w.cell? ⟨b,o+j,none⟩=some (.int .u8 (v j)))(m:ZA g a (λj => .int .u8 (v j)) n p w) :
  Calls prog 132 #[.slice (some ⟨b,o,none⟩) n cap,.func (.func g) #[] a] w λe w'=>
   e = .returned (.bool (QH p n))/\Below w.heap.size w w':=by
 have h:∀args w,(callFunc 185 args).run prog w = .ok (.enter 185 args) w:=enters_of func185 (by kernel_rfl) rfl
 have c:=tZ n b o cap 185 #[.pointer (some ⟨w.heap.size,0,none⟩)] v (λj=>!p j) (w.alloc (.cells #[.func (.func g) #[] a] 257)) l h
  (λj f=>zh (nbl w _) (k j f))
  (λW j f hb=>by
    refine tQ g a (v j) w.heap.size (p j) W i ?_ (m W j f ((nbl w _).trans (hb.mono (by simp))));exact zh hb (by simp))
 rw[eZ];generalize zW (λj=>!p j) n=F at c;go_enter func132,ntmps132
 go_wp2_with (go_at_call 184;refine c.mono ?_;rintro e w' ⟨rfl,d⟩)
 go_ret;exact⟨rfl,(nbl w _).trans (d.mono (by simp))⟩
theorem dI(w:World):(Instr.typeAssert .nilIface 114 270 true).run prog w = .ok (.tuple #[.string ⟨#[]⟩,.bool false]) w:=by kernel_rfl
theorem Vd(v:Value)(w:World):(Instr.typeAssert (.iface 270 v) 114 270 true).run prog w = .ok (.tuple #[v,.bool true]) w:=by kernel_rfl
theorem dK(v:Value)(w:World):(Instr.typeAssert (.iface 271 v) 114 270 true).run prog w = .ok (.tuple #[.string ⟨#[]⟩,.bool false]) w:=by kernel_rfl
theorem dH(v:Value)(w:World):(Instr.typeAssert (.iface 121 v) 114 270 true).run prog w = .ok (.tuple #[.string ⟨#[]⟩,.bool false]) w:=by kernel_rfl
theorem dJ(v:Value)(w:World):(Instr.typeAssert (.iface 118 v) 114 270 true).run prog w = .ok (.tuple #[.string ⟨#[]⟩,.bool false]) w:=by kernel_rfl
theorem RA(v:Value)(w:World):(Instr.typeAssert (.iface 270 v) 114 271 true).run prog w = .ok (.tuple #[.bool false,.bool false]) w:=by kernel_rfl
theorem RD(v:Value)(w:World):(Instr.typeAssert (.iface 271 v) 114 271 true).run prog w = .ok (.tuple #[v,.bool true]) w:=by kernel_rfl
theorem Ry(v:Value)(w:World):(Instr.typeAssert (.iface 121 v) 114 271 true).run prog w = .ok (.tuple #[.bool false,.bool false]) w:=by kernel_rfl
theorem Rz(v:Value)(w:World):(Instr.typeAssert (.iface 118 v) 114 271 true).run prog w = .ok (.tuple #[.bool false,.bool false]) w:=by kernel_rfl
theorem Ro(w:World):(Instr.typeAssert .nilIface 114 121 true).run prog w = .ok (.tuple #[.slice none 0 0,.bool false]) w:=by kernel_rfl
theorem Rq(v:Value)(w:World):(Instr.typeAssert (.iface 270 v) 114 121 true).run prog w = .ok (.tuple #[.slice none 0 0,.bool false]) w:=by kernel_rfl
theorem Rs(v:Value)(w:World):(Instr.typeAssert (.iface 271 v) 114 121 true).run prog w = .ok (.tuple #[.slice none 0 0,.bool false]) w:=by kernel_rfl
theorem dD(v:Value)(w:World):(Instr.typeAssert (.iface 121 v) 114 121 true).run prog w = .ok (.tuple #[v,.bool true]) w:=by kernel_rfl
theorem Rp(v:Value)(w:World):(Instr.typeAssert (.iface 118 v) 114 121 true).run prog w = .ok (.tuple #[.slice none 0 0,.bool false]) w:=by kernel_rfl
theorem Ru(w:World):(Instr.typeAssert .nilIface 114 118 true).run prog w = .ok (.tuple #[.slice none 0 0,.bool false]) w:=by kernel_rfl
theorem Rv(v:Value)(w:World):(Instr.typeAssert (.iface 270 v) 114 118 true).run prog w = .ok (.tuple #[.slice none 0 0,.bool false]) w:=by kernel_rfl
theorem Rw(v:Value)(w:World):(Instr.typeAssert (.iface 271 v) 114 118 true).run prog w = .ok (.tuple #[.slice none 0 0,.bool false]) w:=by kernel_rfl
theorem Rt(v:Value)(w:World):(Instr.typeAssert (.iface 121 v) 114 118 true).run prog w = .ok (.tuple #[.slice none 0 0,.bool false]) w:=by kernel_rfl
theorem dG(v:Value)(w:World):(Instr.typeAssert (.iface 118 v) 114 118 true).run prog w = .ok (.tuple #[v,.bool true]) w:=by kernel_rfl
end Go.Proofs.YtdakgnaojakldaaGreatDoor
