/- P -/
import Derived.Test.YtdakgnaojakldabGreatDoorT01
import Derived.Shelf.Abstract
open Go.Proofs.Tryz
set_option maxRecDepth 100000
set_option maxHeartbeats 400000
namespace Go.Proofs.YtdakgnaojakldabGreatDoor
open Go.RowKit Go.Extern.Stop Go.Stop Go.Extern
theorem dh:xX 112:=
 ⟨λv w=>by kernel_rfl,
  λv a w=>run_typeAssert_lacksB underlying212 (by kernel_rfl) (by kernel_rfl) v a w,
  λv a w=>run_typeAssert_lacksB underlying205 (by kernel_rfl) (by kernel_rfl) v a w,
  λv a w=>run_typeAssert_lacksB underlying208 (by kernel_rfl) (by kernel_rfl) v a w,
  by decide⟩
theorem Hr:jB 112:=λv a w=>run_typeAssert_lacksB underlying207 (by kernel_rfl) (by kernel_rfl) v a w
theorem rF:Assign 112 112 true:=λw=>by kernel_rfl
theorem iG(a:Addr)(w:World):(ReflectliteValue.parts (.agg #[.pointer (some ⟨7,117,none⟩),.pointer (some a),.int .u64 150])).run prog w = .ok (some (117,a,150)) w:=by kernel_rfl
theorem Bd(w:World):(Rtype.elem? 117).run prog w = .ok (some 112) w:=by kernel_rfl
theorem GR(p:Addr)(w:World):(ReflectliteValue.mk 112 p ReflectliteValue.flagAddr).run prog w = .ok (.agg #[.pointer (some ⟨7,112,none⟩),.pointer (some p),.int .u64 409]) w:=by kernel_rfl
theorem XY:vB 112 117 where
 unpack:=λt w=>by kernel_rfl
 type:=λa w=>by kernel_rfl
 kindP:=λw=>by kernel_rfl
 kind:=λw=>by kernel_rfl
 isNil:=λa p W b=>by
  delta ReflectliteValue.method
  rw[uG];simp only[Sem.run_bind,iG,Result.andThen];simp[ReflectliteValue.isNil,loadVar,isAgg,underlying,underlying117,b,Result.andThen]
 elem:=λw=>by kernel_rfl
 impl:=λw=>by kernel_rfl
 elemV:=λa p W b=>by
  delta ReflectliteValue.method
  rw[uG];simp only[Sem.run_bind,iG,Result.andThen];simp[ReflectliteValue.elem,loadVar,isAgg,underlying,underlying117,b,Result.andThen,Bd,GR]
theorem IY(a:Addr)(w:World):(ReflectliteValue.parts (.agg #[.pointer (some ⟨7,112,none⟩),.pointer (some a),.int .u64 409])).run prog w = .ok (some (112,a,409)) w:=by kernel_rfl
theorem Ld(a:Addr)(w:World):(ReflectliteValue.parts (.agg #[.pointer (some ⟨7,112,none⟩),.pointer (some a),.int .u64 153])).run prog w = .ok (some (112,a,153)) w:=by kernel_rfl
theorem Ag(w:World):(Rtype.directlyAssignable 112 112).run prog w = .ok true w:=by kernel_rfl
theorem DL:ZC 112 (λx=>∃k,x = .int .i64 k) where
 held:=λx w h=>by obtain⟨k,rfl⟩:=h;kernel_rfl
 set:=λe b x old W h a d c=>by
  obtain⟨k,rfl⟩:=h
  delta ReflectliteValue.set
  rw[Xz];simp only[Sem.run_bind,IY,Ld,Result.andThen];simp[ReflectliteValue.flagAddr,loadVar,isAgg,Tryz.sizeOf112,loadCells,loadCellsFrom,a,Result.andThen,Ag,storeVar,Value.cells,storeCells,Addr.add];rw[run_store prog W e _ _ (by rfl)];simp[d,c]
theorem Ua:xX 113:=
 ⟨λv w=>by kernel_rfl,
  λv a w=>run_typeAssert_lacksB underlying212 (by kernel_rfl) (by kernel_rfl) v a w,
  λv a w=>run_typeAssert_lacksB underlying205 (by kernel_rfl) (by kernel_rfl) v a w,
  λv a w=>run_typeAssert_lacksB underlying208 (by kernel_rfl) (by kernel_rfl) v a w,
  by decide⟩
theorem gG:jB 113:=λv a w=>run_typeAssert_lacksB underlying207 (by kernel_rfl) (by kernel_rfl) v a w
theorem pY:Assign 113 112 false:=λw=>by kernel_rfl
theorem pX:Assign 113 113 true:=λw=>by kernel_rfl
theorem iC(a:Addr)(w:World):(ReflectliteValue.parts (.agg #[.pointer (some ⟨7,118,none⟩),.pointer (some a),.int .u64 150])).run prog w = .ok (some (118,a,150)) w:=by kernel_rfl
theorem AZ(w:World):(Rtype.elem? 118).run prog w = .ok (some 113) w:=by kernel_rfl
theorem GL(p:Addr)(w:World):(ReflectliteValue.mk 113 p ReflectliteValue.flagAddr).run prog w = .ok (.agg #[.pointer (some ⟨7,113,none⟩),.pointer (some p),.int .u64 409]) w:=by kernel_rfl
theorem YW:vB 113 118 where
 unpack:=λt w=>by kernel_rfl
 type:=λa w=>by kernel_rfl
 kindP:=λw=>by kernel_rfl
 kind:=λw=>by kernel_rfl
 isNil:=λa p W b=>by
  delta ReflectliteValue.method
  rw[uG];simp only[Sem.run_bind,iC,Result.andThen];simp[ReflectliteValue.isNil,loadVar,isAgg,underlying,underlying118,b,Result.andThen]
 elem:=λw=>by kernel_rfl
 impl:=λw=>by kernel_rfl
 elemV:=λa p W b=>by
  delta ReflectliteValue.method
  rw[uG];simp only[Sem.run_bind,iC,Result.andThen];simp[ReflectliteValue.elem,loadVar,isAgg,underlying,underlying118,b,Result.andThen,AZ,GL]
theorem IV(a:Addr)(w:World):(ReflectliteValue.parts (.agg #[.pointer (some ⟨7,113,none⟩),.pointer (some a),.int .u64 409])).run prog w = .ok (some (113,a,409)) w:=by kernel_rfl
theorem La(a:Addr)(w:World):(ReflectliteValue.parts (.agg #[.pointer (some ⟨7,113,none⟩),.pointer (some a),.int .u64 153])).run prog w = .ok (some (113,a,153)) w:=by kernel_rfl
theorem Ad(w:World):(Rtype.directlyAssignable 113 113).run prog w = .ok true w:=by kernel_rfl
theorem DI:ZC 113 (λx=>∃k,x = .int .i64 k) where
 held:=λx w h=>by obtain⟨k,rfl⟩:=h;kernel_rfl
 set:=λe b x old W h a d c=>by
  obtain⟨k,rfl⟩:=h
  delta ReflectliteValue.set
  rw[Xz];simp only[Sem.run_bind,IV,La,Result.andThen];simp[ReflectliteValue.flagAddr,loadVar,isAgg,Tryz.sizeOf113,loadCells,loadCellsFrom,a,Result.andThen,Ad,storeVar,Value.cells,storeCells,Addr.add];rw[run_store prog W e _ _ (by rfl)];simp[d,c]
theorem Jo:xX 114:=
 ⟨λv w=>by kernel_rfl,
  λv a w=>run_typeAssert_lacksB underlying212 (by kernel_rfl) (by kernel_rfl) v a w,
  λv a w=>run_typeAssert_lacksB underlying205 (by kernel_rfl) (by kernel_rfl) v a w,
  λv a w=>run_typeAssert_lacksB underlying208 (by kernel_rfl) (by kernel_rfl) v a w,
  by decide⟩
theorem UK:jB 114:=λv a w=>run_typeAssert_lacksB underlying207 (by kernel_rfl) (by kernel_rfl) v a w
theorem rH:Assign 114 112 false:=λw=>by kernel_rfl
theorem rG:Assign 114 113 false:=λw=>by kernel_rfl
theorem rJ:Assign 114 114 true:=λw=>by kernel_rfl
theorem iH(a:Addr)(w:World):(ReflectliteValue.parts (.agg #[.pointer (some ⟨7,119,none⟩),.pointer (some a),.int .u64 150])).run prog w = .ok (some (119,a,150)) w:=by kernel_rfl
theorem Be(w:World):(Rtype.elem? 119).run prog w = .ok (some 114) w:=by kernel_rfl
theorem GU(p:Addr)(w:World):(ReflectliteValue.mk 114 p ReflectliteValue.flagAddr).run prog w = .ok (.agg #[.pointer (some ⟨7,114,none⟩),.pointer (some p),.int .u64 409]) w:=by kernel_rfl
theorem Vl:vB 114 119 where
 unpack:=λt w=>by kernel_rfl
 type:=λa w=>by kernel_rfl
 kindP:=λw=>by kernel_rfl
 kind:=λw=>by kernel_rfl
 isNil:=λa p W b=>by
  delta ReflectliteValue.method
  rw[uG];simp only[Sem.run_bind,iH,Result.andThen];simp[ReflectliteValue.isNil,loadVar,isAgg,underlying,underlying119,b,Result.andThen]
 elem:=λw=>by kernel_rfl
 impl:=λw=>by kernel_rfl
 elemV:=λa p W b=>by
  delta ReflectliteValue.method
  rw[uG];simp only[Sem.run_bind,iH,Result.andThen];simp[ReflectliteValue.elem,loadVar,isAgg,underlying,underlying119,b,Result.andThen,Be,GU]
theorem IZ(a:Addr)(w:World):(ReflectliteValue.parts (.agg #[.pointer (some ⟨7,114,none⟩),.pointer (some a),.int .u64 409])).run prog w = .ok (some (114,a,409)) w:=by kernel_rfl
theorem Le(a:Addr)(w:World):(ReflectliteValue.parts (.agg #[.pointer (some ⟨7,114,none⟩),.pointer (some a),.int .u64 153])).run prog w = .ok (some (114,a,153)) w:=by kernel_rfl
theorem Ah(w:World):(Rtype.directlyAssignable 114 114).run prog w = .ok true w:=by kernel_rfl
theorem DN:ZC 114 (λx=>∃k,x = .int .i64 k) where
 held:=λx w h=>by obtain⟨k,rfl⟩:=h;kernel_rfl
 set:=λe b x old W h a d c=>by
  obtain⟨k,rfl⟩:=h
  delta ReflectliteValue.set
  rw[Xz];simp only[Sem.run_bind,IZ,Le,Result.andThen];simp[ReflectliteValue.flagAddr,loadVar,isAgg,Tryz.sizeOf114,loadCells,loadCellsFrom,a,Result.andThen,Ah,storeVar,Value.cells,storeCells,Addr.add];rw[run_store prog W e _ _ (by rfl)];simp[d,c]
theorem XA:xX 165:=
 ⟨λv w=>by kernel_rfl,
  λv a w=>run_typeAssert_lacksB underlying212 (by kernel_rfl) (by kernel_rfl) v a w,
  λv a w=>run_typeAssert_lacksB underlying205 (by kernel_rfl) (by kernel_rfl) v a w,
  λv a w=>run_typeAssert_lacksB underlying208 (by kernel_rfl) (by kernel_rfl) v a w,
  by decide⟩
theorem YF:jB 165:=λv a w=>run_typeAssert_lacksB underlying207 (by kernel_rfl) (by kernel_rfl) v a w
theorem rz:Assign 165 112 false:=λw=>by kernel_rfl
theorem rf:Assign 165 113 false:=λw=>by kernel_rfl
theorem rA:Assign 165 114 false:=λw=>by kernel_rfl
theorem rq:Assign 165 165 true:=λw=>by kernel_rfl
theorem ry:Assign 165 96 false:=λw=>by kernel_rfl
theorem iD(a:Addr)(w:World):(ReflectliteValue.parts (.agg #[.pointer (some ⟨7,167,none⟩),.pointer (some a),.int .u64 150])).run prog w = .ok (some (167,a,150)) w:=by kernel_rfl
theorem Ba(w:World):(Rtype.elem? 167).run prog w = .ok (some 165) w:=by kernel_rfl
theorem GM(p:Addr)(w:World):(ReflectliteValue.mk 165 p ReflectliteValue.flagAddr).run prog w = .ok (.agg #[.pointer (some ⟨7,165,none⟩),.pointer (some p),.int .u64 409]) w:=by kernel_rfl
theorem KI:vB 165 167 where
 unpack:=λt w=>by kernel_rfl
 type:=λa w=>by kernel_rfl
 kindP:=λw=>by kernel_rfl
 kind:=λw=>by kernel_rfl
 isNil:=λa p W b=>by
  delta ReflectliteValue.method
  rw[uG];simp only[Sem.run_bind,iD,Result.andThen];simp[ReflectliteValue.isNil,loadVar,isAgg,underlying,underlying167,b,Result.andThen]
 elem:=λw=>by kernel_rfl
 impl:=λw=>by kernel_rfl
 elemV:=λa p W b=>by
  delta ReflectliteValue.method
  rw[uG];simp only[Sem.run_bind,iD,Result.andThen];simp[ReflectliteValue.elem,loadVar,isAgg,underlying,underlying167,b,Result.andThen,Ba,GM]
theorem IW(a:Addr)(w:World):(ReflectliteValue.parts (.agg #[.pointer (some ⟨7,165,none⟩),.pointer (some a),.int .u64 409])).run prog w = .ok (some (165,a,409)) w:=by kernel_rfl
theorem Lb(a:Addr)(w:World):(ReflectliteValue.parts (.agg #[.pointer (some ⟨7,165,none⟩),.pointer (some a),.int .u64 153])).run prog w = .ok (some (165,a,153)) w:=by kernel_rfl
theorem Ae(w:World):(Rtype.directlyAssignable 165 165).run prog w = .ok true w:=by kernel_rfl
theorem DJ:ZC 165 (λx=>∃k,x = .int .i64 k) where
 held:=λx w h=>by obtain⟨k,rfl⟩:=h;kernel_rfl
 set:=λe b x old W h a d c=>by
  obtain⟨k,rfl⟩:=h
  delta ReflectliteValue.set
  rw[Xz];simp only[Sem.run_bind,IW,Lb,Result.andThen];simp[ReflectliteValue.flagAddr,loadVar,isAgg,Tryz.sizeOf165,loadCells,loadCellsFrom,a,Result.andThen,Ae,storeVar,Value.cells,storeCells,Addr.add];rw[run_store prog W e _ _ (by rfl)];simp[d,c]
theorem uH:xX 96:=
 ⟨λv w=>by kernel_rfl,
  λv a w=>run_typeAssert_lacksB underlying212 (by kernel_rfl) (by kernel_rfl) v a w,
  λv a w=>run_typeAssert_lacksB underlying205 (by kernel_rfl) (by kernel_rfl) v a w,
  λv a w=>run_typeAssert_lacksB underlying208 (by kernel_rfl) (by kernel_rfl) v a w,
  by decide⟩
theorem kJ:jB 96:=λv a w=>run_typeAssert_lacksB underlying207 (by kernel_rfl) (by kernel_rfl) v a w
theorem az:Assign 96 112 false:=λw=>by kernel_rfl
theorem ax:Assign 96 113 false:=λw=>by kernel_rfl
theorem aB:Assign 96 114 false:=λw=>by kernel_rfl
theorem ay:Assign 96 165 false:=λw=>by kernel_rfl
theorem rC:Assign 96 96 true:=λw=>by kernel_rfl
theorem rD:Assign 96 110 false:=λw=>by kernel_rfl
theorem iE(a:Addr)(w:World):(ReflectliteValue.parts (.agg #[.pointer (some ⟨7,242,none⟩),.pointer (some a),.int .u64 150])).run prog w = .ok (some (242,a,150)) w:=by kernel_rfl
theorem Bb(w:World):(Rtype.elem? 242).run prog w = .ok (some 96) w:=by kernel_rfl
theorem GN(p:Addr)(w:World):(ReflectliteValue.mk 96 p ReflectliteValue.flagAddr).run prog w = .ok (.agg #[.pointer (some ⟨7,96,none⟩),.pointer (some p),.int .u64 409]) w:=by kernel_rfl
theorem KJ:vB 96 242 where
 unpack:=λt w=>by kernel_rfl
 type:=λa w=>by kernel_rfl
 kindP:=λw=>by kernel_rfl
 kind:=λw=>by kernel_rfl
 isNil:=λa p W b=>by
  delta ReflectliteValue.method
  rw[uG];simp only[Sem.run_bind,iE,Result.andThen];simp[ReflectliteValue.isNil,loadVar,isAgg,underlying,underlying242,b,Result.andThen]
 elem:=λw=>by kernel_rfl
 impl:=λw=>by kernel_rfl
 elemV:=λa p W b=>by
  delta ReflectliteValue.method
  rw[uG];simp only[Sem.run_bind,iE,Result.andThen];simp[ReflectliteValue.elem,loadVar,isAgg,underlying,underlying242,b,Result.andThen,Bb,GN]
theorem IX(a:Addr)(w:World):(ReflectliteValue.parts (.agg #[.pointer (some ⟨7,96,none⟩),.pointer (some a),.int .u64 409])).run prog w = .ok (some (96,a,409)) w:=by kernel_rfl
theorem Lc(a:Addr)(w:World):(ReflectliteValue.parts (.agg #[.pointer (some ⟨7,96,none⟩),.pointer (some a),.int .u64 153])).run prog w = .ok (some (96,a,153)) w:=by kernel_rfl
theorem Af(w:World):(Rtype.directlyAssignable 96 96).run prog w = .ok true w:=by kernel_rfl
theorem DK:ZC 96 (λx=>∃s,x = .string s) where
 held:=λx w h=>by obtain⟨k,rfl⟩:=h;kernel_rfl
 set:=λe b x old W h a d c=>by
  obtain⟨k,rfl⟩:=h
  delta ReflectliteValue.set
  rw[Xz];simp only[Sem.run_bind,IX,Lc,Result.andThen];simp[ReflectliteValue.flagAddr,loadVar,isAgg,Tryz.sizeOf96,loadCells,loadCellsFrom,a,Result.andThen,Af,storeVar,Value.cells,storeCells,Addr.add];rw[run_store prog W e _ _ (by rfl)];simp[d,c]
theorem Yu:xX 110:=
 ⟨λv w=>by kernel_rfl,
  λv a w=>run_typeAssert_lacksB underlying212 (by kernel_rfl) (by kernel_rfl) v a w,
  λv a w=>run_typeAssert_lacksB underlying205 (by kernel_rfl) (by kernel_rfl) v a w,
  λv a w=>run_typeAssert_lacksB underlying208 (by kernel_rfl) (by kernel_rfl) v a w,
  by decide⟩
theorem aF:Assign 110 112 false:=λw=>by kernel_rfl
theorem aC:Assign 110 113 false:=λw=>by kernel_rfl
theorem aG:Assign 110 114 false:=λw=>by kernel_rfl
theorem aD:Assign 110 165 false:=λw=>by kernel_rfl
theorem rE:Assign 110 110 true:=λw=>by kernel_rfl
theorem iF(a:Addr)(w:World):(ReflectliteValue.parts (.agg #[.pointer (some ⟨7,166,none⟩),.pointer (some a),.int .u64 150])).run prog w = .ok (some (166,a,150)) w:=by kernel_rfl
theorem Bc(w:World):(Rtype.elem? 166).run prog w = .ok (some 110) w:=by kernel_rfl
theorem GQ(p:Addr)(w:World):(ReflectliteValue.mk 110 p ReflectliteValue.flagAddr).run prog w = .ok (.agg #[.pointer (some ⟨7,110,none⟩),.pointer (some p),.int .u64 409]) w:=by kernel_rfl
theorem KL:vB 110 166 where
 unpack:=λt w=>by kernel_rfl
 type:=λa w=>by kernel_rfl
 kindP:=λw=>by kernel_rfl
 kind:=λw=>by kernel_rfl
 isNil:=λa p W b=>by
  delta ReflectliteValue.method
  rw[uG];simp only[Sem.run_bind,iF,Result.andThen];simp[ReflectliteValue.isNil,loadVar,isAgg,underlying,underlying166,b,Result.andThen]
 elem:=λw=>by kernel_rfl
 impl:=λw=>by kernel_rfl
 elemV:=λa p W b=>by
  delta ReflectliteValue.method
  rw[uG];simp only[Sem.run_bind,iF,Result.andThen];simp[ReflectliteValue.elem,loadVar,isAgg,underlying,underlying166,b,Result.andThen,Bc,GQ]
end Go.Proofs.YtdakgnaojakldabGreatDoor
namespace Go.Proofs.YtdakgnaojakldabGreatDoor
open Go.RowKit
def yE(g:Nat)(b:Array Value)(a:Nat->Value)(n:Nat)(p:Nat->Bool)(w:World):Prop:=
 ∀W j,j<n->Below w.heap.size w W->Calls prog g (#[a j]++b) W λe c=>e = .returned (.bool (p j))/\Below W.heap.size W c
def zm(p:Nat->Bool)(n:Nat):Option Nat:=(List.range n).find? p
def jD(p:Nat->Bool)(n:Nat):Bool:=(List.range n).all p
theorem kD(p:Nat->Bool)(n k:Nat)(c:k<n)(a:∀j,j<k->p j=false)(h:p k=true):zm p n=some k:=by
 unfold zm;rw[List.find?_range_eq_some];exact⟨h,by simpa using c,λj b=>by simp[a j b]⟩
theorem kE(p:Nat->Bool)(n:Nat)(a:∀j,j<n->p j=false):zm p n=none:=by
 unfold zm;rw[List.find?_eq_none];intro j b;simp[a j (List.mem_range.1 b)]
theorem Y5(p:Nat->Bool)(n:Nat):jD p n=(zm (λj=>!p j) n).isNone:=by
 unfold jD zm;rw[Bool.eq_iff_iff]
 simp
theorem Jr(n b o cap g:Nat)(s:Array Value)(v:Nat->Int)(p:Nat->Bool)(w:World)(A:n<=1000000000000)(y:∀args w,(callFunc g args).run prog w = .ok (.enter g args) w)
  (u:∀j,j<n->w.cell? ⟨b,o+j,none⟩=some (.int .u8 (v j)))(x:yE g s (λj => .int .u8 (v j)) n p w) :
  Calls prog 102 #[.slice (some ⟨b,o,none⟩) n cap,.func (.func g) #[] s] w λe m=>
   e = .returned (.tuple #[.int .i64 (((zm p n).getD 0:Nat):Int),.bool (zm p n).isSome])/\Below w.heap.size w m:=by
 generalize hF:zm p n=F;have r:=hid hF;clear hF;go_enter func102,ntmps102
 go_wp2
 go_loopw [10] (λi wr=>∃k:Nat,k<=n/\i = .int .i64 k/\(∀j,j<k->p j=false)/\Below w.heap.size w wr) (λi _=>n-(intOf i).toNat)
 case atStart=>exact⟨0,Nat.zero_le _,rfl,λj h=>by omega,Below.refl _ _⟩
 case round=>
  obtain⟨k,z,rfl,f,c⟩:=hrel;have l:=hid f;clear f
  by_cases hlt:k<n
  ·have q:=zb c (u k hlt);have a:=λW f=>x W k hlt f;simp only at a
   cases hpp:p k with
   | false=>
    rw[hpp] at a;have t:=hid hpp;clear hpp
    go_wp2_with (go_at_fn g;refine (a _ c).mono ?_;rintro e m ⟨rfl,d⟩)
    refine⟨⟨k+1,by omega,by go_num,λj h=>?_,c.trans (d.mono c.size)⟩,by simp[intOf];omega⟩
    by_cases hj:j=k
    ·subst hj;exact t.out
    ·exact l.out j (by omega)
   | true=>
    rw[hpp] at a;have e:=kD p n k hlt l.out hpp;rw[r.out] at e;subst e;clear hpp
    go_wp2_with (go_at_fn g;refine (a _ c).mono ?_;rintro e m ⟨rfl,d⟩)
    go_ret2;exact⟨rfl,c.trans (d.mono c.size)⟩
  ·have e:=kE p n (λj h=>l.out j (by omega));rw[r.out] at e;subst e
   go_wp2
   go_ret2;exact⟨rfl,c⟩
theorem pg(n b o cap g:Nat)(d:Array Value)(v:Nat->Int)(p:Nat->Bool)(w:World)(k:n<=1000000000000)(h:∀args w,(callFunc g args).run prog w = .ok (.enter g args) w)
  (i:∀j,j<n->w.cell? ⟨b,o+j,none⟩=some (.int .u8 (v j)))(l:yE g d (λj => .int .u8 (v j)) n p w) :
  Calls prog 80 #[.slice (some ⟨b,o,none⟩) n cap,.func (.func g) #[] d] w λe f=>
   e = .returned (.bool (zm p n).isSome)/\Below w.heap.size w f:=by
 have c:=Jr n b o cap g d v p w k h i l;generalize zm p n=F at c;go_enter func80,ntmps80
 go_wp2_with (go_at_call 102;refine c.mono ?_;rintro e f ⟨rfl,a⟩)
 go_ret;exact⟨rfl,a⟩
theorem oF(g:Nat)(c:Array Value)(x:Int)(B:Nat)(y:Bool)(w:World)(f:∀args w,(callFunc g args).run prog w = .ok (.enter g args) w)
  (h:w.cell? ⟨B,0,none⟩=some (.func (.func g) #[] c))(d:Calls prog g (#[.int .u8 x]++c) w λe a=>e = .returned (.bool y)/\Below w.heap.size w a) :
  Calls prog 81 #[.int .u8 x,.pointer (some ⟨B,0,none⟩)] w λe a=>e = .returned (.bool (!y))/\Below w.heap.size w a:=by
 go_enter func81,ntmps81
 go_wp2_with (go_at_fn g;refine d.mono ?_;rintro e a ⟨rfl,b⟩)
 go_ret;exact⟨rfl,b⟩
theorem af(n b o cap g:Nat)(a:Array Value)(v:Nat->Int)(p:Nat->Bool)(w:World)(q:n<=1000000000000)(l:∀args w,(callFunc g args).run prog w = .ok (.enter g args) w)
  (m:∀j,j<n->w.cell? ⟨b,o+j,none⟩=some (.int .u8 (v j)))(r:yE g a (λj => .int .u8 (v j)) n p w) :
  Calls prog 49 #[.slice (some ⟨b,o,none⟩) n cap,.func (.func g) #[] a] w λe i=>
   e = .returned (.bool (jD p n))/\Below w.heap.size w i:=by
 have k:∀args w,(callFunc 81 args).run prog w = .ok (.enter 81 args) w:=enters_of func81 (by kernel_rfl) rfl
 have c:=pg n b o cap 81 #[.pointer (some ⟨w.heap.size,0,none⟩)] v (λj=>!p j) (w.alloc (.cells #[.func (.func g) #[] a] 131)) q k
  (λj f=>zb (nB w _) (m j f))
  (λW j f h=>by
    refine oF g a (v j) w.heap.size (p j) W l ?_ (r W j f ((nB w _).trans (h.mono (by simp))));exact zb h (by simp))
 rw[Y5];generalize zm (λj=>!p j) n=F at c;go_enter func49,ntmps49
 go_wp2_with (go_at_call 80;refine c.mono ?_;rintro e i ⟨rfl,d⟩)
 go_ret;exact⟨rfl,(nB w _).trans (d.mono (by simp))⟩
def rowAt(w:World)(ao:Option Addr)(n:Nat)(v:Nat->Int):Prop:=
 n=0\/∃b o,ao=some ⟨b,o,none⟩/\∀j,j<n->w.cell? ⟨b,o+j,none⟩=some (.int .i32 (v j))
theorem Ke{w a:World}{ao:Option Addr}{n:Nat}{v:Nat->Int}(h:rowAt w ao n v)(c:Below w.heap.size w a):rowAt a ao n v:=by
 rcases h with h|⟨b,o,h1,h2⟩
 ·exact .inl h
 ·exact .inr ⟨b,o,h1,λj d=>zb c (h2 j d)⟩
theorem Ck(n:Nat)(ao:Option Addr)(cap g:Nat)(s:Array Value)(v:Nat->Int)(p:Nat->Bool)(w:World)(A:n<=1000000000000)(y:∀args w,(callFunc g args).run prog w = .ok (.enter g args) w)
  (u:rowAt w ao n v)(x:yE g s (λj => .int .i32 (v j)) n p w) :
  Calls prog 161 #[.slice ao n cap,.func (.func g) #[] s] w λe m=>
   e = .returned (.tuple #[.int .i64 (((zm p n).getD 0:Nat):Int),.bool (zm p n).isSome])/\Below w.heap.size w m:=by
 generalize hF:zm p n=F;have r:=hid hF;clear hF;go_enter func161,ntmps161
 go_wp2
 go_loopw [10] (λi wr=>∃k:Nat,k<=n/\i = .int .i64 k/\(∀j,j<k->p j=false)/\Below w.heap.size w wr) (λi _=>n-(intOf i).toNat)
 case atStart=>exact⟨0,Nat.zero_le _,rfl,λj h=>by omega,Below.refl _ _⟩
 case round=>
  obtain⟨k,z,rfl,f,c⟩:=hrel;have l:=hid f;clear f
  by_cases hlt:k<n
  ·rcases u with h0|⟨b,o,rfl,hcc⟩
   ·omega
   have q:=zb c (hcc k hlt);have a:=λW f=>x W k hlt f;simp only at a
   cases hpp:p k with
   | false=>
    rw[hpp] at a;have t:=hid hpp;clear hpp
    go_wp2_with (go_at_fn g;refine (a _ c).mono ?_;rintro e m ⟨rfl,d⟩)
    refine⟨⟨k+1,by omega,by go_num,λj h=>?_,c.trans (d.mono c.size)⟩,by simp[intOf];omega⟩
    by_cases hj:j=k
    ·subst hj;exact t.out
    ·exact l.out j (by omega)
   | true=>
    rw[hpp] at a;have e:=kD p n k hlt l.out hpp;rw[r.out] at e;subst e;clear hpp
    go_wp2_with (go_at_fn g;refine (a _ c).mono ?_;rintro e m ⟨rfl,d⟩)
    go_ret2;exact⟨rfl,c.trans (d.mono c.size)⟩
  ·have e:=kE p n (λj h=>l.out j (by omega));rw[r.out] at e;subst e
   go_wp2
   go_ret2;exact⟨rfl,c⟩
theorem pG(n:Nat)(ao:Option Addr)(cap g:Nat)(b:Array Value)(v:Nat->Int)(p:Nat->Bool)(w:World)(i:n<=1000000000000)(f:∀args w,(callFunc g args).run prog w = .ok (.enter g args) w)
  (h:rowAt w ao n v)(k:yE g b (λj => .int .i32 (v j)) n p w) :
  Calls prog 157 #[.slice ao n cap,.func (.func g) #[] b] w λe d=>
   e = .returned (.bool (zm p n).isSome)/\Below w.heap.size w d:=by
 have c:=Ck n ao cap g b v p w i f h k;generalize zm p n=F at c;go_enter func157,ntmps157
 go_wp2_with (go_at_call 161;refine c.mono ?_;rintro e d ⟨rfl,a⟩)
 go_ret;exact⟨rfl,a⟩
theorem oO(g:Nat)(c:Array Value)(x:Int)(B:Nat)(y:Bool)(w:World)(f:∀args w,(callFunc g args).run prog w = .ok (.enter g args) w)
  (h:w.cell? ⟨B,0,none⟩=some (.func (.func g) #[] c))(d:Calls prog g (#[.int .i32 x]++c) w λe a=>e = .returned (.bool y)/\Below w.heap.size w a) :
  Calls prog 158 #[.int .i32 x,.pointer (some ⟨B,0,none⟩)] w λe a=>e = .returned (.bool (!y))/\Below w.heap.size w a:=by
 go_enter func158,ntmps158
 go_wp2_with (go_at_fn g;refine d.mono ?_;rintro e a ⟨rfl,b⟩)
 go_ret;exact⟨rfl,b⟩
theorem oN(n:Nat)(ao:Option Addr)(cap g:Nat)(a:Array Value)(v:Nat->Int)(p:Nat->Bool)(w:World)(m:n<=1000000000000)(i:∀args w,(callFunc g args).run prog w = .ok (.enter g args) w)
  (k:rowAt w ao n v)(o:yE g a (λj => .int .i32 (v j)) n p w) :
  Calls prog 152 #[.slice ao n cap,.func (.func g) #[] a] w λe f=>
   e = .returned (.bool (jD p n))/\Below w.heap.size w f:=by
 have h:∀args w,(callFunc 158 args).run prog w = .ok (.enter 158 args) w:=enters_of func158 (by kernel_rfl) rfl
 have c:=pG n ao cap 158 #[.pointer (some ⟨w.heap.size,0,none⟩)] v (λj=>!p j) (w.alloc (.cells #[.func (.func g) #[] a] 283)) m h
  (Ke k (nB w _))
  (λW j l d=>by
    refine oO g a (v j) w.heap.size (p j) W i ?_ (o W j l ((nB w _).trans (d.mono (by simp))));exact zb d (by simp))
 rw[Y5];generalize zm (λj=>!p j) n=F at c;go_enter func152,ntmps152
 go_wp2_with (go_at_call 157;refine c.mono ?_;rintro e f ⟨rfl,b⟩)
 go_ret;exact⟨rfl,(nB w _).trans (b.mono (by simp))⟩
theorem KD(w:World):(Instr.typeAssert .nilIface 85 188 true).run prog w = .ok (.tuple #[.string ⟨#[]⟩,.bool false]) w:=by kernel_rfl
theorem YU(v:Value)(w:World):(Instr.typeAssert (.iface 188 v) 85 188 true).run prog w = .ok (.tuple #[v,.bool true]) w:=by kernel_rfl
theorem KF(v:Value)(w:World):(Instr.typeAssert (.iface 189 v) 85 188 true).run prog w = .ok (.tuple #[.string ⟨#[]⟩,.bool false]) w:=by kernel_rfl
theorem KA(v:Value)(w:World):(Instr.typeAssert (.iface 92 v) 85 188 true).run prog w = .ok (.tuple #[.string ⟨#[]⟩,.bool false]) w:=by kernel_rfl
theorem KE(v:Value)(w:World):(Instr.typeAssert (.iface 89 v) 85 188 true).run prog w = .ok (.tuple #[.string ⟨#[]⟩,.bool false]) w:=by kernel_rfl
theorem PH(v:Value)(w:World):(Instr.typeAssert (.iface 188 v) 85 189 true).run prog w = .ok (.tuple #[.bool false,.bool false]) w:=by kernel_rfl
theorem PI(v:Value)(w:World):(Instr.typeAssert (.iface 189 v) 85 189 true).run prog w = .ok (.tuple #[v,.bool true]) w:=by kernel_rfl
theorem PE(v:Value)(w:World):(Instr.typeAssert (.iface 92 v) 85 189 true).run prog w = .ok (.tuple #[.bool false,.bool false]) w:=by kernel_rfl
theorem PG(v:Value)(w:World):(Instr.typeAssert (.iface 89 v) 85 189 true).run prog w = .ok (.tuple #[.bool false,.bool false]) w:=by kernel_rfl
theorem Pq(w:World):(Instr.typeAssert .nilIface 85 92 true).run prog w = .ok (.tuple #[.slice none 0 0,.bool false]) w:=by kernel_rfl
theorem Pt(v:Value)(w:World):(Instr.typeAssert (.iface 188 v) 85 92 true).run prog w = .ok (.tuple #[.slice none 0 0,.bool false]) w:=by kernel_rfl
theorem Pv(v:Value)(w:World):(Instr.typeAssert (.iface 189 v) 85 92 true).run prog w = .ok (.tuple #[.slice none 0 0,.bool false]) w:=by kernel_rfl
theorem Kv(v:Value)(w:World):(Instr.typeAssert (.iface 92 v) 85 92 true).run prog w = .ok (.tuple #[v,.bool true]) w:=by kernel_rfl
theorem Ps(v:Value)(w:World):(Instr.typeAssert (.iface 89 v) 85 92 true).run prog w = .ok (.tuple #[.slice none 0 0,.bool false]) w:=by kernel_rfl
theorem Px(w:World):(Instr.typeAssert .nilIface 85 89 true).run prog w = .ok (.tuple #[.slice none 0 0,.bool false]) w:=by kernel_rfl
theorem Py(v:Value)(w:World):(Instr.typeAssert (.iface 188 v) 85 89 true).run prog w = .ok (.tuple #[.slice none 0 0,.bool false]) w:=by kernel_rfl
theorem Pz(v:Value)(w:World):(Instr.typeAssert (.iface 189 v) 85 89 true).run prog w = .ok (.tuple #[.slice none 0 0,.bool false]) w:=by kernel_rfl
theorem Pw(v:Value)(w:World):(Instr.typeAssert (.iface 92 v) 85 89 true).run prog w = .ok (.tuple #[.slice none 0 0,.bool false]) w:=by kernel_rfl
theorem Kz(v:Value)(w:World):(Instr.typeAssert (.iface 89 v) 85 89 true).run prog w = .ok (.tuple #[v,.bool true]) w:=by kernel_rfl
end Go.Proofs.YtdakgnaojakldabGreatDoor
