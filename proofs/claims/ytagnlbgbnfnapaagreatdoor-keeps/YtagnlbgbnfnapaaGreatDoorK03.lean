/- P -/
import Derived.Test.YtagnlbgbnfnapaaGreatDoorK02
open Go.Proofs.Tryz
set_option maxRecDepth 100000
set_option maxHeartbeats 400000
namespace Go.Proofs.YtagnlbgbnfnapaaGreatDoor
open Go.RowKit Go.Extern.Stop Go.Stop Go.Extern
theorem lH:yN 145:=
 ⟨λv w=>by kernel_rfl,
  λv a w=>yV underlying298 (by kernel_rfl) (by kernel_rfl) v a w,
  λv a w=>yV underlying291 (by kernel_rfl) (by kernel_rfl) v a w,
  λv a w=>yV underlying294 (by kernel_rfl) (by kernel_rfl) v a w,
  by decide⟩
theorem Mi:vR 145:=λv a w=>yV underlying293 (by kernel_rfl) (by kernel_rfl) v a w
theorem Ap:Assign 145 145 true:=λw=>by kernel_rfl
theorem pu(a:Addr)(w:World):(ReflectliteValue.parts (.agg #[.pointer (some ⟨7,150,none⟩),.pointer (some a),.int .u64 150])).run prog w = .ok (some (150,a,150)) w:=by kernel_rfl
theorem Eb(w:World):(Rtype.elem? 150).run prog w = .ok (some 145) w:=by kernel_rfl
theorem LX(p:Addr)(w:World):(ReflectliteValue.mk 145 p ReflectliteValue.flagAddr).run prog w = .ok (.agg #[.pointer (some ⟨7,145,none⟩),.pointer (some p),.int .u64 409]) w:=by kernel_rfl
theorem Je:uj 145 150 where
 unpack:=λt w=>by kernel_rfl
 type:=λa w=>by kernel_rfl
 kindP:=λw=>by kernel_rfl
 kind:=λw=>by kernel_rfl
 isNil:=λa p W b=>by
  delta ReflectliteValue.method
  rw[Zl];simp only[vC,pu,Result.andThen];simp[ReflectliteValue.isNil,loadVar,isAgg,underlying,underlying150,b,Result.andThen]
 elem:=λw=>by kernel_rfl
 impl:=λw=>by kernel_rfl
 elemV:=λa p W b=>by
  delta ReflectliteValue.method
  rw[Zl];simp only[vC,pu,Result.andThen];simp[ReflectliteValue.elem,loadVar,isAgg,underlying,underlying150,b,Result.andThen,Eb,LX]
theorem Nf(a:Addr)(w:World):(ReflectliteValue.parts (.agg #[.pointer (some ⟨7,145,none⟩),.pointer (some a),.int .u64 409])).run prog w = .ok (some (145,a,409)) w:=by kernel_rfl
theorem Nk(a:Addr)(w:World):(ReflectliteValue.parts (.agg #[.pointer (some ⟨7,145,none⟩),.pointer (some a),.int .u64 153])).run prog w = .ok (some (145,a,153)) w:=by kernel_rfl
theorem Dm(w:World):(Rtype.directlyAssignable 145 145).run prog w = .ok true w:=by kernel_rfl
theorem Gh:QA 145 (λx=>∃k,x = .int .i64 k) where
 held:=λx w h=>by obtain⟨k,rfl⟩:=h;kernel_rfl
 set:=λd b x old W h hb c a=>by
  obtain⟨k,rfl⟩:=h
  delta ReflectliteValue.set
  rw[YO];simp only[vC,Nf,Nk,Result.andThen];simp[ReflectliteValue.flagAddr,loadVar,isAgg,Tryz.sizeOf145,loadCells,loadCellsFrom,hb,Result.andThen,Dm,storeVar,Value.cells,storeCells,Addr.add];rw[Zv prog W d _ _ (by rfl)];simp[c,a]
theorem aj:yN 146:=
 ⟨λv w=>by kernel_rfl,
  λv a w=>yV underlying298 (by kernel_rfl) (by kernel_rfl) v a w,
  λv a w=>yV underlying291 (by kernel_rfl) (by kernel_rfl) v a w,
  λv a w=>yV underlying294 (by kernel_rfl) (by kernel_rfl) v a w,
  by decide⟩
theorem og:vR 146:=λv a w=>yV underlying293 (by kernel_rfl) (by kernel_rfl) v a w
theorem Ag:Assign 146 145 false:=λw=>by kernel_rfl
theorem Af:Assign 146 146 true:=λw=>by kernel_rfl
theorem oW(a:Addr)(w:World):(ReflectliteValue.parts (.agg #[.pointer (some ⟨7,151,none⟩),.pointer (some a),.int .u64 150])).run prog w = .ok (some (151,a,150)) w:=by kernel_rfl
theorem DX(w:World):(Rtype.elem? 151).run prog w = .ok (some 146) w:=by kernel_rfl
theorem LQ(p:Addr)(w:World):(ReflectliteValue.mk 146 p ReflectliteValue.flagAddr).run prog w = .ok (.agg #[.pointer (some ⟨7,146,none⟩),.pointer (some p),.int .u64 409]) w:=by kernel_rfl
theorem Vm:uj 146 151 where
 unpack:=λt w=>by kernel_rfl
 type:=λa w=>by kernel_rfl
 kindP:=λw=>by kernel_rfl
 kind:=λw=>by kernel_rfl
 isNil:=λa p W b=>by
  delta ReflectliteValue.method
  rw[Zl];simp only[vC,oW,Result.andThen];simp[ReflectliteValue.isNil,loadVar,isAgg,underlying,underlying151,b,Result.andThen]
 elem:=λw=>by kernel_rfl
 impl:=λw=>by kernel_rfl
 elemV:=λa p W b=>by
  delta ReflectliteValue.method
  rw[Zl];simp only[vC,oW,Result.andThen];simp[ReflectliteValue.elem,loadVar,isAgg,underlying,underlying151,b,Result.andThen,DX,LQ]
theorem Na(a:Addr)(w:World):(ReflectliteValue.parts (.agg #[.pointer (some ⟨7,146,none⟩),.pointer (some a),.int .u64 409])).run prog w = .ok (some (146,a,409)) w:=by kernel_rfl
theorem Nh(a:Addr)(w:World):(ReflectliteValue.parts (.agg #[.pointer (some ⟨7,146,none⟩),.pointer (some a),.int .u64 153])).run prog w = .ok (some (146,a,153)) w:=by kernel_rfl
theorem Dj(w:World):(Rtype.directlyAssignable 146 146).run prog w = .ok true w:=by kernel_rfl
theorem Gd:QA 146 (λx=>∃k,x = .int .i64 k) where
 held:=λx w h=>by obtain⟨k,rfl⟩:=h;kernel_rfl
 set:=λd b x old W h hb c a=>by
  obtain⟨k,rfl⟩:=h
  delta ReflectliteValue.set
  rw[YO];simp only[vC,Na,Nh,Result.andThen];simp[ReflectliteValue.flagAddr,loadVar,isAgg,Tryz.sizeOf146,loadCells,loadCellsFrom,hb,Result.andThen,Dj,storeVar,Value.cells,storeCells,Addr.add];rw[Zv prog W d _ _ (by rfl)];simp[c,a]
theorem V8:yN 147:=
 ⟨λv w=>by kernel_rfl,
  λv a w=>yV underlying298 (by kernel_rfl) (by kernel_rfl) v a w,
  λv a w=>yV underlying291 (by kernel_rfl) (by kernel_rfl) v a w,
  λv a w=>yV underlying294 (by kernel_rfl) (by kernel_rfl) v a w,
  by decide⟩
theorem bI:vR 147:=λv a w=>yV underlying293 (by kernel_rfl) (by kernel_rfl) v a w
theorem Ar:Assign 147 145 false:=λw=>by kernel_rfl
theorem Aq:Assign 147 146 false:=λw=>by kernel_rfl
theorem Au:Assign 147 147 true:=λw=>by kernel_rfl
theorem pz(a:Addr)(w:World):(ReflectliteValue.parts (.agg #[.pointer (some ⟨7,152,none⟩),.pointer (some a),.int .u64 150])).run prog w = .ok (some (152,a,150)) w:=by kernel_rfl
theorem Ec(w:World):(Rtype.elem? 152).run prog w = .ok (some 147) w:=by kernel_rfl
theorem LY(p:Addr)(w:World):(ReflectliteValue.mk 147 p ReflectliteValue.flagAddr).run prog w = .ok (.agg #[.pointer (some ⟨7,147,none⟩),.pointer (some p),.int .u64 409]) w:=by kernel_rfl
theorem UX:uj 147 152 where
 unpack:=λt w=>by kernel_rfl
 type:=λa w=>by kernel_rfl
 kindP:=λw=>by kernel_rfl
 kind:=λw=>by kernel_rfl
 isNil:=λa p W b=>by
  delta ReflectliteValue.method
  rw[Zl];simp only[vC,pz,Result.andThen];simp[ReflectliteValue.isNil,loadVar,isAgg,underlying,underlying152,b,Result.andThen]
 elem:=λw=>by kernel_rfl
 impl:=λw=>by kernel_rfl
 elemV:=λa p W b=>by
  delta ReflectliteValue.method
  rw[Zl];simp only[vC,pz,Result.andThen];simp[ReflectliteValue.elem,loadVar,isAgg,underlying,underlying152,b,Result.andThen,Ec,LY]
theorem Ng(a:Addr)(w:World):(ReflectliteValue.parts (.agg #[.pointer (some ⟨7,147,none⟩),.pointer (some a),.int .u64 409])).run prog w = .ok (some (147,a,409)) w:=by kernel_rfl
theorem Nl(a:Addr)(w:World):(ReflectliteValue.parts (.agg #[.pointer (some ⟨7,147,none⟩),.pointer (some a),.int .u64 153])).run prog w = .ok (some (147,a,153)) w:=by kernel_rfl
theorem Dn(w:World):(Rtype.directlyAssignable 147 147).run prog w = .ok true w:=by kernel_rfl
theorem Gi:QA 147 (λx=>∃k,x = .int .i64 k) where
 held:=λx w h=>by obtain⟨k,rfl⟩:=h;kernel_rfl
 set:=λd b x old W h hb c a=>by
  obtain⟨k,rfl⟩:=h
  delta ReflectliteValue.set
  rw[YO];simp only[vC,Ng,Nl,Result.andThen];simp[ReflectliteValue.flagAddr,loadVar,isAgg,Tryz.sizeOf147,loadCells,loadCellsFrom,hb,Result.andThen,Dn,storeVar,Value.cells,storeCells,Addr.add];rw[Zv prog W d _ _ (by rfl)];simp[c,a]
theorem YP:yN 216:=
 ⟨λv w=>by kernel_rfl,
  λv a w=>yV underlying298 (by kernel_rfl) (by kernel_rfl) v a w,
  λv a w=>yV underlying291 (by kernel_rfl) (by kernel_rfl) v a w,
  λv a w=>yV underlying294 (by kernel_rfl) (by kernel_rfl) v a w,
  by decide⟩
theorem J7:vR 216:=λv a w=>yV underlying293 (by kernel_rfl) (by kernel_rfl) v a w
theorem Ak:Assign 216 145 false:=λw=>by kernel_rfl
theorem Ah:Assign 216 146 false:=λw=>by kernel_rfl
theorem Al:Assign 216 147 false:=λw=>by kernel_rfl
theorem Ai:Assign 216 216 true:=λw=>by kernel_rfl
theorem Aj:Assign 216 129 false:=λw=>by kernel_rfl
theorem oZ(a:Addr)(w:World):(ReflectliteValue.parts (.agg #[.pointer (some ⟨7,218,none⟩),.pointer (some a),.int .u64 150])).run prog w = .ok (some (218,a,150)) w:=by kernel_rfl
theorem DY(w:World):(Rtype.elem? 218).run prog w = .ok (some 216) w:=by kernel_rfl
theorem LU(p:Addr)(w:World):(ReflectliteValue.mk 216 p ReflectliteValue.flagAddr).run prog w = .ok (.agg #[.pointer (some ⟨7,216,none⟩),.pointer (some p),.int .u64 409]) w:=by kernel_rfl
theorem dY:uj 216 218 where
 unpack:=λt w=>by kernel_rfl
 type:=λa w=>by kernel_rfl
 kindP:=λw=>by kernel_rfl
 kind:=λw=>by kernel_rfl
 isNil:=λa p W b=>by
  delta ReflectliteValue.method
  rw[Zl];simp only[vC,oZ,Result.andThen];simp[ReflectliteValue.isNil,loadVar,isAgg,underlying,underlying218,b,Result.andThen]
 elem:=λw=>by kernel_rfl
 impl:=λw=>by kernel_rfl
 elemV:=λa p W b=>by
  delta ReflectliteValue.method
  rw[Zl];simp only[vC,oZ,Result.andThen];simp[ReflectliteValue.elem,loadVar,isAgg,underlying,underlying218,b,Result.andThen,DY,LU]
theorem Nb(a:Addr)(w:World):(ReflectliteValue.parts (.agg #[.pointer (some ⟨7,216,none⟩),.pointer (some a),.int .u64 409])).run prog w = .ok (some (216,a,409)) w:=by kernel_rfl
theorem Ni(a:Addr)(w:World):(ReflectliteValue.parts (.agg #[.pointer (some ⟨7,216,none⟩),.pointer (some a),.int .u64 153])).run prog w = .ok (some (216,a,153)) w:=by kernel_rfl
theorem Dk(w:World):(Rtype.directlyAssignable 216 216).run prog w = .ok true w:=by kernel_rfl
theorem Gf:QA 216 (λx=>∃k,x = .int .i64 k) where
 held:=λx w h=>by obtain⟨k,rfl⟩:=h;kernel_rfl
 set:=λd b x old W h hb c a=>by
  obtain⟨k,rfl⟩:=h
  delta ReflectliteValue.set
  rw[YO];simp only[vC,Nb,Ni,Result.andThen];simp[ReflectliteValue.flagAddr,loadVar,isAgg,Tryz.sizeOf216,loadCells,loadCellsFrom,hb,Result.andThen,Dk,storeVar,Value.cells,storeCells,Addr.add];rw[Zv prog W d _ _ (by rfl)];simp[c,a]
theorem Zm:yN 129:=
 ⟨λv w=>by kernel_rfl,
  λv a w=>yV underlying298 (by kernel_rfl) (by kernel_rfl) v a w,
  λv a w=>yV underlying291 (by kernel_rfl) (by kernel_rfl) v a w,
  λv a w=>yV underlying294 (by kernel_rfl) (by kernel_rfl) v a w,
  by decide⟩
theorem ZQ:vR 129:=λv a w=>yV underlying293 (by kernel_rfl) (by kernel_rfl) v a w
theorem gH:Assign 129 145 false:=λw=>by kernel_rfl
theorem gF:Assign 129 146 false:=λw=>by kernel_rfl
theorem gI:Assign 129 147 false:=λw=>by kernel_rfl
theorem gG:Assign 129 216 false:=λw=>by kernel_rfl
theorem Am:Assign 129 129 true:=λw=>by kernel_rfl
theorem Ao:Assign 129 143 false:=λw=>by kernel_rfl
theorem pg(a:Addr)(w:World):(ReflectliteValue.parts (.agg #[.pointer (some ⟨7,355,none⟩),.pointer (some a),.int .u64 150])).run prog w = .ok (some (355,a,150)) w:=by kernel_rfl
theorem DZ(w:World):(Rtype.elem? 355).run prog w = .ok (some 129) w:=by kernel_rfl
theorem LV(p:Addr)(w:World):(ReflectliteValue.mk 129 p ReflectliteValue.flagAddr).run prog w = .ok (.agg #[.pointer (some ⟨7,129,none⟩),.pointer (some p),.int .u64 409]) w:=by kernel_rfl
theorem dZ:uj 129 355 where
 unpack:=λt w=>by kernel_rfl
 type:=λa w=>by kernel_rfl
 kindP:=λw=>by kernel_rfl
 kind:=λw=>by kernel_rfl
 isNil:=λa p W b=>by
  delta ReflectliteValue.method
  rw[Zl];simp only[vC,pg,Result.andThen];simp[ReflectliteValue.isNil,loadVar,isAgg,underlying,underlying355,b,Result.andThen]
 elem:=λw=>by kernel_rfl
 impl:=λw=>by kernel_rfl
 elemV:=λa p W b=>by
  delta ReflectliteValue.method
  rw[Zl];simp only[vC,pg,Result.andThen];simp[ReflectliteValue.elem,loadVar,isAgg,underlying,underlying355,b,Result.andThen,DZ,LV]
theorem Nc(a:Addr)(w:World):(ReflectliteValue.parts (.agg #[.pointer (some ⟨7,129,none⟩),.pointer (some a),.int .u64 409])).run prog w = .ok (some (129,a,409)) w:=by kernel_rfl
theorem Nj(a:Addr)(w:World):(ReflectliteValue.parts (.agg #[.pointer (some ⟨7,129,none⟩),.pointer (some a),.int .u64 153])).run prog w = .ok (some (129,a,153)) w:=by kernel_rfl
theorem Dl(w:World):(Rtype.directlyAssignable 129 129).run prog w = .ok true w:=by kernel_rfl
theorem Gg:QA 129 (λx=>∃s,x = .string s) where
 held:=λx w h=>by obtain⟨k,rfl⟩:=h;kernel_rfl
 set:=λd b x old W h hb c a=>by
  obtain⟨k,rfl⟩:=h
  delta ReflectliteValue.set
  rw[YO];simp only[vC,Nc,Nj,Result.andThen];simp[ReflectliteValue.flagAddr,loadVar,isAgg,Tryz.sizeOf129,loadCells,loadCellsFrom,hb,Result.andThen,Dl,storeVar,Value.cells,storeCells,Addr.add];rw[Zv prog W d _ _ (by rfl)];simp[c,a]
theorem YQ:yN 143:=
 ⟨λv w=>by kernel_rfl,
  λv a w=>yV underlying298 (by kernel_rfl) (by kernel_rfl) v a w,
  λv a w=>yV underlying291 (by kernel_rfl) (by kernel_rfl) v a w,
  λv a w=>yV underlying294 (by kernel_rfl) (by kernel_rfl) v a w,
  by decide⟩
theorem gM:Assign 143 145 false:=λw=>by kernel_rfl
theorem gJ:Assign 143 146 false:=λw=>by kernel_rfl
theorem gN:Assign 143 147 false:=λw=>by kernel_rfl
theorem gK:Assign 143 216 false:=λw=>by kernel_rfl
theorem gL:Assign 143 143 true:=λw=>by kernel_rfl
theorem pq(a:Addr)(w:World):(ReflectliteValue.parts (.agg #[.pointer (some ⟨7,217,none⟩),.pointer (some a),.int .u64 150])).run prog w = .ok (some (217,a,150)) w:=by kernel_rfl
theorem Ea(w:World):(Rtype.elem? 217).run prog w = .ok (some 143) w:=by kernel_rfl
theorem LW(p:Addr)(w:World):(ReflectliteValue.mk 143 p ReflectliteValue.flagAddr).run prog w = .ok (.agg #[.pointer (some ⟨7,143,none⟩),.pointer (some p),.int .u64 409]) w:=by kernel_rfl
theorem Vn:uj 143 217 where
 unpack:=λt w=>by kernel_rfl
 type:=λa w=>by kernel_rfl
 kindP:=λw=>by kernel_rfl
 kind:=λw=>by kernel_rfl
 isNil:=λa p W b=>by
  delta ReflectliteValue.method
  rw[Zl];simp only[vC,pq,Result.andThen];simp[ReflectliteValue.isNil,loadVar,isAgg,underlying,underlying217,b,Result.andThen]
 elem:=λw=>by kernel_rfl
 impl:=λw=>by kernel_rfl
 elemV:=λa p W b=>by
  delta ReflectliteValue.method
  rw[Zl];simp only[vC,pq,Result.andThen];simp[ReflectliteValue.elem,loadVar,isAgg,underlying,underlying217,b,Result.andThen,Ea,LW]
end Go.Proofs.YtagnlbgbnfnapaaGreatDoor
namespace Go.Proofs.YtagnlbgbnfnapaaGreatDoor
open Go.RowKit
def ZC(g:Nat)(b:Array Value)(a:Nat->Value)(n:Nat)(p:Nat->Bool)(w:World):Prop:=
 ∀W j,j<n->Below w.heap.size w W->Calls prog g (#[a j]++b) W λe w'=>e = .returned (.bool (p j))/\Below W.heap.size W w'
def zX(p:Nat->Bool)(n:Nat):Option Nat:=(List.range n).find? p
def QK(p:Nat->Bool)(n:Nat):Bool:=(List.range n).all p
theorem JN(p:Nat->Bool)(n k:Nat)(b:k<n)(hb:∀j,j<k->p j=false)(h:p k=true):zX p n=some k:=by
 unfold zX;rw[Vz];exact⟨h,by simpa using b,λj a=>by simp[hb j a]⟩
theorem JO(p:Nat->Bool)(n:Nat)(hb:∀j,j<n->p j=false):zX p n=none:=by
 unfold zX;rw[Yz];intro j a;simp[hb j (List.mem_range.1 a)]
theorem fT(p:Nat->Bool)(n:Nat):QK p n=(zX (λj=>!p j) n).isNone:=by
 unfold QK zX;rw[XH]
 simp
theorem X6(n b o cap g:Nat)(m:Array Value)(v:Nat->Int)(p:Nat->Bool)(w:World)(y:n<=1000000000000)(u:∀args w,(callFunc g args).run prog w = .ok (.enter g args) w)
  (s:∀j,j<n->w.cell? ⟨b,o+j,none⟩=some (.int .u8 (v j)))(t:ZC g m (λj => .int .u8 (v j)) n p w) :
  Calls prog 182 #[.slice (some ⟨b,o,none⟩) n cap,.func (.func g) #[] m] w λe w'=>
   e = .returned (.tuple #[.int .i64 (((zX p n).getD 0:Nat):Int),.bool (zX p n).isSome])/\Below w.heap.size w w':=by
 generalize hF:zX p n=F;have l:=hid hF;clear hF;go_enter func182,ntmps182
 go_wp2
 go_loopw [10] (λi wr=>∃k:Nat,k<=n/\i = .int .i64 k/\(∀j,j<k->p j=false)/\Below w.heap.size w wr) (λi _=>n-(intOf i).toNat)
 case atStart=>exact⟨0,zG _,rfl,λj h=>by omega,zf _ _⟩
 case round=>
  obtain⟨k,x,rfl,hb,c⟩:=hrel;have f:=hid hb;clear hb
  by_cases hlt:k<n
  ·have q:=zi c (s k hlt);have a:=λW hb=>t W k hlt hb;simp only at a
   cases hpp:p k with
   | false=>
    rw[hpp] at a;have r:=hid hpp;clear hpp
    go_wp2_with (go_at_fn g;refine (a _ c).mono ?_;rintro e w' ⟨rfl,d⟩)
    refine⟨⟨k+1,by omega,by go_num,λj h=>?_,c.trans (d.mono c.size)⟩,by simp[intOf];omega⟩
    by_cases hj:j=k
    ·subst hj;exact r.out
    ·exact f.out j (by omega)
   | true=>
    rw[hpp] at a;have e:=JN p n k hlt f.out hpp;rw[l.out] at e;subst e;clear hpp
    go_wp2_with (go_at_fn g;refine (a _ c).mono ?_;rintro e w' ⟨rfl,d⟩)
    go_ret2;exact⟨rfl,c.trans (d.mono c.size)⟩
  ·have e:=JO p n (λj h=>f.out j (by omega));rw[l.out] at e;subst e
   go_wp2
   go_ret2;exact⟨rfl,c⟩
theorem wY(n b o cap g:Nat)(d:Array Value)(v:Nat->Int)(p:Nat->Bool)(w:World)(i:n<=1000000000000)(f:∀args w,(callFunc g args).run prog w = .ok (.enter g args) w)
  (h:∀j,j<n->w.cell? ⟨b,o+j,none⟩=some (.int .u8 (v j)))(k:ZC g d (λj => .int .u8 (v j)) n p w) :
  Calls prog 138 #[.slice (some ⟨b,o,none⟩) n cap,.func (.func g) #[] d] w λe w'=>
   e = .returned (.bool (zX p n).isSome)/\Below w.heap.size w w':=by
 have c:=X6 n b o cap g d v p w i f h k;generalize zX p n=F at c;go_enter func138,ntmps138
 go_wp2_with (go_at_call 182;refine c.mono ?_;rintro e w' ⟨rfl,a⟩)
 go_ret;exact⟨rfl,a⟩
theorem wR(g:Nat)(b:Array Value)(x:Int)(B:Nat)(y:Bool)(w:World)(d:∀args w,(callFunc g args).run prog w = .ok (.enter g args) w)
  (f:w.cell? ⟨B,0,none⟩=some (.func (.func g) #[] b))(c:Calls prog g (#[.int .u8 x]++b) w λe w'=>e = .returned (.bool y)/\Below w.heap.size w w') :
  Calls prog 139 #[.int .u8 x,.pointer (some ⟨B,0,none⟩)] w λe w'=>e = .returned (.bool (!y))/\Below w.heap.size w w':=by
 go_enter func139,ntmps139
 go_wp2_with (go_at_fn g;refine c.mono ?_;rintro e w' ⟨rfl,a⟩)
 go_ret;exact⟨rfl,a⟩
theorem fZ(n b o cap g:Nat)(a:Array Value)(v:Nat->Int)(p:Nat->Bool)(w:World)(l:n<=1000000000000)(i:∀args w,(callFunc g args).run prog w = .ok (.enter g args) w)
  (k:∀j,j<n->w.cell? ⟨b,o+j,none⟩=some (.int .u8 (v j)))(m:ZC g a (λj => .int .u8 (v j)) n p w) :
  Calls prog 89 #[.slice (some ⟨b,o,none⟩) n cap,.func (.func g) #[] a] w λe w'=>
   e = .returned (.bool (QK p n))/\Below w.heap.size w w':=by
 have h:∀args w,(callFunc 139 args).run prog w = .ok (.enter 139 args) w:=xg func139 (by kernel_rfl) rfl
 have c:=wY n b o cap 139 #[.pointer (some ⟨w.heap.size,0,none⟩)] v (λj=>!p j) (w.alloc (.cells #[.func (.func g) #[] a] 182)) l h
  (λj f=>zi (nbl w _) (k j f))
  (λW j f hb=>by
    refine wR g a (v j) w.heap.size (p j) W i ?_ (m W j f ((nbl w _).trans (hb.mono (by simp))));exact zi hb (by simp))
 rw[fT];generalize zX (λj=>!p j) n=F at c;go_enter func89,ntmps89
 go_wp2_with (go_at_call 138;refine c.mono ?_;rintro e w' ⟨rfl,d⟩)
 go_ret;exact⟨rfl,(nbl w _).trans (d.mono (by simp))⟩
theorem dU(w:World):(Instr.typeAssert .nilIface 118 274 true).run prog w = .ok (.tuple #[.string ⟨#[]⟩,.bool false]) w:=by kernel_rfl
theorem Vk(v:Value)(w:World):(Instr.typeAssert (.iface 274 v) 118 274 true).run prog w = .ok (.tuple #[v,.bool true]) w:=by kernel_rfl
theorem dW(v:Value)(w:World):(Instr.typeAssert (.iface 275 v) 118 274 true).run prog w = .ok (.tuple #[.string ⟨#[]⟩,.bool false]) w:=by kernel_rfl
theorem dS(v:Value)(w:World):(Instr.typeAssert (.iface 125 v) 118 274 true).run prog w = .ok (.tuple #[.string ⟨#[]⟩,.bool false]) w:=by kernel_rfl
theorem dV(v:Value)(w:World):(Instr.typeAssert (.iface 122 v) 118 274 true).run prog w = .ok (.tuple #[.string ⟨#[]⟩,.bool false]) w:=by kernel_rfl
theorem Sg(v:Value)(w:World):(Instr.typeAssert (.iface 274 v) 118 275 true).run prog w = .ok (.tuple #[.bool false,.bool false]) w:=by kernel_rfl
theorem Si(v:Value)(w:World):(Instr.typeAssert (.iface 275 v) 118 275 true).run prog w = .ok (.tuple #[v,.bool true]) w:=by kernel_rfl
theorem Sc(v:Value)(w:World):(Instr.typeAssert (.iface 125 v) 118 275 true).run prog w = .ok (.tuple #[.bool false,.bool false]) w:=by kernel_rfl
theorem Sd(v:Value)(w:World):(Instr.typeAssert (.iface 122 v) 118 275 true).run prog w = .ok (.tuple #[.bool false,.bool false]) w:=by kernel_rfl
theorem RP(w:World):(Instr.typeAssert .nilIface 118 125 true).run prog w = .ok (.tuple #[.slice none 0 0,.bool false]) w:=by kernel_rfl
theorem RU(v:Value)(w:World):(Instr.typeAssert (.iface 274 v) 118 125 true).run prog w = .ok (.tuple #[.slice none 0 0,.bool false]) w:=by kernel_rfl
theorem RV(v:Value)(w:World):(Instr.typeAssert (.iface 275 v) 118 125 true).run prog w = .ok (.tuple #[.slice none 0 0,.bool false]) w:=by kernel_rfl
theorem dO(v:Value)(w:World):(Instr.typeAssert (.iface 125 v) 118 125 true).run prog w = .ok (.tuple #[v,.bool true]) w:=by kernel_rfl
theorem RQ(v:Value)(w:World):(Instr.typeAssert (.iface 122 v) 118 125 true).run prog w = .ok (.tuple #[.slice none 0 0,.bool false]) w:=by kernel_rfl
theorem RY(w:World):(Instr.typeAssert .nilIface 118 122 true).run prog w = .ok (.tuple #[.slice none 0 0,.bool false]) w:=by kernel_rfl
theorem RZ(v:Value)(w:World):(Instr.typeAssert (.iface 274 v) 118 122 true).run prog w = .ok (.tuple #[.slice none 0 0,.bool false]) w:=by kernel_rfl
theorem Sa(v:Value)(w:World):(Instr.typeAssert (.iface 275 v) 118 122 true).run prog w = .ok (.tuple #[.slice none 0 0,.bool false]) w:=by kernel_rfl
theorem RX(v:Value)(w:World):(Instr.typeAssert (.iface 125 v) 118 122 true).run prog w = .ok (.tuple #[.slice none 0 0,.bool false]) w:=by kernel_rfl
theorem dR(v:Value)(w:World):(Instr.typeAssert (.iface 122 v) 118 122 true).run prog w = .ok (.tuple #[v,.bool true]) w:=by kernel_rfl
end Go.Proofs.YtagnlbgbnfnapaaGreatDoor
