/- P -/
import Derived.Test.YtfjpcldndaiifaaGreatDoorA41
open Go.Proofs.Tryz
set_option maxRecDepth 100000
set_option maxHeartbeats 8000000
namespace Go.Proofs.YtfjpcldndaiifaaGreatDoor
open Go.RowKit
theorem zah{w:J}{base:Nat}{e:TypeId}{g n c:Nat}{ms b:List (BY×BY)}(h:w.ownsRow base e 2 (TL (some (G8 g 0)) n c) n (ja (ms++b))):qK w (some (G8 g 0)) ms:=by
 refine .inr ⟨g,0,rfl,λj k=>?_⟩;have a:=λj u=>h.cells (g:=g) rfl j u;have d:=KH (ms++b) j (by simp;omega);rw[UR k]at d;have f:=a _ _ d.1;have i:=a _ _ d.2;rw[YF]at f i;exact⟨by rw[qV];exact f,by rw[qV];exact i⟩
def QC(w:J)(b:Option Addr)(d:Nat)(c:Nat)(ms:List (BY×BY)):Prop:=
 d=ms.length/\((b=none/\c=0/\ms=[])\/∃a,b=some a/\∀j,(h:j<ms.length)->w.cell? (a.add (j*2))=some (S9 ms[j].1)/\w.cell? (a.add (j*2+1))=some (S9 ms[j].2))
theorem QC.at{w:J}{a:Option Addr}{e d:Nat}{ms:List (BY×BY)}(h:QC w a e d ms):qK w a ms:=by
 rcases h.2 with⟨_,_,rfl⟩|⟨ad,rfl,hc⟩
 ·exact .inl rfl
 by_cases h0:0<ms.length
 ·obtain⟨b,o,rfl⟩:=U2 (hc 0 h0).1;refine .inr ⟨b,o,rfl,λj c=>?_⟩
  have:=hc j c
  rw[addr_add,addr_add]at this;exact⟨this.1,by rw[JV];exact this.2⟩
 exact .inl (Yx (by omega))
theorem QC.below{w w':J}{c:Option Addr}{e d:Nat}{ms:List (BY×BY)}(h:QC w c e d ms)(a:BQ w w'):QC w' c e d ms:=by
 refine⟨h.1,?_⟩
 rcases h.2 with h|⟨ad,rfl,hc⟩
 ·exact .inl h
 exact .inr ⟨ad,rfl,λj b=>⟨zi a (hc j b).1,zi a (hc j b).2⟩⟩
theorem zaf(d a on:BY)(y:Option Addr)(t s:Nat)(ms:List (BY×BY))(o w:J)(x:QC o y t s ms)(B:ms.length<=1000000000)(f:BQ o w):R8 28 #[.agg #[S9 d,S9 a,S9 on,TL y t s]] w λe m=>
   ∃u z,e=.returned (.agg #[.string d,.string a,.string on,.slice u t z])/\BQ w m/\qK m u ms /\
    ∀W,BQ m W->R8 31 #[.agg #[S9 d,S9 a,S9 on,TL u t z],.agg #[S9 d,S9 a,S9 on,TL y t s]] W λe n=>e=.returned (.bool true)/\zx (λb=>o.heap.size<=b/\b<m.heap.size) W n:=by
 obtain⟨rfl,h⟩:=x
 rcases h with⟨rfl,rfl,rfl⟩|⟨ad,rfl,hc⟩
 ·apply(Cf d a on w).mono;rintro e m⟨rfl,p⟩;refine⟨none,0,rfl,p,.inl rfl,λW v=>?_⟩;apply(EU d a on d a on W).mono;rintro e n⟨rfl,l⟩;exact⟨rfl,zx.of l⟩
 apply(Cg d a on ms ad s w B (λj r=>⟨zi f (hc j r).1,zi f (hc j r).2⟩)).mono;rintro e m⟨g,c,rfl,p,i⟩;refine⟨some (G8 g 0),c,rfl,p,zah i,λW v=>?_⟩;have q:BQ o W:=f.trans ((p.trans (v.mono p.size)).mono f.size);have A:=i.lt g rfl;refine(zc2 d a on d a on ms ad s g c w.heap.size W B (λC=>?_) (λj r=>⟨zi q (hc j r).1,zi q (hc j r).2⟩) (ownsRow_below i v)).mono ?_
 ·have E:ad.block<o.heap.size:=Qj _ _ (hc 0 C).1;have F:=f.size;omega
 rintro e n⟨rfl,l⟩;exact⟨rfl,l.wide (λk _ D=>by rw[D];exact⟨xD f.size A.1,A.2⟩)⟩
theorem NU(P cb:Nat)(st:StO)(lv:Y)(ks:List zy)(c a on:BY)(N:Option Addr)(s O:Nat)(ms:List (BY×BY))(M:Nat->Prop)(w:J)(hO:yz M w P st)(hR:xM M w cb lv ks)(hn:ks.length<=1000000000)(hN:∀x ∈ ks,x.name.size<=maxLen)(hM:∀b,M b->b<w.heap.size)(e5:Agree st ks)
  (o:QC w N s O ms)(hr:U.XE ⟨c,a,on,ms⟩)(hl:Pg.reqLen ⟨c,a,on,ms⟩)(e6:ms.length<=1000000000)(hE:yF w):R8 22 #[.agg #[RG P 0,RG cb 0],.agg #[S9 c,S9 a,S9 on,TL N s O]] w (G5 (.bool true) w):=by
 have z:s=ms.length:=o.1;have cP:=λ(W:J) (y:BQ w W) ga gc (m:qK W ga ms)=>zcs P st ⟨c,a,on,ms⟩ ga gc M W (hO.below y) m hl (hE.below y);have cR:=λ(W:J) (y:BQ w W)=>zcV cb lv ks st ⟨c,a,on,ms⟩ N O M W (hR.below y) hn hN (λb i0=>xO (hM b i0) y.size) e5 hO.good (xh o.at y) hr;have cL:=λ(W:J) (y:BQ w W)=>zaf c a on N s O ms w W o e6 y;obtain⟨⟨⟨dv,dl,dn,dk⟩,er⟩,hd⟩:∃d,De.J9 st ⟨c,a,on,ms⟩=d:=⟨_,rfl⟩;rw[hd]at cP cR;unfold Kg vI U.zX at cP cR;simp only[<- z]at cP cR;obtain⟨u,h1⟩:=Nm (w.alloc (L8 #[RG P 0,RG cb 0] 47));have s1:u.heap.size=w.heap.size+1:=by rw[<- h1];simp
 have B:u.heap[w.heap.size]?=some (L8 #[RG P 0,RG cb 0] 47):=by rw[<- h1];exact zA w _
 have b1:BQ w u:=by rw[<- h1];exact nbl w _
 obtain⟨T,h2⟩:=Nm (u.alloc (L8 #[S9 c,S9 a,S9 on,TL N s O] 35));have C:T.heap[w.heap.size+1]?=some (L8 #[S9 c,S9 a,S9 on,TL N s O] 35):=by rw[<- h2,<- s1];exact zA u _
 have b2:BQ u T:=by rw[<- h2];exact nbl u _
 have bw:BQ w T:=b1.trans (b2.mono b1.size);have HW:G6 ((w.alloc (L8 #[RG P 0,RG cb 0] 47)).alloc (L8 #[S9 c,S9 a,S9 on,TL N s O] 35)=T):=G7 (by rw[h1,h2]);have N1:G6 (T.heap[w.heap.size]?=some (L8 #[RG P 0,RG cb 0] 47)):=G7 ((b2.block _ (by omega)).trans B);have⟨S,BW,CP,CR⟩:=M5 C bw cP cR;have CL:=G7 (cL T bw);clear cP cR cL hd h1 h2 s1 B C b1 b2 bw hO hR hn hN hM e5 o hr hl e6 hE z;have e0:=(zg N1.o 0).1;have v:=(zg N1.o 1).1;have f0:=(zg S.o 0).1;have f1:=(zg S.o 1).1;have f2:=(zg S.o 2).1;have f3:=(zg S.o 3).1;simp at e0 v f0 f1 f2 f3;go_enter func22,ntmps22
 go_upto_region 1 with fail
 rw[HW.o]
 go_upto_region 2 with(go_at_call 28;apply CL.o.mono;rintro e t⟨ga,gc,rfl,b3,m,A⟩;have⟨h0,h4⟩:=D5 m A;have a6:=G7 (BW.o.trans (b3.mono BW.o.size));have b0:=G7 ((b3.block _ (zt N1.o)).trans N1.o);have c1:=G7 ((b3.block _ (zt S.o)).trans S.o);clear b3 m A)
 clear e0 v f0 f1 f2 f3;obtain⟨w4,p⟩:=Nm (t.alloc (L8 #[S9 c,S9 a,S9 on,TL ga s gc] 35));have V:BQ t w4:=by rw[<- p];exact nbl t _
 have n4:w4.heap[t.heap.size]?=some (L8 #[S9 c,S9 a,S9 on,TL ga s gc] 35):=by rw[<- p];exact zA t _
 rw[p];obtain⟨qb,e7⟩:=Nm t.heap.size;have F:=G7 (a6.o.trans (V.mono a6.o.size));have a4:=G7 V;have i:=G7 ((V.block _ (zt b0.o)).trans b0.o);have c2:=G7 ((V.block _ (zt c1.o)).trans c1.o);have f:=G7 n4;rw[e7]at f |-;have g6:=G7 (CP.o w4 F.o ga gc (xh h0.o V));clear p V n4 e7 CP;have e0:=(zg i.o 0).1;have v:=(zg i.o 1).1;have g0:=(zg f.o 0).1;have g1:=(zg f.o 1).1;have g2:=(zg f.o 2).1;have g3:=(zg f.o 3).1;simp at e0 v g0 g1 g2 g3
 go_upto_region 3 with(go_at_call 46;apply g6.o.mono;rintro e Q⟨rfl,X⟩;have a7:=G7 (F.o.trans (X.mono F.o.size));have D:=G7 (a4.o.trans (X.mono a4.o.size));have c0:=G7 ((X.block _ (zt i.o)).trans i.o);have c3:=G7 ((X.block _ (zt c2.o)).trans c2.o);have c5:=G7 ((X.block _ (zt f.o)).trans f.o);clear X)
 clear e0 v g0 g1 g2 g3;obtain⟨w6,q⟩:=Nm (Q.alloc (L8 #[R9 ((dv:Nat):Int),R9 ((dl:Nat):Int),S9 dn,R9 ((dk:Nat):Int)] 103));have b6:BQ Q w6:=by rw[<- q];exact nbl Q _
 have n6:w6.heap[Q.heap.size]?=some (L8 #[R9 ((dv:Nat):Int),R9 ((dl:Nat):Int),S9 dn,R9 ((dk:Nat):Int)] 103):=by rw[<- q];exact zA Q _
 rw[q];obtain⟨db,K⟩:=Nm Q.heap.size;have g9:G6 (t.heap.size<=db):=G7 (by rw[<- K];exact D.o.size);have G:=G7 (a7.o.trans (b6.mono a7.o.size));have a5:=G7 (D.o.trans (b6.mono D.o.size));have h5:=G7 ((b6.block _ (zt c0.o)).trans c0.o);have g:=G7 ((b6.block _ (zt c3.o)).trans c3.o);have c6:=G7 ((b6.block _ (zt c5.o)).trans c5.o);have H:=G7 n6;rw[K]at H |-;clear q b6 n6 K;have v:=(zg h5.o 1).1;have f0:=(zg g.o 0).1;have f1:=(zg g.o 1).1;have f2:=(zg g.o 2).1;have f3:=(zg g.o 3).1;simp at v f0 f1 f2 f3
 go_upto_region 4 with(go_at_call 47;apply(CR.o w6 G.o).mono;rintro e R⟨rfl,b7⟩;have a8:=G7 (G.o.trans (b7.mono G.o.size));have E:=G7 (a5.o.trans (b7.mono a5.o.size));have c4:=G7 ((b7.block _ (zt g.o)).trans g.o);have c7:=G7 ((b7.block _ (zt c6.o)).trans c6.o);have c8:=G7 ((b7.block _ (zt H.o)).trans H.o);clear b7)
 clear v f0 f1 f2 f3;obtain⟨w8,r⟩:=Nm (R.alloc (L8 #[R9 ((dv:Nat):Int),R9 ((dl:Nat):Int),S9 dn,R9 ((dk:Nat):Int)] 103));have b8:BQ R w8:=by rw[<- r];exact nbl R _
 have n8:w8.heap[R.heap.size]?=some (L8 #[R9 ((dv:Nat):Int),R9 ((dl:Nat):Int),S9 dn,R9 ((dk:Nat):Int)] 103):=by rw[<- r];exact zA R _
 rw[r];obtain⟨rb,L⟩:=Nm R.heap.size;have h3:G6 (t.heap.size<=rb):=G7 (by rw[<- L];exact E.o.size);have a9:=G7 (a8.o.trans (b8.mono a8.o.size));have g7:=G7 (E.o.trans (b8.mono E.o.size));have j:=G7 ((b8.block _ (zt c4.o)).trans c4.o);have l:=G7 ((b8.block _ (zt c7.o)).trans c7.o);have c9:=G7 ((b8.block _ (zt c8.o)).trans c8.o);have I:=G7 n8;rw[L]at I |-;have CT:=G7 (h4.o w8 g7.o);clear r b8 n8 L;have f0:=(zg j.o 0).1;have f1:=(zg j.o 1).1;have f2:=(zg j.o 2).1;have f3:=(zg j.o 3).1;have g0:=(zg l.o 0).1;have g1:=(zg l.o 1).1;have g2:=(zg l.o 2).1;have g3:=(zg l.o 3).1;simp at f0 f1 f2 f3 g0 g1 g2 g3
 go_upto_region 5 with(go_at_call 31;apply CT.o.mono;rintro e w9⟨rfl,b9⟩;have B9:=G7 b9;clear b9)
 have B:=(B9.o.block db (zt c9.o) (λh=>by have:=g9.o;omega)).trans c9.o;have C:=(B9.o.block rb (zt I.o) (λh=>by have:=h3.o;omega)).trans I.o;have g8:G6 (BQ w w9):=G7 (a9.o.trans (B9.o.below (λk hk h=>by omega) a9.o.size));have d0:=(zg B 0).1;have d1:=(zg B 1).1;have d2:=(zg B 2).1;have d3:=(zg B 3).1;have r0:=(zg C 0).1;have r1:=(zg C 1).1;have r2:=(zg C 2).1;have r3:=(zg C 3).1;simp at d0 d1 d2 d3 r0 r1 r2 r3;clear B C f0 f1 f2 f3 g0 g1 g2 g3;go_wp2_with fail;go_ret;exact⟨rfl,g8.o⟩
end Go.Proofs.YtfjpcldndaiifaaGreatDoor
namespace Go.Proofs.YtfjpcldndaiifaaGreatDoor
open Go.RowKit Go.Extern.Stop Go.Stop Go.Extern
theorem Tryz.typeOfLong(v:Y)(w:J):(ReflectliteType.typeOf #[.iface 391 v]).run prog w=.ok (.iface 302 (.agg #[RG 7 391])) w:=by kernel_rfl
theorem Tryz.methodComparable (h:Y) (w:J):(Go.method 531 302 (.agg #[h]) "Comparable").run prog w=.ok (280,.agg #[h]) w:=by kernel_rfl
theorem Tryz.comparableLong (w:J):(ReflectliteType.method (λt=>do Rtype.noPackHeld "Comparable" t;(λa=>Value.bool a.comparable) <$> typeInfo t) #[.agg #[RG 7 391]]).run prog w=.ok L6 w:=by kernel_rfl
theorem Tryz.faultNoIs(v:Y)(a:TypeId)(w:J):(Instr.typeAssert (.iface 188 v) a 304 true).run prog w=.ok (.tuple #[.nilIface,T9]) w:=yS underlying304 (by kernel_rfl) (by kernel_rfl) v a w
theorem Tryz.faultNoUnwrap(v:Y)(a:TypeId)(w:J):(Instr.typeAssert (.iface 188 v) a 306 true).run prog w=.ok (.tuple #[.nilIface,T9]) w:=yS underlying306 (by kernel_rfl) (by kernel_rfl) v a w
theorem Tryz.faultNoUnwraps(v:Y)(a:TypeId)(w:J):(Instr.typeAssert (.iface 188 v) a 307 true).run prog w=.ok (.tuple #[.nilIface,T9]) w:=yS underlying307 (by kernel_rfl) (by kernel_rfl) v a w
theorem Tryz.faultNoAs(v:Y)(a:TypeId)(w:J):(Instr.typeAssert (.iface 188 v) a 311 true).run prog w=.ok (.tuple #[.nilIface,T9]) w:=yS underlying311 (by kernel_rfl) (by kernel_rfl) v a w
theorem TJ(v:Y)(a:Addr)(w:J):R8 64 #[.iface 188 v,.iface 391 (.pointer (some a))] w λe d=>e=.returned (.bool false)/\d=w:=by
 have h:=bz;have m:=Tryz.typeOfLong;have i:=Tryz.methodComparable
 have g:=@zO prog 280 _ (ReflectliteType.method (λt=>do Rtype.noPackHeld "Comparable" t;pure (.bool (<- typeInfo t).comparable))) func280 (by kernel_rfl) (by kernel_rfl) (by kernel_rfl) (by kernel_rfl)
 have f:=Tryz.comparableLong;have j:=Tryz.faultNoIs;have k:=Tryz.faultNoUnwrap;have l:=Tryz.faultNoUnwraps;have ne:=λb c w=>nZ (P:=prog) 188 391 b c underlying82 (by decide) w;go_enter func64,ntmps64;go_wp2;refine Qy 1 ?_;rw[Zi];go_wp2;go_ret;exact⟨rfl,rfl⟩
def ku(w:J):Prop:=w.cell? (G8 1 0)=some (.iface 302 (.agg #[RG 7 82]))
theorem ku.below{w w':J}(h:ku w)(a:BQ w w'):ku w':=zi a h
theorem Ui(v:Y)(a:Y->Sem Y)(b:Array Y->Sem Y):ReflectliteValue.method.match_2 (λ_=>Sem Y) #[v] a b=a v:=rfl
theorem zdK(v x:Y)(a:Y->Y->Sem Y)(b:Array Y->Sem Y):ReflectliteValue.set.match_3 (λ_=>Sem Y) #[v,x] a b=a v x:=rfl
theorem Tryz.methodKind (h:Y) (w:J):(Go.method 531 302 (.agg #[h]) "Kind").run prog w=.ok (261,h) w:=by kernel_rfl
theorem Tryz.methodElem (h:Y) (w:J):(Go.method 531 302 (.agg #[h]) "Elem").run prog w=.ok (281,.agg #[h]) w:=by kernel_rfl
theorem Tryz.methodImplements (h:Y) (w:J):(Go.method 531 302 (.agg #[h]) "Implements").run prog w=.ok (282,.agg #[h]) w:=by kernel_rfl
theorem Tryz.methodAssignableTo (h:Y) (w:J):(Go.method 531 302 (.agg #[h]) "AssignableTo").run prog w=.ok (279,.agg #[h]) w:=by kernel_rfl
theorem Tryz.typeOfFault(v:Y)(w:J):(ReflectliteType.typeOf #[.iface 188 v]).run prog w=.ok (.iface 302 (.agg #[RG 7 188])) w:=by kernel_rfl
theorem Tryz.valueOfSyntax(t:Addr)(w:J):(ReflectliteValue.unpack (.iface 153 (.pointer (some t)))).run prog w
  = .ok (.agg #[RG 7 153,RG w.heap.size 0,.int .u64 150]) (w.alloc (L8 #[.pointer (some t)] 153)):=by kernel_rfl
theorem Tryz.typeSyntax (a:Addr) (w:J):(ReflectliteValue.methodAny (ReflectliteValue.valueError "reflectlite.Value.Type" 0) (λt _ _ _=>ReflectliteType.toType t) #[.agg #[RG 7 153,.pointer (some a),.int .u64 150]]).run prog w
  = .ok (.iface 302 (.agg #[RG 7 153])) w:=by kernel_rfl
theorem Tryz.kindPSyntax(w:J):((ReflectliteType.abiMethod λt=>(λa:Nat=>Value.int IntKind.u8 (a:Int)) <$> Rtype.kind t) #[RG 7 153]).run prog w=.ok (.int .u8 22) w:=by kernel_rfl
theorem Tryz.kindSyntax(w:J):((ReflectliteType.abiMethod λt=>(λa:Nat=>Value.int IntKind.u8 (a:Int)) <$> Rtype.kind t) #[RG 7 148]).run prog w=.ok (.int .u8 25) w:=by kernel_rfl
theorem Tryz.partsSyntax(a:Addr)(w:J):(ReflectliteValue.parts (.agg #[RG 7 153,.pointer (some a),.int .u64 150])).run prog w=.ok (some (153,a,150)) w:=by kernel_rfl
theorem Tryz.isNilSyntax(a p:Addr)(W:J)(b:W.cell? a=some (.pointer (some p))):(ReflectliteValue.method (ReflectliteValue.valueError "reflectlite.Value.IsNil" 0) ReflectliteValue.isNil #[.agg #[RG 7 153,.pointer (some a),.int .u64 150]]).run prog W=.ok T9 W:=by
 delta ReflectliteValue.method
 rw[Ui];simp only[ji,Tryz.partsSyntax,Result.andThen];simp[ReflectliteValue.isNil,loadVar,isAgg,underlying,underlying153,b,Result.andThen]
theorem Tryz.elemSyntax(w:J):(ReflectliteType.method ReflectliteType.elem #[.agg #[RG 7 153]]).run prog w=.ok (.iface 302 (.agg #[RG 7 148])) w:=by kernel_rfl
theorem Tryz.implementsSyntax (w:J):(ReflectliteType.relation "Implements" ReflectliteType.implements_ #[.agg #[RG 7 148],.iface 302 (.agg #[RG 7 82])]).run prog w=.ok L6 w:=by kernel_rfl
theorem Tryz.assignableSyntax (w:J):(ReflectliteType.relation "AssignableTo" ReflectliteType.assignableTo #[.agg #[RG 7 188],.iface 302 (.agg #[RG 7 148])]).run prog w=.ok T9 w:=by kernel_rfl
abbrev mI:=@zO prog 112 _ (λa=>ReflectliteValue.unpack (a.getD 0 (.tuple #[]))) func112 (by kernel_rfl) (by kernel_rfl) (by kernel_rfl) (by kernel_rfl)
theorem IM(v:Y)(t:Addr)(w:J)(c:ku w):R8 65 #[.iface 188 v,.iface 153 (.pointer (some t))] w (G5 (.bool false) w):=by
 have o:=mI
 have p:=eP
 have q:=fC
 have h:=iT;have j:=kz
 have k:=kP
 have g:=bz
 have i:=bW
 have F:=Tryz.typeOfFault;have x:=Tryz.methodAssignableTo;have A:=Tryz.methodKind;have y:=Tryz.methodElem;have z:=Tryz.methodImplements;have m:=Tryz.assignableSyntax;have f6:=Tryz.valueOfSyntax;have f7:=Tryz.typeSyntax;have s:=Tryz.kindPSyntax;have u:=Tryz.kindSyntax;have n:=Tryz.elemSyntax;have r:=Tryz.implementsSyntax;have E:=λO=>Tryz.isNilSyntax (G8 w.heap.size 0) t ((w.alloc (L8 #[.pointer (some t)] 153)).alloc O) (by simp);have B:=Tryz.faultNoAs;have C:=Tryz.faultNoUnwrap;have D:=Tryz.faultNoUnwraps;have b:=λd f:Obj=>c.below ((nbl w d).alloc (by simp) f);unfold ku at b;clear c;go_enter func65,ntmps65;go_wp2;refine Qy 1 ?_;rw[Zi];go_wp2;go_ret;exact⟨rfl,((nbl w _).alloc (by simp) _).alloc (by simp;omega) _⟩
theorem Tryz.valueOfFault(t:Addr)(w:J):(ReflectliteValue.unpack (.iface 246 (.pointer (some t)))).run prog w
  = .ok (.agg #[RG 7 246,RG w.heap.size 0,.int .u64 150]) (w.alloc (L8 #[.pointer (some t)] 246)):=by kernel_rfl
theorem Tryz.typeFault (a:Addr) (w:J):(ReflectliteValue.methodAny (ReflectliteValue.valueError "reflectlite.Value.Type" 0) (λt _ _ _=>ReflectliteType.toType t) #[.agg #[RG 7 246,.pointer (some a),.int .u64 150]]).run prog w
  = .ok (.iface 302 (.agg #[RG 7 246])) w:=by kernel_rfl
theorem Tryz.kindPFault(w:J):((ReflectliteType.abiMethod λt=>(λa:Nat=>Value.int IntKind.u8 (a:Int)) <$> Rtype.kind t) #[RG 7 246]).run prog w=.ok (.int .u8 22) w:=by kernel_rfl
theorem Tryz.kindFault(w:J):((ReflectliteType.abiMethod λt=>(λa:Nat=>Value.int IntKind.u8 (a:Int)) <$> Rtype.kind t) #[RG 7 188]).run prog w=.ok (.int .u8 25) w:=by kernel_rfl
theorem Tryz.partsFault(a:Addr)(w:J):(ReflectliteValue.parts (.agg #[RG 7 246,.pointer (some a),.int .u64 150])).run prog w=.ok (some (246,a,150)) w:=by kernel_rfl
theorem Tryz.isNilFault(a p:Addr)(W:J)(b:W.cell? a=some (.pointer (some p))):(ReflectliteValue.method (ReflectliteValue.valueError "reflectlite.Value.IsNil" 0) ReflectliteValue.isNil #[.agg #[RG 7 246,.pointer (some a),.int .u64 150]]).run prog W=.ok T9 W:=by
 delta ReflectliteValue.method
 rw[Ui];simp only[ji,Tryz.partsFault,Result.andThen];simp[ReflectliteValue.isNil,loadVar,isAgg,underlying,underlying246,b,Result.andThen]
theorem Tryz.elemFault(w:J):(ReflectliteType.method ReflectliteType.elem #[.agg #[RG 7 246]]).run prog w=.ok (.iface 302 (.agg #[RG 7 188])) w:=by kernel_rfl
theorem Tryz.implementsFault (w:J):(ReflectliteType.relation "Implements" ReflectliteType.implements_ #[.agg #[RG 7 188],.iface 302 (.agg #[RG 7 82])]).run prog w=.ok L6 w:=by kernel_rfl
theorem Tryz.assignableFault (w:J):(ReflectliteType.relation "AssignableTo" ReflectliteType.assignableTo #[.agg #[RG 7 188],.iface 302 (.agg #[RG 7 188])]).run prog w=.ok L6 w:=by kernel_rfl
theorem Tryz.valueOfHeld(k:Int)(w:J):(ReflectliteValue.unpack (.iface 188 (.agg #[R9 k]))).run prog w
  = .ok (.agg #[RG 7 188,RG w.heap.size 0,.int .u64 153]) (w.alloc (L8 #[R9 k] 188)):=by kernel_rfl
theorem Tryz.elemOfP(w:J):(Rtype.elem? 246).run prog w=.ok (some 188) w:=by kernel_rfl
theorem Tryz.mkFault(p:Addr)(w:J):(ReflectliteValue.mk 188 p ReflectliteValue.flagAddr).run prog w=.ok (.agg #[RG 7 188,.pointer (some p),.int .u64 409]) w:=by kernel_rfl
theorem Tryz.elemVFault(a p:Addr)(W:J)(b:W.cell? a=some (.pointer (some p))):(ReflectliteValue.method (ReflectliteValue.valueError "reflectlite.Value.Elem" 0) ReflectliteValue.elem #[.agg #[RG 7 246,.pointer (some a),.int .u64 150]]).run prog W
    = .ok (.agg #[RG 7 188,.pointer (some p),.int .u64 409]) W:=by
 delta ReflectliteValue.method
 rw[Ui];simp only[ji,Tryz.partsFault,Result.andThen];simp[ReflectliteValue.elem,loadVar,isAgg,underlying,underlying246,b,Result.andThen,Tryz.elemOfP,Tryz.mkFault]
theorem Tryz.partsA(a:Addr)(w:J):(ReflectliteValue.parts (.agg #[RG 7 188,.pointer (some a),.int .u64 409])).run prog w=.ok (some (188,a,409)) w:=by kernel_rfl
theorem Tryz.partsB(a:Addr)(w:J):(ReflectliteValue.parts (.agg #[RG 7 188,.pointer (some a),.int .u64 153])).run prog w=.ok (some (188,a,153)) w:=by kernel_rfl
theorem Tryz.directFault(w:J):(Rtype.directlyAssignable 188 188).run prog w=.ok true w:=by kernel_rfl
theorem Tryz.setFault(a b:Addr)(k:Int)(old:Y)(W:J)(c:W.cell? b=some (R9 k))(e:W.cell? a=some old)(d:W.frozen? a=false):(ReflectliteValue.set #[.agg #[RG 7 188,.pointer (some a),.int .u64 409],.agg #[RG 7 188,.pointer (some b),.int .u64 153]]).run prog W
    = .ok (.tuple #[]) (W.setCell a (R9 k)):=by
 delta ReflectliteValue.set
 rw[zdK];simp only[ji,Tryz.partsA,Tryz.partsB,Result.andThen];simp[ReflectliteValue.flagAddr,loadVar,isAgg,Tryz.sizeOf188,loadCells,loadCellsFrom,c,Result.andThen,Tryz.directFault,storeVar,Value.cells,storeCells,Addr.add];rw[ZB prog W a _ _ (by rfl)];simp[e,d]
theorem QG{w:J}{a:Addr}{v:Y}(h:w.cell? a=some v)(O:Obj):(w.alloc O).cell? a=some v:=by
 have b:a.block<w.heap.size:=by
  rcases UW a.block w.heap.size with h'|h'
  ·exact h'
  simp[World.cell?,Array.getElem?_eq_none h']at h
 rw[World.cell?_alloc_lt _ _ a b];exact h
theorem df{w:J}{a:Addr}{v:Y}(h:w.cell? a=some v)(b:w.frozen? a=false)(O:Obj):(w.alloc O).frozen? a=false:=by
 have c:a.block<w.heap.size:=by
  rcases UW a.block w.heap.size with h'|h'
  ·exact h'
  simp[World.cell?,Array.getElem?_eq_none h']at h
 rw[World.frozen?_alloc_old _ _ a (Nat.ne_of_lt c)];exact b
theorem II(k:Int)(t:Addr)(old:Y)(w:J)(j:ku w)(a:w.cell? t=some old)(h:w.frozen? t=false):R8 65 #[.iface 188 (.agg #[R9 k]),.iface 246 (.pointer (some t))] w λe x=>e=.returned (.bool true)/\∀base,base<=t.block->base<=w.heap.size->Below base w x:=by
 have B:=cB
 have C:=eP
 have D:=fC
 have o:=iT;have q:=kz
 have r:=kP
 have l:=bz
 have p:=bW
 have P:=Tryz.typeOfFault;have H:=Tryz.methodAssignableTo;have L:=Tryz.methodKind;have I:=Tryz.methodElem;have K:=Tryz.methodImplements;have y:=Tryz.assignableFault;have f6:=Tryz.valueOfFault;have f7:=Tryz.typeFault;have F:=Tryz.kindPFault;have G:=Tryz.kindFault;have z:=Tryz.elemFault;have E:=Tryz.implementsFault;have M:=λO=>Tryz.isNilFault (G8 w.heap.size 0) t ((w.alloc (L8 #[.pointer (some t)] 246)).alloc O) (by simp);have s:=Tryz.faultNoAs;have u:=Tryz.faultNoUnwrap;have v:=Tryz.faultNoUnwraps
 have m:=kT
 have n:=mE;have Q:=Tryz.valueOfHeld;have A:=λb c=>Tryz.elemVFault (G8 w.heap.size 0) t (((w.alloc (L8 #[.pointer (some t)] 246)).alloc b).alloc c) (QG (QG (by simp) b) c)
 have N:=λb c=>Tryz.setFault t (G8 (w.heap.size+1+1+1) 0) k old ((((w.alloc (L8 #[.pointer (some t)] 246)).alloc b).alloc c).alloc (L8 #[R9 k] 188))
  (by rw[U1 _ _ _ _ (by simp)];rfl) (QG (QG (QG (QG a _) b) c) _)
  (df (QG (QG (QG a _) b) c) (df (QG (QG a _) b) (df (QG a _) (df a h _) b) c) _)
 have i:=λb c:Obj=>j.below ((nbl w b).alloc (by simp) c);unfold ku at i;clear j s u v;go_enter func65,ntmps65;go_wp2;refine Qy 1 ?_;rw[Zi];go_wp2;go_ret;refine⟨rfl,λbase f g=>?_⟩;exact(((((zf base w).alloc g _).alloc (by simp;omega) _).alloc (by simp;omega) _).alloc (by simp;omega) _).setCell f _
theorem Tryz.valueOfDeep(t:Addr)(w:J):(ReflectliteValue.unpack (.iface 154 (.pointer (some t)))).run prog w
  = .ok (.agg #[RG 7 154,RG w.heap.size 0,.int .u64 150]) (w.alloc (L8 #[.pointer (some t)] 154)):=by kernel_rfl
theorem Tryz.typeDeep (a:Addr) (w:J):(ReflectliteValue.methodAny (ReflectliteValue.valueError "reflectlite.Value.Type" 0) (λt _ _ _=>ReflectliteType.toType t) #[.agg #[RG 7 154,.pointer (some a),.int .u64 150]]).run prog w
  = .ok (.iface 302 (.agg #[RG 7 154])) w:=by kernel_rfl
theorem Tryz.kindPDeep(w:J):((ReflectliteType.abiMethod λt=>(λa:Nat=>Value.int IntKind.u8 (a:Int)) <$> Rtype.kind t) #[RG 7 154]).run prog w=.ok (.int .u8 22) w:=by kernel_rfl
theorem Tryz.kindDeep(w:J):((ReflectliteType.abiMethod λt=>(λa:Nat=>Value.int IntKind.u8 (a:Int)) <$> Rtype.kind t) #[RG 7 149]).run prog w=.ok (.int .u8 25) w:=by kernel_rfl
theorem Tryz.partsDeep(a:Addr)(w:J):(ReflectliteValue.parts (.agg #[RG 7 154,.pointer (some a),.int .u64 150])).run prog w=.ok (some (154,a,150)) w:=by kernel_rfl
theorem Tryz.isNilDeep(a p:Addr)(W:J)(b:W.cell? a=some (.pointer (some p))):(ReflectliteValue.method (ReflectliteValue.valueError "reflectlite.Value.IsNil" 0) ReflectliteValue.isNil #[.agg #[RG 7 154,.pointer (some a),.int .u64 150]]).run prog W=.ok T9 W:=by
 delta ReflectliteValue.method
 rw[Ui];simp only[ji,Tryz.partsDeep,Result.andThen];simp[ReflectliteValue.isNil,loadVar,isAgg,underlying,underlying154,b,Result.andThen]
theorem Tryz.elemDeep(w:J):(ReflectliteType.method ReflectliteType.elem #[.agg #[RG 7 154]]).run prog w=.ok (.iface 302 (.agg #[RG 7 149])) w:=by kernel_rfl
theorem Tryz.implementsDeep (w:J):(ReflectliteType.relation "Implements" ReflectliteType.implements_ #[.agg #[RG 7 149],.iface 302 (.agg #[RG 7 82])]).run prog w=.ok L6 w:=by kernel_rfl
theorem Tryz.assignableDeep (w:J):(ReflectliteType.relation "AssignableTo" ReflectliteType.assignableTo #[.agg #[RG 7 188],.iface 302 (.agg #[RG 7 149])]).run prog w=.ok T9 w:=by kernel_rfl
theorem IK(v:Y)(t:Addr)(w:J)(c:ku w):R8 65 #[.iface 188 v,.iface 154 (.pointer (some t))] w (G5 (.bool false) w):=by
 have o:=mI
 have p:=eP
 have q:=fC
 have h:=iT;have j:=kz
 have k:=kP
 have g:=bz
 have i:=bW
 have F:=Tryz.typeOfFault;have x:=Tryz.methodAssignableTo;have A:=Tryz.methodKind;have y:=Tryz.methodElem;have z:=Tryz.methodImplements;have m:=Tryz.assignableDeep;have f6:=Tryz.valueOfDeep;have f7:=Tryz.typeDeep;have s:=Tryz.kindPDeep;have u:=Tryz.kindDeep;have n:=Tryz.elemDeep;have r:=Tryz.implementsDeep;have E:=λO=>Tryz.isNilDeep (G8 w.heap.size 0) t ((w.alloc (L8 #[.pointer (some t)] 154)).alloc O) (by simp);have B:=Tryz.faultNoAs;have C:=Tryz.faultNoUnwrap;have D:=Tryz.faultNoUnwraps;have b:=λd f:Obj=>c.below ((nbl w d).alloc (by simp) f);unfold ku at b;clear c;go_enter func65,ntmps65;go_wp2;refine Qy 1 ?_;rw[Zi];go_wp2;go_ret;exact⟨rfl,((nbl w _).alloc (by simp) _).alloc (by simp;omega) _⟩
theorem Tryz.valueOfTwice(t:Addr)(w:J):(ReflectliteValue.unpack (.iface 155 (.pointer (some t)))).run prog w
  = .ok (.agg #[RG 7 155,RG w.heap.size 0,.int .u64 150]) (w.alloc (L8 #[.pointer (some t)] 155)):=by kernel_rfl
theorem Tryz.typeTwice (a:Addr) (w:J):(ReflectliteValue.methodAny (ReflectliteValue.valueError "reflectlite.Value.Type" 0) (λt _ _ _=>ReflectliteType.toType t) #[.agg #[RG 7 155,.pointer (some a),.int .u64 150]]).run prog w
  = .ok (.iface 302 (.agg #[RG 7 155])) w:=by kernel_rfl
theorem Tryz.kindPTwice(w:J):((ReflectliteType.abiMethod λt=>(λa:Nat=>Value.int IntKind.u8 (a:Int)) <$> Rtype.kind t) #[RG 7 155]).run prog w=.ok (.int .u8 22) w:=by kernel_rfl
theorem Tryz.kindTwice(w:J):((ReflectliteType.abiMethod λt=>(λa:Nat=>Value.int IntKind.u8 (a:Int)) <$> Rtype.kind t) #[RG 7 150]).run prog w=.ok (.int .u8 25) w:=by kernel_rfl
theorem Tryz.partsTwice(a:Addr)(w:J):(ReflectliteValue.parts (.agg #[RG 7 155,.pointer (some a),.int .u64 150])).run prog w=.ok (some (155,a,150)) w:=by kernel_rfl
theorem Tryz.isNilTwice(a p:Addr)(W:J)(b:W.cell? a=some (.pointer (some p))):(ReflectliteValue.method (ReflectliteValue.valueError "reflectlite.Value.IsNil" 0) ReflectliteValue.isNil #[.agg #[RG 7 155,.pointer (some a),.int .u64 150]]).run prog W=.ok T9 W:=by
 delta ReflectliteValue.method
 rw[Ui];simp only[ji,Tryz.partsTwice,Result.andThen];simp[ReflectliteValue.isNil,loadVar,isAgg,underlying,underlying155,b,Result.andThen]
theorem Tryz.elemTwice(w:J):(ReflectliteType.method ReflectliteType.elem #[.agg #[RG 7 155]]).run prog w=.ok (.iface 302 (.agg #[RG 7 150])) w:=by kernel_rfl
theorem Tryz.implementsTwice (w:J):(ReflectliteType.relation "Implements" ReflectliteType.implements_ #[.agg #[RG 7 150],.iface 302 (.agg #[RG 7 82])]).run prog w=.ok L6 w:=by kernel_rfl
theorem Tryz.assignableTwice (w:J):(ReflectliteType.relation "AssignableTo" ReflectliteType.assignableTo #[.agg #[RG 7 188],.iface 302 (.agg #[RG 7 150])]).run prog w=.ok T9 w:=by kernel_rfl
theorem IP(v:Y)(t:Addr)(w:J)(c:ku w):R8 65 #[.iface 188 v,.iface 155 (.pointer (some t))] w (G5 (.bool false) w):=by
 have o:=mI
 have p:=eP
 have q:=fC
 have h:=iT;have j:=kz
 have k:=kP
 have g:=bz
 have i:=bW
 have F:=Tryz.typeOfFault;have x:=Tryz.methodAssignableTo;have A:=Tryz.methodKind;have y:=Tryz.methodElem;have z:=Tryz.methodImplements;have m:=Tryz.assignableTwice;have f6:=Tryz.valueOfTwice;have f7:=Tryz.typeTwice;have s:=Tryz.kindPTwice;have u:=Tryz.kindTwice;have n:=Tryz.elemTwice;have r:=Tryz.implementsTwice;have E:=λO=>Tryz.isNilTwice (G8 w.heap.size 0) t ((w.alloc (L8 #[.pointer (some t)] 155)).alloc O) (by simp);have B:=Tryz.faultNoAs;have C:=Tryz.faultNoUnwrap;have D:=Tryz.faultNoUnwraps;have b:=λd f:Obj=>c.below ((nbl w d).alloc (by simp) f);unfold ku at b;clear c;go_enter func65,ntmps65;go_wp2;refine Qy 1 ?_;rw[Zi];go_wp2;go_ret;exact⟨rfl,((nbl w _).alloc (by simp) _).alloc (by simp;omega) _⟩
theorem Tryz.valueOfStatement(t:Addr)(w:J):(ReflectliteValue.unpack (.iface 245 (.pointer (some t)))).run prog w
  = .ok (.agg #[RG 7 245,RG w.heap.size 0,.int .u64 150]) (w.alloc (L8 #[.pointer (some t)] 245)):=by kernel_rfl
theorem Tryz.typeStatement (a:Addr) (w:J):(ReflectliteValue.methodAny (ReflectliteValue.valueError "reflectlite.Value.Type" 0) (λt _ _ _=>ReflectliteType.toType t) #[.agg #[RG 7 245,.pointer (some a),.int .u64 150]]).run prog w
  = .ok (.iface 302 (.agg #[RG 7 245])) w:=by kernel_rfl
theorem Tryz.kindPStatement(w:J):((ReflectliteType.abiMethod λt=>(λa:Nat=>Value.int IntKind.u8 (a:Int)) <$> Rtype.kind t) #[RG 7 245]).run prog w=.ok (.int .u8 22) w:=by kernel_rfl
theorem Tryz.kindStatement(w:J):((ReflectliteType.abiMethod λt=>(λa:Nat=>Value.int IntKind.u8 (a:Int)) <$> Rtype.kind t) #[RG 7 146]).run prog w=.ok (.int .u8 25) w:=by kernel_rfl
theorem Tryz.partsStatement(a:Addr)(w:J):(ReflectliteValue.parts (.agg #[RG 7 245,.pointer (some a),.int .u64 150])).run prog w=.ok (some (245,a,150)) w:=by kernel_rfl
theorem Tryz.isNilStatement(a p:Addr)(W:J)(b:W.cell? a=some (.pointer (some p))):(ReflectliteValue.method (ReflectliteValue.valueError "reflectlite.Value.IsNil" 0) ReflectliteValue.isNil #[.agg #[RG 7 245,.pointer (some a),.int .u64 150]]).run prog W=.ok T9 W:=by
 delta ReflectliteValue.method
 rw[Ui];simp only[ji,Tryz.partsStatement,Result.andThen];simp[ReflectliteValue.isNil,loadVar,isAgg,underlying,underlying245,b,Result.andThen]
theorem Tryz.elemStatement(w:J):(ReflectliteType.method ReflectliteType.elem #[.agg #[RG 7 245]]).run prog w=.ok (.iface 302 (.agg #[RG 7 146])) w:=by kernel_rfl
theorem Tryz.implementsStatement (w:J):(ReflectliteType.relation "Implements" ReflectliteType.implements_ #[.agg #[RG 7 146],.iface 302 (.agg #[RG 7 82])]).run prog w=.ok L6 w:=by kernel_rfl
theorem Tryz.assignableStatement (w:J):(ReflectliteType.relation "AssignableTo" ReflectliteType.assignableTo #[.agg #[RG 7 188],.iface 302 (.agg #[RG 7 146])]).run prog w=.ok T9 w:=by kernel_rfl
theorem IL(v:Y)(t:Addr)(w:J)(c:ku w):R8 65 #[.iface 188 v,.iface 245 (.pointer (some t))] w (G5 (.bool false) w):=by
 have o:=mI
 have p:=eP
 have q:=fC
 have h:=iT;have j:=kz
 have k:=kP
 have g:=bz
 have i:=bW
 have F:=Tryz.typeOfFault;have x:=Tryz.methodAssignableTo;have A:=Tryz.methodKind;have y:=Tryz.methodElem;have z:=Tryz.methodImplements;have m:=Tryz.assignableStatement;have f6:=Tryz.valueOfStatement;have f7:=Tryz.typeStatement;have s:=Tryz.kindPStatement;have u:=Tryz.kindStatement;have n:=Tryz.elemStatement;have r:=Tryz.implementsStatement;have E:=λO=>Tryz.isNilStatement (G8 w.heap.size 0) t ((w.alloc (L8 #[.pointer (some t)] 245)).alloc O) (by simp);have B:=Tryz.faultNoAs;have C:=Tryz.faultNoUnwrap;have D:=Tryz.faultNoUnwraps;have b:=λd f:Obj=>c.below ((nbl w d).alloc (by simp) f);unfold ku at b;clear c;go_enter func65,ntmps65;go_wp2;refine Qy 1 ?_;rw[Zi];go_wp2;go_ret;exact⟨rfl,((nbl w _).alloc (by simp) _).alloc (by simp;omega) _⟩
end Go.Proofs.YtfjpcldndaiifaaGreatDoor
namespace Go.Proofs.YtfjpcldndaiifaaGreatDoor
open Go.RowKit
def UV(w:J):Prop:=∃a,w.cell? (G8 0 0)=some (.iface 391 (.pointer (some a)))
theorem UV.below{w w':J}(h:UV w)(c:BQ w w'):UV w':=by
 obtain⟨a,b⟩:=h;exact⟨a,zi c b⟩
theorem zdP(k:Int)(w:J)(h:ku w):R8 66 #[.iface 188 (.agg #[R9 k])] w (G5 (.tuple #[.int .i64 6,.int .i64 0]) w):=by
 have g:=λc d=>(nbl w c).alloc (by simp) d;have c1:=λc d=>IL (.agg #[R9 k]) (G8 w.heap.size 0) ((w.alloc c).alloc d) (h.below (g c d));go_enter func66,ntmps66
 go_wp2_with(first
  |(go_at_call 65;refine(II k (G8 (w.heap.size+1) 0) (R9 0) i (h.below a) ?_ ?_).mono ?_;exact zi b (by simp);(rw[b.frozen (by simp)];simp);rintro e l⟨rfl,f⟩)
  |(go_at_call 65;apply(c1 _ _).mono;rintro e i⟨rfl,b⟩;have a:BQ w i:=(g _ _).trans (b.mono (by simp;omega))))
 go_ret2;exact⟨rfl,a.trans (f w.heap.size (by simp) a.size)⟩
theorem Pq(k:Int)(w:J)(p:ku w)(y:UV w):R8 34 #[.iface 188 (.agg #[R9 k])] w (G5 (.tuple #[.int .i64 6,.int .i64 0]) w):=by
 obtain⟨u,q⟩:=y;have j:=λd f g=>((nbl w d).alloc (by simp) f).alloc (by simp;omega) g;have x:=λd f g=>zi (j d f g) q;have v:=λW=>TJ (.agg #[R9 k]) u W;have c1:=λd f g=>IM (.agg #[R9 k]) (G8 w.heap.size 0) (((w.alloc d).alloc f).alloc g) (p.below (j d f g));have c2:=λW h=>IK (.agg #[R9 k]) (G8 (w.heap.size+1) 0) W h;have c3:=λW h=>IP (.agg #[R9 k]) (G8 (w.heap.size+2) 0) W h;have c4:=λW h=>zdP k W h;have i:∀W,BQ w W->ku W:=λW h=>p.below h;clear p q;go_enter func34,ntmps34
 go_wp2_with(first
  |(go_at_call 64;apply(v _).mono;rintro e A⟨rfl,rfl⟩)
  |(go_at_call 66;apply(c4 t (i _ c)).mono;rintro e B⟨rfl,o⟩)
  |(go_at_call 65;apply(c3 s (i _ b)).mono;rintro e t⟨rfl,n⟩;have c:BQ w t:=b.trans (n.mono b.size))
  |(go_at_call 65;apply(c2 r (i _ a)).mono;rintro e s⟨rfl,m⟩;have b:BQ w s:=a.trans (m.mono a.size))
  |(go_at_call 65;apply(c1 _ _ _).mono;rintro e r⟨rfl,l⟩;have a:BQ w r:=(j _ _ _).trans (l.mono (by simp;omega))))
 go_ret2;exact⟨rfl,c.trans (o.mono c.size)⟩
structure Env (w:J):Prop where
 tabs:uG w
 max:XV w
 err:ku w
 long:UV w
theorem Env.below{w w':J}(h:Env w)(a:BQ w w'):Env w':=⟨h.tabs.below a,h.max.below a,h.err.below a,h.long.below a⟩
theorem zdj(r:U.Req)(h:U.qR r=true)(n v:BY)(a:U.says r n=some v):v.size<=100/\(U.chars v).isSome=true:=by
 have b:U.xH v=true:=by
  unfold U.qR at h;simp only[jX]at h;obtain⟨⟨⟨⟨c,d⟩,e⟩,i⟩,f⟩:=h;unfold U.says at a;split at a
  ·simp at a;subst a;exact c
  split at a
  ·simp at a;subst a;exact d
  split at a
  ·simp at a;subst a;exact e
  unfold U.Ju at a;obtain⟨m,g,rfl⟩:=vT.1 a
  have:=Zq.1 f m (aO g)
  unfold U.jw at this;simp only[jX]at this;exact this.1.1.1.2
 unfold U.xH at b;simp at b;exact⟨b.2,b.1⟩
theorem EB(a word:BY)(r:U.Req)(ao:Option Addr)(cap:Nat)(w:J)(hm:qK w ao r.marks)(hr:U.XE r)(hp:a.size<=maxLen)(hw:word.size*16<=140737488355328)(y:Env w):R8 29 #[S9 a,S9 word,U.zX r ao cap] w λe w'=>
   e=.returned (.tuple #[.bool (U.Yc a word r).1,.int .i64 (U.Yc a word r).2])/\BQ w w':=by
 have b0:=λO=>nbl w O;have R:=λO=>nR a (w.alloc O) hp (y.max.below (b0 O)) (y.tabs.below (b0 O));obtain⟨P,hP⟩:=Nm (U.parts a);have C:=U.nG a;have D:=Pg.Em a;rw[hP]at C D;simp only[hP]at R;obtain⟨⟨A,N⟩,b⟩:∃p,U.Yc a word r=p:=⟨_,rfl⟩;rw[b];simp only;have a0:=hr.2.2.2.1;have u:=λW s=>zaT r ao cap W (xh hm s) hr (y.tabs.below s);have G:=λW s=>BJ word W (by unfold maxLen;omega) (y.tabs.below s);have F:=λW n B s=>Cw r n ao cap B W a0 (xh hm s);have H:=λW=>Fu r ao cap W;have cF:=λW k s=>Pq k W (y.err.below s) (y.long.below s);unfold U.Yc U.yQ at b;rw[hP]at b;have m:=zdj r;obtain⟨t,q,on,ms⟩:=r;unfold U.zX at u H |-;simp only at u F H a0 |-;clear hr y hm hP
 cases P with
 | none=>
  simp only[uB,qJ]at b;obtain⟨rfl,rfl⟩:=Prod.mk.inj b;clear u G F H m b;go_enter func29,ntmps29
  go_wp2_with(first
   |(go_at_call 34;apply(cF i _ d).mono;rintro e o⟨rfl,c⟩)
   |(go_at_call 48;apply(R _).mono;rintro e i⟨v,x,rfl,g,f⟩;have d:BQ w i:=(b0 _).trans (g.mono (by simp));rcases f with⟨_,rfl,k,rfl⟩|⟨ps,hps,_⟩;rotate_left;cases hps))
  go_ret2;exact⟨rfl,d.trans (c.mono d.size)⟩
 | some ps=>
  rw[za (by simp)]at b;simp only[yP]at C D b;clear cF
  cases d1:U.qR ⟨t,q,on,ms⟩ with
  | false=>
   rw[d1]at u b;rw[zb (by simp)]at b;obtain⟨rfl,rfl⟩:=Prod.mk.inj b;clear G F H m b d1;go_enter func29,ntmps29
   go_wp2_with(first
    |(go_at_call 49;apply(u i d).mono;rintro e o⟨rfl,c⟩;have h:BQ w o:=d.trans (c.mono d.size);obtain⟨L,Q⟩:=qP c;have X:w.heap.size<o.heap.size:=by (have:=c.size;omega))
    |(go_at_call 48;apply(R _).mono;rintro e i⟨v,x,rfl,g,f⟩;have d:BQ w i:=(b0 _).trans (g.mono (by simp));rcases f with⟨hps,_⟩|⟨ps',hps,rfl,hown⟩;cases hps;cases hps;obtain⟨K,M⟩:=qP g;have V:w.heap.size<i.heap.size:=by (have:=g.size;simp at this;omega)))
   go_ret2;exact⟨rfl,h⟩
  | true=>
   rw[d1]at u b
   cases d2:U.xH word with
   | false=>
    simp only[d2]at G;rw[d2,zb (by simp)]at b;obtain⟨rfl,rfl⟩:=Prod.mk.inj b;clear F H m b d1 d2;go_enter func29,ntmps29
    go_wp2_with(first
     |(go_at_call 50;apply(G o h).mono;rintro e E⟨rfl,l⟩;have j:BQ w E:=h.trans (l.mono h.size))
     |(go_at_call 49;apply(u i d).mono;rintro e o⟨rfl,c⟩;have h:BQ w o:=d.trans (c.mono d.size);obtain⟨L,Q⟩:=qP c;have X:w.heap.size<o.heap.size:=by (have:=c.size;omega))
     |(go_at_call 48;apply(R _).mono;rintro e i⟨v,x,rfl,g,f⟩;have d:BQ w i:=(b0 _).trans (g.mono (by simp));rcases f with⟨hps,_⟩|⟨ps',hps,rfl,hown⟩;cases hps;cases hps;obtain⟨K,M⟩:=qP g;have V:w.heap.size<i.heap.size:=by (have:=g.size;simp at this;omega)))
    go_ret2;exact⟨rfl,j⟩
   | true=>
    simp only[d2]at G;rw[d2,za (by simp)]at b;obtain⟨hA,rfl⟩:=Prod.mk.inj b
    have T:word.size<=100/\(U.chars word).isSome=true:=by
     unfold U.xH at d2;simp at d2;exact⟨d2.2,d2.1⟩
    have cP:=λI (lv:Y) (hl:Pg.At (I.alloc (L8 #[S9 t,S9 q,S9 on,TL ao ms.length cap] 35)) lv ps) (z:BQ w I)=>
     En ⟨t,q,on,ms⟩ ps lv word 90 #[RG I.heap.size 0] (I.alloc (L8 #[S9 t,S9 q,S9 on,TL ao ms.length cap] 35)) hl C D T.1 T.2 (m d1) (qo func90 (by kernel_rfl) rfl)
      (λW2 n S=>by
        have c:BQ w W2:=(z.alloc z.size _).trans (S.mono (by have:=z.size;simp;omega));exact F W2 n I.heap.size c (zi S (by simp)) (zi S (by simp)) (zi S (by simp)) (zi S (by simp)))
      A hA
    clear F m b d1 d2 hA;go_enter func29,ntmps29
    go_wp2_with(first
     |(go_at_call 51;apply(cP E v ((((Pg.sS rfl hown).below c).below l).below (nbl E _)) j).mono;rintro e w4⟨rfl,a3⟩)
     |(go_at_call 52;apply(H E).mono;rintro e w4⟨rfl,rfl⟩)
     |(go_at_call 50;apply(G o h).mono;rintro e E⟨rfl,l⟩;have j:BQ w E:=h.trans (l.mono h.size);obtain⟨b2,b3⟩:=qP l;have b7:w.heap.size<E.heap.size:=by (have:=l.size;omega))
     |(go_at_call 49;apply(u i d).mono;rintro e o⟨rfl,c⟩;have h:BQ w o:=d.trans (c.mono d.size);obtain⟨L,Q⟩:=qP c;have X:w.heap.size<o.heap.size:=by (have:=c.size;omega))
     |(go_at_call 48;apply(R _).mono;rintro e i⟨v,x,rfl,g,f⟩;have d:BQ w i:=(b0 _).trans (g.mono (by simp));rcases f with⟨hps,_⟩|⟨ps',hps,rfl,hown⟩;cases hps;cases hps;obtain⟨K,M⟩:=qP g;have V:w.heap.size<i.heap.size:=by (have:=g.size;simp at this;omega)))
    go_ret2;exact⟨rfl,(j.alloc j.size _).trans (a3.mono (by have:=j.size;simp;omega))⟩
end Go.Proofs.YtfjpcldndaiifaaGreatDoor
