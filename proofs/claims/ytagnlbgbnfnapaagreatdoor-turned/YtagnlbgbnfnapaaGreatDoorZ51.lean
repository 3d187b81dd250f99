/- P -/
import Derived.Test.YtagnlbgbnfnapaaGreatDoorZ50
open Go.Proofs.Tryz
set_option maxRecDepth 100000
set_option maxHeartbeats 800000
namespace Go.Proofs.YtagnlbgbnfnapaaGreatDoor
open Go.RowKit
namespace Kp
def Xk(b style:Int)(l:List zm)(j:Nat):List zm:=(List.range j).map (λk=>Zp b style ((l.take 4).getD ((k+zy b (l.take 4).length) % (l.take 4).length) xu))
theorem zaI(b style:Int)(l:List zm)(j:Nat):Xk b style l (j+1)=Xk b style l j++[Zp b style ((l.take 4).getD ((j+zy b (l.take 4).length) % (l.take 4).length) xu)]:=by
 unfold Xk;rw[UB,jN,List.map_singleton]
theorem zaH(b style:Int)(l:List zm)(j:Nat):(Xk b style l j).length=j:=by unfold Xk;rw[qg,jM]
theorem iV{l:List Int}{b:Int}(h:∀x ∈ l,I64 x):∀x ∈ qi l b,I64 x:=λx a=>h x (Ju ((iW l b x).1 a))
end Kp
theorem IntsIn.all{w:World}{v:Value}{l:List Int}(h:IntsIn w v l):∀x ∈ l,I64 x:=λx e=>by
 obtain⟨a,c,_,b⟩:=h;obtain⟨k,d⟩:=lT e;exact (b k x d).1
structure TuP (w wr:World) (oa ob:Nat) (sa sb:StO):Prop where
 below:Below w.heap.size w wr
 a:qN (λb=>b=oa) wr oa sa
 b:qN (λb=>b=ob) wr ob sb
theorem TuP.step{w wr c:World}{oa d:Nat}{e sb:StO}(h:TuP w wr oa d e sb)(hb:Below wr.heap.size wr c):TuP w c oa d e sb:=
 ⟨h.below.trans (hb.mono h.below.size),h.a.below hb,h.b.below hb⟩
theorem zaJ(l:List Kp.qp)(b style:Int)(asks:List (List Int))(lv av:Value)(aL:Addr)(w:World)(hC:Qh w aL)(hE:xK w)(h:XA w lv l)(hm:l.length<=3518437208883)(hb:I64 b)(hs:I64 style)(hA:lH w av asks)(hn:asks.length<=maxLen) :
  Calls prog 5 #[lv,.int .i64 b,.int .i64 style,av] w λe w'=>e = .returned (.bool true)/\Below w.heap.size w w':=by
 have co:=gF l lv aL w hC h (by unfold maxLen;omega);obtain⟨sa,n8⟩:∃s,Kp.uL l=s:=⟨_,rfl⟩;unfold UF at co;rw[n8] at co;have CO:=hid co;have HC:=hid hC;have HE:=hid hE;have HA:=hid hA;have HP:=hid h;have v8:=hid n8;obtain⟨a,cc,rfl,_⟩:=h;obtain⟨a2,c2,rfl,_⟩:=hA;obtain⟨N,hN⟩:∃m,l.length=m:=⟨_,rfl⟩;obtain⟨m,m7⟩:=Nm asks.length;rw[hN] at hm HP CO |-;rw[m7] at hn HA |-;have HN:=hid hN;have k4:=hid m7;unfold maxLen at hn;obtain⟨i0,H2,H9,I0,I4⟩:=jl PR;obtain⟨i1,hi1,H8,hy1,hy2⟩:=jl SL;clear co n8 hC hE hN m7;go_enter func5,ntmps5
 go_upto_region 4 with (go_at_call 8;refine CO.out.mono ?_;rintro e w1 ⟨oa,rfl,h1,h2,b1,o1⟩;have B1:=hid b1;have O1:=hid o1;clear b1 o1)
 obtain⟨Bm,l8⟩:∃x,w1.heap.size=x:=⟨_,rfl⟩;have j0:=hid l8;have D1:w.heap.size<=Bm:=by rw[<- l8];exact B1.out.size
 clear l8 CO
 go_loopw [11,12] (λmv iv wr=>∃(k:Nat) (xs:List Value),k<=N/\iv = .int .i64 k/\Below Bm w1 wr/\wr.ownsRow Bm 53 3 mv k xs/\jO (λx=>mv.ownBlock=some x) wr xs ((l.take k).map (Kp.ul b style))) (λ_ iv _=>N-(intOf iv).toNat)
 case atStart=>exact⟨0,[],zU _,rfl,zi _ _,jR _ _ _ _,jO.nil _ _⟩
 case round=>
  obtain⟨k,xs,hk,rfl,z,ho,Q⟩:=hrel;obtain⟨wo,B8⟩:∃x,wr=x:=⟨_,rfl⟩;rw[B8] at z ho Q |-;clear B8
  by_cases hkN:k<N
  ·have f7:k<l.length:=by rw[HN.out];exact hkN
   obtain⟨_,_,c5,F⟩:=HP.out;obtain⟨p1,p2,n5,gb,o,rv,ea,q0,q1,q2,n6⟩:=F k _ (zt f7);have l6:a=some ⟨gb,o,none⟩:=by injection c5 with e1;rw[e1];exact ea
   subst l6;have G:(l.take (k+1)).map (Kp.ul b style)=(l.take k).map (Kp.ul b style)++[Kp.ul b style l[k]]:=by rw[Xy f7,jN,List.map_singleton]
   obtain⟨A,n1⟩:∃x,l[k]=x:=⟨_,rfl⟩;rw[n1] at p1 p2 n5 q0 q1 n6 G;have P:Below w.heap.size w wo:=B1.out.trans (z.mono D1);have c0:=zh P q0;have c1:=zh P q1;have y7:=zh P q2;have F3:=hid n6;obtain⟨ra,rc,rfl,n4⟩:=n6;have H1:=n4;obtain⟨R,hR⟩:∃x,A.rules.length=x:=⟨_,rfl⟩;rw[hR] at y7 n5 F3;have F2:=hid n4;have A9:=xE (i:=4) (l:=A.rules);obtain⟨n,n0⟩:=Nm ((A.rules.take 4).length);rw[n0,hR] at A9;have A7:min ((R:Nat):Int) 4=((n:Nat):Int):=by omega
   have m6:min 4 ((R:Nat):Int)=((n:Nat):Int):=by omega
   have hn1:n<=4:=by omega
   have hn2:n<=R:=by omega
   unfold maxLen at n5;have HO:=hid ho;have HX:=hid Q;have X:=hid z;have F1:=hid G;have Z:=hid P;have HPP:=hid n1;have HR:=hid hR;have k5:=hid n0;have P1:=hid p1;have P2:=hid p2;clear ho Q z G P n1 hR n0 p1 p2 n4 H1 A9 q0 q1 q2 F c5 ea HP
   go_upto_region 7 with fail
   obtain⟨W2,f5⟩:∃W,wo.alloc (.cells #[.int .i64 A.layer,.int .i64 A.name,.slice ra R rc] 53)=W:=⟨_,rfl⟩;have b2:Below wo.heap.size wo W2:=by rw[<- f5];exact nB wo _
   have n2:W2.heap[wo.heap.size]?=some (.cells #[.int .i64 A.layer,.int .i64 A.name,.slice ra R rc] 53):=by rw[<- f5];exact zL wo _
   have zo:Bm<=wo.heap.size:=by rw[<- j0.out];exact X.out.size
   have ow:=World.ownsRow.lt HO.out;obtain⟨S,B9⟩:∃x,wo.heap.size=x:=⟨_,rfl⟩;have h6:=hid (X.out.trans (b2.mono zo));have k7:=hid (Z.out.trans (b2.mono Z.out.size));have v6:=hid (ownsRow_below HO.out b2);have w0:=hid ((HX.out.wide (M':=λx=>u11.ownBlock=some x\/x=S) (λx Q=>Q.imp id (λe=>by omega))).turn (zC.of b2));have N4:Bm<=S:=by omega
   rw[B9] at n2 |-;rw[f5];have d2:=(zf n2 2).1;simp at d2;have N2:=hid n2;have zx:=zY n2;obtain⟨B,hB⟩:∃x,W2.heap.size=x:=⟨_,rfl⟩;rw[hB] at zx;have HB:=hid hB;have D2:∀x,u11.ownBlock=some x->x<S:=λx Q=>by have:=(ow x Q).2;omega
   have HZ:=hid D2;clear f5 b2 n2 B9 hB c0 c1 y7 X Z HO HX ow D2
   go_upto_region 10 with fail
   go_loopw [14,16] (λov jv wr=>∃(j:Nat) (ys:List Value),j<=n/\jv = .int .i64 j/\Below B W2 wr/\wr.ownsRow B 42 10 ov j ys/\jB (λx=>x<B\/ov.ownBlock=some x) wr ys (Kp.Xk b style A.rules j)) (λ_ jv _=>n-(intOf jv).toNat)
   case atStart=>exact⟨0,[],zU _,rfl,zi _ _,jR _ _ _ _,jB.nil _ _⟩
   case round=>
    obtain⟨j,ys,hj,rfl,z,ho,Q⟩:=hrel
    by_cases hjn:j<n
    ·have h0:0<n:=by omega
     have H5:=Kp.xI b n h0;have cp:=λW=>uh b n W hb h0 (by omega);have G:=Kp.zaI b style A.rules j;rw[k5.out] at G;obtain⟨pk,c6⟩:∃x,Kp.zy b n=x:=⟨_,rfl⟩;rw[c6] at H5 G;simp only[c6] at cp;have A8:(j+pk) % n<n:=Nat.mod_lt _ h0;obtain⟨q,hq⟩:∃x,(j+pk) % n=x:=⟨_,rfl⟩;rw[hq] at A8 G;have B2:q<A.rules.length:=by rw[HR.out];omega
     have h8:(A.rules.take 4).getD q Kp.xu=A.rules[q]:=by
      rw[zQ,Qk,zb (by omega),zt B2]
      rfl
     rw[h8] at G;obtain⟨f,m1,m2,m3,rb,ro,v1,v2,v3,ea,⟨r0,r1,r2,r3,r4,r5,r6,r7,r8,r9⟩,f8,g0,g4⟩:=F2.out q _ (zt B2);subst ea;obtain⟨c,B3⟩:∃x,A.rules[q]=x:=⟨_,rfl⟩;rw[B3] at f m1 m2 m3 r0 r4 r5 r6 r7 r8 r9 f8 g0 g4 G;have D:Below w.heap.size w wr:=k7.out.trans (z.mono (by have:=k7.out.size;have:=HB.out;omega));have s0:=zh D r0;have s1:=zh D r1;have s2:=zh D r2;have s3:=zh D r3;have s4:=zh D r4;have s5:=zh D r5;have s6:=zh D r6;have s7:=zh D r7;have s8:=zh D r8;have s9:=zh D r9
     have t2:wr.cell? ⟨S,2,none⟩=some (.slice (some ⟨rb,ro,none⟩) R rc):=by
      have hh:=z.block S zx;exact (zf (hh.trans N2.out) 2).1
     have e2:((j:Int)+(pk:Int)) % (n:Int)=(q:Int):=by rw[<- hq,Int.natCast_emod,Int.natCast_add]
     have e1:Int.tmod ((j:Int)+(pk:Int)) (n:Int)=(q:Int):=by rw[Int.tmod_eq_emod_of_nonneg (by omega)];exact e2
     have z0:((n:Int)==0)=false:=by simp;omega
     have zn:¬n=0:=by omega
     have N0:¬(n:Int)=0:=by omega
     have q0:(0:Int)<=(q:Int):=jL _;have q1:(q:Int)<(R:Int):=by omega
     have e3:IntKind.i64.wrap ((j:Int)+(pk:Int))=(j:Int)+(pk:Int):=by rw[Jr];omega
     have e4:wrap64 ((j:Int)+(pk:Int))=(j:Int)+(pk:Int):=by unfold wrap64;omega
     obtain⟨d8,e0,rfl,_⟩:=id f8;obtain⟨e5,e6,rfl,_⟩:=id g0;obtain⟨e7,e8,rfl,_⟩:=id g4;have CP:=hid cp;have v5:=hid G;have HO:=hid ho;have HX:=hid Q;have X:=hid z;have l0:=hid D;have I1:=hid f8;have I2:=hid g0;have I3:=hid g4;have FF:=hid f;clear cp G ho Q z D f8 g0 g4 f r0 r1 r2 r3 r4 r5 r6 r7 r8 r9 B3 h8 hq c6 d2
     go_upto_region 12 with fail
     go_cut [17] from 49 to 59 (λv wc=>v = .pointer (some ⟨wr.heap.size,0,none⟩)/\Below wr.heap.size wr wc/\wc.heap.size=wr.heap.size+1/\wc.heap[wr.heap.size]?=some (.cells #[.bool c.deny,.slice d8 c.who.length e0,.slice e5 c.act.length e6,.slice e7 c.on.length e8,.int .i64 c.nt,.int .i64 c.iff,.int .i64 c.key,.int .i64 c.val,.bool c.no,.int .i64 c.style] 42))
     case first=>
      have zz1:S≠wr.heap.size:=by have:=kX _ _ t2;simp only at this;omega
      have zz2:rb≠wr.heap.size:=by have:=kX _ _ s0;simp only at this;omega
      have bR:=hid ((nB wr (.cells #[.bool c.deny,.slice d8 c.who.length e0,.slice e5 c.act.length e6,.slice e7 c.on.length e8,.int .i64 c.nt,.int .i64 c.iff,.int .i64 c.key,.int .i64 c.val,.bool c.no,.int .i64 c.style] 42)).drew);have nR:=hid (zL wr (.cells #[.bool c.deny,.slice d8 c.who.length e0,.slice e5 c.act.length e6,.slice e7 c.on.length e8,.int .i64 c.nt,.int .i64 c.iff,.int .i64 c.key,.int .i64 c.val,.bool c.no,.int .i64 c.style] 42))
      go_region_held3 (λw'=>w'.cell? ⟨S,2,none⟩=some (.slice (some ⟨rb,ro,none⟩) R rc)/\w'.cell? ⟨rb,ro+q*10,none⟩=some (.bool c.deny)/\w'.cell? ⟨rb,ro+q*10+1,none⟩=some (.slice d8 c.who.length e0)/\w'.cell? ⟨rb,ro+q*10+2,none⟩=some (.slice e5 c.act.length e6)/\w'.cell? ⟨rb,ro+q*10+3,none⟩=some (.slice e7 c.on.length e8)/\w'.cell? ⟨rb,ro+q*10+4,none⟩=some (.int .i64 c.nt)/\w'.cell? ⟨rb,ro+q*10+5,none⟩=some (.int .i64 c.iff)/\w'.cell? ⟨rb,ro+q*10+6,none⟩=some (.int .i64 c.key)/\w'.cell? ⟨rb,ro+q*10+7,none⟩=some (.int .i64 c.val)/\w'.cell? ⟨rb,ro+q*10+8,none⟩=some (.bool c.no)/\w'.cell? ⟨rb,ro+q*10+9,none⟩=some (.int .i64 c.style)) (go_keep) (first
       | (go_at_call 11;refine (CP.out _).mono ?_;rintro e w4 ⟨rfl,e4⟩;rw[e4];clear e4))
      all_goals
       go_wp2_with fail
       go_meet
       case rel=>exact⟨rfl,bR.out,by simp,nR.out⟩
     case rest=>
      obtain⟨rfl,b3,z3,n3⟩:=hcut;obtain⟨W3,c4⟩:∃x,wc=x:=⟨_,rfl⟩;rw[c4] at b3 z3 n3 |-;obtain⟨xb,c7⟩:∃x,wr.heap.size=x:=⟨_,rfl⟩;have i4:B<=xb:=by rw[<- c7];have:=X.out.size;have:=HB.out;omega
      have i2:∀x,u14.ownBlock=some x->x<xb:=λx Q=>by rw[<- c7];exact (World.ownsRow.lt HO.out x Q).2
      have hw3:=l0.out.trans (b3.mono l0.out.size);have o3:=ownsRow_below HO.out b3;have x3:=(HX.out.wide (M':=λx=>(x<B\/u14.ownBlock=some x)\/x=xb) (λx Q=>Q.imp id (λe=>by omega))).turn (zC.of b3);have y6:=X.out.trans (b3.mono (by rw[c7];exact i4));rw[c7] at n3 z3 |-;have v7:=hid i2;have k8:=hid hw3;have O3:=hid o3;have X3:=hid x3;have t1:=hid y6;have N3:=hid n3;clear c4 c7 b3 n3 i2 hw3 o3 x3 y6 l0 HO HX X CP s0 s1 s2 s3 s4 s5 s6 s7 s8 s9 t2 q0 q1 z0 e1 e2 e3 e4 zn N0;have D0:TuI w W2 B xb u14 j ys (Kp.Xk b style A.rules j) #[.bool c.deny,.slice d8 c.who.length e0,.slice e5 c.act.length e6,.slice e7 c.on.length e8,.int .i64 c.nt,.int .i64 c.iff,.int .i64 c.key,.int .i64 c.val,.bool c.no,.int .i64 c.style] W3:=⟨k8.out,t1.out,O3.out,X3.out,N3.out,v7.out,by have:=k7.out.size;have:=HB.out;omega,i4⟩;have j1:=hid D0;have g1:=(zf N3.out 1).1;simp at g1;have T1:=hid (iX c.who b _ W3 (I1.out.below k8.out) m1 hb);unfold UJ at T1;clear D0 k8 t1 O3 X3 N3 v7
      go_upto_region 14 with (go_at_call 18;refine T1.out.mono ?_;rintro e w4 ⟨ov1,rfl,b4,d0⟩;obtain⟨J,L,rfl⟩:=Vg d0;have J1:=hid (j1.out.made d0 (Kp.iV I1.out.all));have j2:=hid (j1.out.step b4);obtain⟨k1,f1⟩:=zf j2.out.box 1;simp at k1;clear b4 d0)
      obtain⟨L1,z8⟩:∃x,Value.slice J (Kp.qi c.who b).length L=x:=⟨_,rfl⟩;have F0:=hid z8;have d5:=j2.out.set 1 (.slice J (Kp.qi c.who b).length L) rfl;have j5:=J1.out.box 1 (.slice J (Kp.qi c.who b).length L);obtain⟨W5,A0⟩:∃W,w4.setCell ⟨xb,1,none⟩ (.slice J (Kp.qi c.who b).length L)=W:=⟨_,rfl⟩;rw[A0] at d5 j5 |-;have j3:=hid d5;have J5:=hid j5;have g2:=(zf d5.box 2).1;simp at g2;have T2:=hid (iX c.act b _ W5 (I2.out.below d5.low) m2 hb);unfold UJ at T2;clear z8 d5 j5 A0 j2 j1 J1 T1 g1 k1 f1
      go_upto_region 15 with (go_at_call 18;refine T2.out.mono ?_;rintro e w6 ⟨ov2,rfl,b6,d1⟩;obtain⟨K,O,rfl⟩:=Vg d1;have J2:=hid (j3.out.made d1 (Kp.iV I2.out.all));have J6:=hid (J5.out.turn (zC.of b6));have j4:=hid (j3.out.step b6);obtain⟨k1,f1⟩:=zf j4.out.box 2;simp at k1;clear b6 d1)
      have d7:=j4.out.set 2 (.slice K (Kp.qi c.act b).length O) rfl;have j7:=J6.out.box 2 (.slice K (Kp.qi c.act b).length O);have l7:=J2.out.box 2 (.slice K (Kp.qi c.act b).length O);obtain⟨W7,a0⟩:∃W,w6.setCell ⟨xb,2,none⟩ (.slice K (Kp.qi c.act b).length O)=W:=⟨_,rfl⟩;rw[a0] at d7 j7 l7 |-;have j6:=hid d7;have J7:=hid j7;have L7:=hid l7;have g3:=(zf d7.box 3).1;simp at g3;have T3:=hid (iX c.on b _ W7 (I3.out.below d7.low) m3 hb);unfold UJ at T3;clear d7 j7 l7 a0 j4 j3 J5 J6 J2 T2 g2 k1 f1 F0
      go_upto_region 16 with (go_at_call 18;refine T3.out.mono ?_;rintro e w8 ⟨ov3,rfl,b8,d3⟩;obtain⟨H,I,rfl⟩:=Vg d3;have J3:=hid (j6.out.made d3 (Kp.iV I3.out.all));have J8:=hid (J7.out.turn (zC.of b8));have L8:=hid (L7.out.turn (zC.of b8));have j8:=hid (j6.out.step b8);obtain⟨k1,f1⟩:=zf j8.out.box 3;simp at k1;clear b8 d3)
      have d9:=j8.out.set 3 (.slice H (Kp.qi c.on b).length I) rfl;have j9:=J8.out.box 3 (.slice H (Kp.qi c.on b).length I);have l9:=L8.out.box 3 (.slice H (Kp.qi c.on b).length I);have m9:=J3.out.box 3 (.slice H (Kp.qi c.on b).length I);obtain⟨W9,A1⟩:∃W,w8.setCell ⟨xb,3,none⟩ (.slice H (Kp.qi c.on b).length I)=W:=⟨_,rfl⟩;rw[A1] at d9 j9 l9 m9 |-;obtain⟨k9,f9⟩:=zf d9.box 9;simp at k9;have dA:=d9.set 9 (.int .i64 style) rfl;have jA:=j9.box 9 (.int .i64 style);have lA:=l9.box 9 (.int .i64 style);have mA:=m9.box 9 (.int .i64 style);have Y:=hid dA;have JA:=hid jA;have LA:=hid lA;have MA:=hid mA;clear d9 j9 l9 m9 dA jA lA mA A1 j8 j6 J7 L7 J8 L8 J3 T3 g3 k1 f1
      go_upto_region 17 with fail
      obtain⟨WA,a1⟩:∃W,W9.setCell ⟨xb,9,none⟩ (.int .i64 style)=W:=⟨_,rfl⟩;rw[a1] at Y JA LA MA |-;have bx:WA.heap[xb]?=some (.cells #[.bool c.deny,.slice J (Kp.qi c.who b).length L,.slice K (Kp.qi c.act b).length O,.slice H (Kp.qi c.on b).length I,.int .i64 c.nt,.int .i64 c.iff,.int .i64 c.key,.int .i64 c.val,.bool c.no,.int .i64 style] 42):=Y.out.box;have cx:=λt=>(zf bx t).1;have x0:=cx 0;have x1:=cx 1;have x2:=cx 2;have x3:=cx 3;have x4:=cx 4;have x5:=cx 5;have x6:=cx 6;have x7:=cx 7;have x8:=cx 8;have x9:=cx 9;simp at x0 x1 x2 x3 x4 x5 x6 x7 x8 x9;have M7:B<=WA.heap.size:=by have:=zY bx;omega
      clear a1 cx bx k9 f9
      go_wp2_with (at_builtin;refine QP _ rfl _ _ 27 rfl B 42 i1 (.agg #[.bool false,.slice none 0 0,.slice none 0 0,.slice none 0 0,.int .i64 0,.int .i64 0,.int .i64 0,.int .i64 0,.bool false,.int .i64 0]) 10 128 underlying27 hi1 H8 hy1 hy2 rfl (by decide) _ j ys rfl (World.ownsRow.alloc Y.out.own _) ⟨WA.heap.size,0,none⟩ 1 1 [.bool c.deny,.slice J (Kp.qi c.who b).length L,.slice K (Kp.qi c.act b).length O,.slice H (Kp.qi c.on b).length I,.int .i64 c.nt,.int .i64 c.iff,.int .i64 c.key,.int .i64 c.val,.bool c.no,.int .i64 style] rfl rfl ?_ ?_ ?_ ?_ ?_ ?_)
      ·exact JF (cs:=#[.bool c.deny,.slice J (Kp.qi c.who b).length L,.slice K (Kp.qi c.act b).length O,.slice H (Kp.qi c.on b).length I,.int .i64 c.nt,.int .i64 c.iff,.int .i64 c.key,.int .i64 c.val,.bool c.no,.int .i64 style]) (t:=42) (fr:=(0,0)) (zL WA _)
      ·intro u hu;simp at hu;rcases hu with rfl|rfl|rfl|rfl|rfl|rfl|rfl|rfl|rfl|rfl<;>rfl
      ·unfold maxLen;omega
      ·omega
      ·simp;omega
      ·intro v' p5 C y _ E;have bl:Below WA.heap.size WA (WA.alloc (.cells #[.bool c.deny,.slice J (Kp.qi c.who b).length L,.slice K (Kp.qi c.act b).length O,.slice H (Kp.qi c.on b).length I,.int .i64 c.nt,.int .i64 c.iff,.int .i64 c.key,.int .i64 c.val,.bool c.no,.int .i64 style] 42)):=nB WA _;have T:=(Y.out.row.turn (zC.of bl)).add (r:=Kp.Zp b style c) ⟨FF.out.nt,FF.out.iff,FF.out.key,FF.out.val,hs⟩ (by have:=(Kp.KY c.who b).1;unfold maxLen;show (Kp.qi c.who b).length<=_;omega) (by have:=(Kp.KY c.act b).1;unfold maxLen;show (Kp.qi c.act b).length<=_;omega) (by have:=(Kp.KY c.on b).1;unfold maxLen;show (Kp.qi c.on b).length<=_;omega) (JA.out.turn (zC.of bl)) (LA.out.turn (zC.of bl)) (MA.out.turn (zC.of bl));have U:=Db T y (E.imp id (λe=>e.trans (by simp)));have a7:=hid ((Y.out.bb.alloc M7 (.cells #[.bool c.deny,.slice J (Kp.qi c.who b).length L,.slice K (Kp.qi c.act b).length O,.slice H (Kp.qi c.on b).length I,.int .i64 c.nt,.int .i64 c.iff,.int .i64 c.key,.int .i64 c.val,.bool c.no,.int .i64 style] 42)).grown y (by simp;omega) (λk hk=>(World.ownsRow.lt Y.out.own k hk).1));have a8:=hid C;have a9:Hid (jB (λx=>x<B\/v'.ownBlock=some x) p5 (ys++[.bool c.deny,.slice J (Kp.qi c.who b).length L,.slice K (Kp.qi c.act b).length O,.slice H (Kp.qi c.on b).length I,.int .i64 c.nt,.int .i64 c.iff,.int .i64 c.key,.int .i64 c.val,.bool c.no,.int .i64 style]) (Kp.Xk b style A.rules (j+1))):=by rw[v5.out];exact hid U
       clear bl T U C y E Y JA LA MA x0 x1 x2 x3 x4 x5 x6 x7 x8 x9
       go_wp2
       go_roundw
       case rel=>exact⟨j+1,_,by omega,by go_num,a7.out,a8.out,a9.out⟩
       case measure=>simp[intOf];omega
    ·have H3:j=n:=by omega
     subst H3;have hT:Kp.Xk b style A.rules j=Kp.Qd b style A.rules:=by unfold Kp.Xk Kp.Qd;rw[k5.out]
     have m0:∀x,(u11.ownBlock=some x\/x=S)->x<B:=λx o6=>by
      rcases o6 with h|h
      ·have:=HZ.out x h;omega
      ·omega
     have ru:=Q.rules (M':=λx=>u11.ownBlock=some x\/x=S) (by rw[Kp.zaH];exact ho) (λx o6 => .inl (.inl (m0 x o6))) m0;rw[hT] at ru;have f6:Below W2.heap.size W2 wr:=by rw[HB.out];exact z
     have nb:=(z.block S zx).trans N2.out;have px:=w0.out.turn (zC.of f6);have po:=ownsRow_below v6.out f6;have pb:=h6.out.trans (f6.mono (by rw[HB.out];omega));obtain⟨va,vc,rfl⟩:=Vg ho;obtain⟨k1,f1⟩:=zf nb 2;simp at k1;have RU:=hid ru;have PX:=hid px;have PO:=hid po;have PB:=hid pb;have NB:=hid nb;clear hT m0 ru f6 nb px po pb Q ho z w0 v6 h6 N2 d2 A7 m6
     go_upto_region 19 with fail
     have t3:=zC.set (M:=λx=>x=S) wr (b:=S) rfl 2 (.slice va j vc);have p3:=RU.out.turn (t3.wide (λ_ _ e => .inr e));have p0:=PX.out.turn (t3.wide (λ_ _ e => .inr e));have o9:=wZ PO.out t3 (λg hg e=>by have:=HZ.out g hg;have e':g=S:=e;omega);have o8:=PB.out.setCell (p:=⟨S,2,none⟩) N4 (.slice va j vc);have n3:(wr.setCell ⟨S,2,none⟩ (.slice va j vc)).heap[S]?=some (.cells #[.int .i64 A.layer,.int .i64 A.name,.slice va j vc] 53):=uC wr S 2 _ _ _ NB.out;obtain⟨W3,c4⟩:∃W,wr.setCell ⟨S,2,none⟩ (.slice va j vc)=W:=⟨_,rfl⟩;rw[c4] at p3 p0 o9 o8 n3 |-;have x0:=(zf n3 0).1;have x1:=(zf n3 1).1;have x2:=(zf n3 2).1;simp at x0 x1 x2;have M6:Bm<=W3.heap.size:=by have:=zY n3;omega
     have y3:=hid p3;have w7:=hid p0;have l1:=hid o9;have w3:=hid o8;clear c4 t3 p3 p0 o9 o8 n3 RU PX PO PB NB k1 f1
     go_wp2_with (at_builtin;refine QP _ rfl _ _ 26 rfl Bm 53 i0 (.agg #[.int .i64 0,.int .i64 0,.slice none 0 0]) 3 40 underlying26 H2 H9 I0 I4 rfl (by decide) _ k xs rfl (World.ownsRow.alloc l1.out _) ⟨W3.heap.size,0,none⟩ 1 1 [.int .i64 A.layer,.int .i64 A.name,.slice va j vc] rfl rfl ?_ ?_ ?_ ?_ ?_ ?_)
     ·exact JF (cs:=#[.int .i64 A.layer,.int .i64 A.name,.slice va j vc]) (t:=53) (fr:=(0,0)) (zL W3 _)
     ·intro u hu;simp at hu;rcases hu with rfl|rfl|rfl<;>rfl
     ·unfold maxLen;omega
     ·omega
     ·simp;omega
     ·intro v' p5 C y _ E;have bl:Below W3.heap.size W3 (W3.alloc (.cells #[.int .i64 A.layer,.int .i64 A.name,.slice va j vc] 53)):=nB W3 _;have T:=(w7.out.turn (zC.of bl)).add (p:=Kp.ul b style A) P1.out P2.out (by show (Kp.Qd b style A.rules).length<=_;rw[Kp.Ce,k5.out];unfold maxLen;omega) (y3.out.turn (zC.of bl));have U:=CZ T y (E.imp id (λe=>e.trans (by simp)));have a7:=hid ((w3.out.alloc M6 (.cells #[.int .i64 A.layer,.int .i64 A.name,.slice va j vc] 53)).grown y (by simp;omega) (λk hk=>(World.ownsRow.lt l1.out k hk).1));have a8:=hid C;have a9:Hid (jO (λx=>v'.ownBlock=some x) p5 (xs++[.int .i64 A.layer,.int .i64 A.name,.slice va j vc]) ((l.take (k+1)).map (Kp.ul b style))):=by rw[F1.out];exact hid U
      clear bl T U C y E y3 w7 l1 w3 x0 x1 x2
      go_wp2
      go_roundw
      case rel=>exact⟨k+1,_,by omega,by go_num,a7.out,a8.out,a9.out⟩
      case measure=>simp[intOf];omega
  ·have H4:k=N:=by omega
   subst H4;have A6:(l.take k).map (Kp.ul b style)=l.map (Kp.ul b style):=by rw[<- HN.out,List.take_length]
   rw[A6] at Q;have pi:=Q.papers (B:=Bm) (v:=u11) (by rw[qg,HN.out];exact ho);have P:Below w.heap.size w wo:=B1.out.trans (z.mono D1);have co:=gF (l.map (Kp.ul b style)) u11 aL wo (HC.out.below P) pi (by rw[qg,HN.out];unfold maxLen;omega);have o1:=O1.out.below (by rw[j0.out];exact z);obtain⟨sb,n9⟩:∃s,Kp.uL (l.map (Kp.ul b style))=s:=⟨_,rfl⟩;have f2:=hid (λraw=>Kp.DI b style l raw);rw[n9,v8.out] at f2;unfold UF at co;rw[n9] at co;obtain⟨va,vc,rfl⟩:=Vg ho;have CO:=hid co;have OA:=hid o1;have Z:=hid P;have V:=hid (λ(W:World) (hb:Below w.heap.size w W)=>rU aL W (HC.out.below hb) (HE.out.below hb));clear A6 pi P co o1 n9 Q ho z v8 O1 B1 HP HN j0 HC
   go_upto_region 24 with (go_at_call 8;refine CO.out.mono ?_;rintro e w2 ⟨ob,rfl,h3,h4,b2,o2⟩;have t6:Hid (TuP w w2 oa ob sa sb):=hid ⟨Z.out.trans (b2.mono Z.out.size),OA.out.below b2,o2⟩;clear b2 o2)
   clear CO OA Z
   go_loopw [20] (λiv wr=>∃k:Nat,k<=m/\iv = .int .i64 k/\TuP w wr oa ob sa sb) (λiv _=>m-(intOf iv).toNat)
   case atStart=>exact⟨0,zU _,rfl,t6.out⟩
   case round=>
    clear t6;obtain⟨t,ht,rfl,hI⟩:=hrel
    by_cases htm:t<m
    ·have f7:t<asks.length:=by rw[k4.out];exact htm
     obtain⟨_,_,c5,F⟩:=HA.out;obtain⟨gb,o,rv,ea,q,m4⟩:=F t _ (zt f7);have l6:a2=some ⟨gb,o,none⟩:=by injection c5 with e1;rw[e1];exact ea
     subst l6;obtain⟨raw,i3⟩:∃r,asks[t]=r:=⟨_,rfl⟩;rw[i3] at m4;have q0:=zh hI.below q;have cA:=λ(W:World) (hb:Below w.heap.size w W)=>mO raw rv W (m4.below hb);obtain⟨ve,le,ne⟩:=f2.out raw;have B0:(De.yF sa (Kp.xe raw)).2=0:=by unfold De.yF;rw[zb (JH raw)]
     have h9:(De.yF sb (Kp.xe raw)).2=0:=by unfold De.yF;rw[zb (JH raw)]
     have m5:=mM raw;have cD:=λ(W:World) (ao:Option Addr) (cap:Nat) (hW:TuP w W oa ob sa sb) (m8:xD W ao (Kp.xe raw).marks)=>KE oa sa (Kp.xe raw) ao cap (λb=>b=oa) W hW.a m8 m5 (HE.out.below hW.below);have cF:=λ(W:World) (ao:Option Addr) (cap:Nat) (hW:TuP w W oa ob sa sb) (m8:xD W ao (Kp.xe raw).marks)=>KE ob sb (Kp.xe raw) ao cap (λb=>b=ob) W hW.b m8 m5 (HE.out.below hW.below);rw[B0] at cD;rw[h9] at cF;obtain⟨dc,A3⟩:∃d,(De.yF sa (Kp.xe raw)).1=d:=⟨_,rfl⟩;obtain⟨df,A5⟩:∃d,(De.yF sb (Kp.xe raw)).1=d:=⟨_,rfl⟩;simp only[A3,A5] at cD cF ve le ne;unfold VP ZX at cD cF;simp only[<- ve,<- le,<- ne] at cF;obtain⟨v0,o0⟩:∃x,((dc.verdict:Nat):Int)=x:=⟨_,rfl⟩;obtain⟨v1,o4⟩:∃x,((dc.layer:Nat):Int)=x:=⟨_,rfl⟩;obtain⟨v3,B6⟩:∃x,((dc.stmt:Nat):Int)=x:=⟨_,rfl⟩;obtain⟨v4,B7⟩:∃x,((df.stmt:Nat):Int)=x:=⟨_,rfl⟩;obtain⟨v2,o5⟩:∃x,dc.doc=x:=⟨_,rfl⟩;simp only[o0,o4,o5,B6] at cD;simp only[o0,o4,o5,B7] at cF;unfold Ref.qY at cD cF;have CA:=hid cA;have CD:=hid cD;have CF:=hid cF;have HI:=hid hI;clear cA cD cF hI F m4 q c5 ea B0 h9 m5 A3 A5 ve le ne o0 o4 o5 B6 B7 i3 HA k4 V f2
     go_upto_region 27 with (first
      | (go_at_call 10;refine (CD.out w5 ao cap k0.out C0).mono ?_;rintro e w6 ⟨rfl,b6⟩;have t7:=hid (k0.out.step b6);have q6:=zh b6 q5;clear b6)
      | (go_at_call 9;refine (CA.out wr HI.out.below).mono ?_;rintro e w5 ⟨ao,cap,rfl,C0,b5⟩;have k0:=hid (HI.out.step b5);have q5:=zh b5 q0;clear b5;unfold Ref.qY))
     obtain⟨W7,a0⟩:∃W,w6.alloc (.cells #[.int .i64 v0,.int .i64 v1,.string v2,.int .i64 v3] 37)=W:=⟨_,rfl⟩;have b7:Below w6.heap.size w6 W7:=by rw[<- a0];exact nB w6 _
     have n7:W7.heap[w6.heap.size]?=some (.cells #[.int .i64 v0,.int .i64 v1,.string v2,.int .i64 v3] 37):=by rw[<- a0];exact zL w6 _
     obtain⟨db,A2⟩:∃x,w6.heap.size=x:=⟨_,rfl⟩;rw[A2] at n7 |-;rw[a0];have k2:=hid (t7.out.step b7);have q7:=zh b7 q6;have x0:=(zf n7 0).1;have x1:=(zf n7 1).1;have x2:=(zf n7 2).1;simp at x0 x1 x2;have zd:=zY n7;clear a0 b7 n7 A2 t7 k0 CD C0 q6 q5 q0
     go_upto_region 28 with (first
      | (go_at_call 10;refine (CF.out w8 G2 z4 k3.out C1).mono ?_;rintro e w9 ⟨rfl,b9⟩;have t8:=hid (k3.out.step b9);have i7:=zh b9 C6;have i8:=zh b9 C7;have i9:=zh b9 C8;have M9:=b9.size;clear b9)
      | (go_at_call 9;refine (CA.out W7 k2.out.below).mono ?_;rintro e w8 ⟨G2,z4,rfl,C1,b8⟩;have k3:=hid (k2.out.step b8);have C6:=zh b8 x0;have C7:=zh b8 x1;have C8:=zh b8 x2;have M8:=b8.size;clear b8;unfold Ref.qY))
     obtain⟨WA,a1⟩:∃W,w9.alloc (.cells #[.int .i64 v0,.int .i64 v1,.string v2,.int .i64 v4] 37)=W:=⟨_,rfl⟩;have bA:Below w9.heap.size w9 WA:=by rw[<- a1];exact nB w9 _
     have nA:WA.heap[w9.heap.size]?=some (.cells #[.int .i64 v0,.int .i64 v1,.string v2,.int .i64 v4] 37):=by rw[<- a1];exact zL w9 _
     obtain⟨dd,A4⟩:∃x,w9.heap.size=x:=⟨_,rfl⟩;rw[A4] at nA |-;rw[a1];have E9:=hid (t8.out.step bA);have y0:=zh bA i7;have y1:=zh bA i8;have y2:=zh bA i9;have z0:=(zf nA 0).1;have z1:=(zf nA 1).1;have z2:=(zf nA 2).1;simp at z0 z1 z2;clear a1 bA nA A4 t8 k3 k2 C1 CF CA x0 x1 x2 C6 C7 C8 i7 i8 i9 q7 zd M8 M9;go_wp2_with fail
     go_roundw
     case rel=>exact⟨t+1,by omega,by go_num,E9.out⟩
     case measure=>simp[intOf];omega
    ·have H7:t=m:=by omega
     subst H7;have HI:=hid hI;have CK:=hid (V.out wr hI.below);clear hI HA k4 V f2
     go_wp2_with (go_at_call 7;refine CK.out.mono ?_;rintro e w5 ⟨rfl,b5⟩;have B5:=hid b5;clear b5)
     go_ret;exact⟨rfl,HI.out.below.trans (B5.out.mono HI.out.below.size)⟩
end Go.Proofs.YtagnlbgbnfnapaaGreatDoor
