/- P -/
import Derived.Test.YtdakgnaojakldabGreatDoorT50
open Go.Proofs.Tryz
set_option maxRecDepth 100000
set_option maxHeartbeats 800000
namespace Go.Proofs.YtdakgnaojakldabGreatDoor
open Go.RowKit
namespace Kp
def Zw(b style:Int)(l:List zg)(j:Nat):List zg:=(List.range j).map (λk=>vO b style ((l.take 4).getD ((k+zk b (l.take 4).length) % (l.take 4).length) qI))
theorem Rc(b style:Int)(l:List zg)(j:Nat):Zw b style l (j+1)=Zw b style l j++[vO b style ((l.take 4).getD ((j+zk b (l.take 4).length) % (l.take 4).length) qI)]:=by
 unfold Zw;rw[List.range_succ,List.map_append,List.map_singleton]
theorem Rb(b style:Int)(l:List zg)(j:Nat):(Zw b style l j).length=j:=by unfold Zw;rw[List.length_map,List.length_range]
theorem KN{l:List Int}{b:Int}(h:∀x ∈ l,I64 x):∀x ∈ zN l b,I64 x:=λx a=>h x (List.mem_of_mem_take ((KO l b x).1 a))
end Kp
theorem IntsIn.all{w:World}{v:Value}{l:List Int}(h:IntsIn w v l):∀x ∈ l,I64 x:=λx e=>by
 obtain⟨a,c,_,b⟩:=h;obtain⟨k,d⟩:=List.getElem?_of_mem e;exact (b k x d).1
structure TuP (w wr:World) (oa ob:Nat) (sa sb:StO):Prop where
 below:Below w.heap.size w wr
 a:qL (λb=>b=oa) wr oa sa
 b:qL (λb=>b=ob) wr ob sb
theorem TuP.step{w wr c:World}{e f:Nat}{g sb:StO}(h:TuP w wr e f g sb)(d:Below wr.heap.size wr c):TuP w c e f g sb:=
 ⟨h.below.trans (d.mono h.below.size),h.a.below d,h.b.below d⟩
theorem Re(l:List Kp.zY)(b style:Int)(asks:List (List Int))(lv av:Value)(aL:Addr)(w:World)(hC:Zz w aL)(hE:qR w)(h:QK w lv l)(hm:l.length<=1048576)(hb:I64 b)(hs:I64 style)(hA:X5 w av asks)(hn:asks.length<=maxLen) :
  Calls prog 3 #[lv,.int .i64 b,.int .i64 style,av] w λe w'=>e = .returned (.bool true)/\Below w.heap.size w w':=by
 have co:=ig l lv aL w hC h (by unfold maxLen;omega);obtain⟨sa,n9⟩:∃s,Kp.ui l=s:=⟨_,rfl⟩;unfold Vv at co;rw[n9] at co;have CO:=hid co;have HC:=hid hC;have HE:=hid hE;have HA:=hid hA;have HP:=hid h;have w0:=hid n9;obtain⟨a,cc,rfl,_⟩:=h;obtain⟨a2,c2,rfl,_⟩:=hA;obtain⟨N,hN⟩:∃m,l.length=m:=⟨_,rfl⟩;obtain⟨m,m8⟩:=Nm asks.length;rw[hN] at hm HP CO |-;rw[m8] at hn HA |-;have HN:=hid hN;have k5:=hid m8;unfold maxLen at hn;obtain⟨i0,H6,I6,I7,I8⟩:=info_parts IL;obtain⟨i1,hi1,I5,hy1,hy2⟩:=info_parts MP;clear co n9 hC hE hN m8;go_enter func3,ntmps3
 go_upto_region 4 with (go_at_call 4;refine CO.out.mono ?_;rintro e w1 ⟨oa,rfl,h1,h2,b1,o1⟩;have B1:=hid b1;have O1:=hid o1;clear b1 o1)
 obtain⟨Bm,m0⟩:∃x,w1.heap.size=x:=⟨_,rfl⟩;have j1:=hid m0;have D5:w.heap.size<=Bm:=by rw[<- m0];exact B1.out.size
 clear m0 CO
 go_loopw [11,12] (λmv iv wr=>∃(k:Nat) (xs:List Value),k<=N/\iv = .int .i64 k/\Below Bm w1 wr/\wr.ownsRow Bm 29 3 mv k xs/\yB (λx=>mv.ownBlock=some x) wr xs ((l.take k).map (Kp.jw b style))) (λ_ iv _=>N-(intOf iv).toNat)
 case atStart=>exact⟨0,[],Nat.zero_le _,rfl,Below.refl _ _,World.ownsRow_nil _ _ _ _,yB.nil _ _⟩
 case round=>
  obtain⟨k,xs,hk,rfl,z,ho,Q⟩:=hrel;obtain⟨wo,C0⟩:∃x,wr=x:=⟨_,rfl⟩;rw[C0] at z ho Q |-;clear C0
  by_cases hkN:k<N
  ·have f8:k<l.length:=by rw[HN.out];exact hkN
   obtain⟨_,_,c5,F⟩:=HP.out;obtain⟨p1,p2,n6,gb,o,rv,ea,q0,q1,q2,n8⟩:=F k _ (List.getElem?_eq_getElem f8);have l8:a=some ⟨gb,o,none⟩:=by injection c5 with e1;rw[e1];exact ea
   subst l8;have G:(l.take (k+1)).map (Kp.jw b style)=(l.take k).map (Kp.jw b style)++[Kp.jw b style l[k]]:=by rw[List.take_succ_eq_append_getElem f8,List.map_append,List.map_singleton]
   obtain⟨A,n4⟩:∃x,l[k]=x:=⟨_,rfl⟩;rw[n4] at p1 p2 n6 q0 q1 n8 G;have P:Below w.heap.size w wo:=B1.out.trans (z.mono D5);have c0:=zb P q0;have c1:=zb P q1;have z5:=zb P q2;have F7:=hid n8;obtain⟨ra,rc,rfl,n5⟩:=n8;have H5:=n5;obtain⟨R,hR⟩:∃x,A.rules.length=x:=⟨_,rfl⟩;rw[hR] at z5 n6 F7;have F6:=hid n5;have B2:=List.length_take (i:=4) (l:=A.rules);obtain⟨n,n1⟩:=Nm ((A.rules.take 4).length);rw[n1,hR] at B2;have A9:min ((R:Nat):Int) 4=((n:Nat):Int):=by omega
   have m7:min 4 ((R:Nat):Int)=((n:Nat):Int):=by omega
   have hn1:n<=4:=by omega
   have hn2:n<=R:=by omega
   unfold maxLen at n6;have HO:=hid ho;have HX:=hid Q;have X:=hid z;have F5:=hid G;have Z:=hid P;have HPP:=hid n4;have HR:=hid hR;have k6:=hid n1;have P1:=hid p1;have P2:=hid p2;clear ho Q z G P n4 hR n1 p1 p2 n5 H5 B2 q0 q1 q2 F c5 ea HP
   go_upto_region 7 with fail
   obtain⟨W2,f5⟩:∃W,wo.alloc (.cells #[.int .i64 A.layer,.int .i64 A.name,.slice ra R rc] 29)=W:=⟨_,rfl⟩;have b2:Below wo.heap.size wo W2:=by rw[<- f5];exact nB wo _
   have n2:W2.heap[wo.heap.size]?=some (.cells #[.int .i64 A.layer,.int .i64 A.name,.slice ra R rc] 29):=by rw[<- f5];exact heap_alloc_new wo _
   have zo:Bm<=wo.heap.size:=by rw[<- j1.out];exact X.out.size
   have ow:=World.ownsRow.lt HO.out;obtain⟨S,C1⟩:∃x,wo.heap.size=x:=⟨_,rfl⟩;have h7:=hid (X.out.trans (b2.mono zo));have k8:=hid (Z.out.trans (b2.mono Z.out.size));have v8:=hid (ownsRow_below HO.out b2);have w7:=hid ((HX.out.wide (M':=λx=>u11.ownBlock=some x\/x=S) (λx Q=>Q.imp id (λe=>by omega))).turn (zA.of b2));have N9:Bm<=S:=by omega
   rw[C1] at n2 |-;rw[f5];have d2:=(za n2 2).1;simp at d2;have N2:=hid n2;have zx:=lt_of_block n2;obtain⟨B,hB⟩:∃x,W2.heap.size=x:=⟨_,rfl⟩;rw[hB] at zx;have HB:=hid hB;have D6:∀x,u11.ownBlock=some x->x<S:=λx Q=>by have:=(ow x Q).2;omega
   have HZ:=hid D6;clear f5 b2 n2 C1 hB c0 c1 z5 X Z HO HX ow D6
   go_upto_region 10 with fail
   go_loopw [14,16] (λov jv wr=>∃(j:Nat) (ys:List Value),j<=n/\jv = .int .i64 j/\Below B W2 wr/\wr.ownsRow B 32 10 ov j ys/\yj (λx=>x<B\/ov.ownBlock=some x) wr ys (Kp.Zw b style A.rules j)) (λ_ jv _=>n-(intOf jv).toNat)
   case atStart=>exact⟨0,[],Nat.zero_le _,rfl,Below.refl _ _,World.ownsRow_nil _ _ _ _,yj.nil _ _⟩
   case round=>
    obtain⟨j,ys,hj,rfl,z,ho,Q⟩:=hrel
    by_cases hjn:j<n
    ·have h0:0<n:=by omega
     have H9:=Kp.qO b n h0;have cp:=λW=>vL b n W hb h0 (by omega);have G:=Kp.Rc b style A.rules j;rw[k6.out] at G;obtain⟨pk,c6⟩:∃x,Kp.zk b n=x:=⟨_,rfl⟩;rw[c6] at H9 G;simp only[c6] at cp;have B0:(j+pk) % n<n:=Nat.mod_lt _ h0;obtain⟨q,hq⟩:∃x,(j+pk) % n=x:=⟨_,rfl⟩;rw[hq] at B0 G;have B4:q<A.rules.length:=by rw[HR.out];omega
     have h9:(A.rules.take 4).getD q Kp.qI=A.rules[q]:=by
      rw[List.getD_eq_getElem?_getD,List.getElem?_take,if_pos (by omega),List.getElem?_eq_getElem B4]
      rfl
     rw[h9] at G;obtain⟨f,m1,m2,m3,rb,ro,v1,v2,v3,ea,⟨r0,r1,r2,r3,r4,r5,r6,r7,r8,r9⟩,g0,g4,g5⟩:=F6.out q _ (List.getElem?_eq_getElem B4);subst ea;obtain⟨c,B6⟩:∃x,A.rules[q]=x:=⟨_,rfl⟩;rw[B6] at f m1 m2 m3 r0 r4 r5 r6 r7 r8 r9 g0 g4 g5 G;have D:Below w.heap.size w wr:=k8.out.trans (z.mono (by have:=k8.out.size;have:=HB.out;omega));have s0:=zb D r0;have s1:=zb D r1;have s2:=zb D r2;have s3:=zb D r3;have s4:=zb D r4;have s5:=zb D r5;have s6:=zb D r6;have s7:=zb D r7;have s8:=zb D r8;have s9:=zb D r9
     have t2:wr.cell? ⟨S,2,none⟩=some (.slice (some ⟨rb,ro,none⟩) R rc):=by
      have hh:=z.block S zx;exact (za (hh.trans N2.out) 2).1
     have e2:((j:Int)+(pk:Int)) % (n:Int)=(q:Int):=by rw[<- hq,Int.natCast_emod,Int.natCast_add]
     have e1:Int.tmod ((j:Int)+(pk:Int)) (n:Int)=(q:Int):=by rw[Int.tmod_eq_emod_of_nonneg (by omega)];exact e2
     have z0:((n:Int)==0)=false:=by simp;omega
     have zn:¬n=0:=by omega
     have N7:¬(n:Int)=0:=by omega
     have q0:(0:Int)<=(q:Int):=Int.natCast_nonneg _;have q1:(q:Int)<(R:Int):=by omega
     have e3:IntKind.i64.wrap ((j:Int)+(pk:Int))=(j:Int)+(pk:Int):=by rw[IntKind.wrap_i64];omega
     have e4:wrap64 ((j:Int)+(pk:Int))=(j:Int)+(pk:Int):=by unfold wrap64;omega
     obtain⟨d8,e0,rfl,_⟩:=id g0;obtain⟨e5,e6,rfl,_⟩:=id g4;obtain⟨e7,e8,rfl,_⟩:=id g5;have CP:=hid cp;have v7:=hid G;have HO:=hid ho;have HX:=hid Q;have X:=hid z;have l1:=hid D;have I1:=hid g0;have I2:=hid g4;have I3:=hid g5;have FF:=hid f;clear cp G ho Q z D g0 g4 g5 f r0 r1 r2 r3 r4 r5 r6 r7 r8 r9 B6 h9 hq c6 d2
     go_upto_region 12 with fail
     go_cut [17] from 49 to 59 (λv wc=>v = .pointer (some ⟨wr.heap.size,0,none⟩)/\Below wr.heap.size wr wc/\wc.heap.size=wr.heap.size+1/\wc.heap[wr.heap.size]?=some (.cells #[.bool c.deny,.slice d8 c.who.length e0,.slice e5 c.act.length e6,.slice e7 c.on.length e8,.int .i64 c.nt,.int .i64 c.iff,.int .i64 c.key,.int .i64 c.val,.bool c.no,.int .i64 c.style] 32))
     case first=>
      have zz1:S≠wr.heap.size:=by have:=World.block_lt_of_cell? _ _ t2;simp only at this;omega
      have zz2:rb≠wr.heap.size:=by have:=World.block_lt_of_cell? _ _ s0;simp only at this;omega
      have bR:=hid ((nB wr (.cells #[.bool c.deny,.slice d8 c.who.length e0,.slice e5 c.act.length e6,.slice e7 c.on.length e8,.int .i64 c.nt,.int .i64 c.iff,.int .i64 c.key,.int .i64 c.val,.bool c.no,.int .i64 c.style] 32)).drew);have nR:=hid (heap_alloc_new wr (.cells #[.bool c.deny,.slice d8 c.who.length e0,.slice e5 c.act.length e6,.slice e7 c.on.length e8,.int .i64 c.nt,.int .i64 c.iff,.int .i64 c.key,.int .i64 c.val,.bool c.no,.int .i64 c.style] 32))
      go_region_held3 (λw'=>w'.cell? ⟨S,2,none⟩=some (.slice (some ⟨rb,ro,none⟩) R rc)/\w'.cell? ⟨rb,ro+q*10,none⟩=some (.bool c.deny)/\w'.cell? ⟨rb,ro+q*10+1,none⟩=some (.slice d8 c.who.length e0)/\w'.cell? ⟨rb,ro+q*10+2,none⟩=some (.slice e5 c.act.length e6)/\w'.cell? ⟨rb,ro+q*10+3,none⟩=some (.slice e7 c.on.length e8)/\w'.cell? ⟨rb,ro+q*10+4,none⟩=some (.int .i64 c.nt)/\w'.cell? ⟨rb,ro+q*10+5,none⟩=some (.int .i64 c.iff)/\w'.cell? ⟨rb,ro+q*10+6,none⟩=some (.int .i64 c.key)/\w'.cell? ⟨rb,ro+q*10+7,none⟩=some (.int .i64 c.val)/\w'.cell? ⟨rb,ro+q*10+8,none⟩=some (.bool c.no)/\w'.cell? ⟨rb,ro+q*10+9,none⟩=some (.int .i64 c.style)) (go_keep) (first
       | (go_at_call 5;refine (CP.out _).mono ?_;rintro e w4 ⟨rfl,e4⟩;rw[e4];clear e4))
      all_goals
       go_wp2_with fail
       go_meet
       case rel=>exact⟨rfl,bR.out,by simp,nR.out⟩
     case rest=>
      obtain⟨rfl,b3,z3,n3⟩:=hcut;obtain⟨W3,c4⟩:∃x,wc=x:=⟨_,rfl⟩;rw[c4] at b3 z3 n3 |-;obtain⟨xb,c7⟩:∃x,wr.heap.size=x:=⟨_,rfl⟩;have i5:B<=xb:=by rw[<- c7];have:=X.out.size;have:=HB.out;omega
      have i3:∀x,u14.ownBlock=some x->x<xb:=λx Q=>by rw[<- c7];exact (World.ownsRow.lt HO.out x Q).2
      have hw3:=l1.out.trans (b3.mono l1.out.size);have o3:=ownsRow_below HO.out b3;have x3:=(HX.out.wide (M':=λx=>(x<B\/u14.ownBlock=some x)\/x=xb) (λx Q=>Q.imp id (λe=>by omega))).turn (zA.of b3);have z4:=X.out.trans (b3.mono (by rw[c7];exact i5));rw[c7] at n3 z3 |-;have v9:=hid i3;have l0:=hid hw3;have O3:=hid o3;have X3:=hid x3;have t5:=hid z4;have N3:=hid n3;clear c4 c7 b3 n3 i3 hw3 o3 x3 z4 l1 HO HX X CP s0 s1 s2 s3 s4 s5 s6 s7 s8 s9 t2 q0 q1 z0 e1 e2 e3 e4 zn N7;have D0:TuI w W2 B xb u14 j ys (Kp.Zw b style A.rules j) #[.bool c.deny,.slice d8 c.who.length e0,.slice e5 c.act.length e6,.slice e7 c.on.length e8,.int .i64 c.nt,.int .i64 c.iff,.int .i64 c.key,.int .i64 c.val,.bool c.no,.int .i64 c.style] W3:=⟨l0.out,t5.out,O3.out,X3.out,N3.out,v9.out,by have:=k8.out.size;have:=HB.out;omega,i5⟩;have j2:=hid D0;have g1:=(za N3.out 1).1;simp at g1;have T1:=hid (KP c.who b _ W3 (I1.out.below l0.out) m1 hb);unfold Y4 at T1;clear D0 l0 t5 O3 X3 N3 v9
      go_upto_region 14 with (go_at_call 6;refine T1.out.mono ?_;rintro e w4 ⟨ov1,rfl,b4,d0⟩;obtain⟨J,L,rfl⟩:=XP d0;have J1:=hid (j2.out.made d0 (Kp.KN I1.out.all));have j3:=hid (j2.out.step b4);obtain⟨k1,f1⟩:=za j3.out.box 1;simp at k1;clear b4 d0)
      obtain⟨L1,A0⟩:∃x,Value.slice J (Kp.zN c.who b).length L=x:=⟨_,rfl⟩;have F4:=hid A0;have d5:=j3.out.set 1 (.slice J (Kp.zN c.who b).length L) rfl;have j5:=J1.out.box 1 (.slice J (Kp.zN c.who b).length L);obtain⟨W5,A2⟩:∃W,w4.setCell ⟨xb,1,none⟩ (.slice J (Kp.zN c.who b).length L)=W:=⟨_,rfl⟩;rw[A2] at d5 j5 |-;have j4:=hid d5;have J5:=hid j5;have g2:=(za d5.box 2).1;simp at g2;have T2:=hid (KP c.act b _ W5 (I2.out.below d5.low) m2 hb);unfold Y4 at T2;clear A0 d5 j5 A2 j3 j2 J1 T1 g1 k1 f1
      go_upto_region 15 with (go_at_call 6;refine T2.out.mono ?_;rintro e w6 ⟨ov2,rfl,b6,d1⟩;obtain⟨K,O,rfl⟩:=XP d1;have J2:=hid (j4.out.made d1 (Kp.KN I2.out.all));have J6:=hid (J5.out.turn (zA.of b6));have j6:=hid (j4.out.step b6);obtain⟨k1,f1⟩:=za j6.out.box 2;simp at k1;clear b6 d1)
      have d7:=j6.out.set 2 (.slice K (Kp.zN c.act b).length O) rfl;have j7:=J6.out.box 2 (.slice K (Kp.zN c.act b).length O);have l7:=J2.out.box 2 (.slice K (Kp.zN c.act b).length O);obtain⟨W7,a0⟩:∃W,w6.setCell ⟨xb,2,none⟩ (.slice K (Kp.zN c.act b).length O)=W:=⟨_,rfl⟩;rw[a0] at d7 j7 l7 |-;have j8:=hid d7;have J7:=hid j7;have L7:=hid l7;have g3:=(za d7.box 3).1;simp at g3;have T3:=hid (KP c.on b _ W7 (I3.out.below d7.low) m3 hb);unfold Y4 at T3;clear d7 j7 l7 a0 j6 j4 J5 J6 J2 T2 g2 k1 f1 F4
      go_upto_region 16 with (go_at_call 6;refine T3.out.mono ?_;rintro e w8 ⟨ov3,rfl,b8,d3⟩;obtain⟨H,I,rfl⟩:=XP d3;have J3:=hid (j8.out.made d3 (Kp.KN I3.out.all));have J8:=hid (J7.out.turn (zA.of b8));have L8:=hid (L7.out.turn (zA.of b8));have k0:=hid (j8.out.step b8);obtain⟨k1,f1⟩:=za k0.out.box 3;simp at k1;clear b8 d3)
      have d9:=k0.out.set 3 (.slice H (Kp.zN c.on b).length I) rfl;have j9:=J8.out.box 3 (.slice H (Kp.zN c.on b).length I);have l9:=L8.out.box 3 (.slice H (Kp.zN c.on b).length I);have m9:=J3.out.box 3 (.slice H (Kp.zN c.on b).length I);obtain⟨W9,A3⟩:∃W,w8.setCell ⟨xb,3,none⟩ (.slice H (Kp.zN c.on b).length I)=W:=⟨_,rfl⟩;rw[A3] at d9 j9 l9 m9 |-;obtain⟨k9,f9⟩:=za d9.box 9;simp at k9;have dA:=d9.set 9 (.int .i64 style) rfl;have jA:=j9.box 9 (.int .i64 style);have lA:=l9.box 9 (.int .i64 style);have mA:=m9.box 9 (.int .i64 style);have Y:=hid dA;have JA:=hid jA;have LA:=hid lA;have MA:=hid mA;clear d9 j9 l9 m9 dA jA lA mA A3 k0 j8 J7 L7 J8 L8 J3 T3 g3 k1 f1
      go_upto_region 17 with fail
      obtain⟨WA,a1⟩:∃W,W9.setCell ⟨xb,9,none⟩ (.int .i64 style)=W:=⟨_,rfl⟩;rw[a1] at Y JA LA MA |-;have bx:WA.heap[xb]?=some (.cells #[.bool c.deny,.slice J (Kp.zN c.who b).length L,.slice K (Kp.zN c.act b).length O,.slice H (Kp.zN c.on b).length I,.int .i64 c.nt,.int .i64 c.iff,.int .i64 c.key,.int .i64 c.val,.bool c.no,.int .i64 style] 32):=Y.out.box;have cx:=λt=>(za bx t).1;have x0:=cx 0;have x1:=cx 1;have x2:=cx 2;have x3:=cx 3;have x4:=cx 4;have x5:=cx 5;have x6:=cx 6;have x7:=cx 7;have x8:=cx 8;have x9:=cx 9;simp at x0 x1 x2 x3 x4 x5 x6 x7 x8 x9;have N4:B<=WA.heap.size:=by have:=lt_of_block bx;omega
      clear a1 cx bx k9 f9
      go_wp2_with (at_builtin;refine wpList_append_own_at _ rfl _ _ 27 rfl B 32 i1 (.agg #[.bool false,.slice none 0 0,.slice none 0 0,.slice none 0 0,.int .i64 0,.int .i64 0,.int .i64 0,.int .i64 0,.bool false,.int .i64 0]) 10 128 underlying27 hi1 I5 hy1 hy2 rfl (by decide) _ j ys rfl (World.ownsRow.alloc Y.out.own _) ⟨WA.heap.size,0,none⟩ 1 1 [.bool c.deny,.slice J (Kp.zN c.who b).length L,.slice K (Kp.zN c.act b).length O,.slice H (Kp.zN c.on b).length I,.int .i64 c.nt,.int .i64 c.iff,.int .i64 c.key,.int .i64 c.val,.bool c.no,.int .i64 style] rfl rfl ?_ ?_ ?_ ?_ ?_ ?_)
      ·exact World.news_of_block (cs:=#[.bool c.deny,.slice J (Kp.zN c.who b).length L,.slice K (Kp.zN c.act b).length O,.slice H (Kp.zN c.on b).length I,.int .i64 c.nt,.int .i64 c.iff,.int .i64 c.key,.int .i64 c.val,.bool c.no,.int .i64 style]) (t:=32) (fr:=(0,0)) (heap_alloc_new WA _)
      ·intro u hu;simp at hu;rcases hu with rfl|rfl|rfl|rfl|rfl|rfl|rfl|rfl|rfl|rfl<;>rfl
      ·unfold maxLen;omega
      ·omega
      ·simp;omega
      ·intro v' p6 C y _ E;have bl:Below WA.heap.size WA (WA.alloc (.cells #[.bool c.deny,.slice J (Kp.zN c.who b).length L,.slice K (Kp.zN c.act b).length O,.slice H (Kp.zN c.on b).length I,.int .i64 c.nt,.int .i64 c.iff,.int .i64 c.key,.int .i64 c.val,.bool c.no,.int .i64 style] 32)):=nB WA _;have T:=(Y.out.row.turn (zA.of bl)).add (r:=Kp.vO b style c) ⟨FF.out.nt,FF.out.iff,FF.out.key,FF.out.val,hs⟩ (by have:=(Kp.Vm c.who b).1;unfold maxLen;show (Kp.zN c.who b).length<=_;omega) (by have:=(Kp.Vm c.act b).1;unfold maxLen;show (Kp.zN c.act b).length<=_;omega) (by have:=(Kp.Vm c.on b).1;unfold maxLen;show (Kp.zN c.on b).length<=_;omega) (JA.out.turn (zA.of bl)) (LA.out.turn (zA.of bl)) (MA.out.turn (zA.of bl));have U:=nY T y (E.imp id (λe=>e.trans (by simp)));have a7:=hid ((Y.out.bb.alloc N4 (.cells #[.bool c.deny,.slice J (Kp.zN c.who b).length L,.slice K (Kp.zN c.act b).length O,.slice H (Kp.zN c.on b).length I,.int .i64 c.nt,.int .i64 c.iff,.int .i64 c.key,.int .i64 c.val,.bool c.no,.int .i64 style] 32)).grown y (by simp;omega) (λk hk=>(World.ownsRow.lt Y.out.own k hk).1));have a8:=hid C;have a9:Hid (yj (λx=>x<B\/v'.ownBlock=some x) p6 (ys++[.bool c.deny,.slice J (Kp.zN c.who b).length L,.slice K (Kp.zN c.act b).length O,.slice H (Kp.zN c.on b).length I,.int .i64 c.nt,.int .i64 c.iff,.int .i64 c.key,.int .i64 c.val,.bool c.no,.int .i64 style]) (Kp.Zw b style A.rules (j+1))):=by rw[v7.out];exact hid U
       clear bl T U C y E Y JA LA MA x0 x1 x2 x3 x4 x5 x6 x7 x8 x9
       go_wp2
       go_roundw
       case rel=>exact⟨j+1,_,by omega,by go_num,a7.out,a8.out,a9.out⟩
       case measure=>simp[intOf];omega
    ·have H7:j=n:=by omega
     subst H7;have hT:Kp.Zw b style A.rules j=Kp.uT b style A.rules:=by unfold Kp.Zw Kp.uT;rw[k6.out]
     have m4:∀x,(u11.ownBlock=some x\/x=S)->x<B:=λx o7=>by
      rcases o7 with h|h
      ·have:=HZ.out x h;omega
      ·omega
     have ru:=Q.rules (M':=λx=>u11.ownBlock=some x\/x=S) (by rw[Kp.Rb];exact ho) (λx o7 => .inl (.inl (m4 x o7))) m4;rw[hT] at ru;have f7:Below W2.heap.size W2 wr:=by rw[HB.out];exact z
     have nb:=(z.block S zx).trans N2.out;have px:=w7.out.turn (zA.of f7);have po:=ownsRow_below v8.out f7;have pb:=h7.out.trans (f7.mono (by rw[HB.out];omega));obtain⟨va,vc,rfl⟩:=XP ho;obtain⟨k1,f1⟩:=za nb 2;simp at k1;have RU:=hid ru;have PX:=hid px;have PO:=hid po;have PB:=hid pb;have NB:=hid nb;clear hT m4 ru f7 nb px po pb Q ho z w7 v8 h7 N2 d2 A9 m7
     go_upto_region 19 with fail
     have t3:=zA.set (M:=λx=>x=S) wr (b:=S) rfl 2 (.slice va j vc);have p4:=RU.out.turn (t3.wide (λ_ _ e => .inr e));have p3:=PX.out.turn (t3.wide (λ_ _ e => .inr e));have p0:=iq PO.out t3 (λg hg e=>by have:=HZ.out g hg;have e':g=S:=e;omega);have o9:=PB.out.setCell (p:=⟨S,2,none⟩) N9 (.slice va j vc);have n3:(wr.setCell ⟨S,2,none⟩ (.slice va j vc)).heap[S]?=some (.cells #[.int .i64 A.layer,.int .i64 A.name,.slice va j vc] 29):=heap_setCell_same wr S 2 _ _ _ NB.out;obtain⟨W3,c4⟩:∃W,wr.setCell ⟨S,2,none⟩ (.slice va j vc)=W:=⟨_,rfl⟩;rw[c4] at p4 p3 p0 o9 n3 |-;have x0:=(za n3 0).1;have x1:=(za n3 1).1;have x2:=(za n3 2).1;simp at x0 x1 x2;have N1:Bm<=W3.heap.size:=by have:=lt_of_block n3;omega
     have y5:=hid p4;have y4:=hid p3;have l2:=hid p0;have y3:=hid o9;clear c4 t3 p4 p3 p0 o9 n3 RU PX PO PB NB k1 f1
     go_wp2_with (at_builtin;refine wpList_append_own_at _ rfl _ _ 22 rfl Bm 29 i0 (.agg #[.int .i64 0,.int .i64 0,.slice none 0 0]) 3 40 underlying22 H6 I6 I7 I8 rfl (by decide) _ k xs rfl (World.ownsRow.alloc l2.out _) ⟨W3.heap.size,0,none⟩ 1 1 [.int .i64 A.layer,.int .i64 A.name,.slice va j vc] rfl rfl ?_ ?_ ?_ ?_ ?_ ?_)
     ·exact World.news_of_block (cs:=#[.int .i64 A.layer,.int .i64 A.name,.slice va j vc]) (t:=29) (fr:=(0,0)) (heap_alloc_new W3 _)
     ·intro u hu;simp at hu;rcases hu with rfl|rfl|rfl<;>rfl
     ·unfold maxLen;omega
     ·omega
     ·simp;omega
     ·intro v' p6 C y _ E;have bl:Below W3.heap.size W3 (W3.alloc (.cells #[.int .i64 A.layer,.int .i64 A.name,.slice va j vc] 29)):=nB W3 _;have T:=(y4.out.turn (zA.of bl)).add (p:=Kp.jw b style A) P1.out P2.out (by show (Kp.uT b style A.rules).length<=_;rw[Kp.mY,k6.out];unfold maxLen;omega) (y5.out.turn (zA.of bl));have U:=nW T y (E.imp id (λe=>e.trans (by simp)));have a7:=hid ((y3.out.alloc N1 (.cells #[.int .i64 A.layer,.int .i64 A.name,.slice va j vc] 29)).grown y (by simp;omega) (λk hk=>(World.ownsRow.lt l2.out k hk).1));have a8:=hid C;have a9:Hid (yB (λx=>v'.ownBlock=some x) p6 (xs++[.int .i64 A.layer,.int .i64 A.name,.slice va j vc]) ((l.take (k+1)).map (Kp.jw b style))):=by rw[F5.out];exact hid U
      clear bl T U C y E y5 y4 l2 y3 x0 x1 x2
      go_wp2
      go_roundw
      case rel=>exact⟨k+1,_,by omega,by go_num,a7.out,a8.out,a9.out⟩
      case measure=>simp[intOf];omega
  ·have H8:k=N:=by omega
   subst H8;have A8:(l.take k).map (Kp.jw b style)=l.map (Kp.jw b style):=by rw[<- HN.out,List.take_length]
   rw[A8] at Q;have pi:=Q.papers (B:=Bm) (v:=u11) (by rw[List.length_map,HN.out];exact ho);have P:Below w.heap.size w wo:=B1.out.trans (z.mono D5);have co:=ig (l.map (Kp.jw b style)) u11 aL wo (HC.out.below P) pi (by rw[List.length_map,HN.out];unfold maxLen;omega);have o1:=O1.out.below (by rw[j1.out];exact z);obtain⟨sb,o0⟩:∃s,Kp.ui (l.map (Kp.jw b style))=s:=⟨_,rfl⟩;have f2:=hid (λraw=>Kp.oP b style l raw);rw[o0,w0.out] at f2;unfold Vv at co;rw[o0] at co;obtain⟨va,vc,rfl⟩:=XP ho;have CO:=hid co;have OA:=hid o1;have Z:=hid P;have V:=hid (λ(W:World) (hb:Below w.heap.size w W)=>FE aL W (HC.out.below hb) (HE.out.below hb));clear A8 pi P co o1 o0 Q ho z w0 O1 B1 HP HN j1 HC
   go_upto_region 24 with (go_at_call 4;refine CO.out.mono ?_;rintro e w2 ⟨ob,rfl,h3,h4,b2,o2⟩;have t8:Hid (TuP w w2 oa ob sa sb):=hid ⟨Z.out.trans (b2.mono Z.out.size),OA.out.below b2,o2⟩;clear b2 o2)
   clear CO OA Z
   go_loopw [20] (λiv wr=>∃k:Nat,k<=m/\iv = .int .i64 k/\TuP w wr oa ob sa sb) (λiv _=>m-(intOf iv).toNat)
   case atStart=>exact⟨0,Nat.zero_le _,rfl,t8.out⟩
   case round=>
    clear t8;obtain⟨t,ht,rfl,hI⟩:=hrel
    by_cases htm:t<m
    ·have f8:t<asks.length:=by rw[k5.out];exact htm
     obtain⟨_,_,c5,F⟩:=HA.out;obtain⟨gb,o,rv,ea,q,m5⟩:=F t _ (List.getElem?_eq_getElem f8);have l8:a2=some ⟨gb,o,none⟩:=by injection c5 with e1;rw[e1];exact ea
     subst l8;obtain⟨raw,i4⟩:∃r,asks[t]=r:=⟨_,rfl⟩;rw[i4] at m5;have q0:=zb hI.below q;have cA:=λ(W:World) (hb:Below w.heap.size w W)=>pV raw rv W (m5.below hb);obtain⟨ve,le,ne⟩:=f2.out raw;have B3:(De.yn sa (Kp.qM raw)).2=0:=by unfold De.yn;rw[if_pos (Y8 raw)]
     have i2:(De.yn sb (Kp.qM raw)).2=0:=by unfold De.yn;rw[if_pos (Y8 raw)]
     have m6:=pU raw;have cD:=λ(W:World) (ao:Option Addr) (cap:Nat) (hW:TuP w W oa ob sa sb) (n0:xL W ao (Kp.qM raw).marks)=>U4 oa sa (Kp.qM raw) ao cap (λb=>b=oa) W hW.a n0 m6 (HE.out.below hW.below);have cF:=λ(W:World) (ao:Option Addr) (cap:Nat) (hW:TuP w W oa ob sa sb) (n0:xL W ao (Kp.qM raw).marks)=>U4 ob sb (Kp.qM raw) ao cap (λb=>b=ob) W hW.b n0 m6 (HE.out.below hW.below);rw[B3] at cD;rw[i2] at cF;obtain⟨dc,A5⟩:∃d,(De.yn sa (Kp.qM raw)).1=d:=⟨_,rfl⟩;obtain⟨df,A7⟩:∃d,(De.yn sb (Kp.qM raw)).1=d:=⟨_,rfl⟩;simp only[A5,A7] at cD cF ve le ne;unfold Jl kr at cD cF;simp only[<- ve,<- le,<- ne] at cF;obtain⟨v0,o4⟩:∃x,((dc.verdict:Nat):Int)=x:=⟨_,rfl⟩;obtain⟨v1,o5⟩:∃x,((dc.layer:Nat):Int)=x:=⟨_,rfl⟩;obtain⟨v3,B8⟩:∃x,((dc.stmt:Nat):Int)=x:=⟨_,rfl⟩;obtain⟨v4,B9⟩:∃x,((df.stmt:Nat):Int)=x:=⟨_,rfl⟩;obtain⟨v2,o6⟩:∃x,dc.doc=x:=⟨_,rfl⟩;simp only[o4,o5,o6,B8] at cD;simp only[o4,o5,o6,B9] at cF;unfold Ref.qo at cD cF;have CA:=hid cA;have CD:=hid cD;have CF:=hid cF;have HI:=hid hI;clear cA cD cF hI F m5 q c5 ea B3 i2 m6 A5 A7 ve le ne o4 o5 o6 B8 B9 i4 HA k5 V f2
     go_upto_region 27 with (first
      | (go_at_call 7;refine (CD.out w5 ao cap k2.out C2).mono ?_;rintro e w6 ⟨rfl,b6⟩;have t9:=hid (k2.out.step b6);have q6:=zb b6 q5;clear b6)
      | (go_at_call 8;refine (CA.out wr HI.out.below).mono ?_;rintro e w5 ⟨ao,cap,rfl,C2,b5⟩;have k2:=hid (HI.out.step b5);have q5:=zb b5 q0;clear b5;unfold Ref.qo))
     obtain⟨W7,a0⟩:∃W,w6.alloc (.cells #[.int .i64 v0,.int .i64 v1,.string v2,.int .i64 v3] 36)=W:=⟨_,rfl⟩;have b7:Below w6.heap.size w6 W7:=by rw[<- a0];exact nB w6 _
     have n7:W7.heap[w6.heap.size]?=some (.cells #[.int .i64 v0,.int .i64 v1,.string v2,.int .i64 v3] 36):=by rw[<- a0];exact heap_alloc_new w6 _
     obtain⟨db,A4⟩:∃x,w6.heap.size=x:=⟨_,rfl⟩;rw[A4] at n7 |-;rw[a0];have k3:=hid (t9.out.step b7);have q7:=zb b7 q6;have x0:=(za n7 0).1;have x1:=(za n7 1).1;have x2:=(za n7 2).1;simp at x0 x1 x2;have zd:=lt_of_block n7;clear a0 b7 n7 A4 t9 k2 CD C2 q6 q5 q0
     go_upto_region 28 with (first
      | (go_at_call 7;refine (CF.out w8 G6 z6 k4.out C3).mono ?_;rintro e w9 ⟨rfl,b9⟩;have v5:=hid (k4.out.step b9);have i8:=zb b9 D1;have i9:=zb b9 D2;have j0:=zb b9 D3;have N6:=b9.size;clear b9)
      | (go_at_call 8;refine (CA.out W7 k3.out.below).mono ?_;rintro e w8 ⟨G6,z6,rfl,C3,b8⟩;have k4:=hid (k3.out.step b8);have D1:=zb b8 x0;have D2:=zb b8 x1;have D3:=zb b8 x2;have N5:=b8.size;clear b8;unfold Ref.qo))
     obtain⟨WA,a1⟩:∃W,w9.alloc (.cells #[.int .i64 v0,.int .i64 v1,.string v2,.int .i64 v4] 36)=W:=⟨_,rfl⟩;have bA:Below w9.heap.size w9 WA:=by rw[<- a1];exact nB w9 _
     have nA:WA.heap[w9.heap.size]?=some (.cells #[.int .i64 v0,.int .i64 v1,.string v2,.int .i64 v4] 36):=by rw[<- a1];exact heap_alloc_new w9 _
     obtain⟨dd,A6⟩:∃x,w9.heap.size=x:=⟨_,rfl⟩;rw[A6] at nA |-;rw[a1];have F3:=hid (v5.out.step bA);have y0:=zb bA i8;have y1:=zb bA i9;have y2:=zb bA j0;have z0:=(za nA 0).1;have z1:=(za nA 1).1;have z2:=(za nA 2).1;simp at z0 z1 z2;clear a1 bA nA A6 v5 k4 k3 C3 CF CA x0 x1 x2 D1 D2 D3 i8 i9 j0 q7 zd N5 N6;go_wp2_with fail
     go_roundw
     case rel=>exact⟨t+1,by omega,by go_num,F3.out⟩
     case measure=>simp[intOf];omega
    ·have I4:t=m:=by omega
     subst I4;have HI:=hid hI;have CK:=hid (V.out wr hI.below);clear hI HA k5 V f2
     go_wp2_with (go_at_call 9;refine CK.out.mono ?_;rintro e w5 ⟨rfl,b5⟩;have B5:=hid b5;clear b5)
     go_ret;exact⟨rfl,HI.out.below.trans (B5.out.mono HI.out.below.size)⟩
end Go.Proofs.YtdakgnaojakldabGreatDoor
