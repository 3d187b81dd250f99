/- P -/
import Derived.Test.YtfjpcldndaiifaaGreatDoorA27
open Go.Proofs.Tryz
set_option maxRecDepth 100000
set_option maxHeartbeats 4000000
namespace Go.Proofs.YtfjpcldndaiifaaGreatDoor
open Go.RowKit
theorem yA.slice{w:J}{base:Nat}{b:Y}{cs:List U.qz}(h:yA w base b cs):∃a c,b=TL a cs.length c:=by
 obtain⟨d,h,_⟩:=h
 rcases h.2 with⟨rfl,h0⟩|⟨g,c,cur,rfl,_⟩
 ·exact⟨_,_,by rw[h0]⟩
 exact⟨_,_,rfl⟩
structure Kp (B:Nat) (wx wy:J):Prop where
 size:wx.heap.size<=wy.heap.size
 keep:∀i,B<=i->i<wx.heap.size->wy.heap[i]?=wx.heap[i]?
theorem Kp.trans{B:Nat}{a b c:J}(h:Kp B a b)(k:Kp B b c):Kp B a c:=⟨xD h.size k.size,λi d e=>(k.keep i d (xO e h.size)).trans (h.keep i d e)⟩
theorem Kp.below{B:Nat}{a b:J}(h:BQ a b):Kp B a b:=⟨h.size,λi _ c=>h.block i c⟩
theorem Kp.grown{B c:Nat}{a b:J}(h:a.grownBy b (some c))(e:c<B):Kp B a b:=⟨h.size,λi f d=>h.block i d (by simp;omega)⟩
theorem Kp.set{B b:Nat}(a:J)(o:Nat)(u:Y)(c:b<B):Kp B a (a.setCell (G8 b o) u):=⟨by simp[World.setCell],λi d _=>qy _ _ _ _ (by simp only;omega)⟩
theorem OV(s:BY):((s.toList==[97,108,108,111,119])=true/\Z.yI s=true)\/((s.toList==[97,108,108,111,119])=false/\(s.toList==[100,101,110,121])=true/\Z.yI s=true)\/((s.toList==[97,108,108,111,119])=false/\(s.toList==[100,101,110,121])=false/\Z.yI s=false):=by
 unfold Z.yI
 cases (s.toList==[97,108,108,111,119])<;>cases (s.toList==[100,101,110,121])<;>simp
def GG(W:J)(a:Nat)(d c N S P:Bool)(L:List BY)(e:Ending)(w':J):Prop:=
 ∃b,e=.returned (.agg #[.bool N,b])/\W.grownBy w' (some a)/\qA w' a (d || !S) (c || !P)/\w'.ownsRow W.heap.size 9 1 b L.length (U.strCells L)
theorem zd6(i:Nat)(w0:J)(base b gg cap:Nat)(ns:List U.Node)(n:U.Node)(w:J)(y:kr w0 base b gg cap ns w)(hi:ns[i]?=some n)
  (l:¬(U.jA n [Z.zM,Z.zY,Z.bDo,Z.bOn,Z.bIf]=false\/U.zq n Z.zM<0\/U.kindOf ns (U.zq n Z.zM)≠3)):R8 73 #[RG b 0,R9 (i:Int)] w (UZ w (Z.Z8 ns n)):=by
 have s7:w0.heap.size<=w.heap.size+4:=by have:=y.bel.size;omega
 obtain⟨⟨v1,v2⟩,⟨na,nc,m7⟩,⟨ka,kc,m8⟩,a8,cH,cO⟩:=Kv y hi;simp only at m7 m8;subst m7;subst m8;have s8:i<ns.length:=(zU.1 hi).1;have i8:=y.at.slice;have m6:=y.rd.len;have eB:=U.vX y.rd.ev hi Z.zM;have wB:=U.vX y.rd.ev hi Z.zY;have dB:=U.vX y.rd.ev hi Z.bDo;have oB:=U.vX y.rd.ev hi Z.bOn;have fB:=U.vX y.rd.ev hi Z.bIf;obtain⟨a1,a2,a3,a4⟩:=a8 w y.bel;simp only at a3 a4;unfold Xz at cH cO;simp only at cH cO;obtain⟨a9,E⟩:=Nm n.kind;obtain⟨b0,F⟩:=Nm n.text;obtain⟨nn,i7⟩:=Nm n.names.length;obtain⟨nk,i5⟩:=Nm n.kids.length;rw[E]at a1;rw[F]at a2;rw[i7]at a3;rw[i5]at a4;simp only[E,F,i7,i5]at cH cO;have ST:=ym.start w #[R9 a9,S9 b0,TL na nn nc,TL ka nk kc];have S:∀wx sc B A,ym w #[R9 a9,S9 b0,TL na nn nc,TL ka nk kc] sc B A wx->BQ w0 wx:=λwx _ _ _ h=>y.bel.trans (h.g.mono y.bel.size);obtain⟨EF,X⟩:=Nm (U.zq n Z.zM);obtain⟨WH,c8⟩:=Nm (U.zq n Z.zY);obtain⟨DO,c5⟩:=Nm (U.zq n Z.bDo);obtain⟨OO,c7⟩:=Nm (U.zq n Z.bOn);obtain⟨IF,c6⟩:=Nm (U.zq n Z.bIf)
 have l9:U.jA n [Z.zM,Z.zY,Z.bDo,Z.bOn,Z.bIf]=true:=by
  cases e:U.jA n [Z.zM,Z.zY,Z.bDo,Z.bOn,Z.bIf] with
  | true=>rfl
  | false=>exact absurd (.inl e) l
 have hR:Z.Z8 ns n=Z.YO (U.textOf ns EF) (U.jG ns WH) (U.jG ns DO) (U.jG ns OO) (U.X4 ns IF):=by
  unfold Z.Z8;rw[za l,X,c8,c5,c7,c6]
 rw[hR];rw[X]at l
 have e0:0<=EF:=by
  by_cases h:EF<0
  ·exact absurd (.inr (.inl h)) l
  omega
 have Q:U.kindOf ns EF=3:=by
  by_cases h:U.kindOf ns EF=3
  ·exact h
  exact absurd (.inr (.inr h)) l
 have b9:=λW h=>cH W Z.zM h;have c1:=λW h=>cH W Z.zY h;have c2:=λW h=>cH W Z.bDo h;have c3:=λW h=>cH W Z.bOn h;have c4:=λW h=>cH W Z.bIf h;simp only[X]at b9;simp only[c8]at c1;simp only[c5]at c2;simp only[c7]at c3;simp only[c6]at c4;unfold Z.zM at b9;unfold Z.zY at c1;unfold Z.bDo at c2;unfold Z.bOn at c3;unfold Z.bIf at c4;rw[X]at eB;rw[c8]at wB;rw[c5]at dB;rw[c7]at oB;rw[c6]at fB
 have cc:∀(k:Int) (W:J) (B A:Bool),k<ns.length -> -1<=k->BQ w0 W->qA W (w.heap.size+4) B A->R8 123 #[RG b 0,R9 k,RG (w.heap.size+4) 0] W (GG W (w.heap.size+4) B A (U.jG ns k).1 (U.jG ns k).2.isSome (((U.jG ns k).2.getD []).all U.qD) ((U.jG ns k).2.getD [])):=
  λk W B A h1 h2 hb hf=>Mv k base b gg cap ns (w.heap.size+4) B A W (y.rd.below hb) h1 h2 hf
 have K:=λW B A hb hf=>cc WH W B A wB.2 wB.1 hb hf;have L:=λW B A hb hf=>cc DO W B A dB.2 dB.1 hb hf;have M:=λW B A hb hf=>cc OO W B A oB.2 oB.1 hb hf
 have f4:∀W B A,BQ w0 W->qA W (w.heap.size+4) B A->R8 124 #[RG b 0,R9 IF,RG (w.heap.size+4) 0] W (pV W (w.heap.size+4) B A (U.X4 ns IF)):=
  λW B A hb hf=>Nf IF w0 base b gg cap ns (w.heap.size+4) B A W ⟨y.rd,y.non,hb⟩ fB.2 fB.1 s7 hf
 unfold Z.YO Z.chD Z.chP;obtain⟨t,g4⟩:=Nm (U.X4 ns IF);rw[g4];simp only[g4]at f4;obtain⟨A1,g1⟩:=Nm (U.jG ns WH);obtain⟨A2,g2⟩:=Nm (U.jG ns DO);obtain⟨A3,g3⟩:=Nm (U.jG ns OO);rw[g1,g2,g3];simp only[g1]at K;simp only[g2]at L;simp only[g3]at M;obtain⟨C,M1⟩:=A1;obtain⟨G,M2⟩:=A2;obtain⟨N,M3⟩:=A3;simp only at K L M |-;obtain⟨z,g5⟩:=Nm (M1.getD []);obtain⟨D,g7⟩:=Nm (M2.getD []);obtain⟨I,g9⟩:=Nm (M3.getD []);obtain⟨S1,h7⟩:=Nm M1.isSome;obtain⟨S2,h8⟩:=Nm M2.isSome;obtain⟨S3,h9⟩:=Nm M3.isSome;rw[g5,g7,g9,h7,h8,h9];simp only[g5,h7]at K;simp only[g7,h8]at L;simp only[g9,h9]at M;obtain⟨P1,h3⟩:=Nm (z.all U.qD);obtain⟨P2,h4⟩:=Nm (D.all U.qD);obtain⟨P3,h5⟩:=Nm (I.all U.qD);rw[h3,h4,h5];simp only[h3]at K;simp only[h4]at L;simp only[h5]at M;have b7:=ST.below (nbl _ (L8 #[S9 Z.zM,S9 Z.zY,S9 Z.bDo,S9 Z.bOn,S9 Z.bIf] 9));have T:=cO _ [Z.zM,Z.zY,Z.bDo,Z.bOn,Z.bIf] _ 0 (S _ _ _ _ b7) (Di (zA _ _) I4) (by simp);rw[l9]at T;simp only[uH]at T;unfold Z.zM Z.zY Z.bDo Z.bOn Z.bIf at T b7;obtain⟨je,s9,c9⟩:=Vm y EF e0 eB.2;subst s9;rw[Q]at c9;obtain⟨a,a0⟩:=Nm (U.textOf ns (je:Int));rw[a0];rw[a0]at c9;obtain⟨nl,i6⟩:=Nm ns.length;rw[i6]at i8 s8 m6 eB;have⟨q0,HE,c,k8,k9,l0,l1,l2⟩:=M9 i6 y S K L M f4 c9;have i0:(0:Int)<=(i:Int):=qd _;have i1:(i:Int)<(nl:Int):=by omega
 have F8:(0:Int)<=(je:Int):=qd _;have F9:(je:Int)<(nl:Int):=eB.2;have d1:decide ((je:Int)<0)=false:=P6;clear y cH a8 X c8 c5 c7 c6 l9 E F i7 i5 S cO i6 ST hR l e0 Q cc K L M f4 g4 g1 g2 g3 g5 g7 g9 h7 h8 h9 h3 h4 h5 c9 a0 eB wB dB oB fB;have s1:=λO P:Obj=>zi ((nbl w O).alloc (by simp) P) i8;have b1:=λO P:Obj=>zi ((nbl w O).alloc (by simp) P) a1;have b2:=λO P:Obj=>zi ((nbl w O).alloc (by simp) P) a2;have b3:=λO P:Obj=>zi ((nbl w O).alloc (by simp) P) a3;have b4:=λO P:Obj=>zi ((nbl w O).alloc (by simp) P) a4;go_enter func73,ntmps73
 go_upto_region 6 with(first
  |(go_at_call 72;apply(b9 w1 (c.o w1 _ _ _ C1)).mono;rintro e w2⟨rfl,m4⟩;have C2:=C1.below m4)
  |(go_at_call 122;apply T.mono;rintro e w1⟨rfl,m3⟩;have C1:=b7.below m3;obtain⟨⟨j1,j2,j3,j4⟩,_,_,_⟩:=C1.cells))
 have f3:=c.o w2 _ _ _ C2
 have A6:w2.cell? (G8 b 2)=some (TL (some (G8 gg 0)) nl cap):=by
  have:=(HE.o.rd.below f3).slice
  rwa [q0.o]at this
 obtain⟨m1,m2⟩:=l2.o w2 f3;clear j1 j2 j3 j4 s1 b1 b2 b3 b4 a1 a2 a3 a4 i8 i0 i1 m3 m4 C1 b7 b9 T;obtain⟨_,⟨c0,_⟩,fz,⟨h0,h1,h2⟩⟩:=C2.cells;have s3:=fz 0;have C3:=C2.put 0 (S9 a) #[S9 a,T9,R4,T9,R4,T9,R4,R4] rfl;obtain⟨_,⟨x0,_⟩,_,⟨y0,y1,y2⟩⟩:=C3.cells;clear fz
 have l6:∃SH:Bool,(!Z.yI a)=SH/\(((a.toList==[97,108,108,111,119])=true/\(a.toList != [97,108,108,111,119])=false/\SH=false)\/((a.toList==[97,108,108,111,119])=false/\(a.toList != [97,108,108,111,119])=true/\(a.toList==[100,101,110,121])=true/\(a.toList != [100,101,110,121])=false/\SH=false)\/((a.toList==[97,108,108,111,119])=false/\(a.toList != [97,108,108,111,119])=true/\(a.toList==[100,101,110,121])=false/\(a.toList != [100,101,110,121])=true/\SH=true)):=by
  refine⟨_,rfl,?_⟩;unfold bne
  rcases OV a with⟨q1,q2⟩|⟨q1,q2,q3⟩|⟨q1,q2,q3⟩
  ·exact .inl ⟨q1,by rw[q1];rfl,by rw[q2];rfl⟩
  ·exact .inr (.inl ⟨q1,by rw[q1];rfl,q2,by rw[q2];rfl,by rw[q3];rfl⟩)
  exact .inr (.inr ⟨q1,by rw[q1];rfl,q2,by rw[q2];rfl,by rw[q3];rfl⟩)
 obtain⟨SH,m0,ways⟩:=l6;have l4:=G7 m0;have C4:=G7 (C3.shape SH)
 go_upto_region 10 with fail
 obtain⟨w3,n0⟩:=Nm (w2.setCell (G8 (w.heap.size+3) 0) (S9 a));rw[n0]at C4 x0 y0 y1 y2 |-;clear C3 C2 m0 n0 A6 m1 m2 c0 h0 h1 h2 s3 f3 l2
 go_cut [] (λwx=>ym w #[R9 a9,S9 b0,TL na nn nc,TL ka nk kc] #[S9 a,T9,R4,T9,R4,T9,R4,R4] SH false wx)
 case first=>
  rcases ways with⟨q1,q2,rfl⟩|⟨q1,q2,q3,q4,rfl⟩|⟨q1,q2,q3,q4,rfl⟩
  all_goals
   go_wp2_with fail
   go_meet
   case rel=>exact C4.o
 case rest=>
  have C4:=hcut;obtain⟨⟨j1,j2,j3,j4⟩,_,_,_⟩:=C4.cells
  go_upto_region 15 with(first
   |(go_at_call 124;apply(l1.o d3 _ _ (c.o d3 _ _ _ R) R.f).mono;rintro e b5⟨G0,rfl,g0,f12,j0⟩;obtain⟨p,q,rfl⟩:=j0.slice;have d7:=R.grown g0 f12;obtain⟨_,⟨_,_,_,_,_,_,_,r7⟩,d5,_⟩:=d7.cells;have z7:=d5 7;clear d5)
   |(go_at_call 72;apply(c4 _ (c.o _ _ _ _ b6)).mono;rintro e d3⟨rfl,a7⟩;have R:=b6.below a7)
   |(go_at_call 123;apply(l0.o w9 _ _ (c.o w9 _ _ _ C9) C9.f).mono;rintro e j5⟨G3,rfl,f9,f10,i9⟩;obtain⟨r,s,rfl⟩:=jb i9;have d9:=C9.grown f9 f10;obtain⟨_,⟨_,_,_,_,_,r5,r6,_⟩,V,_⟩:=d9.cells;have z5:=V 5;have z6:=V 6;clear V;have b6:=(d9.put 5 (.bool N) #[S9 a,.bool C,TL d z.length j,.bool G,TL m D.length o,.bool N,R4,R4] rfl).put 6 (TL r I.length s) #[S9 a,.bool C,TL d z.length j,.bool G,TL m D.length o,.bool N,TL r I.length s,R4] rfl;obtain⟨⟨z9,A0,A4,A5⟩,_,_,_⟩:=b6.cells)
   |(go_at_call 72;apply(c3 _ (c.o _ _ _ _ C8)).mono;rintro e w9⟨rfl,i4⟩;have C9:=C8.below i4)
   |(go_at_call 123;apply(k9.o w7 _ _ (c.o w7 _ _ _ C7) C7.f).mono;rintro e w8⟨G2,rfl,g8,f8,o8⟩;obtain⟨m,o,rfl⟩:=jb o8;have D8:=C7.grown g8 f8;obtain⟨_,⟨_,_,_,r3,r4,_⟩,f7,_⟩:=D8.cells;have z3:=f7 3;have z4:=f7 4;clear f7;have C8:=(D8.put 3 (.bool G) #[S9 a,.bool C,TL d z.length j,.bool G,R4,T9,R4,R4] rfl).put 4 (TL m D.length o) #[S9 a,.bool C,TL d z.length j,.bool G,TL m D.length o,T9,R4,R4] rfl;obtain⟨⟨y8,y9,z0,z8⟩,_,_,_⟩:=C8.cells)
   |(go_at_call 72;apply(c2 _ (c.o _ _ _ _ C6)).mono;rintro e w7⟨rfl,i3⟩;have C7:=C6.below i3)
   |(go_at_call 123;apply(k8.o w5 _ _ (c.o w5 _ _ _ C5) C5.f).mono;rintro e w6⟨G1,rfl,g6,f6,o6⟩;obtain⟨d,j,rfl⟩:=jb o6;have D6:=C5.grown g6 f6;obtain⟨_,⟨_,r1,r2,_⟩,f5,_⟩:=D6.cells;have z1:=f5 1;have z2:=f5 2;clear f5;have C6:=(D6.put 1 (.bool C) #[S9 a,.bool C,R4,T9,R4,T9,R4,R4] rfl).put 2 (TL d z.length j) #[S9 a,.bool C,TL d z.length j,T9,R4,T9,R4,R4] rfl;obtain⟨⟨x4,x5,x6,x7⟩,_,_,_⟩:=C6.cells)
   |(go_at_call 72;apply(c1 wc (c.o wc _ _ _ C4)).mono;rintro e w5⟨rfl,m5⟩;have C5:=C4.below m5))
  have t8:=C5.size;have t9:=C7.size;have v0:=C9.size;have n1:=R.size;have kA:Kp (w.heap.size+5) w6 w7:=((Kp.set w6 1 _ (by omega)).trans (Kp.set _ 2 _ (by omega))).trans (Kp.below i3);have kB:Kp (w.heap.size+5) w7 w8:=Kp.grown g8 (by omega);have kC:Kp (w.heap.size+5) w8 w9:=((Kp.set w8 3 _ (by omega)).trans (Kp.set _ 4 _ (by omega))).trans (Kp.below i4);have kD:Kp (w.heap.size+5) w9 j5:=Kp.grown f9 (by omega);have kE:Kp (w.heap.size+5) j5 d3:=((Kp.set j5 5 _ (by omega)).trans (Kp.set _ 6 _ (by omega))).trans (Kp.below a7);have kF:Kp (w.heap.size+5) d3 b5:=Kp.grown g0 (by omega);have kG:Kp (w.heap.size+5) b5 (b5.setCell (G8 (w.heap.size+3) 7) (TL p t.cs.length q)):=Kp.set b5 7 _ (by omega);have H:=d7.put 7 (TL p t.cs.length q) #[S9 a,.bool C,TL d z.length j,.bool G,TL m D.length o,.bool N,TL r I.length s,TL p t.cs.length q] rfl;obtain⟨d4,m9⟩:=Nm (b5.setCell (G8 (w.heap.size+3) 7) (TL p t.cs.length q));rw[m9]at kG H |-
  have rows:Za d4 (w.heap.size+5) (TL d z.length j) (TL m D.length o) (TL r I.length s) (TL p t.cs.length q) ⟨a,(C,z),(G,D),(N,I),t.cs,!Z.yI a || !S1 || !S2 || !S3||t.sh,!P1 || !P2 || !P3||t.pt⟩:=
   ⟨XC (xS o6 t8) (kA.trans (kB.trans (kC.trans (kD.trans (kE.trans (kF.trans kG)))))).keep,XC (xS o8 t9) (kC.trans (kD.trans (kE.trans (kF.trans kG)))).keep,XC (xS i9 v0) (kE.trans (kF.trans kG)).keep,(j0.mono n1).kept kG.keep⟩
  obtain⟨SF,i2⟩:=Nm ((!Z.yI a || !S1 || !S2 || !S3||t.sh));obtain⟨PF,h6⟩:=Nm ((!P1 || !P2 || !P3||t.pt));have a5:=i2;rw[l4.o]at a5;rw[a5,XI,h6]at H
  have p9:G6 (∀W,BQ w W->(∀i,w.heap.size+2<=i->W.heap[i]?=d4.heap[i]?)->UZ w ⟨a,(C,z),(G,D),(N,I),t.cs,!Z.yI a || !S1 || !S2 || !S3||t.sh,!P1 || !P2 || !P3||t.pt⟩ (.returned (.tuple #[.agg #[.string a,.bool C,.slice d z.length j,.bool G,.slice m D.length o,.bool N,.slice r I.length s,.slice p t.cs.length q],.agg #[.bool SF,.bool PF]])) W.drew):=by
   refine G7 (λW hb hk=>⟨_,_,_,_,?_,hb.drew,(rows.kept (w':=W.drew) (λi hi _=>hk i (by omega))).mono (by omega)⟩);simp only[i2,h6]
  obtain⟨_,⟨y0,y1,y2,y3,y4,y5,y6,y7⟩,_,⟨f0,f1,_⟩⟩:=H.cells;obtain⟨⟨t0,t1,t2,t3,t4,t5,t6,t7⟩,⟨u0,u1⟩,u,j6⟩:=H.res;have H6:=u 0;have H7:=u 1;have H8:=u 2;have H9:=u 3;have I0:=u 4;have I1:=u 5;have I2:=u 6;have I3:=u 7;have I5:=j6 0;have I6:=j6 1;have FA:=H.fin (S9 a) (.bool C) (TL d z.length j) (.bool G) (TL m D.length o) (.bool N) (TL r I.length s) (TL p t.cs.length q) (.bool SF) (.bool PF);have l3:=G7 FA;clear FA u j6 H kA kB kC kD kE kF kG m5 g6 f6 o6 i3 g8 f8 o8 i4 f9 f10 i9 a7 g0 f12 j0 C4 C5 C6 D6 C7 C8 D8 C9 b6 d9 R d7 c1 c2 c3 c4 k8 k9 l0 l1 j1 j2 j3 j4 x4 x5 x6 x7 y8 y9 z0 z8 z9 A0 A4 A5 r1 r2 r3 r4 r5 r6 r7 z1 z2 z3 z4 z5 z6 z7 rows i2 h6 a5 l4 hcut;go_region;go_wp2_with fail
  change bodyPost _ _ _ _ _ (set2 (kQ d4 w.heap.size (S9 a) (.bool C) (TL d z.length j) (.bool G) (TL m D.length o) (.bool N) (TL r I.length s) (TL p t.cs.length q)) (w.heap.size+1) (.bool SF) (.bool PF)).drew
  obtain⟨k1,k2,Q,k4⟩:=l3.o;clear l3;generalize set2 (kQ d4 w.heap.size (S9 a) (.bool C) (TL d z.length j) (.bool G) (TL m D.length o) (.bool N) (TL r I.length s) (TL p t.cs.length q)) (w.heap.size+1) (.bool SF) (.bool PF)=wF at k1 k2 Q k4 |-;have e0:wF.cell? (G8 w.heap.size 0)=some (S9 a):=(zg Q 0).1;have e1:wF.cell? (G8 w.heap.size 1)=some (.bool C):=(zg Q 1).1;have e2:wF.cell? (G8 w.heap.size 2)=some (TL d z.length j):=(zg Q 2).1;have e3:wF.cell? (G8 w.heap.size 3)=some (.bool G):=(zg Q 3).1;have e4:wF.cell? (G8 w.heap.size 4)=some (TL m D.length o):=(zg Q 4).1;have e5:wF.cell? (G8 w.heap.size 5)=some (.bool N):=(zg Q 5).1;have e6:wF.cell? (G8 w.heap.size 6)=some (TL r I.length s):=(zg Q 6).1;have e7:wF.cell? (G8 w.heap.size 7)=some (TL p t.cs.length q):=(zg Q 7).1;have e8:wF.cell? (G8 (w.heap.size+1) 0)=some (.bool SF):=(zg k4 0).1;have e9:wF.cell? (G8 (w.heap.size+1) 1)=some (.bool PF):=(zg k4 1).1;exact zG (v := .tuple #[.agg #[S9 a,.bool C,TL d z.length j,.bool G,TL m D.length o,.bool N,TL r I.length s,TL p t.cs.length q],.agg #[.bool SF,.bool PF]]) (by simp[results,results73,go_sem,e0,e1,e2,e3,e4,e5,e6,e7,e8,e9]) rfl (p9.o wF k1 k2)
theorem zd4(i:Nat)(c:J)(base b a cap:Nat)(ns:List U.Node)(n:U.Node)(w:J)(d:kr c base b a cap ns w)(f:ns[i]?=some n):R8 73 #[RG b 0,R9 (i:Int)] w (UZ w (Z.Z8 ns n)):=by
 by_cases h:U.jA n [Z.zM,Z.zY,Z.bDo,Z.bOn,Z.bIf]=false\/U.zq n Z.zM<0\/U.kindOf ns (U.zq n Z.zM)≠3
 ·have e:Z.Z8 ns n=Z.vN:=by unfold Z.Z8;rw[zb h]
  rw[e];exact zd5 i c base b a cap ns n w d f h
 exact zd6 i c base b a cap ns n w d f h
def RSt(w:J)(base:Nat)(xs:List Y)(j:Nat)(R:Z.qi):Prop:=
 ∃a b c d,xs[j*8]?=some (S9 R.eff)/\xs[j*8+1]?=some (.bool R.who.1)/\xs[j*8+2]?=some a/\xs[j*8+3]?=some (.bool R.act.1)/\xs[j*8+4]?=some b/\xs[j*8+5]?=some (.bool R.on.1)/\xs[j*8+6]?=some c/\xs[j*8+7]?=some d/\Za w base a b c d R
def jh(w:J)(base:Nat)(c:Y)(a:List Z.qi):Prop:=
 ∃b,w.ownsRow base 173 8 c a.length b/\∀j,(h:j<a.length)->RSt w base b j a[j]
theorem jh.nil(w:J)(base:Nat):jh w base R4 []:=⟨[],qF _ _ _ _,λj a=>by simp at a⟩
theorem jh.kept{w w':J}{base:Nat}{b:Y}{c:List Z.qi}(h:jh w base b c)(a:∀i,base<=i->i<w.heap.size->w'.heap[i]?=w.heap[i]?):jh w' base b c:=by
 obtain⟨x,p,q⟩:=h;refine⟨x,XC p a,λj r=>?_⟩;obtain⟨s,t,u,v,d,f,g,k,l,m,n,o,e⟩:=q j r;exact⟨s,t,u,v,d,f,g,k,l,m,n,o,e.kept a⟩
theorem jh.mono{w:J}{base a:Nat}{c:Y}{d:List Z.qi}(h:jh w base c d)(b:a<=base):jh w a c d:=by
 obtain⟨x,p,q⟩:=h;refine⟨x,xS p b,λj r=>?_⟩;obtain⟨s,t,u,v,f,g,i,k,l,m,n,o,e⟩:=q j r;exact⟨s,t,u,v,f,g,i,k,l,m,n,o,e.mono b⟩
theorem yA.other{W i:J}{base c:Nat}{e:TypeId}{size n:Nat}{g f:Y}{xs:List Y}{cs:List U.qz}(own:W.ownsRow base e size g n xs)(h:yA W c f cs)(k:e≠265)(m:e≠9)(d:W.grownBy i g.ownBlock):yA i c f cs:=by
 obtain⟨u,a,b⟩:=h;refine⟨u,YU own a k d,λj o=>?_⟩;obtain⟨l,p,q,r,s,t⟩:=b j o;exact⟨l,p,q,r,s,YU own t m d⟩
theorem Za.other{W i:J}{base a:Nat}{g c d e f:Y}{n:Nat}{xs:List Y}{R:Z.qi}(own:W.ownsRow base 173 8 g n xs)(h:Za W a c d e f R)(b:W.grownBy i g.ownBlock):Za i a c d e f R:=
 ⟨YU own h.1 (by decide) b,YU own h.2.1 (by decide) b,YU own h.2.2.1 (by decide) b,h.2.2.2.other own (by decide) (by decide) b⟩
theorem jh.snoc{W m:J}{base:Nat}{n o f g i k:Y}{a:List Z.qi}{xs:List Y}(own:W.ownsRow base 173 8 n a.length xs)(y:∀j,(h:j<a.length)->RSt W base xs j a[j])(R:Z.qi)(x:Za W base f g i k R)
  (b:W.grownBy m n.ownBlock)(d:m.ownsRow base 173 8 o (a.length+1) (xs++[S9 R.eff,.bool R.who.1,f,.bool R.act.1,g,.bool R.on.1,i,k])):jh m base o (a++[R]):=by
 have c:xs.length=a.length*8:=own.1;refine⟨_,by rw[qE];exact d,λj z=>?_⟩;rw[qE,kX]at z
 by_cases hlt:j<a.length
 ·rw[UR hlt];obtain⟨f,g,i,k,p,q,r,s,t,u,v,w,e⟩:=y j hlt;refine⟨f,g,i,k,?_,?_,?_,?_,?_,?_,?_,?_,e.other own b⟩
  ·rw[P9];exact p
  ·rw[P9];exact q
  ·rw[P9];exact r
  ·rw[P9];exact s
  ·rw[P9];exact t
  ·rw[P9];exact u
  ·rw[P9];exact v
  rw[P9];exact w
 have l:j=a.length:=by omega
 subst l;rw[gy F7];simp only[Nat.sub_self,rA];refine⟨f,g,i,k,?_,?_,?_,?_,?_,?_,?_,?_,x.other own b⟩
 ·rw[P8,c,Nat.sub_self];rfl
 ·rw[P8,c,show a.length*8+1-a.length*8=1 by omega];rfl
 ·rw[P8,c,show a.length*8+2-a.length*8=2 by omega];rfl
 ·rw[P8,c,show a.length*8+3-a.length*8=3 by omega];rfl
 ·rw[P8,c,show a.length*8+4-a.length*8=4 by omega];rfl
 ·rw[P8,c,show a.length*8+5-a.length*8=5 by omega];rfl
 ·rw[P8,c,show a.length*8+6-a.length*8=6 by omega];rfl
 rw[P8,c,show a.length*8+7-a.length*8=7 by omega];rfl
theorem zcN(a:BY)(h:(qX a).1=0):U.NoN (qX a).2.2.nodes:=by
 obtain⟨R,b⟩:=Nm (qX a);rw[b]at h |-;unfold qX at b
 by_cases h1:4000<a.size
 ·rw[zb h1]at b;subst b;simp at h
 rw[za h1]at b
 by_cases h2:(U.run U.init a.data.toList 0).1≠0
 ·rw[zb h2]at b;subst b;exact absurd h h2
 rw[za h2]at b
 by_cases h3:(U.run U.init a.data.toList 0).2.2.state≠6\/(U.run U.init a.data.toList 0).2.2.opn≠[]
 ·rw[zb h3]at b;subst b;simp at h
 rw[za h3]at b;subst b
 have c:(U.run U.init a.data.toList 0).1=0:=by
  by_cases e:(U.run U.init a.data.toList 0).1=0
  ·exact e
  exact absurd e h2
 exact(U.Fp a.data.toList U.init 0 U.Tm lX c).non
def K6(ns:List U.Node)(a:Nat):List Z.qi:=match ns[a]? with
 | none=>[]
 | some r=>match ns[(U.zq r Z.jF).toNat]? with
  | none=>[]
  | some n=>Z.Zk ns n.kids
def Uy(a:BY):List Z.qi:=K6 (qX a).2.2.nodes (qX a).2.2.root.toNat
theorem zeE(ns:List U.Node)(a:List Nat)(j:Nat)(b:j<a.length)(x:U.Node)(c:ns[a[j]]?=some x):Z.Zk ns (a.take (j+1))=Z.Zk ns (a.take j)++[Z.Z8 ns x]/\Z.Zk ns (a.drop j)=Z.Z8 ns x::Z.Zk ns (a.drop (j+1)):=by
 constructor
 ·rw[Qg,zn b];unfold Z.Zk;rw[uz];simp[c]
 rw[jD b];unfold Z.Zk;rw[yO,c]
theorem PZ(r:Z.qi)(a:List Z.qi)(i:Nat):Z.Qo (r::a) i=if r.sh then (5,i+1) else if r.pt then (6,i+1) else Z.Qo a (i+1):=rfl
theorem zeq(w:J)(O P:Obj)(t:TypeId)(a b c d e f g h:Y):∀(j:Nat) (u:Y),[a,b,c,d,e,f,g,h][j]?=some u->(((w.alloc O).alloc P).alloc (L8 #[a,b,c,d,e,f,g,h] t)).cell? (((G8 (w.heap.size+1+1) 0):Addr).add j)=some u:=by
 have h:=bB (base:=w.heap.size) (e:=t) (size:=8) ((w.alloc O).alloc P) #[a,b,c,d,e,f,g,h] 1 (by simp;omega) (by decide) rfl;rw[uH,uH]at h;exact λj u i=>h.cells (g:=w.heap.size+1+1) rfl j u i
theorem zeH{wr a:J}{B:Nat}{n g k l m:Y}{done:List Z.qi}{R:Z.qi}(O P Q:Obj)(h:jh wr B n done)(q:B<=wr.heap.size)(d:BQ wr a)(r:Za a wr.heap.size g k l m R):∃c,(((a.alloc O).alloc P).alloc Q).ownsRow B 173 8 n done.length c/\(∀j,(h:j<done.length)->RSt (((a.alloc O).alloc P).alloc Q) B c j done[j])/\Za (((a.alloc O).alloc P).alloc Q) B g k l m R:=by
 have e:BQ a (((a.alloc O).alloc P).alloc Q):=((nbl _ _).alloc (by simp) _).alloc (by simp;omega) _;obtain⟨c,o,p⟩:=(h.kept (λi f b=>d.block i b)).kept (λi f b=>e.block i b);exact⟨c,o,p,(r.mono q).kept (λi f b=>e.block i b)⟩
theorem Tryz.infoRStmt:(prog.info? 173).map (λi=>(i.zero,i.size,i.bytes))=some (some (.agg #[R5,T9,R4,T9,R4,T9,R4,R4]),8,136):=by kernel_rfl
def fT(w:J)(A:Int×Nat)(b:List Z.qi)(e:Ending)(w':J):Prop:=
 ∃a,e=.returned (.tuple #[a,.int .i64 A.1,.int .i64 (A.2:Int)])/\BQ w w'/\(A.1=0->jh w' w.heap.size a b)
theorem iX(a:BY)(w:J)(ht:a.size<=maxLen):R8 37 #[S9 a] w (fT w (Z.qC a) (Uy a)):=by
 have cR:=zcS a w ht;have S:=zcM a
 by_cases h0:(qX a).1≠0
 ·have ha:=S.2 h0;rw[<- ha];obtain⟨E,hE⟩:=Nm ((qX a).1);obtain⟨AT,b6⟩:=Nm ((qX a).2.1);rw[hE,b6]at cR |-;rw[hE]at h0;have hb:(E != 0)=true:=by simp[h0]
  have H0:=G7 h0;clear S ha hE b6 h0;go_enter func37,ntmps37;go_wp2_with(go_at_call 71;apply cR.mono;rintro e l⟨p,rfl,f0,_⟩);go_ret3;exact⟨_,rfl,f0,λe=>absurd e H0.o⟩
 have hz:(qX a).1=0:=by
  by_cases e:(qX a).1=0
  ·exact e
  exact absurd e h0
 have ha:=S.1 hz;obtain⟨i3,i4,m1,i5,i6⟩:=zcO a hz;have d9:=zcN a hz;unfold Uy;rw[<- ha];obtain⟨E,hE⟩:=Nm ((qX a).1);obtain⟨AT,b6⟩:=Nm ((qX a).2.1);obtain⟨m,hm⟩:=Nm ((qX a).2.2);rw[hE,b6,hm]at cR;rw[hm]at i3 i4 m1 i5 i6 d9 |-;rw[hE]at hz;subst hz;obtain⟨ri,f3⟩:∃r:Nat,m.root=(r:Int):=⟨m.root.toNat,by omega⟩;rw[f3]at i5;have l0:ri<m.nodes.length:=by omega
 have l6:m.root.toNat=ri:=by rw[f3];simp
 rw[l6];have y:=zn l0;obtain⟨r,hr⟩:=Nm (m.nodes[ri]);rw[hr]at y;obtain⟨D,hD⟩:=Nm (Z.Kj m.nodes ri);obtain⟨RS,s⟩:=Nm (K6 m.nodes ri);rw[hD,s];unfold Z.Kj at hD;unfold K6 at s;rw[y]at hD s;simp only at hD s
 have f9:G6 (∀(l:J) (b:Nat) (ov nv:Y) (vs:List (Y×Y)),zW l w.heap.size b m ov nv vs->U.Bnd 4000 m->∃gg a9,kr l w.heap.size b gg a9 m.nodes l/\l.cell? (G8 b 10)=some (R9 (ri:Int))):=by
  refine G7 (λl b ov nv vs hM hB=>?_);obtain⟨gg,a9,p9⟩:=hM.rd i4 i3 hB i6;refine⟨gg,a9,⟨p9,d9,zf _ _⟩,?_⟩;rw[<- f3];exact(hM.cell 10).1
 have CR:=G7 cR;obtain⟨i,A,T,z⟩:=r;simp only at hD s;obtain⟨K,hK⟩:=Nm (U.zq ⟨i,A,T,z⟩ Z.jF);rw[hK]at hD s;have⟨HD,j6,HK,I⟩:=M5 hD s hK y;clear hD s hK hr y cR S ha i3 i4 m1 i5 i6 d9 hm hE b6 h0 f3 l6;go_enter func37,ntmps37
 go_upto_region 4 with(go_at_call 71;apply CR.o.mono;rintro e l⟨p,rfl,f0,hM⟩;obtain⟨b,ov,nv,vs,rfl,hM,hB⟩:=hM rfl;obtain⟨gg,a9,hE,b5⟩:=f9.o l b ov nv vs hM hB;have⟨j0,HE⟩:=D5 f0 hE;clear hM hB f0 hE)
 obtain⟨⟨v1,v2⟩,⟨na,nc,l7⟩,⟨ka,kc,a0⟩,b9,cH,cO⟩:=Kv HE.o I.o;simp only at l7 a0;subst l7;subst a0;have f5:=HE.o.at.slice;have k8:=HE.o.rd.len;have kB:=U.vX HE.o.rd.ev I.o Z.jF;rw[HK.o]at kB;obtain⟨a1,a2,a3,a4⟩:=b9 l E9;simp only at a1 a2 a3 a4;unfold Xz at cH;simp only at cH;have e9:=λW h=>cH W Z.jF h;simp only[HK.o]at e9;unfold Z.jF at e9;obtain⟨nl,h7⟩:=Nm m.nodes.length;rw[h7]at f5 l0 kB k8;have o5:=G7 h7;have i0:(0:Int)<=(ri:Int):=qd _;have i1:(ri:Int)<(nl:Int):=by omega
 have g5:=G7 e9;obtain⟨rn,h8⟩:=Nm T.length;rw[h8]at a3 g5;have h6:=HD.o;rw[h8]at h6;have a8:=G7 h6;clear cH cO e9 b9 h6 HD h7 h8;have bA:BQ l (l.alloc (L8 #[R9 i,S9 A,TL na rn nc,TL ka z.length kc] 165)).drew:=(nbl _ _).drew;have nA:=zA l (L8 #[R9 i,S9 A,TL na rn nc,TL ka z.length kc] 165);have s1:=λO:Obj=>zi (nbl l O) f5;have b0:=λO:Obj=>zi (nbl l O) b5;have b1:=λO:Obj=>zi (nbl l O) a1;have b2:=λO:Obj=>zi (nbl l O) a2;have b3:=λO:Obj=>zi (nbl l O) a3;have b4:=λO:Obj=>zi (nbl l O) a4;go_region
 go_upto_region 6 with(go_at_call 72;apply(g5.o _ bA).mono;rintro e B⟨rfl,h5⟩)
 have e8:BQ l B:=bA.trans (h5.mono (by show l.heap.size<=(l.alloc _).heap.size;simp));have n3:B.heap[l.heap.size]?=some (L8 #[R9 i,S9 A,TL na rn nc,TL ka z.length kc] 165 (0,0)):=(h5.block _ (by show l.heap.size<(l.alloc _).heap.size;simp)).trans nA;have q0:B.cell? (G8 l.heap.size 0)=some (R9 i):=(zg n3 0).1;have q2:B.cell? (G8 l.heap.size 2)=some (TL na rn nc):=(zg n3 2).1;have r4:=zi e8 f5;have g2:BQ w B:=j0.o.trans (e8.mono j0.o.size);have⟨V,F⟩:=D5 e8 g2;have o:=a8.o;clear s1 b0 b1 b2 b3 b4 a1 a2 a3 a4 f5 b5 bA nA h5 g5 e8 g2 i0 i1 CR f9 I HK
 by_cases c1:i≠1
 ·rw[zb (.inl c1)]at o;have d1:(i != 1)=true:=by simp[c1]
  subst o;clear a8;go_wp2;go_ret3;exact⟨_,rfl,F.o,λe=>by simp at e⟩
 rw[Ne,aG]at c1;subst c1
 by_cases c2:rn≠1
 ·rw[zb (.inr (.inl c2))]at o;have d2:((rn:Int) != 1)=true:=by simp;omega
  subst o;clear a8;go_wp2;go_ret3;exact⟨_,rfl,F.o,λe=>by simp at e⟩
 rw[Ne,aG]at c2;subst c2
 by_cases c3:K<0
 ·rw[zb (.inr (.inr c3))]at o;have d3:decide (K<0)=true:=zB c3;subst o;clear a8;go_wp2;go_ret3;exact⟨_,rfl,F.o,λe=>by simp at e⟩
 rw[za (by simp;omega)]at o;have d3:decide (K<0)=false:=zI c3;obtain⟨kj,rfl⟩:∃k:Nat,K=(k:Int):=⟨K.toNat,by omega⟩;have p6:kj<m.nodes.length:=by have:=kB.2;rw[o5.o];omega
 have X:=zn p6;obtain⟨nd,k9⟩:=Nm (m.nodes[kj]);rw[k9]at X;have f4:=j6.o;simp only[yE,X]at o f4;obtain⟨v,a1,a2,a3,a4,a5,a6⟩:=HE.o.rd.node kj _ X;obtain⟨v1,v2⟩:=v;obtain⟨g3,R,ss,ks⟩:=nd;simp only at a1 a2 a3 a4 a5 a6 o f4;obtain⟨f7,f8,a0,cK⟩:=jU a6;obtain⟨h9,i2,rfl,_⟩:=jU a5;obtain⟨Q,f2⟩:=Nm ks.length;rw[f2]at a0 cK o;rw[a0]at a4;replace a1:=zi V.o a1;replace a2:=zi V.o a2;replace a3:=zi V.o a3;replace a4:=zi V.o a4;have l4:=(HE.o.rd.small kj _ X).1;simp only at l4;rw[f2]at l4;have⟨CK,HN,g9,G,j7⟩:=M6 cK X f2 o f4;have k0:(0:Int)<=(kj:Int):=qd _;have k1:(kj:Int)<(nl:Int):=kB.2;clear a5 a6 cK a0 k9 X o f4 a8 j6 f2 kB c3;have z3:w.heap.size<=B.heap.size:=F.o.size
 by_cases e1:g3≠2
 ·have o:=G.o;rw[zb (.inl e1)]at o;have d4:(g3 != 2)=true:=by simp[e1]
  subst o;clear G;go_wp2;go_ret3;exact⟨_,rfl,F.o.alloc z3 _,λe=>by simp at e⟩
 rw[Ne,aG]at e1;subst e1
 by_cases e2:Q<1
 ·have o:=G.o;rw[zb (.inr (.inl e2))]at o;have d4:decide ((Q:Int)<1)=true:=by simp;omega
  subst o;clear G;go_wp2;go_ret3;exact⟨_,rfl,F.o.alloc z3 _,λe=>by simp at e⟩
 have d4:decide ((Q:Int)<1)=false:=by simp;omega
 by_cases e3:10<Q
 ·have o:=G.o;rw[zb (.inr (.inr e3))]at o;have d5:decide (10<(Q:Int))=true:=by simp;omega
  subst o;clear G;go_wp2;go_ret3;exact⟨_,rfl,F.o.alloc z3 _,λe=>by simp at e⟩
 have d5:decide (10<(Q:Int))=false:=by simp;omega
 have o:=G.o;rw[N8]at o;have j2:=G7 o;clear o G;obtain⟨i0,hi,q3,q4,q5⟩:=qU Tryz.infoRStmt;have d8:=zA B (L8 #[R9 2,S9 R,TL h9 ss.length i2,TL f7 Q f8] 165);have j3:=G7 d8;clear d8;go_wp2_with fail
 go_loopw [11,12] (λlv jv wr=>∃(j:Nat),j<=Q/\jv=R9 j/\jh wr (B.heap.size+1) lv (Z.Zk m.nodes (ks.take j))/\D=Z.Qo (Z.Zk m.nodes (ks.drop j)) j /\
   Below (B.heap.size+1) (B.alloc (L8 #[R9 2,S9 R,TL h9 ss.length i2,TL f7 Q f8] 165)) wr) (λ_ jv _=>Q-(intOf jv).toNat)
 case atStart=>exact⟨0,by omega,rfl,jh.nil _ _,by rw[<- j2.o];rfl,zf _ _⟩
 case round=>
  obtain⟨j,hj,rfl,k5,hD,f1⟩:=hrel;have⟨e4,g8,j1⟩:=M4 k5 hD f1;have nr:wr.heap[B.heap.size]?=some (L8 #[R9 2,S9 R,TL h9 ss.length i2,TL f7 Q f8] 165 (0,0)):=(f1.block _ (by omega)).trans j3.o;have c3:wr.cell? (G8 B.heap.size 3)=some (TL f7 Q f8):=(zg nr 3).1;have p7:B.heap.size+1<=wr.heap.size:=zt nr;have h3:BQ B wr:=(nbl B _).trans (f1.mono (by omega));have h2:BQ l wr:=V.o.trans (h3.mono V.o.size);have j8:BQ w wr:=F.o.trans (h3.mono z3);have n:=G7 j8;clear k5 hD f1 a1 a2 a3 a4 r4 q0 q2 j2 j3 nr
  by_cases hlt:j<Q
  ·obtain⟨g,rfl,q1⟩:=CK.o j hlt;have l1:j<ks.length:=by rw[g9.o];exact hlt
   rw[yK,U.KI ks j l1]at q1;have c0:=HE.o.rd.kid HN.o j l1;simp only at c0;have hx:=zn c0;obtain⟨x,l8⟩:=Nm (m.nodes[ks[j]]);rw[l8]at hx;obtain⟨f6,l5⟩:=zeE m.nodes ks j l1 x hx;have q2:=zi h2 q1;have cc:=zd4 ks[j] l w.heap.size b gg a9 m.nodes x wr ⟨HE.o.rd,HE.o.non,h2⟩ hx;have b8:=g8.o;rw[l5,PZ]at b8;obtain⟨kid,k7⟩:=Nm (ks[j]);rw[k7]at q2 cc;obtain⟨C,hC⟩:=Nm (Z.Z8 m.nodes x);rw[hC]at cc b8 f6;obtain⟨done,L⟩:=Nm (Z.Zk m.nodes (ks.take j));have p5:done.length=j:=by rw[<- L];unfold Z.Zk;rw[qf,jg,g9.o];omega
   rw[L]at e4 f6;have o6:=G7 f6;obtain⟨eff,⟨N1,L1⟩,⟨N2,L2⟩,⟨N3,L3⟩,cs,p2,p1⟩:=C;simp only at b8;have⟨g6,CC⟩:=D5 b8 cc;clear q1 hx l8 c0 hC L k7 cc f6 l5 b8 g8 h2 h3 j8
   cases p2 with
   | true=>
    have H:=g6.o;rw[zb rfl]at H;subst H;go_wp2_with(go_at_call 73;apply CC.o.mono;rintro e w2⟨l1,l2,l3,lc,rfl,t,f⟩;obtain⟨c5,c9,rfl⟩:=jb f.1;obtain⟨c6,d0,rfl⟩:=jb f.2.1;obtain⟨c7,d6,rfl⟩:=jb f.2.2.1;obtain⟨c8,d7,rfl⟩:=f.2.2.2.slice;have q:=G7 t;clear f t);go_ret3;exact⟨_,by go_num,((n.o.trans (q.o.mono n.o.size)).alloc (xD n.o.size q.o.size) _).alloc (by simp;have:=n.o.size;have:=q.o.size;omega) _,λe=>by simp at e⟩
   | false=>
    have M:=g6.o;rw[za (by simp)]at M;have g7:=G7 M;clear M g6
    cases p1 with
    | true=>
     have H:=g7.o;rw[zb rfl]at H;subst H;go_wp2_with(go_at_call 73;apply CC.o.mono;rintro e w2⟨l1,l2,l3,lc,rfl,t,f⟩;obtain⟨c5,c9,rfl⟩:=jb f.1;obtain⟨c6,d0,rfl⟩:=jb f.2.1;obtain⟨c7,d6,rfl⟩:=jb f.2.2.1;obtain⟨c8,d7,rfl⟩:=f.2.2.2.slice;have q:=G7 t;clear f t);go_ret3;exact⟨_,by go_num,((n.o.trans (q.o.mono n.o.size)).alloc (xD n.o.size q.o.size) _).alloc (by simp;have:=n.o.size;have:=q.o.size;omega) _,λe=>by simp at e⟩
    | false=>
     have P:=g7.o;rw[za (by simp)]at P;have h1:=G7 P;clear P g7
     go_wp2_with(first
      |(go_at_call 73;apply CC.o.mono;rintro e w2⟨l1,l2,l3,lc,rfl,t,f⟩;obtain⟨c5,c9,rfl⟩:=jb f.1;obtain⟨c6,d0,rfl⟩:=jb f.2.1;obtain⟨c7,d6,rfl⟩:=jb f.2.2.1;obtain⟨c8,d7,rfl⟩:=f.2.2.2.slice;obtain⟨xs,ro,rc,r3⟩:=zeH (L8 #[S9 eff,.bool N1,TL c5 L1.length c9,.bool N2,TL c6 L2.length d0,.bool N3,TL c7 L3.length d6,TL c8 cs.length d7] 173) (L8 #[T9,T9] 175) (L8 #[S9 eff,.bool N1,TL c5 L1.length c9,.bool N2,TL c6 L2.length d0,.bool N3,TL c7 L3.length d6,TL c8 cs.length d7] 173) e4.o p7 t f;have⟨q,RO,RC,R3⟩:=M5 t ro rc r3;have s5:=t.size;clear f t ro rc r3)
      | (at_builtin;refine yh _ rfl _ _ 88 rfl (B.heap.size+1) 173 i0 (.agg #[R5,T9,R4,T9,R4,T9,R4,R4]) 8 136 underlying88 hi q3 q4 q5 rfl (by decide) _ done.length xs rfl RO.o (G8 (w2.heap.size+1+1) 0) 1 1 [S9 eff,.bool N1,TL c5 L1.length c9,.bool N2,TL c6 L2.length d0,.bool N3,TL c7 L3.length d6,TL c8 cs.length d7] rfl rfl ?_ ?_ ?_ ?_ ?_ ?_))
     ·exact zeq _ _ _ _ _ _ _ _ _ _ _ _
     ·intro u hu;simp at hu;rcases hu with rfl|rfl|rfl|rfl|rfl|rfl|rfl|rfl<;>rfl
     ·unfold maxLen;omega
     ·omega
     ·simp;omega
     intro v' w4 c4 N _;have j4:=G7 (jh.snoc RO.o RC.o ⟨eff,(N1,L1),(N2,L2),(N3,L3),cs,false,false⟩ R3.o N (by rw[p5];exact c4));have j5:G6 (jh w4 (B.heap.size+1) v' (Z.Zk m.nodes (ks.take (j+1)))):=by rw[o6.o];exact j4
     have o3:=G7 (j1.o.trans (((((q.o.mono (by omega)).alloc (by omega) _).alloc (by simp;omega) _).alloc (by simp;omega) _).grown N (by simp;omega) (λk hk=>(RO.o.lt k hk).1)));clear c4 N j4 RO RC R3 e4 q j1;go_wp2;go_roundw
     case rel=>exact⟨j+1,by omega,by go_num,j5.o,h1.o,o3.o⟩
     case measure=>simp[intOf];omega
  have k6:j=ks.length:=by rw[g9.o];omega
  have k3:=g8.o;rw[k6,JP]at k3;have s:RS=Z.Zk m.nodes (ks.take j):=by rw[k6,UU];exact j7.o.symm
  have p3:D=(0,0):=k3;subst s;subst p3;go_wp2;go_ret3;exact⟨_,rfl,n.o,λ_=>e4.o.mono (by omega)⟩
end Go.Proofs.YtfjpcldndaiifaaGreatDoor
