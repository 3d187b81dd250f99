/- P -/
import Derived.Test.YtdakgnaojakldaaGreatDoorP36
open Go.Proofs.Tryz
set_option maxRecDepth 100000
set_option maxHeartbeats 4000000
namespace Go.Proofs.YtdakgnaojakldaaGreatDoor
open Go.RowKit
theorem yh.slice{w:World}{base:Nat}{lv:Value}{cs:List Ref.qD}(h:yh w base lv cs):∃a c,lv = .slice a cs.length c:=by
 obtain⟨xs,h,_⟩:=h
 rcases h.2 with ⟨rfl,h0⟩|⟨g,c,cur,rfl,_⟩
 ·exact⟨_,_,by rw[h0]⟩
 ·exact⟨_,_,rfl⟩
structure Kp (B:Nat) (wx wy:World):Prop where
 size:wx.heap.size<=wy.heap.size
 keep:∀i,B<=i->i<wx.heap.size->wy.heap[i]?=wx.heap[i]?
theorem Kp.trans{B:Nat}{a b c:World}(h:Kp B a b)(k:Kp B b c):Kp B a c:=⟨xu h.size k.size,λi hi d=>(k.keep i hi (xS d h.size)).trans (h.keep i hi d)⟩
theorem Kp.below{B:Nat}{a b:World}(h:Below a.heap.size a b):Kp B a b:=⟨h.size,λi _ c=>h.block i c⟩
theorem Kp.grown{B c:Nat}{a b:World}(h:a.grownBy b (some c))(e:c<B):Kp B a b:=⟨h.size,λi hi d=>h.block i d (by simp;omega)⟩
theorem Kp.set{B b:Nat}(a:World)(o:Nat)(u:Value)(hb:b<B):Kp B a (a.setCell ⟨b,o,none⟩ u):=⟨by simp[World.setCell],λi hi _=>qd _ _ _ _ (by simp only;omega)⟩
theorem LP(s:BY):((s.toList==[97,108,108,111,119])=true/\Rd.ym s=true)\/((s.toList==[97,108,108,111,119])=false/\(s.toList==[100,101,110,121])=true/\Rd.ym s=true)\/((s.toList==[97,108,108,111,119])=false/\(s.toList==[100,101,110,121])=false/\Rd.ym s=false):=by
 unfold Rd.ym
 cases (s.toList==[97,108,108,111,119])<;>cases (s.toList==[100,101,110,121])<;>simp
def DD(W:World)(a:Nat)(sh pt N S P:Bool)(L:List BY)(e:Ending)(w':World):Prop:=
 ∃lv,e = .returned (.agg #[.bool N,lv])/\W.grownBy w' (some a)/\qf w' a (sh || !S) (pt || !P)/\w'.ownsRow W.heap.size 9 1 lv L.length (Ref.strCells L)
theorem zbz(i:Nat)(w0:World)(base b gg cap:Nat)(m:List Ref.Node)(n:Ref.Node)(w:World)(z:jT w0 base b gg cap m w)(hi:m[i]?=some n)
  (l:¬(Ref.yR n [Rd.zK,Rd.zR,Rd.bDo,Rd.bOn,Rd.bIf]=false\/Ref.zn n Rd.zK<0\/Ref.kindOf m (Ref.zn n Rd.zK)≠3)) :
  Calls prog 61 #[.pointer (some ⟨b,0,none⟩),.int .i64 (i:Int)] w (V5 w (Rd.ZF m n)):=by
 have q9:w0.heap.size<=w.heap.size+4:=by have:=z.bel.size;omega
 obtain⟨⟨v1,v2⟩,⟨na,nc,l5⟩,⟨ka,kc,l6⟩,Y,cH,cO⟩:=Uu z hi;simp only at l5 l6;subst l5;subst l6;have r0:i<m.length:=(zW.1 hi).1;have h7:=z.at.slice;have hlen:=z.rd.len;have eB:=Ref.vL z.rd.ev hi Rd.zK;have wB:=Ref.vL z.rd.ev hi Rd.zR;have dB:=Ref.vL z.rd.ev hi Rd.bDo;have oB:=Ref.vL z.rd.ev hi Rd.bOn;have fB:=Ref.vL z.rd.ev hi Rd.bIf;obtain⟨a1,a2,a3,a4⟩:=Y w z.bel;simp only at a3 a4;unfold QX at cH cO;simp only at cH cO;obtain⟨kind,D⟩:∃k,n.kind=k:=⟨_,rfl⟩;obtain⟨text,E⟩:∃k,n.text=k:=⟨_,rfl⟩;obtain⟨nn,h6⟩:∃k,n.names.length=k:=⟨_,rfl⟩;obtain⟨nk,h4⟩:∃k,n.kids.length=k:=⟨_,rfl⟩;rw[D] at a1;rw[E] at a2;rw[h6] at a3;rw[h4] at a4;simp only[D,E,h6,h4] at cH cO;have ST:=xU.start w #[.int .i64 kind,.string text,.slice na nn nc,.slice ka nk kc];have Q:∀wx sc sh pt,xU w #[.int .i64 kind,.string text,.slice na nn nc,.slice ka nk kc] sc sh pt wx->Below w0.heap.size w0 wx:=λwx _ _ _ h=>z.bel.trans (h.g.mono z.bel.size);obtain⟨EF,T⟩:∃x,Ref.zn n Rd.zK=x:=⟨_,rfl⟩;obtain⟨WH,b9⟩:∃x,Ref.zn n Rd.zR=x:=⟨_,rfl⟩;obtain⟨DO,b6⟩:∃x,Ref.zn n Rd.bDo=x:=⟨_,rfl⟩;obtain⟨OO,b8⟩:∃x,Ref.zn n Rd.bOn=x:=⟨_,rfl⟩;obtain⟨IF,b7⟩:∃x,Ref.zn n Rd.bIf=x:=⟨_,rfl⟩
 have l0:Ref.yR n [Rd.zK,Rd.zR,Rd.bDo,Rd.bOn,Rd.bIf]=true:=by
  cases e:Ref.yR n [Rd.zK,Rd.zR,Rd.bDo,Rd.bOn,Rd.bIf] with
  | true=>rfl
  | false=>exact absurd (.inl e) l
 have hR:Rd.ZF m n=Rd.Ye (Ref.textOf m EF) (Ref.yY m WH) (Ref.yY m DO) (Ref.yY m OO) (Ref.Xm m IF):=by
  unfold Rd.ZF;rw[za l,T,b9,b6,b8,b7]
 rw[hR];rw[T] at l
 have e0:0<=EF:=by
  by_cases h:EF<0
  ·exact absurd (.inr (.inl h)) l
  ·omega
 have M:Ref.kindOf m EF=3:=by
  by_cases h:Ref.kindOf m EF=3
  ·exact h
  ·exact absurd (.inr (.inr h)) l
 have a7:=λW h=>cH W Rd.zK h;have a8:=λW h=>cH W Rd.zR h;have a9:=λW h=>cH W Rd.bDo h;have b0:=λW h=>cH W Rd.bOn h;have b5:=λW h=>cH W Rd.bIf h;simp only[T] at a7;simp only[b9] at a8;simp only[b6] at a9;simp only[b8] at b0;simp only[b7] at b5;unfold Rd.zK at a7;unfold Rd.zR at a8;unfold Rd.bDo at a9;unfold Rd.bOn at b0;unfold Rd.bIf at b5;rw[T] at eB;rw[b9] at wB;rw[b6] at dB;rw[b8] at oB;rw[b7] at fB
 have cc:∀(k:Int) (W:World) (sh pt:Bool),k<m.length -> -1<=k->Below w0.heap.size w0 W->qf W (w.heap.size+4) sh pt->Calls prog 111 #[.pointer (some ⟨b,0,none⟩),.int .i64 k,.pointer (some ⟨w.heap.size+4,0,none⟩)] W (DD W (w.heap.size+4) sh pt (Ref.yY m k).1 (Ref.yY m k).2.isSome (((Ref.yY m k).2.getD []).all Ref.qi) ((Ref.yY m k).2.getD [])):=
  λk W sh pt h1 h2 hb hf=>Gv k base b gg cap m (w.heap.size+4) sh pt W (z.rd.below hb) h1 h2 hf
 have I:=λW sh pt hb hf=>cc WH W sh pt wB.2 wB.1 hb hf;have J:=λW sh pt hb hf=>cc DO W sh pt dB.2 dB.1 hb hf;have K:=λW sh pt hb hf=>cc OO W sh pt oB.2 oB.1 hb hf
 have d3:∀W sh pt,Below w0.heap.size w0 W->qf W (w.heap.size+4) sh pt->Calls prog 112 #[.pointer (some ⟨b,0,none⟩),.int .i64 IF,.pointer (some ⟨w.heap.size+4,0,none⟩)] W (lM W (w.heap.size+4) sh pt (Ref.Xm m IF)):=
  λW sh pt hb hf=>Hg IF w0 base b gg cap m (w.heap.size+4) sh pt W ⟨z.rd,z.non,hb⟩ fB.2 fB.1 q9 hf
 unfold Rd.Ye Rd.chD Rd.chP;obtain⟨u,f3⟩:∃x,Ref.Xm m IF=x:=⟨_,rfl⟩;rw[f3];simp only[f3] at d3;obtain⟨A1,d8⟩:∃x,Ref.yY m WH=x:=⟨_,rfl⟩;obtain⟨A2,d9⟩:∃x,Ref.yY m DO=x:=⟨_,rfl⟩;obtain⟨A3,f2⟩:∃x,Ref.yY m OO=x:=⟨_,rfl⟩;rw[d8,d9,f2];simp only[d8] at I;simp only[d9] at J;simp only[f2] at K;obtain⟨B,M1⟩:=A1;obtain⟨F,M2⟩:=A2;obtain⟨L,M3⟩:=A3;simp only at I J K |-;obtain⟨A,f4⟩:∃x,M1.getD []=x:=⟨_,rfl⟩;obtain⟨C,f5⟩:∃x,M2.getD []=x:=⟨_,rfl⟩;obtain⟨H,f7⟩:∃x,M3.getD []=x:=⟨_,rfl⟩;obtain⟨S1,g3⟩:∃x,M1.isSome=x:=⟨_,rfl⟩;obtain⟨S2,g4⟩:∃x,M2.isSome=x:=⟨_,rfl⟩;obtain⟨S3,g5⟩:∃x,M3.isSome=x:=⟨_,rfl⟩;rw[f4,f5,f7,g3,g4,g5];simp only[f4,g3] at I;simp only[f5,g4] at J;simp only[f7,g5] at K;obtain⟨P1,f9⟩:∃x,A.all Ref.qi=x:=⟨_,rfl⟩;obtain⟨P2,g0⟩:∃x,C.all Ref.qi=x:=⟨_,rfl⟩;obtain⟨P3,g1⟩:∃x,H.all Ref.qi=x:=⟨_,rfl⟩;rw[f9,g0,g1];simp only[f9] at I;simp only[g0] at J;simp only[g1] at K;have a5:=ST.below (nbl _ (.cells #[.string Rd.zK,.string Rd.zR,.string Rd.bDo,.string Rd.bOn,.string Rd.bIf] 9));have R:=cO _ [Rd.zK,Rd.zR,Rd.bDo,Rd.bOn,Rd.bIf] _ 0 (Q _ _ _ _ a5) (wU (zB _ _) (zH _)) (by simp);rw[l0] at R;simp only[vW] at R;unfold Rd.zK Rd.zR Rd.bDo Rd.bOn Rd.bIf at R a5;obtain⟨je,r8,c1⟩:=Jy z EF e0 eB.2;subst r8;rw[M] at c1;obtain⟨a,U⟩:∃x,Ref.textOf m (je:Int)=x:=⟨_,rfl⟩;rw[U];rw[U] at c1;obtain⟨nl,h5⟩:=Nm m.length;rw[h5] at h7 r0 hlen eB;have p0:=hid h5;have HE:=hid z;have c:=hid Q;have j5:=hid I;have j6:=hid J;have j7:=hid K;have j8:=hid d3;have j9:=hid c1;have i0:(0:Int)<=(i:Int):=qz _;have i1:(i:Int)<(nl:Int):=by omega
 have E9:(0:Int)<=(je:Int):=qz _;have F0:(je:Int)<(nl:Int):=eB.2;have d1:decide ((je:Int)<0)=false:=zJ (by omega);clear z cH Y T b9 b6 b8 b7 l0 D E h6 h4 Q cO h5 ST hR l e0 M cc I J K d3 f3 d8 d9 f2 f4 f5 f7 g3 g4 g5 f9 g0 g1 c1 U eB wB dB oB fB;have s1:=λO P:Obj=>zh ((nbl w O).alloc (by simp) P) h7;have b1:=λO P:Obj=>zh ((nbl w O).alloc (by simp) P) a1;have b2:=λO P:Obj=>zh ((nbl w O).alloc (by simp) P) a2;have b3:=λO P:Obj=>zh ((nbl w O).alloc (by simp) P) a3;have b4:=λO P:Obj=>zh ((nbl w O).alloc (by simp) P) a4;go_enter func61,ntmps61
 go_upto_region 6 with (first
  | (go_at_call 60;refine (a7 w1 (c.out w1 _ _ _ C1)).mono ?_;rintro e w2 ⟨rfl,l3⟩;have C2:=C1.below l3)
  | (go_at_call 110;refine R.mono ?_;rintro e w1 ⟨rfl,l2⟩;have C1:=a5.below (by simp only[vW];exact l2);obtain⟨⟨i2,i3,i4,i5⟩,_,_,_⟩:=C1.cells))
 have d2:=c.out w2 _ _ _ C2
 have x6:w2.cell? ⟨b,2,none⟩=some (.slice (some ⟨gg,0,none⟩) nl cap):=by
  have:=(HE.out.rd.below d2).slice
  rwa [p0.out] at this
 obtain⟨m1,m2⟩:=j9.out w2 d2;clear i2 i3 i4 i5 s1 b1 b2 b3 b4 a1 a2 a3 a4 h7 i0 i1 l2 l3 C1 a5 a7 R;obtain⟨_,⟨c0,_⟩,fz,⟨h0,h1,h2⟩⟩:=C2.cells;have q5:=fz 0;have C3:=C2.put 0 (.string a) #[.string a,.bool false,.slice none 0 0,.bool false,.slice none 0 0,.bool false,.slice none 0 0,.slice none 0 0] rfl;obtain⟨_,⟨x0,_⟩,_,⟨y0,y1,y2⟩⟩:=C3.cells;clear fz
 have k7:∃SH:Bool,(!Rd.ym a)=SH/\(((a.toList==[97,108,108,111,119])=true/\(a.toList != [97,108,108,111,119])=false/\SH=false)\/((a.toList==[97,108,108,111,119])=false/\(a.toList != [97,108,108,111,119])=true/\(a.toList==[100,101,110,121])=true/\(a.toList != [100,101,110,121])=false/\SH=false)\/((a.toList==[97,108,108,111,119])=false/\(a.toList != [97,108,108,111,119])=true/\(a.toList==[100,101,110,121])=false/\(a.toList != [100,101,110,121])=true/\SH=true)):=by
  refine⟨_,rfl,?_⟩;unfold bne
  rcases LP a with ⟨q1,q2⟩|⟨q1,q2,q3⟩|⟨q1,q2,q3⟩
  ·exact .inl ⟨q1,by rw[q1];rfl,by rw[q2];rfl⟩
  ·exact .inr (.inl ⟨q1,by rw[q1];rfl,q2,by rw[q2];rfl,by rw[q3];rfl⟩)
  ·exact .inr (.inr ⟨q1,by rw[q1];rfl,q2,by rw[q2];rfl,by rw[q3];rfl⟩)
 obtain⟨SH,l1,ways⟩:=k7;have k5:=hid l1;have C4:=hid (C3.shape SH)
 go_upto_region 10 with fail
 obtain⟨w3,l8⟩:∃x,w2.setCell ⟨w.heap.size+3,0,none⟩ (.string a)=x:=⟨_,rfl⟩;rw[l8] at C4 x0 y0 y1 y2 |-;clear C3 C2 l1 l8 x6 m1 m2 c0 h0 h1 h2 q5 d2 j9
 go_cut [] (λwx=>xU w #[.int .i64 kind,.string text,.slice na nn nc,.slice ka nk kc] #[.string a,.bool false,.slice none 0 0,.bool false,.slice none 0 0,.bool false,.slice none 0 0,.slice none 0 0] SH false wx)
 case first=>
  rcases ways with ⟨q1,q2,rfl⟩|⟨q1,q2,q3,q4,rfl⟩|⟨q1,q2,q3,q4,rfl⟩
  all_goals
   go_wp2_with fail
   go_meet
   case rel=>exact C4.out
 case rest=>
  have C4:=hcut;obtain⟨⟨i2,i3,i4,i5⟩,_,_,_⟩:=C4.cells
  go_upto_region 15 with (first
   | (go_at_call 112;refine (j8.out c4 _ _ (c.out c4 _ _ _ N) N.f).mono ?_;rintro e Z ⟨F1,rfl,d7,f12,h9⟩;obtain⟨q,r,rfl⟩:=h9.slice;have c7:=N.grown d7 f12;obtain⟨_,⟨_,_,_,_,_,_,_,r7⟩,c6,_⟩:=c7.cells;have z7:=c6 7;clear c6)
   | (go_at_call 60;refine (b5 _ (c.out _ _ _ _ a0)).mono ?_;rintro e c4 ⟨rfl,X⟩;have N:=a0.below X)
   | (go_at_call 111;refine (j7.out w9 _ _ (c.out w9 _ _ _ C9) C9.f).mono ?_;rintro e i6 ⟨F4,rfl,d6,f10,h8⟩;obtain⟨s,t,rfl⟩:=jR h8;have c9:=C9.grown d6 f10;obtain⟨_,⟨_,_,_,_,_,r5,r6,_⟩,S,_⟩:=c9.cells;have z5:=S 5;have z6:=S 6;clear S;have a0:=(c9.put 5 (.bool L) #[.string a,.bool B,.slice d A.length j,.bool F,.slice o C.length p,.bool L,.slice none 0 0,.slice none 0 0] rfl).put 6 (.slice s H.length t) #[.string a,.bool B,.slice d A.length j,.bool F,.slice o C.length p,.bool L,.slice s H.length t,.slice none 0 0] rfl;obtain⟨⟨x2,x3,x4,x5⟩,_,_,_⟩:=a0.cells)
   | (go_at_call 60;refine (b0 _ (c.out _ _ _ _ C8)).mono ?_;rintro e w9 ⟨rfl,h3⟩;have C9:=C8.below h3)
   | (go_at_call 111;refine (j6.out w7 _ _ (c.out w7 _ _ _ C7) C7.f).mono ?_;rintro e w8 ⟨F3,rfl,g8,f8,o8⟩;obtain⟨o,p,rfl⟩:=jR o8;have D8:=C7.grown g8 f8;obtain⟨_,⟨_,_,_,r3,r4,_⟩,d5,_⟩:=D8.cells;have z3:=d5 3;have z4:=d5 4;clear d5;have C8:=(D8.put 3 (.bool F) #[.string a,.bool B,.slice d A.length j,.bool F,.slice none 0 0,.bool false,.slice none 0 0,.slice none 0 0] rfl).put 4 (.slice o C.length p) #[.string a,.bool B,.slice d A.length j,.bool F,.slice o C.length p,.bool false,.slice none 0 0,.slice none 0 0] rfl;obtain⟨⟨v8,v9,w4,x1⟩,_,_,_⟩:=C8.cells)
   | (go_at_call 60;refine (a9 _ (c.out _ _ _ _ C6)).mono ?_;rintro e w7 ⟨rfl,g9⟩;have C7:=C6.below g9)
   | (go_at_call 111;refine (j5.out w5 _ _ (c.out w5 _ _ _ C5) C5.f).mono ?_;rintro e w6 ⟨F2,rfl,g6,f6,o6⟩;obtain⟨d,j,rfl⟩:=jR o6;have D6:=C5.grown g6 f6;obtain⟨_,⟨_,r1,r2,_⟩,d4,_⟩:=D6.cells;have z1:=d4 1;have z2:=d4 2;clear d4;have C6:=(D6.put 1 (.bool B) #[.string a,.bool B,.slice none 0 0,.bool false,.slice none 0 0,.bool false,.slice none 0 0,.slice none 0 0] rfl).put 2 (.slice d A.length j) #[.string a,.bool B,.slice d A.length j,.bool false,.slice none 0 0,.bool false,.slice none 0 0,.slice none 0 0] rfl;obtain⟨⟨v4,v5,v6,v7⟩,_,_,_⟩:=C6.cells)
   | (go_at_call 60;refine (a8 wc (c.out wc _ _ _ C4)).mono ?_;rintro e w5 ⟨rfl,l4⟩;have C5:=C4.below l4))
  have r9:=C5.size;have s0:=C7.size;have s2:=C9.size;have l9:=N.size;have kA:Kp (w.heap.size+5) w6 w7:=((Kp.set w6 1 _ (by omega)).trans (Kp.set _ 2 _ (by omega))).trans (Kp.below g9);have kB:Kp (w.heap.size+5) w7 w8:=Kp.grown g8 (by omega);have kC:Kp (w.heap.size+5) w8 w9:=((Kp.set w8 3 _ (by omega)).trans (Kp.set _ 4 _ (by omega))).trans (Kp.below h3);have kD:Kp (w.heap.size+5) w9 i6:=Kp.grown d6 (by omega);have kE:Kp (w.heap.size+5) i6 c4:=((Kp.set i6 5 _ (by omega)).trans (Kp.set _ 6 _ (by omega))).trans (Kp.below X);have kF:Kp (w.heap.size+5) c4 Z:=Kp.grown d7 (by omega);have kG:Kp (w.heap.size+5) Z (Z.setCell ⟨w.heap.size+3,7,none⟩ (.slice q u.cs.length r)):=Kp.set Z 7 _ (by omega);have G:=c7.put 7 (.slice q u.cs.length r) #[.string a,.bool B,.slice d A.length j,.bool F,.slice o C.length p,.bool L,.slice s H.length t,.slice q u.cs.length r] rfl;obtain⟨c5,l7⟩:∃x,Z.setCell ⟨w.heap.size+3,7,none⟩ (.slice q u.cs.length r)=x:=⟨_,rfl⟩;rw[l7] at kG G |-
  have rows:kU c5 (w.heap.size+5) (.slice d A.length j) (.slice o C.length p) (.slice s H.length t) (.slice q u.cs.length r) ⟨a,(B,A),(F,C),(L,H),u.cs,!Rd.ym a || !S1 || !S2 || !S3||u.sh,!P1 || !P2 || !P3||u.pt⟩:=
   ⟨Q0 (xC o6 r9) (kA.trans (kB.trans (kC.trans (kD.trans (kE.trans (kF.trans kG)))))).keep,Q0 (xC o8 s0) (kC.trans (kD.trans (kE.trans (kF.trans kG)))).keep,Q0 (xC h8 s2) (kE.trans (kF.trans kG)).keep,(h9.mono l9).kept kG.keep⟩
  obtain⟨SF,g7⟩:∃x,(!Rd.ym a || !S1 || !S2 || !S3||u.sh)=x:=⟨_,rfl⟩;obtain⟨PF,g2⟩:∃x,(!P1 || !P2 || !P3||u.pt)=x:=⟨_,rfl⟩;have V:=g7;rw[k5.out] at V;rw[V,Xa,g2] at G
  have o9:Hid (∀W,Below w.heap.size w W->(∀i,w.heap.size+2<=i->W.heap[i]?=c5.heap[i]?)->V5 w ⟨a,(B,A),(F,C),(L,H),u.cs,!Rd.ym a || !S1 || !S2 || !S3||u.sh,!P1 || !P2 || !P3||u.pt⟩ (.returned (.tuple #[.agg #[.string a,.bool B,.slice d A.length j,.bool F,.slice o C.length p,.bool L,.slice s H.length t,.slice q u.cs.length r],.agg #[.bool SF,.bool PF]])) W.drew):=by
   refine hid (λW hb hk=>⟨_,_,_,_,?_,hb.drew,(rows.kept (w':=W.drew) (λi hi _=>hk i (by omega))).mono (by omega)⟩);simp only[g7,g2]
  obtain⟨_,⟨y0,y1,y2,y3,y4,y5,y6,y7⟩,_,⟨f0,f1,_⟩⟩:=G.cells;obtain⟨⟨t0,t1,t2,t3,t4,t5,t6,t7⟩,⟨u0,u1⟩,y,i7⟩:=G.res;have G7:=y 0;have G8:=y 1;have G9:=y 2;have H0:=y 3;have H1:=y 4;have H2:=y 5;have H3:=y 6;have H4:=y 7;have H6:=i7 0;have H7:=i7 1;have FA:=G.fin (.string a) (.bool B) (.slice d A.length j) (.bool F) (.slice o C.length p) (.bool L) (.slice s H.length t) (.slice q u.cs.length r) (.bool SF) (.bool PF);have k0:=hid FA;clear FA y i7 G kA kB kC kD kE kF kG l4 g6 f6 o6 g9 g8 f8 o8 h3 d6 f10 h8 X d7 f12 h9 C4 C5 C6 D6 C7 C8 D8 C9 a0 c9 N c7 a8 a9 b0 b5 j5 j6 j7 j8 i2 i3 i4 i5 v4 v5 v6 v7 v8 v9 w4 x1 x2 x3 x4 x5 r1 r2 r3 r4 r5 r6 r7 z1 z2 z3 z4 z5 z6 z7 rows g7 g2 V k5 hcut
  go_region
  go_wp2_with fail
  change bodyPost _ _ _ _ _ (set2 (uH c5 w.heap.size (.string a) (.bool B) (.slice d A.length j) (.bool F) (.slice o C.length p) (.bool L) (.slice s H.length t) (.slice q u.cs.length r)) (w.heap.size+1) (.bool SF) (.bool PF)).drew
  obtain⟨k1,k2,M,k4⟩:=k0.out;clear k0;generalize set2 (uH c5 w.heap.size (.string a) (.bool B) (.slice d A.length j) (.bool F) (.slice o C.length p) (.bool L) (.slice s H.length t) (.slice q u.cs.length r)) (w.heap.size+1) (.bool SF) (.bool PF)=wF at k1 k2 M k4 |-;have e0:wF.cell? ⟨w.heap.size,0,none⟩=some (.string a):=(zg M 0).1;have e1:wF.cell? ⟨w.heap.size,1,none⟩=some (.bool B):=(zg M 1).1;have e2:wF.cell? ⟨w.heap.size,2,none⟩=some (.slice d A.length j):=(zg M 2).1;have e3:wF.cell? ⟨w.heap.size,3,none⟩=some (.bool F):=(zg M 3).1;have e4:wF.cell? ⟨w.heap.size,4,none⟩=some (.slice o C.length p):=(zg M 4).1;have e5:wF.cell? ⟨w.heap.size,5,none⟩=some (.bool L):=(zg M 5).1;have e6:wF.cell? ⟨w.heap.size,6,none⟩=some (.slice s H.length t):=(zg M 6).1;have e7:wF.cell? ⟨w.heap.size,7,none⟩=some (.slice q u.cs.length r):=(zg M 7).1;have e8:wF.cell? ⟨w.heap.size+1,0,none⟩=some (.bool SF):=(zg k4 0).1;have e9:wF.cell? ⟨w.heap.size+1,1,none⟩=some (.bool PF):=(zg k4 1).1;exact zA (v := .tuple #[.agg #[.string a,.bool B,.slice d A.length j,.bool F,.slice o C.length p,.bool L,.slice s H.length t,.slice q u.cs.length r],.agg #[.bool SF,.bool PF]]) (by simp[results,results61,go_sem,e0,e1,e2,e3,e4,e5,e6,e7,e8,e9]) rfl (o9.out wF k1 k2)
theorem zbx(i:Nat)(d:World)(base b c cap:Nat)(a:List Ref.Node)(n:Ref.Node)(w:World)(f:jT d base b c cap a w)(hi:a[i]?=some n) :
  Calls prog 61 #[.pointer (some ⟨b,0,none⟩),.int .i64 (i:Int)] w (V5 w (Rd.ZF a n)):=by
 by_cases h:Ref.yR n [Rd.zK,Rd.zR,Rd.bDo,Rd.bOn,Rd.bIf]=false\/Ref.zn n Rd.zK<0\/Ref.kindOf a (Ref.zn n Rd.zK)≠3
 ·have e:Rd.ZF a n=Rd.vg:=by unfold Rd.ZF;rw[zb h]
  rw[e];exact zby i d base b c cap a n w f hi h
 ·exact zbz i d base b c cap a n w f hi h
def RSt(w:World)(base:Nat)(xs:List Value)(j:Nat)(R:Rd.qh):Prop:=
 ∃a b c d,xs[j*8]?=some (.string R.eff)/\xs[j*8+1]?=some (.bool R.who.1)/\xs[j*8+2]?=some a/\xs[j*8+3]?=some (.bool R.act.1)/\xs[j*8+4]?=some b/\xs[j*8+5]?=some (.bool R.on.1)/\xs[j*8+6]?=some c/\xs[j*8+7]?=some d/\kU w base a b c d R
def jh(w:World)(base:Nat)(lv:Value)(rs:List Rd.qh):Prop:=
 ∃xs,w.ownsRow base 160 8 lv rs.length xs/\∀j,(h:j<rs.length)->RSt w base xs j rs[j]
theorem jh.nil(w:World)(base:Nat):jh w base (.slice none 0 0) []:=⟨[],ql _ _ _ _,λj a=>by simp at a⟩
theorem jh.kept{w w':World}{base:Nat}{lv:Value}{rs:List Rd.qh}(h:jh w base lv rs)(a:∀i,base<=i->i<w.heap.size->w'.heap[i]?=w.heap[i]?):jh w' base lv rs:=by
 obtain⟨xs,n,o⟩:=h;refine⟨xs,Q0 n a,λj p=>?_⟩;obtain⟨q,r,s,t,b,c,d,f,g,k,l,m,e⟩:=o j p;exact⟨q,r,s,t,b,c,d,f,g,k,l,m,e.kept a⟩
theorem jh.mono{w:World}{base a:Nat}{lv:Value}{rs:List Rd.qh}(h:jh w base lv rs)(hb:a<=base):jh w a lv rs:=by
 obtain⟨xs,m,n⟩:=h;refine⟨xs,xC m hb,λj o=>?_⟩;obtain⟨p,q,r,s,b,c,d,f,g,i,k,l,e⟩:=n j o;exact⟨p,q,r,s,b,c,d,f,g,i,k,l,e.mono hb⟩
theorem yh.other{W g:World}{base c:Nat}{e:TypeId}{size n:Nat}{lv f:Value}{xs:List Value}{cs:List Ref.qD}(own:W.ownsRow base e size lv n xs)(h:yh W c f cs)(i:e≠244)(k:e≠9)(d:W.grownBy g lv.ownBlock):yh g c f cs:=by
 obtain⟨o,a,b⟩:=h;refine⟨o,Yk own a i d,λj m=>?_⟩;obtain⟨l,p,q,r,s,t⟩:=b j m;exact⟨l,p,q,r,s,Yk own t k d⟩
theorem kU.other{W g:World}{base a:Nat}{lv c d e f:Value}{n:Nat}{xs:List Value}{R:Rd.qh}(own:W.ownsRow base 160 8 lv n xs)(h:kU W a c d e f R)(b:W.grownBy g lv.ownBlock):kU g a c d e f R:=
 ⟨Yk own h.1 (by decide) b,Yk own h.2.1 (by decide) b,Yk own h.2.2.1 (by decide) b,h.2.2.2.other own (by decide) (by decide) b⟩
theorem jh.snoc{W l:World}{base:Nat}{lv m d f g i:Value}{rs:List Rd.qh}{xs:List Value}(own:W.ownsRow base 160 8 lv rs.length xs)(w:∀j,(h:j<rs.length)->RSt W base xs j rs[j])(R:Rd.qh)(v:kU W base d f g i R)
  (a:W.grownBy l lv.ownBlock)(c:l.ownsRow base 160 8 m (rs.length+1) (xs++[.string R.eff,.bool R.who.1,d,.bool R.act.1,f,.bool R.on.1,g,i])):jh l base m (rs++[R]):=by
 have b:xs.length=rs.length*8:=own.1;refine⟨_,by rw[qB];exact c,λj x=>?_⟩;rw[qB,uP] at x
 by_cases hlt:j<rs.length
 ·rw[bO hlt];obtain⟨d,f,g,i,n,o,p,q,r,s,t,u,e⟩:=w j hlt;refine⟨d,f,g,i,?_,?_,?_,?_,?_,?_,?_,?_,e.other own a⟩
  ·rw[yc (by omega)];exact n
  ·rw[yc (by omega)];exact o
  ·rw[yc (by omega)];exact p
  ·rw[yc (by omega)];exact q
  ·rw[yc (by omega)];exact r
  ·rw[yc (by omega)];exact s
  ·rw[yc (by omega)];exact t
  ·rw[yc (by omega)];exact u
 ·have k:j=rs.length:=by omega
  subst k;rw[lV (zf _)];simp only[Nat.sub_self,lW];refine⟨d,f,g,i,?_,?_,?_,?_,?_,?_,?_,?_,v.other own a⟩
  ·rw[yA (by omega),b,Nat.sub_self];rfl
  ·rw[yA (by omega),b,show rs.length*8+1-rs.length*8=1 by omega];rfl
  ·rw[yA (by omega),b,show rs.length*8+2-rs.length*8=2 by omega];rfl
  ·rw[yA (by omega),b,show rs.length*8+3-rs.length*8=3 by omega];rfl
  ·rw[yA (by omega),b,show rs.length*8+4-rs.length*8=4 by omega];rfl
  ·rw[yA (by omega),b,show rs.length*8+5-rs.length*8=5 by omega];rfl
  ·rw[yA (by omega),b,show rs.length*8+6-rs.length*8=6 by omega];rfl
  ·rw[yA (by omega),b,show rs.length*8+7-rs.length*8=7 by omega];rfl
theorem zam(text:BY)(h:(qG text).1=0):Ref.NoN (qG text).2.2.nodes:=by
 obtain⟨R,a⟩:=Nm (qG text);rw[a] at h |-;unfold qG at a
 by_cases h1:4000<text.size
 ·rw[zb h1] at a;subst a;simp at h
 rw[za h1] at a
 by_cases h2:(Ref.run Ref.init text.data.toList 0).1≠0
 ·rw[zb h2] at a;subst a;exact absurd h h2
 rw[za h2] at a
 by_cases h3:(Ref.run Ref.init text.data.toList 0).2.2.state≠6\/(Ref.run Ref.init text.data.toList 0).2.2.opn≠[]
 ·rw[zb h3] at a;subst a;simp at h
 rw[za h3] at a;subst a
 have b:(Ref.run Ref.init text.data.toList 0).1=0:=by
  by_cases e:(Ref.run Ref.init text.data.toList 0).1=0
  ·exact e
  ·exact absurd e h2
 exact (Ref.BV text.data.toList Ref.init 0 Ref.OM fO b).non
def UQ(a:List Ref.Node)(root:Nat):List Rd.qh:=match a[root]? with
 | none=>[]
 | some r=>match a[(Ref.zn r Rd.yX).toNat]? with
  | none=>[]
  | some n=>Rd.kr a n.kids
def aH(text:BY):List Rd.qh:=UQ (qG text).2.2.nodes (qG text).2.2.root.toNat
theorem zbZ(a:List Ref.Node)(ks:List Nat)(j:Nat)(b:j<ks.length)(x:Ref.Node)(c:a[ks[j]]?=some x):Rd.kr a (ks.take (j+1))=Rd.kr a (ks.take j)++[Rd.ZF a x]/\Rd.kr a (ks.drop j)=Rd.ZF a x::Rd.kr a (ks.drop (j+1)):=by
 constructor
 ·rw[Yw,zm b];unfold Rd.kr;rw[Qc];simp[c]
 ·rw[jf b];unfold Rd.kr;rw[yK,c]
theorem MR(r:Rd.qh)(rs:List Rd.qh)(i:Nat):Rd.ZV (r::rs) i=if r.sh then (5,i+1) else if r.pt then (6,i+1) else Rd.ZV rs (i+1):=rfl
theorem zbO(w:World)(O P:Obj)(t:TypeId)(a b c d e f g h:Value):∀(j:Nat) (u:Value),[a,b,c,d,e,f,g,h][j]?=some u->(((w.alloc O).alloc P).alloc (.cells #[a,b,c,d,e,f,g,h] t)).cell? ((⟨w.heap.size+1+1,0,none⟩:Addr).add j)=some u:=by
 have h:=df (base:=w.heap.size) (e:=t) (size:=8) ((w.alloc O).alloc P) #[a,b,c,d,e,f,g,h] 1 (by simp;omega) (by decide) rfl;rw[vW,vW] at h;exact λj u i=>h.cells (g:=w.heap.size+1+1) rfl j u i
theorem zb1{wr a:World}{B:Nat}{lv e f g k:Value}{done:List Rd.qh}{R:Rd.qh}(O P Q:Obj)(h:jh wr B lv done)(n:B<=wr.heap.size)(c:Below wr.heap.size wr a)(o:kU a wr.heap.size e f g k R) :
  ∃xs,(((a.alloc O).alloc P).alloc Q).ownsRow B 160 8 lv done.length xs/\(∀j,(h:j<done.length)->RSt (((a.alloc O).alloc P).alloc Q) B xs j done[j])/\kU (((a.alloc O).alloc P).alloc Q) B e f g k R:=by
 have d:Below a.heap.size a (((a.alloc O).alloc P).alloc Q):=((nbl _ _).alloc (by simp) _).alloc (by simp;omega) _;obtain⟨xs,l,m⟩:=(h.kept (λi hi b=>c.block i b)).kept (λi hi b=>d.block i b);exact⟨xs,l,m,(o.mono n).kept (λi hi b=>d.block i b)⟩
theorem Tryz.infoRStmt:(prog.info? 160).map (λi=>(i.zero,i.size,i.bytes))=some (some (.agg #[.string ⟨#[]⟩,.bool false,.slice none 0 0,.bool false,.slice none 0 0,.bool false,.slice none 0 0,.slice none 0 0]),8,136):=by kernel_rfl
def bI(w:World)(A:Int×Nat)(rs:List Rd.qh)(e:Ending)(w':World):Prop:=
 ∃lv,e = .returned (.tuple #[lv,.int .i64 A.1,.int .i64 (A.2:Int)])/\Below w.heap.size w w'/\(A.1=0->jh w' w.heap.size lv rs)
theorem Lj(text:BY)(w:World)(ht:text.size<=maxLen) :
  Calls prog 34 #[.string text] w (bI w (Rd.xy text) (aH text)):=by
 have cR:=zas text w ht;have P:=zal text
 by_cases h0:(qG text).1≠0
 ·have ha:=P.2 h0;rw[<- ha];obtain⟨E,hE⟩:∃x,(qG text).1=x:=⟨_,rfl⟩;obtain⟨AT,X⟩:∃x,(qG text).2.1=x:=⟨_,rfl⟩;rw[hE,X] at cR |-;rw[hE] at h0;have hb:(E != 0)=true:=by simp[h0]
  have H0:=hid h0;clear P ha hE X h0;go_enter func34,ntmps34
  go_wp2_with (go_at_call 59;refine cR.mono ?_;rintro e w1 ⟨p,rfl,d9,_⟩)
  go_ret3;exact⟨_,rfl,d9,λe=>absurd e H0.out⟩
 have hz:(qG text).1=0:=by
  by_cases e:(qG text).1=0
  ·exact e
  ·exact absurd e h0
 have ha:=P.1 hz;obtain⟨h2,h3,k8,h4,h5⟩:=zan text hz;have c6:=zam text hz;unfold aH;rw[<- ha];obtain⟨E,hE⟩:∃x,(qG text).1=x:=⟨_,rfl⟩;obtain⟨AT,X⟩:∃x,(qG text).2.1=x:=⟨_,rfl⟩;obtain⟨m,hm⟩:∃x,(qG text).2.2=x:=⟨_,rfl⟩;rw[hE,X,hm] at cR;rw[hm] at h2 h3 k8 h4 h5 c6 |-;rw[hE] at hz;subst hz;obtain⟨ri,e5⟩:∃r:Nat,m.root=(r:Int):=⟨m.root.toNat,by omega⟩;rw[e5] at h4;have j8:ri<m.nodes.length:=by omega
 have k3:m.root.toNat=ri:=by rw[e5];simp
 rw[k3];have s:=zm j8;obtain⟨r,hr⟩:∃x,m.nodes[ri]=x:=⟨_,rfl⟩;rw[hr] at s;obtain⟨D,Y⟩:∃x,Rd.Ul m.nodes ri=x:=⟨_,rfl⟩;obtain⟨RS,o⟩:∃x,UQ m.nodes ri=x:=⟨_,rfl⟩;rw[Y,o];unfold Rd.Ul at Y;unfold UQ at o;rw[s] at Y o;simp only at Y o
 have f1:Hid (∀(w1:World) (b:Nat) (ov nv:Value) (vs:List (Value×Value)),zO w1 w.heap.size b m ov nv vs->Ref.Bnd 4000 m->∃gg cap,jT w1 w.heap.size b gg cap m.nodes w1/\w1.cell? ⟨b,10,none⟩=some (.int .i64 (ri:Int))):=by
  refine hid (λw1 b ov nv vs hM hB=>?_);obtain⟨gg,cap,o8⟩:=hM.rd h3 h2 hB h5;refine⟨gg,cap,⟨o8,c6,ze _ _⟩,?_⟩;rw[<- e5];exact (hM.cell 10).1
 have CR:=hid cR;obtain⟨f,y,Q,t⟩:=r;simp only at Y o;obtain⟨K,hK⟩:∃x,Ref.zn ⟨f,y,Q,t⟩ Rd.yX=x:=⟨_,rfl⟩;rw[hK] at Y o;have HD:=hid Y;have i7:=hid o;have HK:=hid hK;have G:=hid s;clear Y o hK hr s cR P ha h2 h3 k8 h4 h5 c6 hm hE X h0 e5 k3;go_enter func34,ntmps34
 go_upto_region 4 with (go_at_call 59;refine CR.out.mono ?_;rintro e w1 ⟨p,rfl,d9,hM⟩;obtain⟨b,ov,nv,vs,rfl,hM,hB⟩:=hM rfl;obtain⟨gg,cap,hE,V⟩:=f1.out w1 b ov nv vs hM hB;have h9:=hid d9;have HE:=hid hE;clear hM hB d9 hE)
 obtain⟨⟨v1,v2⟩,⟨na,nc,k4⟩,⟨ka,kc,T⟩,a0,cH,cO⟩:=Uu HE.out G.out;simp only at k4 T;subst k4;subst T;have e7:=HE.out.at.slice;have hlen:=HE.out.rd.len;have kB:=Ref.vL HE.out.rd.ev G.out Rd.yX;rw[HK.out] at kB;obtain⟨a1,a2,a3,a4⟩:=a0 w1 (ze _ _);simp only at a1 a2 a3 a4;unfold QX at cH;simp only at cH;have d8:=λW h=>cH W Rd.yX h;simp only[HK.out] at d8;unfold Rd.yX at d8;obtain⟨nl,g7⟩:=Nm m.nodes.length;rw[g7] at e7 j8 kB hlen;have n4:=hid g7;have i0:(0:Int)<=(ri:Int):=qz _;have i1:(ri:Int)<(nl:Int):=by omega
 have f6:=hid d8;obtain⟨rn,g8⟩:∃x,Q.length=x:=⟨_,rfl⟩;rw[g8] at a3 f6;have g6:=HD.out;rw[g8] at g6;have U:=hid g6;clear cH cO d8 a0 g6 HD g7 g8;have bA:Below w1.heap.size w1 (w1.alloc (.cells #[.int .i64 f,.string y,.slice na rn nc,.slice ka t.length kc] 152)).drew:=(nbl _ _).drew;have nA:=zB w1 (.cells #[.int .i64 f,.string y,.slice na rn nc,.slice ka t.length kc] 152);have s1:=λO:Obj=>zh (nbl w1 O) e7;have b0:=λO:Obj=>zh (nbl w1 O) V;have b1:=λO:Obj=>zh (nbl w1 O) a1;have b2:=λO:Obj=>zh (nbl w1 O) a2;have b3:=λO:Obj=>zh (nbl w1 O) a3;have b4:=λO:Obj=>zh (nbl w1 O) a4
 go_region
 go_upto_region 6 with (go_at_call 60;refine (f6.out _ bA).mono ?_;rintro e z ⟨rfl,g5⟩)
 have d7:Below w1.heap.size w1 z:=bA.trans (g5.mono (by show w1.heap.size<=(w1.alloc _).heap.size;simp));have n3:z.heap[w1.heap.size]?=some (.cells #[.int .i64 f,.string y,.slice na rn nc,.slice ka t.length kc] 152 (0,0)):=(g5.block _ (by show w1.heap.size<(w1.alloc _).heap.size;simp)).trans nA;have q0:z.cell? ⟨w1.heap.size,0,none⟩=some (.int .i64 f):=(zg n3 0).1;have q2:z.cell? ⟨w1.heap.size,2,none⟩=some (.slice na rn nc):=(zg n3 2).1;have p8:=zh d7 e7;have f4:Below w.heap.size w z:=h9.out.trans (d7.mono h9.out.size);have R:=hid d7;have A:=hid f4;have l:=U.out;clear s1 b0 b1 b2 b3 b4 a1 a2 a3 a4 e7 V bA nA g5 f6 d7 f4 i0 i1 CR f1 G HK
 by_cases c1:f≠1
 ·rw[zb (.inl c1)] at l;have d1:(f != 1)=true:=by simp[c1]
  subst l;clear U
  go_wp2
  go_ret3;exact⟨_,rfl,A.out,λe=>by simp at e⟩
 rw[Ne,U6] at c1;subst c1
 by_cases c2:rn≠1
 ·rw[zb (.inr (.inl c2))] at l;have d2:((rn:Int) != 1)=true:=by simp;omega
  subst l;clear U
  go_wp2
  go_ret3;exact⟨_,rfl,A.out,λe=>by simp at e⟩
 rw[Ne,U6] at c2;subst c2
 by_cases c3:K<0
 ·rw[zb (.inr (.inr c3))] at l;have d3:decide (K<0)=true:=zy c3;subst l;clear U
  go_wp2
  go_ret3;exact⟨_,rfl,A.out,λe=>by simp at e⟩
 rw[za (by simp;omega)] at l;have d3:decide (K<0)=false:=zJ c3;obtain⟨kj,rfl⟩:∃k:Nat,K=(k:Int):=⟨K.toNat,by omega⟩;have o5:kj<m.nodes.length:=by have:=kB.2;rw[n4.out];omega
 have S:=zm o5;obtain⟨nd,j7⟩:∃x,m.nodes[kj]=x:=⟨_,rfl⟩;rw[j7] at S;have e6:=i7.out;simp only[jU,S] at l e6;obtain⟨v,a1,a2,a3,a4,a5,a6⟩:=HE.out.rd.node kj _ S;obtain⟨v1,v2⟩:=v;obtain⟨kind,N,ss,ks⟩:=nd;simp only at a1 a2 a3 a4 a5 a6 l e6;obtain⟨e9,f0,T,cK⟩:=vw a6;obtain⟨g9,h1,rfl,_⟩:=vw a5;obtain⟨M,e4⟩:=Nm ks.length;rw[e4] at T cK l;rw[T] at a4
 replace a1:=zh R.out a1
 replace a2:=zh R.out a2
 replace a3:=zh R.out a3
 replace a4:=zh R.out a4
 have j9:=(HE.out.rd.small kj _ S).1;simp only at j9;rw[e4] at j9;have CK:=hid cK;have HN:=hid S;have g0:=hid e4;have B:=hid l;have i8:=hid e6;have k0:(0:Int)<=(kj:Int):=qz _;have k1:(kj:Int)<(nl:Int):=kB.2;clear a5 a6 cK T j7 S l e6 U i7 e4 kB c3;have z3:w.heap.size<=z.heap.size:=A.out.size
 by_cases e1:kind≠2
 ·have l:=B.out;rw[zb (.inl e1)] at l;have d4:(kind != 2)=true:=by simp[e1]
  subst l;clear B
  go_wp2
  go_ret3;exact⟨_,rfl,A.out.alloc z3 _,λe=>by simp at e⟩
 rw[Ne,U6] at e1;subst e1
 by_cases e2:M<1
 ·have l:=B.out;rw[zb (.inr (.inl e2))] at l;have d4:decide ((M:Int)<1)=true:=by simp;omega
  subst l;clear B
  go_wp2
  go_ret3;exact⟨_,rfl,A.out.alloc z3 _,λe=>by simp at e⟩
 have d4:decide ((M:Int)<1)=false:=by simp;omega
 by_cases e3:10<M
 ·have l:=B.out;rw[zb (.inr (.inr e3))] at l;have d5:decide (10<(M:Int))=true:=by simp;omega
  subst l;clear B
  go_wp2
  go_ret3;exact⟨_,rfl,A.out.alloc z3 _,λe=>by simp at e⟩
 have d5:decide (10<(M:Int))=false:=by simp;omega
 have l:=B.out;rw[za (by omega)] at l;have i3:=hid l;clear l B;obtain⟨i0,hi,o9,p0,p1⟩:=xA Tryz.infoRStmt;have c5:=zB z (.cells #[.int .i64 2,.string N,.slice g9 ss.length h1,.slice e9 M f0] 152);have i4:=hid c5;clear c5;go_wp2_with fail
 go_loopw [11,12] (λlv jv wr=>∃(j:Nat),j<=M/\jv = .int .i64 j/\jh wr (z.heap.size+1) lv (Rd.kr m.nodes (ks.take j))/\D=Rd.ZV (Rd.kr m.nodes (ks.drop j)) j /\
   Below (z.heap.size+1) (z.alloc (.cells #[.int .i64 2,.string N,.slice g9 ss.length h1,.slice e9 M f0] 152)) wr) (λ_ jv _=>M-(intOf jv).toNat)
 case atStart=>exact⟨0,by omega,rfl,jh.nil _ _,by rw[<- i3.out];rfl,ze _ _⟩
 case round=>
  obtain⟨j,hj,rfl,j4,Y,e0⟩:=hrel;have c8:=hid j4;have f9:=hid Y;have i2:=hid e0;have nr:wr.heap[z.heap.size]?=some (.cells #[.int .i64 2,.string N,.slice g9 ss.length h1,.slice e9 M f0] 152 (0,0)):=(e0.block _ (by omega)).trans i4.out;have c3:wr.cell? ⟨z.heap.size,3,none⟩=some (.slice e9 M f0):=(zg nr 3).1;have o6:z.heap.size+1<=wr.heap.size:=zt nr;have g3:Below z.heap.size z wr:=(nbl z _).trans (e0.mono (by omega));have g2:Below w1.heap.size w1 wr:=R.out.trans (g3.mono R.out.size);have i9:Below w.heap.size w wr:=A.out.trans (g3.mono z3);have i:=hid i9;clear j4 Y e0 a1 a2 a3 a4 p8 q0 q2 i3 i4 nr
  by_cases hlt:j<M
  ·obtain⟨g,rfl,q1⟩:=CK.out j hlt;have l1:j<ks.length:=by rw[g0.out];exact hlt
   rw[yt,Ref.UC ks j l1] at q1;have a7:=HE.out.rd.kid HN.out j l1;simp only at a7;have hx:=zm a7;obtain⟨x,k5⟩:=Nm (m.nodes[ks[j]]);rw[k5] at hx;obtain⟨e8,k2⟩:=zbZ m.nodes ks j l1 x hx;have q2:=zh g2 q1;have cc:=zbx ks[j] w1 w.heap.size b gg cap m.nodes x wr ⟨HE.out.rd,HE.out.non,g2⟩ hx;have Z:=f9.out;rw[k2,MR] at Z;obtain⟨kid,j6⟩:∃c,ks[j]=c:=⟨_,rfl⟩;rw[j6] at q2 cc;obtain⟨C,hC⟩:=Nm (Rd.ZF m.nodes x);rw[hC] at cc Z e8;obtain⟨done,H⟩:∃d,Rd.kr m.nodes (ks.take j)=d:=⟨_,rfl⟩;have o4:done.length=j:=by rw[<- H];unfold Rd.kr;rw[qH,vT,g0.out];omega
   rw[H] at c8 e8;have n5:=hid e8;obtain⟨eff,⟨N1,L1⟩,⟨N2,L2⟩,⟨N3,L3⟩,cs,o1,o0⟩:=C;simp only at Z;have f7:=hid Z;have CC:=hid cc;clear q1 hx k5 a7 hC H j6 cc e8 k2 Z f9 g2 g3 i9
   cases o1 with
   | true=>
    have F:=f7.out;rw[zb rfl] at F;subst F
    go_wp2_with (go_at_call 61;refine CC.out.mono ?_;rintro e w2 ⟨l1,l2,l3,lc,rfl,q,a⟩;obtain⟨a9,b8,rfl⟩:=jR a.1;obtain⟨b5,b9,rfl⟩:=jR a.2.1;obtain⟨b6,c0,rfl⟩:=jR a.2.2.1;obtain⟨b7,c4,rfl⟩:=a.2.2.2.slice;have n:=hid q;clear a q)
    go_ret3;exact⟨_,by go_num,((i.out.trans (n.out.mono i.out.size)).alloc (xu i.out.size n.out.size) _).alloc (by simp;have:=i.out.size;have:=n.out.size;omega) _,λe=>by simp at e⟩
   | false=>
    have I:=f7.out;rw[za (by simp)] at I;have f8:=hid I;clear I f7
    cases o0 with
    | true=>
     have F:=f8.out;rw[zb rfl] at F;subst F
     go_wp2_with (go_at_call 61;refine CC.out.mono ?_;rintro e w2 ⟨l1,l2,l3,lc,rfl,q,a⟩;obtain⟨a9,b8,rfl⟩:=jR a.1;obtain⟨b5,b9,rfl⟩:=jR a.2.1;obtain⟨b6,c0,rfl⟩:=jR a.2.2.1;obtain⟨b7,c4,rfl⟩:=a.2.2.2.slice;have n:=hid q;clear a q)
     go_ret3;exact⟨_,by go_num,((i.out.trans (n.out.mono i.out.size)).alloc (xu i.out.size n.out.size) _).alloc (by simp;have:=i.out.size;have:=n.out.size;omega) _,λe=>by simp at e⟩
    | false=>
     have L:=f8.out;rw[za (by simp)] at L;have g1:=hid L;clear L f8
     go_wp2_with (first
      | (go_at_call 61;refine CC.out.mono ?_;rintro e w2 ⟨l1,l2,l3,lc,rfl,q,a⟩;obtain⟨a9,b8,rfl⟩:=jR a.1;obtain⟨b5,b9,rfl⟩:=jR a.2.1;obtain⟨b6,c0,rfl⟩:=jR a.2.2.1;obtain⟨b7,c4,rfl⟩:=a.2.2.2.slice;obtain⟨xs,ro,rc,r3⟩:=zb1 (.cells #[.string eff,.bool N1,.slice a9 L1.length b8,.bool N2,.slice b5 L2.length b9,.bool N3,.slice b6 L3.length c0,.slice b7 cs.length c4] 160) (.cells #[.bool false,.bool false] 162) (.cells #[.string eff,.bool N1,.slice a9 L1.length b8,.bool N2,.slice b5 L2.length b9,.bool N3,.slice b6 L3.length c0,.slice b7 cs.length c4] 160) c8.out o6 q a;have n:=hid q;have RO:=hid ro;have RC:=hid rc;have R3:=hid r3;have r2:=q.size;clear a q ro rc r3)
      | (at_builtin;refine vS _ rfl _ _ 78 rfl (z.heap.size+1) 160 i0 (.agg #[.string ⟨#[]⟩,.bool false,.slice none 0 0,.bool false,.slice none 0 0,.bool false,.slice none 0 0,.slice none 0 0]) 8 136 underlying78 hi o9 p0 p1 rfl (by decide) _ done.length xs rfl RO.out ⟨w2.heap.size+1+1,0,none⟩ 1 1 [.string eff,.bool N1,.slice a9 L1.length b8,.bool N2,.slice b5 L2.length b9,.bool N3,.slice b6 L3.length c0,.slice b7 cs.length c4] rfl rfl ?_ ?_ ?_ ?_ ?_ ?_))
     ·exact zbO _ _ _ _ _ _ _ _ _ _ _ _
     ·intro u hu;simp at hu;rcases hu with rfl|rfl|rfl|rfl|rfl|rfl|rfl|rfl<;>rfl
     ·unfold maxLen;omega
     ·omega
     ·simp;omega
     ·intro v' w4 a8 J _;have i5:=hid (jh.snoc RO.out RC.out ⟨eff,(N1,L1),(N2,L2),(N3,L3),cs,false,false⟩ R3.out J (by rw[o4];exact a8));have i6:Hid (jh w4 (z.heap.size+1) v' (Rd.kr m.nodes (ks.take (j+1)))):=by rw[n5.out];exact i5
      have n1:=hid (i2.out.trans (((((n.out.mono (by omega)).alloc (by omega) _).alloc (by simp;omega) _).alloc (by simp;omega) _).grown J (by simp;omega) (λk hk=>(RO.out.lt k hk).1)));clear a8 J i5 RO RC R3 c8 n i2
      go_wp2
      go_roundw
      case rel=>exact⟨j+1,by omega,by go_num,i6.out,g1.out,n1.out⟩
      case measure=>simp[intOf];omega
  ·have j5:j=ks.length:=by rw[g0.out];omega
   have j2:=f9.out;rw[j5,Y6] at j2;have o:RS=Rd.kr m.nodes (ks.take j):=by rw[j5,VW];exact i8.out.symm
   have o2:D=(0,0):=j2;subst o;subst o2
   go_wp2
   go_ret3;exact⟨_,rfl,i.out,λ_=>c8.out.mono (by omega)⟩
end Go.Proofs.YtdakgnaojakldaaGreatDoor
