/- P -/
import Derived.Test.YtagnlbgbnfnapaaGreatDoorK41
open Go.Proofs.Tryz
set_option maxRecDepth 100000
set_option maxHeartbeats 4000000
namespace Go.Proofs.YtagnlbgbnfnapaaGreatDoor
open Go.RowKit
theorem xS.slice{w:World}{base:Nat}{lv:Value}{cs:List Ref.qg}(h:xS w base lv cs):∃a c,lv = .slice a cs.length c:=by
 obtain⟨xs,h,_⟩:=h
 rcases h.2 with ⟨rfl,h0⟩|⟨g,c,cur,rfl,_⟩
 ·exact⟨_,_,by rw[h0]⟩
 ·exact⟨_,_,rfl⟩
structure Kp (B:Nat) (wx wy:World):Prop where
 size:wx.heap.size<=wy.heap.size
 keep:∀i,B<=i->i<wx.heap.size->wy.heap[i]?=wx.heap[i]?
theorem Kp.trans{B:Nat}{a b c:World}(h:Kp B a b)(k:Kp B b c):Kp B a c:=⟨qZ h.size k.size,λi hi d=>(k.keep i hi (xM d h.size)).trans (h.keep i hi d)⟩
theorem Kp.below{B:Nat}{a b:World}(h:Below a.heap.size a b):Kp B a b:=⟨h.size,λi _ c=>h.block i c⟩
theorem Kp.grown{B c:Nat}{a b:World}(h:a.grownBy b (some c))(e:c<B):Kp B a b:=⟨h.size,λi hi d=>h.block i d (by simp;omega)⟩
theorem Kp.set{B b:Nat}(a:World)(o:Nat)(u:Value)(hb:b<B):Kp B a (a.setCell ⟨b,o,none⟩ u):=⟨by simp[World.setCell],λi hi _=>qc _ _ _ _ (by simp only;omega)⟩
theorem DW(s:BY):((s.toList==[97,108,108,111,119])=true/\Rd.xX s=true)\/((s.toList==[97,108,108,111,119])=false/\(s.toList==[100,101,110,121])=true/\Rd.xX s=true)\/((s.toList==[97,108,108,111,119])=false/\(s.toList==[100,101,110,121])=false/\Rd.xX s=false):=by
 unfold Rd.xX
 cases (s.toList==[97,108,108,111,119])<;>cases (s.toList==[100,101,110,121])<;>simp
def tX(W:World)(a:Nat)(sh pt N S P:Bool)(L:List BY)(e:Ending)(w':World):Prop:=
 ∃lv,e = .returned (.agg #[.bool N,lv])/\W.grownBy w' (some a)/\qd w' a (sh || !S) (pt || !P)/\w'.ownsRow W.heap.size 9 1 lv L.length (Ref.strCells L)
theorem PK(i:Nat)(w0:World)(base b gg cap:Nat)(ns:List Ref.Node)(n:Ref.Node)(w:World)(y:vv w0 base b gg cap ns w)(hi:ns[i]?=some n)
  (l:¬(Ref.yB n [Rd.zH,Rd.zS,Rd.bDo,Rd.bOn,Rd.bIf]=false\/Ref.zq n Rd.zH<0\/Ref.kindOf ns (Ref.zq n Rd.zH)≠3)) :
  Calls prog 127 #[.pointer (some ⟨b,0,none⟩),.int .i64 (i:Int)] w (JA w (Rd.uU ns n)):=by
 have r0:w0.heap.size<=w.heap.size+4:=by have:=y.bel.size;omega
 obtain⟨⟨v1,v2⟩,⟨na,nc,l6⟩,⟨ka,kc,l7⟩,X,cH,cO⟩:=JV y hi;simp only at l6 l7;subst l6;subst l7;have r8:i<ns.length:=(zR.1 hi).1;have h4:=y.at.slice;have hlen:=y.rd.len;have eB:=Ref.jC y.rd.ev hi Rd.zH;have wB:=Ref.jC y.rd.ev hi Rd.zS;have dB:=Ref.jC y.rd.ev hi Rd.bDo;have oB:=Ref.jC y.rd.ev hi Rd.bOn;have fB:=Ref.jC y.rd.ev hi Rd.bIf;obtain⟨a1,a2,a3,a4⟩:=X w y.bel;simp only at a3 a4;unfold ZR at cH cO;simp only at cH cO;obtain⟨kind,C⟩:∃k,n.kind=k:=⟨_,rfl⟩;obtain⟨text,D⟩:∃k,n.text=k:=⟨_,rfl⟩;obtain⟨nn,h3⟩:∃k,n.names.length=k:=⟨_,rfl⟩;obtain⟨nk,g7⟩:∃k,n.kids.length=k:=⟨_,rfl⟩;rw[C] at a1;rw[D] at a2;rw[h3] at a3;rw[g7] at a4;simp only[C,D,h3,g7] at cH cO;have ST:=xJ.start w #[.int .i64 kind,.string text,.slice na nn nc,.slice ka nk kc];have N:∀wx sc sh pt,xJ w #[.int .i64 kind,.string text,.slice na nn nc,.slice ka nk kc] sc sh pt wx->Below w0.heap.size w0 wx:=λwx _ _ _ h=>y.bel.trans (h.g.mono y.bel.size);obtain⟨EF,S⟩:∃x,Ref.zq n Rd.zH=x:=⟨_,rfl⟩;obtain⟨WH,b8⟩:∃x,Ref.zq n Rd.zS=x:=⟨_,rfl⟩;obtain⟨DO,b5⟩:∃x,Ref.zq n Rd.bDo=x:=⟨_,rfl⟩;obtain⟨OO,b7⟩:∃x,Ref.zq n Rd.bOn=x:=⟨_,rfl⟩;obtain⟨IF,b6⟩:∃x,Ref.zq n Rd.bIf=x:=⟨_,rfl⟩
 have l1:Ref.yB n [Rd.zH,Rd.zS,Rd.bDo,Rd.bOn,Rd.bIf]=true:=by
  cases e:Ref.yB n [Rd.zH,Rd.zS,Rd.bDo,Rd.bOn,Rd.bIf] with
  | true=>rfl
  | false=>exact absurd (.inl e) l
 have hR:Rd.uU ns n=Rd.QT (Ref.textOf ns EF) (Ref.yG ns WH) (Ref.yG ns DO) (Ref.yG ns OO) (Ref.Ql ns IF):=by
  unfold Rd.uU;rw[za l,S,b8,b5,b7,b6]
 rw[hR];rw[S] at l
 have e0:0<=EF:=by
  by_cases h:EF<0
  ·exact absurd (.inr (.inl h)) l
  ·omega
 have L:Ref.kindOf ns EF=3:=by
  by_cases h:Ref.kindOf ns EF=3
  ·exact h
  ·exact absurd (.inr (.inr h)) l
 have a6:=λW h=>cH W Rd.zH h;have a7:=λW h=>cH W Rd.zS h;have a8:=λW h=>cH W Rd.bDo h;have a9:=λW h=>cH W Rd.bOn h;have b0:=λW h=>cH W Rd.bIf h;simp only[S] at a6;simp only[b8] at a7;simp only[b5] at a8;simp only[b7] at a9;simp only[b6] at b0;unfold Rd.zH at a6;unfold Rd.zS at a7;unfold Rd.bDo at a8;unfold Rd.bOn at a9;unfold Rd.bIf at b0;rw[S] at eB;rw[b8] at wB;rw[b5] at dB;rw[b7] at oB;rw[b6] at fB
 have cc:∀(k:Int) (W:World) (sh pt:Bool),k<ns.length -> -1<=k->Below w0.heap.size w0 W->qd W (w.heap.size+4) sh pt->Calls prog 169 #[.pointer (some ⟨b,0,none⟩),.int .i64 k,.pointer (some ⟨w.heap.size+4,0,none⟩)] W (tX W (w.heap.size+4) sh pt (Ref.yG ns k).1 (Ref.yG ns k).2.isSome (((Ref.yG ns k).2.getD []).all Ref.qF) ((Ref.yG ns k).2.getD [])):=
  λk W sh pt h1 h2 hb hf=>Bz k base b gg cap ns (w.heap.size+4) sh pt W (y.rd.below hb) h1 h2 hf
 have H:=λW sh pt hb hf=>cc WH W sh pt wB.2 wB.1 hb hf;have I:=λW sh pt hb hf=>cc DO W sh pt dB.2 dB.1 hb hf;have J:=λW sh pt hb hf=>cc OO W sh pt oB.2 oB.1 hb hf
 have d2:∀W sh pt,Below w0.heap.size w0 W->qd W (w.heap.size+4) sh pt->Calls prog 170 #[.pointer (some ⟨b,0,none⟩),.int .i64 IF,.pointer (some ⟨w.heap.size+4,0,none⟩)] W (eU W (w.heap.size+4) sh pt (Ref.Ql ns IF)):=
  λW sh pt hb hf=>Cg IF w0 base b gg cap ns (w.heap.size+4) sh pt W ⟨y.rd,y.non,hb⟩ fB.2 fB.1 r0 hf
 unfold Rd.QT Rd.chD Rd.chP;obtain⟨t,d8⟩:∃x,Ref.Ql ns IF=x:=⟨_,rfl⟩;rw[d8];simp only[d8] at d2;obtain⟨A1,d5⟩:∃x,Ref.yG ns WH=x:=⟨_,rfl⟩;obtain⟨A2,d6⟩:∃x,Ref.yG ns DO=x:=⟨_,rfl⟩;obtain⟨A3,d7⟩:∃x,Ref.yG ns OO=x:=⟨_,rfl⟩;rw[d5,d6,d7];simp only[d5] at H;simp only[d6] at I;simp only[d7] at J;obtain⟨A,M1⟩:=A1;obtain⟨E,M2⟩:=A2;obtain⟨K,M3⟩:=A3;simp only at H I J |-;obtain⟨z,d9⟩:∃x,M1.getD []=x:=⟨_,rfl⟩;obtain⟨B,f2⟩:∃x,M2.getD []=x:=⟨_,rfl⟩;obtain⟨G,f3⟩:∃x,M3.getD []=x:=⟨_,rfl⟩;obtain⟨S1,g0⟩:∃x,M1.isSome=x:=⟨_,rfl⟩;obtain⟨S2,g1⟩:∃x,M2.isSome=x:=⟨_,rfl⟩;obtain⟨S3,g2⟩:∃x,M3.isSome=x:=⟨_,rfl⟩;rw[d9,f2,f3,g0,g1,g2];simp only[d9,g0] at H;simp only[f2,g1] at I;simp only[f3,g2] at J;obtain⟨P1,f4⟩:∃x,z.all Ref.qF=x:=⟨_,rfl⟩;obtain⟨P2,f5⟩:∃x,B.all Ref.qF=x:=⟨_,rfl⟩;obtain⟨P3,f7⟩:∃x,G.all Ref.qF=x:=⟨_,rfl⟩;rw[f4,f5,f7];simp only[f4] at H;simp only[f5] at I;simp only[f7] at J;have a0:=ST.below (nbl _ (.cells #[.string Rd.zH,.string Rd.zS,.string Rd.bDo,.string Rd.bOn,.string Rd.bIf] 9));have Q:=cO _ [Rd.zH,Rd.zS,Rd.bDo,Rd.bOn,Rd.bIf] _ 0 (N _ _ _ _ a0) (nU (zQ _ _) (zG _)) (by simp);rw[l1] at Q;simp only[jT] at Q;unfold Rd.zH Rd.zS Rd.bDo Rd.bOn Rd.bIf at Q a0;obtain⟨je,r9,b9⟩:=Yf y EF e0 eB.2;subst r9;rw[L] at b9;obtain⟨a,T⟩:∃x,Ref.textOf ns (je:Int)=x:=⟨_,rfl⟩;rw[T];rw[T] at b9;obtain⟨nl,g9⟩:=Nm ns.length;rw[g9] at h4 r8 hlen eB;have p1:=hid g9;have HE:=hid y;have c:=hid N;have j2:=hid H;have j7:=hid I;have j8:=hid J;have j9:=hid d2;have k0:=hid b9;have i0:(0:Int)<=(i:Int):=zZ _;have i1:(i:Int)<(nl:Int):=by omega
 have F1:(0:Int)<=(je:Int):=zZ _;have F2:(je:Int)<(nl:Int):=eB.2;have d1:decide ((je:Int)<0)=false:=zO (by omega);clear y cH X S b8 b5 b7 b6 l1 C D h3 g7 N cO g9 ST hR l e0 L cc H I J d2 d8 d5 d6 d7 d9 f2 f3 g0 g1 g2 f4 f5 f7 b9 T eB wB dB oB fB;have s1:=λO P:Obj=>zi ((nbl w O).alloc (by simp) P) h4;have b1:=λO P:Obj=>zi ((nbl w O).alloc (by simp) P) a1;have b2:=λO P:Obj=>zi ((nbl w O).alloc (by simp) P) a2;have b3:=λO P:Obj=>zi ((nbl w O).alloc (by simp) P) a3;have b4:=λO P:Obj=>zi ((nbl w O).alloc (by simp) P) a4;go_enter func127,ntmps127
 go_upto_region 6 with (first
  | (go_at_call 126;refine (a6 w1 (c.out w1 _ _ _ C1)).mono ?_;rintro e w2 ⟨rfl,l4⟩;have C2:=C1.below l4)
  | (go_at_call 168;refine Q.mono ?_;rintro e w1 ⟨rfl,l3⟩;have C1:=a0.below (by simp only[jT];exact l3);obtain⟨⟨h7,h8,h9,i2⟩,_,_,_⟩:=C1.cells))
 have d0:=c.out w2 _ _ _ C2
 have x7:w2.cell? ⟨b,2,none⟩=some (.slice (some ⟨gg,0,none⟩) nl cap):=by
  have:=(HE.out.rd.below d0).slice
  rwa [p1.out] at this
 obtain⟨m1,m2⟩:=k0.out w2 d0;clear h7 h8 h9 i2 s1 b1 b2 b3 b4 a1 a2 a3 a4 h4 i0 i1 l3 l4 C1 a0 a6 Q;obtain⟨_,⟨c0,_⟩,fz,⟨h0,h1,h2⟩⟩:=C2.cells;have q6:=fz 0;have C3:=C2.put 0 (.string a) #[.string a,.bool false,.slice none 0 0,.bool false,.slice none 0 0,.bool false,.slice none 0 0,.slice none 0 0] rfl;obtain⟨_,⟨x0,_⟩,_,⟨y0,y1,y2⟩⟩:=C3.cells;clear fz
 have k8:∃SH:Bool,(!Rd.xX a)=SH/\(((a.toList==[97,108,108,111,119])=true/\(a.toList != [97,108,108,111,119])=false/\SH=false)\/((a.toList==[97,108,108,111,119])=false/\(a.toList != [97,108,108,111,119])=true/\(a.toList==[100,101,110,121])=true/\(a.toList != [100,101,110,121])=false/\SH=false)\/((a.toList==[97,108,108,111,119])=false/\(a.toList != [97,108,108,111,119])=true/\(a.toList==[100,101,110,121])=false/\(a.toList != [100,101,110,121])=true/\SH=true)):=by
  refine⟨_,rfl,?_⟩;unfold bne
  rcases DW a with ⟨q1,q2⟩|⟨q1,q2,q3⟩|⟨q1,q2,q3⟩
  ·exact .inl ⟨q1,by rw[q1];rfl,by rw[q2];rfl⟩
  ·exact .inr (.inl ⟨q1,by rw[q1];rfl,q2,by rw[q2];rfl,by rw[q3];rfl⟩)
  ·exact .inr (.inr ⟨q1,by rw[q1];rfl,q2,by rw[q2];rfl,by rw[q3];rfl⟩)
 obtain⟨SH,l2,ways⟩:=k8;have k6:=hid l2;have C4:=hid (C3.shape SH)
 go_upto_region 10 with fail
 obtain⟨w3,l9⟩:∃x,w2.setCell ⟨w.heap.size+3,0,none⟩ (.string a)=x:=⟨_,rfl⟩;rw[l9] at C4 x0 y0 y1 y2 |-;clear C3 C2 l2 l9 x7 m1 m2 c0 h0 h1 h2 q6 d0 k0
 go_cut [] (λwx=>xJ w #[.int .i64 kind,.string text,.slice na nn nc,.slice ka nk kc] #[.string a,.bool false,.slice none 0 0,.bool false,.slice none 0 0,.bool false,.slice none 0 0,.slice none 0 0] SH false wx)
 case first=>
  rcases ways with ⟨q1,q2,rfl⟩|⟨q1,q2,q3,q4,rfl⟩|⟨q1,q2,q3,q4,rfl⟩
  all_goals
   go_wp2_with fail
   go_meet
   case rel=>exact C4.out
 case rest=>
  have C4:=hcut;obtain⟨⟨h7,h8,h9,i2⟩,_,_,_⟩:=C4.cells
  go_upto_region 15 with (first
   | (go_at_call 170;refine (j9.out c3 _ _ (c.out c3 _ _ _ M) M.f).mono ?_;rintro e Y ⟨F3,rfl,g12,f12,h6⟩;obtain⟨p,q,rfl⟩:=h6.slice;have c6:=M.grown g12 f12;obtain⟨_,⟨_,_,_,_,_,_,_,r7⟩,c5,_⟩:=c6.cells;have z7:=c5 7;clear c5)
   | (go_at_call 126;refine (b0 _ (c.out _ _ _ _ Z)).mono ?_;rintro e c3 ⟨rfl,V⟩;have M:=Z.below V)
   | (go_at_call 169;refine (j8.out w9 _ _ (c.out w9 _ _ _ C9) C9.f).mono ?_;rintro e i3 ⟨F6,rfl,g10,f10,h5⟩;obtain⟨r,s,rfl⟩:=yt h5;have c8:=C9.grown g10 f10;obtain⟨_,⟨_,_,_,_,_,r5,r6,_⟩,R,_⟩:=c8.cells;have z5:=R 5;have z6:=R 6;clear R;have Z:=(c8.put 5 (.bool K) #[.string a,.bool A,.slice d z.length j,.bool E,.slice m B.length o,.bool K,.slice none 0 0,.slice none 0 0] rfl).put 6 (.slice r G.length s) #[.string a,.bool A,.slice d z.length j,.bool E,.slice m B.length o,.bool K,.slice r G.length s,.slice none 0 0] rfl;obtain⟨⟨x3,x4,x5,x6⟩,_,_,_⟩:=Z.cells)
   | (go_at_call 126;refine (a9 _ (c.out _ _ _ _ C8)).mono ?_;rintro e w9 ⟨rfl,g5⟩;have C9:=C8.below g5)
   | (go_at_call 169;refine (j7.out w7 _ _ (c.out w7 _ _ _ C7) C7.f).mono ?_;rintro e w8 ⟨F5,rfl,g8,f8,o8⟩;obtain⟨m,o,rfl⟩:=yt o8;have D8:=C7.grown g8 f8;obtain⟨_,⟨_,_,_,r3,r4,_⟩,d4,_⟩:=D8.cells;have z3:=d4 3;have z4:=d4 4;clear d4;have C8:=(D8.put 3 (.bool E) #[.string a,.bool A,.slice d z.length j,.bool E,.slice none 0 0,.bool false,.slice none 0 0,.slice none 0 0] rfl).put 4 (.slice m B.length o) #[.string a,.bool A,.slice d z.length j,.bool E,.slice m B.length o,.bool false,.slice none 0 0,.slice none 0 0] rfl;obtain⟨⟨v9,w4,x1,x2⟩,_,_,_⟩:=C8.cells)
   | (go_at_call 126;refine (a8 _ (c.out _ _ _ _ C6)).mono ?_;rintro e w7 ⟨rfl,g4⟩;have C7:=C6.below g4)
   | (go_at_call 169;refine (j2.out w5 _ _ (c.out w5 _ _ _ C5) C5.f).mono ?_;rintro e w6 ⟨F4,rfl,g6,f6,o6⟩;obtain⟨d,j,rfl⟩:=yt o6;have D6:=C5.grown g6 f6;obtain⟨_,⟨_,r1,r2,_⟩,d3,_⟩:=D6.cells;have z1:=d3 1;have z2:=d3 2;clear d3;have C6:=(D6.put 1 (.bool A) #[.string a,.bool A,.slice none 0 0,.bool false,.slice none 0 0,.bool false,.slice none 0 0,.slice none 0 0] rfl).put 2 (.slice d z.length j) #[.string a,.bool A,.slice d z.length j,.bool false,.slice none 0 0,.bool false,.slice none 0 0,.slice none 0 0] rfl;obtain⟨⟨v5,v6,v7,v8⟩,_,_,_⟩:=C6.cells)
   | (go_at_call 126;refine (a7 wc (c.out wc _ _ _ C4)).mono ?_;rintro e w5 ⟨rfl,l5⟩;have C5:=C4.below l5))
  have s0:=C5.size;have s2:=C7.size;have s3:=C9.size;have m0:=M.size;have kA:Kp (w.heap.size+5) w6 w7:=((Kp.set w6 1 _ (by omega)).trans (Kp.set _ 2 _ (by omega))).trans (Kp.below g4);have kB:Kp (w.heap.size+5) w7 w8:=Kp.grown g8 (by omega);have kC:Kp (w.heap.size+5) w8 w9:=((Kp.set w8 3 _ (by omega)).trans (Kp.set _ 4 _ (by omega))).trans (Kp.below g5);have kD:Kp (w.heap.size+5) w9 i3:=Kp.grown g10 (by omega);have kE:Kp (w.heap.size+5) i3 c3:=((Kp.set i3 5 _ (by omega)).trans (Kp.set _ 6 _ (by omega))).trans (Kp.below V);have kF:Kp (w.heap.size+5) c3 Y:=Kp.grown g12 (by omega);have kG:Kp (w.heap.size+5) Y (Y.setCell ⟨w.heap.size+3,7,none⟩ (.slice p t.cs.length q)):=Kp.set Y 7 _ (by omega);have F:=c6.put 7 (.slice p t.cs.length q) #[.string a,.bool A,.slice d z.length j,.bool E,.slice m B.length o,.bool K,.slice r G.length s,.slice p t.cs.length q] rfl;obtain⟨c4,l8⟩:∃x,Y.setCell ⟨w.heap.size+3,7,none⟩ (.slice p t.cs.length q)=x:=⟨_,rfl⟩;rw[l8] at kG F |-
  have rows:vS c4 (w.heap.size+5) (.slice d z.length j) (.slice m B.length o) (.slice r G.length s) (.slice p t.cs.length q) ⟨a,(A,z),(E,B),(K,G),t.cs,!Rd.xX a || !S1 || !S2 || !S3||t.sh,!P1 || !P2 || !P3||t.pt⟩:=
   ⟨ZV (xA o6 s0) (kA.trans (kB.trans (kC.trans (kD.trans (kE.trans (kF.trans kG)))))).keep,ZV (xA o8 s2) (kC.trans (kD.trans (kE.trans (kF.trans kG)))).keep,ZV (xA h5 s3) (kE.trans (kF.trans kG)).keep,(h6.mono m0).kept kG.keep⟩
  obtain⟨SF,g3⟩:∃x,(!Rd.xX a || !S1 || !S2 || !S3||t.sh)=x:=⟨_,rfl⟩;obtain⟨PF,f9⟩:∃x,(!P1 || !P2 || !P3||t.pt)=x:=⟨_,rfl⟩;have U:=g3;rw[k6.out] at U;rw[U,Ji,f9] at F
  have p0:Hid (∀W,Below w.heap.size w W->(∀i,w.heap.size+2<=i->W.heap[i]?=c4.heap[i]?)->JA w ⟨a,(A,z),(E,B),(K,G),t.cs,!Rd.xX a || !S1 || !S2 || !S3||t.sh,!P1 || !P2 || !P3||t.pt⟩ (.returned (.tuple #[.agg #[.string a,.bool A,.slice d z.length j,.bool E,.slice m B.length o,.bool K,.slice r G.length s,.slice p t.cs.length q],.agg #[.bool SF,.bool PF]])) W.drew):=by
   refine hid (λW hb hk=>⟨_,_,_,_,?_,hb.drew,(rows.kept (w':=W.drew) (λi hi _=>hk i (by omega))).mono (by omega)⟩);simp only[g3,f9]
  obtain⟨_,⟨y0,y1,y2,y3,y4,y5,y6,y7⟩,_,⟨f0,f1,_⟩⟩:=F.cells;obtain⟨⟨t0,t1,t2,t3,t4,t5,t6,t7⟩,⟨u0,u1⟩,u,i4⟩:=F.res;have G9:=u 0;have H0:=u 1;have H1:=u 2;have H2:=u 3;have H3:=u 4;have H4:=u 5;have H5:=u 6;have H6:=u 7;have H8:=i4 0;have H9:=i4 1;have FA:=F.fin (.string a) (.bool A) (.slice d z.length j) (.bool E) (.slice m B.length o) (.bool K) (.slice r G.length s) (.slice p t.cs.length q) (.bool SF) (.bool PF);have k5:=hid FA;clear FA u i4 F kA kB kC kD kE kF kG l5 g6 f6 o6 g4 g8 f8 o8 g5 g10 f10 h5 V g12 f12 h6 C4 C5 C6 D6 C7 C8 D8 C9 Z c8 M c6 a7 a8 a9 b0 j2 j7 j8 j9 h7 h8 h9 i2 v5 v6 v7 v8 v9 w4 x1 x2 x3 x4 x5 x6 r1 r2 r3 r4 r5 r6 r7 z1 z2 z3 z4 z5 z6 z7 rows g3 f9 U k6 hcut
  go_region
  go_wp2_with fail
  change bodyPost _ _ _ _ _ (set2 (vN c4 w.heap.size (.string a) (.bool A) (.slice d z.length j) (.bool E) (.slice m B.length o) (.bool K) (.slice r G.length s) (.slice p t.cs.length q)) (w.heap.size+1) (.bool SF) (.bool PF)).drew
  obtain⟨k1,k2,L,k4⟩:=k5.out;clear k5;generalize set2 (vN c4 w.heap.size (.string a) (.bool A) (.slice d z.length j) (.bool E) (.slice m B.length o) (.bool K) (.slice r G.length s) (.slice p t.cs.length q)) (w.heap.size+1) (.bool SF) (.bool PF)=wF at k1 k2 L k4 |-;have e0:wF.cell? ⟨w.heap.size,0,none⟩=some (.string a):=(zg L 0).1;have e1:wF.cell? ⟨w.heap.size,1,none⟩=some (.bool A):=(zg L 1).1;have e2:wF.cell? ⟨w.heap.size,2,none⟩=some (.slice d z.length j):=(zg L 2).1;have e3:wF.cell? ⟨w.heap.size,3,none⟩=some (.bool E):=(zg L 3).1;have e4:wF.cell? ⟨w.heap.size,4,none⟩=some (.slice m B.length o):=(zg L 4).1;have e5:wF.cell? ⟨w.heap.size,5,none⟩=some (.bool K):=(zg L 5).1;have e6:wF.cell? ⟨w.heap.size,6,none⟩=some (.slice r G.length s):=(zg L 6).1;have e7:wF.cell? ⟨w.heap.size,7,none⟩=some (.slice p t.cs.length q):=(zg L 7).1;have e8:wF.cell? ⟨w.heap.size+1,0,none⟩=some (.bool SF):=(zg k4 0).1;have e9:wF.cell? ⟨w.heap.size+1,1,none⟩=some (.bool PF):=(zg k4 1).1;exact zN (v := .tuple #[.agg #[.string a,.bool A,.slice d z.length j,.bool E,.slice m B.length o,.bool K,.slice r G.length s,.slice p t.cs.length q],.agg #[.bool SF,.bool PF]]) (by simp[results,results127,go_sem,e0,e1,e2,e3,e4,e5,e6,e7,e8,e9]) rfl (p0.out wF k1 k2)
theorem PH(i:Nat)(c:World)(base b a cap:Nat)(ns:List Ref.Node)(n:Ref.Node)(w:World)(d:vv c base b a cap ns w)(hi:ns[i]?=some n) :
  Calls prog 127 #[.pointer (some ⟨b,0,none⟩),.int .i64 (i:Int)] w (JA w (Rd.uU ns n)):=by
 by_cases h:Ref.yB n [Rd.zH,Rd.zS,Rd.bDo,Rd.bOn,Rd.bIf]=false\/Ref.zq n Rd.zH<0\/Ref.kindOf ns (Ref.zq n Rd.zH)≠3
 ·have e:Rd.uU ns n=Rd.ji:=by unfold Rd.uU;rw[zb h]
  rw[e];exact PI i c base b a cap ns n w d hi h
 ·exact PK i c base b a cap ns n w d hi h
def RSt(w:World)(base:Nat)(xs:List Value)(j:Nat)(R:Rd.qa):Prop:=
 ∃a b c d,xs[j*8]?=some (.string R.eff)/\xs[j*8+1]?=some (.bool R.who.1)/\xs[j*8+2]?=some a/\xs[j*8+3]?=some (.bool R.act.1)/\xs[j*8+4]?=some b/\xs[j*8+5]?=some (.bool R.on.1)/\xs[j*8+6]?=some c/\xs[j*8+7]?=some d/\vS w base a b c d R
def yQ(w:World)(base:Nat)(lv:Value)(rs:List Rd.qa):Prop:=
 ∃xs,w.ownsRow base 249 8 lv rs.length xs/\∀j,(h:j<rs.length)->RSt w base xs j rs[j]
theorem yQ.nil(w:World)(base:Nat):yQ w base (.slice none 0 0) []:=⟨[],qD _ _ _ _,λj a=>by simp at a⟩
theorem yQ.kept{w w':World}{base:Nat}{lv:Value}{rs:List Rd.qa}(h:yQ w base lv rs)(a:∀i,base<=i->i<w.heap.size->w'.heap[i]?=w.heap[i]?):yQ w' base lv rs:=by
 obtain⟨xs,n,o⟩:=h;refine⟨xs,ZV n a,λj p=>?_⟩;obtain⟨q,r,s,t,b,c,d,f,g,k,l,m,e⟩:=o j p;exact⟨q,r,s,t,b,c,d,f,g,k,l,m,e.kept a⟩
theorem yQ.mono{w:World}{base a:Nat}{lv:Value}{rs:List Rd.qa}(h:yQ w base lv rs)(hb:a<=base):yQ w a lv rs:=by
 obtain⟨xs,m,n⟩:=h;refine⟨xs,xA m hb,λj o=>?_⟩;obtain⟨p,q,r,s,b,c,d,f,g,i,k,l,e⟩:=n j o;exact⟨p,q,r,s,b,c,d,f,g,i,k,l,e.mono hb⟩
theorem xS.other{W g:World}{base c:Nat}{e:TypeId}{size n:Nat}{lv f:Value}{xs:List Value}{cs:List Ref.qg}(own:W.ownsRow base e size lv n xs)(h:xS W c f cs)(i:e≠332)(k:e≠9)(d:W.grownBy g lv.ownBlock):xS g c f cs:=by
 obtain⟨o,a,b⟩:=h;refine⟨o,QX own a i d,λj m=>?_⟩;obtain⟨l,p,q,r,s,t⟩:=b j m;exact⟨l,p,q,r,s,QX own t k d⟩
theorem vS.other{W g:World}{base a:Nat}{lv c d e f:Value}{n:Nat}{xs:List Value}{R:Rd.qa}(own:W.ownsRow base 249 8 lv n xs)(h:vS W a c d e f R)(b:W.grownBy g lv.ownBlock):vS g a c d e f R:=
 ⟨QX own h.1 (by decide) b,QX own h.2.1 (by decide) b,QX own h.2.2.1 (by decide) b,h.2.2.2.other own (by decide) (by decide) b⟩
theorem yQ.snoc{W l:World}{base:Nat}{lv m d f g i:Value}{rs:List Rd.qa}{xs:List Value}(own:W.ownsRow base 249 8 lv rs.length xs)(w:∀j,(h:j<rs.length)->RSt W base xs j rs[j])(R:Rd.qa)(v:vS W base d f g i R)
  (a:W.grownBy l lv.ownBlock)(c:l.ownsRow base 249 8 m (rs.length+1) (xs++[.string R.eff,.bool R.who.1,d,.bool R.act.1,f,.bool R.on.1,g,i])):yQ l base m (rs++[R]):=by
 have b:xs.length=rs.length*8:=own.1;refine⟨_,by rw[qA];exact c,λj x=>?_⟩;rw[qA,vQ] at x
 by_cases hlt:j<rs.length
 ·rw[List.getElem_append_left hlt];obtain⟨d,f,g,i,n,o,p,q,r,s,t,u,e⟩:=w j hlt;refine⟨d,f,g,i,?_,?_,?_,?_,?_,?_,?_,?_,e.other own a⟩
  ·rw[xK (by omega)];exact n
  ·rw[xK (by omega)];exact o
  ·rw[xK (by omega)];exact p
  ·rw[xK (by omega)];exact q
  ·rw[xK (by omega)];exact r
  ·rw[xK (by omega)];exact s
  ·rw[xK (by omega)];exact t
  ·rw[xK (by omega)];exact u
 ·have k:j=rs.length:=by omega
  subst k;rw[List.getElem_append_right (ze _)];simp only[Nat.sub_self,fD];refine⟨d,f,g,i,?_,?_,?_,?_,?_,?_,?_,?_,v.other own a⟩
  ·rw[xZ (by omega),b,Nat.sub_self];rfl
  ·rw[xZ (by omega),b,show rs.length*8+1-rs.length*8=1 by omega];rfl
  ·rw[xZ (by omega),b,show rs.length*8+2-rs.length*8=2 by omega];rfl
  ·rw[xZ (by omega),b,show rs.length*8+3-rs.length*8=3 by omega];rfl
  ·rw[xZ (by omega),b,show rs.length*8+4-rs.length*8=4 by omega];rfl
  ·rw[xZ (by omega),b,show rs.length*8+5-rs.length*8=5 by omega];rfl
  ·rw[xZ (by omega),b,show rs.length*8+6-rs.length*8=6 by omega];rfl
  ·rw[xZ (by omega),b,show rs.length*8+7-rs.length*8=7 by omega];rfl
theorem Om(text:BY)(h:(qC text).1=0):Ref.NoN (qC text).2.2.nodes:=by
 obtain⟨R,a⟩:=Nm (qC text);rw[a] at h |-;unfold qC at a
 by_cases h1:4000<text.size
 ·rw[zb h1] at a;subst a;simp at h
 rw[za h1] at a
 by_cases h2:(Ref.run Ref.init text.data.toList 0).1≠0
 ·rw[zb h2] at a;subst a;exact absurd h h2
 rw[za h2] at a
 by_cases h3:(Ref.run Ref.init text.data.toList 0).2.2.state≠6\/(Ref.run Ref.init text.data.toList 0).2.2.opn≠[]
 ·rw[zb h3] at a;subst a;simp at h
 rw[za h3] at a;subst a
 have b:(Ref.run Ref.init text.data.toList 0).1=0:=by
  by_cases e:(Ref.run Ref.init text.data.toList 0).1=0
  ·exact e
  ·exact absurd e h2
 exact (Ref.rR text.data.toList Ref.init 0 Ref.Gu aR b).non
def Vg(ns:List Ref.Node)(root:Nat):List Rd.qa:=match ns[root]? with
 | none=>[]
 | some r=>match ns[(Ref.zq r Rd.yF).toNat]? with
  | none=>[]
  | some n=>Rd.vY ns n.kids
def UJ(text:BY):List Rd.qa:=Vg (qC text).2.2.nodes (qC text).2.2.root.toNat
theorem Ro(ns:List Ref.Node)(ks:List Nat)(j:Nat)(a:j<ks.length)(x:Ref.Node)(b:ns[ks[j]]?=some x):Rd.vY ns (ks.take (j+1))=Rd.vY ns (ks.take j)++[Rd.uU ns x]/\Rd.vY ns (ks.drop j)=Rd.uU ns x::Rd.vY ns (ks.drop (j+1)):=by
 constructor
 ·rw[Xe,zn a];unfold Rd.vY;rw[uG];simp[b]
 ·rw[vw a];unfold Rd.vY;rw[yh,b]
theorem EU(r:Rd.qa)(rs:List Rd.qa)(i:Nat):Rd.kL (r::rs) i=if r.sh then (5,i+1) else if r.pt then (6,i+1) else Rd.kL rs (i+1):=rfl
theorem Rb(w:World)(O P:Obj)(t:TypeId)(a b c d e f g h:Value):∀(j:Nat) (u:Value),[a,b,c,d,e,f,g,h][j]?=some u->(((w.alloc O).alloc P).alloc (.cells #[a,b,c,d,e,f,g,h] t)).cell? ((⟨w.heap.size+1+1,0,none⟩:Addr).add j)=some u:=by
 have h:=VP (base:=w.heap.size) (e:=t) (size:=8) ((w.alloc O).alloc P) #[a,b,c,d,e,f,g,h] 1 (by simp;omega) (by decide) rfl;rw[jT,jT] at h;exact λj u i=>h.cells (g:=w.heap.size+1+1) rfl j u i
theorem Rs{wr a:World}{B:Nat}{lv e f g k:Value}{done:List Rd.qa}{R:Rd.qa}(O P Q:Obj)(h:yQ wr B lv done)(n:B<=wr.heap.size)(c:Below wr.heap.size wr a)(o:vS a wr.heap.size e f g k R) :
  ∃xs,(((a.alloc O).alloc P).alloc Q).ownsRow B 249 8 lv done.length xs/\(∀j,(h:j<done.length)->RSt (((a.alloc O).alloc P).alloc Q) B xs j done[j])/\vS (((a.alloc O).alloc P).alloc Q) B e f g k R:=by
 have d:Below a.heap.size a (((a.alloc O).alloc P).alloc Q):=((nbl _ _).alloc (by simp) _).alloc (by simp;omega) _;obtain⟨xs,l,m⟩:=(h.kept (λi hi b=>c.block i b)).kept (λi hi b=>d.block i b);exact⟨xs,l,m,(o.mono n).kept (λi hi b=>d.block i b)⟩
theorem Tryz.infoRStmt:(prog.info? 249).map (λi=>(i.zero,i.size,i.bytes))=some (some (.agg #[.string ⟨#[]⟩,.bool false,.slice none 0 0,.bool false,.slice none 0 0,.bool false,.slice none 0 0,.slice none 0 0]),8,136):=by kernel_rfl
def U7(w:World)(A:Int×Nat)(rs:List Rd.qa)(e:Ending)(w':World):Prop:=
 ∃lv,e = .returned (.tuple #[lv,.int .i64 A.1,.int .i64 (A.2:Int)])/\Below w.heap.size w w'/\(A.1=0->yQ w' w.heap.size lv rs)
theorem Dx(text:BY)(w:World)(ht:text.size<=maxLen) :
  Calls prog 78 #[.string text] w (U7 w (Rd.xe text) (UJ text)):=by
 have cR:=Ov text w ht;have P:=Ol text
 by_cases h0:(qC text).1≠0
 ·have ha:=P.2 h0;rw[<- ha];obtain⟨E,hE⟩:∃x,(qC text).1=x:=⟨_,rfl⟩;obtain⟨AT,X⟩:∃x,(qC text).2.1=x:=⟨_,rfl⟩;rw[hE,X] at cR |-;rw[hE] at h0;have hb:(E != 0)=true:=by simp[h0]
  have H0:=hid h0;clear P ha hE X h0;go_enter func78,ntmps78
  go_wp2_with (go_at_call 125;refine cR.mono ?_;rintro e w1 ⟨p,rfl,d9,_⟩)
  go_ret3;exact⟨_,rfl,d9,λe=>absurd e H0.out⟩
 have hz:(qC text).1=0:=by
  by_cases e:(qC text).1=0
  ·exact e
  ·exact absurd e h0
 have ha:=P.1 hz;obtain⟨h2,h3,l5,h4,h5⟩:=Oo text hz;have c6:=Om text hz;unfold UJ;rw[<- ha];obtain⟨E,hE⟩:∃x,(qC text).1=x:=⟨_,rfl⟩;obtain⟨AT,X⟩:∃x,(qC text).2.1=x:=⟨_,rfl⟩;obtain⟨m,hm⟩:∃x,(qC text).2.2=x:=⟨_,rfl⟩;rw[hE,X,hm] at cR;rw[hm] at h2 h3 l5 h4 h5 c6 |-;rw[hE] at hz;subst hz;obtain⟨ri,e5⟩:∃r:Nat,m.root=(r:Int):=⟨m.root.toNat,by omega⟩;rw[e5] at h4;have k4:ri<m.nodes.length:=by omega
 have k7:m.root.toNat=ri:=by rw[e5];simp
 rw[k7];have s:=zn k4;obtain⟨r,hr⟩:∃x,m.nodes[ri]=x:=⟨_,rfl⟩;rw[hr] at s;obtain⟨D,Y⟩:∃x,Rd.JK m.nodes ri=x:=⟨_,rfl⟩;obtain⟨RS,o⟩:∃x,Vg m.nodes ri=x:=⟨_,rfl⟩;rw[Y,o];unfold Rd.JK at Y;unfold Vg at o;rw[s] at Y o;simp only at Y o
 have f1:Hid (∀(w1:World) (b:Nat) (ov nv:Value) (vs:List (Value×Value)),zP w1 w.heap.size b m ov nv vs->Ref.Bnd 4000 m->∃gg cap,vv w1 w.heap.size b gg cap m.nodes w1/\w1.cell? ⟨b,10,none⟩=some (.int .i64 (ri:Int))):=by
  refine hid (λw1 b ov nv vs hM hB=>?_);obtain⟨gg,cap,p2⟩:=hM.rd h3 h2 hB h5;refine⟨gg,cap,⟨p2,c6,zf _ _⟩,?_⟩;rw[<- e5];exact (hM.cell 10).1
 have CR:=hid cR;obtain⟨f,y,Q,t⟩:=r;simp only at Y o;obtain⟨K,hK⟩:∃x,Ref.zq ⟨f,y,Q,t⟩ Rd.yF=x:=⟨_,rfl⟩;rw[hK] at Y o;have HD:=hid Y;have i7:=hid o;have HK:=hid hK;have G:=hid s;clear Y o hK hr s cR P ha h2 h3 l5 h4 h5 c6 hm hE X h0 e5 k7;go_enter func78,ntmps78
 go_upto_region 4 with (go_at_call 125;refine CR.out.mono ?_;rintro e w1 ⟨p,rfl,d9,hM⟩;obtain⟨b,ov,nv,vs,rfl,hM,hB⟩:=hM rfl;obtain⟨gg,cap,hE,V⟩:=f1.out w1 b ov nv vs hM hB;have h9:=hid d9;have HE:=hid hE;clear hM hB d9 hE)
 obtain⟨⟨v1,v2⟩,⟨na,nc,k8⟩,⟨ka,kc,T⟩,a0,cH,cO⟩:=JV HE.out G.out;simp only at k8 T;subst k8;subst T;have e7:=HE.out.at.slice;have hlen:=HE.out.rd.len;have kB:=Ref.jC HE.out.rd.ev G.out Rd.yF;rw[HK.out] at kB;obtain⟨a1,a2,a3,a4⟩:=a0 w1 (zf _ _);simp only at a1 a2 a3 a4;unfold ZR at cH;simp only at cH;have d8:=λW h=>cH W Rd.yF h;simp only[HK.out] at d8;unfold Rd.yF at d8;obtain⟨nl,g7⟩:=Nm m.nodes.length;rw[g7] at e7 k4 kB hlen;have n8:=hid g7;have i0:(0:Int)<=(ri:Int):=zZ _;have i1:(ri:Int)<(nl:Int):=by omega
 have f6:=hid d8;obtain⟨rn,g8⟩:∃x,Q.length=x:=⟨_,rfl⟩;rw[g8] at a3 f6;have g6:=HD.out;rw[g8] at g6;have U:=hid g6;clear cH cO d8 a0 g6 HD g7 g8;have bA:Below w1.heap.size w1 (w1.alloc (.cells #[.int .i64 f,.string y,.slice na rn nc,.slice ka t.length kc] 241)).drew:=(nbl _ _).drew;have nA:=zQ w1 (.cells #[.int .i64 f,.string y,.slice na rn nc,.slice ka t.length kc] 241);have s1:=λO:Obj=>zi (nbl w1 O) e7;have b0:=λO:Obj=>zi (nbl w1 O) V;have b1:=λO:Obj=>zi (nbl w1 O) a1;have b2:=λO:Obj=>zi (nbl w1 O) a2;have b3:=λO:Obj=>zi (nbl w1 O) a3;have b4:=λO:Obj=>zi (nbl w1 O) a4
 go_region
 go_upto_region 6 with (go_at_call 126;refine (f6.out _ bA).mono ?_;rintro e z ⟨rfl,g5⟩)
 have d7:Below w1.heap.size w1 z:=bA.trans (g5.mono (by show w1.heap.size<=(w1.alloc _).heap.size;simp));have n3:z.heap[w1.heap.size]?=some (.cells #[.int .i64 f,.string y,.slice na rn nc,.slice ka t.length kc] 241 (0,0)):=(g5.block _ (by show w1.heap.size<(w1.alloc _).heap.size;simp)).trans nA;have q0:z.cell? ⟨w1.heap.size,0,none⟩=some (.int .i64 f):=(zg n3 0).1;have q2:z.cell? ⟨w1.heap.size,2,none⟩=some (.slice na rn nc):=(zg n3 2).1;have q5:=zi d7 e7;have f4:Below w.heap.size w z:=h9.out.trans (d7.mono h9.out.size);have R:=hid d7;have A:=hid f4;have l:=U.out;clear s1 b0 b1 b2 b3 b4 a1 a2 a3 a4 e7 V bA nA g5 f6 d7 f4 i0 i1 CR f1 G HK
 by_cases c1:f≠1
 ·rw[zb (.inl c1)] at l;have d1:(f != 1)=true:=by simp[c1]
  subst l;clear U
  go_wp2
  go_ret3;exact⟨_,rfl,A.out,λe=>by simp at e⟩
 rw[Ne,Vw] at c1;subst c1
 by_cases c2:rn≠1
 ·rw[zb (.inr (.inl c2))] at l;have d2:((rn:Int) != 1)=true:=by simp;omega
  subst l;clear U
  go_wp2
  go_ret3;exact⟨_,rfl,A.out,λe=>by simp at e⟩
 rw[Ne,Vw] at c2;subst c2
 by_cases c3:K<0
 ·rw[zb (.inr (.inr c3))] at l;have d3:decide (K<0)=true:=zC c3;subst l;clear U
  go_wp2
  go_ret3;exact⟨_,rfl,A.out,λe=>by simp at e⟩
 rw[za (by simp;omega)] at l;have d3:decide (K<0)=false:=zO c3;obtain⟨kj,rfl⟩:∃k:Nat,K=(k:Int):=⟨K.toNat,by omega⟩;have o9:kj<m.nodes.length:=by have:=kB.2;rw[n8.out];omega
 have S:=zn o9;obtain⟨nd,k3⟩:∃x,m.nodes[kj]=x:=⟨_,rfl⟩;rw[k3] at S;have e6:=i7.out;simp only[xQ,S] at l e6;obtain⟨v,a1,a2,a3,a4,a5,a6⟩:=HE.out.rd.node kj _ S;obtain⟨v1,v2⟩:=v;obtain⟨kind,N,ss,ks⟩:=nd;simp only at a1 a2 a3 a4 a5 a6 l e6;obtain⟨e9,f0,T,cK⟩:=yU a6;obtain⟨g9,h1,rfl,_⟩:=yU a5;obtain⟨M,e4⟩:=Nm ks.length;rw[e4] at T cK l;rw[T] at a4
 replace a1:=zi R.out a1
 replace a2:=zi R.out a2
 replace a3:=zi R.out a3
 replace a4:=zi R.out a4
 have k5:=(HE.out.rd.small kj _ S).1;simp only at k5;rw[e4] at k5;have CK:=hid cK;have HN:=hid S;have g0:=hid e4;have B:=hid l;have i8:=hid e6;have k0:(0:Int)<=(kj:Int):=zZ _;have k1:(kj:Int)<(nl:Int):=kB.2;clear a5 a6 cK T k3 S l e6 U i7 e4 kB c3;have z3:w.heap.size<=z.heap.size:=A.out.size
 by_cases e1:kind≠2
 ·have l:=B.out;rw[zb (.inl e1)] at l;have d4:(kind != 2)=true:=by simp[e1]
  subst l;clear B
  go_wp2
  go_ret3;exact⟨_,rfl,A.out.alloc z3 _,λe=>by simp at e⟩
 rw[Ne,Vw] at e1;subst e1
 by_cases e2:M<1
 ·have l:=B.out;rw[zb (.inr (.inl e2))] at l;have d4:decide ((M:Int)<1)=true:=by simp;omega
  subst l;clear B
  go_wp2
  go_ret3;exact⟨_,rfl,A.out.alloc z3 _,λe=>by simp at e⟩
 have d4:decide ((M:Int)<1)=false:=by simp;omega
 by_cases e3:10<M
 ·have l:=B.out;rw[zb (.inr (.inr e3))] at l;have d5:decide (10<(M:Int))=true:=by simp;omega
  subst l;clear B
  go_wp2
  go_ret3;exact⟨_,rfl,A.out.alloc z3 _,λe=>by simp at e⟩
 have d5:decide (10<(M:Int))=false:=by simp;omega
 have l:=B.out;rw[za (by omega)] at l;have i3:=hid l;clear l B;obtain⟨i0,hi,p3,p4,p5⟩:=qP Tryz.infoRStmt;have c5:=zQ z (.cells #[.int .i64 2,.string N,.slice g9 ss.length h1,.slice e9 M f0] 241);have i4:=hid c5;clear c5;go_wp2_with fail
 go_loopw [11,12] (λlv jv wr=>∃(j:Nat),j<=M/\jv = .int .i64 j/\yQ wr (z.heap.size+1) lv (Rd.vY m.nodes (ks.take j))/\D=Rd.kL (Rd.vY m.nodes (ks.drop j)) j /\
   Below (z.heap.size+1) (z.alloc (.cells #[.int .i64 2,.string N,.slice g9 ss.length h1,.slice e9 M f0] 241)) wr) (λ_ jv _=>M-(intOf jv).toNat)
 case atStart=>exact⟨0,by omega,rfl,yQ.nil _ _,by rw[<- i3.out];rfl,zf _ _⟩
 case round=>
  obtain⟨j,hj,rfl,j8,Y,e0⟩:=hrel;have c8:=hid j8;have f9:=hid Y;have i2:=hid e0;have nr:wr.heap[z.heap.size]?=some (.cells #[.int .i64 2,.string N,.slice g9 ss.length h1,.slice e9 M f0] 241 (0,0)):=(e0.block _ (by omega)).trans i4.out;have c3:wr.cell? ⟨z.heap.size,3,none⟩=some (.slice e9 M f0):=(zg nr 3).1;have p0:z.heap.size+1<=wr.heap.size:=zy nr;have g3:Below z.heap.size z wr:=(nbl z _).trans (e0.mono (by omega));have g2:Below w1.heap.size w1 wr:=R.out.trans (g3.mono R.out.size);have i9:Below w.heap.size w wr:=A.out.trans (g3.mono z3);have i:=hid i9;clear j8 Y e0 a1 a2 a3 a4 q5 q0 q2 i3 i4 nr
  by_cases hlt:j<M
  ·obtain⟨g,rfl,q1⟩:=CK.out j hlt;have l1:j<ks.length:=by rw[g0.out];exact hlt
   rw[xY,Ref.J5 ks j l1] at q1;have a7:=HE.out.rd.kid HN.out j l1;simp only at a7;have hx:=zn a7;obtain⟨x,k9⟩:=Nm (m.nodes[ks[j]]);rw[k9] at hx;obtain⟨e8,k6⟩:=Ro m.nodes ks j l1 x hx;have q2:=zi g2 q1;have cc:=PH ks[j] w1 w.heap.size b gg cap m.nodes x wr ⟨HE.out.rd,HE.out.non,g2⟩ hx;have Z:=f9.out;rw[k6,EU] at Z;obtain⟨kid,k2⟩:∃c,ks[j]=c:=⟨_,rfl⟩;rw[k2] at q2 cc;obtain⟨C,hC⟩:=Nm (Rd.uU m.nodes x);rw[hC] at cc Z e8;obtain⟨done,H⟩:∃d,Rd.vY m.nodes (ks.take j)=d:=⟨_,rfl⟩;have o8:done.length=j:=by rw[<- H];unfold Rd.vY;rw[qB,yZ,g0.out];omega
   rw[H] at c8 e8;have n9:=hid e8;obtain⟨eff,⟨N1,L1⟩,⟨N2,L2⟩,⟨N3,L3⟩,cs,o5,o4⟩:=C;simp only at Z;have f7:=hid Z;have CC:=hid cc;clear q1 hx k9 a7 hC H k2 cc e8 k6 Z f9 g2 g3 i9
   cases o5 with
   | true=>
    have F:=f7.out;rw[zb rfl] at F;subst F
    go_wp2_with (go_at_call 127;refine CC.out.mono ?_;rintro e w2 ⟨l1,l2,l3,lc,rfl,q,a⟩;obtain⟨a9,b8,rfl⟩:=yt a.1;obtain⟨b5,b9,rfl⟩:=yt a.2.1;obtain⟨b6,c0,rfl⟩:=yt a.2.2.1;obtain⟨b7,c4,rfl⟩:=a.2.2.2.slice;have n:=hid q;clear a q)
    go_ret3;exact⟨_,by go_num,((i.out.trans (n.out.mono i.out.size)).alloc (qZ i.out.size n.out.size) _).alloc (by simp;have:=i.out.size;have:=n.out.size;omega) _,λe=>by simp at e⟩
   | false=>
    have I:=f7.out;rw[za (by simp)] at I;have f8:=hid I;clear I f7
    cases o4 with
    | true=>
     have F:=f8.out;rw[zb rfl] at F;subst F
     go_wp2_with (go_at_call 127;refine CC.out.mono ?_;rintro e w2 ⟨l1,l2,l3,lc,rfl,q,a⟩;obtain⟨a9,b8,rfl⟩:=yt a.1;obtain⟨b5,b9,rfl⟩:=yt a.2.1;obtain⟨b6,c0,rfl⟩:=yt a.2.2.1;obtain⟨b7,c4,rfl⟩:=a.2.2.2.slice;have n:=hid q;clear a q)
     go_ret3;exact⟨_,by go_num,((i.out.trans (n.out.mono i.out.size)).alloc (qZ i.out.size n.out.size) _).alloc (by simp;have:=i.out.size;have:=n.out.size;omega) _,λe=>by simp at e⟩
    | false=>
     have L:=f8.out;rw[za (by simp)] at L;have g1:=hid L;clear L f8
     go_wp2_with (first
      | (go_at_call 127;refine CC.out.mono ?_;rintro e w2 ⟨l1,l2,l3,lc,rfl,q,a⟩;obtain⟨a9,b8,rfl⟩:=yt a.1;obtain⟨b5,b9,rfl⟩:=yt a.2.1;obtain⟨b6,c0,rfl⟩:=yt a.2.2.1;obtain⟨b7,c4,rfl⟩:=a.2.2.2.slice;obtain⟨xs,ro,rc,r3⟩:=Rs (.cells #[.string eff,.bool N1,.slice a9 L1.length b8,.bool N2,.slice b5 L2.length b9,.bool N3,.slice b6 L3.length c0,.slice b7 cs.length c4] 249) (.cells #[.bool false,.bool false] 251) (.cells #[.string eff,.bool N1,.slice a9 L1.length b8,.bool N2,.slice b5 L2.length b9,.bool N3,.slice b6 L3.length c0,.slice b7 cs.length c4] 249) c8.out p0 q a;have n:=hid q;have RO:=hid ro;have RC:=hid rc;have R3:=hid r3;have r7:=q.size;clear a q ro rc r3)
      | (at_builtin;refine yK _ rfl _ _ 167 rfl (z.heap.size+1) 249 i0 (.agg #[.string ⟨#[]⟩,.bool false,.slice none 0 0,.bool false,.slice none 0 0,.bool false,.slice none 0 0,.slice none 0 0]) 8 136 underlying167 hi p3 p4 p5 rfl (by decide) _ done.length xs rfl RO.out ⟨w2.heap.size+1+1,0,none⟩ 1 1 [.string eff,.bool N1,.slice a9 L1.length b8,.bool N2,.slice b5 L2.length b9,.bool N3,.slice b6 L3.length c0,.slice b7 cs.length c4] rfl rfl ?_ ?_ ?_ ?_ ?_ ?_))
     ·exact Rb _ _ _ _ _ _ _ _ _ _ _ _
     ·intro u hu;simp at hu;rcases hu with rfl|rfl|rfl|rfl|rfl|rfl|rfl|rfl<;>rfl
     ·unfold maxLen;omega
     ·omega
     ·simp;omega
     ·intro v' w4 a8 J _;have i5:=hid (yQ.snoc RO.out RC.out ⟨eff,(N1,L1),(N2,L2),(N3,L3),cs,false,false⟩ R3.out J (by rw[o8];exact a8));have i6:Hid (yQ w4 (z.heap.size+1) v' (Rd.vY m.nodes (ks.take (j+1)))):=by rw[n9.out];exact i5
      have n6:=hid (i2.out.trans (((((n.out.mono (by omega)).alloc (by omega) _).alloc (by simp;omega) _).alloc (by simp;omega) _).grown J (by simp;omega) (λk hk=>(RO.out.lt k hk).1)));clear a8 J i5 RO RC R3 c8 n i2
      go_wp2
      go_roundw
      case rel=>exact⟨j+1,by omega,by go_num,i6.out,g1.out,n6.out⟩
      case measure=>simp[intOf];omega
  ·have j9:j=ks.length:=by rw[g0.out];omega
   have j2:=f9.out;rw[j9,List.drop_length] at j2;have o:RS=Rd.vY m.nodes (ks.take j):=by rw[j9,List.take_length];exact i8.out.symm
   have o6:D=(0,0):=j2;subst o;subst o6
   go_wp2
   go_ret3;exact⟨_,rfl,i.out,λ_=>c8.out.mono (by omega)⟩
end Go.Proofs.YtagnlbgbnfnapaaGreatDoor
