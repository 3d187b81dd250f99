/- P -/
import Derived.Test.YtdakgnaojakldaaGreatDoorP43
set_option maxRecDepth 100000
set_option maxHeartbeats 4000000
namespace Go.Proofs.YtdakgnaojakldaaGreatDoor
open Go.RowKit
theorem xO.slice {w:World} {base:Nat} {lv:Value} {cs:List Ref.xg} (h:xO w base lv cs):∃a c,lv = .slice a cs.length c:=by
 obtain ⟨xs,h,_⟩:=h
 rcases h.2 with ⟨rfl,h0⟩|⟨g,c,cur,rfl,_⟩
 ·exact ⟨_,_,by rw [h0]⟩
 ·exact ⟨_,_,rfl⟩
structure Kp (B:Nat) (wx wy:World):Prop where
 size:wx.heap.size≤wy.heap.size
 keep:∀i,B≤i→i<wx.heap.size→wy.heap[i]?=wx.heap[i]?
theorem Kp.trans {B:Nat} {a b c:World} (h:Kp B a b) (k:Kp B b c):Kp B a c:=⟨Nat.le_trans h.size k.size,fun i hi hl=>(k.keep i hi (Nat.lt_of_lt_of_le hl h.size)).trans (h.keep i hi hl)⟩
theorem Kp.below {B:Nat} {a b:World} (h:Below a.heap.size a b):Kp B a b:=⟨h.size,fun i _ hl=>h.block i hl⟩
theorem Kp.grown {B fb:Nat} {a b:World} (h:a.grownBy b (some fb)) (hf:fb<B):Kp B a b:=⟨h.size,fun i hi hl=>h.block i hl (by simp;omega)⟩
theorem Kp.set {B b:Nat} (a:World) (o:Nat) (u:Value) (hb:b<B):Kp B a (a.setCell ⟨b,o,none⟩ u):=⟨by simp [World.setCell],fun i hi _=>Below.heap_setCell _ _ _ _ (by simp only;omega)⟩
theorem zcB (s:ByteArray):((s.toList==[97,108,108,111,119])=true∧Rd.zZ s=true)∨((s.toList==[97,108,108,111,119])=false∧(s.toList==[100,101,110,121])=true∧Rd.zZ s=true)∨((s.toList==[97,108,108,111,119])=false∧(s.toList==[100,101,110,121])=false∧Rd.zZ s=false):=by
 unfold Rd.zZ
 cases (s.toList==[97,108,108,111,119])<;>cases (s.toList==[100,101,110,121])<;>simp
def zmt (W:World) (fb:Nat) (sh pt N S P:Bool) (L:List ByteArray) (e:Ending) (w':World):Prop:=
 ∃lv,e = .returned (.agg #[.bool N,lv])∧W.grownBy w' (some fb)∧qW w' fb (sh || !S) (pt || !P)∧w'.ownsRow W.heap.size 9 1 lv L.length (Ref.strCells L)
theorem zb7 (i:Nat) (w0:World) (base b gg cap:Nat) (ns:List Ref.Node) (n:Ref.Node) (w:World) (hE:jR w0 base b gg cap ns w) (hi:ns[i]?=some n)
  (hgood:¬(Ref.vM n [Rd.zk,Rd.jB,Rd.bDo,Rd.bOn,Rd.bIf]=false∨Ref.zX n Rd.zk<0∨Ref.kindOf ns (Ref.zX n Rd.zk)≠3)) :
  Calls Tryz.prog 61 #[.pointer (some ⟨b,0,none⟩), .int .i64 (i:Int)] w (zbt w (Rd.Xy ns n)):=by
 have hfb:w0.heap.size≤w.heap.size+4:=by have:=hE.bel.size;omega
 obtain ⟨⟨v1,v2⟩,⟨na,nc,hv1⟩,⟨ka,kc,hv2⟩,hcell,cH,cO⟩:=XL hE hi
 simp only at hv1 hv2
 subst hv1
 subst hv2
 have hil:i<ns.length:=(List.getElem?_eq_some_iff.1 hi).1
 have hsl:=hE.at.slice
 have hlen:=hE.rd.len
 have eB:=Ref.xM hE.rd.ev hi Rd.zk
 have wB:=Ref.xM hE.rd.ev hi Rd.jB
 have dB:=Ref.xM hE.rd.ev hi Rd.bDo
 have oB:=Ref.xM hE.rd.ev hi Rd.bOn
 have fB:=Ref.xM hE.rd.ev hi Rd.bIf
 obtain ⟨a1,a2,a3,a4⟩:=hcell w hE.bel
 simp only at a3 a4
 unfold Vb at cH cO
 simp only at cH cO
 obtain ⟨kind,hkind⟩:∃k,n.kind=k:=⟨_,rfl⟩
 obtain ⟨text,htext⟩:∃k,n.text=k:=⟨_,rfl⟩
 obtain ⟨nn,hnn⟩:∃k,n.names.length=k:=⟨_,rfl⟩
 obtain ⟨nk,hnk⟩:∃k,n.kids.length=k:=⟨_,rfl⟩
 rw [hkind] at a1
 rw [htext] at a2
 rw [hnn] at a3
 rw [hnk] at a4
 simp only [hkind,htext,hnn,hnk] at cH cO
 have ST:=XE.start w #[.int .i64 kind, .string text, .slice na nn nc, .slice ka nk kc]
 have bel0:∀wx sc sh pt,XE w #[.int .i64 kind, .string text, .slice na nn nc, .slice ka nk kc] sc sh pt wx→Below w0.heap.size w0 wx:=fun wx _ _ _ h=>hE.bel.trans (h.g.mono hE.bel.size)
 obtain ⟨EF,hEF⟩:∃x,Ref.zX n Rd.zk=x:=⟨_,rfl⟩
 obtain ⟨WH,hWH⟩:∃x,Ref.zX n Rd.jB=x:=⟨_,rfl⟩
 obtain ⟨DO,hDO⟩:∃x,Ref.zX n Rd.bDo=x:=⟨_,rfl⟩
 obtain ⟨OO,hOO⟩:∃x,Ref.zX n Rd.bOn=x:=⟨_,rfl⟩
 obtain ⟨IF,hIF⟩:∃x,Ref.zX n Rd.bIf=x:=⟨_,rfl⟩
 have hON:Ref.vM n [Rd.zk,Rd.jB,Rd.bDo,Rd.bOn,Rd.bIf]=true:=by
  cases e:Ref.vM n [Rd.zk,Rd.jB,Rd.bDo,Rd.bOn,Rd.bIf] with
  | true=>rfl
  | false=>exact absurd (.inl e) hgood
 have hR:Rd.Xy ns n=Rd.Xo (Ref.textOf ns EF) (Ref.qY ns WH) (Ref.qY ns DO) (Ref.qY ns OO) (Ref.QJ ns IF):=by
  unfold Rd.Xy
  rw [if_neg hgood,hEF,hWH,hDO,hOO,hIF]
 rw [hR]
 rw [hEF] at hgood
 have e0:0≤EF:=by
  by_cases h:EF<0
  ·exact absurd (.inr (.inl h)) hgood
  ·omega
 have k3:Ref.kindOf ns EF=3:=by
  by_cases h:Ref.kindOf ns EF=3
  ·exact h
  ·exact absurd (.inr (.inr h)) hgood
 have cH1:=fun W h=>cH W Rd.zk h
 have cH2:=fun W h=>cH W Rd.jB h
 have cH3:=fun W h=>cH W Rd.bDo h
 have cH4:=fun W h=>cH W Rd.bOn h
 have cH5:=fun W h=>cH W Rd.bIf h
 simp only [hEF] at cH1
 simp only [hWH] at cH2
 simp only [hDO] at cH3
 simp only [hOO] at cH4
 simp only [hIF] at cH5
 unfold Rd.zk at cH1
 unfold Rd.jB at cH2
 unfold Rd.bDo at cH3
 unfold Rd.bOn at cH4
 unfold Rd.bIf at cH5
 rw [hEF] at eB
 rw [hWH] at wB
 rw [hDO] at dB
 rw [hOO] at oB
 rw [hIF] at fB
 have cc:∀(k:Int) (W:World) (sh pt:Bool),k<ns.length → -1≤k→Below w0.heap.size w0 W→qW W (w.heap.size+4) sh pt→Calls Tryz.prog 111 #[.pointer (some ⟨b,0,none⟩), .int .i64 k, .pointer (some ⟨w.heap.size+4,0,none⟩)] W (zmt W (w.heap.size+4) sh pt (Ref.qY ns k).1 (Ref.qY ns k).2.isSome (((Ref.qY ns k).2.getD []).all Ref.xY) ((Ref.qY ns k).2.getD [])):=
  fun k W sh pt h1 h2 hb hf=>zf2 k base b gg cap ns (w.heap.size+4) sh pt W (hE.rd.below hb) h1 h2 hf
 have cC1:=fun W sh pt hb hf=>cc WH W sh pt wB.2 wB.1 hb hf
 have cC2:=fun W sh pt hb hf=>cc DO W sh pt dB.2 dB.1 hb hf
 have cC3:=fun W sh pt hb hf=>cc OO W sh pt oB.2 oB.1 hb hf
 have cC4:∀W sh pt,Below w0.heap.size w0 W→qW W (w.heap.size+4) sh pt→Calls Tryz.prog 112 #[.pointer (some ⟨b,0,none⟩), .int .i64 IF, .pointer (some ⟨w.heap.size+4,0,none⟩)] W (za6 W (w.heap.size+4) sh pt (Ref.QJ ns IF)):=
  fun W sh pt hb hf=>VR IF w0 base b gg cap ns (w.heap.size+4) sh pt W ⟨hE.rd,hE.non,hb⟩ fB.2 fB.1 hfb hf
 unfold Rd.Xo Rd.chD Rd.chP
 obtain ⟨CS,hCS⟩:∃x,Ref.QJ ns IF=x:=⟨_,rfl⟩
 rw [hCS]
 simp only [hCS] at cC4
 obtain ⟨A1,hA1⟩:∃x,Ref.qY ns WH=x:=⟨_,rfl⟩
 obtain ⟨A2,hA2⟩:∃x,Ref.qY ns DO=x:=⟨_,rfl⟩
 obtain ⟨A3,hA3⟩:∃x,Ref.qY ns OO=x:=⟨_,rfl⟩
 rw [hA1,hA2,hA3]
 simp only [hA1] at cC1
 simp only [hA2] at cC2
 simp only [hA3] at cC3
 obtain ⟨N1,M1⟩:=A1
 obtain ⟨N2,M2⟩:=A2
 obtain ⟨N3,M3⟩:=A3
 simp only at cC1 cC2 cC3 ⊢
 obtain ⟨L1,hL1⟩:∃x,M1.getD []=x:=⟨_,rfl⟩
 obtain ⟨L2,hL2⟩:∃x,M2.getD []=x:=⟨_,rfl⟩
 obtain ⟨L3,hL3⟩:∃x,M3.getD []=x:=⟨_,rfl⟩
 obtain ⟨S1,hS1⟩:∃x,M1.isSome=x:=⟨_,rfl⟩
 obtain ⟨S2,hS2⟩:∃x,M2.isSome=x:=⟨_,rfl⟩
 obtain ⟨S3,hS3⟩:∃x,M3.isSome=x:=⟨_,rfl⟩
 rw [hL1,hL2,hL3,hS1,hS2,hS3]
 simp only [hL1,hS1] at cC1
 simp only [hL2,hS2] at cC2
 simp only [hL3,hS3] at cC3
 obtain ⟨P1,hP1⟩:∃x,L1.all Ref.xY=x:=⟨_,rfl⟩
 obtain ⟨P2,hP2⟩:∃x,L2.all Ref.xY=x:=⟨_,rfl⟩
 obtain ⟨P3,hP3⟩:∃x,L3.all Ref.xY=x:=⟨_,rfl⟩
 rw [hP1,hP2,hP3]
 simp only [hP1] at cC1
 simp only [hP2] at cC2
 simp only [hP3] at cC3
 have ST1:=ST.below ((Below.refl _ _).alloc (Nat.le_refl _) (.cells #[.string Rd.zk, .string Rd.jB, .string Rd.bDo, .string Rd.bOn, .string Rd.bIf] 9))
 have cO1:=cO _ [Rd.zk,Rd.jB,Rd.bDo,Rd.bOn,Rd.bIf] _ 0 (bel0 _ _ _ _ ST1) (zkI (heap_alloc_new _ _) (Nat.zero_le _)) (by simp)
 rw [hON] at cO1
 simp only [World.size_alloc] at cO1
 unfold Rd.zk Rd.jB Rd.bDo Rd.bOn Rd.bIf at cO1 ST1
 obtain ⟨je,hje,hec⟩:=node_cells hE EF e0 eB.2
 subst hje
 rw [k3] at hec
 obtain ⟨EFF,hEFF⟩:∃x,Ref.textOf ns (je:Int)=x:=⟨_,rfl⟩
 rw [hEFF]
 rw [hEFF] at hec
 obtain ⟨nl,hnl⟩:∃nl,ns.length=nl:=⟨_,rfl⟩
 rw [hnl] at hsl hil hlen eB
 have HNL:=hid hnl
 have HE:=hid hE
 have BEL0:=hid bel0
 have CC1:=hid cC1
 have CC2:=hid cC2
 have CC3:=hid cC3
 have CC4:=hid cC4
 have HEC:=hid hec
 have i0:(0:Int)≤(i:Int):=Int.natCast_nonneg _
 have i1:(i:Int)<(nl:Int):=by omega
 have je0:(0:Int)≤(je:Int):=Int.natCast_nonneg _
 have je1:(je:Int)<(nl:Int):=eB.2
 have d1:decide ((je:Int)<0)=false:=decide_eq_false (by omega)
 clear hE cH hcell hEF hWH hDO hOO hIF hON hkind htext hnn hnk bel0 cO hnl ST hR hgood e0 k3 cc cC1 cC2 cC3 cC4 hCS hA1 hA2 hA3 hL1 hL2 hL3 hS1 hS2 hS3 hP1 hP2 hP3 hec hEFF eB wB dB oB fB
 have s1:=fun O P:Obj=>cell_later (((Below.refl _ w).alloc (Nat.le_refl _) O).alloc (by simp) P) hsl
 have b1:=fun O P:Obj=>cell_later (((Below.refl _ w).alloc (Nat.le_refl _) O).alloc (by simp) P) a1
 have b2:=fun O P:Obj=>cell_later (((Below.refl _ w).alloc (Nat.le_refl _) O).alloc (by simp) P) a2
 have b3:=fun O P:Obj=>cell_later (((Below.refl _ w).alloc (Nat.le_refl _) O).alloc (by simp) P) a3
 have b4:=fun O P:Obj=>cell_later (((Below.refl _ w).alloc (Nat.le_refl _) O).alloc (by simp) P) a4
 go_enter Tryz.func61,Tryz.ntmps61
 go_upto_region 6 with (first
  | (go_at_call 60;refine (cH1 w1 (BEL0.out w1 _ _ _ C1)).mono ?_;rintro e w2 ⟨rfl,hb2⟩;have C2:=C1.below hb2)
  | (go_at_call 110;refine cO1.mono ?_;rintro e w1 ⟨rfl,hb1⟩;have C1:=ST1.below (by simp only [World.size_alloc];exact hb1);obtain ⟨⟨pa0,pa1,pa2,pa3⟩,_,_,_⟩:=C1.cells))
 have bl2:=BEL0.out w2 _ _ _ C2
 have sl2:w2.cell? ⟨b,2,none⟩=some (.slice (some ⟨gg,0,none⟩) nl cap):=by
  have:=(HE.out.rd.below bl2).slice
  rwa [HNL.out] at this
 obtain ⟨m1,m2⟩:=HEC.out w2 bl2
 clear pa0 pa1 pa2 pa3 s1 b1 b2 b3 b4 a1 a2 a3 a4 hsl i0 i1 hb1 hb2 C1 ST1 cH1 cO1
 obtain ⟨_,⟨c0,_⟩,fz,⟨h0,h1,h2⟩⟩:=C2.cells
 have fz0:=fz 0
 have C3:=C2.put 0 (.string EFF) #[.string EFF, .bool false, .slice none 0 0, .bool false, .slice none 0 0, .bool false, .slice none 0 0, .slice none 0 0] rfl
 obtain ⟨_,⟨x0,_⟩,_,⟨y0,y1,y2⟩⟩:=C3.cells
 clear fz
 have WAYS:∃SH:Bool,(!Rd.zZ EFF)=SH∧(((EFF.toList==[97,108,108,111,119])=true∧(EFF.toList != [97,108,108,111,119])=false∧SH=false)∨((EFF.toList==[97,108,108,111,119])=false∧(EFF.toList != [97,108,108,111,119])=true∧(EFF.toList==[100,101,110,121])=true∧(EFF.toList != [100,101,110,121])=false∧SH=false)∨((EFF.toList==[97,108,108,111,119])=false∧(EFF.toList != [97,108,108,111,119])=true∧(EFF.toList==[100,101,110,121])=false∧(EFF.toList != [100,101,110,121])=true∧SH=true)):=by
  refine ⟨_,rfl,?_⟩
  unfold bne
  rcases zcB EFF with ⟨q1,q2⟩|⟨q1,q2,q3⟩|⟨q1,q2,q3⟩
  ·exact .inl ⟨q1,by rw [q1];rfl,by rw [q2];rfl⟩
  ·exact .inr (.inl ⟨q1,by rw [q1];rfl,q2,by rw [q2];rfl,by rw [q3];rfl⟩)
  ·exact .inr (.inr ⟨q1,by rw [q1];rfl,q2,by rw [q2];rfl,by rw [q3];rfl⟩)
 obtain ⟨SH,hSH,ways⟩:=WAYS
 have HSH:=hid hSH
 have C4:=hid (C3.shape SH)
 go_upto_region 10 with fail
 obtain ⟨w3,hw3⟩:∃x,w2.setCell ⟨w.heap.size+3,0,none⟩ (.string EFF)=x:=⟨_,rfl⟩
 rw [hw3] at C4 x0 y0 y1 y2 ⊢
 clear C3 C2 hSH hw3 sl2 m1 m2 c0 h0 h1 h2 fz0 bl2 HEC
 go_cut [] (fun wx=>XE w #[.int .i64 kind, .string text, .slice na nn nc, .slice ka nk kc] #[.string EFF, .bool false, .slice none 0 0, .bool false, .slice none 0 0, .bool false, .slice none 0 0, .slice none 0 0] SH false wx)
 case first=>
  rcases ways with ⟨q1,q2,rfl⟩|⟨q1,q2,q3,q4,rfl⟩|⟨q1,q2,q3,q4,rfl⟩
  all_goals
   go_wp2_with fail
   go_meet
   case rel=>exact C4.out
 case rest=>
  have C4:=hcut
  obtain ⟨⟨pa0,pa1,pa2,pa3⟩,_,_,_⟩:=C4.cells
  go_upto_region 15 with (first
   | (go_at_call 112;refine (CC4.out w11 _ _ (BEL0.out w11 _ _ _ C11) C11.f).mono ?_;rintro e w12 ⟨lcx,rfl,g12,f12,o12⟩;obtain ⟨lca,lcc,rfl⟩:=o12.slice;have C12:=C11.grown g12 f12;obtain ⟨_,⟨_,_,_,_,_,_,_,r7⟩,fz12,_⟩:=C12.cells;have z7:=fz12 7;clear fz12)
   | (go_at_call 60;refine (cH5 _ (BEL0.out _ _ _ _ C10)).mono ?_;rintro e w11 ⟨rfl,hb11⟩;have C11:=C10.below hb11)
   | (go_at_call 111;refine (CC3.out w9 _ _ (BEL0.out w9 _ _ _ C9) C9.f).mono ?_;rintro e w10 ⟨lx3,rfl,g10,f10,o10⟩;obtain ⟨la3,lc3,rfl⟩:=qm o10;have D10:=C9.grown g10 f10;obtain ⟨_,⟨_,_,_,_,_,r5,r6,_⟩,fz10,_⟩:=D10.cells;have z5:=fz10 5;have z6:=fz10 6;clear fz10;have C10:=(D10.put 5 (.bool N3) #[.string EFF, .bool N1, .slice la1 L1.length lc1, .bool N2, .slice la2 L2.length lc2, .bool N3, .slice none 0 0, .slice none 0 0] rfl).put 6 (.slice la3 L3.length lc3) #[.string EFF, .bool N1, .slice la1 L1.length lc1, .bool N2, .slice la2 L2.length lc2, .bool N3, .slice la3 L3.length lc3, .slice none 0 0] rfl;obtain ⟨⟨pd0,pd1,pd2,pd3⟩,_,_,_⟩:=C10.cells)
   | (go_at_call 60;refine (cH4 _ (BEL0.out _ _ _ _ C8)).mono ?_;rintro e w9 ⟨rfl,hb9⟩;have C9:=C8.below hb9)
   | (go_at_call 111;refine (CC2.out w7 _ _ (BEL0.out w7 _ _ _ C7) C7.f).mono ?_;rintro e w8 ⟨lx2,rfl,g8,f8,o8⟩;obtain ⟨la2,lc2,rfl⟩:=qm o8;have D8:=C7.grown g8 f8;obtain ⟨_,⟨_,_,_,r3,r4,_⟩,fz8,_⟩:=D8.cells;have z3:=fz8 3;have z4:=fz8 4;clear fz8;have C8:=(D8.put 3 (.bool N2) #[.string EFF, .bool N1, .slice la1 L1.length lc1, .bool N2, .slice none 0 0, .bool false, .slice none 0 0, .slice none 0 0] rfl).put 4 (.slice la2 L2.length lc2) #[.string EFF, .bool N1, .slice la1 L1.length lc1, .bool N2, .slice la2 L2.length lc2, .bool false, .slice none 0 0, .slice none 0 0] rfl;obtain ⟨⟨pc0,pc1,pc2,pc3⟩,_,_,_⟩:=C8.cells)
   | (go_at_call 60;refine (cH3 _ (BEL0.out _ _ _ _ C6)).mono ?_;rintro e w7 ⟨rfl,hb7⟩;have C7:=C6.below hb7)
   | (go_at_call 111;refine (CC1.out w5 _ _ (BEL0.out w5 _ _ _ C5) C5.f).mono ?_;rintro e w6 ⟨lx1,rfl,g6,f6,o6⟩;obtain ⟨la1,lc1,rfl⟩:=qm o6;have D6:=C5.grown g6 f6;obtain ⟨_,⟨_,r1,r2,_⟩,fz6,_⟩:=D6.cells;have z1:=fz6 1;have z2:=fz6 2;clear fz6;have C6:=(D6.put 1 (.bool N1) #[.string EFF, .bool N1, .slice none 0 0, .bool false, .slice none 0 0, .bool false, .slice none 0 0, .slice none 0 0] rfl).put 2 (.slice la1 L1.length lc1) #[.string EFF, .bool N1, .slice la1 L1.length lc1, .bool false, .slice none 0 0, .bool false, .slice none 0 0, .slice none 0 0] rfl;obtain ⟨⟨pb0,pb1,pb2,pb3⟩,_,_,_⟩:=C6.cells)
   | (go_at_call 60;refine (cH2 wc (BEL0.out wc _ _ _ C4)).mono ?_;rintro e w5 ⟨rfl,hb5⟩;have C5:=C4.below hb5))
  have hz5:=C5.size
  have hz7:=C7.size
  have hz9:=C9.size
  have hz11:=C11.size
  have kA:Kp (w.heap.size+5) w6 w7:=((Kp.set w6 1 _ (by omega)).trans (Kp.set _ 2 _ (by omega))).trans (Kp.below hb7)
  have kB:Kp (w.heap.size+5) w7 w8:=Kp.grown g8 (by omega)
  have kC:Kp (w.heap.size+5) w8 w9:=((Kp.set w8 3 _ (by omega)).trans (Kp.set _ 4 _ (by omega))).trans (Kp.below hb9)
  have kD:Kp (w.heap.size+5) w9 w10:=Kp.grown g10 (by omega)
  have kE:Kp (w.heap.size+5) w10 w11:=((Kp.set w10 5 _ (by omega)).trans (Kp.set _ 6 _ (by omega))).trans (Kp.below hb11)
  have kF:Kp (w.heap.size+5) w11 w12:=Kp.grown g12 (by omega)
  have kG:Kp (w.heap.size+5) w12 (w12.setCell ⟨w.heap.size+3,7,none⟩ (.slice lca CS.cs.length lcc)):=Kp.set w12 7 _ (by omega)
  have C13:=C12.put 7 (.slice lca CS.cs.length lcc) #[.string EFF, .bool N1, .slice la1 L1.length lc1, .bool N2, .slice la2 L2.length lc2, .bool N3, .slice la3 L3.length lc3, .slice lca CS.cs.length lcc] rfl
  obtain ⟨w13,hw13⟩:∃x,w12.setCell ⟨w.heap.size+3,7,none⟩ (.slice lca CS.cs.length lcc)=x:=⟨_,rfl⟩
  rw [hw13] at kG C13 ⊢
  have rows:Qz w13 (w.heap.size+5) (.slice la1 L1.length lc1) (.slice la2 L2.length lc2) (.slice la3 L3.length lc3) (.slice lca CS.cs.length lcc) ⟨EFF,(N1,L1),(N2,L2),(N3,L3),CS.cs,!Rd.zZ EFF || !S1 || !S2 || !S3||CS.sh,!P1 || !P2 || !P3||CS.pt⟩:=
   ⟨qK (zl o6 hz5) (kA.trans (kB.trans (kC.trans (kD.trans (kE.trans (kF.trans kG)))))).keep,qK (zl o8 hz7) (kC.trans (kD.trans (kE.trans (kF.trans kG)))).keep,qK (zl o10 hz9) (kE.trans (kF.trans kG)).keep,(o12.mono hz11).kept kG.keep⟩
  obtain ⟨SF,hSF⟩:∃x,(!Rd.zZ EFF || !S1 || !S2 || !S3||CS.sh)=x:=⟨_,rfl⟩
  obtain ⟨PF,hPF⟩:∃x,(!P1 || !P2 || !P3||CS.pt)=x:=⟨_,rfl⟩
  have hSF':=hSF
  rw [HSH.out] at hSF'
  rw [hSF',Bool.false_or,hPF] at C13
  have FIN:Hid (∀W,Below w.heap.size w W→(∀i,w.heap.size+2≤i→W.heap[i]?=w13.heap[i]?)→zbt w ⟨EFF,(N1,L1),(N2,L2),(N3,L3),CS.cs,!Rd.zZ EFF || !S1 || !S2 || !S3||CS.sh,!P1 || !P2 || !P3||CS.pt⟩ (.returned (.tuple #[.agg #[.string EFF, .bool N1, .slice la1 L1.length lc1, .bool N2, .slice la2 L2.length lc2, .bool N3, .slice la3 L3.length lc3, .slice lca CS.cs.length lcc], .agg #[.bool SF, .bool PF]])) W.drew):=by
   refine hid (fun W hb hk=>⟨_,_,_,_,?_,hb.drew,(rows.kept (w':=W.drew) (fun i hi _=>hk i (by omega))).mono (by omega)⟩)
   simp only [hSF,hPF]
  obtain ⟨_,⟨y0,y1,y2,y3,y4,y5,y6,y7⟩,_,⟨f0,f1,_⟩⟩:=C13.cells
  obtain ⟨⟨t0,t1,t2,t3,t4,t5,t6,t7⟩,⟨u0,u1⟩,zz0,zz1⟩:=C13.res
  have z00:=zz0 0
  have z01:=zz0 1
  have z02:=zz0 2
  have z03:=zz0 3
  have z04:=zz0 4
  have z05:=zz0 5
  have z06:=zz0 6
  have z07:=zz0 7
  have z10:=zz1 0
  have z11:=zz1 1
  have FA:=C13.fin (.string EFF) (.bool N1) (.slice la1 L1.length lc1) (.bool N2) (.slice la2 L2.length lc2) (.bool N3) (.slice la3 L3.length lc3) (.slice lca CS.cs.length lcc) (.bool SF) (.bool PF)
  have HFA:=hid FA
  clear FA zz0 zz1 C13 kA kB kC kD kE kF kG hb5 g6 f6 o6 hb7 g8 f8 o8 hb9 g10 f10 o10 hb11 g12 f12 o12 C4 C5 C6 D6 C7 C8 D8 C9 C10 D10 C11 C12 cH2 cH3 cH4 cH5 CC1 CC2 CC3 CC4 pa0 pa1 pa2 pa3 pb0 pb1 pb2 pb3 pc0 pc1 pc2 pc3 pd0 pd1 pd2 pd3 r1 r2 r3 r4 r5 r6 r7 z1 z2 z3 z4 z5 z6 z7 rows hSF hPF hSF' HSH hcut
  go_region
  go_wp2_with fail
  change bodyPost _ _ _ _ _ (set2 (zbQ w13 w.heap.size (.string EFF) (.bool N1) (.slice la1 L1.length lc1) (.bool N2) (.slice la2 L2.length lc2) (.bool N3) (.slice la3 L3.length lc3) (.slice lca CS.cs.length lcc)) (w.heap.size+1) (.bool SF) (.bool PF)).drew
  obtain ⟨k1,k2,k3,k4⟩:=HFA.out
  clear HFA
  generalize set2 (zbQ w13 w.heap.size (.string EFF) (.bool N1) (.slice la1 L1.length lc1) (.bool N2) (.slice la2 L2.length lc2) (.bool N3) (.slice la3 L3.length lc3) (.slice lca CS.cs.length lcc)) (w.heap.size+1) (.bool SF) (.bool PF)=wF at k1 k2 k3 k4 ⊢
  have e0:wF.cell? ⟨w.heap.size,0,none⟩=some (.string EFF):=(cells_of_block k3 0).1
  have e1:wF.cell? ⟨w.heap.size,1,none⟩=some (.bool N1):=(cells_of_block k3 1).1
  have e2:wF.cell? ⟨w.heap.size,2,none⟩=some (.slice la1 L1.length lc1):=(cells_of_block k3 2).1
  have e3:wF.cell? ⟨w.heap.size,3,none⟩=some (.bool N2):=(cells_of_block k3 3).1
  have e4:wF.cell? ⟨w.heap.size,4,none⟩=some (.slice la2 L2.length lc2):=(cells_of_block k3 4).1
  have e5:wF.cell? ⟨w.heap.size,5,none⟩=some (.bool N3):=(cells_of_block k3 5).1
  have e6:wF.cell? ⟨w.heap.size,6,none⟩=some (.slice la3 L3.length lc3):=(cells_of_block k3 6).1
  have e7:wF.cell? ⟨w.heap.size,7,none⟩=some (.slice lca CS.cs.length lcc):=(cells_of_block k3 7).1
  have e8:wF.cell? ⟨w.heap.size+1,0,none⟩=some (.bool SF):=(cells_of_block k4 0).1
  have e9:wF.cell? ⟨w.heap.size+1,1,none⟩=some (.bool PF):=(cells_of_block k4 1).1
  exact bodyPost_ret (v := .tuple #[.agg #[.string EFF, .bool N1, .slice la1 L1.length lc1, .bool N2, .slice la2 L2.length lc2, .bool N3, .slice la3 L3.length lc3, .slice lca CS.cs.length lcc], .agg #[.bool SF, .bool PF]]) (by simp [results,Tryz.results61,go_sem,e0,e1,e2,e3,e4,e5,e6,e7,e8,e9]) rfl (FIN.out wF k1 k2)
theorem zae (i:Nat) (w0:World) (base b gg cap:Nat) (ns:List Ref.Node) (n:Ref.Node) (w:World) (hE:jR w0 base b gg cap ns w) (hi:ns[i]?=some n) :
  Calls Tryz.prog 61 #[.pointer (some ⟨b,0,none⟩), .int .i64 (i:Int)] w (zbt w (Rd.Xy ns n)):=by
 by_cases h:Ref.vM n [Rd.zk,Rd.jB,Rd.bDo,Rd.bOn,Rd.bIf]=false∨Ref.zX n Rd.zk<0∨Ref.kindOf ns (Ref.zX n Rd.zk)≠3
 ·have e:Rd.Xy ns n=Rd.yJ:=by unfold Rd.Xy;rw [if_pos h]
  rw [e]
  exact UQ i w0 base b gg cap ns n w hE hi h
 ·exact zb7 i w0 base b gg cap ns n w hE hi h
def RSt (w:World) (base:Nat) (xs:List Value) (j:Nat) (R:Rd.qN):Prop:=
 ∃l1 l2 l3 lc,xs[j*8]?=some (.string R.eff)∧xs[j*8+1]?=some (.bool R.who.1)∧xs[j*8+2]?=some l1∧xs[j*8+3]?=some (.bool R.act.1)∧xs[j*8+4]?=some l2∧xs[j*8+5]?=some (.bool R.on.1)∧xs[j*8+6]?=some l3∧xs[j*8+7]?=some lc∧Qz w base l1 l2 l3 lc R
def yB (w:World) (base:Nat) (lv:Value) (rs:List Rd.qN):Prop:=
 ∃xs,w.ownsRow base 160 8 lv rs.length xs∧∀j,(h:j<rs.length)→RSt w base xs j rs[j]
theorem yB.nil (w:World) (base:Nat):yB w base (.slice none 0 0) []:=⟨[],World.ownsRow_nil _ _ _ _,fun j hj=>by simp at hj⟩
theorem yB.kept {w w':World} {base:Nat} {lv:Value} {rs:List Rd.qN} (h:yB w base lv rs) (hk:∀i,base≤i→i<w.heap.size→w'.heap[i]?=w.heap[i]?):yB w' base lv rs:=by
 obtain ⟨xs,h1,h2⟩:=h
 refine ⟨xs,qK h1 hk,fun j hj=>?_⟩
 obtain ⟨l1,l2,l3,lc,a0,a1,a2,a3,a4,a5,a6,a7,e⟩:=h2 j hj
 exact ⟨l1,l2,l3,lc,a0,a1,a2,a3,a4,a5,a6,a7,e.kept hk⟩
theorem yB.mono {w:World} {base base':Nat} {lv:Value} {rs:List Rd.qN} (h:yB w base lv rs) (hb:base'≤base):yB w base' lv rs:=by
 obtain ⟨xs,h1,h2⟩:=h
 refine ⟨xs,zl h1 hb,fun j hj=>?_⟩
 obtain ⟨l1,l2,l3,lc,a0,a1,a2,a3,a4,a5,a6,a7,e⟩:=h2 j hj
 exact ⟨l1,l2,l3,lc,a0,a1,a2,a3,a4,a5,a6,a7,e.mono hb⟩
theorem xO.other {W w3:World} {base base':Nat} {e:TypeId} {size n:Nat} {lv lc:Value} {xs:List Value} {cs:List Ref.xg} (own:W.ownsRow base e size lv n xs) (h:xO W base' lc cs) (h1:e≠244) (h2:e≠9) (hg:W.grownBy w3 lv.ownBlock):xO w3 base' lc cs:=by
 obtain ⟨ys,a,b⟩:=h
 refine ⟨ys,ji own a h1 hg,fun j hj=>?_⟩
 obtain ⟨l,p,q,r,s,t⟩:=b j hj
 exact ⟨l,p,q,r,s,ji own t h2 hg⟩
theorem Qz.other {W w3:World} {base base':Nat} {lv l1 l2 l3 lc:Value} {n:Nat} {xs:List Value} {R:Rd.qN} (own:W.ownsRow base 160 8 lv n xs) (h:Qz W base' l1 l2 l3 lc R) (hg:W.grownBy w3 lv.ownBlock):Qz w3 base' l1 l2 l3 lc R:=
 ⟨ji own h.1 (by decide) hg,ji own h.2.1 (by decide) hg,ji own h.2.2.1 (by decide) hg,h.2.2.2.other own (by decide) (by decide) hg⟩
theorem yB.snoc {W w3:World} {base:Nat} {lv v' l1 l2 l3 lc:Value} {rs:List Rd.qN} {xs:List Value} (own:W.ownsRow base 160 8 lv rs.length xs) (hc:∀j,(h:j<rs.length)→RSt W base xs j rs[j]) (R:Rd.qN) (hR:Qz W base l1 l2 l3 lc R)
  (hgrow:W.grownBy w3 lv.ownBlock) (hown':w3.ownsRow base 160 8 v' (rs.length+1) (xs++[.string R.eff, .bool R.who.1,l1, .bool R.act.1,l2, .bool R.on.1,l3,lc])):yB w3 base v' (rs++[R]):=by
 have hx:xs.length=rs.length*8:=own.1
 refine ⟨_,by rw [List.length_append];exact hown',fun j hj=>?_⟩
 rw [List.length_append,List.length_singleton] at hj
 by_cases hlt:j<rs.length
 ·rw [List.getElem_append_left hlt]
  obtain ⟨l1,l2,l3,lc,a0,a1,a2,a3,a4,a5,a6,a7,e⟩:=hc j hlt
  refine ⟨l1,l2,l3,lc,?_,?_,?_,?_,?_,?_,?_,?_,e.other own hgrow⟩
  ·rw [List.getElem?_append_left (by omega)];exact a0
  ·rw [List.getElem?_append_left (by omega)];exact a1
  ·rw [List.getElem?_append_left (by omega)];exact a2
  ·rw [List.getElem?_append_left (by omega)];exact a3
  ·rw [List.getElem?_append_left (by omega)];exact a4
  ·rw [List.getElem?_append_left (by omega)];exact a5
  ·rw [List.getElem?_append_left (by omega)];exact a6
  ·rw [List.getElem?_append_left (by omega)];exact a7
 ·have hj2:j=rs.length:=by omega
  subst hj2
  rw [List.getElem_append_right (Nat.le_refl _)]
  simp only [Nat.sub_self,List.getElem_cons_zero]
  refine ⟨l1,l2,l3,lc,?_,?_,?_,?_,?_,?_,?_,?_,hR.other own hgrow⟩
  ·rw [List.getElem?_append_right (by omega),hx,Nat.sub_self];rfl
  ·rw [List.getElem?_append_right (by omega),hx,show rs.length*8+1-rs.length*8=1 by omega];rfl
  ·rw [List.getElem?_append_right (by omega),hx,show rs.length*8+2-rs.length*8=2 by omega];rfl
  ·rw [List.getElem?_append_right (by omega),hx,show rs.length*8+3-rs.length*8=3 by omega];rfl
  ·rw [List.getElem?_append_right (by omega),hx,show rs.length*8+4-rs.length*8=4 by omega];rfl
  ·rw [List.getElem?_append_right (by omega),hx,show rs.length*8+5-rs.length*8=5 by omega];rfl
  ·rw [List.getElem?_append_right (by omega),hx,show rs.length*8+6-rs.length*8=6 by omega];rfl
  ·rw [List.getElem?_append_right (by omega),hx,show rs.length*8+7-rs.length*8=7 by omega];rfl
theorem zgR (text:ByteArray) (h:(xP text).1=0):Ref.NoN (xP text).2.2.nodes:=by
 obtain ⟨R,hR⟩:∃R,xP text=R:=⟨_,rfl⟩
 rw [hR] at h ⊢
 unfold xP at hR
 by_cases h1:4000<text.size
 ·rw [if_pos h1] at hR;subst hR;simp at h
 rw [if_neg h1] at hR
 by_cases h2:(Ref.run Ref.init text.data.toList 0).1≠0
 ·rw [if_pos h2] at hR;subst hR;exact absurd h h2
 rw [if_neg h2] at hR
 by_cases h3:(Ref.run Ref.init text.data.toList 0).2.2.state≠6∨(Ref.run Ref.init text.data.toList 0).2.2.opn≠[]
 ·rw [if_pos h3] at hR;subst hR;simp at h
 rw [if_neg h3] at hR
 subst hR
 have hz:(Ref.run Ref.init text.data.toList 0).1=0:=by
  by_cases e:(Ref.run Ref.init text.data.toList 0).1=0
  ·exact e
  ·exact absurd e h2
 exact (Ref.zbP text.data.toList Ref.init 0 Ref.zgx zcK hz).non
def JB (ns:List Ref.Node) (root:Nat):List Rd.qN:=match ns[root]? with
 | none=>[]
 | some r=>match ns[(Ref.zX r Rd.zN).toNat]? with
  | none=>[]
  | some n=>Rd.vz ns n.kids
def Jb (text:ByteArray):List Rd.qN:=JB (xP text).2.2.nodes (xP text).2.2.root.toNat
theorem zdK (ns:List Ref.Node) (ks:List Nat) (j:Nat) (hj:j<ks.length) (x:Ref.Node) (hx:ns[ks[j]]?=some x):Rd.vz ns (ks.take (j+1))=Rd.vz ns (ks.take j)++[Rd.Xy ns x]∧Rd.vz ns (ks.drop j)=Rd.Xy ns x::Rd.vz ns (ks.drop (j+1)):=by
 constructor
 ·rw [List.take_add_one,List.getElem?_eq_getElem hj]
  unfold Rd.vz
  rw [List.map_append]
  simp [hx]
 ·rw [List.drop_eq_getElem_cons hj]
  unfold Rd.vz
  rw [List.map_cons,hx]
theorem UT (r:Rd.qN) (rs:List Rd.qN) (i:Nat):Rd.yz (r::rs) i=if r.sh then (5,i+1) else if r.pt then (6,i+1) else Rd.yz rs (i+1):=rfl
theorem zmI (w:World) (O P:Obj) (t:TypeId) (a b c d e f g h:Value):∀(j:Nat) (u:Value),[a,b,c,d,e,f,g,h][j]?=some u→(((w.alloc O).alloc P).alloc (.cells #[a,b,c,d,e,f,g,h] t)).cell? ((⟨w.heap.size+1+1,0,none⟩:Addr).add j)=some u:=by
 have h:=World.ownsRow_lit (base:=w.heap.size) (e:=t) (size:=8) ((w.alloc O).alloc P) #[a,b,c,d,e,f,g,h] 1 (by simp;omega) (by decide) rfl
 rw [World.size_alloc,World.size_alloc] at h
 exact fun j u hu=>h.cells (g:=w.heap.size+1+1) rfl j u hu
theorem zfj {wr w2:World} {B:Nat} {lv l1 l2 l3 lc:Value} {done:List Rd.qN} {R:Rd.qN} (O P Q:Obj) (h:yB wr B lv done) (hB:B≤wr.heap.size) (hb2:Below wr.heap.size wr w2) (hr:Qz w2 wr.heap.size l1 l2 l3 lc R) :
  ∃xs,(((w2.alloc O).alloc P).alloc Q).ownsRow B 160 8 lv done.length xs∧(∀j,(h:j<done.length)→RSt (((w2.alloc O).alloc P).alloc Q) B xs j done[j])∧Qz (((w2.alloc O).alloc P).alloc Q) B l1 l2 l3 lc R:=by
 have BW:Below w2.heap.size w2 (((w2.alloc O).alloc P).alloc Q):=(((Below.refl _ _).alloc (Nat.le_refl _) _).alloc (by simp) _).alloc (by simp;omega) _
 obtain ⟨xs,h1,h2⟩:=(h.kept (fun i hi hl=>hb2.block i hl)).kept (fun i hi hl=>BW.block i hl)
 exact ⟨xs,h1,h2,(hr.mono hB).kept (fun i hi hl=>BW.block i hl)⟩
theorem Tryz.infoRStmt:(Tryz.prog.info? 160).map (fun i=>(i.zero,i.size,i.bytes))=some (some (.agg #[.string ⟨#[]⟩, .bool false, .slice none 0 0, .bool false, .slice none 0 0, .bool false, .slice none 0 0, .slice none 0 0]),8,136):=by kernel_rfl
def zdC (w:World) (A:Int×Nat) (rs:List Rd.qN) (e:Ending) (w':World):Prop:=
 ∃lv,e = .returned (.tuple #[lv, .int .i64 A.1, .int .i64 (A.2:Int)])∧Below w.heap.size w w'∧(A.1=0→yB w' w.heap.size lv rs)
theorem zbS (text:ByteArray) (w:World) (ht:text.size≤maxLen) :
  Calls Tryz.prog 34 #[.string text] w (zdC w (Rd.qU text) (Jb text)):=by
 have cR:=zks text w ht
 have hans:=zgH text
 by_cases h0:(xP text).1≠0
 ·have ha:=hans.2 h0
  rw [← ha]
  obtain ⟨E,hE⟩:∃x,(xP text).1=x:=⟨_,rfl⟩
  obtain ⟨AT,hAT⟩:∃x,(xP text).2.1=x:=⟨_,rfl⟩
  rw [hE,hAT] at cR ⊢
  rw [hE] at h0
  have hb:(E != 0)=true:=by simp [h0]
  have H0:=hid h0
  clear hans ha hE hAT h0
  go_enter Tryz.func34,Tryz.ntmps34
  go_wp2_with (go_at_call 59;refine cR.mono ?_;rintro e w1 ⟨p,rfl,hb1,_⟩)
  go_ret3
  exact ⟨_,rfl,hb1,fun e=>absurd e H0.out⟩
 have hz:(xP text).1=0:=by
  by_cases e:(xP text).1=0
  ·exact e
  ·exact absurd e h0
 have ha:=hans.1 hz
 obtain ⟨tev,tne,tr0,trl,ttx⟩:=zgm text hz
 have tnon:=zgR text hz
 unfold Jb
 rw [← ha]
 obtain ⟨E,hE⟩:∃x,(xP text).1=x:=⟨_,rfl⟩
 obtain ⟨AT,hAT⟩:∃x,(xP text).2.1=x:=⟨_,rfl⟩
 obtain ⟨m,hm⟩:∃x,(xP text).2.2=x:=⟨_,rfl⟩
 rw [hE,hAT,hm] at cR
 rw [hm] at tev tne tr0 trl ttx tnon ⊢
 rw [hE] at hz
 subst hz
 obtain ⟨ri,hri⟩:∃r:Nat,m.root=(r:Int):=⟨m.root.toNat,by omega⟩
 rw [hri] at trl
 have hrl:ri<m.nodes.length:=by omega
 have htn:m.root.toNat=ri:=by rw [hri];simp
 rw [htn]
 have hroot:=List.getElem?_eq_getElem hrl
 obtain ⟨r,hr⟩:∃x,m.nodes[ri]=x:=⟨_,rfl⟩
 rw [hr] at hroot
 obtain ⟨D,hD⟩:∃x,Rd.zmj m.nodes ri=x:=⟨_,rfl⟩
 obtain ⟨RS,hRS⟩:∃x,JB m.nodes ri=x:=⟨_,rfl⟩
 rw [hD,hRS]
 unfold Rd.zmj at hD
 unfold JB at hRS
 rw [hroot] at hD hRS
 simp only at hD hRS
 have FROM:Hid (∀(w1:World) (b:Nat) (ov nv:Value) (vs:List (Value×Value)),zI w1 w.heap.size b m ov nv vs→Ref.Bnd 4000 m→∃gg cap,jR w1 w.heap.size b gg cap m.nodes w1∧w1.cell? ⟨b,10,none⟩=some (.int .i64 (ri:Int))):=by
  refine hid (fun w1 b ov nv vs hM hB=>?_)
  obtain ⟨gg,cap,hrd⟩:=hM.rd tne tev hB ttx
  refine ⟨gg,cap,⟨hrd,tnon,Below.refl _ _⟩,?_⟩
  rw [← hri]
  exact (hM.cell 10).1
 have CR:=hid cR
 obtain ⟨rkind,rtext,rnames,rkids⟩:=r
 simp only at hD hRS
 obtain ⟨K,hK⟩:∃x,Ref.zX ⟨rkind,rtext,rnames,rkids⟩ Rd.zN=x:=⟨_,rfl⟩
 rw [hK] at hD hRS
 have HD:=hid hD
 have HRS:=hid hRS
 have HK:=hid hK
 have HROOT:=hid hroot
 clear hD hRS hK hr hroot cR hans ha tev tne tr0 trl ttx tnon hm hE hAT h0 hri htn
 go_enter Tryz.func34,Tryz.ntmps34
 go_upto_region 4 with (go_at_call 59;refine CR.out.mono ?_;rintro e w1 ⟨p,rfl,hb1,hM⟩;obtain ⟨b,ov,nv,vs,rfl,hM,hB⟩:=hM rfl;obtain ⟨gg,cap,hE,croot⟩:=FROM.out w1 b ov nv vs hM hB;have HB1:=hid hb1;have HE:=hid hE;clear hM hB hb1 hE)
 obtain ⟨⟨v1,v2⟩,⟨na,nc,hv1⟩,⟨ka,kc,hv2⟩,hcell,cH,cO⟩:=XL HE.out HROOT.out
 simp only at hv1 hv2
 subst hv1
 subst hv2
 have hsl:=HE.out.at.slice
 have hlen:=HE.out.rd.len
 have kB:=Ref.xM HE.out.rd.ev HROOT.out Rd.zN
 rw [HK.out] at kB
 obtain ⟨a1,a2,a3,a4⟩:=hcell w1 (Below.refl _ _)
 simp only at a1 a2 a3 a4
 unfold Vb at cH
 simp only at cH
 have cH1:=fun W h=>cH W Rd.zN h
 simp only [HK.out] at cH1
 unfold Rd.zN at cH1
 obtain ⟨nl,hnl⟩:∃nl,m.nodes.length=nl:=⟨_,rfl⟩
 rw [hnl] at hsl hrl kB hlen
 have HNL:=hid hnl
 have i0:(0:Int)≤(ri:Int):=Int.natCast_nonneg _
 have i1:(ri:Int)<(nl:Int):=by omega
 have CH1:=hid cH1
 obtain ⟨rn,hrn⟩:∃x,rnames.length=x:=⟨_,rfl⟩
 rw [hrn] at a3 CH1
 have hd0:=HD.out
 rw [hrn] at hd0
 have HD1:=hid hd0
 clear cH cO cH1 hcell hd0 HD hnl hrn
 have bA:Below w1.heap.size w1 (w1.alloc (.cells #[.int .i64 rkind, .string rtext, .slice na rn nc, .slice ka rkids.length kc] 152)).drew:=((Below.refl _ _).alloc (Nat.le_refl _) _).drew
 have nA:=heap_alloc_new w1 (.cells #[.int .i64 rkind, .string rtext, .slice na rn nc, .slice ka rkids.length kc] 152)
 have s1:=fun O:Obj=>cell_later ((Below.refl _ w1).alloc (Nat.le_refl _) O) hsl
 have b0:=fun O:Obj=>cell_later ((Below.refl _ w1).alloc (Nat.le_refl _) O) croot
 have b1:=fun O:Obj=>cell_later ((Below.refl _ w1).alloc (Nat.le_refl _) O) a1
 have b2:=fun O:Obj=>cell_later ((Below.refl _ w1).alloc (Nat.le_refl _) O) a2
 have b3:=fun O:Obj=>cell_later ((Below.refl _ w1).alloc (Nat.le_refl _) O) a3
 have b4:=fun O:Obj=>cell_later ((Below.refl _ w1).alloc (Nat.le_refl _) O) a4
 go_region
 go_upto_region 6 with (go_at_call 60;refine (CH1.out _ bA).mono ?_;rintro e w3 ⟨rfl,hb3⟩)
 have bw3:Below w1.heap.size w1 w3:=bA.trans (hb3.mono (by show w1.heap.size≤(w1.alloc _).heap.size;simp))
 have n3:w3.heap[w1.heap.size]?=some (.cells #[.int .i64 rkind, .string rtext, .slice na rn nc, .slice ka rkids.length kc] 152 (0,0)):=(hb3.block _ (by show w1.heap.size<(w1.alloc _).heap.size;simp)).trans nA
 have q0:w3.cell? ⟨w1.heap.size,0,none⟩=some (.int .i64 rkind):=(cells_of_block n3 0).1
 have q2:w3.cell? ⟨w1.heap.size,2,none⟩=some (.slice na rn nc):=(cells_of_block n3 2).1
 have sl3:=cell_later bw3 hsl
 have bel3:Below w.heap.size w w3:=HB1.out.trans (bw3.mono HB1.out.size)
 have HBW:=hid bw3
 have HB3:=hid bel3
 have hd:=HD1.out
 clear s1 b0 b1 b2 b3 b4 a1 a2 a3 a4 hsl croot bA nA hb3 CH1 bw3 bel3 i0 i1 CR FROM HROOT HK
 by_cases c1:rkind≠1
 ·rw [if_pos (.inl c1)] at hd
  have d1:(rkind != 1)=true:=by simp [c1]
  subst hd
  clear HD1
  go_wp2
  go_ret3
  exact ⟨_,rfl,HB3.out,fun e=>by simp at e⟩
 rw [Ne,Decidable.not_not] at c1
 subst c1
 by_cases c2:rn≠1
 ·rw [if_pos (.inr (.inl c2))] at hd
  have d2:((rn:Int) != 1)=true:=by simp;omega
  subst hd
  clear HD1
  go_wp2
  go_ret3
  exact ⟨_,rfl,HB3.out,fun e=>by simp at e⟩
 rw [Ne,Decidable.not_not] at c2
 subst c2
 by_cases c3:K<0
 ·rw [if_pos (.inr (.inr c3))] at hd
  have d3:decide (K<0)=true:=decide_eq_true c3
  subst hd
  clear HD1
  go_wp2
  go_ret3
  exact ⟨_,rfl,HB3.out,fun e=>by simp at e⟩
 rw [if_neg (by simp;omega)] at hd
 have d3:decide (K<0)=false:=decide_eq_false c3
 obtain ⟨kj,rfl⟩:∃k:Nat,K=(k:Int):=⟨K.toNat,by omega⟩
 have hkj:kj<m.nodes.length:=by have:=kB.2;rw [HNL.out];omega
 have hnk:=List.getElem?_eq_getElem hkj
 obtain ⟨nd,hnd⟩:∃x,m.nodes[kj]=x:=⟨_,rfl⟩
 rw [hnd] at hnk
 have hrs:=HRS.out
 simp only [Int.toNat_natCast,hnk] at hd hrs
 obtain ⟨v,a1,a2,a3,a4,a5,a6⟩:=HE.out.rd.node kj _ hnk
 obtain ⟨v1,v2⟩:=v
 obtain ⟨kind,ntext,ss,ks⟩:=nd
 simp only at a1 a2 a3 a4 a5 a6 hd hrs
 obtain ⟨ka2,kc2,hv2,cK⟩:=qh a6
 obtain ⟨na2,nc2,rfl,_⟩:=qh a5
 obtain ⟨kl,hkl⟩:∃kl,ks.length=kl:=⟨_,rfl⟩
 rw [hkl] at hv2 cK hd
 rw [hv2] at a4
 replace a1:=cell_later HBW.out a1
 replace a2:=cell_later HBW.out a2
 replace a3:=cell_later HBW.out a3
 replace a4:=cell_later HBW.out a4
 have hsm:=(HE.out.rd.small kj _ hnk).1
 simp only at hsm
 rw [hkl] at hsm
 have CK:=hid cK
 have HN:=hid hnk
 have HKL:=hid hkl
 have HD2:=hid hd
 have HRS2:=hid hrs
 have k0:(0:Int)≤(kj:Int):=Int.natCast_nonneg _
 have k1:(kj:Int)<(nl:Int):=kB.2
 clear a5 a6 cK hv2 hnd hnk hd hrs HD1 HRS hkl kB c3
 have z3:w.heap.size≤w3.heap.size:=HB3.out.size
 by_cases e1:kind≠2
 ·have hd:=HD2.out
  rw [if_pos (.inl e1)] at hd
  have d4:(kind != 2)=true:=by simp [e1]
  subst hd
  clear HD2
  go_wp2
  go_ret3
  exact ⟨_,rfl,HB3.out.alloc z3 _,fun e=>by simp at e⟩
 rw [Ne,Decidable.not_not] at e1
 subst e1
 by_cases e2:kl<1
 ·have hd:=HD2.out
  rw [if_pos (.inr (.inl e2))] at hd
  have d4:decide ((kl:Int)<1)=true:=by simp;omega
  subst hd
  clear HD2
  go_wp2
  go_ret3
  exact ⟨_,rfl,HB3.out.alloc z3 _,fun e=>by simp at e⟩
 have d4:decide ((kl:Int)<1)=false:=by simp;omega
 by_cases e3:10<kl
 ·have hd:=HD2.out
  rw [if_pos (.inr (.inr e3))] at hd
  have d5:decide (10<(kl:Int))=true:=by simp;omega
  subst hd
  clear HD2
  go_wp2
  go_ret3
  exact ⟨_,rfl,HB3.out.alloc z3 _,fun e=>by simp at e⟩
 have d5:decide (10<(kl:Int))=false:=by simp;omega
 have hd:=HD2.out
 rw [if_neg (by omega)] at hd
 have HD3:=hid hd
 clear hd HD2
 obtain ⟨i0,hi,hz0,hz1,hz2⟩:=info_parts Tryz.infoRStmt
 have ncell:=heap_alloc_new w3 (.cells #[.int .i64 2, .string ntext, .slice na2 ss.length nc2, .slice ka2 kl kc2] 152)
 have HNC:=hid ncell
 clear ncell
 go_wp2_with fail
 go_loopw [11,12] (fun lv jv wr=>∃(j:Nat),j≤kl∧jv = .int .i64 j∧yB wr (w3.heap.size+1) lv (Rd.vz m.nodes (ks.take j))∧D=Rd.yz (Rd.vz m.nodes (ks.drop j)) j ∧
   Below (w3.heap.size+1) (w3.alloc (.cells #[.int .i64 2, .string ntext, .slice na2 ss.length nc2, .slice ka2 kl kc2] 152)) wr) (fun _ jv _=>kl-(intOf jv).toNat)
 case atStart=>exact ⟨0,by omega,rfl,yB.nil _ _,by rw [← HD3.out];rfl,Below.refl _ _⟩
 case round=>
  obtain ⟨j,hj,rfl,hcs,hD,hbr⟩:=hrel
  have HCS:=hid hcs
  have HDj:=hid hD
  have HBR:=hid hbr
  have nr:wr.heap[w3.heap.size]?=some (.cells #[.int .i64 2, .string ntext, .slice na2 ss.length nc2, .slice ka2 kl kc2] 152 (0,0)):=(hbr.block _ (by omega)).trans HNC.out
  have c3:wr.cell? ⟨w3.heap.size,3,none⟩=some (.slice ka2 kl kc2):=(cells_of_block nr 3).1
  have hlr:w3.heap.size+1≤wr.heap.size:=lt_of_block nr
  have b3r:Below w3.heap.size w3 wr:=((Below.refl _ w3).alloc (Nat.le_refl _) _).trans (hbr.mono (by omega))
  have b1r:Below w1.heap.size w1 wr:=HBW.out.trans (b3r.mono HBW.out.size)
  have bwr:Below w.heap.size w wr:=HB3.out.trans (b3r.mono z3)
  have HBWR:=hid bwr
  clear hcs hD hbr a1 a2 a3 a4 sl3 q0 q2 HD3 HNC nr
  by_cases hlt:j<kl
  ·obtain ⟨g,rfl,q1⟩:=CK.out j hlt
   have l1:j<ks.length:=by rw [HKL.out];exact hlt
   rw [qf,Ref.zbj ks j l1] at q1
   have hkid:=HE.out.rd.kid HN.out j l1
   simp only at hkid
   have hx:=List.getElem?_eq_getElem hkid
   obtain ⟨x,hxx⟩:∃x,m.nodes[ks[j]]=x:=⟨_,rfl⟩
   rw [hxx] at hx
   obtain ⟨ht1,ht2⟩:=zdK m.nodes ks j l1 x hx
   have q2:=cell_later b1r q1
   have cc:=zae ks[j] w1 w.heap.size b gg cap m.nodes x wr ⟨HE.out.rd,HE.out.non,b1r⟩ hx
   have hDj:=HDj.out
   rw [ht2,UT] at hDj
   obtain ⟨kid,hkd⟩:∃c,ks[j]=c:=⟨_,rfl⟩
   rw [hkd] at q2 cc
   obtain ⟨C,hC⟩:∃C,Rd.Xy m.nodes x=C:=⟨_,rfl⟩
   rw [hC] at cc hDj ht1
   obtain ⟨done,hdone⟩:∃d,Rd.vz m.nodes (ks.take j)=d:=⟨_,rfl⟩
   have hdl:done.length=j:=by rw [← hdone];unfold Rd.vz;rw [List.length_map,List.length_take,HKL.out];omega
   rw [hdone] at HCS ht1
   have HT1:=hid ht1
   obtain ⟨eff,⟨N1,L1⟩,⟨N2,L2⟩,⟨N3,L3⟩,cs,csh,cpt⟩:=C
   simp only at hDj
   have HDD:=hid hDj
   have CC:=hid cc
   clear q1 hx hxx hkid hC hdone hkd cc ht1 ht2 hDj HDj b1r b3r bwr
   cases csh with
   | true=>
    have hfin:=HDD.out
    rw [if_pos rfl] at hfin
    subst hfin
    go_wp2_with (go_at_call 61;refine CC.out.mono ?_;rintro e w2 ⟨l1,l2,l3,lc,rfl,hb2,hr2⟩;obtain ⟨la1,lc1,rfl⟩:=qm hr2.1;obtain ⟨la2,lc2,rfl⟩:=qm hr2.2.1;obtain ⟨la3,lc3,rfl⟩:=qm hr2.2.2.1;obtain ⟨la4,lc4,rfl⟩:=hr2.2.2.2.slice;have HB2:=hid hb2;clear hr2 hb2)
    go_ret3
    exact ⟨_,by go_num,((HBWR.out.trans (HB2.out.mono HBWR.out.size)).alloc (Nat.le_trans HBWR.out.size HB2.out.size) _).alloc (by simp;have:=HBWR.out.size;have:=HB2.out.size;omega) _,fun e=>by simp at e⟩
   | false=>
    have hfin0:=HDD.out
    rw [if_neg (by simp)] at hfin0
    have HDE:=hid hfin0
    clear hfin0 HDD
    cases cpt with
    | true=>
     have hfin:=HDE.out
     rw [if_pos rfl] at hfin
     subst hfin
     go_wp2_with (go_at_call 61;refine CC.out.mono ?_;rintro e w2 ⟨l1,l2,l3,lc,rfl,hb2,hr2⟩;obtain ⟨la1,lc1,rfl⟩:=qm hr2.1;obtain ⟨la2,lc2,rfl⟩:=qm hr2.2.1;obtain ⟨la3,lc3,rfl⟩:=qm hr2.2.2.1;obtain ⟨la4,lc4,rfl⟩:=hr2.2.2.2.slice;have HB2:=hid hb2;clear hr2 hb2)
     go_ret3
     exact ⟨_,by go_num,((HBWR.out.trans (HB2.out.mono HBWR.out.size)).alloc (Nat.le_trans HBWR.out.size HB2.out.size) _).alloc (by simp;have:=HBWR.out.size;have:=HB2.out.size;omega) _,fun e=>by simp at e⟩
    | false=>
     have hnext:=HDE.out
     rw [if_neg (by simp)] at hnext
     have HNEXT:=hid hnext
     clear hnext HDE
     go_wp2_with (first
      | (go_at_call 61;refine CC.out.mono ?_;rintro e w2 ⟨l1,l2,l3,lc,rfl,hb2,hr2⟩;obtain ⟨la1,lc1,rfl⟩:=qm hr2.1;obtain ⟨la2,lc2,rfl⟩:=qm hr2.2.1;obtain ⟨la3,lc3,rfl⟩:=qm hr2.2.2.1;obtain ⟨la4,lc4,rfl⟩:=hr2.2.2.2.slice;obtain ⟨xs,ro,rc,r3⟩:=zfj (.cells #[.string eff, .bool N1, .slice la1 L1.length lc1, .bool N2, .slice la2 L2.length lc2, .bool N3, .slice la3 L3.length lc3, .slice la4 cs.length lc4] 160) (.cells #[.bool false, .bool false] 162) (.cells #[.string eff, .bool N1, .slice la1 L1.length lc1, .bool N2, .slice la2 L2.length lc2, .bool N3, .slice la3 L3.length lc3, .slice la4 cs.length lc4] 160) HCS.out hlr hb2 hr2;have HB2:=hid hb2;have RO:=hid ro;have RC:=hid rc;have R3:=hid r3;have hz2':=hb2.size;clear hr2 hb2 ro rc r3)
      | (at_builtin;refine wpList_append_own _ rfl _ _ 78 rfl (w3.heap.size+1) 160 i0 (.agg #[.string ⟨#[]⟩, .bool false, .slice none 0 0, .bool false, .slice none 0 0, .bool false, .slice none 0 0, .slice none 0 0]) 8 136 Tryz.underlying78 hi hz0 hz1 hz2 rfl (by decide) _ done.length xs rfl RO.out ⟨w2.heap.size+1+1,0,none⟩ 1 1 [.string eff, .bool N1, .slice la1 L1.length lc1, .bool N2, .slice la2 L2.length lc2, .bool N3, .slice la3 L3.length lc3, .slice la4 cs.length lc4] rfl rfl ?_ ?_ ?_ ?_ ?_ ?_))
     ·exact zmI _ _ _ _ _ _ _ _ _ _ _ _
     ·intro u hu;simp at hu;rcases hu with rfl|rfl|rfl|rfl|rfl|rfl|rfl|rfl<;>rfl
     ·unfold maxLen;omega
     ·omega
     ·simp;omega
     ·intro v' w4 hown' hgrow _
      have HRC:=hid (yB.snoc RO.out RC.out ⟨eff,(N1,L1),(N2,L2),(N3,L3),cs,false,false⟩ R3.out hgrow (by rw [hdl];exact hown'))
      have HRC2:Hid (yB w4 (w3.heap.size+1) v' (Rd.vz m.nodes (ks.take (j+1)))):=by rw [HT1.out];exact HRC
      have HB4:=hid (HBR.out.trans (((((HB2.out.mono (by omega)).alloc (by omega) _).alloc (by simp;omega) _).alloc (by simp;omega) _).grown hgrow (by simp;omega) (fun k hk=>(RO.out.lt k hk).1)))
      clear hown' hgrow HRC RO RC R3 HCS HB2 HBR
      go_wp2
      go_roundw
      case rel=>exact ⟨j+1,by omega,by go_num,HRC2.out,HNEXT.out,HB4.out⟩
      case measure=>simp [intOf];omega
  ·have hjk:j=ks.length:=by rw [HKL.out];omega
   have hD0:=HDj.out
   rw [hjk,List.drop_length] at hD0
   have hRS:RS=Rd.vz m.nodes (ks.take j):=by rw [hjk,List.take_length];exact HRS2.out.symm
   have hDz:D=(0,0):=hD0
   subst hRS
   subst hDz
   go_wp2
   go_ret3
   exact ⟨_,rfl,HBWR.out,fun _=>HCS.out.mono (by omega)⟩
end Go.Proofs.YtdakgnaojakldaaGreatDoor
