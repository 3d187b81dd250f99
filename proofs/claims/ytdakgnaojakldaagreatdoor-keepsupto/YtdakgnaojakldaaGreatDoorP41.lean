/- P -/
import Derived.Test.YtdakgnaojakldaaGreatDoorP40
set_option maxRecDepth 100000
set_option maxHeartbeats 2000000
namespace Go.Proofs.YtdakgnaojakldaaGreatDoor
open Go.RowKit
theorem qK {w w':World} {base:Nat} {e:TypeId} {size:Nat} {v:Value} {n:Nat} {xs:List Value} (h:w.ownsRow base e size v n xs) (hk:∀i,base≤i→i<w.heap.size→w'.heap[i]?=w.heap[i]?):w'.ownsRow base e size v n xs:=by
 obtain ⟨h1,h2⟩:=h
 refine ⟨h1,?_⟩
 rcases h2 with h2|⟨g,cap,cur,hv,hg,hh,h3⟩
 ·exact .inl h2
 ·exact .inr ⟨g,cap,cur,hv,hg,by rw [hk g hg (lt_of_block hh)];exact hh,h3⟩
theorem JO (a b c:Bool):a=true∨(a=false∧b=false)∨(a=false∧b=true∧c=true)∨(a=false∧b=true∧c=false):=by
 cases a<;>cases b<;>cases c<;>simp
theorem zgr {w0:World} {base b gg cap:Nat} {ns:List Ref.Node} (hR:zej w0 base b gg cap ns) (k:Int) (h0:0≤k) (h1:k<(ns.length:Int)):(Ref.textOf ns k).size≤12000:=by
 obtain ⟨j,x,_,hj,_,htx⟩:=Ref.zgL h0 h1
 rw [htx]
 exact (hR.small j x hj).2.2
theorem zbX (i:Nat) (w0:World) (base b gg cap:Nat) (ns:List Ref.Node) (n:Ref.Node) (fb:Nat) (sh pt:Bool) (w:World) (hE:jR w0 base b gg cap ns w) (hi:ns[i]?=some n) (hfb:w0.heap.size≤fb) (hf:qW w fb sh pt)
  (hgood:¬(Ref.zX n Ref.bOp<0∨Ref.zX n Ref.x9<0∨Ref.kindOf ns (Ref.zX n Ref.bOp)≠3∨Ref.kindOf ns (Ref.zX n Ref.x9)≠3)) :
  Calls Tryz.prog 166 #[.pointer (some ⟨b,0,none⟩), .int .i64 (i:Int), .pointer (some ⟨fb,0,none⟩)] w (XI w fb sh pt (Ref.Yy ns n)):=by
 have hfl:fb<w.heap.size:=lt_of_block hf
 obtain ⟨⟨v1,v2⟩,⟨na,nc,hv1⟩,⟨ka,kc,hv2⟩,hcell,cH,cO⟩:=XL hE hi
 simp only at hv1 hv2
 subst hv1
 subst hv2
 have hil:i<ns.length:=(List.getElem?_eq_some_iff.1 hi).1
 have hsl:=hE.at.slice
 have hlen:=hE.rd.len
 have oB:=Ref.xM hE.rd.ev hi Ref.bOp
 have kB:=Ref.xM hE.rd.ev hi Ref.x9
 have nB:=Ref.xM hE.rd.ev hi Ref.bNo
 have vB:=Ref.xM hE.rd.ev hi Ref.zt
 obtain ⟨a1,a2,a3,a4⟩:=hcell w hE.bel
 simp only at a3 a4
 obtain ⟨nl,hnl⟩:∃nl,ns.length=nl:=⟨_,rfl⟩
 have HNL:=hid hnl
 rw [hnl] at hsl hil hlen oB kB nB vB
 unfold Vb at cH cO
 simp only at cH cO
 obtain ⟨kind,hkind⟩:∃k,n.kind=k:=⟨_,rfl⟩
 obtain ⟨text,htext⟩:∃k,n.text=k:=⟨_,rfl⟩
 obtain ⟨nn,hnn⟩:∃k,n.names.length=k:=⟨_,rfl⟩
 obtain ⟨nk,hnk⟩:∃k,n.kids.length=k:=⟨_,rfl⟩
 rw [hkind] at a1
 rw [htext] at a2
 rw [hnn] at a3
 rw [hnk] at a4
 simp only [hkind,htext,hnn,hnk] at cH cO
 have ST:=QW.start hf #[.int .i64 kind, .string text, .slice na nn nc, .slice ka nk kc] #[.string ⟨#[]⟩, .string ⟨#[]⟩, .slice none 0 0, .bool false]
 have bel0:∀wx,QW w fb #[.int .i64 kind, .string text, .slice na nn nc, .slice ka nk kc] #[.string ⟨#[]⟩, .string ⟨#[]⟩, .slice none 0 0, .bool false] sh pt wx→Below w0.heap.size w0 wx:=fun wx h=>(hE.grown h.g hfb).bel
 obtain ⟨OP,hOP⟩:∃x,Ref.zX n Ref.bOp=x:=⟨_,rfl⟩
 obtain ⟨KEY,hKEY⟩:∃x,Ref.zX n Ref.x9=x:=⟨_,rfl⟩
 obtain ⟨NO,hNO⟩:∃x,Ref.zX n Ref.bNo=x:=⟨_,rfl⟩
 obtain ⟨VA,hVA⟩:∃x,Ref.zX n Ref.zt=x:=⟨_,rfl⟩
 have cH1:=fun W h=>cH W Ref.bOp h
 have cH2:=fun W h=>cH W Ref.x9 h
 have cH3:=fun W h=>cH W Ref.bNo h
 have cH4:=fun W h=>cH W Ref.zt h
 simp only [hOP] at cH1
 simp only [hKEY] at cH2
 simp only [hNO] at cH3
 simp only [hVA] at cH4
 unfold Ref.bOp at cH1
 unfold Ref.x9 at cH2
 unfold Ref.bNo at cH3
 unfold Ref.zt at cH4
 rw [hOP] at oB
 rw [hKEY] at kB
 rw [hNO] at nB
 rw [hVA] at vB
 obtain ⟨R,hR⟩:∃R,Ref.Yy ns n=R:=⟨_,rfl⟩
 rw [hR]
 unfold Ref.Yy at hR
 rw [if_neg hgood] at hR
 rw [hOP,hKEY] at hgood
 rw [hOP,hKEY,hNO,hVA] at hR
 have HR:=hid hR
 have CO:=hid cO
 have HE:=hid hE
 have BEL0:=hid bel0
 have i0:(0:Int)≤(i:Int):=Int.natCast_nonneg _
 have i1:(i:Int)<(nl:Int):=by omega
 clear hE cH hf hcell hOP hKEY hNO hVA hkind htext hnn hnk bel0 cO hnl hR
 have s1:=fun O:Obj=>cell_later ((Below.refl _ w).alloc (Nat.le_refl _) O) hsl
 have b1:=fun O:Obj=>cell_later ((Below.refl _ w).alloc (Nat.le_refl _) O) a1
 have b2:=fun O:Obj=>cell_later ((Below.refl _ w).alloc (Nat.le_refl _) O) a2
 have b3:=fun O:Obj=>cell_later ((Below.refl _ w).alloc (Nat.le_refl _) O) a3
 have b4:=fun O:Obj=>cell_later ((Below.refl _ w).alloc (Nat.le_refl _) O) a4
 go_enter Tryz.func166,Tryz.ntmps166
 go_upto_region 8 with (first
  | (go_at_call 60;refine (cH4 w3 (BEL0.out w3 C3)).mono ?_;rintro e w4 ⟨rfl,hb4⟩;have C4:=C3.below hb4)
  | (go_at_call 60;refine (cH3 w2 (BEL0.out w2 C2)).mono ?_;rintro e w3 ⟨rfl,hb3⟩;have C3:=C2.below hb3;obtain ⟨⟨pc0,pc1,pc2,pc3⟩,_,_,_⟩:=C3.cells)
  | (go_at_call 60;refine (cH2 w1 (BEL0.out w1 C1)).mono ?_;rintro e w2 ⟨rfl,hb2⟩;have C2:=C1.below hb2;obtain ⟨⟨pb0,pb1,pb2,pb3⟩,_,_,_⟩:=C2.cells)
  | (go_at_call 60;refine (cH1 _ (BEL0.out _ ST)).mono ?_;rintro e w1 ⟨rfl,hb1⟩;have C1:=ST.below hb1;obtain ⟨⟨pa0,pa1,pa2,pa3⟩,_,_,_⟩:=C1.cells))
 have nm5:=heap_alloc_new w4 (.cells #[.string ⟨#[111,112]⟩, .string ⟨#[107,101,121]⟩, .string ⟨#[110,111]⟩, .string ⟨#[118,97,108,117,101]⟩] 9)
 have C5:=C4.below ((Below.refl _ w4).alloc (Nat.le_refl _) (.cells #[.string ⟨#[111,112]⟩, .string ⟨#[107,101,121]⟩, .string ⟨#[110,111]⟩, .string ⟨#[118,97,108,117,101]⟩] 9))
 obtain ⟨w5,hw5⟩:∃x,w4.alloc (.cells #[.string ⟨#[111,112]⟩, .string ⟨#[107,101,121]⟩, .string ⟨#[110,111]⟩, .string ⟨#[118,97,108,117,101]⟩] 9)=x:=⟨_,rfl⟩
 rw [hw5] at C5 nm5 ⊢
 obtain ⟨g4,hg4⟩:∃x,w4.heap.size=x:=⟨_,rfl⟩
 rw [hg4] at nm5 ⊢
 have hg4w:w.heap.size+3≤g4:=by rw [← hg4];exact C4.size
 have bl5:=BEL0.out w5 C5
 have sl5:w5.cell? ⟨b,2,none⟩=some (.slice (some ⟨gg,0,none⟩) nl cap):=by
  have:=(HE.out.rd.below bl5).slice
  rwa [HNL.out] at this
 clear pa0 pa1 pa2 pa3 pb0 pb1 pb2 pb3 pc0 pc1 pc2 pc3 s1 b1 b2 b3 b4 a1 a2 a3 a4 hsl i0 i1 hb1 hb2 hb3 hb4 C1 C2 C3 C4 ST cH1 cH2 cH3 cH4 hw5 hg4
 obtain ⟨jo,rfl,hoc⟩:=node_cells HE.out OP (by omega) (by rw [HNL.out];exact oB.2)
 obtain ⟨jk,rfl,hkc⟩:=node_cells HE.out KEY (by omega) (by rw [HNL.out];exact kB.2)
 have jo0:(0:Int)≤(jo:Int):=Int.natCast_nonneg _
 have jo1:(jo:Int)<(nl:Int):=oB.2
 have jk0:(0:Int)≤(jk:Int):=Int.natCast_nonneg _
 have jk1:(jk:Int)<(nl:Int):=kB.2
 have k3:Ref.kindOf ns (jo:Int)=3:=by
  by_cases e:Ref.kindOf ns (jo:Int)=3
  ·exact e
  ·exact absurd (.inr (.inr (.inl e))) hgood
 have k4:Ref.kindOf ns (jk:Int)=3:=by
  by_cases e:Ref.kindOf ns (jk:Int)=3
  ·exact e
  ·exact absurd (.inr (.inr (.inr e))) hgood
 obtain ⟨m1,m2⟩:=hoc w5 bl5
 obtain ⟨m3,m4⟩:=hkc w5 bl5
 rw [k3] at m1
 rw [k4] at m3
 obtain ⟨opT,hopT⟩:∃x,Ref.textOf ns (jo:Int)=x:=⟨_,rfl⟩
 obtain ⟨keyT,hkeyT⟩:∃x,Ref.textOf ns (jk:Int)=x:=⟨_,rfl⟩
 have hR2:=HR.out
 rw [hopT,hkeyT] at hR2
 rw [hopT] at m2
 rw [hkeyT] at m4
 have HR2:=hid hR2
 have d1:decide ((jo:Int)<0)=false:=decide_eq_false (by omega)
 have d2:decide ((jk:Int)<0)=false:=decide_eq_false (by omega)
 obtain ⟨_,⟨c0,c1,c2,c3⟩,⟨g0,g1,g2,g3⟩,⟨h0,_,h2,_⟩⟩:=C5.cells
 have P1:=C5.put hfl 0 (.string opT) #[.string opT, .string ⟨#[]⟩, .slice none 0 0, .bool false] rfl
 obtain ⟨_,⟨_,c1',_,_⟩,⟨_,g1',_,_⟩,_⟩:=P1.cells
 have C6:=P1.put hfl 1 (.string keyT) #[.string opT, .string keyT, .slice none 0 0, .bool false] rfl
 have sl5':(w5.setCell ⟨w.heap.size+2,0,none⟩ (.string opT)).cell? ⟨b,2,none⟩=some (.slice (some ⟨gg,0,none⟩) nl cap):=by
  rw [World.cell?_setCell_other _ _ _ _ (by have:=HE.out.at.lt.1;simp only [ne_eq,Addr.mk.injEq];omega)];exact sl5
 have m4':(w5.setCell ⟨w.heap.size+2,0,none⟩ (.string opT)).cell? ⟨gg,jk*4+1,none⟩=some (.string keyT):=by
  rw [World.cell?_setCell_other _ _ _ _ (by have:=HE.out.at.lt.2;simp only [ne_eq,Addr.mk.injEq];omega)];exact m4
 have nm6:((w5.setCell ⟨w.heap.size+2,0,none⟩ (.string opT)).setCell ⟨w.heap.size+2,1,none⟩ (.string keyT)).heap[g4]?=some (.cells #[.string ⟨#[111,112]⟩, .string ⟨#[107,101,121]⟩, .string ⟨#[110,111]⟩, .string ⟨#[118,97,108,117,101]⟩] 9):=by
  rw [Below.heap_setCell _ _ _ _ (by simp only;omega),Below.heap_setCell _ _ _ _ (by simp only;omega)];exact nm5
 have hkz:keyT.size≤maxLen:=by
  rw [← hkeyT];exact Nat.le_trans (zgr HE.out.rd _ jk0 (by rw [HNL.out];exact jk1)) (by decide)
 clear HR hR2 hopT hkeyT hoc hkc k3 k4 hgood
 go_upto_if 86 with fail
 obtain ⟨w6,hw6⟩:∃x,(w5.setCell ⟨w.heap.size+2,0,none⟩ (.string opT)).setCell ⟨w.heap.size+2,1,none⟩ (.string keyT)=x:=⟨_,rfl⟩
 rw [hw6] at C6 nm6 ⊢
 have bl6:Below w0.heap.size w0 w6:=(HE.out.grown C6.g hfb).bel
 have hbB:b≠w.heap.size+2:=by have:=HE.out.at.lt.1;omega
 have hgB:gg≠w.heap.size+2:=by have:=HE.out.at.lt.2;omega
 have sl6:w6.cell? ⟨b,2,none⟩=some (.slice (some ⟨gg,0,none⟩) nl cap):=by
  have:=(HE.out.rd.below bl6).slice
  rwa [HNL.out] at this
 clear hw6 sl5 sl5' m1 m2 m3 m4 m4' nm5 c0 c1 c2 c3 g0 g1 g2 g3 h0 h2 c1' g1' P1 C5 bl5 d1 d2 jo0 jo1 jk0 jk1
 go_cut [] (fun wx=>QW w fb #[.int .i64 kind, .string text, .slice na nn nc, .slice ka nk kc] #[.string opT, .string keyT, .slice none 0 0, .bool (Ref.noT ns NO)] (sh||Ref.QB ns NO) pt wx∧wx.heap[g4]?=some (.cells #[.string ⟨#[111,112]⟩, .string ⟨#[107,101,121]⟩, .string ⟨#[110,111]⟩, .string ⟨#[118,97,108,117,101]⟩] 9))
 case first=>
  by_cases hno:0≤NO
  ·obtain ⟨jn,rfl,hnc⟩:=node_cells HE.out NO hno (by rw [HNL.out];exact nB.2)
   have jn0:(0:Int)≤(jn:Int):=Int.natCast_nonneg _
   have jn1:(jn:Int)<(nl:Int):=nB.2
   have dn:decide ((0:Int)≤(jn:Int))=true:=decide_eq_true jn0
   have e1:Ref.noT ns (jn:Int)=(Ref.kindOf ns (jn:Int)==4):=by unfold Ref.noT;rw [dn,Bool.true_and]
   have e2:Ref.QB ns (jn:Int)=(!(Ref.kindOf ns (jn:Int)==4) && !(Ref.kindOf ns (jn:Int)==5)):=by unfold Ref.QB;rw [dn,Bool.true_and]
   obtain ⟨m5,_⟩:=hnc w6 bl6
   obtain ⟨KN,hKN⟩:∃x,Ref.kindOf ns (jn:Int)=x:=⟨_,rfl⟩
   rw [hKN] at e1 e2 m5
   have E1:=hid e1
   have E2:=hid e2
   obtain ⟨_,⟨c0,c1,c2,c3⟩,⟨g0,g1,g2,g3⟩,⟨h0,_,h2,_⟩⟩:=C6.cells
   have P3:=C6.put hfl 3 (.bool (KN==4)) #[.string opT, .string keyT, .slice none 0 0, .bool (KN==4)] rfl
   obtain ⟨_,_,_,⟨f0,_,f2,_⟩⟩:=P3.cells
   have sl7:(w6.setCell ⟨w.heap.size+2,3,none⟩ (.bool (KN==4))).cell? ⟨b,2,none⟩=some (.slice (some ⟨gg,0,none⟩) nl cap):=by
    rw [World.cell?_setCell_other _ _ _ _ (by simp only [ne_eq,Addr.mk.injEq];omega)];exact sl6
   have m7:(w6.setCell ⟨w.heap.size+2,3,none⟩ (.bool (KN==4))).cell? ⟨gg,jn*4,none⟩=some (.int .i64 KN):=by
    rw [World.cell?_setCell_other _ _ _ _ (by simp only [ne_eq,Addr.mk.injEq];omega)];exact m5
   have nmF:∀x,((w6.setCell ⟨w.heap.size+2,3,none⟩ (.bool (KN==4))).setCell ⟨fb,0,none⟩ x).heap[g4]?=some (.cells #[.string ⟨#[111,112]⟩, .string ⟨#[107,101,121]⟩, .string ⟨#[110,111]⟩, .string ⟨#[118,97,108,117,101]⟩] 9):=fun x=>by
    rw [Below.heap_setCell _ _ _ _ (by simp only;omega),Below.heap_setCell _ _ _ _ (by simp only;omega)];exact nm6
   have PT:=P3.shape hfl true
   have PF:=P3.shape hfl false
   have HP:=hid (And.intro PT PF)
   clear e1 e2 hnc hKN P3 PT PF C6 HR2 CO
   cases sh with
   | true=>
    go_wp2_with fail
    go_meet
    case rel=>exact ⟨by rw [E1.out,Bool.true_or];exact HP.out.1,nmF _⟩
   | false=>
    by_cases k4:KN=4
    ·subst k4
     go_wp2_with fail
     go_meet
     case rel=>exact ⟨by rw [E1.out,E2.out,show (false||(!((4:Int)==4) && !((4:Int)==5)))=false from by decide];exact HP.out.2,nmF _⟩
    ·have q4:(KN != 4)=true:=by simp [k4]
     have q4':(KN==4)=false:=by simp [k4]
     by_cases k5:KN=5
     ·subst k5
      go_wp2_with fail
      go_meet
      case rel=>exact ⟨by rw [E1.out,E2.out,show (false||(!((5:Int)==4) && !((5:Int)==5)))=false from by decide];exact HP.out.2,nmF _⟩
     ·have q5:(KN != 5)=true:=by simp [k5]
      have q5':(KN==5)=false:=by simp [k5]
      have Q4:=hid q4'
      have Q5:=hid q5'
      clear q4' q5'
      go_wp2_with fail
      go_meet
      case rel=>exact ⟨by rw [E1.out,E2.out,Q4.out,Q5.out];first|exact HP.out.1|(have h:=HP.out.1;rw [Q4.out] at h;exact h),by first|exact nmF _|(have h:=nmF (.bool true);rw [Q4.out] at h;exact h)⟩
  ·have dn:decide ((0:Int)≤NO)=false:=decide_eq_false hno
   have e1:Ref.noT ns NO=false:=by unfold Ref.noT;rw [dn,Bool.false_and]
   have e2:Ref.QB ns NO=false:=by unfold Ref.QB;rw [dn,Bool.false_and]
   have HC6:=hid C6
   have E1:=hid e1
   have E2:=hid e2
   clear e1 e2 HR2 CO C6
   have hn2:NO<0:=by omega
   go_wp2_with fail
   go_meet
   case rel=>exact ⟨by rw [E1.out,E2.out,Bool.or_false];exact HC6.out,nm6⟩
 case rest=>
  obtain ⟨C7,nm7⟩:=hcut
  obtain ⟨⟨n0,n1,n2,n3⟩,⟨c0,c1,c2,c3⟩,⟨g0,g1,g2,g3⟩,⟨h0,h1,h2,h3⟩⟩:=C7.cells
  go_upto_if 131 with (go_at_call 180;refine (Yq keyT _ hkz).mono ?_;rintro e wN ⟨rfl,rfl⟩)
  have bl7:Below w0.heap.size w0 wN:=(HE.out.grown C7.g hfb).bel
  have cS:∀W,Below w0.heap.size w0 W→Calls Tryz.prog 207 #[.pointer (some ⟨b,0,none⟩), .int .i64 VA] W (KH W (Ref.zH ns VA)):=fun W hb=>Ve VA base b gg cap ns W (HE.out.rd.below hb) (by rw [HNL.out];exact vB.2) vB.1
  have cP:∀W sh pt,Below w0.heap.size w0 W→qW W fb sh pt→Calls Tryz.prog 165 #[.pointer (some ⟨b,0,none⟩), .int .i64 VA, .pointer (some ⟨fb,0,none⟩)] W (U1 W fb sh pt (Ref.zH ns VA)):=fun W sh pt hb hf=>YP VA base b gg cap ns fb sh pt W (HE.out.rd.below hb) (by rw [HNL.out];exact vB.2) vB.1 hf
  have hsmall:∀s ∈ (Ref.zH ns VA).getD [],s.size≤12000:=by
   cases e:Ref.zH ns VA with
   | none=>simp
   | some l=>exact Ref.QF ns 12000 (fun i n hi=>(HE.out.rd.small i n hi).2.2) VA l e
  have hlen:((Ref.zH ns VA).getD []).length≤10:=by
   cases e:Ref.zH ns VA with
   | none=>simp
   | some l=>exact Ref.YV ns VA l e
  unfold KH at cS
  unfold U1 at cP
  obtain ⟨SO,hSO⟩:∃x,(Ref.zH ns VA).isSome=x:=⟨_,rfl⟩
  obtain ⟨L,hL⟩:∃x,(Ref.zH ns VA).getD []=x:=⟨_,rfl⟩
  obtain ⟨FI,hFI⟩:∃x,Ref.zgA opT L=x:=⟨_,rfl⟩
  have hR3:=HR2.out
  rw [hSO,hL,hFI] at hR3
  simp only [hSO,hL] at cS cP
  rw [hL] at hsmall hlen
  have cV:=fun (lv:Value) (W:World) (bs:Nat) h=>KL opT L lv bs W h hlen hsmall
  rw [hFI] at cV
  have HR3:=hid hR3
  have CS:=hid cS
  have CP:=hid cP
  have CV:=hid cV
  have BL7:=hid bl7
  have NM7:=hid nm7
  have wcz:=C7.size
  have DC7:=hid C7
  clear hR3 cS cP cV bl7 HR2 hSO hL hFI hsmall hlen nm7 C7 sl6 bl6 C6 nm6
  obtain ⟨sh1,hsh1⟩:∃x,(sh||Ref.QB ns NO)=x:=⟨_,rfl⟩
  rw [hsh1] at h0 DC7
  obtain ⟨NT,hNT⟩:∃x,Ref.noT ns NO=x:=⟨_,rfl⟩
  rw [hNT] at c3 DC7 HR3
  have HSH1:=hid hsh1
  clear hsh1 hNT
  obtain ⟨IS,hIS⟩:∃x,Ref.zY keyT=x:=⟨_,rfl⟩
  rw [hIS] at HR3 ⊢
  clear hIS
  go_cut [13] (fun s wx=>∃(ts:List ByteArray) (lv:Value) (vals:List ByteArray) (x p:Bool),ts.length≤4000∧QW w fb #[.int .i64 kind, .string text, .slice na nn nc, .slice ka nk kc] #[.string opT, .string keyT,lv, .bool NT] (sh1||x) (pt||p) wx∧wx.ownsRow w.heap.size 9 1 s ts.length (Ref.strCells ts)∧wx.ownsRow (w.heap.size+3) 9 1 lv vals.length (Ref.strCells vals)∧R=⟨opT,keyT,vals,NT,Ref.QB ns NO||x || !IS || !Ref.vM n ts,p⟩)
  case first=>
   by_cases hab:Ref.zV opT=true
   ·have REL:Hid (∃(ts:List ByteArray) (lv:Value) (vals:List ByteArray) (x p:Bool),ts.length≤4000∧QW w fb #[.int .i64 kind, .string text, .slice na nn nc, .slice ka nk kc] #[.string opT, .string keyT,lv, .bool NT] (sh1||x) (pt||p) wN∧wN.ownsRow w.heap.size 9 1 (.slice (some ⟨g4,0,none⟩) 3 4) ts.length (Ref.strCells ts)∧wN.ownsRow (w.heap.size+3) 9 1 lv vals.length (Ref.strCells vals)∧R=⟨opT,keyT,vals,NT,Ref.QB ns NO||x || !IS || !Ref.vM n ts,p⟩):=
     ⟨[Ref.bOp,Ref.x9,Ref.bNo], .slice none 0 0,[],false,false,by decide,by rw [Bool.or_false,Bool.or_false];exact DC7.out,(zkH NM7.out (by omega)).2,World.ownsRow_nil _ _ _ _,by rw [← HR3.out,if_pos hab,Bool.or_false]⟩
    unfold Ref.zV at hab
    clear HR3 DC7 NM7
    rw [hab]
    go_wp2_with fail
    go_meet
    case rel=>exact REL.out
   ·have hr:=HR3.out
    rw [if_neg hab] at hr
    have HR4:=hid hr
    have hab':(opT.toList==[97,98,115,101,110,116])=false:=by unfold Ref.zV at hab;simpa using hab
    clear hr HR3 hab
    have FIN:Hid (∀(wS wy:World) (la:Option Addr) (lc:Nat) (p y:Bool),Below wN.heap.size wN wS→wS.ownsRow wN.heap.size 9 1 (.slice la L.length lc) L.length (Ref.strCells L)→(∀i,w.heap.size+3≤i→i<wS.heap.size→wy.heap[i]?=wS.heap[i]?)→(Ref.xR opT && !L.all Ref.xY)=p→(sh1||(!SO || !FI))=y →
      QW w fb #[.int .i64 kind, .string text, .slice na nn nc, .slice ka nk kc] #[.string opT, .string keyT, .slice none 0 0, .bool NT] y (pt||p) wy →
      ∃(ts:List ByteArray) (lv:Value) (vals:List ByteArray) (x p:Bool),ts.length≤4000∧QW w fb #[.int .i64 kind, .string text, .slice na nn nc, .slice ka nk kc] #[.string opT, .string keyT,lv, .bool NT] (sh1||x) (pt||p) (wy.setCell ⟨w.heap.size+2,2,none⟩ (.slice la L.length lc))∧(wy.setCell ⟨w.heap.size+2,2,none⟩ (.slice la L.length lc)).ownsRow w.heap.size 9 1 (.slice (some ⟨g4,0,none⟩) 4 4) ts.length (Ref.strCells ts)∧(wy.setCell ⟨w.heap.size+2,2,none⟩ (.slice la L.length lc)).ownsRow (w.heap.size+3) 9 1 lv vals.length (Ref.strCells vals)∧R=⟨opT,keyT,vals,NT,Ref.QB ns NO||x || !IS || !Ref.vM n ts,p⟩):=by
     intro wS wy la lc p y hbS ownS hk hp hy hC
     subst hp
     subst hy
     have hg4l:g4<wN.heap.size:=lt_of_block NM7.out
     have hsz:=hbS.size
     refine ⟨[Ref.bOp,Ref.x9,Ref.bNo,Ref.zt], .slice la L.length lc,L,(!SO || !FI),_,by decide,hC.put hfl 2 _ _ rfl,(zkH ?_ (by omega)).1,?_,HR4.out.symm⟩
     ·rw [Below.heap_setCell _ _ _ _ (by simp only;omega),hk g4 hg4w (by omega),hbS.block g4 hg4l];exact NM7.out
     ·refine qK (zl ownS (by omega)) (fun i h1 h2=>?_)
      rw [Below.heap_setCell _ _ _ _ (by simp only;omega)];exact hk i h1 h2
    clear HR4 NM7
    rw [hab']
    clear hab'
    by_cases hlk:Ref.xR opT=true
    ·have hlk':(opT.toList==[108,105,107,101])=true:=by unfold Ref.xR at hlk;exact hlk
     rcases JO sh1 SO FI with rfl|⟨rfl,rfl⟩|⟨rfl,rfl,rfl⟩|⟨rfl,rfl,rfl⟩
     all_goals
      go_wp2_with (first
       | (go_at_call 207;refine (CS.out wN BL7.out).mono ?_;rintro e wS ⟨lv,rfl,hbS,ownS⟩;obtain ⟨la,lc,rfl⟩:=qm ownS;have C1:=DC7.out.below hbS;obtain ⟨_,⟨d0,_,d2,_⟩,⟨_,_,e2,_⟩,⟨f0,f1,f2,_⟩⟩:=C1.cells;have k0:=fun x=>(C1.shape hfl x).cells.2.1.1)
       | (go_at_call 208;refine (CV.out _ _ _ ownS).mono ?_;rintro e wV ⟨rfl,rfl⟩)
       | (go_at_call 165;refine (CP.out _ _ _ (HE.out.grown (C1.shape hfl _).g hfb).bel (C1.shape hfl _).f).mono ?_;rintro e wP ⟨lp,rfl,hgP,hfP,_⟩;have C2:=(C1.shape hfl _).grown hfl hgP hfP;obtain ⟨_,⟨_,_,d2',_⟩,⟨_,_,e2',_⟩,_⟩:=C2.cells))
      go_meet
      case rel=>exact FIN.out _ _ _ _ (!L.all Ref.xY) _ hbS ownS (fun i h1 h2=>(hgP.block i (by simp [World.setCell];omega) (by simp;omega)).trans (Below.heap_setCell _ _ _ _ (by simp only;omega))) (by rw [hlk,Bool.true_and]) rfl C2
    ·have hlk2:Ref.xR opT=false:=by simpa using hlk
     have hlk':(opT.toList==[108,105,107,101])=false:=by unfold Ref.xR at hlk2;exact hlk2
     clear hlk
     rcases JO sh1 SO FI with rfl|⟨rfl,rfl⟩|⟨rfl,rfl,rfl⟩|⟨rfl,rfl,rfl⟩
     all_goals
      go_wp2_with (first
       | (go_at_call 207;refine (CS.out wN BL7.out).mono ?_;rintro e wS ⟨lv,rfl,hbS,ownS⟩;obtain ⟨la,lc,rfl⟩:=qm ownS;have C1:=DC7.out.below hbS;obtain ⟨_,⟨d0,_,d2,_⟩,⟨_,_,e2,_⟩,⟨f0,f1,f2,_⟩⟩:=C1.cells;have k0:=fun x=>(C1.shape hfl x).cells.2.1.1;have k2:=fun x=>(C1.shape hfl x).cells.2.1.2.2.1;have k3:=fun x=>(C1.shape hfl x).cells.2.2.1.2.2.1)
       | (go_at_call 208;refine (CV.out _ _ _ ownS).mono ?_;rintro e wV ⟨rfl,rfl⟩))
      go_meet
      case rel=>exact FIN.out _ _ _ _ false _ hbS ownS (fun i h1 _=>Below.heap_setCell _ _ _ _ (by simp only;omega)) (by rw [hlk2,Bool.false_and]) rfl (by rw [Bool.or_false];exact C1.shape hfl _)
  case rest=>
   obtain ⟨ts,lv,vals,x,p,hts,C8,oT,oV,hRR⟩:=hcut
   clear HR3 DC7 NM7 CS CP CV BL7
   subst hRR
   obtain ⟨lva,lvc,rfl⟩:=qm oV
   obtain ⟨ta,tc,rfl⟩:=qm oT
   have bl8:Below w0.heap.size w0 wc:=(HE.out.grown C8.g hfb).bel
   obtain ⟨ON,hON⟩:∃z,Ref.vM n ts=z:=⟨_,rfl⟩
   have cO:=CO.out wc ts (.slice ta ts.length tc) w.heap.size bl8 oT hts
   rw [hON] at cO
   obtain ⟨sh2,hsh2⟩:∃z,(sh1||x)=z:=⟨_,rfl⟩
   rw [hsh2] at C8
   have FF:Hid (∀(w9:World) (y:Bool),Below wc.heap.size wc w9→(sh2 || !IS || !ON)=y →
     XI w fb sh pt ⟨opT,keyT,vals,NT,Ref.QB ns NO||x || !IS || !Ref.vM n ts,p⟩ (.returned (.agg #[.string opT, .string keyT, .slice lva vals.length lvc, .bool NT])) (((((w9.setCell ⟨fb,0,none⟩ (.bool y)).setCell ⟨w.heap.size,0,none⟩ (.string opT)).setCell ⟨w.heap.size,1,none⟩ (.string keyT)).setCell ⟨w.heap.size,2,none⟩ (.slice lva vals.length lvc)).setCell ⟨w.heap.size,3,none⟩ (.bool NT))):=by
    intro w9 y hb hy
    have hfin:=((C8.below hb).shape hfl y).fin hfl (.string opT) (.string keyT) (.slice lva vals.length lvc) (.bool NT)
    refine ⟨_,rfl,hfin.1,?_,?_⟩
    ·have e1:(sh||(Ref.QB ns NO||x || !IS || !Ref.vM n ts))=y:=by rw [← hy,← hsh2,← HSH1.out,hON];simp only [Bool.or_assoc]
     show qW _ fb (sh||(Ref.QB ns NO||x || !IS || !Ref.vM n ts)) (pt||p)
     rw [e1];exact hfin.2
    ·refine zl (qK (ownsRow_below oV hb) (fun i h1 h2=>?_)) (by omega)
     rw [Below.heap_setCell _ _ _ _ (by simp only;omega),Below.heap_setCell _ _ _ _ (by simp only;omega),Below.heap_setCell _ _ _ _ (by simp only;omega),Below.heap_setCell _ _ _ _ (by simp only;omega),Below.heap_setCell _ _ _ _ (by simp only;omega)]
   obtain ⟨⟨q0,q1,q2,q3⟩,_,_,_⟩:=C8.cells
   clear hON hsh2 HSH1 oT oV bl8 CO
   rcases JO sh2 IS ON with rfl|⟨rfl,rfl⟩|⟨rfl,rfl,rfl⟩|⟨rfl,rfl,rfl⟩
   all_goals
    go_wp2_with (go_at_call 110;refine cO.mono ?_;rintro e w9 ⟨rfl,hb9⟩;have C9:=C8.below hb9;obtain ⟨_,_,_,⟨f0,f1,f2,_⟩⟩:=C9.cells;have y0:=fun x=>(C9.shape hfl x).cells.2.1.1;have y1:=fun x=>(C9.shape hfl x).cells.2.1.2.1;have y2:=fun x=>(C9.shape hfl x).cells.2.1.2.2.1;have y3:=fun x=>(C9.shape hfl x).cells.2.1.2.2.2;have t0:=fun x=>(C9.shape hfl x).res.1.1;have t1:=fun x=>(C9.shape hfl x).res.1.2.1;have t2:=fun x=>(C9.shape hfl x).res.1.2.2.1;have t3:=fun x=>(C9.shape hfl x).res.1.2.2.2;have z0:=fun x=>(C9.shape hfl x).res.2.1;have z1:=fun x=>(C9.shape hfl x).res.2.2.1;have z2:=fun x=>(C9.shape hfl x).res.2.2.2.1;have z3:=fun x=>(C9.shape hfl x).res.2.2.2.2;have E:=fun x=>zbY (.string opT) (.string keyT) (.slice lva vals.length lvc) (.bool NT) (t0 x) (t1 x) (t2 x) (t3 x);have e0:=fun x=>(E x).1;have e1:=fun x=>(E x).2.1;have e2:=fun x=>(E x).2.2.1;have e3:=fun x=>(E x).2.2.2;clear E)
    exact bodyPost_ret (v := .agg #[.string opT, .string keyT, .slice lva vals.length lvc, .bool NT]) (by simp [results,Tryz.results166,go_sem,e0,e1,e2,e3]) rfl (FF.out _ _ hb9 rfl)
end Go.Proofs.YtdakgnaojakldaaGreatDoor
