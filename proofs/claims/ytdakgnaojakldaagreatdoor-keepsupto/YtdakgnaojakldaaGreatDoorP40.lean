/- P -/
import Derived.Test.YtdakgnaojakldaaGreatDoorP39
set_option maxRecDepth 100000
set_option maxHeartbeats 2000000
namespace Go.Proofs.YtdakgnaojakldaaGreatDoor
open Go.RowKit
theorem zkH {W:World} {g base:Nat} {a b c d:ByteArray} (h:W.heap[g]?=some (.cells #[.string a, .string b, .string c, .string d] 9 (0,0))) (hb:base≤g) :
  W.ownsRow base 9 1 (.slice (some ⟨g,0,none⟩) 4 4) [a,b,c,d].length (Ref.strCells [a,b,c,d])∧W.ownsRow base 9 1 (.slice (some ⟨g,0,none⟩) 3 4) [a,b,c].length (Ref.strCells [a,b,c]):=
 ⟨⟨rfl, .inr ⟨g,4,_,rfl,hb,h,by simp,by decide,rfl,rfl⟩⟩,⟨rfl, .inr ⟨g,4,_,rfl,hb,h,by simp,by decide,rfl,rfl⟩⟩⟩
theorem node_cells {w0 w:World} {base b gg cap:Nat} {ns:List Ref.Node} (hE:jR w0 base b gg cap ns w) (k:Int) (h0:0≤k) (h1:k<(ns.length:Int)) :
  ∃j:Nat,k=(j:Int)∧∀W,Below w0.heap.size w0 W→W.cell? ⟨gg,j*4,none⟩=some (.int .i64 (Ref.kindOf ns k))∧W.cell? ⟨gg,j*4+1,none⟩=some (.string (Ref.textOf ns k)):=by
 obtain ⟨j,x,hk,hj,hkd,htx⟩:=Ref.zgL h0 h1
 refine ⟨j,hk,fun W hb=>?_⟩
 obtain ⟨v,a1,a2,_⟩:=hE.rd.node j x hj
 rw [hkd,htx]
 exact ⟨cell_later hb a1,cell_later hb a2⟩
theorem QW.res {w wx:World} {fb:Nat} {nc cc:Array Value} {sh pt:Bool} (h:QW w fb nc cc sh pt wx) :
  (wx.cell? ⟨w.heap.size,0,none⟩=some (.string ⟨#[]⟩)∧wx.cell? ⟨w.heap.size,1,none⟩=some (.string ⟨#[]⟩)∧wx.cell? ⟨w.heap.size,2,none⟩=some (.slice none 0 0)∧wx.cell? ⟨w.heap.size,3,none⟩=some (.bool false)) ∧
  (wx.frozen? ⟨w.heap.size,0,none⟩=false∧wx.frozen? ⟨w.heap.size,1,none⟩=false∧wx.frozen? ⟨w.heap.size,2,none⟩=false∧wx.frozen? ⟨w.heap.size,3,none⟩=false):=
 ⟨⟨(cells_of_block h.r 0).1,(cells_of_block h.r 1).1,(cells_of_block h.r 2).1,(cells_of_block h.r 3).1⟩,⟨(cells_of_block h.r 0).2,(cells_of_block h.r 1).2,(cells_of_block h.r 2).2,(cells_of_block h.r 3).2⟩⟩
theorem zbY {w:World} {b:Nat} {o0 o1 o2 o3:Value} (x0 x1 x2 x3:Value) (h0:w.cell? ⟨b,0,none⟩=some o0) (h1:w.cell? ⟨b,1,none⟩=some o1) (h2:w.cell? ⟨b,2,none⟩=some o2) (h3:w.cell? ⟨b,3,none⟩=some o3) :
  ((((w.setCell ⟨b,0,none⟩ x0).setCell ⟨b,1,none⟩ x1).setCell ⟨b,2,none⟩ x2).setCell ⟨b,3,none⟩ x3).cell? ⟨b,0,none⟩=some x0∧((((w.setCell ⟨b,0,none⟩ x0).setCell ⟨b,1,none⟩ x1).setCell ⟨b,2,none⟩ x2).setCell ⟨b,3,none⟩ x3).cell? ⟨b,1,none⟩=some x1 ∧
  ((((w.setCell ⟨b,0,none⟩ x0).setCell ⟨b,1,none⟩ x1).setCell ⟨b,2,none⟩ x2).setCell ⟨b,3,none⟩ x3).cell? ⟨b,2,none⟩=some x2∧((((w.setCell ⟨b,0,none⟩ x0).setCell ⟨b,1,none⟩ x1).setCell ⟨b,2,none⟩ x2).setCell ⟨b,3,none⟩ x3).cell? ⟨b,3,none⟩=some x3:=by
 refine ⟨?_,?_,?_,?_⟩
 ·rw [World.cell?_setCell_other _ _ _ _ (by simp),World.cell?_setCell_other _ _ _ _ (by simp),World.cell?_setCell_other _ _ _ _ (by simp),World.cell?_setCell_same _ _ _ h0]
 ·rw [World.cell?_setCell_other _ _ _ _ (by simp),World.cell?_setCell_other _ _ _ _ (by simp)]
  exact World.cell?_setCell_same _ _ _ ((World.cell?_setCell_other _ _ _ _ (by simp)).trans h1)
 ·rw [World.cell?_setCell_other _ _ _ _ (by simp)]
  exact World.cell?_setCell_same _ _ _ ((World.cell?_setCell_other _ _ _ _ (by simp)).trans ((World.cell?_setCell_other _ _ _ _ (by simp)).trans h2))
 ·exact World.cell?_setCell_same _ _ _ ((World.cell?_setCell_other _ _ _ _ (by simp)).trans ((World.cell?_setCell_other _ _ _ _ (by simp)).trans ((World.cell?_setCell_other _ _ _ _ (by simp)).trans h3)))
theorem UI (i:Nat) (w0:World) (base b gg cap:Nat) (ns:List Ref.Node) (n:Ref.Node) (fb:Nat) (sh pt:Bool) (w:World) (hE:jR w0 base b gg cap ns w) (hi:ns[i]?=some n) (hfb:w0.heap.size≤fb) (hf:qW w fb sh pt)
  (hbad:Ref.zX n Ref.bOp<0∨Ref.zX n Ref.x9<0∨Ref.kindOf ns (Ref.zX n Ref.bOp)≠3∨Ref.kindOf ns (Ref.zX n Ref.x9)≠3) :
  Calls Tryz.prog 166 #[.pointer (some ⟨b,0,none⟩), .int .i64 (i:Int), .pointer (some ⟨fb,0,none⟩)] w (XI w fb sh pt Ref.xQ):=by
 have hfl:fb<w.heap.size:=lt_of_block hf
 obtain ⟨⟨v1,v2⟩,⟨na,nc,hv1⟩,⟨ka,kc,hv2⟩,hcell,cH,cO⟩:=XL hE hi
 simp only at hv1 hv2
 subst hv1
 subst hv2
 have hil:i<ns.length:=(List.getElem?_eq_some_iff.1 hi).1
 have hsl:=hE.at.slice
 have hlen:=hE.rd.len
 have oB:=Ref.xM hE.rd.ev hi Ref.bOp
 have kB:=Ref.xM hE.rd.ev hi Ref.x9
 have nB:=Ref.xM hE.rd.ev hi Ref.bNo
 have vB:=Ref.xM hE.rd.ev hi Ref.zt
 obtain ⟨a1,a2,a3,a4⟩:=hcell w hE.bel
 simp only at a3 a4
 obtain ⟨nl,hnl⟩:∃nl,ns.length=nl:=⟨_,rfl⟩
 have HNL:=hid hnl
 rw [hnl] at hsl hil hlen oB kB nB vB
 unfold Vb at cH cO
 simp only at cH cO
 obtain ⟨kind,hkind⟩:∃k,n.kind=k:=⟨_,rfl⟩
 obtain ⟨text,htext⟩:∃k,n.text=k:=⟨_,rfl⟩
 obtain ⟨nn,hnn⟩:∃k,n.names.length=k:=⟨_,rfl⟩
 obtain ⟨nk,hnk⟩:∃k,n.kids.length=k:=⟨_,rfl⟩
 rw [hkind] at a1
 rw [htext] at a2
 rw [hnn] at a3
 rw [hnk] at a4
 simp only [hkind,htext,hnn,hnk] at cH cO
 have ST:=QW.start hf #[.int .i64 kind, .string text, .slice na nn nc, .slice ka nk kc] #[.string ⟨#[]⟩, .string ⟨#[]⟩, .slice none 0 0, .bool false]
 have bel0:∀wx,QW w fb #[.int .i64 kind, .string text, .slice na nn nc, .slice ka nk kc] #[.string ⟨#[]⟩, .string ⟨#[]⟩, .slice none 0 0, .bool false] sh pt wx→Below w0.heap.size w0 wx:=fun wx h=>(hE.grown h.g hfb).bel
 obtain ⟨OP,hOP⟩:∃x,Ref.zX n Ref.bOp=x:=⟨_,rfl⟩
 obtain ⟨KEY,hKEY⟩:∃x,Ref.zX n Ref.x9=x:=⟨_,rfl⟩
 obtain ⟨NO,hNO⟩:∃x,Ref.zX n Ref.bNo=x:=⟨_,rfl⟩
 obtain ⟨VA,hVA⟩:∃x,Ref.zX n Ref.zt=x:=⟨_,rfl⟩
 have cH1:=fun W h=>cH W Ref.bOp h
 have cH2:=fun W h=>cH W Ref.x9 h
 have cH3:=fun W h=>cH W Ref.bNo h
 have cH4:=fun W h=>cH W Ref.zt h
 simp only [hOP] at cH1
 simp only [hKEY] at cH2
 simp only [hNO] at cH3
 simp only [hVA] at cH4
 unfold Ref.bOp at cH1
 unfold Ref.x9 at cH2
 unfold Ref.bNo at cH3
 unfold Ref.zt at cH4
 rw [hOP] at oB
 rw [hKEY] at kB
 rw [hNO] at nB
 rw [hVA] at vB
 rw [hOP,hKEY] at hbad
 have HE:=hid hE
 have BEL0:=hid bel0
 have i0:(0:Int)≤(i:Int):=Int.natCast_nonneg _
 have i1:(i:Int)<(nl:Int):=by omega
 clear hE cH hf hcell hOP hKEY hNO hVA hkind htext hnn hnk bel0 cO hnl nB vB
 have s1:=fun O:Obj=>cell_later ((Below.refl _ w).alloc (Nat.le_refl _) O) hsl
 have b1:=fun O:Obj=>cell_later ((Below.refl _ w).alloc (Nat.le_refl _) O) a1
 have b2:=fun O:Obj=>cell_later ((Below.refl _ w).alloc (Nat.le_refl _) O) a2
 have b3:=fun O:Obj=>cell_later ((Below.refl _ w).alloc (Nat.le_refl _) O) a3
 have b4:=fun O:Obj=>cell_later ((Below.refl _ w).alloc (Nat.le_refl _) O) a4
 go_enter Tryz.func166,Tryz.ntmps166
 go_upto_region 8 with (first
  | (go_at_call 60;refine (cH4 w3 (BEL0.out w3 C3)).mono ?_;rintro e w4 ⟨rfl,hb4⟩;have C4:=C3.below hb4)
  | (go_at_call 60;refine (cH3 w2 (BEL0.out w2 C2)).mono ?_;rintro e w3 ⟨rfl,hb3⟩;have C3:=C2.below hb3;obtain ⟨⟨pc0,pc1,pc2,pc3⟩,_,_,_⟩:=C3.cells)
  | (go_at_call 60;refine (cH2 w1 (BEL0.out w1 C1)).mono ?_;rintro e w2 ⟨rfl,hb2⟩;have C2:=C1.below hb2;obtain ⟨⟨pb0,pb1,pb2,pb3⟩,_,_,_⟩:=C2.cells)
  | (go_at_call 60;refine (cH1 _ (BEL0.out _ ST)).mono ?_;rintro e w1 ⟨rfl,hb1⟩;have C1:=ST.below hb1;obtain ⟨⟨pa0,pa1,pa2,pa3⟩,_,_,_⟩:=C1.cells))
 have C5:=C4.below ((Below.refl _ w4).alloc (Nat.le_refl _) (.cells #[.string ⟨#[111,112]⟩, .string ⟨#[107,101,121]⟩, .string ⟨#[110,111]⟩, .string ⟨#[118,97,108,117,101]⟩] 9))
 obtain ⟨w5,hw5⟩:∃x,w4.alloc (.cells #[.string ⟨#[111,112]⟩, .string ⟨#[107,101,121]⟩, .string ⟨#[110,111]⟩, .string ⟨#[118,97,108,117,101]⟩] 9)=x:=⟨_,rfl⟩
 rw [hw5] at C5 ⊢
 obtain ⟨g4,hg4⟩:∃x,w4.heap.size=x:=⟨_,rfl⟩
 rw [hg4]
 have bl5:=BEL0.out w5 C5
 have sl5:w5.cell? ⟨b,2,none⟩=some (.slice (some ⟨gg,0,none⟩) nl cap):=by
  have:=(HE.out.rd.below bl5).slice
  rwa [HNL.out] at this
 clear pa0 pa1 pa2 pa3 pb0 pb1 pb2 pb3 pc0 pc1 pc2 pc3 s1 b1 b2 b3 b4 a1 a2 a3 a4 hsl i0 i1 hb1 hb2 hb3 hb4 C1 C2 C3 C4 ST cH1 cH2 cH3 cH4 hw5 hg4
 obtain ⟨_,⟨c0,c1,c2,c3⟩,_,⟨h0,_,h2,_⟩⟩:=C5.cells
 have E5:=C5.shape hfl true
 obtain ⟨⟨t0,t1,t2,t3⟩,⟨z0,z1,z2,z3⟩⟩:=E5.res
 obtain ⟨_,⟨y0,y1,y2,y3⟩,_,_⟩:=E5.cells
 obtain ⟨e0,e1,e2,e3⟩:=zbY (.string ⟨#[]⟩) (.string ⟨#[]⟩) (.slice none 0 0) (.bool false) t0 t1 t2 t3
 have hfin:=E5.fin hfl (.string ⟨#[]⟩) (.string ⟨#[]⟩) (.slice none 0 0) (.bool false)
 have FF:Hid (XI w fb sh pt Ref.xQ (.returned (.agg #[.string ⟨#[]⟩, .string ⟨#[]⟩, .slice none 0 0, .bool false])) (((((w5.setCell ⟨fb,0,none⟩ (.bool true)).setCell ⟨w.heap.size,0,none⟩ (.string ⟨#[]⟩)).setCell ⟨w.heap.size,1,none⟩ (.string ⟨#[]⟩)).setCell ⟨w.heap.size,2,none⟩ (.slice none 0 0)).setCell ⟨w.heap.size,3,none⟩ (.bool false))):=by
  refine ⟨_,rfl,hfin.1,?_,World.ownsRow_nil _ _ _ _⟩
  have e1:(sh||Ref.xQ.sh)=true:=by show (sh||true)=true;simp
  have e2:(pt||Ref.xQ.pt)=pt:=by show (pt||false)=pt;simp
  rw [e1,e2]
  exact hfin.2
 clear hfin E5 C5
 by_cases o1:OP<0
 ·have d1:decide (OP<0)=true:=decide_eq_true o1
  clear hbad oB kB o1 sl5
  go_wp2
  exact bodyPost_ret (v := .agg #[.string ⟨#[]⟩, .string ⟨#[]⟩, .slice none 0 0, .bool false]) (by simp [results,Tryz.results166,go_sem,e0,e1,e2,e3]) rfl FF.out
 have d1:decide (OP<0)=false:=decide_eq_false o1
 by_cases o2:KEY<0
 ·have d2:decide (KEY<0)=true:=decide_eq_true o2
  clear hbad oB kB o1 o2 sl5
  go_wp2
  exact bodyPost_ret (v := .agg #[.string ⟨#[]⟩, .string ⟨#[]⟩, .slice none 0 0, .bool false]) (by simp [results,Tryz.results166,go_sem,e0,e1,e2,e3]) rfl FF.out
 have d2:decide (KEY<0)=false:=decide_eq_false o2
 obtain ⟨jo,rfl,hoc⟩:=node_cells HE.out OP (by omega) (by rw [HNL.out];exact oB.2)
 obtain ⟨jk,rfl,hkc⟩:=node_cells HE.out KEY (by omega) (by rw [HNL.out];exact kB.2)
 have jo0:(0:Int)≤(jo:Int):=Int.natCast_nonneg _
 have jo1:(jo:Int)<(nl:Int):=oB.2
 have jk0:(0:Int)≤(jk:Int):=Int.natCast_nonneg _
 have jk1:(jk:Int)<(nl:Int):=kB.2
 have h34:Ref.kindOf ns (jo:Int)≠3∨(Ref.kindOf ns (jo:Int)=3∧Ref.kindOf ns (jk:Int)≠3):=by
  rcases hbad with h|h|h|h
  ·omega
  ·omega
  ·exact .inl h
  ·by_cases e:Ref.kindOf ns (jo:Int)=3
   ·exact .inr ⟨e,h⟩
   ·exact .inl e
 obtain ⟨m1,_⟩:=hoc w5 bl5
 obtain ⟨m3,_⟩:=hkc w5 bl5
 obtain ⟨KO,hKO⟩:∃x,Ref.kindOf ns (jo:Int)=x:=⟨_,rfl⟩
 obtain ⟨KK,hKK⟩:∃x,Ref.kindOf ns (jk:Int)=x:=⟨_,rfl⟩
 rw [hKO,hKK] at h34
 rw [hKO] at m1
 rw [hKK] at m3
 clear hoc hkc hKO hKK hbad oB kB o1 o2 bl5
 rcases h34 with o3|⟨o3,o4⟩
 ·have d3:(KO != 3)=true:=by simp [o3]
  clear o3
  go_wp2
  exact bodyPost_ret (v := .agg #[.string ⟨#[]⟩, .string ⟨#[]⟩, .slice none 0 0, .bool false]) (by simp [results,Tryz.results166,go_sem,e0,e1,e2,e3]) rfl FF.out
 ·subst o3
  have d4:(KK != 3)=true:=by simp [o4]
  clear o4
  go_wp2
  exact bodyPost_ret (v := .agg #[.string ⟨#[]⟩, .string ⟨#[]⟩, .slice none 0 0, .bool false]) (by simp [results,Tryz.results166,go_sem,e0,e1,e2,e3]) rfl FF.out
end Go.Proofs.YtdakgnaojakldaaGreatDoor
