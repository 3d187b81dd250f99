/- P -/
import Derived.Test.YtdakgnaojakldaaGreatDoorP31
import Derived.Deep.RegionHeld3
set_option maxRecDepth 100000
set_option maxHeartbeats 4000000
namespace Go.Proofs.YtdakgnaojakldaaGreatDoor
open Go.RowKit
def Yu (L:List zU) (p:Nat):List zU:=L.take p++L.drop (p+1)
theorem xM {L:List zU} {name:ByteArray} (h:zX L name=true):uP L name<L.length:=by
 unfold zX at h
 split at h
 ·rename_i x hx
  exact (List.getElem?_eq_some_iff.1 hx).1
 ·cases h
theorem zaI (W:World):(Go.sizeOf (Tryz.prog.elem 98)).run Tryz.prog W = .ok 2 W:=by
 obtain ⟨i0,hi,hz0,hz1,hz2⟩:=info_parts Ji
 have e:Tryz.prog.elem 98=187:=by kernel_rfl
 rw [e]
 simp [Go.sizeOf,typeInfo,hi,hz1]
theorem zeR (a:Option Addr) (n c p:Nat) (h:p≤c) (W:World):(Instr.sliceAt 98 (.slice a n c) none (some (.int .i64 (p:Int))) none).run Tryz.prog W = .ok (.slice a p c) W:=by
 have hu:Tryz.prog.underlying 98=some (.slice (Tryz.prog.elem 98)):=by kernel_rfl
 rw [run_sliceAt_slice _ _ _ _ _ _ hu,run_slice_h _ _ _ _ _ hu .i64 (p:Int) (by omega) (by omega),zaI]
 simp [Result.andThen,sliced,Addr.add]
theorem XX (a:Option Addr) (n c p:Nat) (h:p≤n) (W:World):(Instr.sliceAt 98 (.slice a n c) (some (.int .i64 (p:Int))) none none).run Tryz.prog W = .ok (.slice (if c=p then a else a.map fun x=>x.add (p*2)) (n-p) (c-p)) W:=by
 have hu:Tryz.prog.underlying 98=some (.slice (Tryz.prog.elem 98)):=by kernel_rfl
 rw [run_sliceAt_slice _ _ _ _ _ _ hu,run_slice_l _ _ _ _ _ hu .i64 (p:Int) (by omega) (by omega),zaI]
 simp [Result.andThen,sliced]
theorem ziL (L:List zU) (lv:Value) (name:ByteArray) (M:Nat→Prop) (w:World) (h:qy M w lv L) (hn:L.length≤100) (hd:Down L name) (hM:∀b,M b→b<w.heap.size) :
  Calls Tryz.prog 48 #[lv, .string name] w fun e w'=>∃v,e = .returned (.tuple #[v, .bool (zX L name)])∧Below w.heap.size w w'∧(zX L name=true→qy M w' v (Yu L (uP L name))):=by
 have cf:=zg5 L lv name M w h (by omega) hd
 have hlt:=fun e=>xM (L:=L) (name:=name) e
 obtain ⟨xs,hxs,hps⟩:=h.flat
 obtain ⟨a,c,rfl,h1,h2,h4,_⟩:=id h
 obtain ⟨p,hp⟩:∃p,uP L name=p:=⟨_,rfl⟩
 obtain ⟨b,hb⟩:∃b,zX L name=b:=⟨_,rfl⟩
 rw [hp,hb] at cf hlt ⊢
 have CF:=hid cf
 have HXS:=hid hxs
 have HPS:=hid hps
 have HM:=hid hM
 obtain ⟨n,hnn⟩:∃n,L.length=n:=⟨_,rfl⟩
 rw [hnn] at h1 hn hlt CF HXS ⊢
 have HN:=hid hnn
 clear cf hxs hps hM hp hb h hnn h4 hd
 cases b with
 | false=>
  go_enter Tryz.func48,Tryz.ntmps48
  go_wp2_with (go_at_call 83;refine CF.out.mono ?_;rintro e w1 ⟨rfl,b1⟩;have HB1:=hid b1;clear b1)
  go_ret2
  exact ⟨_,rfl,HB1.out,fun e=>by cases e⟩
 | true=>
  have hpl:=hlt rfl
  clear hlt
  go_enter Tryz.func48,Tryz.ntmps48
  go_upto_region 4 with (go_at_call 83;refine CF.out.mono ?_;rintro e w1 ⟨rfl,b1⟩;have HB1:=hid b1;clear b1)
  clear CF
  have HX1:=hid (HXS.out.below HB1.out)
  unfold maxLen at h2
  have y6:IntKind.i64.wrap ((p:Int)+1)=(p:Int)+1:=by rw [IntKind.wrap_i64];omega
  have y7:wrap64 ((p:Int)+1)=(p:Int)+1:=by unfold wrap64;omega
  have s1:=zeR a n c p (by omega)
  have s2:∀W,(Instr.sliceAt 98 (.slice a n c) (some (.int .i64 ((p:Int)+1))) none none).run Tryz.prog W = .ok (.slice (if c=p+1 then a else a.map fun x=>x.add ((p+1)*2)) (n-(p+1)) (c-(p+1))) W:=XX a n c (p+1) (by omega)
  have HD:=hid (HX1.out.drop (p:=p+1) (by omega))
  have HT:=hid (HX1.out.take (p:=p) (by omega))
  obtain ⟨va,hva⟩:∃x,(if c=p+1 then a else a.map fun x=>x.add ((p+1)*2))=x:=⟨_,rfl⟩
  obtain ⟨vn,hvn⟩:∃x,n-(p+1)=x:=⟨_,rfl⟩
  obtain ⟨vc,hvc⟩:∃x,c-(p+1)=x:=⟨_,rfl⟩
  rw [hva,hvn,hvc] at HD
  simp only [hva,hvn,hvc] at s2
  clear hva hvc HXS HX1
  have bA:Below w1.heap.size w1 (w1.alloc (.cells #[.slice a p c, .slice va vn vc] 98)).drew:=((Below.refl _ w1).alloc (Nat.le_refl _) _).drew
  have cc:=Kt [.slice a p c, .slice va vn vc] [xs.take (p*2),xs.drop ((p+1)*2)] w1.heap.size (w1.alloc (.cells #[.slice a p c, .slice va vn vc] 98)).drew rfl
   (fun k v hv=>by
    have h1:=(cells_of_block (heap_alloc_new w1 (.cells #[.slice a p c, .slice va vn vc] 98)) k).1
    show (w1.alloc (.cells #[.slice a p c, .slice va vn vc] 98)).cell? ⟨w1.heap.size,k,none⟩=some v
    rw [h1,← hv]
    simp)
   (fun k v ys hv hy=>by
    match k,hv,hy with
    | 0,hv,hy=>
     simp only [List.getElem?_cons_zero,Option.some.injEq] at hv hy
     subst hv hy
     exact HT.out.below bA
    | 1,hv,hy=>
     simp only [List.getElem?_cons_succ,List.getElem?_cons_zero,Option.some.injEq] at hv hy
     subst hv hy
     exact HD.out.below bA
    | k+2,hv,hy=>simp at hv)
   (by simp) (by
    show 0+(xs.take (p*2)).length / 2+(xs.drop ((p+1)*2)).length / 2≤1000
    have:=HPS.out.1
    rw [HN.out] at this
    rw [List.length_take,List.length_drop,this]
    omega)
  have CC:=hid cc
  have HBA:=hid (HB1.out.trans (bA.mono HB1.out.size))
  clear cc bA HT HD hvn
  go_region_held3 (fun _=>True) (trivial) (first|((go_at_call 85);refine CC.out.mono ?_;rintro e w3 ⟨v,rfl,ho,hb⟩;have HO:=hid ho;have HB3:=hid hb;clear ho hb))
  go_wp2_with fail
  go_ret2
  have hb:=HBA.out.trans (HB3.out.mono HBA.out.size)
  refine ⟨v,rfl,hb,fun _=>?_⟩
  have hp2:=HPS.out.turn (zF.of (M:=M) hb)
  exact UM HO.out ((hp2.take p).app (hp2.drop (p+1))) (fun b hm=>by have:=HM.out b hm;have:=HBA.out.size;omega)
def Qy (L:List zU) (name:ByteArray) (ss:List xH):List zU:=L.take (uP L name)++[(name,ss)]++L.drop (if zX L name then uP L name+1 else uP L name)
theorem zls (s:ByteArray) (w:World) (hs:s.size≤281474976710656) :
  Calls Tryz.prog 84 #[.string s] w fun e w'=>e = .returned (.string s)∧Below w.heap.size w w':=by
 have c:Calls Tryz.prog 137 #[.string s] w fun e w'=>e = .returned (.string s)∧Below w.heap.size w w':=AnyPu.stringslite_Clone Tryz.laysPu25 s w hs
 have C:=hid c
 clear c
 go_enter Tryz.func84,Tryz.ntmps84
 go_wp2_with (go_at_call 137;refine C.out.mono ?_;rintro e w1 ⟨rfl,b1⟩;have HB1:=hid b1;clear b1)
 go_ret
 exact ⟨rfl,HB1.out⟩
theorem zl8 (L:List zU) (lv:Value) (name:ByteArray) (da:Option Addr) (dn dc:Nat) (ss:List xH) (M:Nat→Prop) (w:World) (h:qy M w lv L) (hn:L.length≤100) (hd:Down L name) (hM:∀b,M b→b<w.heap.size) (hD:uj M w (.slice da dn dc) ss) (hs:name.size≤281474976710656) :
  Calls Tryz.prog 44 #[lv, .string name, .agg #[.slice da dn dc]] w fun e w'=>∃v,e = .returned (.tuple #[v, .bool (zX L name||decide (L.length<4))])∧Below w.heap.size w w'∧((zX L name||decide (L.length<4))=true→qy M w' v (Qy L name ss)):=by
 obtain ⟨W0,hW0⟩:∃W0,w.alloc (.cells #[.slice da dn dc] 72)=W0:=⟨_,rfl⟩
 have bW0:Below w.heap.size w W0:=by rw [← hW0];exact (Below.refl _ w).alloc (Nat.le_refl _) _
 have k0:W0.cell? ⟨w.heap.size,0,none⟩=some (.slice da dn dc):=by rw [← hW0];exact (cells_of_block (heap_alloc_new w (.cells #[.slice da dn dc] 72)) 0).1
 have cf:=zg5 L lv name M W0 (h.turn (zF.of bW0)) (by omega) hd
 have hlt:=fun e=>xM (L:=L) (name:=name) e
 have hple:=zhj L name
 obtain ⟨xs,hxs,hps⟩:=h.flat
 obtain ⟨a,c,rfl,h1,h2,h4,_⟩:=id h
 unfold Qy
 obtain ⟨p,hp⟩:∃p,uP L name=p:=⟨_,rfl⟩
 obtain ⟨b,hb⟩:∃b,zX L name=b:=⟨_,rfl⟩
 rw [hp,hb] at cf hlt ⊢
 rw [hp] at hple
 have ccl:=fun W=>zls name W hs
 have CCL:=hid ccl
 have CF:=hid cf
 have HXS:=hid (hxs.below bW0)
 have HPS:=hid hps
 have HM:=hid hM
 have HDC:=hid hD
 have HBW:=hid bW0
 have HW0:=hid hW0
 obtain ⟨n,hnn⟩:∃n,L.length=n:=⟨_,rfl⟩
 rw [hnn] at h1 hn hlt CF HXS hple ⊢
 have HN:=hid hnn
 unfold maxLen at h2
 clear cf hxs hps hM hp hb h hnn h4 hd hD ccl bW0 hW0
 by_cases hfull:b=false∧4≤n
 ·obtain ⟨rfl,hn4⟩:=hfull
  have d1:decide ((4:Int)≤(n:Int))=true:=by simp;omega
  have d2:decide (n<4)=false:=by simp;omega
  rw [d2]
  go_enter Tryz.func44,Tryz.ntmps44
  go_upto_region 1 with fail
  rw [HW0.out]
  go_wp2_with (go_at_call 83;refine CF.out.mono ?_;rintro e w1 ⟨rfl,b1⟩;have HB1:=hid (HBW.out.trans (b1.mono HBW.out.size));clear b1)
  go_ret2
  exact ⟨⟨_,rfl⟩,HB1.out⟩
 ·have hok:(b||decide (n<4))=true:=by cases b<;>simp at hfull ⊢;omega
  rw [hok]
  obtain ⟨q,hq⟩:∃q,(if b=true then p+1 else p)=q:=⟨_,rfl⟩
  have hqn:q≤n:=by rw [← hq];cases b with
   | true=>have:=hlt rfl;simp;omega
   | false=>simp;omega
  have s1:=zeR a n c p (by omega)
  have s2:=XX a n c p (by omega)
  have HTK:=hid (HXS.out.take (p:=p) (by omega))
  have HDR:=hid (HXS.out.drop (p:=q) hqn)
  have y6:IntKind.i64.wrap ((p:Int)+1)=(p:Int)+1:=by rw [IntKind.wrap_i64];omega
  have y7:wrap64 ((p:Int)+1)=(p:Int)+1:=by unfold wrap64;omega
  have hdz:w.heap.size<W0.heap.size:=World.block_lt_of_cell? _ _ k0
  cases b with
  | true=>
   have s3:∀W,(Instr.sliceAt 98 (.slice a n c) (some (.int .i64 ((p:Int)+1))) none none).run Tryz.prog W = .ok (.slice (if c=p+1 then a else a.map fun x=>x.add ((p+1)*2)) (n-(p+1)) (c-(p+1))) W:=XX a n c (p+1) (hlt rfl)
   have hq2:q=p+1:=by rw [← hq];rfl
   have hl2:L.drop (if (true=true) then p+1 else p)=L.drop q:=by rw [hq2];rfl
   rw [hl2]
   clear hl2 hq hlt hfull hok
   subst hq2
   obtain ⟨va,hva⟩:∃x,(if c=p+1 then a else a.map fun x=>x.add ((p+1)*2))=x:=⟨_,rfl⟩
   obtain ⟨vn,hvn⟩:∃x,n-(p+1)=x:=⟨_,rfl⟩
   obtain ⟨vc,hvc⟩:∃x,c-(p+1)=x:=⟨_,rfl⟩
   rw [hva,hvn,hvc] at HDR
   simp only [hva,hvn,hvc] at s3
   obtain ⟨xa,hxa⟩:∃x,(if c=p then a else a.map fun x=>x.add (p*2))=x:=⟨_,rfl⟩
   simp only [hxa] at s2
   clear hxa
   clear hva hvc
   go_enter Tryz.func44,Tryz.ntmps44
   go_upto_region 1 with fail
   rw [HW0.out]
   go_upto_region 7 with (go_at_call 83;refine CF.out.mono ?_;rintro e w1 ⟨rfl,b1⟩;have HB1:=hid b1;clear b1)
   have l0:=cell_later HB1.out k0
   go_cut [11] (fun v wx=>∃kb,v = .pointer (some ⟨kb,0,none⟩)∧wx.cell? ⟨kb,0,none⟩=some (.string name)∧wx.cell? ⟨kb,1,none⟩=some (.slice da dn dc)∧Below w1.heap.size w1 wx)
   case first=>
    have bZ:Hid (Below w1.heap.size w1 (w1.alloc (.cells #[.string ⟨#[]⟩, .slice none 0 0] 187)).drew):=((Below.refl _ w1).alloc (Nat.le_refl _) _).drew
    have lZ:=cell_later bZ.out l0
    have nn:=World.new_ne w1 _ l0
    go_region_held3 (fun w'=>w'.cell? ⟨w.heap.size,0,none⟩=some (.slice da dn dc)) (go_keep) (first
     | ((go_at_call 84);refine (CCL.out w1.drew).mono ?_;rintro e w3 ⟨rfl,b3⟩;have m0:=cell_later b3 l0;have HB3:Hid (Below w1.heap.size w1 w3):=(((Below.refl _ w1).drew).trans b3);clear b3)
     | ((go_at_call 84);refine (CCL.out (w1.alloc (.cells #[.string ⟨#[]⟩, .slice none 0 0] 187)).drew).mono ?_;rintro e w3 ⟨rfl,b3⟩;have m0:=cell_later b3 lZ;have HBK:Hid (w3.heap[w1.heap.size]?=some (.cells #[.string ⟨#[]⟩, .slice none 0 0] 187)):=((b3.block w1.heap.size (by simp)).trans (heap_alloc_new w1 (.cells #[.string ⟨#[]⟩, .slice none 0 0] 187)));have z0:=(cells_of_block HBK.out 0).1;have z1:=(cells_of_block HBK.out 1).1;have f0:=(cells_of_block HBK.out 0).2;have f1:=(cells_of_block HBK.out 1).2;have HB3:Hid (Below w1.heap.size w1 w3):=(bZ.out.trans (b3.mono bZ.out.size));clear b3))
    ·go_wp2_with fail
     go_meet
     case rel=>exact ⟨w3.heap.size,rfl,(cells_of_block (heap_alloc_new w3 (.cells #[.string name, .slice da dn dc] 187)) 0).1,(cells_of_block (heap_alloc_new w3 (.cells #[.string name, .slice da dn dc] 187)) 1).1,HB3.out.alloc HB3.out.size _⟩
    ·have h1:=heap_setCell_same w3 w1.heap.size 0 _ _ (.string name) HBK.out
     have h2:=heap_setCell_same _ w1.heap.size 1 _ _ (.slice da dn dc) h1
     have HC0:=hid (cells_of_block h2 0).1
     have HC1:=hid (cells_of_block h2 1).1
     clear h1 h2
     go_wp2_with fail
     go_meet
     case rel=>exact ⟨w1.heap.size,rfl,HC0.out,HC1.out,(HB3.out.setCell (Nat.le_refl _) _).setCell (Nat.le_refl _) _⟩
   case rest=>
    obtain ⟨kb,rfl,c0,c1,hbc⟩:=hcut
    have HBC:=hid (HB1.out.trans (hbc.mono HB1.out.size))
    have b1:Below wc.heap.size wc (wc.alloc (.cells #[.string name, .slice da dn dc] 187)):=(Below.refl _ wc).alloc (Nat.le_refl _) _
    have b2:Below wc.heap.size wc ((wc.alloc (.cells #[.string name, .slice da dn dc] 187)).alloc (.cells #[.slice a p c, .slice (some ⟨wc.heap.size,0,none⟩) 1 1, .slice va vn vc] 98)).drew:=(b1.alloc b1.size _).drew
    have hX:(wc.alloc (.cells #[.string name, .slice da dn dc] 187)).heap.size=wc.heap.size+1:=by simp
    have tk:=(HTK.out.below HBC.out).below b2
    have dr:=(HDR.out.below HBC.out).below b2
    have one:jK ((wc.alloc (.cells #[.string name, .slice da dn dc] 187)).alloc (.cells #[.slice a p c, .slice (some ⟨wc.heap.size,0,none⟩) 1 1, .slice va vn vc] 98)).drew (.slice (some ⟨wc.heap.size,0,none⟩) 1 1) [.string name, .slice da dn dc]:=by
     refine ⟨some ⟨wc.heap.size,0,none⟩,1,1,rfl,rfl,Nat.le_refl _,by decide,(fun e=>by cases e),(fun u hu=>by simp at hu;rcases hu with rfl|rfl<;>rfl),fun j u hu=>⟨wc.heap.size,0,rfl,?_⟩⟩
     have h1:=(cells_of_block (heap_alloc_new wc (.cells #[.string name, .slice da dn dc] 187)) j).1
     have b3:Below (wc.alloc (.cells #[.string name, .slice da dn dc] 187)).heap.size (wc.alloc (.cells #[.string name, .slice da dn dc] 187)) ((wc.alloc (.cells #[.string name, .slice da dn dc] 187)).alloc (.cells #[.slice a p c, .slice (some ⟨wc.heap.size,0,none⟩) 1 1, .slice va vn vc] 98)).drew:=((Below.refl _ (wc.alloc (.cells #[.string name, .slice da dn dc] 187))).alloc (Nat.le_refl _) _).drew
     refine cell_later b3 ?_
     rw [Nat.zero_add,h1,← hu]
     simp
    have cc:=Kt [.slice a p c, .slice (some ⟨wc.heap.size,0,none⟩) 1 1, .slice va vn vc] [xs.take (p*2),[.string name, .slice da dn dc],xs.drop ((p+1)*2)] (wc.heap.size+1) ((wc.alloc (.cells #[.string name, .slice da dn dc] 187)).alloc (.cells #[.slice a p c, .slice (some ⟨wc.heap.size,0,none⟩) 1 1, .slice va vn vc] 98)).drew rfl
     (fun k v hv=>by
      have h1:=(cells_of_block (heap_alloc_new (wc.alloc (.cells #[.string name, .slice da dn dc] 187)) (.cells #[.slice a p c, .slice (some ⟨wc.heap.size,0,none⟩) 1 1, .slice va vn vc] 98)) k).1
      rw [hX] at h1
      show ((wc.alloc (.cells #[.string name, .slice da dn dc] 187)).alloc (.cells #[.slice a p c, .slice (some ⟨wc.heap.size,0,none⟩) 1 1, .slice va vn vc] 98)).cell? ⟨wc.heap.size+1,k,none⟩=some v
      rw [h1,← hv]
      simp)
     (fun k v ys hv hy=>by
      match k,hv,hy with
      | 0,hv,hy=>
       simp only [List.getElem?_cons_zero,Option.some.injEq] at hv hy
       subst hv hy
       exact tk
      | 1,hv,hy=>
       simp only [List.getElem?_cons_succ,List.getElem?_cons_zero,Option.some.injEq] at hv hy
       subst hv hy
       exact one
      | 2,hv,hy=>
       simp only [List.getElem?_cons_succ,List.getElem?_cons_zero,Option.some.injEq] at hv hy
       subst hv hy
       exact dr
      | k+3,hv,hy=>simp at hv)
     (by simp) (by
      show 0+(xs.take (p*2)).length / 2+2 / 2+(xs.drop ((p+1)*2)).length / 2≤1000
      have:=HPS.out.1
      rw [HN.out] at this
      rw [List.length_take,List.length_drop,this]
      omega)
    have CC:=hid cc
    have HB2:=hid (HBW.out.trans ((HBC.out.trans (b2.mono HBC.out.size)).mono HBW.out.size))
    have HBY:=hid b2
    clear cc b1 b2 hX tk dr one hbc HTK HDR CF CCL HBC hvn l0
    go_upto_region 8 with fail
    go_region_held3 (fun w'=>w'.cell? ⟨kb,0,none⟩=some (.string name)∧w'.cell? ⟨kb,1,none⟩=some (.slice da dn dc)) (go_keep) (first|((go_at_call 85);refine CC.out.mono ?_;rintro e w5 ⟨v,rfl,ho,hb⟩;have HO:=hid ho;have HB5:=hid hb;have g0:=cell_later hb (cell_later HBY.out c0);have g1:=cell_later hb (cell_later HBY.out c1);clear ho hb))
    go_wp2_with fail
    go_ret2
    have hb:=HB2.out.trans (HB5.out.mono HB2.out.size)
    refine ⟨v,rfl,hb,fun _=>?_⟩
    have hp2:=HPS.out.turn (zF.of (M:=M) hb)
    exact UM HO.out (((hp2.take p).app (Pairs.one (x:=(name,ss)) (HDC.out.turn (zF.of hb)))).app (hp2.drop (p+1))) (fun b hm=>by have:=HM.out b hm;have:=HB2.out.size;omega)
  | false=>
   have hq2:p=q:=by rw [← hq];rfl
   have hl2:L.drop (if (false=true) then p+1 else p)=L.drop q:=by rw [← hq2];rfl
   have d1:decide ((4:Int)≤(n:Int))=false:=by simp at hfull ⊢;omega
   rw [hl2]
   clear hl2 hq hlt hfull hok
   subst hq2
   obtain ⟨va,hva⟩:∃x,(if c=p then a else a.map fun x=>x.add ((p)*2))=x:=⟨_,rfl⟩
   obtain ⟨vn,hvn⟩:∃x,n-(p)=x:=⟨_,rfl⟩
   obtain ⟨vc,hvc⟩:∃x,c-(p)=x:=⟨_,rfl⟩
   rw [hva,hvn,hvc] at HDR
   simp only [hva,hvn,hvc] at s2
   clear hva hvc
   go_enter Tryz.func44,Tryz.ntmps44
   go_upto_region 1 with fail
   rw [HW0.out]
   go_upto_region 7 with (go_at_call 83;refine CF.out.mono ?_;rintro e w1 ⟨rfl,b1⟩;have HB1:=hid b1;clear b1)
   have l0:=cell_later HB1.out k0
   go_cut [11] (fun v wx=>∃kb,v = .pointer (some ⟨kb,0,none⟩)∧wx.cell? ⟨kb,0,none⟩=some (.string name)∧wx.cell? ⟨kb,1,none⟩=some (.slice da dn dc)∧Below w1.heap.size w1 wx)
   case first=>
    have bZ:Hid (Below w1.heap.size w1 (w1.alloc (.cells #[.string ⟨#[]⟩, .slice none 0 0] 187)).drew):=((Below.refl _ w1).alloc (Nat.le_refl _) _).drew
    have lZ:=cell_later bZ.out l0
    have nn:=World.new_ne w1 _ l0
    go_region_held3 (fun w'=>w'.cell? ⟨w.heap.size,0,none⟩=some (.slice da dn dc)) (go_keep) (first
     | ((go_at_call 84);refine (CCL.out w1.drew).mono ?_;rintro e w3 ⟨rfl,b3⟩;have m0:=cell_later b3 l0;have HB3:Hid (Below w1.heap.size w1 w3):=(((Below.refl _ w1).drew).trans b3);clear b3)
     | ((go_at_call 84);refine (CCL.out (w1.alloc (.cells #[.string ⟨#[]⟩, .slice none 0 0] 187)).drew).mono ?_;rintro e w3 ⟨rfl,b3⟩;have m0:=cell_later b3 lZ;have HBK:Hid (w3.heap[w1.heap.size]?=some (.cells #[.string ⟨#[]⟩, .slice none 0 0] 187)):=((b3.block w1.heap.size (by simp)).trans (heap_alloc_new w1 (.cells #[.string ⟨#[]⟩, .slice none 0 0] 187)));have z0:=(cells_of_block HBK.out 0).1;have z1:=(cells_of_block HBK.out 1).1;have f0:=(cells_of_block HBK.out 0).2;have f1:=(cells_of_block HBK.out 1).2;have HB3:Hid (Below w1.heap.size w1 w3):=(bZ.out.trans (b3.mono bZ.out.size));clear b3))
    ·go_wp2_with fail
     go_meet
     case rel=>exact ⟨w3.heap.size,rfl,(cells_of_block (heap_alloc_new w3 (.cells #[.string name, .slice da dn dc] 187)) 0).1,(cells_of_block (heap_alloc_new w3 (.cells #[.string name, .slice da dn dc] 187)) 1).1,HB3.out.alloc HB3.out.size _⟩
    ·have h1:=heap_setCell_same w3 w1.heap.size 0 _ _ (.string name) HBK.out
     have h2:=heap_setCell_same _ w1.heap.size 1 _ _ (.slice da dn dc) h1
     have HC0:=hid (cells_of_block h2 0).1
     have HC1:=hid (cells_of_block h2 1).1
     clear h1 h2
     go_wp2_with fail
     go_meet
     case rel=>exact ⟨w1.heap.size,rfl,HC0.out,HC1.out,(HB3.out.setCell (Nat.le_refl _) _).setCell (Nat.le_refl _) _⟩
   case rest=>
    obtain ⟨kb,rfl,c0,c1,hbc⟩:=hcut
    have HBC:=hid (HB1.out.trans (hbc.mono HB1.out.size))
    have b1:Below wc.heap.size wc (wc.alloc (.cells #[.string name, .slice da dn dc] 187)):=(Below.refl _ wc).alloc (Nat.le_refl _) _
    have b2:Below wc.heap.size wc ((wc.alloc (.cells #[.string name, .slice da dn dc] 187)).alloc (.cells #[.slice a p c, .slice (some ⟨wc.heap.size,0,none⟩) 1 1, .slice va vn vc] 98)).drew:=(b1.alloc b1.size _).drew
    have hX:(wc.alloc (.cells #[.string name, .slice da dn dc] 187)).heap.size=wc.heap.size+1:=by simp
    have tk:=(HTK.out.below HBC.out).below b2
    have dr:=(HDR.out.below HBC.out).below b2
    have one:jK ((wc.alloc (.cells #[.string name, .slice da dn dc] 187)).alloc (.cells #[.slice a p c, .slice (some ⟨wc.heap.size,0,none⟩) 1 1, .slice va vn vc] 98)).drew (.slice (some ⟨wc.heap.size,0,none⟩) 1 1) [.string name, .slice da dn dc]:=by
     refine ⟨some ⟨wc.heap.size,0,none⟩,1,1,rfl,rfl,Nat.le_refl _,by decide,(fun e=>by cases e),(fun u hu=>by simp at hu;rcases hu with rfl|rfl<;>rfl),fun j u hu=>⟨wc.heap.size,0,rfl,?_⟩⟩
     have h1:=(cells_of_block (heap_alloc_new wc (.cells #[.string name, .slice da dn dc] 187)) j).1
     have b3:Below (wc.alloc (.cells #[.string name, .slice da dn dc] 187)).heap.size (wc.alloc (.cells #[.string name, .slice da dn dc] 187)) ((wc.alloc (.cells #[.string name, .slice da dn dc] 187)).alloc (.cells #[.slice a p c, .slice (some ⟨wc.heap.size,0,none⟩) 1 1, .slice va vn vc] 98)).drew:=((Below.refl _ (wc.alloc (.cells #[.string name, .slice da dn dc] 187))).alloc (Nat.le_refl _) _).drew
     refine cell_later b3 ?_
     rw [Nat.zero_add,h1,← hu]
     simp
    have cc:=Kt [.slice a p c, .slice (some ⟨wc.heap.size,0,none⟩) 1 1, .slice va vn vc] [xs.take (p*2),[.string name, .slice da dn dc],xs.drop ((p)*2)] (wc.heap.size+1) ((wc.alloc (.cells #[.string name, .slice da dn dc] 187)).alloc (.cells #[.slice a p c, .slice (some ⟨wc.heap.size,0,none⟩) 1 1, .slice va vn vc] 98)).drew rfl
     (fun k v hv=>by
      have h1:=(cells_of_block (heap_alloc_new (wc.alloc (.cells #[.string name, .slice da dn dc] 187)) (.cells #[.slice a p c, .slice (some ⟨wc.heap.size,0,none⟩) 1 1, .slice va vn vc] 98)) k).1
      rw [hX] at h1
      show ((wc.alloc (.cells #[.string name, .slice da dn dc] 187)).alloc (.cells #[.slice a p c, .slice (some ⟨wc.heap.size,0,none⟩) 1 1, .slice va vn vc] 98)).cell? ⟨wc.heap.size+1,k,none⟩=some v
      rw [h1,← hv]
      simp)
     (fun k v ys hv hy=>by
      match k,hv,hy with
      | 0,hv,hy=>
       simp only [List.getElem?_cons_zero,Option.some.injEq] at hv hy
       subst hv hy
       exact tk
      | 1,hv,hy=>
       simp only [List.getElem?_cons_succ,List.getElem?_cons_zero,Option.some.injEq] at hv hy
       subst hv hy
       exact one
      | 2,hv,hy=>
       simp only [List.getElem?_cons_succ,List.getElem?_cons_zero,Option.some.injEq] at hv hy
       subst hv hy
       exact dr
      | k+3,hv,hy=>simp at hv)
     (by simp) (by
      show 0+(xs.take (p*2)).length / 2+2 / 2+(xs.drop ((p)*2)).length / 2≤1000
      have:=HPS.out.1
      rw [HN.out] at this
      rw [List.length_take,List.length_drop,this]
      omega)
    have CC:=hid cc
    have HB2:=hid (HBW.out.trans ((HBC.out.trans (b2.mono HBC.out.size)).mono HBW.out.size))
    have HBY:=hid b2
    clear cc b1 b2 hX tk dr one hbc HTK HDR CF CCL HBC hvn l0
    go_upto_region 8 with fail
    go_region_held3 (fun w'=>w'.cell? ⟨kb,0,none⟩=some (.string name)∧w'.cell? ⟨kb,1,none⟩=some (.slice da dn dc)) (go_keep) (first|((go_at_call 85);refine CC.out.mono ?_;rintro e w5 ⟨v,rfl,ho,hb⟩;have HO:=hid ho;have HB5:=hid hb;have g0:=cell_later hb (cell_later HBY.out c0);have g1:=cell_later hb (cell_later HBY.out c1);clear ho hb))
    go_wp2_with fail
    go_ret2
    have hb:=HB2.out.trans (HB5.out.mono HB2.out.size)
    refine ⟨v,rfl,hb,fun _=>?_⟩
    have hp2:=HPS.out.turn (zF.of (M:=M) hb)
    exact UM HO.out (((hp2.take p).app (Pairs.one (x:=(name,ss)) (HDC.out.turn (zF.of hb)))).app (hp2.drop (p))) (fun b hm=>by have:=HM.out b hm;have:=HB2.out.size;omega)
def qJ (l:Int):Bool:=decide (0≤l)&&decide (l<4)
def ql (l:Int) (name:ByteArray):Int:=if qJ l then (if Ref.zY name then 0 else 8) else 7
theorem zau (l:Int) (w:World) :
  Calls Tryz.prog 40 #[.int .i64 l] w fun e w'=>e = .returned (.bool (qJ l))∧w'=w:=by
 unfold qJ
 by_cases h:0≤l
 ·have d:decide (0≤l)=true:=by simp [h]
  go_enter Tryz.func40,Tryz.ntmps40
  go_wp2
  go_ret
  exact ⟨by rw [d];rfl,rfl⟩
 ·have d:decide (0≤l)=false:=by simp;omega
  go_enter Tryz.func40,Tryz.ntmps40
  go_wp2
  go_ret
  exact ⟨rfl,rfl⟩
theorem ZY (l:Int) (name:ByteArray) (w:World) (hs:name.size≤maxLen) :
  Calls Tryz.prog 42 #[.int .i64 l, .string name] w fun e w'=>e = .returned (.int .i64 (ql l name))∧Below w.heap.size w w':=by
 have c1:=fun W=>zau l W
 have c2:=fun W=>zdQ name W hs
 have hR:ql l name=if qJ l then (if Ref.zY name then 0 else 8) else 7:=rfl
 obtain ⟨a,ha⟩:∃x,qJ l=x:=⟨_,rfl⟩
 obtain ⟨b,hb⟩:∃x,Ref.zY name=x:=⟨_,rfl⟩
 rw [ha,hb] at hR
 simp only [ha] at c1
 simp only [hb] at c2
 rw [hR]
 have C1:=hid c1
 have C2:=hid c2
 clear c1 c2 hR ha hb
 cases a<;>cases b
 all_goals
  go_enter Tryz.func42,Tryz.ntmps42
  go_wp2_with (first
   | (go_at_call 82;refine (C2.out w).mono ?_;rintro e w2 ⟨rfl,b2⟩;have HB2:=hid b2;clear b2)
   | (go_at_call 40;refine (C1.out w).mono ?_;rintro e w1 ⟨rfl,e1⟩;rw [e1];clear e1))
  go_ret
  first
   | exact ⟨rfl,HB2.out⟩
   | exact ⟨rfl,Below.refl _ _⟩
theorem zgj (L:List zU) (lv:Value) (name:ByteArray) (M:Nat→Prop) (w:World) (h:qy M w lv L) (hn:L.length≤100) (hd:Down L name) :
  Calls Tryz.prog 43 #[lv, .string name] w fun e w'=>∃da dn dc,e = .returned (.tuple #[.agg #[.slice da dn dc], .bool (zX L name)])∧Below w.heap.size w w'∧(zX L name=true→∃x,L[uP L name]?=some x∧uj M w' (.slice da dn dc) x.2):=by
 obtain ⟨W0,hW0⟩:∃W0,w.alloc (.cells #[.slice none 0 0] 72)=W0:=⟨_,rfl⟩
 have bW0:Below w.heap.size w W0:=by rw [← hW0];exact (Below.refl _ w).alloc (Nat.le_refl _) _
 have blk:W0.heap[w.heap.size]?=some (.cells #[.slice none 0 0] 72):=by rw [← hW0];exact heap_alloc_new w _
 have hzz:W0.heap.size=w.heap.size+1:=by rw [← hW0];simp
 have cf:=zg5 L lv name M W0 (h.turn (zF.of bW0)) (by omega) hd
 have hlt:=fun e=>xM (L:=L) (name:=name) e
 obtain ⟨a,c,rfl,h1,h2,h4,_⟩:=id h
 have hcells:=h.cells.2.2.2
 obtain ⟨p,hp⟩:∃p,uP L name=p:=⟨_,rfl⟩
 obtain ⟨b,hb⟩:∃b,zX L name=b:=⟨_,rfl⟩
 rw [hp,hb] at cf hlt ⊢
 have CF:=hid cf
 have HC:=hid hcells
 have HBW:=hid bW0
 have HW0:=hid hW0
 have HBK:=hid blk
 obtain ⟨n,hnn⟩:∃n,L.length=n:=⟨_,rfl⟩
 rw [hnn] at h1 hn CF ⊢
 rw [hnn] at hlt
 have HN:=hid hnn
 clear cf hcells hp hb h hnn h4 hd bW0 hW0 blk
 cases b with
 | false=>
  go_enter Tryz.func43,Tryz.ntmps43
  go_upto_region 1 with fail
  rw [HW0.out]
  go_upto_region 2 with (go_at_call 83;refine CF.out.mono ?_;rintro e w1 ⟨rfl,b1⟩;have HB1:=hid b1;clear b1)
  have hk:w1.heap[w.heap.size]?=some (.cells #[.slice none 0 0] 72):=(HB1.out.block _ (by omega)).trans HBK.out
  have r0:=(cells_of_block hk 0).1
  have f0:=(cells_of_block hk 0).2
  have h3:=heap_setCell_same w1 w.heap.size 0 _ _ (.slice none 0 0) hk
  have q0:=(cells_of_block h3 0).1
  have HBF:=hid ((HBW.out.trans (HB1.out.mono HBW.out.size)).setCell (p:=⟨w.heap.size,0,none⟩) (Nat.le_refl _) (.slice none 0 0))
  simp at r0 q0
  clear hk h3
  go_wp2_with fail
  exact bodyPost_ret (v := .tuple #[.agg #[.slice none 0 0], .bool false]) (by simp [results,Tryz.results43,go_sem,q0]) rfl ⟨none,0,0,rfl,HBF.out,fun e=>by cases e⟩
 | true=>
  have hpl:=hlt rfl
  clear hlt
  go_enter Tryz.func43,Tryz.ntmps43
  go_upto_region 1 with fail
  rw [HW0.out]
  go_upto_region 2 with (go_at_call 83;refine CF.out.mono ?_;rintro e w1 ⟨rfl,b1⟩;have HB1:=hid b1;clear b1)
  have hx:=List.getElem?_eq_getElem (l:=L) (i:=p) (by rw [HN.out];exact hpl)
  obtain ⟨gb,o,da,dn,dc,rfl,hm,c0,c1,hdoc⟩:=HC.out p _ hx
  have hbb:=HBW.out.trans (HB1.out.mono HBW.out.size)
  have d1:=cell_later hbb c1
  have hk:w1.heap[w.heap.size]?=some (.cells #[.slice none 0 0] 72):=(HB1.out.block _ (by omega)).trans HBK.out
  have r0:=(cells_of_block hk 0).1
  have f0:=(cells_of_block hk 0).2
  have h3:=heap_setCell_same w1 w.heap.size 0 _ _ (.slice da dn dc) hk
  have q0:=(cells_of_block h3 0).1
  have HBF:=hid (hbb.setCell (p:=⟨w.heap.size,0,none⟩) (Nat.le_refl _) (.slice da dn dc))
  have HX:=hid hx
  have HDC:=hid hdoc
  simp at r0 q0
  have k0:(0:Int)≤(p:Int):=Int.natCast_nonneg _
  have k1:(p:Int)<(n:Int):=by omega
  clear hk h3 c0 c1 hbb hx hdoc
  go_wp2_with fail
  exact bodyPost_ret (v := .tuple #[.agg #[.slice da dn dc], .bool true]) (by simp [results,Tryz.results43,go_sem,q0]) rfl ⟨da,dn,dc,rfl,HBF.out,fun _=>⟨_,HX.out,HDC.out.turn (zF.of HBF.out)⟩⟩
theorem zjf (nm:ByteArray) (da:Option Addr) (dn dc:Nat) (w:World) :
  Calls Tryz.prog 81 #[.agg #[.string nm, .slice da dn dc]] w fun e w'=>e = .returned (.string nm)∧Below w.heap.size w w':=by
 go_enter Tryz.func81,Tryz.ntmps81
 go_wp2
 go_ret
 exact ⟨rfl,(Below.refl _ w).alloc (Nat.le_refl _) _⟩
theorem zhs:∀args w,(callFunc 81 args).run Tryz.prog w = .ok (.enter 81 args) w:=enters_of Tryz.func81 (by kernel_rfl) rfl
theorem zgd (L:List zU) (lv:Value) (M:Nat→Prop) (w:World) (h:qy M w lv L) (hn:L.length≤100) :
  Calls Tryz.prog 80 #[lv, .func (.func 81) #[] #[]] w (QO w (L.map Prod.fst)):=by
 obtain ⟨i0,hi,hz0,hz1,hz2⟩:=info_parts Qo
 obtain ⟨a,c,rfl,h1,h2,h4,_⟩:=id h
 have hcells:=h.cells.2.2.2
 obtain ⟨n,hnn⟩:∃n,L.length=n:=⟨_,rfl⟩
 rw [hnn] at hn ⊢
 have HC:=hid hcells
 have HN:=hid hnn
 have eg:=zhs
 clear hcells hnn h h1 h2 h4
 go_enter Tryz.func80,Tryz.ntmps80
 go_wp2_with (at_make;refine wpList_make_own _ rfl _ _ 42 rfl w.heap.size 9 i0 (.string ⟨#[]⟩) 1 Tryz.underlying42 hi hz0 hz1 _ _ _ n rfl rfl rfl ?_ ?_ ?_ ?_)
 ·rw [hz2];omega
 ·unfold maxLen;omega
 ·omega
 intro w1 own1 grow1
 have HO1:=hid own1
 have HB1:Hid (Below w.heap.size w w1):=(Below.refl _ w).grown grow1 (Nat.le_refl _) (fun k hk=>by cases hk)
 clear own1 grow1
 go_wp2_with fail
 go_loopw [5,7,13] (fun ov _ kv wr=>∃(k:Nat),k≤n∧kv = .int .i64 k∧zh wr w.heap.size ov ((L.take k).map Prod.fst)∧Below w.heap.size w wr) (fun _ _ kv _=>n-(intOf kv).toNat)
 case atStart=>exact ⟨0,Nat.zero_le _,rfl,HO1.out,HB1.out⟩
 case round=>
  obtain ⟨k,hk,rfl,ho,hb⟩:=hrel
  have HO:=hid ho
  have HB:=hid hb
  clear ho hb HO1 HB1
  by_cases hlt:k<n
  ·have hkl:k<L.length:=by rw [HN.out];exact hlt
   obtain ⟨gb,o,da,dn,dc,rfl,hm,q0,q1,_⟩:=HC.out k _ (List.getElem?_eq_getElem hkl)
   have p0:=cell_later HB.out q0
   have p1:=cell_later HB.out q1
   have htk:Hid ((L.take (k+1)).map Prod.fst=(L.take k).map Prod.fst++[L[k].1]):=hid (by rw [List.take_add_one,List.getElem?_eq_getElem hkl,List.map_append];rfl)
   have hln:((L.take k).map Prod.fst).length=k:=by rw [List.length_map,List.length_take];omega
   obtain ⟨s,hs⟩:∃s,L[k]=s:=⟨_,rfl⟩
   rw [hs] at p0 htk
   have hzr:=HB.out.size
   have cc:=zjf s.1 da dn dc (wr.alloc (.cells #[.string s.1, .slice da dn dc] 187))
   have CC:=hid cc
   obtain ⟨S,hS⟩:∃S,s.1=S:=⟨_,rfl⟩
   rw [hS] at p0 htk CC
   obtain ⟨K,hK⟩:∃K,(L.take k).map Prod.fst=K:=⟨_,rfl⟩
   rw [hK] at HO htk hln
   clear cc hs hK q0 q1 hm hS
   go_wp2_with (first
    | (go_at_fn 81;refine CC.out.mono ?_;rintro e w2 ⟨rfl,hb2⟩;have HB2:Hid (Below wr.heap.size wr w2):=((Below.refl _ wr).alloc (Nat.le_refl _) _).trans (hb2.mono (by simp));have hz2':=HB2.out.size;clear hb2)
    | (at_builtin;refine wpList_append_own _ rfl _ _ 42 rfl w.heap.size 9 i0 (.string ⟨#[]⟩) 1 16 Tryz.underlying42 hi hz0 hz1 hz2 rfl (by decide) _ K.length (K.map Value.string) rfl (World.ownsRow.alloc (ownsRow_below HO.out HB2.out) _) ⟨w2.heap.size,0,none⟩ 1 1 [.string S] rfl rfl ?_ ?_ ?_ ?_ ?_ ?_))
   ·exact qM _ _ _
   ·intro u hu;simp at hu;rcases hu with rfl;rfl
   ·unfold maxLen;omega
   ·omega
   ·simp;omega
   ·intro v' w3 hown' hgrow _
    have HO3:Hid (zh w3 w.heap.size v' ((L.take (k+1)).map Prod.fst)):=by rw [htk.out];exact ZI (by rw [hln];exact hown')
    have HB3:Hid (Below w.heap.size w w3):=((HB.out.trans (HB2.out.mono HB.out.size)).alloc (by omega) _).grown hgrow (by simp;omega) (fun k hk=>(World.ownsRow.lt HO.out k hk).1)
    clear hown' hgrow
    go_wp2
    go_roundw
    case rel=>exact ⟨k+1,by omega,by go_num,HO3.out,HB3.out⟩
    case measure=>simp [intOf];omega
  ·have hkn:k=n:=by omega
   subst hkn
   have ho:=HO.out
   rw [List.take_of_length_le (by rw [HN.out];omega)] at ho
   have HO2:=hid ho
   clear ho
   go_wp2
   go_ret
   exact ⟨_,rfl,HO2.out,HB.out⟩
theorem zbh (L:List zU) (lv:Value) (M:Nat→Prop) (w:World) (h:qy M w lv L) (hn:L.length≤100) :
  Calls Tryz.prog 41 #[lv] w (QO w (L.map Prod.fst)):=by
 have c:=zgd L lv M w h hn
 obtain ⟨a,cc,rfl,_⟩:=h
 unfold QO at c ⊢
 have C:=hid c
 clear c
 go_enter Tryz.func41,Tryz.ntmps41
 go_wp2_with (go_at_call 80;refine C.out.mono ?_;rintro e w1 ⟨lv,rfl,ho,hb⟩)
 go_ret
 exact ⟨lv,rfl,ho,hb⟩
theorem zeD:∀(a b c:List UInt8),Lib.compareBytes a b<0→Lib.compareBytes b c<0→Lib.compareBytes a c<0
 | [],[],_,h,_=>by simp [Lib.compareBytes] at h
 | [],_::_,[],_,h=>by simp [Lib.compareBytes] at h
 | [],_::_,_::_,_,_=>by simp [Lib.compareBytes]
 | _::_,[],_,h,_=>by simp [Lib.compareBytes] at h
 | _::_,_::_,[],_,h=>by simp [Lib.compareBytes] at h
 | x::a,y::b,z::c,h,g=>by
  unfold Lib.compareBytes at h g ⊢
  by_cases c1:x<y
  ·by_cases c2:y<z
   ·rw [if_pos (UInt8.lt_trans c1 c2)];decide
   ·rw [if_neg c2] at g
    by_cases c3:z<y
    ·rw [if_pos c3] at g;omega
    ·have e:y=z:=UInt8.le_antisymm (UInt8.not_lt.1 c3) (UInt8.not_lt.1 c2)
     subst e
     rw [if_pos c1];decide
  ·rw [if_neg c1] at h
   by_cases c2:y<x
   ·rw [if_pos c2] at h;omega
   ·rw [if_neg c2] at h
    have e:x=y:=UInt8.le_antisymm (UInt8.not_lt.1 c2) (UInt8.not_lt.1 c1)
    subst e
    by_cases c3:x<z
    ·rw [if_pos c3];decide
    ·rw [if_neg c3] at g ⊢
     by_cases c4:z<x
     ·rw [if_pos c4] at g;omega
     ·rw [if_neg c4] at g ⊢
      exact zeD a b c h g
theorem zgZ:∀(a b:List UInt8),Lib.compareBytes a b=0→a=b
 | [],[],_=>rfl
 | [],_::_,h=>by simp [Lib.compareBytes] at h
 | _::_,[],h=>by simp [Lib.compareBytes] at h
 | x::a,y::b,h=>by
  unfold Lib.compareBytes at h
  by_cases c1:x<y
  ·rw [if_pos c1] at h;omega
  ·rw [if_neg c1] at h
   by_cases c2:y<x
   ·rw [if_pos c2] at h;omega
   ·rw [if_neg c2] at h
    have e:x=y:=UInt8.le_antisymm (UInt8.not_lt.1 c2) (UInt8.not_lt.1 c1)
    rw [e,zgZ a b h]
theorem zhR:∀(a:List UInt8),Lib.compareBytes a a=0
 | []=>rfl
 | x::a=>by
  unfold Lib.compareBytes
  rw [if_neg (UInt8.lt_irrefl x),if_neg (UInt8.lt_irrefl x)]
  exact zhR a
theorem zhf:∀(a b:List UInt8),Lib.compareBytes a b = -Lib.compareBytes b a
 | [],[]=>rfl
 | [],_::_=>rfl
 | _::_,[]=>rfl
 | x::a,y::b=>by
  unfold Lib.compareBytes
  by_cases c1:x<y
  ·rw [if_pos c1,if_neg (UInt8.not_lt.2 (UInt8.le_of_lt c1)),if_pos c1]
  ·rw [if_neg c1]
   by_cases c2:y<x
   ·rw [if_pos c2,if_pos c2];rfl
   ·rw [if_neg c2,if_neg c2,if_neg c1]
    exact zhf a b
theorem kL {a b c:ByteArray} (h:uA a b<0) (g:uA b c<0):uA a c<0:=zeD _ _ _ h g
theorem JU {a b:ByteArray} (h:uA a b=0):a=b:=by
 have:=zgZ _ _ h
 exact ByteArray.ext (Array.toList_inj.1 this)
theorem jS (a:ByteArray):uA a a=0:=zhR _
theorem Vh (a b:ByteArray):uA a b = -uA b a:=zhf _ _
def xI (L:List zU):Prop:=L.Pairwise fun x y=>uA x.1 y.1<0
theorem xI.at {L:List zU} (h:xI L) {a b:Nat} {x y:zU} (hab:a<b) (hx:L[a]?=some x) (hy:L[b]?=some y):uA x.1 y.1<0:=by
 obtain ⟨ha,rfl⟩:=List.getElem?_eq_some_iff.1 hx
 obtain ⟨hb,rfl⟩:=List.getElem?_eq_some_iff.1 hy
 exact List.pairwise_iff_getElem.1 h a b ha hb hab
theorem xI.down {L:List zU} (h:xI L) (name:ByteArray):Down L name:=by
 intro a b x y hab hx hy hl
 unfold ltN at hl ⊢
 rw [decide_eq_true_eq] at hl ⊢
 exact kL (h.at hab hx hy) hl
theorem Zv {α:Type} {p:α→Bool}:∀{l:List α} {x:α},x ∈ l.takeWhile p→p x=true
 | [],_,h=>by simp at h
 | a::l,x,h=>by
  rw [List.takeWhile_cons] at h
  split at h
  ·rename_i ha
   rcases List.mem_cons.1 h with rfl|h
   ·exact ha
   ·exact Zv h
  ·simp at h
theorem UZ {L:List zU} {name:ByteArray} {x:zU} (hx:x ∈ L.take (uP L name)):uA x.1 name<0:=by
 have:L.take (uP L name)=L.takeWhile (ltN name):=by
  unfold uP
  exact (List.prefix_iff_eq_take.1 (List.takeWhile_prefix _)).symm
 rw [this] at hx
 have:=Zv hx
 unfold ltN at this
 rwa [decide_eq_true_eq] at this
theorem zl6 {L:List zU} {name:ByteArray} {x:zU} (hx:L[uP L name]?=some x):ltN name x=false:=by
 unfold uP at hx
 have h2:L.drop (L.takeWhile (ltN name)).length=L.dropWhile (ltN name):=by
  have:=List.takeWhile_append_dropWhile (p:=ltN name) (l:=L)
  have h3:=congrArg (List.drop (L.takeWhile (ltN name)).length) this
  rw [List.drop_left] at h3
  exact h3.symm
 have h4:(L.dropWhile (ltN name))[0]?=some x:=by rw [← h2,List.getElem?_drop];exact hx
 have:=List.head?_dropWhile_not (ltN name) L
 rw [List.head?_eq_getElem?,h4] at this
 simpa using this
theorem JY {L:List zU} (h:xI L) {name:ByteArray} {x:zU} (hx:x ∈ L.drop (if zX L name then uP L name+1 else uP L name)):uA name x.1<0:=by
 obtain ⟨k,hk⟩:=List.getElem?_of_mem hx
 rw [List.getElem?_drop] at hk
 have hlt:uP L name<L.length:=by
  have:=(List.getElem?_eq_some_iff.1 hk).1
  split at this<;>omega
 obtain ⟨y,hy⟩:∃y,L[uP L name]?=some y:=⟨_,List.getElem?_eq_getElem hlt⟩
 have hn:=zl6 hy
 unfold ltN at hn
 rw [decide_eq_false_iff_not] at hn
 cases hh:zX L name with
 | true=>
  rw [hh,if_pos rfl] at hk
  have hz:uA y.1 name=0:=by
   unfold zX at hh
   rw [hy] at hh
   simpa using hh
  rw [← JU hz]
  exact h.at (by omega) hy hk
 | false=>
  rw [hh] at hk
  simp only [Bool.false_eq_true,if_false] at hk
  have hz:uA y.1 name≠0:=by
   intro e
   unfold zX at hh
   rw [hy] at hh
   simp [e] at hh
  have hr:=VY y.1 name
  have hy1:uA name y.1<0:=by rw [Vh];omega
  by_cases hk0:k=0
  ·subst hk0
   rw [Nat.add_zero,hy] at hk
   injection hk with hk
   rw [← hk]
   exact hy1
  ·exact kL hy1 (h.at (by omega) hy hk)
theorem xI.with {L:List zU} (h:xI L) (name:ByteArray) (ss:List xH):xI (Qy L name ss):=by
 unfold Qy xI
 rw [List.append_assoc,List.pairwise_append]
 refine ⟨h.sublist (List.take_sublist _ _),?_,?_⟩
 ·rw [List.singleton_append,List.pairwise_cons]
  exact ⟨fun x hx=>JY h hx,h.sublist (List.drop_sublist _ _)⟩
 ·intro x hx y hy
  rw [List.singleton_append] at hy
  rcases List.mem_cons.1 hy with rfl|hy
  ·exact UZ hx
  ·exact kL (UZ hx) (JY h hy)
theorem xI.less {L:List zU} (h:xI L) (p:Nat):xI (Yu L p):=by
 unfold Yu
 rw [← List.eraseIdx_eq_take_drop_succ]
 exact h.sublist (List.eraseIdx_sublist _ _)
theorem zib {L:List zU} {name:ByteArray} {ss:List xH} (h:L.length≤4) (ho:(zX L name||decide (L.length<4))=true):(Qy L name ss).length≤4:=by
 have hp:=zhj L name
 unfold Qy
 rw [List.length_append,List.length_append,List.length_take,List.length_drop,List.length_singleton]
 cases hh:zX L name with
 | true=>
  have:=xM hh
  rw [if_pos rfl];omega
 | false=>
  rw [hh] at ho
  simp only [Bool.false_or,decide_eq_true_eq] at ho
  simp only [Bool.false_eq_true,if_false]
  omega
theorem zgX {L:List zU} (p:Nat) (h:L.length≤4):(Yu L p).length≤4:=by
 unfold Yu
 rw [List.length_append,List.length_take,List.length_drop];omega
end Go.Proofs.YtdakgnaojakldaaGreatDoor
