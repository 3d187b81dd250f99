/- P -/
import Derived.Test.YtdakgnaojakldaaGreatDoorP38
import Derived.Test.YtdakgnaojakldaaGreatDoorP06
set_option maxRecDepth 100000
set_option maxHeartbeats 1000000
namespace Go.Proofs.YtdakgnaojakldaaGreatDoor
open Go.RowKit
def zdt (w:World) (fb:Nat) (sh pt:Bool) (R:Bool×Option (List ByteArray)) (e:Ending) (w':World):Prop:=
 ∃lv,e = .returned (.agg #[.bool R.1,lv])∧w.grownBy w' (some fb)∧qW w' fb (sh || !R.2.isSome) (pt || !((R.2.getD []).all Ref.xY))∧w'.ownsRow w.heap.size 9 1 lv (R.2.getD []).length (Ref.strCells (R.2.getD []))
theorem ziN (w:World) (a b:Obj) (t:TypeId) (s:ByteArray):Below w.heap.size w (((w.alloc a).alloc b).alloc (.cells #[.string s] t))∧(((w.alloc a).alloc b).alloc (.cells #[.string s] t)).heap.size=w.heap.size+3 ∧
  (((w.alloc a).alloc b).alloc (.cells #[.string s] t)).heap[w.heap.size]?=some a∧(((w.alloc a).alloc b).alloc (.cells #[.string s] t)).heap[w.heap.size+1]?=some b ∧
  (((w.alloc a).alloc b).alloc (.cells #[.string s] t)).ownsRow w.heap.size t 1 (.slice (some ⟨w.heap.size+1+1,0,none⟩) 1 1) 1 (Ref.strCells [s]):=by
 refine ⟨(((Below.refl _ _).alloc (Nat.le_refl _) _).alloc (by simp) _).alloc (by simp;omega) _,by simp,?_,?_,?_⟩
 ·rw [Below.heap_alloc _ _ _ (by simp;omega)];exact (qI w a b).1
 ·rw [Below.heap_alloc _ _ _ (by simp)];exact (qI w a b).2
 ·have h:=World.ownsRow_lit (base:=w.heap.size) (e:=t) (size:=1) ((w.alloc a).alloc b) #[.string s] 1 (by simp;omega) (by decide) rfl
  rw [World.size_alloc,World.size_alloc] at h
  exact h
theorem Ju {w A w2:World} {fb n:Nat} {sh pt:Bool} {e:TypeId} {lv:Value} {xs:List Value} (hA:Below w.heap.size w A) (hsz:w.heap.size<A.heap.size) (hfl:fb<w.heap.size) (g:A.grownBy w2 (some fb)) (f:qW w2 fb sh pt)
  (o:w2.ownsRow A.heap.size e 1 lv n xs) (u1 u2:Value):w.grownBy ((w2.setCell ⟨w.heap.size,0,none⟩ u1).setCell ⟨w.heap.size,1,none⟩ u2) (some fb)∧qW ((w2.setCell ⟨w.heap.size,0,none⟩ u1).setCell ⟨w.heap.size,1,none⟩ u2) fb sh pt ∧
   ((w2.setCell ⟨w.heap.size,0,none⟩ u1).setCell ⟨w.heap.size,1,none⟩ u2).ownsRow w.heap.size e 1 lv n xs:=by
 have h1:w.grownBy w2 (some fb):=But.trans (But.of _ hA) g
 refine ⟨⟨h1.os,h1.tape,h1.output,by simp [World.setCell];exact h1.size,fun i hi hn=>?_⟩,?_,?_⟩
 ·rw [Below.heap_setCell _ _ _ _ (by simp only;omega),Below.heap_setCell _ _ _ _ (by simp only;omega)];exact h1.block i hi hn
 ·unfold qW
  rw [Below.heap_setCell _ _ _ _ (by simp only;omega),Below.heap_setCell _ _ _ _ (by simp only;omega)];exact f
 ·exact zl (ownsRow_setCell_below (ownsRow_setCell_below o hsz _) hsz _) (by omega)
theorem zf2 (k:Int) (base b gg cap:Nat) (ns:List Ref.Node) (fb:Nat) (sh pt:Bool) (w:World) (h:zej w base b gg cap ns) (hk:k<ns.length) (hk0:-1≤k) (hf:qW w fb sh pt) :
  Calls Tryz.prog 111 #[.pointer (some ⟨b,0,none⟩), .int .i64 k, .pointer (some ⟨fb,0,none⟩)] w (zdt w fb sh pt (Ref.qY ns k)):=by
 have HPAT:Hid (∀(k:Int) (w:World),zej w base b gg cap ns→k<ns.length → -1≤k→qW w fb sh pt→Calls Tryz.prog 165 #[.pointer (some ⟨b,0,none⟩), .int .i64 k, .pointer (some ⟨fb,0,none⟩)] w (U1 w fb sh pt (Ref.zH ns k))):=
  fun k w h hk hk0 hf=>YP k base b gg cap ns fb sh pt w h hk hk0 hf
 have hfl:fb<w.heap.size:=lt_of_block hf
 by_cases hneg:k<0
 ·rw [Ref.zcl ns k hneg]
  obtain ⟨R,hR⟩:∃R,Ref.zH ns k=R:=⟨_,rfl⟩
  rw [hR]
  have HR:=hid hR
  have HH:=hid h
  have HF:=hid hf
  have hge:decide ((0:Int)≤k)=false:=by simp;omega
  clear h hf hR
  go_enter Tryz.func111,Tryz.ntmps111
  go_wp2_with fail
  have bA:Below w.heap.size w (w.alloc (.cells #[.bool false, .slice none 0 0] 157)):=(Below.refl _ _).alloc (Nat.le_refl _) _
  refine (HPAT.out k _ (HH.out.below bA) hk hk0 (HF.out.below bA)).mono ?_
  rintro e w2 ⟨lv,rfl,g2,f2,o2⟩
  have r0:w2.heap[w.heap.size]?=some (.cells #[.bool false, .slice none 0 0] 157 (0,0)):=(g2.block w.heap.size (by simp) (fun e=>by simp only [Option.some.injEq] at e;omega)).trans (heap_alloc_new w _)
  obtain ⟨p0,p1⟩:=cells_of_block r0 0
  obtain ⟨p2,p3⟩:=cells_of_block r0 1
  have p0':w2.cell? ⟨w.heap.size,0,none⟩=some (.bool false):=p0
  have p2':w2.cell? ⟨w.heap.size,1,none⟩=some (.slice none 0 0):=p2
  rw [HR.out] at f2 o2
  obtain ⟨la,lc,rfl⟩:=qm o2
  have G2:=hid g2
  have F2:=hid f2
  have O2:=hid o2
  have BA:=hid bA
  clear g2 f2 o2 p0 p2 bA r0
  have FIN:=hid (Ju BA.out (by simp) hfl G2.out F2.out O2.out (.bool false) (.slice la (R.getD []).length lc))
  go_wp2
  exact bodyPost_ret (v := .agg #[.bool false, .slice la (R.getD []).length lc]) (by simp [results,Tryz.results111,go_sem,p0',p2']) rfl ⟨_,rfl,FIN.out⟩
 obtain ⟨i,rfl⟩:∃i:Nat,k=i:=⟨k.toNat,by omega⟩
 have hil:i<ns.length:=by omega
 obtain ⟨R,hR⟩:∃R,Ref.qY ns (i:Int)=R:=⟨_,rfl⟩
 rw [hR]
 unfold Ref.qY at hR
 rw [if_neg hneg] at hR
 simp only [Int.toNat_natCast,List.getElem?_eq_getElem hil] at hR
 have hn:=List.getElem?_eq_getElem hil
 obtain ⟨⟨v1,v2⟩,a1,a2,a3,a4,a5,a6⟩:=h.node i _ hn
 have hsm:=h.small i _ hn
 obtain ⟨n,hnn⟩:∃n,ns[i]=n:=⟨_,rfl⟩
 rw [hnn] at hR hn a1 a2 a5 a6 hsm
 simp only at a3 a4 a5 a6
 have hsl:=h.slice
 obtain ⟨nl,hnl⟩:∃nl,ns.length=nl:=⟨_,rfl⟩
 have hlen:=h.len
 have HK:=hid hk
 rw [hnl] at hsl hil hk hlen
 obtain ⟨na,nc,rfl,_⟩:=qh a5
 obtain ⟨ka,kc,rfl,cK⟩:=qh a6
 have i0:(0:Int)≤(i:Int):=Int.natCast_nonneg _
 have i1:(i:Int)<(nl:Int):=by omega
 have hge:decide ((0:Int)≤(i:Int))=true:=by simp
 have HH:=hid h
 have HF:=hid hf
 have HN:=hid hn
 have HNL:=hid hnl
 have A5:=hid a5
 have A6:=hid a6
 have s1:=fun O:Obj=>cell_later ((Below.refl _ w).alloc (Nat.le_refl _) O) hsl
 have b1:=fun O:Obj=>cell_later ((Below.refl _ w).alloc (Nat.le_refl _) O) a1
 by_cases h1:n.kind=1
 ·rw [if_pos h1] at hR
  have hev:=(h.ev i _ hn).2 h1
  have hkids:=(h.ev i _ hn).1
  obtain ⟨kd,text,ss,ks⟩:=n
  simp only at h1
  subst h1
  simp only at a1 a2 a3 a4 hev hkids b1
  have b2:=fun O:Obj=>cell_later ((Below.refl _ w).alloc (Nat.le_refl _) O) a2
  have b3:=fun O:Obj=>cell_later ((Below.refl _ w).alloc (Nat.le_refl _) O) a3
  have b4:=fun O:Obj=>cell_later ((Below.refl _ w).alloc (Nat.le_refl _) O) a4
  have HR:=hid hR
  have CK:=hid cK
  have HEV:=hid hev
  have HKD:=hid hkids
  have hsn:=hsm.2.1
  simp only at hsn
  clear h hf hn hnl hnn cK a5 a6 hR hev hkids
  go_enter Tryz.func111,Tryz.ntmps111
  go_wp2_with fail
  obtain ⟨t1,t2,t3,t4,t5⟩:=ziN w (.cells #[.bool false, .slice none 0 0] 157) (.cells #[.int .i64 1, .string text, .slice na ss.length nc, .slice ka ks.length kc] 152) 9 Ref.ZF
  refine (zd0 ⟨1,text,ss,ks⟩ (.slice na ss.length nc, .slice ka ks.length kc) [Ref.ZF] _ base w.heap.size _ (ownsRow_below A5.out t1) t5 hsn (by decide)).mono ?_
  obtain ⟨x,hx⟩:∃x,Ref.vM ⟨1,text,ss,ks⟩ [Ref.ZF]=x:=⟨_,rfl⟩
  rw [hx]
  rintro e w3 ⟨rfl,hb3⟩
  rw [t2] at hb3
  have m0:=cells_of_block ((hb3.block _ (by omega)).trans t3)
  have m1:=cells_of_block ((hb3.block _ (by omega)).trans t4)
  have B3:Hid (Below w.heap.size w w3):=t1.trans (hb3.mono (by omega))
  have f3:=HF.out.below B3.out
  obtain ⟨fc0,fc1,ff0,ff1⟩:=f3.cell
  have F3:=hid f3
  have z3:w.heap.size+3≤w3.heap.size:=by have:=hb3.size;omega
  have n2:w3.cell? ⟨w.heap.size+1,2,none⟩=some (.slice na ss.length nc):=(m1 2).1
  have n3:w3.cell? ⟨w.heap.size+1,3,none⟩=some (.slice ka ks.length kc):=(m1 3).1
  have r0:w3.cell? ⟨w.heap.size,0,none⟩=some (.bool false):=(m0 0).1
  have r1:w3.cell? ⟨w.heap.size,1,none⟩=some (.slice none 0 0):=(m0 1).1
  have r2:=(m0 0).2
  have r3:=(m0 1).2
  have M0:=hid ((hb3.block _ (by omega)).trans t3)
  have HX:=hid hx
  clear t1 t2 t3 t4 t5 m0 m1 hb3 hx f3 hsl s1 b1 b2 b3 b4 a1 a2 a3 a4
  cases x with
  | false=>
   have hr:=HR.out
   rw [if_neg (by rw [HX.out];simp)] at hr
   subst hr
   have FIN:=hid (Ju B3.out (by omega) hfl (But.set w3 fb 0 (.bool true)) (F3.out.shape true) (World.ownsRow_nil (w3.setCell ⟨fb,0,none⟩ (.bool true)) w3.heap.size 9 1) (.bool false) (.slice none 0 0))
   have FIN2:Hid (zdt w fb sh pt (false,none) (.returned (.agg #[.bool false, .slice none 0 0])) (((w3.setCell ⟨fb,0,none⟩ (.bool true)).setCell ⟨w.heap.size,0,none⟩ (.bool false)).setCell ⟨w.heap.size,1,none⟩ (.slice none 0 0))):=by
    obtain ⟨q1,q2,q3⟩:=FIN.out
    exact ⟨_,rfl,q1,by simpa using q2,q3⟩
   clear HR FIN
   have hwf:w.heap.size≠fb:=by omega
   go_wp2
   exact bodyPost_ret (v := .agg #[.bool false, .slice none 0 0]) (by simp [results,Tryz.results111,go_sem,r0,r1]) rfl FIN2.out
  | true=>
   by_cases hone:ss.length=1
   ·have hr:=HR.out
    rw [if_pos ⟨HX.out,hone⟩] at hr
    have hk1:0<ks.length:=by have:=HEV.out;omega
    obtain ⟨g,rfl,q1⟩:=CK.out 0 hk1
    rw [qf,Ref.zbj ks 0 hk1] at q1
    have hc0:=HKD.out ks[0] (List.getElem_mem hk1)
    obtain ⟨c,hc⟩:∃c,ks[0]=c:=⟨_,rfl⟩
    have hgd:ks.getD 0 0=c:=by rw [← hc];simp [List.getD,hk1]
    rw [hgd] at hr
    rw [hc] at q1 hc0
    have q2:=cell_later B3.out q1
    obtain ⟨S,hS⟩:∃S,Ref.zH ns (c:Int)=S:=⟨_,rfl⟩
    rw [hS] at hr
    subst hr
    have HS:=hid hS
    have HC0:=hid hc0
    have hob:((ss.length:Int) != 1)=false:=by simp;omega
    have kk:(ks.length:Int)=1:=by have:=HEV.out;omega
    clear HR q1 hc hgd hS hc0 hone
    go_wp2_with fail
    refine (HPAT.out c _ (HH.out.below B3.out) (by have:=HC0.out;omega) (by omega) F3.out).mono ?_
    rintro e w4 ⟨lv,rfl,g4,f4,o4⟩
    have u0:=cells_of_block ((g4.block w.heap.size (by omega) (fun e=>by simp only [Option.some.injEq] at e;omega)).trans M0.out)
    have p0:w4.cell? ⟨w.heap.size,0,none⟩=some (.bool false):=(u0 0).1
    have p2:w4.cell? ⟨w.heap.size,1,none⟩=some (.slice none 0 0):=(u0 1).1
    have p1:=(u0 0).2
    have p3:=(u0 1).2
    rw [HS.out] at f4 o4
    obtain ⟨la,lc,rfl⟩:=qm o4
    have FIN:=hid (Ju B3.out (by omega) hfl g4 f4 o4 (.bool true) (.slice la (S.getD []).length lc))
    clear g4 f4 o4 u0 n2 n3 r0 r1 r2 r3 fc0 fc1 ff0 ff1 q2
    go_wp2
    exact bodyPost_ret (v := .agg #[.bool true, .slice la (S.getD []).length lc]) (by simp [results,Tryz.results111,go_sem,p0,p2]) rfl ⟨_,rfl,FIN.out⟩
   ·have hob:((ss.length:Int) != 1)=true:=by simp;omega
    have hr:=HR.out
    rw [if_neg (fun e=>hone e.2)] at hr
    subst hr
    have FIN:=hid (Ju B3.out (by omega) hfl (But.set w3 fb 0 (.bool true)) (F3.out.shape true) (World.ownsRow_nil (w3.setCell ⟨fb,0,none⟩ (.bool true)) w3.heap.size 9 1) (.bool false) (.slice none 0 0))
    have FIN2:Hid (zdt w fb sh pt (false,none) (.returned (.agg #[.bool false, .slice none 0 0])) (((w3.setCell ⟨fb,0,none⟩ (.bool true)).setCell ⟨w.heap.size,0,none⟩ (.bool false)).setCell ⟨w.heap.size,1,none⟩ (.slice none 0 0))):=by
     obtain ⟨q1,q2,q3⟩:=FIN.out
     exact ⟨_,rfl,q1,by simpa using q2,q3⟩
    clear HR FIN
    have hwf:w.heap.size≠fb:=by omega
    go_wp2
    exact bodyPost_ret (v := .agg #[.bool false, .slice none 0 0]) (by simp [results,Tryz.results111,go_sem,r0,r1]) rfl FIN2.out
 ·rw [if_neg h1] at hR
  obtain ⟨S,hS⟩:∃S,Ref.zH ns (i:Int)=S:=⟨_,rfl⟩
  rw [hS] at hR
  subst hR
  have h1b:(n.kind==1)=false:=by simp [h1]
  obtain ⟨kd,hkd⟩:∃kd,n.kind=kd:=⟨_,rfl⟩
  rw [hkd] at a1 h1b b1
  have HS:=hid hS
  clear h hf hn hnl hS hnn cK h1 hkd A5 A6 a5 a6 a2 a3 a4
  go_enter Tryz.func111,Tryz.ntmps111
  go_wp2_with fail
  have bA:Below w.heap.size w (w.alloc (.cells #[.bool false, .slice none 0 0] 157)):=(Below.refl _ _).alloc (Nat.le_refl _) _
  refine (HPAT.out i _ (HH.out.below bA) HK.out hk0 (HF.out.below bA)).mono ?_
  rintro e w2 ⟨lv,rfl,g2,f2,o2⟩
  have r0:w2.heap[w.heap.size]?=some (.cells #[.bool false, .slice none 0 0] 157 (0,0)):=(g2.block w.heap.size (by simp) (fun e=>by simp only [Option.some.injEq] at e;omega)).trans (heap_alloc_new w _)
  obtain ⟨p0,p1⟩:=cells_of_block r0 0
  obtain ⟨p2,p3⟩:=cells_of_block r0 1
  have p0':w2.cell? ⟨w.heap.size,0,none⟩=some (.bool false):=p0
  have p2':w2.cell? ⟨w.heap.size,1,none⟩=some (.slice none 0 0):=p2
  rw [HS.out] at f2 o2
  obtain ⟨la,lc,rfl⟩:=qm o2
  have G2:=hid g2
  have F2:=hid f2
  have O2:=hid o2
  have BA:=hid bA
  clear g2 f2 o2 p0 p2 bA r0
  have FIN:=hid (Ju BA.out (by simp) hfl G2.out F2.out O2.out (.bool false) (.slice la (S.getD []).length lc))
  go_wp2
  exact bodyPost_ret (v := .agg #[.bool false, .slice la (S.getD []).length lc]) (by simp [results,Tryz.results111,go_sem,p0',p2']) rfl ⟨_,rfl,FIN.out⟩
theorem zaA (s:ByteArray) (w:World) (hs:s.size≤12000) :
  Calls Tryz.prog 233 #[.string s] w fun e w'=>e = .returned (.bool (Ref.ZA s))∧w'=w:=by
 obtain ⟨R,hR⟩:∃R,Ref.ZA s=R:=⟨_,rfl⟩
 rw [hR]
 unfold Ref.ZA at hR
 cases hz:(s.toList==[48]) with
 | true=>
  rw [hz,Bool.true_or] at hR
  subst hR
  go_enter Tryz.func233,Tryz.ntmps233
  go_wp2
  go_ret
  exact ⟨rfl,rfl⟩
 | false=>
 rw [hz,Bool.false_or] at hR
 by_cases hm:0<s.size∧(s.data.toList.getD 0 0).toNat=45
 ·rw [if_pos hm] at hR
  have h0:0<s.size:=hm.1
  have h45:((s[0].toNat:Int)==45)=true:=by rw [← Ref.jF s h0,hm.2];rfl
  have hp:decide (0<(s.size:Int))=true:=by simp;omega
  have hts:(s.extract 1 s.size).size=s.size-1:=by rw [ByteArray.size_extract];omega
  have HR:=hid hR
  clear hR hm
  by_cases hsz:1≤(s.size-1)∧(s.size-1)≤18
  ·have hl1:decide (((s.size-1):Nat)<(1:Int))=false:=by simp;omega
   have hl2:decide ((18:Int)<((s.size-1):Nat))=false:=by simp;omega
   have ht0:0<(s.extract 1 s.size).size:=by omega
   by_cases h48:(((s.extract 1 s.size)[0]'ht0).toNat:Int)=48
   ·have h48b:((((s.extract 1 s.size)[0]'ht0).toNat:Int)==48)=true:=by simp [h48]
    have hr:=Ref.X9 (s.extract 1 s.size) ht0 h48
    rw [HR.out] at hr
    subst hr
    clear HR h48
    go_enter Tryz.func233,Tryz.ntmps233
    go_wp2
    go_ret
    exact ⟨rfl,rfl⟩
   ·have h48b:((((s.extract 1 s.size)[0]'ht0).toNat:Int)==48)=false:=by simp [h48]
    have H48:=hid h48
    obtain ⟨D,hD⟩:∃D:Nat→Bool,(fun k=>Ref.digits ((s.extract 1 s.size).data.toList.take k))=D:=⟨_,rfl⟩
    have hD0:D 0=true:=by rw [← hD];rfl
    have HD:=hid hD
    have HD0:=hid hD0
    clear hD hD0
    clear h48
    go_enter Tryz.func233,Tryz.ntmps233
    go_wp2
    go_loop [3] (fun i=>∃k:Nat,k≤(s.size-1)∧i = .int .i64 k∧D k=true) (fun i=>(s.size-1)-(intOf i).toNat)
    case atStart=>exact ⟨0,Nat.zero_le _,rfl,HD0.out⟩
    case round=>
     obtain ⟨k,hk,rfl,hl0⟩:=hrel
     have HL:=hid hl0
     clear hl0
     by_cases hlt:k<(s.size-1)
     ·have hkt:k<(s.extract 1 s.size).size:=by omega
      go_wp2
      all_goals first
       | (go_ret;exact ⟨yK ((Ref.zaU (s.extract 1 s.size) k hkt (by omega)).symm.trans HR.out),rfl⟩)
       | exact ⟨⟨k+1,by omega,by go_num,by have hl:=HL.out;rw [← HD.out] at hl ⊢;exact Ref.Jn (s.extract 1 s.size) k hkt hl (by omega) (by omega)⟩,by simp [intOf];omega⟩
     ·have hr:=Ref.Ue (s.extract 1 s.size) k (by omega) (by omega) (by omega) (by omega) H48.out (by have hl:=HL.out;rw [← HD.out] at hl;exact hl)
      rw [HR.out] at hr
      subst hr
      clear HR
      go_wp2
      go_ret
      exact ⟨rfl,rfl⟩
  ·have hr:=Ref.uQ (s.extract 1 s.size) (by omega)
   rw [HR.out] at hr
   subst hr
   clear HR
   go_enter Tryz.func233,Tryz.ntmps233
   go_wp2
   all_goals first
    | (exfalso;omega)
    | (go_ret;exact ⟨rfl,rfl⟩)
 ·rw [if_neg hm] at hR
  have HR:=hid hR
  clear hR
  by_cases h0:0<s.size
  ·have h45:((s[0].toNat:Int)==45)=false:=by
    rw [← Ref.jF s h0]
    have:(s.data.toList.getD 0 0).toNat≠45:=fun e=>hm ⟨h0,e⟩
    rw [beq_eq_false_iff_ne];omega
   have hp:decide (0<(s.size:Int))=true:=by simp;omega
   clear hm
   by_cases hsz:1≤s.size∧s.size≤18
   ·have hl1:decide ((s.size:Nat)<(1:Int))=false:=by simp;omega
    have hl2:decide ((18:Int)<(s.size:Nat))=false:=by simp;omega
    have ht0:0<(s).size:=by omega
    by_cases h48:(((s)[0]'ht0).toNat:Int)=48
    ·have h48b:((((s)[0]'ht0).toNat:Int)==48)=true:=by simp [h48]
     have hr:=Ref.X9 (s) ht0 h48
     rw [HR.out] at hr
     subst hr
     clear HR h48
     go_enter Tryz.func233,Tryz.ntmps233
     go_wp2
     go_ret
     exact ⟨rfl,rfl⟩
    ·have h48b:((((s)[0]'ht0).toNat:Int)==48)=false:=by simp [h48]
     have H48:=hid h48
     obtain ⟨D,hD⟩:∃D:Nat→Bool,(fun k=>Ref.digits ((s).data.toList.take k))=D:=⟨_,rfl⟩
     have hD0:D 0=true:=by rw [← hD];rfl
     have HD:=hid hD
     have HD0:=hid hD0
     clear hD hD0
     clear h48
     go_enter Tryz.func233,Tryz.ntmps233
     go_wp2
     go_loop [3] (fun i=>∃k:Nat,k≤s.size∧i = .int .i64 k∧D k=true) (fun i=>s.size-(intOf i).toNat)
     case atStart=>exact ⟨0,Nat.zero_le _,rfl,HD0.out⟩
     case round=>
      obtain ⟨k,hk,rfl,hl0⟩:=hrel
      have HL:=hid hl0
      clear hl0
      by_cases hlt:k<s.size
      ·have hkt:k<(s).size:=by omega
       go_wp2
       all_goals first
        | (go_ret;exact ⟨yK ((Ref.zaU (s) k hkt (by omega)).symm.trans HR.out),rfl⟩)
        | exact ⟨⟨k+1,by omega,by go_num,by have hl:=HL.out;rw [← HD.out] at hl ⊢;exact Ref.Jn (s) k hkt hl (by omega) (by omega)⟩,by simp [intOf];omega⟩
      ·have hr:=Ref.Ue (s) k (by omega) (by omega) (by omega) (by omega) H48.out (by have hl:=HL.out;rw [← HD.out] at hl;exact hl)
       rw [HR.out] at hr
       subst hr
       clear HR
       go_wp2
       go_ret
       exact ⟨rfl,rfl⟩
   ·have hr:=Ref.uQ (s) (by omega)
    rw [HR.out] at hr
    subst hr
    clear HR
    go_enter Tryz.func233,Tryz.ntmps233
    go_wp2
    all_goals first
     | (exfalso;omega)
     | (go_ret;exact ⟨rfl,rfl⟩)
  ·have hp:decide (0<(s.size:Int))=false:=decide_eq_false (by omega)
   have hl1:decide ((s.size:Int)<1)=true:=by simp;omega
   have hr:=Ref.uQ s (by omega)
   rw [HR.out] at hr
   subst hr
   clear HR hm
   go_enter Tryz.func233,Tryz.ntmps233
   go_wp2
   go_ret
   exact ⟨rfl,rfl⟩
theorem kZ (s:ByteArray) (w:World) (hs:s.size≤12000) (x:Bool) (hx:Ref.ZA s=x) :
  Calls Tryz.prog 233 #[.string s] w fun e w'=>e = .returned (.bool x)∧w'=w:=by
 subst hx;exact zaA s w hs
theorem KL (op:ByteArray) (l:List ByteArray) (lv:Value) (base:Nat) (w:World) (h:w.ownsRow base 9 1 lv l.length (Ref.strCells l)) (hl:l.length≤10) (hsz:∀s ∈ l,s.size≤12000) :
  Calls Tryz.prog 208 #[.string op,lv] w fun e w'=>e = .returned (.bool (Ref.zgA op l))∧w'=w:=by
 obtain ⟨R,hR⟩:∃R,Ref.zgA op l=R:=⟨_,rfl⟩
 rw [hR]
 unfold Ref.zgA at hR
 obtain ⟨la,lc,rfl,cL⟩:=qh h
 have HR:=hid hR
 have CL:=hid cL
 have HSZ:=hid hsz
 clear hR cL hsz h
 go_enter Tryz.func208,Tryz.ntmps208
 go_wp2
 go_loop [5] (fun i=>∃k:Nat,k≤l.length∧i = .int .i64 k∧((l.take k).all (Ref.Qx op))=true) (fun i=>l.length-(intOf i).toNat)
 case atStart=>exact ⟨0,Nat.zero_le _,rfl,by simp⟩
 case round=>
  obtain ⟨k,hk,rfl,hb⟩:=hrel
  have HB:=hid hb
  clear hb
  by_cases hlt:k<l.length
  ·obtain ⟨g,rfl,q1⟩:=CL.out k hlt
   rw [Ref.xC l k hlt] at q1
   have hs12:=HSZ.out l[k] (List.getElem_mem hlt)
   obtain ⟨s,hs⟩:∃s,l[k]=s:=⟨_,rfl⟩
   rw [hs] at q1 hs12
   have HS:=hid hs
   clear hs
   have good:Hid (Ref.Qx op s=true→((l.take (k+1)).all (Ref.Qx op))=true):=fun e=>Ref.zez l _ k hlt HB.out (by rw [HS.out];exact e)
   have bad:Hid (Ref.Qx op s=false→R=false):=fun e=>by rw [← HR.out,Ref.zeK l _ k hlt (by rw [HS.out];exact e)];rfl
   obtain ⟨V,hV⟩:∃V,Ref.Qx op s=V:=⟨_,rfl⟩
   rw [hV] at good bad
   unfold Ref.Qx at hV
   have HV:=hid hV
   clear hV HB
   obtain ⟨N,hN⟩:∃N,Ref.ZA s=N:=⟨_,rfl⟩
   have HN:=hid hN
   clear hN
   cases hE:s.toList.isEmpty with
   | true=>
    cases N with
    | true=>
     have hnum:=HN.out
     go_wp2_with (go_at_call 233;refine (kZ s _ hs12 true HN.out).mono ?_;rintro e w2 ⟨rfl,rfl⟩)
     all_goals first
      | (go_ret;refine ⟨yK (bad.out ?_).symm,rfl⟩;rw [← HV.out];first|(simp only [*];simp;done)|(simp only [*];simp;omega)|(simp [*];done)|(simp [*];omega))
      | (refine ⟨⟨k+1,by omega,by go_num,good.out ?_⟩,by simp [intOf];omega⟩;rw [← HV.out];first|(simp only [*];simp;done)|(simp only [*];simp;omega)|(simp [*];done)|(simp [*];omega))
    | false=>
     have hnum:=HN.out
     go_wp2_with (go_at_call 233;refine (kZ s _ hs12 false HN.out).mono ?_;rintro e w2 ⟨rfl,rfl⟩)
     all_goals first
      | (go_ret;refine ⟨yK (bad.out ?_).symm,rfl⟩;rw [← HV.out];first|(simp only [*];simp;done)|(simp only [*];simp;omega)|(simp [*];done)|(simp [*];omega))
      | (refine ⟨⟨k+1,by omega,by go_num,good.out ?_⟩,by simp [intOf];omega⟩;rw [← HV.out];first|(simp only [*];simp;done)|(simp only [*];simp;omega)|(simp [*];done)|(simp [*];omega))
   | false=>
    cases N with
    | true=>
     have hnum:=HN.out
     go_wp2_with (go_at_call 233;refine (kZ s _ hs12 true HN.out).mono ?_;rintro e w2 ⟨rfl,rfl⟩)
     all_goals first
      | (go_ret;refine ⟨yK (bad.out ?_).symm,rfl⟩;rw [← HV.out];first|(simp only [*];simp;done)|(simp only [*];simp;omega)|(simp [*];done)|(simp [*];omega))
      | (refine ⟨⟨k+1,by omega,by go_num,good.out ?_⟩,by simp [intOf];omega⟩;rw [← HV.out];first|(simp only [*];simp;done)|(simp only [*];simp;omega)|(simp [*];done)|(simp [*];omega))
    | false=>
     have hnum:=HN.out
     go_wp2_with (go_at_call 233;refine (kZ s _ hs12 false HN.out).mono ?_;rintro e w2 ⟨rfl,rfl⟩)
     all_goals first
      | (go_ret;refine ⟨yK (bad.out ?_).symm,rfl⟩;rw [← HV.out];first|(simp only [*];simp;done)|(simp only [*];simp;omega)|(simp [*];done)|(simp [*];omega))
      | (refine ⟨⟨k+1,by omega,by go_num,good.out ?_⟩,by simp [intOf];omega⟩;rw [← HV.out];first|(simp only [*];simp;done)|(simp only [*];simp;omega)|(simp [*];done)|(simp [*];omega))
  ·have e:=Ref.zhJ l (Ref.Qx op) k hlt HB.out
   have hr:=HR.out
   rw [e,Bool.true_and] at hr
   unfold Ref.zec at hr
   have HR2:=hid hr
   clear hr e HR HB
   go_wp2
   all_goals
    go_ret
    first
     | exact ⟨rfl,rfl⟩
     | (refine ⟨yK ?_,rfl⟩;rw [← HR2.out];done)
     | (refine ⟨yK ?_,rfl⟩;rw [← HR2.out];simp [*];done)
theorem zI.rd {w:World} {base b:Nat} {m:Ref.zC} {ov nv:Value} {vs:List (Value×Value)} (h:zI w base b m ov nv vs) (hn:m.nodes≠[]) (hev:Ref.Ev m.nodes) (hb:Ref.Bnd 4000 m) (ht:Ref.Texts 12000 m.nodes) :
  ∃gg cap,zej w base b gg cap m.nodes:=by
 have hpos:0<m.nodes.length:=List.length_pos_iff.2 hn
 obtain ⟨gg,cap,rfl⟩:∃g c,nv = .slice (some ⟨g,0,none⟩) m.nodes.length c:=by
  rcases h.ownN.2 with ⟨_,h0⟩|⟨g,c,cur,rfl,_⟩
  ·omega
  ·exact ⟨_,_,rfl⟩
 refine ⟨gg,cap,⟨lt_of_block h.blk,(h.ownN.lt gg rfl).2⟩,(h.cell 2).1,fun i n hi=>?_,hev,hb.nodes,fun i n hi=>⟨(hb.kids i n hi).1,(hb.kids i n hi).2,ht i n hi⟩⟩
 have hil:i<m.nodes.length:=(List.getElem?_eq_some_iff.1 hi).1
 have hvl:i<vs.length:=by rw [h.len];exact hil
 have hv:=List.getElem?_eq_getElem hvl
 have hgets:=vN m.nodes vs h.len i n vs[i] hi hv
 exact ⟨vs[i],(h.ownN.cellAt _ (by omega)).trans hgets.1,(h.ownN.cellAt _ (by omega)).trans hgets.2.1,(h.ownN.cellAt _ (by omega)).trans hgets.2.2.1,(h.ownN.cellAt _ (by omega)).trans hgets.2.2.2,h.names i n _ hi hv,h.kids i n _ hi hv⟩
theorem zgm (text:ByteArray) (h:(xP text).1=0):Ref.Ev (xP text).2.2.nodes∧(xP text).2.2.nodes≠[]∧0≤(xP text).2.2.root∧(xP text).2.2.root<((xP text).2.2.nodes.length:Int)∧Ref.Texts 12000 (xP text).2.2.nodes:=by
 obtain ⟨R,hR⟩:∃R,xP text=R:=⟨_,rfl⟩
 rw [hR] at h ⊢
 unfold xP at hR
 by_cases h1:4000<text.size
 ·rw [if_pos h1] at hR;subst hR;simp at h
 rw [if_neg h1] at hR
 by_cases h2:(Ref.run Ref.init text.data.toList 0).1≠0
 ·rw [if_pos h2] at hR;subst hR;exact absurd h h2
 rw [if_neg h2] at hR
 by_cases h3:(Ref.run Ref.init text.data.toList 0).2.2.state≠6∨(Ref.run Ref.init text.data.toList 0).2.2.opn≠[]
 ·rw [if_pos h3] at hR;subst hR;simp at h
 rw [if_neg h3] at hR
 subst hR
 have h6:(Ref.run Ref.init text.data.toList 0).2.2.state=6:=by
  by_cases e:(Ref.run Ref.init text.data.toList 0).2.2.state=6
  ·exact e
  ·exact absurd (.inl e) h3
 have hz:(Ref.run Ref.init text.data.toList 0).1=0:=by
  by_cases e:(Ref.run Ref.init text.data.toList 0).1=0
  ·exact e
  ·exact absurd e h2
 have ht:=(Ref.zeG text.data.toList Ref.init 0 0 Ref.zg6 zcK U7 hz).1
 have htx:=Ref.zav text.data.toList Ref.init 0 0 4000 (fun i n hi=>by simp [Ref.init] at hi) U7 (by rw [Ref.zg];omega)
 have hp:¬Ref.pend (Ref.run Ref.init text.data.toList 0).2.2:=by unfold Ref.pend;omega
 have hf:=ht.full (by unfold Ref.asks;omega)
 exact ⟨ht.ev hp,hf,ht.root0,ht.root hf,htx⟩
structure QW (w:World) (fb:Nat) (nc cc:Array Value) (sh pt:Bool) (wx:World):Prop where
 g:w.grownBy wx (some fb)
 f:qW wx fb sh pt
 r:wx.heap[w.heap.size]?=some (.cells #[.string ⟨#[]⟩, .string ⟨#[]⟩, .slice none 0 0, .bool false] 244 (0,0))
 n:wx.heap[w.heap.size+1]?=some (.cells nc 152 (0,0))
 c:wx.heap[w.heap.size+2]?=some (.cells cc 244 (0,0))
theorem YD (w:World) (a b c:Obj):(((w.alloc a).alloc b).alloc c).heap[w.heap.size]?=some a∧(((w.alloc a).alloc b).alloc c).heap[w.heap.size+1]?=some b∧(((w.alloc a).alloc b).alloc c).heap[w.heap.size+2]?=some c:=by
 refine ⟨?_,?_,?_⟩
 ·rw [Below.heap_alloc _ _ _ (by simp;omega)];exact (qI w a b).1
 ·rw [Below.heap_alloc _ _ _ (by simp)];exact (qI w a b).2
 ·have h:=heap_alloc_new ((w.alloc a).alloc b) c
  rw [World.size_alloc,World.size_alloc] at h
  exact h
theorem QW.start {w:World} {fb:Nat} {sh pt:Bool} (hf:qW w fb sh pt) (nc cc:Array Value) :
  QW w fb nc cc sh pt (((w.alloc (.cells #[.string ⟨#[]⟩, .string ⟨#[]⟩, .slice none 0 0, .bool false] 244)).alloc (.cells nc 152)).alloc (.cells cc 244)):=by
 have hb:Below w.heap.size w (((w.alloc (.cells #[.string ⟨#[]⟩, .string ⟨#[]⟩, .slice none 0 0, .bool false] 244)).alloc (.cells nc 152)).alloc (.cells cc 244)):=
  (((Below.refl _ _).alloc (Nat.le_refl _) _).alloc (by simp) _).alloc (by simp;omega) _
 obtain ⟨t1,t2,t3⟩:=YD w (.cells #[.string ⟨#[]⟩, .string ⟨#[]⟩, .slice none 0 0, .bool false] 244) (.cells nc 152) (.cells cc 244)
 exact ⟨But.of _ hb,hf.below hb,t1,t2,t3⟩
theorem QW.size {w wx:World} {fb:Nat} {nc cc:Array Value} {sh pt:Bool} (h:QW w fb nc cc sh pt wx):w.heap.size+3≤wx.heap.size:=lt_of_block h.c
theorem QW.below {w wx wy:World} {fb:Nat} {nc cc:Array Value} {sh pt:Bool} (h:QW w fb nc cc sh pt wx) (hb:Below wx.heap.size wx wy):QW w fb nc cc sh pt wy:=by
 have hz:=h.size
 exact ⟨But.trans h.g (But.of _ hb),h.f.below hb,(hb.block _ (by omega)).trans h.r,(hb.block _ (by omega)).trans h.n,(hb.block _ (by omega)).trans h.c⟩
theorem QW.grown {w wx wy:World} {fb:Nat} {nc cc:Array Value} {sh pt sh' pt':Bool} (hfl:fb<w.heap.size) (h:QW w fb nc cc sh pt wx) (hg:wx.grownBy wy (some fb)) (hf:qW wy fb sh' pt'):QW w fb nc cc sh' pt' wy:=by
 have hz:=h.size
 exact ⟨But.trans h.g hg,hf,(hg.block _ (by omega) (by simp;omega)).trans h.r,(hg.block _ (by omega) (by simp;omega)).trans h.n,(hg.block _ (by omega) (by simp;omega)).trans h.c⟩
theorem QW.shape {w wx:World} {fb:Nat} {nc cc:Array Value} {sh pt:Bool} (hfl:fb<w.heap.size) (h:QW w fb nc cc sh pt wx) (x:Bool):QW w fb nc cc x pt (wx.setCell ⟨fb,0,none⟩ (.bool x)):=
 h.grown hfl (But.set _ _ _ _) (h.f.shape x)
theorem QW.put {w wx:World} {fb:Nat} {nc:Array Value} {c0 c1 c2 c3:Value} {sh pt:Bool} (hfl:fb<w.heap.size) (h:QW w fb nc #[c0,c1,c2,c3] sh pt wx) (o:Nat) (u:Value) (cc:Array Value) (hcc:cc=#[c0,c1,c2,c3].set! o u):QW w fb nc cc sh pt (wx.setCell ⟨w.heap.size+2,o,none⟩ u):=by
 subst hcc
 refine ⟨⟨h.g.os,h.g.tape,h.g.output,by simp [World.setCell];exact h.g.size,fun i hi hn=>?_⟩,?_,?_,?_,?_⟩
 ·rw [Below.heap_setCell _ _ _ _ (by simp only;omega)];exact h.g.block i hi hn
 ·unfold qW;rw [Below.heap_setCell _ _ _ _ (by simp only;omega)];exact h.f
 ·rw [Below.heap_setCell _ _ _ _ (by simp only;omega)];exact h.r
 ·rw [Below.heap_setCell _ _ _ _ (by simp only;omega)];exact h.n
 ·exact heap_setCell_same wx (w.heap.size+2) o _ _ _ h.c
theorem QW.cells {w wx:World} {fb:Nat} {n0 n1 n2 n3 c0 c1 c2 c3:Value} {sh pt:Bool} (h:QW w fb #[n0,n1,n2,n3] #[c0,c1,c2,c3] sh pt wx) :
  (wx.cell? ⟨w.heap.size+1,0,none⟩=some n0∧wx.cell? ⟨w.heap.size+1,1,none⟩=some n1∧wx.cell? ⟨w.heap.size+1,2,none⟩=some n2∧wx.cell? ⟨w.heap.size+1,3,none⟩=some n3) ∧
  (wx.cell? ⟨w.heap.size+2,0,none⟩=some c0∧wx.cell? ⟨w.heap.size+2,1,none⟩=some c1∧wx.cell? ⟨w.heap.size+2,2,none⟩=some c2∧wx.cell? ⟨w.heap.size+2,3,none⟩=some c3) ∧
  (wx.frozen? ⟨w.heap.size+2,0,none⟩=false∧wx.frozen? ⟨w.heap.size+2,1,none⟩=false∧wx.frozen? ⟨w.heap.size+2,2,none⟩=false∧wx.frozen? ⟨w.heap.size+2,3,none⟩=false) ∧
  (wx.cell? ⟨fb,0,none⟩=some (.bool sh)∧wx.cell? ⟨fb,1,none⟩=some (.bool pt)∧wx.frozen? ⟨fb,0,none⟩=false∧wx.frozen? ⟨fb,1,none⟩=false):=
 ⟨⟨(cells_of_block h.n 0).1,(cells_of_block h.n 1).1,(cells_of_block h.n 2).1,(cells_of_block h.n 3).1⟩,⟨(cells_of_block h.c 0).1,(cells_of_block h.c 1).1,(cells_of_block h.c 2).1,(cells_of_block h.c 3).1⟩,
  ⟨(cells_of_block h.c 0).2,(cells_of_block h.c 1).2,(cells_of_block h.c 2).2,(cells_of_block h.c 3).2⟩,h.f.cell⟩
theorem QW.fin {w wx:World} {fb:Nat} {nc cc:Array Value} {sh pt:Bool} (hfl:fb<w.heap.size) (h:QW w fb nc cc sh pt wx) (u0 u1 u2 u3:Value) :
  w.grownBy ((((wx.setCell ⟨w.heap.size,0,none⟩ u0).setCell ⟨w.heap.size,1,none⟩ u1).setCell ⟨w.heap.size,2,none⟩ u2).setCell ⟨w.heap.size,3,none⟩ u3) (some fb) ∧
  qW ((((wx.setCell ⟨w.heap.size,0,none⟩ u0).setCell ⟨w.heap.size,1,none⟩ u1).setCell ⟨w.heap.size,2,none⟩ u2).setCell ⟨w.heap.size,3,none⟩ u3) fb sh pt:=by
 refine ⟨⟨h.g.os,h.g.tape,h.g.output,by simp [World.setCell];exact h.g.size,fun i hi hn=>?_⟩,?_⟩
 ·rw [Below.heap_setCell _ _ _ _ (by simp only;omega),Below.heap_setCell _ _ _ _ (by simp only;omega),Below.heap_setCell _ _ _ _ (by simp only;omega),Below.heap_setCell _ _ _ _ (by simp only;omega)];exact h.g.block i hi hn
 ·unfold qW
  rw [Below.heap_setCell _ _ _ _ (by simp only;omega),Below.heap_setCell _ _ _ _ (by simp only;omega),Below.heap_setCell _ _ _ _ (by simp only;omega),Below.heap_setCell _ _ _ _ (by simp only;omega)];exact h.f
def XI (w:World) (fb:Nat) (sh pt:Bool) (R:Ref.xg) (e:Ending) (w':World):Prop:=
 ∃lv,e = .returned (.agg #[.string R.op, .string R.key,lv, .bool R.no])∧w.grownBy w' (some fb)∧qW w' fb (sh||R.sh) (pt||R.pt)∧w'.ownsRow w.heap.size 9 1 lv R.vals.length (Ref.strCells R.vals)
structure jR (w0:World) (base b gg cap:Nat) (ns:List Ref.Node) (w:World):Prop where
 rd:zej w0 base b gg cap ns
 non:Ref.NoN ns
 bel:Below w0.heap.size w0 w
theorem jR.at {w0 w:World} {base b gg cap:Nat} {ns:List Ref.Node} (h:jR w0 base b gg cap ns w):zej w base b gg cap ns:=h.rd.below h.bel
theorem jR.grown {w0 w w':World} {base b gg cap fb:Nat} {ns:List Ref.Node} (h:jR w0 base b gg cap ns w) (hg:w.grownBy w' (some fb)) (hf:w0.heap.size≤fb):jR w0 base b gg cap ns w':=⟨h.rd,h.non,h.bel.trans (But.below hg h.bel.size hf)⟩
theorem jR.names {w0 w:World} {base b gg cap:Nat} {ns:List Ref.Node} (h:jR w0 base b gg cap ns w) {i:Nat} {n:Ref.Node} (hi:ns[i]?=some n):n.names.length≤n.kids.length:=by
 by_cases h1:n.kind=1
 ·rw [(h.rd.ev i n hi).2 h1];exact Nat.le_refl _
 ·rw [h.non i n hi h1];simp
theorem XL {w0 w:World} {base b gg cap:Nat} {ns:List Ref.Node} (h:jR w0 base b gg cap ns w) {i:Nat} {n:Ref.Node} (hi:ns[i]?=some n) :
  ∃v:Value×Value,(∃na nc,v.1 = .slice na n.names.length nc)∧(∃ka kc,v.2 = .slice ka n.kids.length kc) ∧
   (∀W,Below w0.heap.size w0 W→W.cell? ⟨gg,i*4,none⟩=some (.int .i64 n.kind)∧W.cell? ⟨gg,i*4+1,none⟩=some (.string n.text)∧W.cell? ⟨gg,i*4+2,none⟩=some v.1∧W.cell? ⟨gg,i*4+3,none⟩=some v.2) ∧
   (∀W (name:ByteArray),Below w0.heap.size w0 W→Calls Tryz.prog 60 #[Vb n v, .string name] W fun e w'=>e = .returned (.int .i64 (Ref.zX n name))∧Below W.heap.size W w') ∧
   (∀W (ts:List ByteArray) (sl:Value) (base2:Nat),Below w0.heap.size w0 W→W.ownsRow base2 9 1 sl ts.length (Ref.strCells ts)→ts.length≤4000→Calls Tryz.prog 110 #[Vb n v,sl] W fun e w'=>e = .returned (.bool (Ref.vM n ts))∧Below W.heap.size W w'):=by
 obtain ⟨v,a1,a2,a3,a4,a5,a6⟩:=h.rd.node i n hi
 have hs:=h.rd.small i n hi
 refine ⟨v,?_,?_,fun W hb=>⟨cell_later hb a1,cell_later hb a2,cell_later hb a3,cell_later hb a4⟩,fun W name hb=>zlm n v name base W (ownsRow_below a5 hb) (ownsRow_below a6 hb) (h.names hi) hs.1,fun W ts sl base2 hb hT ht=>zd0 n v ts sl base base2 W (ownsRow_below a5 hb) hT hs.2.1 ht⟩
 ·obtain ⟨a,c,e,_⟩:=qh a5;exact ⟨a,c,e⟩
 ·obtain ⟨a,c,e,_⟩:=qh a6;exact ⟨a,c,e⟩
end Go.Proofs.YtdakgnaojakldaaGreatDoor
