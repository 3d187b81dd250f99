/- P -/
import Derived.Test.YtdakgnaojakldaaGreatDoorP35
set_option maxRecDepth 100000
set_option maxHeartbeats 3200000
namespace Go.Proofs.YtdakgnaojakldaaGreatDoor
open Go.RowKit
attribute [local go_sem ↓] Go.wp_at_zero Go.wp_at_succ
theorem Tryz.infoStr:(Tryz.prog.info? 9).map (fun i=>(i.zero,i.size,i.bytes))=some (some (.string ⟨#[]⟩),1,16):=by kernel_rfl
theorem zfR (m:Ref.zC) (base b:Nat) (ov nv:Value) (vs:List (Value×Value)) (w:World) (h:zI w base b m ov nv vs) (hs:Small m) (hno:m.named=true→m.opn≠[]) :
  Calls Tryz.prog 202 #[.pointer (some ⟨b,0,none⟩)] w (Stepped base b (Ref.closed m) w):=by
 obtain ⟨R,hR⟩:∃R,Ref.closed m=R:=⟨_,rfl⟩
 rw [hR]
 unfold Ref.closed at hR
 have HB:=hid h.hb
 have c3:w.cell? ⟨b,3,none⟩=some (.bool m.named):=(h.cell 3).1
 have c4:w.cell? ⟨b,4,none⟩=some (.string m.got):=(h.cell 4).1
 cases hnm:m.named with
 | false=>
  rw [if_pos hnm] at hR
  subst hR
  rw [hnm] at c3
  have HM:=hid h
  have HS:=hid hs
  clear h hs hno hnm
  go_enter Tryz.func202,Tryz.ntmps202
  go_wp2_with fail
  refine (Qc m 3 m.got base b ov nv vs _ HM.out HS.out).mono ?_
  rintro e w2 ⟨rfl,hb2,nv2,vs2,hM2⟩
  have d0:w2.cell? ⟨b,0,none⟩=some (.int .i64 (Ref.lay m ⟨3,m.got,[],[]⟩).state):=(hM2.cell 0).1
  have g0:w2.frozen? ⟨b,0,none⟩=false:=(hM2.cell 0).2
  have FIN:=hid (hM2.store 0 (.int .i64 6) (m':={ Ref.lay m ⟨3,m.got,[],[]⟩ with state:=6 }) rfl rfl rfl)
  have HB2:=hid hb2
  clear hM2 hb2
  go_wp2
  go_ret
  exact ⟨rfl,HB2.out.setCell HB.out _,fun _=>⟨_,_,_,FIN.out⟩⟩
 | true=>
  rw [if_neg (by simp [hnm])] at hR
  rw [hnm] at c3
  have hnil:=hno hnm
  obtain ⟨o,q,go,oc,gg,cap,n,v,hq,hlast,ho,rfl,rfl,hn,hv,co,_,cnm,_,fz,hoc,lgg,hbg⟩:=h.top hs.top hnil
  have htn:Ref.Xd m=n.names:=by unfold Ref.Xd;rw [hlast,hn];rfl
  rw [htn,hlast] at hR
  have hnl:=hs.nodes
  have hql:=hs.opn
  rw [hq] at hql
  have hnames:=h.names o n v hn hv
  have hnln:=hs.names n (List.mem_of_getElem? hn)
  obtain ⟨n0,hn0⟩:∃n0,m.nodes.length=n0:=⟨_,rfl⟩
  rw [hn0] at ho hnl
  obtain ⟨ns,hns⟩:∃ns,n.names=ns:=⟨_,rfl⟩
  rw [hns] at hR hnames hnln
  obtain ⟨na,nc,hv1⟩:∃a c,v.1 = .slice a ns.length c:=by
   rcases hnames.2 with ⟨e,e0⟩|⟨g,c,cur,e,_⟩
   ·rw [e0];exact ⟨_,_,e⟩
   ·exact ⟨_,_,e⟩
  rw [hv1] at hnames cnm
  have c1:w.cell? ⟨b,1,none⟩=some (.slice (some ⟨go,0,none⟩) (q+1) oc):=(h.cell 1).1
  have o0:(0:Int)≤(o:Int):=Int.natCast_nonneg _
  have o1:(o:Int)<(n0:Int):=by omega
  obtain ⟨got,hgot⟩:∃g,m.got=g:=⟨_,rfl⟩
  rw [hgot] at c4 hR
  have facts:Hid (∀wr:World,zI wr base b m (.slice (some ⟨go,0,none⟩) (q+1) oc) (.slice (some ⟨gg,0,none⟩) m.nodes.length cap) vs →
    wr.cell? ⟨b,2,none⟩=some (.slice (some ⟨gg,0,none⟩) n0 cap)∧wr.cell? ⟨b,4,none⟩=some (.string got)∧wr.cell? ⟨gg,o*4+2,none⟩=some (.slice na ns.length nc)∧wr.frozen? ⟨gg,o*4+2,none⟩=false ∧
    (∀k (hk:k<ns.length),∃gn,na=some ⟨gn,0,none⟩∧wr.cell? ⟨gn,k,none⟩=some (.string ns[k]))∧wr.ownsRow base 9 1 (.slice na ns.length nc) ns.length (Ref.strCells ns)):=by
   intro wr hr
   have hgets:=vN m.nodes vs hr.len o n v hn hv
   have hnm2:=hr.names o n v hn hv
   rw [hns,hv1] at hnm2
   refine ⟨by rw [← hn0];exact (hr.cell 2).1,by rw [← hgot];exact (hr.cell 4).1,?_,hr.ownN.frozenAt _,?_,hnm2⟩
   ·rw [← hv1];exact (hr.ownN.cellAt _ (by rw [hn0];omega)).trans hgets.2.2.1
   ·intro k hk
    obtain ⟨gn,c,e⟩:∃gn c,(Value.slice na ns.length nc) = .slice (some ⟨gn,0,none⟩) ns.length c:=by
     rcases hnm2.2 with ⟨_,e0⟩|⟨g,c,cur,e,_⟩
     ·omega
     ·exact ⟨g,c,e⟩
    simp only [Value.slice.injEq,true_and] at e
    obtain ⟨rfl,rfl⟩:=e
    exact ⟨gn,rfl,(hnm2.cellAt k (by omega)).trans (Ref.xC ns k hk)⟩
  have HM:=hid h
  have HR:=hid hR
  have HN:=hid hn
  have HV:=hid hv
  have HNS:=hid hns
  have HV1:=hid hv1
  have HN0:=hid hn0
  have HG:=hid hgot
  have HLAST:=hid hlast
  clear h hs hno hnm hnil hR htn hn hv hns hv1 hn0 hgot hlast hnames cnm fz hq
  go_enter Tryz.func202,Tryz.ntmps202
  go_wp2_with fail
  go_region
  go_wp2_with fail
  go_loopw [4] (fun iv wr=>∃k:Nat,k≤ns.length∧iv = .int .i64 k∧zI wr base b m (.slice (some ⟨go,0,none⟩) (q+1) oc) (.slice (some ⟨gg,0,none⟩) m.nodes.length cap) vs∧Below base w wr∧∀j (hj:j<ns.length),j<k→(ns[j].toList==got.toList)=false) (fun iv _=>ns.length-(intOf iv).toNat)
  case atStart=>exact ⟨0,by omega,rfl,HM.out.drew,(Below.refl _ _).drew,fun j _ h=>by omega⟩
  case round=>
   obtain ⟨k,hk,rfl,rM,rB,rno⟩:=hrel
   obtain ⟨x2,x4,xn,xf,xk,xo⟩:=facts.out wr rM
   have RM:=hid rM
   have RB:=hid rB
   have RNO:=hid rno
   have XK:=hid xk
   clear rM rB rno xk HM c1 c3 c4 co
   by_cases hlt:k<ns.length
   ·obtain ⟨gn,rfl,ck⟩:=XK.out k hlt
    obtain ⟨s,hs⟩:∃s,ns[k]=s:=⟨_,rfl⟩
    rw [hs] at ck
    cases heq:(s.toList==got.toList) with
    | true=>
     have hr:=HR.out
     rw [if_pos (by rw [List.any_eq_true];exact ⟨ns[k],List.getElem_mem hlt,by rw [hs];exact heq⟩)] at hr
     subst hr
     clear HR hs facts
     go_wp2_with fail
     go_region
     all_goals
      go_wp2
      go_ret
      exact ⟨rfl,RB.out.drew,by simp⟩
    | false=>
     have RNO2:Hid (∀j (hj:j<ns.length),j<k+1→(ns[j].toList==got.toList)=false):=by
      intro j hj hjk
      by_cases e:j=k
      ·subst e;rw [hs];exact heq
      ·exact RNO.out j hj (by omega)
     clear HR hs facts RNO
     go_wp2_with fail
     go_region
     all_goals
      go_wp2
      go_roundw
      case rel=>exact ⟨k+1,by omega,by go_num,RM.out.drew,RB.out.drew,RNO2.out⟩
      case measure=>simp [intOf];omega
   ·have hr:=HR.out
    rw [if_neg (by
     rw [List.any_eq_true]
     rintro ⟨s,hs,he⟩
     obtain ⟨j,hj,rfl⟩:=List.getElem_of_mem hs
     rw [RNO.out j hj (by omega)] at he
     cases he)] at hr
    subst hr
    clear HR facts RNO XK
    obtain ⟨j0,hj0,jz0,jz1,jz2⟩:=info_parts Tryz.infoStr
    have lgr:gg<wr.heap.size:=(RM.out.ownN.lt gg rfl).2
    have lbr:b<wr.heap.size:=lt_of_block RM.out.blk
    have hbr:base≤wr.heap.size:=Nat.le_trans HB.out (Nat.le_of_lt lbr)
    have kg:(Value.slice na ns.length nc).ownBlock≠some gg:=fun e=>x8 xo RM.out.ownN (by decide) e rfl
    have kb:(Value.slice na ns.length nc).ownBlock≠some b:=zD xo RM.out.blk (by decide)
    obtain ⟨nl,hnl2⟩:∃nl,ns.length=nl:=⟨_,rfl⟩
    obtain ⟨ks,hks⟩:∃ks,Ref.strCells ns=ks:=⟨_,rfl⟩
    have XO:=hid xo
    rw [hnl2,hks] at xo
    rw [hnl2] at xn kg kb hnln
    have FIN:Hid (∀(O:Obj) (g2 cap2:Nat) (w2:World),w2.ownsRow base 9 1 (.slice (some ⟨g2,0,none⟩) (nl+1) cap2) (nl+1) (ks++[.string got])→(wr.alloc O).drew.grownBy w2 (Value.slice na nl nc).ownBlock →
      ((Value.slice na nl nc).ownBlock=some g2∨g2=wr.heap.size+1)→Below base w ((w2.setCell ⟨gg,o*4+2,none⟩ (.slice (some ⟨g2,0,none⟩) (nl+1) cap2)).setCell ⟨b,0,none⟩ (.int .i64 5)) ∧
      (∃ov' nv' vs',zI ((w2.setCell ⟨gg,o*4+2,none⟩ (.slice (some ⟨g2,0,none⟩) (nl+1) cap2)).setCell ⟨b,0,none⟩ (.int .i64 5)) base b { m with nodes:=Ref.qQ o got m.nodes,state:=5 } ov' nv' vs') ∧
      (w2.setCell ⟨gg,o*4+2,none⟩ (.slice (some ⟨g2,0,none⟩) (nl+1) cap2)).cell? ⟨b,0,none⟩=some (.int .i64 m.state)∧(w2.setCell ⟨gg,o*4+2,none⟩ (.slice (some ⟨g2,0,none⟩) (nl+1) cap2)).frozen? ⟨b,0,none⟩=false):=by
     intro O g2 cap2 w2 hown2 hgrow2 hat2
     have bX:Below wr.heap.size wr (wr.alloc O).drew:=((Below.refl _ wr).alloc (Nat.le_refl _) O).drew
     have hX:=RM.out.below bX
     have hr:=zI.qQ hX o _ _ HN.out HV.out (w1:=w2) (kv := .slice (some ⟨g2,0,none⟩) (nl+1) cap2) (by rw [HV1.out,hnl2];exact hgrow2) got (by rw [HNS.out,hnl2,hks];exact hown2)
      (by rw [HV1.out,hnl2];rcases hat2 with e|e
          ·exact .inl e.symm
          ·right;simp [Value.ownBlock,e]) gg m.nodes.length cap rfl
     have hr2:=hr.store 0 (.int .i64 5) (m':={ m with nodes:=Ref.qQ o got m.nodes,state:=5 }) rfl rfl rfl
     exact ⟨(((RB.out.trans (bX.mono hbr)).grown hgrow2 (by have:=bX.size;omega) (fun k hk'=>(xo.lt k hk').1)).setCell (RM.out.ownN.lt gg rfl).1 _).setCell HB.out _,⟨_,_,_,hr2⟩,(hr.cell 0).1,(hr.cell 0).2⟩
    have x2':=fun O:Obj=>cell_later ((Below.refl _ wr).alloc (Nat.le_refl _) O) x2
    have xn':=fun O:Obj=>cell_later ((Below.refl _ wr).alloc (Nat.le_refl _) O) xn
    have xf':=fun O:Obj=>(((Below.refl _ wr).alloc (Nat.le_refl _) O).frozen (p:=⟨gg,o*4+2,none⟩) lgr).trans xf
    have hnlk:¬k<nl:=by omega
    go_wp2_with fail
    go_cut [] (fun wc=>Below base w (wc.setCell ⟨b,0,none⟩ (.int .i64 5))∧(∃ov' nv' vs',zI (wc.setCell ⟨b,0,none⟩ (.int .i64 5)) base b { m with nodes:=Ref.qQ o got m.nodes,state:=5 } ov' nv' vs')∧wc.cell? ⟨b,0,none⟩=some (.int .i64 m.state)∧wc.frozen? ⟨b,0,none⟩=false)
    case first=>
     go_region_law ((refine step_append_lies _ (by rfl) _ _ _ (by rfl) base 9 j0 _ 1 16 Tryz.underlying42 hj0 jz0 jz1 jz2 rfl (by omega) (.slice na nl nc) nl ks (by rfl) ((xo.alloc _).drew) ⟨wr.heap.size,0,none⟩ 1 1 [.string got] (by rfl) (by rfl) (World.news_of_block (cs:=#[.string got]) (t:=9) (fr:=(0,0)) (heap_alloc_new wr _)) (by simp [Value.oneCell']) (by omega) (by unfold maxLen;omega) (by omega) (by simp;omega) (wr.heap.size+1) (by simp) ?_;intro g2 cap2 w2 hown2 hgrow2 hat2 hlt2;have kkN:w2.cell? ⟨b,2,none⟩=some (.slice (some ⟨gg,0,none⟩) n0 cap):=(hgrow2.cell_far _ (by simp;omega) (Ne.symm kb)).trans (by simp [x2']);have kk2:w2.cell? ⟨gg,o*4+2,none⟩=some (.slice na nl nc):=(hgrow2.cell_far _ (by simp;omega) (Ne.symm kg)).trans (by simp [xn']);have ff2:w2.frozen? ⟨gg,o*4+2,none⟩=false:=(hgrow2.frozen_far _ (by simp;omega) (Ne.symm kg)).trans (by simp [xf'])))
     all_goals
      go_wp2_with fail
      go_meet
      case rel=>exact FIN.out _ _ _ _ hown2 hgrow2 hat2
    case rest=>
     obtain ⟨r1,r2,r3,r4⟩:=hcut
     have R1:=hid r1
     have R2:=hid r2
     clear r1 r2 x2' xn' xf' x2 x4 xn xf xo FIN
     go_wp2
     go_ret
     exact ⟨rfl,R1.out,fun _=>by have hx:=R2.out;rw [HG.out] at hx;exact hx⟩
end Go.Proofs.YtdakgnaojakldaaGreatDoor
