/- P -/
import Derived.Test.YtdakgnaojakldaaGreatDoorP34
import Derived.Deep.RegionHeld3
import Derived.Deep.RegionLaw
import Derived.Deep.AppendLies
import Derived.Deep.DrawnRows
import Derived.Deep.DeepCutAuto
set_option maxRecDepth 100000
set_option maxHeartbeats 3200000
namespace Go.Proofs.YtdakgnaojakldaaGreatDoor
open Go.RowKit
attribute [local go_sem ↓] Go.wp_at_zero Go.wp_at_succ
theorem Tryz.infoNode:(Tryz.prog.info? 152).map (fun i=>(i.zero,i.size,i.bytes))=some (some (.agg #[.int .i64 0, .string ⟨#[]⟩, .slice none 0 0, .slice none 0 0]),4,72):=by kernel_rfl
theorem Tryz.infoInt:(Tryz.prog.info? 3).map (fun i=>(i.zero,i.size,i.bytes))=some (some (.int .i64 0),1,8):=by kernel_rfl
theorem zkW (m:Ref.zC) (kind:Int) (text:ByteArray) (base b:Nat) (ov nv:Value) (vs:List (Value×Value)) (w:World) (h:zI w base b m ov nv vs) (hbase:base≤w.heap.size)
  (hnl:m.nodes.length≤100000) (hkl:∀n ∈ m.nodes,n.kids.length≤100000) (hop:∀o ∈ m.opn,o<m.nodes.length) (hol:m.opn.length≤100000) :
  Calls Tryz.prog 206 #[.pointer (some ⟨b,0,none⟩), .agg #[.int .i64 kind, .string text, .slice none 0 0, .slice none 0 0]] w fun e w'=>
   e = .returned (.int .i64 (m.nodes.length:Nat))∧Below base w w'∧∃nv' vs',zI w' base b (Ref.lay m ⟨kind,text,[],[]⟩) ov nv' vs':=by
 obtain ⟨i0,hi0,hz0,hz1,hz2⟩:=info_parts Tryz.infoNode
 have HM:=hid h
 have lb:b<w.heap.size:=lt_of_block h.blk
 have c2:w.cell? ⟨b,2,none⟩=some nv:=(h.cell 2).1
 have f2:w.frozen? ⟨b,2,none⟩=false:=(h.cell 2).2
 have ownN:=h.ownN
 have nb:nv.ownBlock≠some b:=zD h.ownN h.blk (by decide)
 have nbx:nv.ownBlock≠some w.heap.size:=fun e=>by have:=(h.ownN.lt _ e).2;omega
 obtain ⟨n0,hn0⟩:∃n,m.nodes.length=n:=⟨_,rfl⟩
 obtain ⟨xs,hxs⟩:∃xs,qp m.nodes vs=xs:=⟨_,rfl⟩
 rw [hn0,hxs] at ownN
 rw [hn0] at hnl
 have HN0:=hid hn0
 have HXS:=hid hxs
 have HKL:=hid hkl
 have HOP:=hid hop
 rw [hn0]
 clear h hn0 hxs hkl hop
 obtain ⟨lenv,hlv⟩:∃a c,nv = .slice a n0 c:=by
  rcases ownN.2 with ⟨rfl,rfl⟩|⟨g,c,cur,rfl,_⟩
  ·exact ⟨_,_,rfl⟩
  ·exact ⟨_,_,rfl⟩
 obtain ⟨cc,rfl⟩:=hlv
 have c2':=fun O:Obj=>cell_later ((Below.refl _ w).alloc (Nat.le_refl _) O) c2
 have f2':=fun O:Obj=>(((Below.refl _ w).alloc (Nat.le_refl _) O).frozen (p:=⟨b,2,none⟩) lb).trans f2
 have c2'':=fun O O':Obj=>cell_later (((Below.refl _ w).alloc (Nat.le_refl _) O).alloc (by simp) O') c2
 have f2'':=fun O O':Obj=>((((Below.refl _ w).alloc (Nat.le_refl _) O).alloc (by simp) O').frozen (p:=⟨b,2,none⟩) lb).trans f2
 go_enter Tryz.func206,Tryz.ntmps206
 go_wp2_with fail
 go_cut [] (fun wc=>∃gg cap,zI wc base b { m with nodes:=m.nodes++[⟨kind,text,[],[]⟩] } ov (.slice (some ⟨gg,0,none⟩) (n0+1) cap) (vs++[(.slice none 0 0, .slice none 0 0)])∧Below base w wc)
 case first=>
  go_region_law ((refine step_append_lies _ (by rfl) _ _ _ (by rfl) base 152 i0 _ 4 72 Tryz.underlying153 hi0 hz0 hz1 hz2 rfl (by omega) (.slice lenv n0 cc) n0 xs (by rfl) (((ownN.alloc _).alloc _).drew) ⟨w.heap.size+1,0,none⟩ 1 1 [.int .i64 kind, .string text, .slice none 0 0, .slice none 0 0] (by rfl) (by rfl) (World.news_of_block (cs:=#[.int .i64 kind, .string text, .slice none 0 0, .slice none 0 0]) (t:=152) (fr:=(0,0)) (qI w _ _).2) (by simp [Value.oneCell']) (by omega) (by unfold maxLen;omega) (by omega) (by simp;omega) (w.heap.size+2) (by simp) ?_;intro gg cap w1 hown1 hgrow hat hlt;have kk2:w1.cell? ⟨b,2,none⟩=some (.slice lenv n0 cc):=(hgrow.cell_far _ (by simp;omega) (Ne.symm nb)).trans (by simp [c2'']);have ff2:w1.frozen? ⟨b,2,none⟩=false:=(hgrow.frozen_far _ (by simp;omega) (Ne.symm nb)).trans (by simp [f2''])))
  all_goals
   go_wp2_with fail
   go_meet
   case rel=>
    have bX:=fun O O':Obj=>((((Below.refl _ w).alloc (Nat.le_refl _) O).alloc (by simp) O').drew)
    have hh:=zI.addNode (HM.out.below (bX _ _)) hgrow ⟨kind,text,[],[]⟩ rfl rfl (by rw [HN0.out,HXS.out];exact hown1)
    refine ⟨gg,cap,hh,?_⟩
    exact (((bX _ _).mono hbase).grown hgrow (by have:=(bX (Obj.cells #[] 0) (Obj.cells #[] 0)).size;simp at this ⊢;omega) (fun k hk=>(ownN.lt k hk).1)).setCell HM.out.hb _
 case rest=>
  obtain ⟨gg,cap,hM1,hB1⟩:=hcut
  clear c2 f2 c2' f2' c2'' f2'' nb nbx ownN
  have ownO:=hM1.ownO
  simp only at ownO
  have HM1:=hid hM1
  have HB1:=hid hB1
  cases hopn:m.opn with
  | nil=>
   rw [hopn] at ownO
   obtain ⟨ao,oc,rfl⟩:∃a c,ov = .slice a 0 c:=by
    rcases ownO.2 with ⟨rfl,_⟩|⟨g,c,cur,rfl,_⟩
    ·exact ⟨_,_,rfl⟩
    ·exact ⟨_,_,rfl⟩
   have c1:wc.cell? ⟨b,1,none⟩=some (.slice ao 0 oc):=(hM1.cell 1).1
   have c10:wc.cell? ⟨b,10,none⟩=some (.int .i64 m.root):=(hM1.cell 10).1
   have f10:wc.frozen? ⟨b,10,none⟩=false:=(hM1.cell 10).2
   have fin:=hM1.store 10 (.int .i64 n0) (m':=Ref.lay m ⟨kind,text,[],[]⟩) (by simp [Ref.lay,hopn,jf,← HN0.out]) (by simp [Ref.lay,hopn]) (by simp [Ref.lay,hopn])
   have FIN:=hid fin
   clear fin hM1 hB1 ownO hopn
   go_wp2
   go_ret
   exact ⟨rfl,HB1.out.setCell HM1.out.hb _,_,_,FIN.out⟩
  | cons o0 l0=>
   obtain ⟨l,o,hlo⟩:∃l o,m.opn=l++[o]:=by
    rcases List.eq_nil_or_concat m.opn with h|⟨l,o,h⟩
    ·rw [h] at hopn;cases hopn
    ·exact ⟨l,o,by rw [h,List.concat_eq_append]⟩
   clear hopn
   have ho:o<m.nodes.length:=HOP.out o (by rw [hlo];simp)
   have hlast:m.opn.getLastD 0=o:=by rw [hlo];simp
   rw [hlo] at ownO hol
   simp only [List.length_append,List.length_singleton] at ownO hol
   obtain ⟨q,hq⟩:∃q,l.length=q:=⟨_,rfl⟩
   rw [hq] at ownO hol
   obtain ⟨go,oc,rfl⟩:∃g c,ov = .slice (some ⟨g,0,none⟩) (q+1) c:=by
    rcases ownO.2 with ⟨_,h⟩|⟨g,c,cur,rfl,_⟩
    ·omega
    ·exact ⟨_,_,rfl⟩
   have c1:wc.cell? ⟨b,1,none⟩=some (.slice (some ⟨go,0,none⟩) (q+1) oc):=(hM1.cell 1).1
   have cN:wc.cell? ⟨b,2,none⟩=some (.slice (some ⟨gg,0,none⟩) (n0+1) cap):=(hM1.cell 2).1
   have co:wc.cell? ⟨go,q,none⟩=some (.int .i64 (o:Int)):=by
    rw [ownO.cellAt q (by omega)]
    unfold qf
    rw [List.getElem?_map,List.getElem?_append_right (by omega),hq]
    simp
   have hno:(m.nodes++[(⟨kind,text,[],[]⟩:Ref.Node)])[o]?=some m.nodes[o]:=by rw [List.getElem?_append_left ho,List.getElem?_eq_getElem ho]
   have hvl:o<vs.length:=by rw [HM.out.len];exact ho
   have hvo:(vs++[(Value.slice none 0 0,Value.slice none 0 0)])[o]?=some vs[o]:=by rw [List.getElem?_append_left hvl,List.getElem?_eq_getElem hvl]
   have hlen2:(vs++[(Value.slice none 0 0,Value.slice none 0 0)]).length=(m.nodes++[(⟨kind,text,[],[]⟩:Ref.Node)]).length:=by simp [HM.out.len]
   have hgets:=vN _ _ hlen2 o _ _ hno hvo
   have hownN1:=hM1.ownN
   simp only [List.length_append,List.length_singleton,HN0.out] at hownN1
   have ck:=(hownN1.cellAt (o*4+3) (by have:=HN0.out;omega)).trans hgets.2.2.2
   have fk:wc.frozen? ⟨gg,o*4+3,none⟩=false:=hownN1.frozenAt _
   have hkids:=hM1.kids o _ _ hno hvo
   have hkl:=HKL.out m.nodes[o] (List.getElem_mem ho)
   obtain ⟨kv,hkv⟩:∃kv,vs[o].2=kv:=⟨_,rfl⟩
   obtain ⟨nk,hnk⟩:∃nk,m.nodes[o].kids.length=nk:=⟨_,rfl⟩
   obtain ⟨ks,hks⟩:∃ks,qf m.nodes[o].kids=ks:=⟨_,rfl⟩
   rw [hkv,hnk,hks] at hkids
   rw [hkv] at ck
   rw [hnk] at hkl
   have hon:o<n0+1:=by have:=HN0.out;omega
   have kg:kv.ownBlock≠some gg:=fun e=>x8 hkids hownN1 (by decide) e rfl
   have kb:kv.ownBlock≠some b:=zD hkids hM1.blk (by decide)
   obtain ⟨ka,kc,rfl⟩:∃a c,kv = .slice a nk c:=by
    rcases hkids.2 with ⟨rfl,rfl⟩|⟨g,c,cur,rfl,_⟩
    ·exact ⟨_,_,rfl⟩
    ·exact ⟨_,_,rfl⟩
   have lgg:gg<wc.heap.size:=(hownN1.lt gg rfl).2
   have lbc:b<wc.heap.size:=lt_of_block hM1.blk
   have hbc:base≤wc.heap.size:=Nat.le_trans hM1.hb (Nat.le_of_lt lbc)
   obtain ⟨j0,hj0,jz0,jz1,jz2⟩:=info_parts Tryz.infoInt
   have HNO:=hid hno
   have HVO:=hid hvo
   have HKV:=hid hkv
   have HNK:=hid hnk
   have HKS:=hid hks
   have HLO:=hid hlo
   have HLAST:=hid hlast
   have HO:=hid ho
   clear hM1 hB1 ownO hlo hgets hno hvo hkv hnk hks hlast hlen2 hownN1 hz0 hi0 hz1 hz2
   have o0:(0:Int)≤(o:Int):=Int.natCast_nonneg _
   have o1:(o:Int)<(n0:Int)+1:=by omega
   have FIN:Hid (∀(O:Obj) (g2 cap2:Nat) (w2:World),w2.ownsRow base 3 1 (.slice (some ⟨g2,0,none⟩) (nk+1) cap2) (nk+1) (ks++[.int .i64 (n0:Int)])→(wc.alloc O).drew.drew.grownBy w2 (Value.slice ka nk kc).ownBlock →
     ((Value.slice ka nk kc).ownBlock=some g2∨g2=wc.heap.size+1)→Below base w (w2.setCell ⟨gg,o*4+3,none⟩ (.slice (some ⟨g2,0,none⟩) (nk+1) cap2)) ∧
     ∃nv' vs',zI (w2.setCell ⟨gg,o*4+3,none⟩ (.slice (some ⟨g2,0,none⟩) (nk+1) cap2)) base b (Ref.lay m ⟨kind,text,[],[]⟩) (.slice (some ⟨go,0,none⟩) (q+1) oc) nv' vs'):=by
    intro O g2 cap2 w2 hown2 hgrow2 hat2
    have bX:Below wc.heap.size wc (wc.alloc O).drew.drew:=((Below.refl _ wc).alloc (Nat.le_refl _) O).drew.drew
    have hX:=HM1.out.below bX
    have hr:=zI.xN hX o _ _ HNO.out HVO.out (w1:=w2) (kv := .slice (some ⟨g2,0,none⟩) (nk+1) cap2) (by rw [HKV.out];exact hgrow2) n0 (by rw [HNK.out,HKS.out];exact hown2)
     (by rw [HKV.out];rcases hat2 with e|e
         ·exact .inl e.symm
         ·right;simp [Value.ownBlock,e]) gg (n0+1) cap rfl
    refine ⟨((HB1.out.trans (bX.mono (by omega))).grown hgrow2 (by have:=bX.size;omega) (fun k hk'=>(hkids.lt k hk').1)).setCell (HM1.out.ownN.lt gg rfl).1 _,?_⟩
    have e:Ref.lay m ⟨kind,text,[],[]⟩={ m with nodes:=Ref.xN o n0 (m.nodes++[⟨kind,text,[],[]⟩]) }:=by
     unfold Ref.lay
     rw [if_neg (by rw [HLO.out];simp),HLAST.out,HN0.out]
    rw [e]
    exact ⟨_,_,hr⟩
   go_wp2_with fail
   go_region
   have cN':=fun O:Obj=>cell_later ((Below.refl _ wc).alloc (Nat.le_refl _) O) cN
   have ck':=fun O:Obj=>cell_later ((Below.refl _ wc).alloc (Nat.le_refl _) O) ck
   have fk':=fun O:Obj=>(((Below.refl _ wc).alloc (Nat.le_refl _) O).frozen (p:=⟨gg,o*4+3,none⟩) lgg).trans fk
   go_wp2_with fail
   go_region_law ((refine step_append_lies _ (by rfl) _ _ _ (by rfl) base 3 j0 _ 1 8 Tryz.underlying30 hj0 jz0 jz1 jz2 rfl (by omega) (.slice ka nk kc) nk ks (by rfl) ((hkids.alloc _).drew.drew) ⟨wc.heap.size,0,none⟩ 1 1 [.int .i64 (n0:Int)] (by rfl) (by rfl) (World.news_of_block (cs:=#[.int .i64 (n0:Int)]) (t:=3) (fr:=(0,0)) (heap_alloc_new wc _)) (by simp [Value.oneCell']) (by omega) (by unfold maxLen;omega) (by omega) (by simp;omega) (wc.heap.size+1) (by simp) ?_;intro g2 cap2 w2 hown2 hgrow2 hat2 hlt2;have kkN:w2.cell? ⟨b,2,none⟩=some (.slice (some ⟨gg,0,none⟩) (n0+1) cap):=(hgrow2.cell_far _ (by simp;omega) (Ne.symm kb)).trans (by simp [cN']);have kk2:w2.cell? ⟨gg,o*4+3,none⟩=some (.slice ka nk kc):=(hgrow2.cell_far _ (by simp;omega) (Ne.symm kg)).trans (by simp [ck']);have ff2:w2.frozen? ⟨gg,o*4+3,none⟩=false:=(hgrow2.frozen_far _ (by simp;omega) (Ne.symm kg)).trans (by simp [fk'])))
   all_goals
    go_wp2
    go_ret
    exact ⟨rfl,FIN.out _ _ _ _ hown2 hgrow2 hat2⟩
attribute [local go_sem ↓] Go.wp_at_zero Go.wp_at_succ
def Stepped (base b:Nat) (r:Int×Ref.zC) (w:World) (e:Ending) (w':World):Prop:=
 e = .returned (.int .i64 r.1)∧Below base w w'∧(r.1=0→∃ov nv vs,zI w' base b r.2 ov nv vs)
structure Small (m:Ref.zC):Prop where
 nodes:m.nodes.length≤100000
 opn:m.opn.length≤100000
 kids:∀n ∈ m.nodes,n.kids.length≤100000
 names:∀n ∈ m.nodes,n.names.length≤100000
 got:m.got.size≤1000000
 top:∀o ∈ m.opn,o<m.nodes.length
theorem zI.drew {w:World} {base b:Nat} {m:Ref.zC} {ov nv:Value} {vs:List (Value×Value)} (h:zI w base b m ov nv vs):zI w.drew base b m ov nv vs:=h.below (Below.refl _ _).drew
theorem zI.top {w:World} {base b:Nat} {m:Ref.zC} {ov nv:Value} {vs:List (Value×Value)} (h:zI w base b m ov nv vs) (hop:∀o ∈ m.opn,o<m.nodes.length) (hne:m.opn≠[]) :
  ∃(o q go oc gg cap:Nat) (n:Ref.Node) (v:Value×Value),m.opn.length=q+1∧m.opn.getLastD 0=o∧o<m.nodes.length∧ov = .slice (some ⟨go,0,none⟩) (q+1) oc∧nv = .slice (some ⟨gg,0,none⟩) m.nodes.length cap ∧
   m.nodes[o]?=some n∧vs[o]?=some v∧w.cell? ⟨go,q,none⟩=some (.int .i64 (o:Int))∧w.cell? ⟨gg,o*4,none⟩=some (.int .i64 n.kind)∧w.cell? ⟨gg,o*4+2,none⟩=some v.1∧w.cell? ⟨gg,o*4+3,none⟩=some v.2 ∧
   (∀k,w.frozen? ⟨gg,k,none⟩=false)∧q+1≤oc∧gg<w.heap.size∧base≤gg:=by
 obtain ⟨l,o,hlo⟩:∃l o,m.opn=l++[o]:=by
  rcases List.eq_nil_or_concat m.opn with h|⟨l,o,h⟩
  ·exact absurd h hne
  ·exact ⟨l,o,by rw [h,List.concat_eq_append]⟩
 have ho:o<m.nodes.length:=hop o (by rw [hlo];simp)
 have ownO:=h.ownO
 have hlen:m.opn.length=l.length+1:=by rw [hlo];simp
 rw [hlen] at ownO
 obtain ⟨go,oc,rfl,hoc⟩:∃g c,ov = .slice (some ⟨g,0,none⟩) (l.length+1) c∧l.length+1≤c:=by
  rcases ownO.2 with ⟨_,h⟩|⟨g,c,cur,rfl,_,_,h,_⟩
  ·omega
  ·exact ⟨_,_,rfl,h⟩
 obtain ⟨gg,cap,rfl⟩:∃g c,nv = .slice (some ⟨g,0,none⟩) m.nodes.length c:=by
  rcases h.ownN.2 with ⟨_,h⟩|⟨g,c,cur,rfl,_⟩
  ·omega
  ·exact ⟨_,_,rfl⟩
 have hvl:o<vs.length:=by rw [h.len];exact ho
 have hgets:=vN m.nodes vs h.len o m.nodes[o] vs[o] (List.getElem?_eq_getElem ho) (List.getElem?_eq_getElem hvl)
 have hl:=h.ownN.lt gg rfl
 refine ⟨o,l.length,go,oc,gg,cap,m.nodes[o],vs[o],hlen,by rw [hlo];simp,ho,rfl,rfl,List.getElem?_eq_getElem ho,List.getElem?_eq_getElem hvl,?_,(h.ownN.cellAt _ (by omega)).trans hgets.1,(h.ownN.cellAt _ (by omega)).trans hgets.2.2.1,(h.ownN.cellAt _ (by omega)).trans hgets.2.2.2,fun k=>h.ownN.frozenAt k,hoc,hl.2,hl.1⟩
 rw [ownO.cellAt l.length (by omega),hlo]
 unfold qf
 rw [List.getElem?_map,List.getElem?_append_right (by omega)]
 simp
theorem zid (m:Ref.zC) (x:Int) (base b:Nat) (ov nv:Value) (vs:List (Value×Value)) (w:World) (h:zI w base b m ov nv vs) (hs:Small m) :
  Calls Tryz.prog 163 #[.pointer (some ⟨b,0,none⟩), .int .u8 x] w (Stepped base b (Ref.QM m x) w):=by
 obtain ⟨R,hR⟩:∃R,Ref.QM m x=R:=⟨_,rfl⟩
 rw [hR]
 unfold Ref.QM at hR
 by_cases hnil:m.opn=[]
 ·rw [if_pos hnil] at hR
  subst hR
  have ownO:=h.ownO
  rw [hnil] at ownO
  obtain ⟨ao,oc,rfl⟩:∃a c,ov = .slice a 0 c:=by
   rcases ownO.2 with ⟨rfl,_⟩|⟨g,c,cur,rfl,_⟩
   ·exact ⟨_,_,rfl⟩
   ·exact ⟨_,_,rfl⟩
  have c1:w.cell? ⟨b,1,none⟩=some (.slice ao 0 oc):=(h.cell 1).1
  clear ownO h hs hnil
  go_enter Tryz.func163,Tryz.ntmps163
  go_wp2
  go_ret
  exact ⟨rfl,Below.refl _ _,by simp⟩
 ·rw [if_neg hnil] at hR
  obtain ⟨o,q,go,oc,gg,cap,n,v,hq,hlast,ho,rfl,rfl,hn,hv,co,ck,_,_,fz,hoc,lgg,hbg⟩:=h.top hs.top hnil
  have hnl:=hs.nodes
  have htk:Ref.yD m=n.kind:=by unfold Ref.yD;rw [hlast,hn];rfl
  rw [htk] at hR
  have hql:=hs.opn
  rw [hq] at hql
  obtain ⟨n0,hn0⟩:∃n0,m.nodes.length=n0:=⟨_,rfl⟩
  rw [hn0] at ho hnl
  obtain ⟨kd,hkd⟩:∃kd,n.kind=kd:=⟨_,rfl⟩
  rw [hkd] at hR ck
  have c1:w.cell? ⟨b,1,none⟩=some (.slice (some ⟨go,0,none⟩) (q+1) oc):=(h.cell 1).1
  have cN:w.cell? ⟨b,2,none⟩=some (.slice (some ⟨gg,0,none⟩) n0 cap):=by rw [← hn0];exact (h.cell 2).1
  have f1:w.frozen? ⟨b,1,none⟩=false:=(h.cell 1).2
  have c0:w.cell? ⟨b,0,none⟩=some (.int .i64 m.state):=(h.cell 0).1
  have f0:w.frozen? ⟨b,0,none⟩=false:=(h.cell 0).2
  have o0:(0:Int)≤(o:Int):=Int.natCast_nonneg _
  have o1:(o:Int)<(n0:Int):=by omega
  have FIN:Hid (zI ((w.setCell ⟨b,1,none⟩ (.slice (some ⟨go,0,none⟩) q oc)).setCell ⟨b,0,none⟩ (.int .i64 6)) base b { m with opn:=m.opn.dropLast,state:=6 } (.slice (some ⟨go,0,none⟩) q oc) (.slice (some ⟨gg,0,none⟩) m.nodes.length cap) vs):=by
   have h2:zI w base b m (.slice (some ⟨go,0,none⟩) m.opn.length oc) (.slice (some ⟨gg,0,none⟩) m.nodes.length cap) vs:=by rw [hq];exact h
   have:=h2.pop 6
   rw [hq,Nat.add_sub_cancel] at this
   exact this
  have HB:=hid h.hb
  have HR:=hid hR
  clear h hs hnil hlast hn hv htk hkd hn0 hR hq
  cases hk:(kd==1) with
  | true=>
   cases hx:(x==125) with
   | true=>
    have hr:=HR.out
    rw [hk,hx] at hr
    rw [if_neg (by decide)] at hr
    subst hr
    clear HR
    go_enter Tryz.func163,Tryz.ntmps163
    go_wp2_with fail
    go_region
    go_wp2_with fail
    go_region
    all_goals
     go_wp2
     go_ret
     exact ⟨rfl,((((Below.refl _ w).setCell HB.out _).setCell HB.out _).drew).drew,fun _=>⟨_,_,_,FIN.out.drew.drew⟩⟩
   | false=>
    have hr:=HR.out
    rw [hk,hx] at hr
    rw [if_pos (by decide)] at hr
    subst hr
    clear HR FIN
    go_enter Tryz.func163,Tryz.ntmps163
    go_wp2_with fail
    go_region
    all_goals
     go_wp2
     go_ret
     exact ⟨rfl,(Below.refl _ w).drew,by simp⟩
  | false=>
   cases hx:(x==125) with
   | true=>
    have hr:=HR.out
    rw [hk,hx] at hr
    rw [if_pos (by decide)] at hr
    subst hr
    clear HR FIN
    go_enter Tryz.func163,Tryz.ntmps163
    go_wp2_with fail
    go_region
    all_goals
     go_wp2
     go_ret
     exact ⟨rfl,(Below.refl _ w).drew,by simp⟩
   | false=>
    have hr:=HR.out
    rw [hk,hx] at hr
    rw [if_neg (by decide)] at hr
    subst hr
    clear HR
    go_enter Tryz.func163,Tryz.ntmps163
    go_wp2_with fail
    go_region
    go_wp2_with fail
    go_region
    all_goals
     go_wp2
     go_ret
     exact ⟨rfl,((((Below.refl _ w).setCell HB.out _).setCell HB.out _).drew).drew,fun _=>⟨_,_,_,FIN.out.drew.drew⟩⟩
attribute [local go_sem ↓] Go.wp_at_zero Go.wp_at_succ
theorem zgW (m:Ref.zC) (x:Int) (base b:Nat) (ov nv:Value) (vs:List (Value×Value)) (w:World) (h:zI w base b m ov nv vs) (hs:Small m) :
  Calls Tryz.prog 162 #[.pointer (some ⟨b,0,none⟩), .int .u8 x] w (Stepped base b (Ref.after m x) w):=by
 obtain ⟨R,hR⟩:∃R,Ref.after m x=R:=⟨_,rfl⟩
 rw [hR]
 unfold Ref.after at hR
 have c0:w.cell? ⟨b,0,none⟩=some (.int .i64 m.state):=(h.cell 0).1
 have f0:w.frozen? ⟨b,0,none⟩=false:=(h.cell 0).2
 have c1:w.cell? ⟨b,1,none⟩=some ov:=(h.cell 1).1
 obtain ⟨st,hst⟩:∃st,m.state=st:=⟨_,rfl⟩
 rw [hst] at c0 hR
 have HB:=hid h.hb
 by_cases h5:st=5
 ·have h5b:(st==5)=true:=by simp [h5]
  by_cases hx:x=58
  ·rw [if_pos ⟨h5,hx⟩] at hR
   subst hR
   have hxb:(x==58)=true:=by simp [hx]
   have FIN:=hid (h.store 0 (.int .i64 1) (m':={ m with state:=1 }) rfl rfl rfl)
   clear h hs h5 hx hst
   go_enter Tryz.func162,Tryz.ntmps162
   go_wp2
   go_ret
   exact ⟨rfl,(Below.refl _ w).setCell HB.out _,fun _=>⟨_,_,_,FIN.out⟩⟩
  ·rw [if_neg (fun e=>hx e.2),if_pos (.inl h5)] at hR
   subst hR
   have hxb:(x==58)=false:=by simp [hx]
   clear h hs h5 hx hst
   go_enter Tryz.func162,Tryz.ntmps162
   go_wp2
   go_ret
   exact ⟨rfl,Below.refl _ w,by simp⟩
 have h5b:(st==5)=false:=by simp [h5]
 rw [if_neg (fun e=>h5 e.1)] at hR
 by_cases hnil:m.opn=[]
 ·rw [if_pos (.inr hnil)] at hR
  subst hR
  have ownO:=h.ownO
  rw [hnil] at ownO
  obtain ⟨ao,oc,rfl⟩:∃a c,ov = .slice a 0 c:=by
   rcases ownO.2 with ⟨rfl,_⟩|⟨g,c,cur,rfl,_⟩
   ·exact ⟨_,_,rfl⟩
   ·exact ⟨_,_,rfl⟩
  clear h hs h5 hst hnil ownO
  go_enter Tryz.func162,Tryz.ntmps162
  go_wp2
  go_ret
  exact ⟨rfl,Below.refl _ w,by simp⟩
 rw [if_neg (fun e=>e.elim h5 hnil)] at hR
 have ht:=h.top hs.top hnil
 obtain ⟨o,q,go,oc,gg,cap,n,v,hq,hlast,ho,rfl,rfl,hn,hv,co,ck,_,_,fz,hoc,lgg,hbg⟩:=ht
 have hql:=hs.opn
 rw [hq] at hql
 by_cases hx1:x=125∨x=93
 ·rw [if_pos hx1] at hR
  subst hR
  have HM:=hid h
  have HS:=hid hs
  have hxb:(x==125)=true∨(x==125)=false∧(x==93)=true:=by
   rcases hx1 with e|e
   ·exact .inl (by simp [e])
   ·exact .inr ⟨by simp [e],by simp [e]⟩
  clear h hs h5 hst hnil hx1 hlast hn hv hq co ck fz
  rcases hxb with hxb|⟨hxb,hxc⟩
  all_goals
   go_enter Tryz.func162,Tryz.ntmps162
   go_wp2_with fail
   refine (zid m x base b _ _ _ _ HM.out HS.out).mono ?_
   rintro e w1 ⟨rfl,hb1,hm1⟩
   have HM1:=hid hm1
   clear hm1
   go_wp2
   go_ret
   exact ⟨rfl,hb1,HM1.out⟩
 rw [if_neg hx1] at hR
 have hxa:(x==125)=false:=by simp;omega
 have hxc:(x==93)=false:=by simp;omega
 by_cases hx2:x=44
 ·rw [if_neg (by simp [hx2])] at hR
  have hxd:(x != 44)=false:=by simp [hx2]
  have h1:=h.store 0 (.int .i64 1) (m':={ m with state:=1 }) rfl rfl rfl
  have htk:Ref.yD m=n.kind:=by unfold Ref.yD;rw [hlast,hn];rfl
  rw [htk] at hR
  have ht1:=h1.top hs.top hnil
  obtain ⟨o',q',go',oc',gg',cap',n',v',hq',hlast',ho',e1,e2,hn',hv',co',ck',_,_,_,_,_,_⟩:=ht1
  simp only [Value.slice.injEq,Option.some.injEq,Addr.mk.injEq,and_true] at e1 e2
  obtain ⟨rfl,hqq,rfl⟩:=e1
  obtain ⟨rfl,_,rfl⟩:=e2
  have hq2:q'=q:=by omega
  subst hq2
  have ho2:o'=o:=by rw [← hlast,← hlast']
  subst ho2
  have hn2:n'=n:=by simp only at hn';rw [hn] at hn';simpa using hn'.symm
  subst hn2
  obtain ⟨n0,hn0⟩:∃n0,m.nodes.length=n0:=⟨_,rfl⟩
  have hnl:=hs.nodes
  have d1:(w.setCell ⟨b,0,none⟩ (.int .i64 1)).cell? ⟨b,1,none⟩=some (.slice (some ⟨go,0,none⟩) (q'+1) oc):=(h1.cell 1).1
  have d2:(w.setCell ⟨b,0,none⟩ (.int .i64 1)).cell? ⟨b,2,none⟩=some (.slice (some ⟨gg,0,none⟩) n0 cap):=by rw [← hn0];exact (h1.cell 2).1
  have d0:(w.setCell ⟨b,0,none⟩ (.int .i64 1)).cell? ⟨b,0,none⟩=some (.int .i64 1):=(h1.cell 0).1
  rw [hn0] at ho hnl
  have o0:(0:Int)≤(o':Int):=Int.natCast_nonneg _
  have o1:(o':Int)<(n0:Int):=by omega
  obtain ⟨kd,hkd⟩:∃kd,n'.kind=kd:=⟨_,rfl⟩
  rw [hkd] at ck' hR
  have F1:=hid h1
  have F4b:=hid (h.store 0 (.int .i64 4) (m':={ m with state:=4 }) rfl rfl rfl)
  have F4:=hid (h1.store 0 (.int .i64 4) (m':={ m with state:=4 }) rfl rfl rfl)
  by_cases hk:kd=1
  ·rw [if_pos hk] at hR
   subst hR
   have hkb:(kd==1)=true:=by simp [hk]
   clear h hs h5 hst hnil hx1 hx2 hlast hn hv hq co ck fz h1 hq' hlast' hn' hv' htk hkd hn0 hk
   go_enter Tryz.func162,Tryz.ntmps162
   go_wp2_with fail
   go_region
   all_goals
    go_wp2
    go_ret
    first
     | exact ⟨rfl,(((Below.refl _ w).setCell HB.out _).setCell HB.out _).drew,fun _=>⟨_,_,_,F4.out.drew⟩⟩
     | exact ⟨rfl,((Below.refl _ w).setCell HB.out _).drew,fun _=>⟨_,_,_,F4b.out.drew⟩⟩
  ·rw [if_neg hk] at hR
   subst hR
   have hkb:(kd==1)=false:=by simp [hk]
   clear h hs h5 hst hnil hx1 hx2 hlast hn hv hq co ck fz h1 hq' hlast' hn' hv' htk hkd hn0 hk
   go_enter Tryz.func162,Tryz.ntmps162
   go_wp2_with fail
   go_region
   all_goals
    go_wp2
    go_ret
    exact ⟨rfl,((Below.refl _ w).setCell HB.out _).drew,fun _=>⟨_,_,_,F1.out.drew⟩⟩
 ·rw [if_pos hx2] at hR
  subst hR
  have hxd:(x != 44)=true:=by simp [hx2]
  clear h hs h5 hst hnil hx1 hx2 hlast hn hv hq co ck fz
  go_enter Tryz.func162,Tryz.ntmps162
  go_wp2
  go_ret
  exact ⟨rfl,Below.refl _ w,by simp⟩
theorem Yx (m:Ref.zC) (n:Ref.Node):(Ref.lay m n).opn=m.opn:=by unfold Ref.lay;split<;>rfl
theorem Qc (m:Ref.zC) (kind:Int) (text:ByteArray) (base b:Nat) (ov nv:Value) (vs:List (Value×Value)) (w:World) (h:zI w base b m ov nv vs) (hs:Small m) :
  Calls Tryz.prog 206 #[.pointer (some ⟨b,0,none⟩), .agg #[.int .i64 kind, .string text, .slice none 0 0, .slice none 0 0]] w fun e w'=>
   e = .returned (.int .i64 (m.nodes.length:Nat))∧Below base w w'∧∃nv' vs',zI w' base b (Ref.lay m ⟨kind,text,[],[]⟩) ov nv' vs':=
 zkW m kind text base b ov nv vs w h (Nat.le_trans h.hb (Nat.le_of_lt (lt_of_block h.blk))) hs.nodes hs.kids hs.top hs.opn
theorem zh7 (m:Ref.zC) (x:Int) (base b:Nat) (ov nv:Value) (vs:List (Value×Value)) (w:World) (h:zI w base b m ov nv vs) (hs:Small m) :
  Calls Tryz.prog 164 #[.pointer (some ⟨b,0,none⟩), .int .u8 x] w (Stepped base b (Ref.yH m x) w):=by
 obtain ⟨R,hR⟩:∃R,Ref.yH m x=R:=⟨_,rfl⟩
 rw [hR]
 unfold Ref.yH at hR
 have HB:=hid h.hb
 have c0:w.cell? ⟨b,0,none⟩=some (.int .i64 m.state):=(h.cell 0).1
 have f0:w.frozen? ⟨b,0,none⟩=false:=(h.cell 0).2
 have c1:w.cell? ⟨b,1,none⟩=some ov:=(h.cell 1).1
 have lb:b<w.heap.size:=lt_of_block h.blk
 by_cases h1:x=123∨x=91
 ·rw [if_pos h1] at hR
  have ownO:=h.ownO
  obtain ⟨q,hq⟩:∃q,m.opn.length=q:=⟨_,rfl⟩
  rw [hq] at ownO hR
  obtain ⟨ao,oc,rfl⟩:∃a c,ov = .slice a q c:=by
   rcases ownO.2 with ⟨rfl,rfl⟩|⟨g,c,cur,rfl,_⟩
   ·exact ⟨_,_,rfl⟩
   ·exact ⟨_,_,rfl⟩
  by_cases h8:8≤q
  ·rw [if_pos h8] at hR
   subst hR
   have h8b:decide (8≤(q:Int))=true:=by simp;omega
   have hxb:(x==123)=true∨(x==123)=false∧(x==91)=true:=by
    rcases h1 with e|e
    ·exact .inl (by simp [e])
    ·exact .inr ⟨by simp [e],by simp [e]⟩
   have hql:=hs.opn
   rw [hq] at hql
   clear h hs h1 ownO hq
   rcases hxb with hxb|⟨hxb,hxc⟩
   all_goals
    go_enter Tryz.func164,Tryz.ntmps164
    go_wp2
    go_ret
    exact ⟨rfl,Below.refl _ _,by simp⟩
  ·rw [if_neg h8] at hR
   have h8b:decide (8≤(q:Int))=false:=by simp;omega
   obtain ⟨j0,hj0,jz0,jz1,jz2⟩:=info_parts Tryz.infoInt
   rcases h1 with h1|h1
   ·have hxb:(x==123)=true:=by simp [h1]
    have hxc:(x==91)=false:=by simp [h1]
    rw [if_neg (by omega),if_neg (by omega)] at hR
    have hM:=(h.store 0 (.int .i64 3) (m':={ m with state:=3 }) rfl rfl rfl)
    have HM:=hid hM
    have hs3:Hid (Small { m with state:=3 }):=⟨hs.nodes,hs.opn,hs.kids,hs.names,hs.got,hs.top⟩
    have HR:=hid hR
    have HQ:=hid hq
    have hql:=hs.opn
    rw [hq] at hql
    clear h hs h1 ownO hM hR hq
    go_enter Tryz.func164,Tryz.ntmps164
    go_wp2_with fail
    refine (Qc { m with state:=3 } 1 ⟨#[]⟩ base b (.slice ao q oc) nv vs _ ?_ hs3.out).mono ?_
    ·exact HM.out.below ((Below.refl _ _).alloc (Nat.le_refl _) _)
    rintro e w2 ⟨rfl,hb2,nv2,vs2,hM2⟩
    have b2:Below base w w2:=((((Below.refl _ w).setCell HB.out _).alloc (by simp [World.setCell];have:=HB.out;omega) _)).trans hb2
    have d1:w2.cell? ⟨b,1,none⟩=some (.slice ao q oc):=(hM2.cell 1).1
    have g1:w2.frozen? ⟨b,1,none⟩=false:=(hM2.cell 1).2
    have own2:=hM2.ownO
    rw [Yx] at own2
    simp only at own2
    rw [HQ.out] at own2
    obtain ⟨oc0,hoc0⟩:∃l,qf m.opn=l:=⟨_,rfl⟩
    rw [hoc0] at own2
    obtain ⟨n0,hn0⟩:∃n0,m.nodes.length=n0:=⟨_,rfl⟩
    have lb2:b<w2.heap.size:=lt_of_block hM2.blk
    have HM2:=hid hM2
    have HOC:=hid hoc0
    have HN0:=hid hn0
    simp only [hn0]
    clear hM2 hoc0 hn0 hb2 c0 f0 c1 lb
    have ob:(Value.slice ao q oc).ownBlock≠some b:=zD own2 HM2.out.blk (by decide)
    go_wp2_with (at_builtin;refine wpList_append_own_at _ rfl _ _ 30 rfl base 3 j0 (.int .i64 0) 1 8 Tryz.underlying30 hj0 jz0 jz1 jz2 rfl (by decide) _ q oc0 rfl (own2.alloc _) ⟨w2.heap.size,0,none⟩ 1 1 [.int .i64 (n0:Int)] rfl rfl ?_ ?_ ?_ ?_ ?_ ?_)
    ·exact cell_one_new _ _ _
    ·intro u hu;simp at hu;subst hu;rfl
    ·unfold maxLen;omega
    ·omega
    ·have:=HB.out;simp;omega
    intro v' w3 own3 grow3 _ hat3
    obtain ⟨g3,c3,rfl⟩:∃g c,v' = .slice (some ⟨g,0,none⟩) (q+1) c:=by
     rcases own3.2 with ⟨_,h⟩|⟨g,c,cur,rfl,_⟩
     ·omega
     ·exact ⟨_,_,rfl⟩
    have e1:w3.cell? ⟨b,1,none⟩=some (.slice ao q oc):=(grow3.cell_far _ (by simp;omega) (Ne.symm ob)).trans (cell_later ((Below.refl _ w2).alloc (Nat.le_refl _) _) d1)
    have e2:w3.frozen? ⟨b,1,none⟩=false:=(grow3.frozen_far _ (by simp;omega) (Ne.symm ob)).trans ((((Below.refl _ w2).alloc (Nat.le_refl _) _).frozen (p:=⟨b,1,none⟩) lb2).trans g1)
    have FIN:=hid (zI.push (HM2.out.below ((Below.refl _ w2).alloc (Nat.le_refl _) _)) grow3 n0 (by rw [Yx];simp only;rw [HQ.out,HOC.out];exact own3) (by simpa using hat3))
    have B3:Hid (Below base w (w3.setCell ⟨b,1,none⟩ (.slice (some ⟨g3,0,none⟩) (q+1) c3))):=((b2.trans (((Below.refl base w2).alloc (by have:=HB.out;omega) _))).grown grow3 (by simp;have:=HB.out;omega) (fun k hk=>(own2.lt k hk).1)).setCell HB.out _
    have hr:=HR.out
    subst hr
    clear HR own3 grow3 hat3 own2 d1 g1 b2
    go_wp2
    go_ret
    refine ⟨rfl,B3.out,fun _=>?_⟩
    have hf:=FIN.out
    rw [Yx] at hf
    rw [HN0.out]
    exact ⟨_,_,_,hf⟩
   ·have hxb:(x==123)=false:=by simp [h1]
    have hxc:(x==91)=true:=by simp [h1]
    rw [if_pos h1,if_pos h1] at hR
    have hM:=((h.store 0 (.int .i64 3) (m':={ m with state:=3 }) rfl rfl rfl).store 0 (.int .i64 2) (m':={ m with state:=2 }) rfl rfl rfl)
    have HM:=hid hM
    have hs3:Hid (Small { m with state:=2 }):=⟨hs.nodes,hs.opn,hs.kids,hs.names,hs.got,hs.top⟩
    have HR:=hid hR
    have HQ:=hid hq
    have hql:=hs.opn
    rw [hq] at hql
    clear h hs h1 ownO hM hR hq
    go_enter Tryz.func164,Tryz.ntmps164
    go_wp2_with fail
    refine (Qc { m with state:=2 } 2 ⟨#[]⟩ base b (.slice ao q oc) nv vs _ ?_ hs3.out).mono ?_
    ·exact HM.out.below ((Below.refl _ _).alloc (Nat.le_refl _) _)
    rintro e w2 ⟨rfl,hb2,nv2,vs2,hM2⟩
    have b2:Below base w w2:=(((((Below.refl _ w).setCell HB.out _).setCell HB.out _).alloc (by simp [World.setCell];have:=HB.out;omega) _)).trans hb2
    have d1:w2.cell? ⟨b,1,none⟩=some (.slice ao q oc):=(hM2.cell 1).1
    have g1:w2.frozen? ⟨b,1,none⟩=false:=(hM2.cell 1).2
    have own2:=hM2.ownO
    rw [Yx] at own2
    simp only at own2
    rw [HQ.out] at own2
    obtain ⟨oc0,hoc0⟩:∃l,qf m.opn=l:=⟨_,rfl⟩
    rw [hoc0] at own2
    obtain ⟨n0,hn0⟩:∃n0,m.nodes.length=n0:=⟨_,rfl⟩
    have lb2:b<w2.heap.size:=lt_of_block hM2.blk
    have HM2:=hid hM2
    have HOC:=hid hoc0
    have HN0:=hid hn0
    simp only [hn0]
    clear hM2 hoc0 hn0 hb2 c0 f0 c1 lb
    have ob:(Value.slice ao q oc).ownBlock≠some b:=zD own2 HM2.out.blk (by decide)
    go_wp2_with (at_builtin;refine wpList_append_own_at _ rfl _ _ 30 rfl base 3 j0 (.int .i64 0) 1 8 Tryz.underlying30 hj0 jz0 jz1 jz2 rfl (by decide) _ q oc0 rfl (own2.alloc _) ⟨w2.heap.size,0,none⟩ 1 1 [.int .i64 (n0:Int)] rfl rfl ?_ ?_ ?_ ?_ ?_ ?_)
    ·exact cell_one_new _ _ _
    ·intro u hu;simp at hu;subst hu;rfl
    ·unfold maxLen;omega
    ·omega
    ·have:=HB.out;simp;omega
    intro v' w3 own3 grow3 _ hat3
    obtain ⟨g3,c3,rfl⟩:∃g c,v' = .slice (some ⟨g,0,none⟩) (q+1) c:=by
     rcases own3.2 with ⟨_,h⟩|⟨g,c,cur,rfl,_⟩
     ·omega
     ·exact ⟨_,_,rfl⟩
    have e1:w3.cell? ⟨b,1,none⟩=some (.slice ao q oc):=(grow3.cell_far _ (by simp;omega) (Ne.symm ob)).trans (cell_later ((Below.refl _ w2).alloc (Nat.le_refl _) _) d1)
    have e2:w3.frozen? ⟨b,1,none⟩=false:=(grow3.frozen_far _ (by simp;omega) (Ne.symm ob)).trans ((((Below.refl _ w2).alloc (Nat.le_refl _) _).frozen (p:=⟨b,1,none⟩) lb2).trans g1)
    have FIN:=hid (zI.push (HM2.out.below ((Below.refl _ w2).alloc (Nat.le_refl _) _)) grow3 n0 (by rw [Yx];simp only;rw [HQ.out,HOC.out];exact own3) (by simpa using hat3))
    have B3:Hid (Below base w (w3.setCell ⟨b,1,none⟩ (.slice (some ⟨g3,0,none⟩) (q+1) c3))):=((b2.trans (((Below.refl base w2).alloc (by have:=HB.out;omega) _))).grown grow3 (by simp;have:=HB.out;omega) (fun k hk=>(own2.lt k hk).1)).setCell HB.out _
    have hr:=HR.out
    subst hr
    clear HR own3 grow3 hat3 own2 d1 g1 b2
    go_wp2
    go_ret
    refine ⟨rfl,B3.out,fun _=>?_⟩
    have hf:=FIN.out
    rw [Yx] at hf
    rw [HN0.out]
    exact ⟨_,_,_,hf⟩
 rw [if_neg h1] at hR
 have hxb:(x==123)=false:=by simp;omega
 have hxc:(x==91)=false:=by simp;omega
 by_cases hx34:x=34
 ·rw [if_pos hx34] at hR
  subst hR
  have hxe:(x==34)=true:=by simp [hx34]
  have c3:w.cell? ⟨b,3,none⟩=some (.bool m.named):=(h.cell 3).1
  have f3:w.frozen? ⟨b,3,none⟩=false:=(h.cell 3).2
  have c4:w.cell? ⟨b,4,none⟩=some (.string m.got):=(h.cell 4).1
  have f4:w.frozen? ⟨b,4,none⟩=false:=(h.cell 4).2
  have FIN:=hid (((h.store 0 (.int .i64 8) (m':={ m with state:=8 }) rfl rfl rfl).store 3 (.bool false) (m':={ m with state:=8,named:=false }) rfl rfl rfl).store 4 (.string ⟨#[]⟩) (m':={ m with state:=8,named:=false,got:=⟨#[]⟩ }) rfl rfl rfl)
  clear h hs h1 hx34
  go_enter Tryz.func164,Tryz.ntmps164
  go_wp2
  go_ret
  exact ⟨rfl,(((Below.refl _ w).setCell HB.out _).setCell HB.out _).setCell HB.out _,fun _=>⟨_,_,_,FIN.out⟩⟩
 rw [if_neg hx34] at hR
 have hxb34:(x==34)=false:=by simp [hx34]
 by_cases hx116:x=116
 ·rw [if_pos hx116] at hR
  subst hR
  have hxe:(x==116)=true:=by simp [hx116]
  have HM:=hid h
  have HS:=hid hs
  clear h hs h1 hx116 c0 f0 c1 lb hx34
  go_enter Tryz.func164,Tryz.ntmps164
  go_wp2_with fail
  refine (Qc m 4 ⟨#[]⟩ base b ov nv vs _ HM.out HS.out).mono ?_
  rintro e w2 ⟨rfl,hb2,nv2,vs2,hM2⟩
  have d0:w2.cell? ⟨b,0,none⟩=some (.int .i64 (Ref.lay m ⟨4,⟨#[]⟩,[],[]⟩).state):=(hM2.cell 0).1
  have g0:w2.frozen? ⟨b,0,none⟩=false:=(hM2.cell 0).2
  have d9:w2.cell? ⟨b,9,none⟩=some (.string (Ref.lay m ⟨4,⟨#[]⟩,[],[]⟩).word):=(hM2.cell 9).1
  have g9:w2.frozen? ⟨b,9,none⟩=false:=(hM2.cell 9).2
  have FIN:=hid ((hM2.store 0 (.int .i64 7) (m':={ Ref.lay m ⟨4,⟨#[]⟩,[],[]⟩ with state:=7 }) rfl rfl rfl).store 9 (.string ⟨#[114,117,101]⟩) (m':={ Ref.lay m ⟨4,⟨#[]⟩,[],[]⟩ with state:=7,word:=⟨#[114,117,101]⟩ }) rfl rfl rfl)
  have HB2:=hid hb2
  clear hM2 hb2
  go_wp2
  go_ret
  exact ⟨rfl,(HB2.out.setCell HB.out _).setCell HB.out _,fun _=>⟨_,_,_,FIN.out⟩⟩
 rw [if_neg hx116] at hR
 have hxb116:(x==116)=false:=by simp [hx116]
 by_cases hx102:x=102
 ·rw [if_pos hx102] at hR
  subst hR
  have hxe:(x==102)=true:=by simp [hx102]
  have HM:=hid h
  have HS:=hid hs
  clear h hs h1 hx102 c0 f0 c1 lb hx34 hx116
  go_enter Tryz.func164,Tryz.ntmps164
  go_wp2_with fail
  refine (Qc m 5 ⟨#[]⟩ base b ov nv vs _ HM.out HS.out).mono ?_
  rintro e w2 ⟨rfl,hb2,nv2,vs2,hM2⟩
  have d0:w2.cell? ⟨b,0,none⟩=some (.int .i64 (Ref.lay m ⟨5,⟨#[]⟩,[],[]⟩).state):=(hM2.cell 0).1
  have g0:w2.frozen? ⟨b,0,none⟩=false:=(hM2.cell 0).2
  have d9:w2.cell? ⟨b,9,none⟩=some (.string (Ref.lay m ⟨5,⟨#[]⟩,[],[]⟩).word):=(hM2.cell 9).1
  have g9:w2.frozen? ⟨b,9,none⟩=false:=(hM2.cell 9).2
  have FIN:=hid ((hM2.store 0 (.int .i64 7) (m':={ Ref.lay m ⟨5,⟨#[]⟩,[],[]⟩ with state:=7 }) rfl rfl rfl).store 9 (.string ⟨#[97,108,115,101]⟩) (m':={ Ref.lay m ⟨5,⟨#[]⟩,[],[]⟩ with state:=7,word:=⟨#[97,108,115,101]⟩ }) rfl rfl rfl)
  have HB2:=hid hb2
  clear hM2 hb2
  go_wp2
  go_ret
  exact ⟨rfl,(HB2.out.setCell HB.out _).setCell HB.out _,fun _=>⟨_,_,_,FIN.out⟩⟩
 rw [if_neg hx102] at hR
 have hxb102:(x==102)=false:=by simp [hx102]
 subst hR
 clear h hs h1 hx34 hx116 hx102 c0 f0 c1 lb
 go_enter Tryz.func164,Tryz.ntmps164
 go_wp2
 go_ret
 exact ⟨rfl,Below.refl _ w,by simp⟩
end Go.Proofs.YtdakgnaojakldaaGreatDoor
