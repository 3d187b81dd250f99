/- P -/
import Derived.Test.YtdakgnaojakldaaGreatDoorP27
import Derived.Shelf.Strings.OnBuilder
set_option maxRecDepth 100000
set_option maxHeartbeats 1000000
namespace Go.Proofs.YtdakgnaojakldaaGreatDoor
open Go.RowKit
def QO (w:World) (outs:List ByteArray) (e:Ending) (w':World):Prop:=∃lv,e = .returned lv∧zh w' w.heap.size lv outs∧Below w.heap.size w w'
theorem Qo:(Tryz.prog.info? 9).map (fun i=>(i.zero,i.size,i.bytes))=some (some (.string ⟨#[]⟩),1,16):=by kernel_rfl
theorem ZI {w:World} {B:Nat} {v':Value} {l:List ByteArray} {s:ByteArray} (h:w.ownsRow B 9 1 v' (l.length+1) (l.map Value.string++[.string s])):zh w B v' (l++[s]):=by
 unfold zh
 rw [List.map_append,List.length_append]
 exact h
theorem zlu (ss:List ByteArray) (lv:Value) (base g:Nat) (out:ByteArray→ByteArray) (w:World) (h:zh w base lv ss) (hn:ss.length≤1000) (eg:∀args w,(callFunc g args).run Tryz.prog w = .ok (.enter g args) w)
  (hp:∀W s,s ∈ ss→Below w.heap.size w W→Calls Tryz.prog g #[.string s] W fun e w'=>e = .returned (.string (out s))∧Below W.heap.size W w') :
  Calls Tryz.prog 211 #[lv, .func (.func g) #[] #[]] w (QO w (ss.map out)):=by
 obtain ⟨i0,hi,hz0,hz1,hz2⟩:=info_parts Qo
 obtain ⟨a,c,rfl⟩:=zq h
 obtain ⟨n,hnn⟩:∃n,ss.length=n:=⟨_,rfl⟩
 have hcell:∀(k:Nat) (x:ByteArray),ss[k]?=some x→∃gb,a=some ⟨gb,0,none⟩∧w.cell? ⟨gb,k,none⟩=some (.string x):=by
  intro k x hx
  have hk:k<ss.length:=(List.getElem?_eq_some_iff.1 hx).1
  rcases h.2 with ⟨e,h0⟩|⟨gb,cap,cur,e,_⟩
  ·omega
  ·have hc:=World.ownsRow.cellAt (g:=gb) (cap:=cap) (by rw [← e];exact h) k (by omega)
   injection e with e1 e2 e3
   exact ⟨gb,e1,by rw [hc];simp [List.getElem?_map,hx]⟩
 rw [hnn]
 rw [hnn] at hn
 have HC:=hid hcell
 have HP:=hid hp
 have HN:=hid hnn
 clear hcell hp hnn h
 go_enter Tryz.func211,Tryz.ntmps211
 go_wp2_with (at_make;refine wpList_make_own _ rfl _ _ 42 rfl w.heap.size 9 i0 (.string ⟨#[]⟩) 1 Tryz.underlying42 hi hz0 hz1 _ _ _ n rfl rfl rfl ?_ ?_ ?_ ?_)
 ·rw [hz2];omega
 ·unfold maxLen;omega
 ·omega
 intro w1 own1 grow1
 have HO1:=hid own1
 have HB1:Hid (Below w.heap.size w w1):=(Below.refl _ w).grown grow1 (Nat.le_refl _) (fun k hk=>by cases hk)
 clear own1 grow1
 go_wp2_with fail
 go_loopw [5,7,13] (fun ov _ kv wr=>∃(k:Nat),k≤n∧kv = .int .i64 k∧zh wr w.heap.size ov ((ss.take k).map out)∧Below w.heap.size w wr) (fun _ _ kv _=>n-(intOf kv).toNat)
 case atStart=>exact ⟨0,Nat.zero_le _,rfl,HO1.out,HB1.out⟩
 case round=>
  obtain ⟨k,hk,rfl,ho,hb⟩:=hrel
  have HO:=hid ho
  have HB:=hid hb
  clear ho hb HO1 HB1
  by_cases hlt:k<n
  ·have hkl:k<ss.length:=by rw [HN.out];exact hlt
   obtain ⟨gb,rfl,q⟩:=HC.out k _ (List.getElem?_eq_getElem hkl)
   have q2:=cell_later HB.out q
   have cc:=HP.out wr ss[k] (List.getElem_mem hkl) HB.out
   have htk:Hid ((ss.take (k+1)).map out=(ss.take k).map out++[out ss[k]]):=hid (by rw [List.take_add_one,List.getElem?_eq_getElem hkl,List.map_append];rfl)
   have hln:((ss.take k).map out).length=k:=by rw [List.length_map,List.length_take];omega
   obtain ⟨s,hs⟩:∃s,ss[k]=s:=⟨_,rfl⟩
   rw [hs] at q2 cc htk
   have CC:=hid cc
   obtain ⟨L,hL⟩:∃L,(ss.take k).map out=L:=⟨_,rfl⟩
   rw [hL] at HO htk hln
   clear q cc hs hL
   go_wp2_with (first
    | (go_at_fn g;refine CC.out.mono ?_;rintro e w2 ⟨rfl,hb2⟩;have HB2:=hid hb2;have hz2':=hb2.size;have hzr:=HB.out.size;clear hb2)
    | (at_builtin;refine wpList_append_own _ rfl _ _ 42 rfl w.heap.size 9 i0 (.string ⟨#[]⟩) 1 16 Tryz.underlying42 hi hz0 hz1 hz2 rfl (by decide) _ L.length (L.map Value.string) rfl (World.ownsRow.alloc (ownsRow_below HO.out HB2.out) _) ⟨w2.heap.size,0,none⟩ 1 1 [.string (out s)] rfl rfl ?_ ?_ ?_ ?_ ?_ ?_))
   ·exact qM _ _ _
   ·intro u hu;simp at hu;rcases hu with rfl;rfl
   ·unfold maxLen;omega
   ·omega
   ·simp;omega
   ·intro v' w3 hown' hgrow _
    have HO3:Hid (zh w3 w.heap.size v' ((ss.take (k+1)).map out)):=by rw [htk.out];exact ZI (by rw [hln];exact hown')
    have HB3:Hid (Below w.heap.size w w3):=((HB.out.trans (HB2.out.mono HB.out.size)).alloc (by omega) _).grown hgrow (by simp;omega) (fun k hk=>(World.ownsRow.lt HO.out k hk).1)
    clear hown' hgrow
    go_wp2
    go_roundw
    case rel=>exact ⟨k+1,by omega,by go_num,HO3.out,HB3.out⟩
    case measure=>simp [intOf];omega
  ·have hkn:k=n:=by omega
   subst hkn
   have ho:=HO.out
   rw [List.take_of_length_le (by rw [HN.out];omega)] at ho
   have HO2:=hid ho
   clear ho
   go_wp2
   go_ret
   exact ⟨_,rfl,HO2.out,HB.out⟩
theorem zjh (ss:List jg) (lv:Value) (base g:Nat) (out:jg→ByteArray) (w:World) (h:qc w base lv ss) (hn:ss.length≤1000) (eg:∀args w,(callFunc g args).run Tryz.prog w = .ok (.enter g args) w)
  (hp:∀W x lx,x ∈ ss→Below w.heap.size w W→zh W base lx x.vals→Calls Tryz.prog g #[.agg #[.string x.op, .string x.key,lx, .bool x.no]] W fun e w'=>e = .returned (.string (out x))∧Below W.heap.size W w') :
  Calls Tryz.prog 172 #[lv, .func (.func g) #[] #[]] w (QO w (ss.map out)):=by
 obtain ⟨i0,hi,hz0,hz1,hz2⟩:=info_parts Qo
 obtain ⟨xs,hx,hc⟩:=h
 obtain ⟨a,c,rfl⟩:∃a c,lv = .slice a ss.length c:=by
  rcases hx.2 with ⟨rfl,h0⟩|⟨gb,c,cur,rfl,_⟩
  ·exact ⟨_,_,by rw [h0]⟩
  ·exact ⟨_,_,rfl⟩
 obtain ⟨n,hnn⟩:∃n,ss.length=n:=⟨_,rfl⟩
 have hcell:∀(k:Nat) (x:jg),ss[k]?=some x→∃gb lx,a=some ⟨gb,0,none⟩∧(w.cell? ⟨gb,k*4,none⟩=some (.string x.op)∧w.cell? ⟨gb,k*4+1,none⟩=some (.string x.key)∧w.cell? ⟨gb,k*4+2,none⟩=some lx∧w.cell? ⟨gb,k*4+3,none⟩=some (.bool x.no))∧zh w base lx x.vals:=by
  intro k x hxk
  have hk:k<ss.length:=(List.getElem?_eq_some_iff.1 hxk).1
  have hl:xs.length=ss.length*4:=hx.1
  rcases hx.2 with ⟨e,h0⟩|⟨gb,cap,cur,e,_⟩
  ·omega
  ·have hcc:∀i,i<ss.length*4→w.cell? ⟨gb,i,none⟩=xs[i]?:=fun i hi=>World.ownsRow.cellAt (g:=gb) (cap:=cap) (by rw [← e];exact hx) i (by omega)
   injection e with e1 e2 e3
   obtain ⟨lx,h0,h1,h2,h3,h4⟩:=hc k hk
   have hxe:ss[k]=x:=(List.getElem?_eq_some_iff.1 hxk).2
   rw [hxe] at h0 h1 h3 h4
   exact ⟨gb,lx,e1,⟨(hcc _ (by omega)).trans h0,(hcc _ (by omega)).trans h1,(hcc _ (by omega)).trans h2,(hcc _ (by omega)).trans h3⟩,h4⟩
 rw [hnn]
 rw [hnn] at hn
 have HC:=hid hcell
 have HP:=hid hp
 have HN:=hid hnn
 clear hcell hp hnn hx hc
 go_enter Tryz.func172,Tryz.ntmps172
 go_wp2_with (at_make;refine wpList_make_own _ rfl _ _ 42 rfl w.heap.size 9 i0 (.string ⟨#[]⟩) 1 Tryz.underlying42 hi hz0 hz1 _ _ _ n rfl rfl rfl ?_ ?_ ?_ ?_)
 ·rw [hz2];omega
 ·unfold maxLen;omega
 ·omega
 intro w1 own1 grow1
 have HO1:=hid own1
 have HB1:Hid (Below w.heap.size w w1):=(Below.refl _ w).grown grow1 (Nat.le_refl _) (fun k hk=>by cases hk)
 clear own1 grow1
 go_wp2_with fail
 go_loopw [5,7,13] (fun ov _ kv wr=>∃(k:Nat),k≤n∧kv = .int .i64 k∧zh wr w.heap.size ov ((ss.take k).map out)∧Below w.heap.size w wr) (fun _ _ kv _=>n-(intOf kv).toNat)
 case atStart=>exact ⟨0,Nat.zero_le _,rfl,HO1.out,HB1.out⟩
 case round=>
  obtain ⟨k,hk,rfl,ho,hb⟩:=hrel
  have HO:=hid ho
  have HB:=hid hb
  clear ho hb HO1 HB1
  by_cases hlt:k<n
  ·have hkl:k<ss.length:=by rw [HN.out];exact hlt
   obtain ⟨gb,lx,rfl,⟨q0,q1,q2,q3⟩,o4⟩:=HC.out k _ (List.getElem?_eq_getElem hkl)
   have p0:=cell_later HB.out q0
   have p1:=cell_later HB.out q1
   have p2:=cell_later HB.out q2
   have p3:=cell_later HB.out q3
   have htk:Hid ((ss.take (k+1)).map out=(ss.take k).map out++[out ss[k]]):=hid (by rw [List.take_add_one,List.getElem?_eq_getElem hkl,List.map_append];rfl)
   have hln:((ss.take k).map out).length=k:=by rw [List.length_map,List.length_take];omega
   have hmem:ss[k] ∈ ss:=List.getElem_mem hkl
   obtain ⟨s,hs⟩:∃s,ss[k]=s:=⟨_,rfl⟩
   rw [hs] at q0 q1 q3 p0 p1 p3 o4 htk hmem
   obtain ⟨xa,xc,rfl⟩:=zq o4
   have o5:=ownsRow_below o4 HB.out
   have hzr:=HB.out.size
   have cc:=HP.out (wr.alloc (.cells #[.string s.op, .string s.key, .slice xa s.vals.length xc, .bool s.no] 241)) s _ hmem (HB.out.alloc hzr _) (World.ownsRow.alloc o5 _)
   have CC:=hid cc
   obtain ⟨L,hL⟩:∃L,(ss.take k).map out=L:=⟨_,rfl⟩
   rw [hL] at HO htk hln
   clear cc hs hL hmem
   go_wp2_with (first
    | (go_at_fn g;refine CC.out.mono ?_;rintro e w2 ⟨rfl,hb2⟩;have HB2:Hid (Below wr.heap.size wr w2):=((Below.refl _ wr).alloc (Nat.le_refl _) _).trans (hb2.mono (by simp));have hz2':=HB2.out.size;clear hb2)
    | (at_builtin;refine wpList_append_own _ rfl _ _ 42 rfl w.heap.size 9 i0 (.string ⟨#[]⟩) 1 16 Tryz.underlying42 hi hz0 hz1 hz2 rfl (by decide) _ L.length (L.map Value.string) rfl (World.ownsRow.alloc (ownsRow_below HO.out HB2.out) _) ⟨w2.heap.size,0,none⟩ 1 1 [.string (out s)] rfl rfl ?_ ?_ ?_ ?_ ?_ ?_))
   ·exact qM _ _ _
   ·intro u hu;simp at hu;rcases hu with rfl;rfl
   ·unfold maxLen;omega
   ·omega
   ·simp;omega
   ·intro v' w3 hown' hgrow _
    have HO3:Hid (zh w3 w.heap.size v' ((ss.take (k+1)).map out)):=by rw [htk.out];exact ZI (by rw [hln];exact hown')
    have HB3:Hid (Below w.heap.size w w3):=((HB.out.trans (HB2.out.mono HB.out.size)).alloc (by omega) _).grown hgrow (by simp;omega) (fun k hk=>(World.ownsRow.lt HO.out k hk).1)
    clear hown' hgrow
    go_wp2
    go_roundw
    case rel=>exact ⟨k+1,by omega,by go_num,HO3.out,HB3.out⟩
    case measure=>simp [intOf];omega
  ·have hkn:k=n:=by omega
   subst hkn
   have ho:=HO.out
   rw [List.take_of_length_le (by rw [HN.out];omega)] at ho
   have HO2:=hid ho
   clear ho
   go_wp2
   go_ret
   exact ⟨_,rfl,HO2.out,HB.out⟩
theorem zjJ (ss:List xH) (lv:Value) (base g:Nat) (out:xH→ByteArray) (w:World) (h:xJ w base lv ss) (hn:ss.length≤1000) (eg:∀args w,(callFunc g args).run Tryz.prog w = .ok (.enter g args) w)
  (hp:∀W x l1 l2 l3 lc,x ∈ ss→Below w.heap.size w W→zh W base l1 x.who.2→zh W base l2 x.act.2→zh W base l3 x.on.2→qc W base lc x.ifs→Calls Tryz.prog g #[.agg #[.string x.eff, .bool x.who.1,l1, .bool x.act.1,l2, .bool x.on.1,l3,lc]] W fun e w'=>e = .returned (.string (out x))∧Below W.heap.size W w') :
  Calls Tryz.prog 114 #[lv, .func (.func g) #[] #[]] w (QO w (ss.map out)):=by
 obtain ⟨i0,hi,hz0,hz1,hz2⟩:=info_parts Qo
 obtain ⟨xs,hx,hc⟩:=h
 obtain ⟨a,c,rfl⟩:∃a c,lv = .slice a ss.length c:=by
  rcases hx.2 with ⟨rfl,h0⟩|⟨gb,c,cur,rfl,_⟩
  ·exact ⟨_,_,by rw [h0]⟩
  ·exact ⟨_,_,rfl⟩
 obtain ⟨n,hnn⟩:∃n,ss.length=n:=⟨_,rfl⟩
 have hcell:∀(k:Nat) (x:xH),ss[k]?=some x→∃gb l1 l2 l3 lc,a=some ⟨gb,0,none⟩∧(w.cell? ⟨gb,k*8,none⟩=some (.string x.eff)∧w.cell? ⟨gb,k*8+1,none⟩=some (.bool x.who.1)∧w.cell? ⟨gb,k*8+2,none⟩=some l1∧w.cell? ⟨gb,k*8+3,none⟩=some (.bool x.act.1)∧w.cell? ⟨gb,k*8+4,none⟩=some l2∧w.cell? ⟨gb,k*8+5,none⟩=some (.bool x.on.1)∧w.cell? ⟨gb,k*8+6,none⟩=some l3∧w.cell? ⟨gb,k*8+7,none⟩=some lc)∧zh w base l1 x.who.2∧zh w base l2 x.act.2∧zh w base l3 x.on.2∧qc w base lc x.ifs:=by
  intro k x hxk
  have hk:k<ss.length:=(List.getElem?_eq_some_iff.1 hxk).1
  have hl:xs.length=ss.length*8:=hx.1
  rcases hx.2 with ⟨e,h0⟩|⟨gb,cap,cur,e,_⟩
  ·omega
  ·have hcc:∀i,i<ss.length*8→w.cell? ⟨gb,i,none⟩=xs[i]?:=fun i hi=>World.ownsRow.cellAt (g:=gb) (cap:=cap) (by rw [← e];exact hx) i (by omega)
   injection e with e1 e2 e3
   obtain ⟨l1,l2,l3,lc,h0,h1,h2,h3,h4,h5,h6,h7,g1,g2,g3,g4⟩:=hc k hk
   have hxe:ss[k]=x:=(List.getElem?_eq_some_iff.1 hxk).2
   rw [hxe] at h0 h1 h3 h5 g1 g2 g3 g4
   exact ⟨gb,l1,l2,l3,lc,e1,⟨(hcc _ (by omega)).trans h0,(hcc _ (by omega)).trans h1,(hcc _ (by omega)).trans h2,(hcc _ (by omega)).trans h3,(hcc _ (by omega)).trans h4,(hcc _ (by omega)).trans h5,(hcc _ (by omega)).trans h6,(hcc _ (by omega)).trans h7⟩,g1,g2,g3,g4⟩
 rw [hnn]
 rw [hnn] at hn
 have HC:=hid hcell
 have HP:=hid hp
 have HN:=hid hnn
 clear hcell hp hnn hx hc
 go_enter Tryz.func114,Tryz.ntmps114
 go_wp2_with (at_make;refine wpList_make_own _ rfl _ _ 42 rfl w.heap.size 9 i0 (.string ⟨#[]⟩) 1 Tryz.underlying42 hi hz0 hz1 _ _ _ n rfl rfl rfl ?_ ?_ ?_ ?_)
 ·rw [hz2];omega
 ·unfold maxLen;omega
 ·omega
 intro w1 own1 grow1
 have HO1:=hid own1
 have HB1:Hid (Below w.heap.size w w1):=(Below.refl _ w).grown grow1 (Nat.le_refl _) (fun k hk=>by cases hk)
 clear own1 grow1
 go_wp2_with fail
 go_loopw [5,7,13] (fun ov _ kv wr=>∃(k:Nat),k≤n∧kv = .int .i64 k∧zh wr w.heap.size ov ((ss.take k).map out)∧Below w.heap.size w wr) (fun _ _ kv _=>n-(intOf kv).toNat)
 case atStart=>exact ⟨0,Nat.zero_le _,rfl,HO1.out,HB1.out⟩
 case round=>
  obtain ⟨k,hk,rfl,ho,hb⟩:=hrel
  have HO:=hid ho
  have HB:=hid hb
  clear ho hb HO1 HB1
  by_cases hlt:k<n
  ·have hkl:k<ss.length:=by rw [HN.out];exact hlt
   obtain ⟨gb,l1,l2,l3,lc,rfl,⟨q0,q1,q2,q3,q4,q5,q6,q7⟩,o1,o2,o3,o4⟩:=HC.out k _ (List.getElem?_eq_getElem hkl)
   have p0:=cell_later HB.out q0
   have p1:=cell_later HB.out q1
   have p2:=cell_later HB.out q2
   have p3:=cell_later HB.out q3
   have p4:=cell_later HB.out q4
   have p5:=cell_later HB.out q5
   have p6:=cell_later HB.out q6
   have p7:=cell_later HB.out q7
   have htk:Hid ((ss.take (k+1)).map out=(ss.take k).map out++[out ss[k]]):=hid (by rw [List.take_add_one,List.getElem?_eq_getElem hkl,List.map_append];rfl)
   have hln:((ss.take k).map out).length=k:=by rw [List.length_map,List.length_take];omega
   have hmem:ss[k] ∈ ss:=List.getElem_mem hkl
   obtain ⟨s,hs⟩:∃s,ss[k]=s:=⟨_,rfl⟩
   rw [hs] at q0 q1 q3 q5 p0 p1 p3 p5 o1 o2 o3 o4 htk hmem
   obtain ⟨x1,y1,rfl⟩:=zq o1
   obtain ⟨x2,y2,rfl⟩:=zq o2
   obtain ⟨x3,y3,rfl⟩:=zq o3
   obtain ⟨x4,y4,rfl⟩:∃a c,lc = .slice a s.ifs.length c:=by
    obtain ⟨ys,hy,_⟩:=o4
    rcases hy.2 with ⟨rfl,h0⟩|⟨gb,c,cur,rfl,_⟩
    ·exact ⟨_,_,by rw [h0]⟩
    ·exact ⟨_,_,rfl⟩
   have bA:=fun O:Obj=>(HB.out.alloc HB.out.size O)
   have hzr:=HB.out.size
   have cc:=HP.out (wr.alloc (.cells #[.string s.eff, .bool s.who.1, .slice x1 s.who.2.length y1, .bool s.act.1, .slice x2 s.act.2.length y2, .bool s.on.1, .slice x3 s.on.2.length y3, .slice x4 s.ifs.length y4] 133)) s _ _ _ _ hmem (HB.out.alloc hzr _) (o1.below (bA _)) (o2.below (bA _)) (o3.below (bA _)) (o4.below (bA _))
   have CC:=hid cc
   obtain ⟨L,hL⟩:∃L,(ss.take k).map out=L:=⟨_,rfl⟩
   rw [hL] at HO htk hln
   clear cc hs hL hmem
   go_wp2_with (first
    | (go_at_fn g;refine CC.out.mono ?_;rintro e w2 ⟨rfl,hb2⟩;have HB2:Hid (Below wr.heap.size wr w2):=((Below.refl _ wr).alloc (Nat.le_refl _) _).trans (hb2.mono (by simp));have hz2':=HB2.out.size;clear hb2)
    | (at_builtin;refine wpList_append_own _ rfl _ _ 42 rfl w.heap.size 9 i0 (.string ⟨#[]⟩) 1 16 Tryz.underlying42 hi hz0 hz1 hz2 rfl (by decide) _ L.length (L.map Value.string) rfl (World.ownsRow.alloc (ownsRow_below HO.out HB2.out) _) ⟨w2.heap.size,0,none⟩ 1 1 [.string (out s)] rfl rfl ?_ ?_ ?_ ?_ ?_ ?_))
   ·exact qM _ _ _
   ·intro u hu;simp at hu;rcases hu with rfl;rfl
   ·unfold maxLen;omega
   ·omega
   ·simp;omega
   ·intro v' w3 hown' hgrow _
    have HO3:Hid (zh w3 w.heap.size v' ((ss.take (k+1)).map out)):=by rw [htk.out];exact ZI (by rw [hln];exact hown')
    have HB3:Hid (Below w.heap.size w w3):=((HB.out.trans (HB2.out.mono HB.out.size)).alloc (by omega) _).grown hgrow (by simp;omega) (fun k hk=>(World.ownsRow.lt HO.out k hk).1)
    clear hown' hgrow
    go_wp2
    go_roundw
    case rel=>exact ⟨k+1,by omega,by go_num,HO3.out,HB3.out⟩
    case measure=>simp [intOf];omega
  ·have hkn:k=n:=by omega
   subst hkn
   have ho:=HO.out
   rw [List.take_of_length_le (by rw [HN.out];omega)] at ho
   have HO2:=hid ho
   clear ho
   go_wp2
   go_ret
   exact ⟨_,rfl,HO2.out,HB.out⟩
end Go.Proofs.YtdakgnaojakldaaGreatDoor
namespace Go.Proofs.YtdakgnaojakldaaGreatDoor
open Go.Shelf
def Tryz.lays156_ren:Go.Shelf.Ren:=⟨fun|156=>113|165=>167|166=>168|169=>169|240=>209|241=>210|276=>234|277=>235|n=>n,fun|31=>42|9=>9|3=>3|4=>4|0=>0|20=>20|72=>299|76=>301|70=>297|37=>256|75=>74|127=>322|164=>218|5=>5|80=>81|n=>n,fun|n=>n⟩
theorem Tryz.lays156:Go.Proofs.Lays.n156 Tryz.prog Tryz.lays156_ren:={
 mixed:=by kernel_rfl
 f156:=Tryz.func113.trans (congrArg some (by kernel_rfl))
 f165:=Tryz.func167.trans (congrArg some (by kernel_rfl))
 f166:=Tryz.func168.trans (congrArg some (by kernel_rfl))
 f169:=Tryz.func169.trans (congrArg some (by kernel_rfl))
 f240:=Tryz.func209.trans (congrArg some (by kernel_rfl))
 f241:=Tryz.func210.trans (congrArg some (by kernel_rfl))
 f276:=Tryz.func234.trans (congrArg some (by kernel_rfl))
 f277:=Tryz.func235.trans (congrArg some (by kernel_rfl))
 t0:=Tryz.underlying0
 a0:=Tryz.isAgg0
 z0:=Tryz.sizeOf0
 v0:=Tryz.zeroValue0
 t3:=Tryz.underlying3
 a3:=Tryz.isAgg3
 z3:=Tryz.sizeOf3
 v3:=Tryz.zeroValue3
 t4:=Tryz.underlying4
 a4:=Tryz.isAgg4
 z4:=Tryz.sizeOf4
 v4:=Tryz.zeroValue4
 t9:=Tryz.underlying9
 a9:=Tryz.isAgg9
 z9:=Tryz.sizeOf9
 v9:=Tryz.zeroValue9
 t20:=Tryz.underlying20
 a20:=Tryz.isAgg20
 z20:=Tryz.sizeOf20
 v20:=Tryz.zeroValue20
 t31:=Tryz.underlying42
 a31:=Tryz.isAgg42
 z31:=Tryz.sizeOf42
 v31:=Tryz.zeroValue42
 t37:=Tryz.underlying256
 a37:=Tryz.isAgg256
 z37:=Tryz.sizeOf256
 v37:=Tryz.zeroValue256
 t70:=Tryz.underlying297
 a70:=Tryz.isAgg297
 z70:=Tryz.sizeOf297
 v70:=Tryz.zeroValue297
 t72:=Tryz.underlying299
 a72:=Tryz.isAgg299
 z72:=Tryz.sizeOf299
 v72:=Tryz.zeroValue299
 t75:=Tryz.underlying74
 a75:=Tryz.isAgg74
 z75:=Tryz.sizeOf74
 v75:=Tryz.zeroValue74
 t76:=Tryz.underlying301
 a76:=Tryz.isAgg301
 z76:=Tryz.sizeOf301
 v76:=Tryz.zeroValue301
 t127:=Tryz.underlying322
 a127:=Tryz.isAgg322
 z127:=Tryz.sizeOf322
 v127:=Tryz.zeroValue322
 t164:=Tryz.underlying218
 a164:=Tryz.isAgg218
 z164:=Tryz.sizeOf218
 v164:=Tryz.zeroValue218 }
end Go.Proofs.YtdakgnaojakldaaGreatDoor
