/- P -/
import Derived.Test.YtdakgnaojakldaaGreatDoorP10
set_option maxRecDepth 100000
set_option maxHeartbeats 2000000
namespace Go.Proofs.YtdakgnaojakldaaGreatDoor
open Go.RowKit
theorem xB {w0 w w':World} {R:Nat} (h:w0.grownBy w (some R)) (k:Keep w0.heap.size R w w'):w0.grownBy w' (some R):=
 ⟨k.os.trans h.os,k.tape.trans h.tape,k.output.trans h.output,Nat.le_trans h.size k.size,fun i hi hne=>(k.block i hi (fun e=>hne (by rw [e]))).trans (h.block i hi hne)⟩
theorem xq {B R b o:Nat} (w:World) (v:Value) (hb:B≤b):Keep B R w (w.setCell ⟨b,o,none⟩ v):=
 ⟨rfl,rfl,rfl,by simp [World.setCell],fun k h1 _=>Below.heap_setCell w ⟨b,o,none⟩ v k (fun e=>by have:k=b:=e;omega)⟩
theorem XH (w:World) (b o:Nat) (v:Value) (k:Nat) (h:k≠b):(w.setCell ⟨b,o,none⟩ v).heap[k]?=w.heap[k]?:=Below.heap_setCell w ⟨b,o,none⟩ v k h
theorem yx (w:World) (b:Nat) (u v:Value) (h:w.cell? ⟨b,0,none⟩=some u):(w.setCell ⟨b,0,none⟩ v).cell? ⟨b,0,none⟩=some v:=by
 unfold World.cell? World.setCell at *
 simp only [Array.getElem?_modify,if_true]
 simp only at h
 cases hb:w.heap[b]? with
 | none=>rw [hb] at h;simp at h
 | some o=>
  rw [hb] at h
  cases o with
  | cells c t f=>
   simp at h ⊢
   have hl:=(Array.getElem?_eq_some_iff.1 h).1
   simp [hl]
  | _=>simp at h
theorem ZZ (w:World) (b:Nat) (v:Value):(w.setCell ⟨b,0,none⟩ v).frozen? ⟨b,0,none⟩=w.frozen? ⟨b,0,none⟩:=by rw [Uk]
theorem zjF (s:ByteArray) (R d F:Nat) (w0:World) (hs:s.size≤4000) (hR:R<w0.heap.size) (hRg:R≠5) (hg0:5<w0.heap.size) (hd:d≤8) (hv:vY s R F) (f:Nat) (acc:List Rd.V) (q:Nat) (w:World) (hf:f<F)
  (hi:ziU w0 R s d acc q w) (hq:q≤s.size) (hb:Rd.blank (Rd.peek s.data.toList q)=false) (hfu:2*(s.size-q)<f) :
  Calls Tryz.prog 193 #[.pointer (some ⟨w0.heap.size,0,none⟩), .pointer (some ⟨w0.heap.size+1,0,none⟩), .pointer (some ⟨w0.heap.size+2,0,none⟩)] w fun e w'=>jE (ziU w0 R s d) (zlX w0 R) (Rd.stL s.data.toList d f acc q) e w':=by
 obtain ⟨i0,hii,hz0,hz1,hz2⟩:=info_parts zkl
 obtain ⟨lv,us,c1,c2,c3,c4⟩:=hi.row
 have cx:=hi.cx
 have cd:=hi.cd
 have hsz:=hi.size
 have hlen:=hi.len
 have hval:=hv f hf (d+1) q w hi.rd hi.seq hq (by omega) (by omega) hb hfu
 rw [show ((d+1:Nat):Int)=(d:Int)+1 by omega] at hval
 have hE:Rd.stL s.data.toList d f acc q=Rd.stL s.data.toList d f acc q:=rfl
 conv at hE=>rhs;unfold Rd.stL
 have HI:=hid hi
 have HC4:=hid c4
 have hlo:=hid (fun k hk=>World.ownsRow.lt c3 k hk)
 have hul:us.length=acc.length:=by have:=c3.1;omega
 have HADV:=hid (fun v q2 hx=>Rd.XT (l:=s.data.toList) (f:=f) (d:=d+1) (p:=q) (q:=q2) (v:=v) (by omega) (by rw [Ref.zg];omega) hb (by rw [Ref.zg];omega) hx)
 have hneL:some (w0.heap.size+2)≠lv.ownBlock:=fun e=>by have:=(hlo.out _ e.symm).1;omega
 have HNL:=hid hneL
 have SEQLT:=hid hg0
 clear hi hb hfu hv c4 hneL
 cases hx:Rd.qj s.data.toList f (d+1) q with
 | ok v q2=>
  rw [hx] at hval hE
  simp only at hE
  have hadv:=HADV.out v q2 hx
  rw [Ref.zg] at hadv
  have HE:=hid hE
  have hval2:=hval.mono (R':=fun e w'=>∃T x,e = .returned (.tuple #[.iface T x, .nilIface])∧ValAt w' (Blk w w') v (.iface T x)∧w.grownBy w' (some R)∧zu w' R s q2) (by
   rintro e w' ⟨u,rfl,h1,h2,h3⟩
   obtain ⟨T,x,rfl⟩:=h1.iface
   exact ⟨T,x,rfl,h1,h2,h3⟩)
  clear hval hx hE
  go_enter Tryz.func193,Tryz.ntmps193
  go_wp2_with (first
   | (go_at_call 93;refine hval2.mono ?_;rintro e w1 ⟨T,x,rfl,hva,hg1,hr1⟩;have k1:=hg1.cell c1 (by simp;omega);have o1:=xE c3 hg1 (by omega))
   | (at_builtin;refine wpList_append_own_at _ rfl _ _ 121 rfl (w0.heap.size+3) 114 i0 .nilIface 1 16 Tryz.underlying121 hii hz0 hz1 hz2 rfl (by decide) _ _ _ rfl (o1.alloc _) ⟨w1.heap.size,0,none⟩ 1 1 [.iface T x] rfl rfl ?c1 ?c2 ?c3 ?c4 ?c5 ?_))
  case c1=>exact cell_one_new _ _ _
  case c2=>intro u hu;simp at hu;subst hu;rfl
  case c3=>unfold maxLen;omega
  case c4=>omega
  case c5=>have:=hg1.size;simp;omega
  intro v' w3 ho3 hg3 _ hat3
  obtain ⟨a',c',rfl⟩:∃a c,v' = .slice a (acc.length+1) c:=by
   rcases ho3.2 with ⟨_,h⟩|⟨g,c,cur,h,_⟩
   ·omega
   ·exact ⟨_,_,h⟩
  have ba:=(Below.refl _ w1).alloc (Nat.le_refl _) (.cells #[.iface T x] 114)
  have hL1:w0.heap.size+2<w1.heap.size:=by have:=hg1.size;omega
  have k3:w3.cell? ⟨w0.heap.size+2,0,none⟩=some lv:=hg3.cell (cell_later ba k1) HNL.out
  have f3:w3.frozen? ⟨w0.heap.size+2,0,none⟩=false:=by
   rw [World.frozen?_of_block (w:=w1.alloc (.cells #[.iface T x] 114)) (a:=⟨w0.heap.size+2,0,none⟩) (hg3.block _ (by simp;omega) HNL.out),World.frozen?_of_block (w:=w1) (a:=⟨w0.heap.size+2,0,none⟩) (ba.block _ hL1),World.frozen?_of_block (w:=w) (a:=⟨w0.heap.size+2,0,none⟩) (hg1.block _ (by show w0.heap.size+2<_;omega) (by simp;omega))]
   exact c2
  have hk4:Keep w0.heap.size R w (w3.setCell ⟨w0.heap.size+2,0,none⟩ (.slice a' (acc.length+1) c')):=
   (((Keep.of hg1 (by omega)).trans (Keep.own (World.grownBy_alloc w1 _ none) (fun k hk=>by cases hk) (by omega))).trans (Keep.own hg3 (fun k hk=>by have:=(hlo.out k hk).1;omega) (by simp;omega))).trans (xq w3 _ (by omega))
  have HK4:=hid hk4
  clear hk4
  have hch:∀b,b<w1.heap.size→lv.ownBlock≠some b→b≠w0.heap.size+2→(w3.setCell ⟨w0.heap.size+2,0,none⟩ (.slice a' (acc.length+1) c')).heap[b]?=w1.heap[b]?:=fun b h1 h2 h3=>by
   rw [XH _ _ _ _ _ h3,hg3.block b (by simp;omega) (fun e=>h2 e.symm),ba.block b h1]
  have HCH:=hid hch
  clear hch
  go_wp2
  go_ret
  refine jE.of ?_ HE.out
  have hsz1:=hg1.size
  have hsz3:=hg3.size
  simp at hsz3
  have hx4:(w3.setCell ⟨w0.heap.size+2,0,none⟩ (.slice a' (acc.length+1) c')).cell? ⟨w0.heap.size,0,none⟩=some (.pointer (some ⟨R,0,none⟩)):=by
   rw [World.cell?_of_block (w:=w1) (a:=⟨w0.heap.size,0,none⟩) (HCH.out w0.heap.size (by omega) (fun e=>by have:=(hlo.out _ e).1;omega) (by omega))]
   exact hg1.cell cx (by simp;omega)
  have hd4:(w3.setCell ⟨w0.heap.size+2,0,none⟩ (.slice a' (acc.length+1) c')).cell? ⟨w0.heap.size+1,0,none⟩=some (.int .i64 (d:Int)):=by
   rw [World.cell?_of_block (w:=w1) (a:=⟨w0.heap.size+1,0,none⟩) (HCH.out (w0.heap.size+1) (by omega) (fun e=>by have:=(hlo.out _ e).1;omega) (by omega))]
   exact hg1.cell cd (by simp;omega)
  have hvl:∀k,(Value.slice a' (acc.length+1) c').ownBlock=some k→w0.heap.size+3≤k∧k<w3.heap.size:=fun k hk=>World.ownsRow.lt ho3 k hk
  refine ⟨rfl,hr1.same (HCH.out R (by have:=hr1.lt;omega) (fun e=>by have:=(hlo.out _ e).1;omega) (by omega)),(HI.out.seq.grown hg1 hRg).same (HCH.out _ (HI.out.seq.grown hg1 hRg).lt (fun e=>by have:=(hlo.out _ e).1;have:=HI.out.seq.lt;have:=SEQLT.out;omega) (by have:=SEQLT.out;omega)),xB HI.out.grown HK4.out,by rw [jO];omega,by simp;omega,hx4,hd4, .slice a' (acc.length+1) c',us++[.iface T x],yx _ _ _ _ k3,by rw [ZZ];exact f3,?_,?_⟩
  ·rw [List.length_append]
   exact ho3.kept (qg _ _ _ _) (.inr (fun e=>by have:=(hvl _ e).1;omega))
  ·intro j v2 u hv2 hu2
   rcases zik hu2 with ⟨hj,hu⟩|⟨hj,hu⟩
   ·have hv3:acc[j]?=some v2:=by
     rw [List.getElem?_append_left (by omega)] at hv2;exact hv2
    refine (HC4.out j v2 u hv3 hu).move (fun b hb=>⟨hb.1,by rw [jO];omega,fun e=>?_⟩) (fun b hb=>?_)
    ·rcases hat3 with h|h
     ·exact hb.2.2 (h.symm.trans e)
     ·rw [h] at e;simp at e;omega
    ·rw [HCH.out b (by omega) hb.2.2 (by omega)]
     exact hg1.block b hb.2.1 (by simp;omega)
   ·rw [hul] at hj
    subst hj hu
    simp at hv2
    subst hv2
    refine hva.move (fun b hb=>⟨by have:=hb.1;omega,by have:=hb.2;rw [jO];omega,fun e=>?_⟩) (fun b hb=>?_)
    ·have h1:=hb.1
     have h2:=hb.2
     rcases hat3 with h|h
     ·have:=(hlo.out b (h.symm.trans e)).2;omega
     ·rw [h] at e;simp at e;omega
    ·have h1:=hb.1
     have h2:=hb.2
     exact HCH.out b h2 (fun e=>by have:=(hlo.out b e).2;omega) (by omega)
 | err c q2=>
  rw [hx] at hval hE
  simp only at hE
  obtain ⟨T2,hT2⟩:=yX c q2
  have HE:=hid hE
  have HT:=hid hT2
  cases hsb:starts s q with
  | true=>
   rw [hsb] at hval
   have hval2:=hval.mono (R':=fun e w'=>(∃T x,e = .returned (.tuple #[.iface T x, .iface T2 (.agg #[.int .i64 (q2:Int)])]))∧w.grownBy w' (some R)) (by
    rintro e w' ⟨u,rfl,⟨ha,hb⟩,h2⟩
    obtain ⟨T,x,rfl⟩:=ha rfl
    exact ⟨⟨T,x,by rw [hT2]⟩,h2⟩)
   clear hval hx hE hT2
   go_enter Tryz.func193,Tryz.ntmps193
   go_wp2_with (first
    | (go_at_call 93;refine hval2.mono ?_;rintro e w1 ⟨⟨T,x,rfl⟩,hg1⟩;have k1:=hg1.cell c1 (by simp;omega);have o1:=xE c3 hg1 (by omega))
    | (at_builtin;refine wpList_append_own_at _ rfl _ _ 121 rfl (w0.heap.size+3) 114 i0 .nilIface 1 16 Tryz.underlying121 hii hz0 hz1 hz2 rfl (by decide) _ _ _ rfl (o1.alloc _) ⟨w1.heap.size,0,none⟩ 1 1 [.iface T x] rfl rfl ?c1 ?c2 ?c3 ?c4 ?c5 ?_))
   case c1=>exact cell_one_new _ _ _
   case c2=>intro u hu;simp at hu;subst hu;rfl
   case c3=>unfold maxLen;omega
   case c4=>omega
   case c5=>have:=hg1.size;simp;omega
   intro v' w3 ho3 hg3 _ _
   obtain ⟨a',c',rfl⟩:∃a c,v' = .slice a (acc.length+1) c:=by
    rcases ho3.2 with ⟨_,h⟩|⟨g,c,cur,h,_⟩
    ·omega
    ·exact ⟨_,_,h⟩
   have ba:=(Below.refl _ w1).alloc (Nat.le_refl _) (.cells #[.iface T x] 114)
   have hL1:w0.heap.size+2<w1.heap.size:=by have:=hg1.size;omega
   have k3:w3.cell? ⟨w0.heap.size+2,0,none⟩=some lv:=hg3.cell (cell_later ba k1) HNL.out
   have f3:w3.frozen? ⟨w0.heap.size+2,0,none⟩=false:=by
    rw [World.frozen?_of_block (w:=w1.alloc (.cells #[.iface T x] 114)) (a:=⟨w0.heap.size+2,0,none⟩) (hg3.block _ (by simp;omega) HNL.out),World.frozen?_of_block (w:=w1) (a:=⟨w0.heap.size+2,0,none⟩) (ba.block _ hL1),World.frozen?_of_block (w:=w) (a:=⟨w0.heap.size+2,0,none⟩) (hg1.block _ (by show w0.heap.size+2<_;omega) (by simp;omega))]
    exact c2
   have hk4:Keep w0.heap.size R w (w3.setCell ⟨w0.heap.size+2,0,none⟩ (.slice a' (acc.length+1) c')):=
    (((Keep.of hg1 (by omega)).trans (Keep.own (World.grownBy_alloc w1 _ none) (fun k hk=>by cases hk) (by omega))).trans (Keep.own hg3 (fun k hk=>by have:=(hlo.out k hk).1;omega) (by simp;omega))).trans (xq w3 _ (by omega))
   have HK4:=hid hk4
   clear hk4
   go_wp2
   go_ret
   refine jE.of ?_ HE.out
   exact ⟨by rw [HT.out];rfl,xB HI.out.grown HK4.out,_,yx _ _ _ _ k3⟩
  | false=>
   rw [hsb] at hval
   have hval2:=hval.mono (R':=fun e w'=>e = .returned (.tuple #[.nilIface, .iface T2 (.agg #[.int .i64 (q2:Int)])])∧w.grownBy w' (some R)) (by
    rintro e w' ⟨u,rfl,⟨ha,hb⟩,h2⟩
    obtain rfl:=hb rfl
    exact ⟨by rw [hT2],h2⟩)
   clear hval hx hE hT2
   go_enter Tryz.func193,Tryz.ntmps193
   go_wp2_with (first
    | (go_at_call 93;refine hval2.mono ?_;rintro e w1 ⟨rfl,hg1⟩;have k1:=hg1.cell c1 (by simp;omega);have o1:=xE c3 hg1 (by omega))
    | (at_builtin;refine wpList_append_own_at _ rfl _ _ 121 rfl (w0.heap.size+3) 114 i0 .nilIface 1 16 Tryz.underlying121 hii hz0 hz1 hz2 rfl (by decide) _ _ _ rfl (o1.alloc _) ⟨w1.heap.size,0,none⟩ 1 1 [.nilIface] rfl rfl ?c1 ?c2 ?c3 ?c4 ?c5 ?_))
   case c1=>exact cell_one_new _ _ _
   case c2=>intro u hu;simp at hu;subst hu;rfl
   case c3=>unfold maxLen;omega
   case c4=>omega
   case c5=>have:=hg1.size;simp;omega
   intro v' w3 ho3 hg3 _ _
   obtain ⟨a',c',rfl⟩:∃a c,v' = .slice a (acc.length+1) c:=by
    rcases ho3.2 with ⟨_,h⟩|⟨g,c,cur,h,_⟩
    ·omega
    ·exact ⟨_,_,h⟩
   have ba:=(Below.refl _ w1).alloc (Nat.le_refl _) (.cells #[.nilIface] 114)
   have hL1:w0.heap.size+2<w1.heap.size:=by have:=hg1.size;omega
   have k3:w3.cell? ⟨w0.heap.size+2,0,none⟩=some lv:=hg3.cell (cell_later ba k1) HNL.out
   have f3:w3.frozen? ⟨w0.heap.size+2,0,none⟩=false:=by
    rw [World.frozen?_of_block (w:=w1.alloc (.cells #[.nilIface] 114)) (a:=⟨w0.heap.size+2,0,none⟩) (hg3.block _ (by simp;omega) HNL.out),World.frozen?_of_block (w:=w1) (a:=⟨w0.heap.size+2,0,none⟩) (ba.block _ hL1),World.frozen?_of_block (w:=w) (a:=⟨w0.heap.size+2,0,none⟩) (hg1.block _ (by show w0.heap.size+2<_;omega) (by simp;omega))]
    exact c2
   have hk4:Keep w0.heap.size R w (w3.setCell ⟨w0.heap.size+2,0,none⟩ (.slice a' (acc.length+1) c')):=
    (((Keep.of hg1 (by omega)).trans (Keep.own (World.grownBy_alloc w1 _ none) (fun k hk=>by cases hk) (by omega))).trans (Keep.own hg3 (fun k hk=>by have:=(hlo.out k hk).1;omega) (by simp;omega))).trans (xq w3 _ (by omega))
   have HK4:=hid hk4
   clear hk4
   go_wp2
   go_ret
   refine jE.of ?_ HE.out
   exact ⟨by rw [HT.out];rfl,xB HI.out.grown HK4.out,_,yx _ _ _ _ k3⟩
def zlZ (w:World) (R:Nat) (s:ByteArray) (r:Rd.Res (List Rd.V)) (e:Ending) (w':World):Prop:=match r with
 | .ok vs q=>∃lv,e = .returned (.tuple #[lv, .nilIface])∧ValAt w' (Blk w w') (.list vs) (.iface 121 lv)∧w.grownBy w' (some R)∧zu w' R s q
 | .err c q=>∃lv,e = .returned (.tuple #[lv,uY c q])∧w.grownBy w' (some R)
theorem ze7 (s:ByteArray) (R d F:Nat) (w0:World) (hs:s.size≤4000) (hR:R<w0.heap.size) (hRg:R≠5) (hg0:5<w0.heap.size) (hv:vY s R F) :
  Reads s R 193 #[.pointer (some ⟨w0.heap.size,0,none⟩), .pointer (some ⟨w0.heap.size+1,0,none⟩), .pointer (some ⟨w0.heap.size+2,0,none⟩)] (Rd.stL s.data.toList d) F d (ziU w0 R s d) (zlX w0 R) where
 rd:=fun _ _ _ h=>h.rd
 mv:=fun _ _ _ _ _ h hq hg hr=>h.mv hR hRg hq hg hr
 bad:=fun _ _ _ h=>by
  obtain ⟨lv,us,c1,_⟩:=h.row
  exact ⟨h.grown,lv,c1⟩
 adv:=fun f a q a' q' hq hb hf h=>by
  unfold Rd.stL at h
  cases hx:Rd.qj s.data.toList f (d+1) q with
  | ok v q2=>
   rw [hx] at h
   injection h with h1 h2
   have:=Rd.XT (l:=s.data.toList) (f:=f) (d:=d+1) (by omega) (by rw [Ref.zg];omega) hb (by rw [Ref.zg];omega) hx
   rw [Ref.zg] at this
   rw [← h2];exact this
  | err c q2=>rw [hx] at h;cases h
 one:=fun f a q w hf hd hi hq hb hfu=>zjF s R d F w0 hs hR hRg hg0 hd hv f a q w hf hi hq hb hfu
theorem ziU.val {w0:World} {R:Nat} {s:ByteArray} {d:Nat} {acc:List Rd.V} {q:Nat} {w:World} (h:ziU w0 R s d acc q w):∃lv,w.cell? ⟨w0.heap.size+2,0,none⟩=some lv∧ValAt w (Blk w0 w) (.list acc) (.iface 121 lv):=by
 obtain ⟨lv,us,c1,c2,c3,c4⟩:=h.row
 refine ⟨lv,c1,?_⟩
 have hl:=c3.1
 have hel:∀(j:Nat) (v:Rd.V) (u:Value),acc[j]?=some v→us[j]?=some u→ValAt w (Blk w0 w) v u:=fun j v u hv hu=>(c4 j v u hv hu).move (fun b hb=>⟨by omega,hb.2.1⟩) (fun _ _=>rfl)
 rcases c3.2 with ⟨rfl,h0⟩|⟨g,cap,cur,rfl,hB,hg,hrest⟩
 ·have e:us=[]:=List.eq_nil_of_length_eq_zero (by omega)
  subst e
  exact .list acc [] none 0 (by simp;omega) (.inl rfl) hel
 ·have hc:=World.ownsRow.cells c3 (g:=g) rfl
  have hgl:=(Array.getElem?_eq_some_iff.1 hg).1
  have:=ValAt.list (w:=w) (S:=Blk w0 w) acc us (some ⟨g,0,none⟩) cap (by omega) (.inr ⟨g,rfl,⟨by omega,hgl⟩,fun j u hu=>by have:=hc j u hu;rw [addr_add] at this;simpa using this⟩) hel
  rwa [show us.length=acc.length by omega] at this
theorem zaf (w:World) (a:Value) (t:TypeId):(w.alloc (.cells #[a] t)).cell? ⟨w.heap.size,0,none⟩=some a:=by
 simp only [World.cell?,heap_alloc_new w (.cells #[a] t)];rfl
theorem zfI (w:World) (a:Value) (t:TypeId):(w.alloc (.cells #[a] t)).frozen? ⟨w.heap.size,0,none⟩=false:=by
 simp only [World.frozen?,heap_alloc_new w (.cells #[a] t)];rfl
theorem size_alloc (w:World) (o:Obj):(w.alloc o).heap.size=w.heap.size+1:=by simp
theorem Vk (w:World) (a b c:Value) (ta tb tc:TypeId) :
  (((w.alloc (.cells #[a] ta)).alloc (.cells #[b] tb)).alloc (.cells #[c] tc)).cell? ⟨w.heap.size,0,none⟩=some a ∧
  (((w.alloc (.cells #[a] ta)).alloc (.cells #[b] tb)).alloc (.cells #[c] tc)).cell? ⟨w.heap.size+1,0,none⟩=some b ∧
  (((w.alloc (.cells #[a] ta)).alloc (.cells #[b] tb)).alloc (.cells #[c] tc)).cell? ⟨w.heap.size+2,0,none⟩=some c ∧
  (((w.alloc (.cells #[a] ta)).alloc (.cells #[b] tb)).alloc (.cells #[c] tc)).frozen? ⟨w.heap.size+2,0,none⟩=false:=by
 have s1:=size_alloc w (.cells #[a] ta)
 have s2:=size_alloc (w.alloc (.cells #[a] ta)) (.cells #[b] tb)
 have c1:=zaf w a ta
 have c2:=zaf (w.alloc (.cells #[a] ta)) b tb
 have c3:=zaf ((w.alloc (.cells #[a] ta)).alloc (.cells #[b] tb)) c tc
 have f3:=zfI ((w.alloc (.cells #[a] ta)).alloc (.cells #[b] tb)) c tc
 rw [s1] at c2
 rw [s2,s1] at c3 f3
 exact ⟨(World.grownBy_alloc _ _ none).cell ((World.grownBy_alloc _ _ none).cell c1 (by simp)) (by simp),(World.grownBy_alloc _ _ none).cell c2 (by simp),c3,f3⟩
theorem zmp (s:ByteArray) (R p d F:Nat) (w:World) (hr:zu w R s p) (hq:qo w) (hRg:R≠5) (hp:p<s.size) (hs:s.size≤4000) (hd:d≤9) (hv:vY s R F) (hF:2*(s.size-(p+1))+1<F) :
  Calls Tryz.prog 145 #[.pointer (some ⟨R,0,none⟩), .int .i64 (d:Int)] w fun e w'=>zlZ w R s (Rd.vw s.data.toList (Rd.stL s.data.toList d) 93 F d [] p) e w':=by
 have hR:=hr.lt
 have hg0:=hq.lt
 have e1:∀args w,(callFunc 193 args).run Tryz.prog w = .ok (.enter 193 args) w:=enters_of Tryz.func193 (by kernel_rfl) rfl
 have hg3:∀A B C:Obj,w.grownBy (((w.alloc A).alloc B).alloc C) (some R):=fun A B C=>zf (zf (World.grownBy_alloc w A _) (World.grownBy_alloc _ B _)) (World.grownBy_alloc _ C _)
 have hinit:ziU w R s d [] p (((w.alloc (.cells #[.pointer (some ⟨R,0,none⟩)] 195)).alloc (.cells #[.int .i64 (d:Int)] 3)).alloc (.cells #[.slice none 0 0] 121)):=by
  have h3:=Vk w (.pointer (some ⟨R,0,none⟩)) (.int .i64 (d:Int)) (.slice none 0 0) 195 3 121
  exact ⟨((hr.alloc _).alloc _).alloc _,hq.grown (hg3 _ _ _) hRg,hg3 _ _ _,by simp,Nat.zero_le _,h3.1,h3.2.1, .slice none 0 0,[],h3.2.2.1,h3.2.2.2,World.ownsRow_nil _ _ _ _,fun j v u hv=>by simp at hv⟩
 have hit:=zhV s R p d 93 193 F _ (Rd.stL s.data.toList d) (ziU w R s d) (zlX w R) [] _ e1 (ze7 s R d F w hs hR hRg hg0 hv) hinit hp hs (by omega) (by decide) (by decide) hF
 clear hinit hv hr hq
 cases hx:Rd.vw s.data.toList (Rd.stL s.data.toList d) 93 F d [] p with
 | ok vs q=>
  rw [hx] at hit
  have hit2:=hit.mono (R':=fun e w'=>e = .returned .nilIface∧∃lv,w'.cell? ⟨w.heap.size+2,0,none⟩=some lv∧ValAt w' (Blk w w') (.list vs) (.iface 121 lv)∧w.grownBy w' (some R)∧zu w' R s q) (by
   rintro e w' ⟨rfl,h⟩
   obtain ⟨lv,h1,h2⟩:=h.val
   exact ⟨rfl,lv,h1,h2,h.grown,h.rd⟩)
  clear hit hx
  go_enter Tryz.func145,Tryz.ntmps145
  go_wp2_with (go_at_call 190;refine hit2.mono ?_;rintro e w1 ⟨rfl,lv,k1,hva,hg1,hr1⟩)
  go_ret2
  exact ⟨lv,rfl,hva,hg1,hr1⟩
 | err c q=>
  rw [hx] at hit
  have hit2:=hit.mono (R':=fun e w'=>e = .returned (uY c q)∧∃lv,w'.cell? ⟨w.heap.size+2,0,none⟩=some lv∧w.grownBy w' (some R)) (by
   rintro e w' ⟨rfl,h,lv,h1⟩
   exact ⟨rfl,lv,h1,h⟩)
  clear hit hx
  go_enter Tryz.func145,Tryz.ntmps145
  go_wp2_with (go_at_call 190;refine hit2.mono ?_;rintro e w1 ⟨rfl,lv,k1,hg1⟩)
  go_ret2
  exact ⟨lv,rfl,hg1⟩
end Go.Proofs.YtdakgnaojakldaaGreatDoor
