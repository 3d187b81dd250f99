/- P -/
import Derived.Test.YtdakgnaojakldaaGreatDoorP18
import Derived.RegionTactic
import Derived.ChangeAlike
set_option maxRecDepth 100000
set_option maxHeartbeats 2000000
namespace Go.Proofs.YtdakgnaojakldaaGreatDoor
open Go.RowKit
def zlV (w:World) (b:Nat):Prop:=w.cell? ⟨b,0,none⟩=some (.string ⟨#[]⟩)∧w.cell? ⟨b,1,none⟩=some .nilIface∧w.frozen? ⟨b,0,none⟩=false∧w.frozen? ⟨b,1,none⟩=false
theorem zlV.same {w w':World} {b:Nat} (h:zlV w b) (hh:w'.heap[b]?=w.heap[b]?):zlV w' b:=
 ⟨by rw [World.cell?_of_block (w:=w) (a:=⟨b,0,none⟩) hh];exact h.1,by rw [World.cell?_of_block (w:=w) (a:=⟨b,1,none⟩) hh];exact h.2.1,by rw [World.frozen?_of_block (w:=w) (a:=⟨b,0,none⟩) hh];exact h.2.2.1,by rw [World.frozen?_of_block (w:=w) (a:=⟨b,1,none⟩) hh];exact h.2.2.2⟩
structure MAt (w:World) (R:Nat) (s:ByteArray) (q:Nat) (w':World):Prop where
 grown:w.grownBy w' (some R)
 rd:zu w' R s q
 seq:qo w'
 box:zlV w' w.heap.size
 size:w.heap.size+1≤w'.heap.size
theorem MAt.next {w:World} {R:Nat} {s:ByteArray} {q q':Nat} {w1 w2:World} (hR:R<w.heap.size) (hRg:R≠5) (h:MAt w R s q w1) (hg:w1.grownBy w2 (some R)) (hr:zu w2 R s q'):MAt w R s q' w2:=
 ⟨zf h.grown hg,hr,h.seq.grown hg hRg,h.box.same (hg.block _ (by have:=h.size;omega) (by simp;omega)),Nat.le_trans h.size hg.size⟩
theorem MAt.below {w:World} {R:Nat} {s:ByteArray} {q:Nat} {w1 w2:World} (h:MAt w R s q w1) (hb:Below w1.heap.size w1 w2):MAt w R s q w2:=by
 have hg:w1.grownBy w2 none:=⟨hb.os,hb.tape,hb.output,hb.size,fun k hk _=>hb.block k hk⟩
 exact ⟨zf h.grown ⟨hb.os,hb.tape,hb.output,hb.size,fun k hk _=>hb.block k hk⟩,h.rd.same (hb.block R h.rd.lt),h.seq.same (hb.block _ h.seq.lt),h.box.same (hg.block _ (by have:=h.size;omega) (by simp)),Nat.le_trans h.size hb.size⟩
theorem zg2 {us:List (ByteArray×Value)} {nm:ByteArray} (h:us.any (fun m=>m.1.toList==nm.toList)=false):QH us nm = .nilIface:=by
 unfold QH
 have:us.find? (fun m=>m.1.toList==nm.toList)=none:=by
  rw [List.find?_eq_none]
  intro m hm hp
  rw [List.any_eq_false] at h
  exact h m hm hp
 rw [this]
theorem zis {us:List (ByteArray×Value)} {nm:ByteArray} (hif:∀m ∈ us,∃T x,m.2 = .iface T x) (h:us.any (fun m=>m.1.toList==nm.toList)=true):∃T x,QH us nm = .iface T x:=by
 unfold QH
 cases hf:us.find? (fun m=>m.1.toList==nm.toList) with
 | none=>
  rw [List.find?_eq_none] at hf
  rw [List.any_eq_true] at h
  obtain ⟨m,hm,hp⟩:=h
  exact absurd hp (hf m hm)
 | some m=>exact hif m (List.mem_of_find?_eq_some hf)
theorem zbb {α β:Type} {us:List (ByteArray×α)} {acc:List (ByteArray×β)} (h:us.map Prod.fst=acc.map Prod.fst) (nm:ByteArray):us.any (fun m=>m.1.toList==nm.toList)=acc.any (fun m=>m.1.toList==nm.toList):=by
 have e1:us.any (fun m=>m.1.toList==nm.toList)=(us.map Prod.fst).any (fun m=>m.toList==nm.toList):=by rw [List.any_map];rfl
 have e2:acc.any (fun m=>m.1.toList==nm.toList)=(acc.map Prod.fst).any (fun m=>m.toList==nm.toList):=by rw [List.any_map];rfl
 rw [e1,e2,h]
def ze5 (s:ByteArray) (acc:List (ByteArray×Rd.V)) (q:Nat):Bool:=match Rd.uf s.data.toList q with
 | .err _ _=>false
 | .ok t q'=>if acc.any (fun x=>x.1.toList==t.toList) then false
  else if Rd.peek s.data.toList (Rd.skip s.data.toList q')≠58 then false
  else starts s (Rd.skip s.data.toList (Rd.skip s.data.toList q'+1))
def VN (w:World) (R:Nat) (s:ByteArray) (sb:Bool) (r:Rd.Res (ByteArray×Rd.V)) (e:Ending) (w':World):Prop:=match r with
 | .ok m q=>∃u,e = .returned (.tuple #[.agg #[.string m.1,u], .nilIface])∧ValAt w' (Blk w w') m.2 u∧w.grownBy w' (some R)∧zu w' R s q∧qo w'
 | .err c q=>∃x u,e = .returned (.tuple #[.agg #[.string x,u],uY c q])∧((sb=true→∃T y,u = .iface T y)∧(sb=false→u = .nilIface))∧w.grownBy w' (some R)
theorem VN.of {w w':World} {R:Nat} {s:ByteArray} {sb sb':Bool} {r r':Rd.Res (ByteArray×Rd.V)} {e:Ending} (h:VN w R s sb r e w') (hr:r'=r) (hs:sb'=sb):VN w R s sb' r' e w':=hr ▸ hs ▸ h
theorem Y8 (s:ByteArray) (R p:Nat) (w:World) (hr:zu w R s p) (hp:p≤s.size) (hs:s.size≤4000) (hq:qo w) (hRg:R≠5) (r:Rd.Res ByteArray) (h:Rd.uf s.data.toList p=r) :
  Calls Tryz.prog 146 #[.pointer (some ⟨R,0,none⟩)] w fun e w'=>uB w R s r e w':=by
 rw [← h];exact zi8 s R p w hr hp hs hq hRg
theorem zjZ (s:ByteArray) (R p d f F:Nat) (w:World) (hr:zu w R s p) (hq:qo w) (hRg:R≠5) (hp:p≤s.size) (hs:s.size≤4000) (hd:d≤8) (hv:vY s R F) (hf:f<F) (hfu:2*(s.size-p)<f)
  (us:List (ByteArray×Value)) (acc:List (ByteArray×Rd.V)) (hn:us.map Prod.fst=acc.map Prod.fst) (hus:∀m ∈ us,∃T x,m.2 = .iface T x) (hul:us.length≤4000) (ao:Option Addr) (cap:Nat) (hm:∀w',w.grownBy w' (some R)→Xv w' ao us) :
  Calls Tryz.prog 192 #[.pointer (some ⟨R,0,none⟩), .int .i64 (d:Int), .slice ao us.length cap] w fun e w'=>VN w R s (ze5 s acc p) (Rd.ziW s.data.toList d f acc p) e w':=by
 have hRl:=hr.lt
 have hsl:=hid hq.lt
 have h0:MAt w R s p (w.alloc (.cells #[.string ⟨#[]⟩, .nilIface] 202)):=by
  have hg:=World.grownBy_alloc w (.cells #[.string ⟨#[]⟩, .nilIface] 202) (some R)
  have hn:=heap_alloc_new w (.cells #[.string ⟨#[]⟩, .nilIface] 202)
  refine ⟨hg,hr.alloc _,hq.grown hg hRg,⟨?_,?_,?_,?_⟩,by simp⟩
  ·simp only [World.cell?,hn];rfl
  ·simp only [World.cell?,hn];rfl
  ·simp only [World.frozen?,hn];rfl
  ·simp only [World.frozen?,hn];rfl
 have hE:Rd.ziW s.data.toList d f acc p=Rd.ziW s.data.toList d f acc p:=rfl
 conv at hE=>rhs;unfold Rd.ziW
 have hS:ze5 s acc p=ze5 s acc p:=rfl
 conv at hS=>rhs;unfold ze5
 clear hr hq
 cases hx:Rd.uf s.data.toList p with
 | err c q=>
  rw [hx] at hE hS
  simp only at hE hS
  have hc:=Rd.zel hx
  subst hc
  have hqt:=(Y8 s R p _ h0.rd hp hs h0.seq hRg _ hx).mono (R':=fun e w'=>e = .returned (.tuple #[.string ⟨#[]⟩, .iface 140 (.agg #[.int .i64 (q:Int)])])∧MAt w R s q w') (by
   rintro e w' ⟨rfl,h1,h2,h3⟩
   exact ⟨rfl,h0.next hRl hRg h1 h2⟩)
  have HE:=hid hE
  have HS:=hid hS
  clear hE hS hx h0
  go_enter Tryz.func192,Tryz.ntmps192
  go_wp2_with (go_at_call 146;refine hqt.mono ?_;rintro e w1 ⟨rfl,hm1⟩;have HM1:=hid hm1;obtain ⟨k0,k1,k2,k3⟩:=hm1.box;clear hm1)
  refine bodyPost_ret (v := .tuple #[.agg #[.string ⟨#[]⟩, .nilIface], .iface 140 (.agg #[.int .i64 (q:Int)])]) (by simp [results,Tryz.results192,go_sem,k0,k1]) rfl ?_
  refine VN.of ?_ HE.out HS.out
  exact ⟨_,_,rfl,⟨fun h=>absurd h (by decide),fun _=>rfl⟩,xB HM1.out.grown ((xq _ _ (Nat.le_refl _)).trans (xq _ _ (Nat.le_refl _)))⟩
 | ok t q1=>
  rw [hx] at hE hS
  simp only at hE hS
  have hq1:=Rd.KQ hx
  have hq0:=(Rd.Y9 hx).1
  rw [Ref.zg] at hq1
  have hqt:=(Y8 s R p _ h0.rd hp hs h0.seq hRg _ hx).mono (R':=fun e w'=>e = .returned (.tuple #[.string t, .nilIface])∧MAt w R s q1 w') (by
   rintro e w' ⟨rfl,h1,h2,h3⟩
   exact ⟨rfl,h0.next hRl hRg h1 h2⟩)
  have hget:∀w1,MAt w R s q1 w1→Calls Tryz.prog 51 #[.slice ao us.length cap, .string t] w1 fun e w'=>e = .returned (QH us t)∧MAt w R s q1 w':=fun w1 h=>by
   refine (zlN us ao cap t w1 (by omega) (hm w1 h.grown) hus).mono ?_
   rintro e w' ⟨rfl,hb⟩
   exact ⟨rfl,h.below hb⟩
  clear hx h0
  cases hany:acc.any (fun x=>x.1.toList==t.toList) with
  | true=>
   rw [hany,if_pos rfl] at hE hS
   obtain ⟨T,x,hgv⟩:=zis hus ((zbb hn t).trans hany)
   simp only [hgv] at hget
   have HE:=hid hE
   have HS:=hid hS
   clear hE hS hany hgv
   go_enter Tryz.func192,Tryz.ntmps192
   go_wp2_with (first
    | (go_at_call 146;refine hqt.mono ?_;rintro e w1 ⟨rfl,hm1⟩)
    | (go_at_call 51;refine (hget w1 hm1).mono ?_;rintro e w2 ⟨rfl,hm2⟩;have HM2:=hid hm2;obtain ⟨k0,k1,k2,k3⟩:=hm2.box;obtain ⟨g1,g2,g3⟩:=hm2.rd;clear hm1 hm2))
   have hq1i:1≤(q1:Int):=by omega
   go_region
   all_goals
    go_wp2
    refine bodyPost_ret (v := .tuple #[.agg #[.string ⟨#[]⟩, .nilIface], .iface 142 (.agg #[.int .i64 ((q1:Int)-1)])]) (by simp [results,Tryz.results192,go_sem,k0,k1]) rfl ?_
    refine VN.of ?_ HE.out HS.out
    refine ⟨_,_,by rw [zcA,show ((q1-1:Nat):Int)=(q1:Int)-1 by omega],⟨fun h=>absurd h (by decide),fun _=>rfl⟩,?_⟩
    have hkk:Keep w.heap.size R w2 ((w2.setCell ⟨w.heap.size,0,none⟩ (.string ⟨#[]⟩)).setCell ⟨w.heap.size,1,none⟩ .nilIface):=(xq _ _ (Nat.le_refl _)).trans (xq _ _ (Nat.le_refl _))
    exact xB HM2.out.grown ⟨hkk.os,hkk.tape,hkk.output,hkk.size,hkk.block⟩
  | false=>
   rw [hany,if_neg (by decide)] at hE hS
   have hgv:=zg2 ((zbb hn t).trans hany)
   simp only [hgv] at hget
   have hsk2:=Rd.yh s.data.toList q1 (by rw [Ref.zg];omega)
   rw [Ref.zg] at hsk2
   have hsg2:=Rd.xy s.data.toList q1
   obtain ⟨q2,hq2⟩:∃q,Rd.skip s.data.toList q1=q:=⟨_,rfl⟩
   rw [hq2] at hsk2 hsg2 hE hS
   have hs2:∀w1,MAt w R s q1 w1→Calls Tryz.prog 92 #[.pointer (some ⟨R,0,none⟩)] w1 fun e w'=>e = .returned (.tuple #[])∧MAt w R s q2 w':=fun w1 h=>by
    refine (yu s R q1 w1 h.rd hq1 hs).mono ?_
    rintro e w' ⟨rfl,h4,h5⟩
    rw [hq2] at h5
    exact ⟨rfl,h.next hRl hRg h4 h5⟩
   clear hany hgv hq2
   by_cases c58:Rd.peek s.data.toList q2=58
   ·rw [if_neg (by simp [c58])] at hE hS
    have hwd:Rd.xu s.data.toList ((ByteArray.mk #[58]).data.toList.map UInt8.toNat) q2 = .ok () (q2+1):=by
     show Rd.xu s.data.toList [58] q2=_
     simp only [Rd.xu]
     rw [if_pos c58]
    have hq2l:q2<s.size:=by
     have:=Rd.zx s.data.toList q2 (by omega)
     rwa [Ref.zg] at this
    have htk:∀w1,MAt w R s q2 w1→Calls Tryz.prog 147 #[.pointer (some ⟨R,0,none⟩), .string ⟨#[58]⟩] w1 fun e w'=>e = .returned .nilIface∧MAt w R s (q2+1) w':=fun w1 h=>by
     refine (Y1 s ⟨#[58]⟩ R q2 w1 h.rd hsk2 hs (by decide) (by decide) _ hwd).mono ?_
     rintro e w' ⟨rfl,h1,h2,h3⟩
     exact ⟨rfl,h.next hRl hRg h1 h2⟩
    have hsk3:=Rd.yh s.data.toList (q2+1) (by rw [Ref.zg];omega)
    rw [Ref.zg] at hsk3
    have hsg3:=Rd.xy s.data.toList (q2+1)
    have hnb3:=Rd.xX s.data.toList (q2+1)
    obtain ⟨q3,hq3⟩:∃q,Rd.skip s.data.toList (q2+1)=q:=⟨_,rfl⟩
    rw [hq3] at hsk3 hsg3 hnb3 hE hS
    have hs3:∀w1,MAt w R s (q2+1) w1→Calls Tryz.prog 92 #[.pointer (some ⟨R,0,none⟩)] w1 fun e w'=>e = .returned (.tuple #[])∧MAt w R s q3 w':=fun w1 h=>by
     refine (yu s R (q2+1) w1 h.rd (by omega) hs).mono ?_
     rintro e w' ⟨rfl,h4,h5⟩
     rw [hq3] at h5
     exact ⟨rfl,h.next hRl hRg h4 h5⟩
    have hval:=fun w1 (h:MAt w R s q3 w1)=>hv f hf (d+1) q3 w1 h.rd h.seq hsk3 (by omega) (by omega) hnb3 (by omega)
    simp only [show ((d+1:Nat):Int)=(d:Int)+1 by omega] at hval
    clear hq3 hv hwd c58 hnb3
    cases hvx:Rd.qj s.data.toList f (d+1) q3 with
    | ok v q4=>
     rw [hvx] at hE
     simp only [hvx] at hval
     simp only at hE
     have HE:=hid hE
     have hval2:∀w1,MAt w R s q3 w1→Calls Tryz.prog 93 #[.pointer (some ⟨R,0,none⟩), .int .i64 ((d:Int)+1)] w1 fun e w'=>∃T x,e = .returned (.tuple #[.iface T x, .nilIface])∧ValAt w' (Blk w1 w') v (.iface T x)∧MAt w R s q4 w':=fun w1 h=>by
      refine (hval w1 h).mono ?_
      rintro e w' ⟨u,rfl,h1,h2,h3⟩
      obtain ⟨T,x,rfl⟩:=h1.iface
      exact ⟨T,x,rfl,h1,h.next hRl hRg h2 h3⟩
     clear hE hS hval hvx
     go_enter Tryz.func192,Tryz.ntmps192
     go_wp2_with (first
      | (go_at_call 146;refine hqt.mono ?_;rintro e w1 ⟨rfl,hm1⟩)
      | (go_at_call 51;refine (hget w1 hm1).mono ?_;rintro e w2 ⟨rfl,hm2⟩)
      | (go_at_call 92;refine (hs3 w4 hm4).mono ?_;rintro e w5 ⟨rfl,hm5⟩)
      | (go_at_call 92;refine (hs2 w2 hm2).mono ?_;rintro e w3 ⟨rfl,hm3⟩)
      | (go_at_call 147;refine (htk w3 hm3).mono ?_;rintro e w4 ⟨rfl,hm4⟩)
      | (go_at_call 93;refine (hval2 w5 hm5).mono ?_;rintro e w6 ⟨T,x,rfl,hva,hm6⟩;have HM6:=hid hm6;obtain ⟨k0,k1,k2,k3⟩:=hm6.box;have hsz5:=hm5.size;clear hm6))
     refine bodyPost_ret (v := .tuple #[.agg #[.string t, .iface T x], .nilIface]) (by simp [results,Tryz.results192,go_sem,k0,k1]) rfl ?_
     refine VN.of (sb:=ze5 s acc p) ?_ HE.out rfl
     have hks:∀a b,Keep w.heap.size R w6 ((w6.setCell ⟨w.heap.size,0,none⟩ a).setCell ⟨w.heap.size,1,none⟩ b):=fun a b=>(xq _ _ (Nat.le_refl _)).trans (xq _ _ (Nat.le_refl _))
     have hss:∀a b k,k≠w.heap.size→((w6.setCell ⟨w.heap.size,0,none⟩ a).setCell ⟨w.heap.size,1,none⟩ b).heap[k]?=w6.heap[k]?:=fun a b k hk=>(XH _ _ _ _ _ hk).trans (XH _ _ _ _ _ hk)
     refine ⟨.iface T x,rfl,hva.move (fun b hb=>⟨by have:=hb.1;omega,by have:=hb.2;rw [jO,jO];exact this⟩) (fun b hb=>hss _ _ b (by have:=hb.1;omega)),xB HM6.out.grown (hks _ _),HM6.out.rd.same (hss _ _ R (by omega)),HM6.out.seq.same (hss _ _ _ (by have:=hsl.out;omega))⟩
    | err c q4=>
     rw [hvx] at hE
     simp only [hvx] at hval
     simp only at hE
     obtain ⟨T2,hT2⟩:=yX c q4
     have HE:=hid hE
     have HS:=hid hS
     have HT:=hid hT2
     cases hsb:starts s q3 with
     | true=>
      rw [hsb] at HS
      simp only [hsb] at hval
      have hval2:∀w1,MAt w R s q3 w1→Calls Tryz.prog 93 #[.pointer (some ⟨R,0,none⟩), .int .i64 ((d:Int)+1)] w1 fun e w'=>(∃T x,e = .returned (.tuple #[.iface T x, .iface T2 (.agg #[.int .i64 (q4:Int)])]))∧w.grownBy w' (some R)∧zlV w' w.heap.size:=fun w1 h=>by
       refine (hval w1 h).mono ?_
       rintro e w' ⟨u,rfl,⟨ha,hb⟩,h2⟩
       have hbx:=h.box.same (h2.block _ (by have:=h.size;omega) (by simp;omega))
       obtain ⟨T,x,rfl⟩:=ha rfl
       exact ⟨⟨T,x,by rw [hT2]⟩,zf h.grown h2,hbx⟩
      clear hE hS hval hvx hT2
      go_enter Tryz.func192,Tryz.ntmps192
      go_wp2_with (first
       | (go_at_call 146;refine hqt.mono ?_;rintro e w1 ⟨rfl,hm1⟩)
       | (go_at_call 51;refine (hget w1 hm1).mono ?_;rintro e w2 ⟨rfl,hm2⟩)
       | (go_at_call 92;refine (hs3 w4 hm4).mono ?_;rintro e w5 ⟨rfl,hm5⟩)
       | (go_at_call 92;refine (hs2 w2 hm2).mono ?_;rintro e w3 ⟨rfl,hm3⟩)
       | (go_at_call 147;refine (htk w3 hm3).mono ?_;rintro e w4 ⟨rfl,hm4⟩)
       | (go_at_call 93;refine (hval2 w5 hm5).mono ?_;rintro e w6 ⟨⟨T,x,rfl⟩,hg6,hbx6⟩;obtain ⟨k0,k1,k2,k3⟩:=hbx6))
      refine bodyPost_ret (v := .tuple #[.agg #[.string t, .iface T x], .iface T2 (.agg #[.int .i64 (q4:Int)])]) (by simp [results,Tryz.results192,go_sem,k0,k1]) rfl ?_
      refine VN.of ?_ HE.out HS.out
      exact ⟨t, .iface T x,by rw [HT.out],⟨fun _=>⟨T,x,rfl⟩,fun h=>absurd h (by decide)⟩,xB hg6 ((xq _ _ (Nat.le_refl _)).trans (xq _ _ (Nat.le_refl _)))⟩
     | false=>
      rw [hsb] at HS
      simp only [hsb] at hval
      have hval2:∀w1,MAt w R s q3 w1→Calls Tryz.prog 93 #[.pointer (some ⟨R,0,none⟩), .int .i64 ((d:Int)+1)] w1 fun e w'=>e = .returned (.tuple #[.nilIface, .iface T2 (.agg #[.int .i64 (q4:Int)])])∧w.grownBy w' (some R)∧zlV w' w.heap.size:=fun w1 h=>by
       refine (hval w1 h).mono ?_
       rintro e w' ⟨u,rfl,⟨ha,hb⟩,h2⟩
       have hbx:=h.box.same (h2.block _ (by have:=h.size;omega) (by simp;omega))
       obtain rfl:=hb rfl
       exact ⟨by rw [hT2],zf h.grown h2,hbx⟩
      clear hE hS hval hvx hT2
      go_enter Tryz.func192,Tryz.ntmps192
      go_wp2_with (first
       | (go_at_call 146;refine hqt.mono ?_;rintro e w1 ⟨rfl,hm1⟩)
       | (go_at_call 51;refine (hget w1 hm1).mono ?_;rintro e w2 ⟨rfl,hm2⟩)
       | (go_at_call 92;refine (hs3 w4 hm4).mono ?_;rintro e w5 ⟨rfl,hm5⟩)
       | (go_at_call 92;refine (hs2 w2 hm2).mono ?_;rintro e w3 ⟨rfl,hm3⟩)
       | (go_at_call 147;refine (htk w3 hm3).mono ?_;rintro e w4 ⟨rfl,hm4⟩)
       | (go_at_call 93;refine (hval2 w5 hm5).mono ?_;rintro e w6 ⟨rfl,hg6,hbx6⟩;obtain ⟨k0,k1,k2,k3⟩:=hbx6))
      refine bodyPost_ret (v := .tuple #[.agg #[.string t, .nilIface], .iface T2 (.agg #[.int .i64 (q4:Int)])]) (by simp [results,Tryz.results192,go_sem,k0,k1]) rfl ?_
      refine VN.of ?_ HE.out HS.out
      exact ⟨t, .nilIface,by rw [HT.out],⟨fun h=>absurd h (by decide),fun _=>rfl⟩,xB hg6 ((xq _ _ (Nat.le_refl _)).trans (xq _ _ (Nat.le_refl _)))⟩
   ·rw [if_pos c58] at hE hS
    have hwd:Rd.xu s.data.toList ((ByteArray.mk #[58]).data.toList.map UInt8.toNat) q2 = .err 2 q2:=by
     show Rd.xu s.data.toList [58] q2=_
     simp only [Rd.xu]
     rw [if_neg c58]
    have htk:∀w1,MAt w R s q2 w1→Calls Tryz.prog 147 #[.pointer (some ⟨R,0,none⟩), .string ⟨#[58]⟩] w1 fun e w'=>e = .returned (.iface 140 (.agg #[.int .i64 (q2:Int)]))∧MAt w R s q2 w':=fun w1 h=>by
     refine (Y1 s ⟨#[58]⟩ R q2 w1 h.rd hsk2 hs (by decide) (by decide) _ hwd).mono ?_
     rintro e w' ⟨rfl,h1,h2,h3⟩
     exact ⟨rfl,h.next hRl hRg h1 h2⟩
    have HE:=hid hE
    have HS:=hid hS
    clear hE hS hwd c58 hv
    go_enter Tryz.func192,Tryz.ntmps192
    go_wp2_with (first
     | (go_at_call 146;refine hqt.mono ?_;rintro e w1 ⟨rfl,hm1⟩)
     | (go_at_call 51;refine (hget w1 hm1).mono ?_;rintro e w2 ⟨rfl,hm2⟩)
     | (go_at_call 92;refine (hs2 w2 hm2).mono ?_;rintro e w3 ⟨rfl,hm3⟩)
     | (go_at_call 147;refine (htk w3 hm3).mono ?_;rintro e w4 ⟨rfl,hm4⟩;have HM4:=hid hm4;obtain ⟨k0,k1,k2,k3⟩:=hm4.box;clear hm4))
    refine bodyPost_ret (v := .tuple #[.agg #[.string ⟨#[]⟩, .nilIface], .iface 140 (.agg #[.int .i64 (q2:Int)])]) (by simp [results,Tryz.results192,go_sem,k0,k1]) rfl ?_
    refine VN.of ?_ HE.out HS.out
    exact ⟨_,_,rfl,⟨fun h=>absurd h (by decide),fun _=>rfl⟩,xB HM4.out.grown ((xq _ _ (Nat.le_refl _)).trans (xq _ _ (Nat.le_refl _)))⟩
def jc (us:List (ByteArray×Value)):List Value:=us.flatMap fun m=>[.string m.1,m.2]
theorem zbW (us:List (ByteArray×Value)):(jc us).length=us.length*2:=by
 induction us with
 | nil=>rfl
 | cons m us ih=>unfold jc at *;simp only [List.flatMap_cons,List.length_append,List.length_cons,ih];simp;omega
theorem Vr (us:List (ByteArray×Value)) (m:ByteArray×Value):jc (us++[m])=jc us++[.string m.1,m.2]:=by
 unfold jc;simp
theorem zbA (us:List (ByteArray×Value)) (j:Nat) (x:ByteArray×Value) (h:us[j]?=some x):(jc us)[j*2]?=some (.string x.1)∧(jc us)[j*2+1]?=some x.2:=by
 induction us generalizing j with
 | nil=>simp at h
 | cons m us ih=>
  cases j with
  | zero=>simp at h;subst h;exact ⟨rfl,rfl⟩
  | succ j=>
   have:=ih j (by simpa using h)
   have e:jc (m::us) = .string m.1::m.2::jc us:=rfl
   rw [e,show (j+1)*2=j*2+1+1 by omega,show j*2+1+1+1=(j*2+1)+1+1 by omega]
   simpa using this
theorem Vq {w:World} {base n cap:Nat} {ao:Option Addr} {us:List (ByteArray×Value)} (h:w.ownsRow base 202 2 (.slice ao n cap) n (jc us)):Xv w ao us:=by
 rcases h.2 with ⟨h1,h2⟩|⟨g,c,cur,h1,hB,hg,hrest⟩
 ·have:=h.1
  rw [zbW] at this
  exact .inl (List.eq_nil_of_length_eq_zero (by omega))
 ·injection h1 with h1 h2 h3
  subst h1
  have hc:=World.ownsRow.cells h (g:=g) rfl
  refine .inr ⟨g,0,rfl,fun j hj=>?_⟩
  have hx:us[j]?=some us[j]:=List.getElem?_eq_getElem hj
  obtain ⟨a1,a2⟩:=zbA us j _ hx
  have b1:=hc _ _ a1
  have b2:=hc _ _ a2
  rw [addr_add] at b1 b2
  exact ⟨b1,by rw [show 0+j*2+1=0+(j*2+1) by omega];exact b2⟩
theorem zjw:(Tryz.prog.info? 202).map (fun i=>(i.zero,i.size,i.bytes))=some (some (.agg #[.string ⟨#[]⟩, .nilIface]),2,32):=by kernel_rfl
structure ziY (w0:World) (R:Nat) (s:ByteArray) (d:Nat) (acc:List (ByteArray×Rd.V)) (q:Nat) (wr:World):Prop where
 rd:zu wr R s q
 seq:qo wr
 grown:w0.grownBy wr (some R)
 size:w0.heap.size+3≤wr.heap.size
 len:acc.length≤q
 cx:wr.cell? ⟨w0.heap.size,0,none⟩=some (.pointer (some ⟨R,0,none⟩))
 cd:wr.cell? ⟨w0.heap.size+1,0,none⟩=some (.int .i64 (d:Int))
 row:∃ao cap us,wr.cell? ⟨w0.heap.size+2,0,none⟩=some (.slice ao acc.length cap)∧wr.frozen? ⟨w0.heap.size+2,0,none⟩=false∧wr.ownsRow (w0.heap.size+3) 202 2 (.slice ao acc.length cap) acc.length (jc us)∧us.map Prod.fst=acc.map Prod.fst ∧
  ∀(j:Nat) (x:ByteArray×Rd.V) (u:ByteArray×Value),acc[j]?=some x→us[j]?=some u→ValAt wr (fun b=>w0.heap.size+3≤b∧b<wr.heap.size∧(Value.slice ao acc.length cap).ownBlock≠some b) x.2 u.2
theorem ziY.mv {w0:World} {R:Nat} {s:ByteArray} {d:Nat} {acc:List (ByteArray×Rd.V)} {q q':Nat} {w w':World} (hR:R<w0.heap.size) (hRg:R≠5) (h:ziY w0 R s d acc q w) (hq:q≤q') (hg:w.grownBy w' (some R)) (hr:zu w' R s q'):ziY w0 R s d acc q' w':=by
 obtain ⟨ao,cap,us,c1,c2,c3,cn,c4⟩:=h.row
 have hsz:=h.size
 have hgs:=hg.size
 refine ⟨hr,h.seq.grown hg hRg,zf h.grown hg,by omega,by have:=h.len;omega,hg.cell h.cx (by simp;omega),hg.cell h.cd (by simp;omega),ao,cap,us,hg.cell c1 (by simp;omega),?_,xE c3 hg (by omega),cn,fun j v u hv hu=>(c4 j v u hv hu).move (fun b hb=>⟨hb.1,by omega,hb.2.2⟩) (fun b hb=>hg.block b hb.2.1 (by simp;omega))⟩
 rw [World.frozen?_of_block (w:=w) (a:=⟨w0.heap.size+2,0,none⟩) (hg.block _ (by show w0.heap.size+2<_;omega) (by simp;omega))]
 exact c2
theorem ziw {s:ByteArray} {d f q q2:Nat} {acc:List (ByteArray×Rd.V)} {m:ByteArray×Rd.V} (hq:q≤s.size) (hfu:2*(s.size-q)<f) (h:Rd.ziW s.data.toList d f acc q = .ok m q2):q<q2∧q2≤s.size:=by
 unfold Rd.ziW at h
 cases hx:Rd.uf s.data.toList q with
 | err c q'=>rw [hx] at h;cases h
 | ok t q'=>
  rw [hx] at h
  simp only at h
  have h1:=(Rd.Y9 hx).1
  have h2:=Rd.KQ hx
  have h3:=Rd.xy s.data.toList q'
  split at h
  ·cases h
  split at h
  ·cases h
  rename_i h58
  have h4:Rd.skip s.data.toList q'<s.data.toList.length:=Rd.zx s.data.toList _ (by omega)
  have h5:=Rd.xy s.data.toList (Rd.skip s.data.toList q'+1)
  have h6:=Rd.yh s.data.toList (Rd.skip s.data.toList q'+1) (by omega)
  rw [Ref.zg] at h2 h4 h6
  cases hv:Rd.qj s.data.toList f (d+1) (Rd.skip s.data.toList (Rd.skip s.data.toList q'+1)) with
  | err c q''=>rw [hv] at h;cases h
  | ok v q''=>
   rw [hv] at h
   injection h with _ he
   have:=Rd.XT (l:=s.data.toList) (f:=f) (d:=d+1) (by omega) (by rw [Ref.zg];omega) (Rd.xX _ _) (by rw [Ref.zg];omega) hv
   rw [Ref.zg] at this
   omega
theorem zlz (s:ByteArray) (R d F:Nat) (w0:World) (hs:s.size≤4000) (hR:R<w0.heap.size) (hRg:R≠5) (hg0:5<w0.heap.size) (hd:d≤8) (hv:vY s R F) (f:Nat) (acc:List (ByteArray×Rd.V)) (q:Nat) (w:World) (hf:f<F)
  (hi:ziY w0 R s d acc q w) (hq:q≤s.size) (hfu:2*(s.size-q)<f) :
  Calls Tryz.prog 191 #[.pointer (some ⟨w0.heap.size,0,none⟩), .pointer (some ⟨w0.heap.size+1,0,none⟩), .pointer (some ⟨w0.heap.size+2,0,none⟩)] w fun e w'=>jE (ziY w0 R s d) (zlX w0 R) (Rd.stO s.data.toList d f acc q) e w':=by
 obtain ⟨i0,hii,hz0,hz1,hz2⟩:=info_parts zjw
 obtain ⟨ao,cap,us,c1,c2,c3,cn,c4⟩:=hi.row
 have cx:=hi.cx
 have cd:=hi.cd
 have hsz:=hi.size
 have hlen:=hi.len
 have hul:us.length=acc.length:=by have:=congrArg List.length cn;simpa using this
 have hus:∀m ∈ us,∃T x,m.2 = .iface T x:=fun m hm=>by
  obtain ⟨j,hj,rfl⟩:=List.getElem_of_mem hm
  exact (c4 j acc[j] us[j] (List.getElem?_eq_getElem (by omega)) (List.getElem?_eq_getElem hj)).iface
 have hmem:=zjZ s R q d f F w hi.rd hi.seq hRg hq hs hd hv hf hfu us acc cn hus (by omega) ao cap (fun w' hg=>Vq (xE c3 hg (by omega)))
 rw [hul] at hmem
 have hE:Rd.stO s.data.toList d f acc q=Rd.stO s.data.toList d f acc q:=rfl
 conv at hE=>rhs;unfold Rd.stO
 have HI:=hid hi
 have HC4:=hid c4
 have HCN:=hid cn
 have hlo:=hid (fun k hk=>World.ownsRow.lt c3 k hk)
 have HADV:=hid (fun m q2 hx=>ziw (s:=s) (d:=d) (f:=f) (q:=q) (q2:=q2) (acc:=acc) (m:=m) hq hfu hx)
 have hneL:some (w0.heap.size+2)≠(Value.slice ao acc.length cap).ownBlock:=fun e=>by have:=(hlo.out _ e.symm).1;omega
 have HNL:=hid hneL
 have SEQLT:=hid hg0
 clear hi hfu hv c4 hneL hus cn
 cases hx:Rd.ziW s.data.toList d f acc q with
 | ok m q2=>
  obtain ⟨nm,v⟩:=m
  rw [hx] at hmem hE
  simp only at hE
  have hadv:=HADV.out _ q2 hx
  have HE:=hid hE
  have hmem2:=hmem.mono (R':=fun e w'=>∃T x,e = .returned (.tuple #[.agg #[.string nm, .iface T x], .nilIface])∧ValAt w' (Blk w w') v (.iface T x)∧w.grownBy w' (some R)∧zu w' R s q2) (by
   rintro e w' ⟨u,rfl,h1,h2,h3,_⟩
   obtain ⟨T,x,rfl⟩:=h1.iface
   exact ⟨T,x,rfl,h1,h2,h3⟩)
  clear hmem hx hE
  go_enter Tryz.func191,Tryz.ntmps191
  go_wp2_with (first
   | (go_at_call 192;refine hmem2.mono ?_;rintro e w1 ⟨T,x,rfl,hva,hg1,hr1⟩;have k1:=hg1.cell c1 (by simp;omega);have k1':=fun O:Obj=>cell_later ((Below.refl _ w1).alloc (Nat.le_refl _) O) k1;have o1:=xE c3 hg1 (by omega))
   | (at_builtin;refine wpList_append_own_at _ rfl _ _ 118 rfl (w0.heap.size+3) 202 i0 (.agg #[.string ⟨#[]⟩, .nilIface]) 2 32 Tryz.underlying118 hii hz0 hz1 hz2 rfl (by decide) _ _ _ rfl ((o1.alloc _).alloc _) ⟨w1.heap.size+1,0,none⟩ 1 1 [.string nm, .iface T x] rfl rfl ?c1 ?c2 ?c3 ?c4 ?c5 ?_))
  case c1=>exact xU _ _ _ _ _ _ (by simp)
  case c2=>intro u hu;simp at hu;rcases hu with rfl|rfl<;>rfl
  case c3=>unfold maxLen;omega
  case c4=>omega
  case c5=>have:=hg1.size;simp;omega
  intro v' w3 ho3 hg3 _ hat3
  obtain ⟨a',c',rfl⟩:∃a c,v' = .slice a (acc.length+1) c:=by
   rcases ho3.2 with ⟨_,h⟩|⟨g,c,cur,h,_⟩
   ·omega
   ·exact ⟨_,_,h⟩
  have ba0:=(Below.refl _ w1).alloc (Nat.le_refl _) (.cells #[.string nm, .iface T x] 202)
  have ba:=ba0.trans (((Below.refl _ _).alloc (Nat.le_refl _) (.cells #[.string nm, .iface T x] 202)).mono ba0.size)
  have hL1:w0.heap.size+2<w1.heap.size:=by have:=hg1.size;omega
  have k3:w3.cell? ⟨w0.heap.size+2,0,none⟩=some (.slice ao acc.length cap):=hg3.cell (cell_later ba k1) HNL.out
  have f3:w3.frozen? ⟨w0.heap.size+2,0,none⟩=false:=by
   rw [World.frozen?_of_block (w:=(w1.alloc (.cells #[.string nm, .iface T x] 202)).alloc (.cells #[.string nm, .iface T x] 202)) (a:=⟨w0.heap.size+2,0,none⟩) (hg3.block _ (by simp;omega) HNL.out),World.frozen?_of_block (w:=w1) (a:=⟨w0.heap.size+2,0,none⟩) (ba.block _ hL1),World.frozen?_of_block (w:=w) (a:=⟨w0.heap.size+2,0,none⟩) (hg1.block _ (by show w0.heap.size+2<_;omega) (by simp;omega))]
   exact c2
  have hk4:Keep w0.heap.size R w (w3.setCell ⟨w0.heap.size+2,0,none⟩ (.slice a' (acc.length+1) c')):=
   ((((Keep.of hg1 (by omega)).trans (Keep.own (World.grownBy_alloc w1 _ none) (fun k hk=>by cases hk) (by omega))).trans (Keep.own (World.grownBy_alloc _ _ none) (fun k hk=>by cases hk) (by simp;omega))).trans (Keep.own hg3 (fun k hk=>by have:=(hlo.out k hk).1;omega) (by simp;omega))).trans (xq w3 _ (by omega))
  have HK4:=hid hk4
  clear hk4
  have hch:∀b,b<w1.heap.size→(Value.slice ao acc.length cap).ownBlock≠some b→b≠w0.heap.size+2→(w3.setCell ⟨w0.heap.size+2,0,none⟩ (.slice a' (acc.length+1) c')).heap[b]?=w1.heap[b]?:=fun b h1 h2 h3=>by
   rw [XH _ _ _ _ _ h3,hg3.block b (by simp;omega) (fun e=>h2 e.symm),ba.block b h1]
  have HCH:=hid hch
  clear hch
  go_wp2
  go_ret
  refine jE.of ?_ HE.out
  have hsz1:=hg1.size
  have hsz3:=hg3.size
  simp at hsz3
  have hx4:(w3.setCell ⟨w0.heap.size+2,0,none⟩ (.slice a' (acc.length+1) c')).cell? ⟨w0.heap.size,0,none⟩=some (.pointer (some ⟨R,0,none⟩)):=by
   rw [World.cell?_of_block (w:=w1) (a:=⟨w0.heap.size,0,none⟩) (HCH.out w0.heap.size (by omega) (fun e=>by have:=(hlo.out _ e).1;omega) (by omega))]
   exact hg1.cell cx (by simp;omega)
  have hd4:(w3.setCell ⟨w0.heap.size+2,0,none⟩ (.slice a' (acc.length+1) c')).cell? ⟨w0.heap.size+1,0,none⟩=some (.int .i64 (d:Int)):=by
   rw [World.cell?_of_block (w:=w1) (a:=⟨w0.heap.size+1,0,none⟩) (HCH.out (w0.heap.size+1) (by omega) (fun e=>by have:=(hlo.out _ e).1;omega) (by omega))]
   exact hg1.cell cd (by simp;omega)
  have hvl:∀k,(Value.slice a' (acc.length+1) c').ownBlock=some k→w0.heap.size+3≤k∧k<w3.heap.size:=fun k hk=>World.ownsRow.lt ho3 k hk
  have hap:(acc++[(nm,v)]).length=acc.length+1:=by simp
  refine ⟨rfl,hr1.same (HCH.out R (by have:=hr1.lt;omega) (fun e=>by have:=(hlo.out _ e).1;omega) (by omega)),(HI.out.seq.grown hg1 hRg).same (HCH.out _ (HI.out.seq.grown hg1 hRg).lt (fun e=>by have:=(hlo.out _ e).1;have:=HI.out.seq.lt;have:=SEQLT.out;omega) (by have:=SEQLT.out;omega)),xB HI.out.grown HK4.out,by rw [jO];omega,by simp;omega,hx4,hd4,a',c',us++[(nm, .iface T x)],?_,by rw [ZZ];exact f3,?_,?_,?_⟩
  ·rw [hap];exact yx _ _ _ _ k3
  ·rw [hap,Vr]
   exact ho3.kept (qg _ _ _ _) (.inr (fun e=>by have:=(hvl _ e).1;omega))
  ·rw [List.map_append,List.map_append,HCN.out];rfl
  ·intro j v2 u hv2 hu2
   rw [hap]
   rcases zik hu2 with ⟨hj,hu⟩|⟨hj,hu⟩
   ·have hv3:acc[j]?=some v2:=by
     rw [List.getElem?_append_left (by omega)] at hv2;exact hv2
    refine (HC4.out j v2 u hv3 hu).move (fun b hb=>⟨hb.1,by rw [jO];omega,fun e=>?_⟩) (fun b hb=>?_)
    ·rcases hat3 with h|h
     ·exact hb.2.2 (h.symm.trans e)
     ·rw [h] at e;simp at e;omega
    ·rw [HCH.out b (by omega) hb.2.2 (by omega)]
     exact hg1.block b hb.2.1 (by simp;omega)
   ·rw [hul] at hj
    subst hj hu
    simp at hv2
    subst hv2
    refine hva.move (fun b hb=>⟨by have:=hb.1;omega,by have:=hb.2;rw [jO];omega,fun e=>?_⟩) (fun b hb=>?_)
    ·have h1:=hb.1
     have h2:=hb.2
     rcases hat3 with h|h
     ·have:=(hlo.out b (h.symm.trans e)).2;omega
     ·rw [h] at e;simp at e;omega
    ·have h1:=hb.1
     have h2:=hb.2
     exact HCH.out b h2 (fun e=>by have:=(hlo.out b e).2;omega) (by omega)
 | err c q2=>
  rw [hx] at hmem hE
  simp only at hE
  obtain ⟨T2,hT2⟩:=yX c q2
  have HE:=hid hE
  have HT:=hid hT2
  cases hsb:ze5 s acc q with
  | true=>
   rw [hsb] at hmem
   have hmem2:=hmem.mono (R':=fun e w'=>(∃nm T x,e = .returned (.tuple #[.agg #[.string nm, .iface T x], .iface T2 (.agg #[.int .i64 (q2:Int)])]))∧w.grownBy w' (some R)) (by
    rintro e w' ⟨nm,u,rfl,⟨ha,hb⟩,h2⟩
    obtain ⟨T,x,rfl⟩:=ha rfl
    exact ⟨⟨nm,T,x,by rw [hT2]⟩,h2⟩)
   clear hmem hx hE hT2
   go_enter Tryz.func191,Tryz.ntmps191
   go_wp2_with (first
    | (go_at_call 192;refine hmem2.mono ?_;rintro e w1 ⟨⟨nm,T,x,rfl⟩,hg1⟩;have k1:=hg1.cell c1 (by simp;omega);have k1':=fun O:Obj=>cell_later ((Below.refl _ w1).alloc (Nat.le_refl _) O) k1;have o1:=xE c3 hg1 (by omega))
    | (at_builtin;refine wpList_append_own_at _ rfl _ _ 118 rfl (w0.heap.size+3) 202 i0 (.agg #[.string ⟨#[]⟩, .nilIface]) 2 32 Tryz.underlying118 hii hz0 hz1 hz2 rfl (by decide) _ _ _ rfl ((o1.alloc _).alloc _) ⟨w1.heap.size+1,0,none⟩ 1 1 [.string nm, .iface T x] rfl rfl ?c1 ?c2 ?c3 ?c4 ?c5 ?_))
   case c1=>exact xU _ _ _ _ _ _ (by simp)
   case c2=>intro u hu;simp at hu;rcases hu with rfl|rfl<;>rfl
   case c3=>unfold maxLen;omega
   case c4=>omega
   case c5=>have:=hg1.size;simp;omega
   intro v' w3 ho3 hg3 _ _
   obtain ⟨a',c',rfl⟩:∃a c,v' = .slice a (acc.length+1) c:=by
    rcases ho3.2 with ⟨_,h⟩|⟨g,c,cur,h,_⟩
    ·omega
    ·exact ⟨_,_,h⟩
   have ba0:=(Below.refl _ w1).alloc (Nat.le_refl _) (.cells #[.string nm, .iface T x] 202)
   have ba:=ba0.trans (((Below.refl _ _).alloc (Nat.le_refl _) (.cells #[.string nm, .iface T x] 202)).mono ba0.size)
   have hL1:w0.heap.size+2<w1.heap.size:=by have:=hg1.size;omega
   have k3:w3.cell? ⟨w0.heap.size+2,0,none⟩=some (.slice ao acc.length cap):=hg3.cell (cell_later ba k1) HNL.out
   have f3:w3.frozen? ⟨w0.heap.size+2,0,none⟩=false:=by
    rw [World.frozen?_of_block (w:=(w1.alloc (.cells #[.string nm, .iface T x] 202)).alloc (.cells #[.string nm, .iface T x] 202)) (a:=⟨w0.heap.size+2,0,none⟩) (hg3.block _ (by simp;omega) HNL.out),World.frozen?_of_block (w:=w1) (a:=⟨w0.heap.size+2,0,none⟩) (ba.block _ hL1),World.frozen?_of_block (w:=w) (a:=⟨w0.heap.size+2,0,none⟩) (hg1.block _ (by show w0.heap.size+2<_;omega) (by simp;omega))]
    exact c2
   have hk4:Keep w0.heap.size R w (w3.setCell ⟨w0.heap.size+2,0,none⟩ (.slice a' (acc.length+1) c')):=
    ((((Keep.of hg1 (by omega)).trans (Keep.own (World.grownBy_alloc w1 _ none) (fun k hk=>by cases hk) (by omega))).trans (Keep.own (World.grownBy_alloc _ _ none) (fun k hk=>by cases hk) (by simp;omega))).trans (Keep.own hg3 (fun k hk=>by have:=(hlo.out k hk).1;omega) (by simp;omega))).trans (xq w3 _ (by omega))
   have HK4:=hid hk4
   clear hk4
   go_wp2
   go_ret
   refine jE.of ?_ HE.out
   exact ⟨by rw [HT.out];rfl,xB HI.out.grown HK4.out,_,yx _ _ _ _ k3⟩
  | false=>
   rw [hsb] at hmem
   have hmem2:=hmem.mono (R':=fun e w'=>(∃nm,e = .returned (.tuple #[.agg #[.string nm, .nilIface], .iface T2 (.agg #[.int .i64 (q2:Int)])]))∧w.grownBy w' (some R)) (by
    rintro e w' ⟨nm,u,rfl,⟨ha,hb⟩,h2⟩
    obtain rfl:=hb rfl
    exact ⟨⟨nm,by rw [hT2]⟩,h2⟩)
   clear hmem hx hE hT2
   go_enter Tryz.func191,Tryz.ntmps191
   go_wp2_with (first
    | (go_at_call 192;refine hmem2.mono ?_;rintro e w1 ⟨⟨nm,rfl⟩,hg1⟩;have k1:=hg1.cell c1 (by simp;omega);have k1':=fun O:Obj=>cell_later ((Below.refl _ w1).alloc (Nat.le_refl _) O) k1;have o1:=xE c3 hg1 (by omega))
    | (at_builtin;refine wpList_append_own_at _ rfl _ _ 118 rfl (w0.heap.size+3) 202 i0 (.agg #[.string ⟨#[]⟩, .nilIface]) 2 32 Tryz.underlying118 hii hz0 hz1 hz2 rfl (by decide) _ _ _ rfl ((o1.alloc _).alloc _) ⟨w1.heap.size+1,0,none⟩ 1 1 [.string nm, .nilIface] rfl rfl ?c1 ?c2 ?c3 ?c4 ?c5 ?_))
   case c1=>exact xU _ _ _ _ _ _ (by simp)
   case c2=>intro u hu;simp at hu;rcases hu with rfl|rfl<;>rfl
   case c3=>unfold maxLen;omega
   case c4=>omega
   case c5=>have:=hg1.size;simp;omega
   intro v' w3 ho3 hg3 _ _
   obtain ⟨a',c',rfl⟩:∃a c,v' = .slice a (acc.length+1) c:=by
    rcases ho3.2 with ⟨_,h⟩|⟨g,c,cur,h,_⟩
    ·omega
    ·exact ⟨_,_,h⟩
   have ba0:=(Below.refl _ w1).alloc (Nat.le_refl _) (.cells #[.string nm, .nilIface] 202)
   have ba:=ba0.trans (((Below.refl _ _).alloc (Nat.le_refl _) (.cells #[.string nm, .nilIface] 202)).mono ba0.size)
   have hL1:w0.heap.size+2<w1.heap.size:=by have:=hg1.size;omega
   have k3:w3.cell? ⟨w0.heap.size+2,0,none⟩=some (.slice ao acc.length cap):=hg3.cell (cell_later ba k1) HNL.out
   have f3:w3.frozen? ⟨w0.heap.size+2,0,none⟩=false:=by
    rw [World.frozen?_of_block (w:=(w1.alloc (.cells #[.string nm, .nilIface] 202)).alloc (.cells #[.string nm, .nilIface] 202)) (a:=⟨w0.heap.size+2,0,none⟩) (hg3.block _ (by simp;omega) HNL.out),World.frozen?_of_block (w:=w1) (a:=⟨w0.heap.size+2,0,none⟩) (ba.block _ hL1),World.frozen?_of_block (w:=w) (a:=⟨w0.heap.size+2,0,none⟩) (hg1.block _ (by show w0.heap.size+2<_;omega) (by simp;omega))]
    exact c2
   have hk4:Keep w0.heap.size R w (w3.setCell ⟨w0.heap.size+2,0,none⟩ (.slice a' (acc.length+1) c')):=
    ((((Keep.of hg1 (by omega)).trans (Keep.own (World.grownBy_alloc w1 _ none) (fun k hk=>by cases hk) (by omega))).trans (Keep.own (World.grownBy_alloc _ _ none) (fun k hk=>by cases hk) (by simp;omega))).trans (Keep.own hg3 (fun k hk=>by have:=(hlo.out k hk).1;omega) (by simp;omega))).trans (xq w3 _ (by omega))
   have HK4:=hid hk4
   clear hk4
   go_wp2
   go_ret
   refine jE.of ?_ HE.out
   exact ⟨by rw [HT.out];rfl,xB HI.out.grown HK4.out,_,yx _ _ _ _ k3⟩
end Go.Proofs.YtdakgnaojakldaaGreatDoor
