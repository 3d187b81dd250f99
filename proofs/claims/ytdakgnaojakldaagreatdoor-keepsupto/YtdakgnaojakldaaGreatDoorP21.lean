/- P -/
import Derived.Test.YtdakgnaojakldaaGreatDoorP17
import Derived.Test.YtdakgnaojakldaaGreatDoorP20
set_option maxRecDepth 100000
set_option maxHeartbeats 1000000
namespace Go.Proofs.YtdakgnaojakldaaGreatDoor
open Go.RowKit
def yc (w:World) (base:Nat) (xs:List Value) (j:Nat) (s:xH):Prop:=
 ∃l1 l2 l3 lc,xs[j*8]?=some (.string s.eff)∧xs[j*8+1]?=some (.bool s.who.1)∧xs[j*8+2]?=some l1∧xs[j*8+3]?=some (.bool s.act.1)∧xs[j*8+4]?=some l2∧xs[j*8+5]?=some (.bool s.on.1)∧xs[j*8+6]?=some l3∧xs[j*8+7]?=some lc ∧
  zh w base l1 s.who.2∧zh w base l2 s.act.2∧zh w base l3 s.on.2∧qc w base lc s.ifs
theorem yc.below {w w':World} {base:Nat} {xs:List Value} {j:Nat} {s:xH} (h:yc w base xs j s) (hb:Below w.heap.size w w'):yc w' base xs j s:=by
 obtain ⟨l1,l2,l3,lc,h0,h1,h2,h3,h4,h5,h6,h7,g1,g2,g3,g4⟩:=h
 exact ⟨l1,l2,l3,lc,h0,h1,h2,h3,h4,h5,h6,h7,g1.below hb,g2.below hb,g3.below hb,g4.below hb⟩
theorem yc.set {w:World} {base:Nat} {xs:List Value} {j:Nat} {s:xH} (h:yc w base xs j s) {b:Nat} (hb:b<base) (o:Nat) (u:Value):yc (w.setCell ⟨b,o,none⟩ u) base xs j s:=by
 obtain ⟨l1,l2,l3,lc,h0,h1,h2,h3,h4,h5,h6,h7,g1,g2,g3,g4⟩:=h
 exact ⟨l1,l2,l3,lc,h0,h1,h2,h3,h4,h5,h6,h7,zA g1 hb o u,zA g2 hb o u,zA g3 hb o u,g4.set hb o u⟩
theorem yc.mono {w:World} {base base':Nat} {xs:List Value} {j:Nat} {s:xH} (h:yc w base xs j s) (hb:base'≤base):yc w base' xs j s:=by
 obtain ⟨l1,l2,l3,lc,h0,h1,h2,h3,h4,h5,h6,h7,g1,g2,g3,g4⟩:=h
 exact ⟨l1,l2,l3,lc,h0,h1,h2,h3,h4,h5,h6,h7,g1.mono hb,g2.mono hb,g3.mono hb,g4.mono hb⟩
def xJ (w:World) (base:Nat) (lv:Value) (ss:List xH):Prop:=
 ∃xs,w.ownsRow base 133 8 lv ss.length xs∧∀j,(h:j<ss.length)→yc w base xs j ss[j]
def zjq (g:Nat) (lb:Array Value) (el:Nat→Value) (n:Nat) (cs:Nat→xH) (c:Nat→Nat) (w:World):Prop:=
 ∀W j,j<n→Below w.heap.size w W→Calls Tryz.prog g (#[el j]++lb) W fun e w'=>
  ∃l1 l2 l3 lc u,e = .returned (.tuple #[.agg #[.string (cs j).eff, .bool (cs j).who.1,l1, .bool (cs j).act.1,l2, .bool (cs j).on.1,l3,lc],u])∧FV (c j) u∧Below W.heap.size W w' ∧
   zh w' W.heap.size l1 (cs j).who.2∧zh w' W.heap.size l2 (cs j).act.2∧zh w' W.heap.size l3 (cs j).on.2∧qc w' W.heap.size lc (cs j).ifs
def zhp (w:World) (n:Nat) (cs:Nat→xH) (c:Nat→Nat) (e:Ending) (w':World):Prop:=
 ∃(oa fa:Option Addr) (oc fc:Nat) (ys:List Value),e = .returned (.tuple #[.slice oa n oc, .slice fa n fc])∧ys.length=n∧yT w' fa ys∧FVs ((List.range n).map c) ys∧Below w.heap.size w w' ∧
  xJ w' w.heap.size (.slice oa n oc) ((List.range n).map cs)
theorem ziq:(Tryz.prog.info? 133).map (fun i=>(i.zero,i.size,i.bytes))=some (some (.agg #[.string ⟨#[]⟩, .bool false, .slice none 0 0, .bool false, .slice none 0 0, .bool false, .slice none 0 0, .slice none 0 0]),8,136):=by kernel_rfl
theorem zer {w:World} {base:Nat} {e:TypeId} {v:Value} {n:Nat} {xs:List Value} (h:w.ownsRow base e 8 v n xs) {b:Nat} (hb:v.ownBlock≠some b) (o:Nat) (u:Value):(w.setCell ⟨b,o,none⟩ u).ownsRow base e 8 v n xs:=
 ownsRow_setCell_other h (a:=⟨b,o,none⟩) hb u
theorem zhv (us:List Value) (ao:Option Addr) (cap g:Nat) (lb:Array Value) (cs:Nat→xH) (c:Nat→Nat) (w:World) (hn:us.length≤1000) (eg:∀args w,(callFunc g args).run Tryz.prog w = .ok (.enter g args) w)
  (hm:yT w ao us) (hif:∀u ∈ us,u = .nilIface∨∃T x,u = .iface T x) (hp:zjq g lb (fun j=>us.getD j .nilIface) us.length cs c w) :
  Calls Tryz.prog 52 #[.slice ao us.length cap, .func (.func g) #[] lb] w (zhp w us.length cs c):=by
 obtain ⟨i0,hi,hz0,hz1,hz2⟩:=info_parts ziq
 obtain ⟨i1,hj,hy0,hy1,hy2⟩:=info_parts (show (Tryz.prog.info? 74).map (fun i=>(i.zero,i.size,i.bytes))=some (some .nilIface,1,16) by kernel_rfl)
 obtain ⟨n,hnn⟩:∃n,us.length=n:=⟨_,rfl⟩
 rw [hnn] at hn hp ⊢
 have HM:=hid hm
 have HIF:=hid hif
 have HP:=hid hp
 have HNN:=hid hnn
 clear hm hif hp hnn
 go_enter Tryz.func52,Tryz.ntmps52
 go_wp2_with (at_make;refine wpList_make_full _ rfl _ _ 70 rfl w.heap.size 133 i0 (.agg #[.string ⟨#[]⟩, .bool false, .slice none 0 0, .bool false, .slice none 0 0, .bool false, .slice none 0 0, .slice none 0 0]) 8 Tryz.underlying70 hi hz0 hz1 _ _ _ _ n rfl rfl ?_ ?_ ?_ ?_ ?_ ?_)
 ·omega
 ·omega
 ·rw [hz2];omega
 ·unfold maxLen;omega
 ·omega
 intro w1 own1 grow1
 obtain ⟨zs,hzs⟩:∃zs,(madeCells #[.string ⟨#[]⟩, .bool false, .slice none 0 0, .bool false, .slice none 0 0, .bool false, .slice none 0 0, .slice none 0 0] (n*8)).toList=zs:=⟨_,rfl⟩
 rw [hzs] at own1
 have bel1:Below w.heap.size w w1:=(Below.refl _ w).grown grow1 (Nat.le_refl _) (fun k hk=>by cases hk)
 clear hzs
 go_wp2_with (at_make;refine wpList_make_full _ rfl _ _ 126 rfl w.heap.size 74 i1 .nilIface 1 Tryz.underlying126 hj hy0 hy1 _ _ _ _ n rfl rfl ?_ ?_ ?_ ?_ ?_ ?_)
 ·omega
 ·omega
 ·rw [hy2];omega
 ·unfold maxLen;omega
 ·have:=bel1.size;omega
 intro w2 own2 grow2
 have ow2:w2.ownsRow w.heap.size 74 1 (.slice (some ⟨w1.heap.size,0,none⟩) n n) n (List.replicate n .nilIface):=by
  rw [← toList_madeCells_one];exact own2
 have ow1b:=own1.kept grow2 (.inr (by simp [Value.ownBlock]))
 have hlt1:w.heap.size<w1.heap.size:=(own1.lt _ rfl).2
 have bel2:Below w.heap.size w w2:=bel1.grown grow2 bel1.size (fun k hk=>by cases hk)
 have hlt2:w1.heap.size<w2.heap.size:=(ow2.lt _ rfl).2
 obtain ⟨eb,heb⟩:∃eb,w1.heap.size=eb:=⟨_,rfl⟩
 rw [heb] at ow2 hlt1 hlt2 ⊢
 have hne:w.heap.size≠eb:=by omega
 have OW1:=hid ow1b
 have OW2:=hid ow2
 have BEL:=hid bel2
 have HL2:=hid hlt2
 clear own2 grow2 grow1 own1 bel1 ow1b ow2 bel2 heb hlt2
 go_wp2_with fail
 go_loopw [18] (fun iv wr=>∃(k:Nat) (xs ys:List Value),k≤n∧iv = .int .i64 k∧zb9 c n k ys∧wr.ownsRow w.heap.size 133 8 (.slice (some ⟨w.heap.size,0,none⟩) n n) n xs∧wr.ownsRow w.heap.size 74 1 (.slice (some ⟨eb,0,none⟩) n n) n ys∧Below w.heap.size w wr∧eb<wr.heap.size∧(∀j,j<k→yc wr (eb+1) xs j (cs j))) (fun iv _=>n-(intOf iv).toNat)
 case atStart=>exact ⟨0,_,_,Nat.zero_le _,rfl,zb9.start c n,OW1.out,OW2.out,BEL.out,HL2.out,fun j hj=>by omega⟩
 case round=>
  obtain ⟨k,xs,ys,hk,rfl,hys,ro,re,rb,rlt,rc⟩:=hrel
  clear OW1 OW2 BEL HL2
  have RO:=hid ro
  have RE:=hid re
  have RB:=hid rb
  have HYS:=hid hys
  have RC:=hid rc
  clear ro re rb hys rc
  by_cases hlt:k<n
  ·have hku:k<us.length:=by rw [HNN.out];exact hlt
   have hgd:us.getD k .nilIface=us[k]:=by rw [List.getD_eq_getElem?_getD,List.getElem?_eq_getElem hku];rfl
   have hpk:=HP.out wr k hlt RB.out
   have hv:=HIF.out us[k] (List.getElem_mem hku)
   rcases HM.out with hnil|⟨b,o,hao,hc⟩
   ·rw [hnil] at hku;simp at hku
   subst hao
   have q:=cell_later RB.out (hc k hku)
   simp only [hgd] at hpk
   obtain ⟨u,hu⟩:∃u,us[k]=u:=⟨_,rfl⟩
   rw [hu] at q hpk hv
   obtain ⟨ceff,hceff⟩:∃x,(cs k).eff=x:=⟨_,rfl⟩
   obtain ⟨cb1,hcb1⟩:∃x,(cs k).who.1=x:=⟨_,rfl⟩
   obtain ⟨cb2,hcb2⟩:∃x,(cs k).act.1=x:=⟨_,rfl⟩
   obtain ⟨cb3,hcb3⟩:∃x,(cs k).on.1=x:=⟨_,rfl⟩
   rw [hceff,hcb1,hcb2,hcb3] at hpk
   have HC1:=hid hceff
   have HC2:=hid hcb1
   have HC3:=hid hcb2
   have HC4:=hid hcb3
   clear hu hc hgd hceff hcb1 hcb2 hcb3
   have hxl:xs.length=n*8:=RO.out.1
   have HXL:=hid hxl
   clear hxl
   have cells:Hid (∀w3,Below wr.heap.size wr w3→(∃a0,w3.cell? ⟨w.heap.size,k*8,none⟩=some a0)∧(∃a0,w3.cell? ⟨w.heap.size,k*8+1,none⟩=some a0)∧(∃a0,w3.cell? ⟨w.heap.size,k*8+2,none⟩=some a0)∧(∃a0,w3.cell? ⟨w.heap.size,k*8+3,none⟩=some a0)∧(∃a0,w3.cell? ⟨w.heap.size,k*8+4,none⟩=some a0)∧(∃a0,w3.cell? ⟨w.heap.size,k*8+5,none⟩=some a0)∧(∃a0,w3.cell? ⟨w.heap.size,k*8+6,none⟩=some a0)∧(∃a0,w3.cell? ⟨w.heap.size,k*8+7,none⟩=some a0)∧w3.frozen? ⟨w.heap.size,k*8,none⟩=false∧w3.frozen? ⟨w.heap.size,k*8+1,none⟩=false∧w3.frozen? ⟨w.heap.size,k*8+2,none⟩=false∧w3.frozen? ⟨w.heap.size,k*8+3,none⟩=false∧w3.frozen? ⟨w.heap.size,k*8+4,none⟩=false∧w3.frozen? ⟨w.heap.size,k*8+5,none⟩=false∧w3.frozen? ⟨w.heap.size,k*8+6,none⟩=false∧w3.frozen? ⟨w.heap.size,k*8+7,none⟩=false∧w3.cell? ⟨eb,k,none⟩=some .nilIface∧w3.frozen? ⟨eb,k,none⟩=false):=by
    intro w3 hb3
    have o3:=ownsRow_below RO.out hb3
    have e3:=ownsRow_below RE.out hb3
    have hx:=HXL.out
    exact ⟨⟨_,(o3.cellAt _ (by omega)).trans (List.getElem?_eq_getElem (by omega))⟩,⟨_,(o3.cellAt _ (by omega)).trans (List.getElem?_eq_getElem (by omega))⟩,⟨_,(o3.cellAt _ (by omega)).trans (List.getElem?_eq_getElem (by omega))⟩,⟨_,(o3.cellAt _ (by omega)).trans (List.getElem?_eq_getElem (by omega))⟩,⟨_,(o3.cellAt _ (by omega)).trans (List.getElem?_eq_getElem (by omega))⟩,⟨_,(o3.cellAt _ (by omega)).trans (List.getElem?_eq_getElem (by omega))⟩,⟨_,(o3.cellAt _ (by omega)).trans (List.getElem?_eq_getElem (by omega))⟩,⟨_,(o3.cellAt _ (by omega)).trans (List.getElem?_eq_getElem (by omega))⟩,
     o3.frozenAt _,o3.frozenAt _,o3.frozenAt _,o3.frozenAt _,o3.frozenAt _,o3.frozenAt _,o3.frozenAt _,o3.frozenAt _,(e3.cellAt k (by omega)).trans (HYS.out.2.2 k (Nat.le_refl _) hlt),e3.frozenAt k⟩
   have fin:Hid (∀w3 l1 l2 l3 lc x,Below wr.heap.size wr w3→FV (c k) x→zh w3 wr.heap.size l1 (cs k).who.2→zh w3 wr.heap.size l2 (cs k).act.2→zh w3 wr.heap.size l3 (cs k).on.2→qc w3 wr.heap.size lc (cs k).ifs →
     zb9 c n (k+1) (ys.set k x) ∧
     (((((((((w3.setCell ⟨w.heap.size,k*8,none⟩ (.string ceff)).setCell ⟨w.heap.size,k*8+1,none⟩ (.bool cb1)).setCell ⟨w.heap.size,k*8+2,none⟩ l1).setCell ⟨w.heap.size,k*8+3,none⟩ (.bool cb2)).setCell ⟨w.heap.size,k*8+4,none⟩ l2).setCell ⟨w.heap.size,k*8+5,none⟩ (.bool cb3)).setCell ⟨w.heap.size,k*8+6,none⟩ l3).setCell ⟨w.heap.size,k*8+7,none⟩ lc).setCell ⟨eb,k,none⟩ x).ownsRow w.heap.size 133 8 (.slice (some ⟨w.heap.size,0,none⟩) n n) n ((((((((xs.set (k*8) (.string ceff)).set (k*8+1) (.bool cb1)).set (k*8+2) l1).set (k*8+3) (.bool cb2)).set (k*8+4) l2).set (k*8+5) (.bool cb3)).set (k*8+6) l3).set (k*8+7) lc) ∧
     (((((((((w3.setCell ⟨w.heap.size,k*8,none⟩ (.string ceff)).setCell ⟨w.heap.size,k*8+1,none⟩ (.bool cb1)).setCell ⟨w.heap.size,k*8+2,none⟩ l1).setCell ⟨w.heap.size,k*8+3,none⟩ (.bool cb2)).setCell ⟨w.heap.size,k*8+4,none⟩ l2).setCell ⟨w.heap.size,k*8+5,none⟩ (.bool cb3)).setCell ⟨w.heap.size,k*8+6,none⟩ l3).setCell ⟨w.heap.size,k*8+7,none⟩ lc).setCell ⟨eb,k,none⟩ x).ownsRow w.heap.size 74 1 (.slice (some ⟨eb,0,none⟩) n n) n (ys.set k x) ∧
     Below w.heap.size w (((((((((w3.setCell ⟨w.heap.size,k*8,none⟩ (.string ceff)).setCell ⟨w.heap.size,k*8+1,none⟩ (.bool cb1)).setCell ⟨w.heap.size,k*8+2,none⟩ l1).setCell ⟨w.heap.size,k*8+3,none⟩ (.bool cb2)).setCell ⟨w.heap.size,k*8+4,none⟩ l2).setCell ⟨w.heap.size,k*8+5,none⟩ (.bool cb3)).setCell ⟨w.heap.size,k*8+6,none⟩ l3).setCell ⟨w.heap.size,k*8+7,none⟩ lc).setCell ⟨eb,k,none⟩ x) ∧
     eb<(((((((((w3.setCell ⟨w.heap.size,k*8,none⟩ (.string ceff)).setCell ⟨w.heap.size,k*8+1,none⟩ (.bool cb1)).setCell ⟨w.heap.size,k*8+2,none⟩ l1).setCell ⟨w.heap.size,k*8+3,none⟩ (.bool cb2)).setCell ⟨w.heap.size,k*8+4,none⟩ l2).setCell ⟨w.heap.size,k*8+5,none⟩ (.bool cb3)).setCell ⟨w.heap.size,k*8+6,none⟩ l3).setCell ⟨w.heap.size,k*8+7,none⟩ lc).setCell ⟨eb,k,none⟩ x).heap.size ∧
     (∀j,j<k+1→yc (((((((((w3.setCell ⟨w.heap.size,k*8,none⟩ (.string ceff)).setCell ⟨w.heap.size,k*8+1,none⟩ (.bool cb1)).setCell ⟨w.heap.size,k*8+2,none⟩ l1).setCell ⟨w.heap.size,k*8+3,none⟩ (.bool cb2)).setCell ⟨w.heap.size,k*8+4,none⟩ l2).setCell ⟨w.heap.size,k*8+5,none⟩ (.bool cb3)).setCell ⟨w.heap.size,k*8+6,none⟩ l3).setCell ⟨w.heap.size,k*8+7,none⟩ lc).setCell ⟨eb,k,none⟩ x) (eb+1) ((((((((xs.set (k*8) (.string ceff)).set (k*8+1) (.bool cb1)).set (k*8+2) l1).set (k*8+3) (.bool cb2)).set (k*8+4) l2).set (k*8+5) (.bool cb3)).set (k*8+6) l3).set (k*8+7) lc) j (cs j))):=by
    intro w3 l1 l2 l3 lc x hb3 hx g1 g2 g3 g4
    have o3:=ownsRow_below RO.out hb3
    have e3:=ownsRow_below RE.out hb3
    have o4:=((((((((o3.stored (k*8) (.string ceff)).1.stored (k*8+1) (.bool cb1)).1.stored (k*8+2) l1).1.stored (k*8+3) (.bool cb2)).1.stored (k*8+4) l2).1.stored (k*8+5) (.bool cb3)).1.stored (k*8+6) l3).1.stored (k*8+7) lc).1
    have hnb:(Value.slice (some ⟨eb,0,none⟩) n n).ownBlock≠some w.heap.size:=by simp only [Value.ownBlock];intro e;simp only [Option.some.injEq] at e;exact hne e.symm
    have e4:=(ownsRow_setCell_other (ownsRow_setCell_other (ownsRow_setCell_other (ownsRow_setCell_other (ownsRow_setCell_other (ownsRow_setCell_other (ownsRow_setCell_other (ownsRow_setCell_other e3 (a:=⟨w.heap.size,k*8,none⟩) hnb (.string ceff)) (a:=⟨w.heap.size,k*8+1,none⟩) hnb (.bool cb1)) (a:=⟨w.heap.size,k*8+2,none⟩) hnb l1) (a:=⟨w.heap.size,k*8+3,none⟩) hnb (.bool cb2)) (a:=⟨w.heap.size,k*8+4,none⟩) hnb l2) (a:=⟨w.heap.size,k*8+5,none⟩) hnb (.bool cb3)) (a:=⟨w.heap.size,k*8+6,none⟩) hnb l3) (a:=⟨w.heap.size,k*8+7,none⟩) hnb lc)
    have hz:=hb3.size
    have hxl:=HXL.out
    refine ⟨HYS.out.set hlt hx,zer o4 (by simp only [Value.ownBlock];intro e;simp only [Option.some.injEq] at e;exact hne e) _ _,(e4.stored k x).1,(((((((((RB.out.trans (hb3.mono RB.out.size)).setCell (Nat.le_refl _) _).setCell (Nat.le_refl _) _).setCell (Nat.le_refl _) _).setCell (Nat.le_refl _) _).setCell (Nat.le_refl _) _).setCell (Nat.le_refl _) _).setCell (Nat.le_refl _) _).setCell (Nat.le_refl _) _).setCell (by show w.heap.size≤eb;omega) _,by simp [World.setCell];omega,fun j hj=>?_⟩
    by_cases hjk:j=k
    ·subst hjk
     refine ⟨l1,l2,l3,lc,?_,?_,?_,?_,?_,?_,?_,?_,(zA (zA (zA (zA (zA (zA (zA (zA (zA (zh.mono g1 (by omega)) (by omega) _ _) (by omega) _ _) (by omega) _ _) (by omega) _ _) (by omega) _ _) (by omega) _ _) (by omega) _ _) (by omega) _ _) (by omega) _ _),(zA (zA (zA (zA (zA (zA (zA (zA (zA (zh.mono g2 (by omega)) (by omega) _ _) (by omega) _ _) (by omega) _ _) (by omega) _ _) (by omega) _ _) (by omega) _ _) (by omega) _ _) (by omega) _ _) (by omega) _ _),(zA (zA (zA (zA (zA (zA (zA (zA (zA (zh.mono g3 (by omega)) (by omega) _ _) (by omega) _ _) (by omega) _ _) (by omega) _ _) (by omega) _ _) (by omega) _ _) (by omega) _ _) (by omega) _ _) (by omega) _ _),((((((((((g4.mono (by omega)).set (by omega) _ _).set (by omega) _ _).set (by omega) _ _).set (by omega) _ _).set (by omega) _ _).set (by omega) _ _).set (by omega) _ _).set (by omega) _ _).set (by omega) _ _)⟩
     ·simp [List.getElem?_set,HC1.out];omega
     ·simp [List.getElem?_set,HC2.out];omega
     ·simp [List.getElem?_set];omega
     ·simp [List.getElem?_set,HC3.out];omega
     ·simp [List.getElem?_set];omega
     ·simp [List.getElem?_set,HC4.out];omega
     ·simp [List.getElem?_set];omega
     ·simp [List.getElem?_set];omega
    ·have hc0:=(((((((((((RC.out j (by omega)).below hb3).set (b:=w.heap.size) (by omega) (k*8) (.string ceff)).set (b:=w.heap.size) (by omega) (k*8+1) (.bool cb1)).set (b:=w.heap.size) (by omega) (k*8+2) l1).set (b:=w.heap.size) (by omega) (k*8+3) (.bool cb2)).set (b:=w.heap.size) (by omega) (k*8+4) l2).set (b:=w.heap.size) (by omega) (k*8+5) (.bool cb3)).set (b:=w.heap.size) (by omega) (k*8+6) l3).set (b:=w.heap.size) (by omega) (k*8+7) lc).set (b:=eb) (by omega) k x)
     obtain ⟨m1,m2,m3,mc,h0,h1,h2,h3,h4,h5,h6,h7,n1,n2,n3,n4⟩:=hc0
     refine ⟨m1,m2,m3,mc,?_,?_,?_,?_,?_,?_,?_,?_,n1,n2,n3,n4⟩
     ·rw [List.getElem?_set,if_neg (by omega),List.getElem?_set,if_neg (by omega),List.getElem?_set,if_neg (by omega),List.getElem?_set,if_neg (by omega),List.getElem?_set,if_neg (by omega),List.getElem?_set,if_neg (by omega),List.getElem?_set,if_neg (by omega),List.getElem?_set,if_neg (by omega)];exact h0
     ·rw [List.getElem?_set,if_neg (by omega),List.getElem?_set,if_neg (by omega),List.getElem?_set,if_neg (by omega),List.getElem?_set,if_neg (by omega),List.getElem?_set,if_neg (by omega),List.getElem?_set,if_neg (by omega),List.getElem?_set,if_neg (by omega),List.getElem?_set,if_neg (by omega)];exact h1
     ·rw [List.getElem?_set,if_neg (by omega),List.getElem?_set,if_neg (by omega),List.getElem?_set,if_neg (by omega),List.getElem?_set,if_neg (by omega),List.getElem?_set,if_neg (by omega),List.getElem?_set,if_neg (by omega),List.getElem?_set,if_neg (by omega),List.getElem?_set,if_neg (by omega)];exact h2
     ·rw [List.getElem?_set,if_neg (by omega),List.getElem?_set,if_neg (by omega),List.getElem?_set,if_neg (by omega),List.getElem?_set,if_neg (by omega),List.getElem?_set,if_neg (by omega),List.getElem?_set,if_neg (by omega),List.getElem?_set,if_neg (by omega),List.getElem?_set,if_neg (by omega)];exact h3
     ·rw [List.getElem?_set,if_neg (by omega),List.getElem?_set,if_neg (by omega),List.getElem?_set,if_neg (by omega),List.getElem?_set,if_neg (by omega),List.getElem?_set,if_neg (by omega),List.getElem?_set,if_neg (by omega),List.getElem?_set,if_neg (by omega),List.getElem?_set,if_neg (by omega)];exact h4
     ·rw [List.getElem?_set,if_neg (by omega),List.getElem?_set,if_neg (by omega),List.getElem?_set,if_neg (by omega),List.getElem?_set,if_neg (by omega),List.getElem?_set,if_neg (by omega),List.getElem?_set,if_neg (by omega),List.getElem?_set,if_neg (by omega),List.getElem?_set,if_neg (by omega)];exact h5
     ·rw [List.getElem?_set,if_neg (by omega),List.getElem?_set,if_neg (by omega),List.getElem?_set,if_neg (by omega),List.getElem?_set,if_neg (by omega),List.getElem?_set,if_neg (by omega),List.getElem?_set,if_neg (by omega),List.getElem?_set,if_neg (by omega),List.getElem?_set,if_neg (by omega)];exact h6
     ·rw [List.getElem?_set,if_neg (by omega),List.getElem?_set,if_neg (by omega),List.getElem?_set,if_neg (by omega),List.getElem?_set,if_neg (by omega),List.getElem?_set,if_neg (by omega),List.getElem?_set,if_neg (by omega),List.getElem?_set,if_neg (by omega),List.getElem?_set,if_neg (by omega)];exact h7
   rcases hv with rfl|⟨T,y,rfl⟩
   ·go_wp2_with (go_at_fn g;refine hpk.mono ?_;rintro e w3 ⟨l1,l2,l3,lc,x,rfl,hfv,hb3,g1,g2,g3,g4⟩;obtain ⟨⟨a0,d0⟩,⟨a1,d1⟩,⟨a2,d2⟩,⟨a3,d3⟩,⟨a4,d4⟩,⟨a5,d5⟩,⟨a6,d6⟩,⟨a7,d7⟩,z0,z1,z2,z3,z4,z5,z6,z7,d8,z8⟩:=cells.out w3 hb3;have FIN:=hid (fin.out w3 l1 l2 l3 lc x hb3 hfv g1 g2 g3 g4);obtain ⟨la1,lc1,rfl⟩:=zq g1;obtain ⟨la2,lc2,rfl⟩:=zq g2;obtain ⟨la3,lc3,rfl⟩:=zq g3;obtain ⟨laf,lcf,rfl⟩:=g4.slice;rcases hfv.form with rfl|⟨T,z,rfl⟩)
    all_goals
     go_roundw
     case rel=>exact ⟨k+1,_,_,by omega,by go_num,FIN.out.1,FIN.out.2.1,FIN.out.2.2.1,FIN.out.2.2.2.1,FIN.out.2.2.2.2.1,FIN.out.2.2.2.2.2⟩
     case measure=>simp [intOf];omega
   ·go_wp2_with (go_at_fn g;refine hpk.mono ?_;rintro e w3 ⟨l1,l2,l3,lc,x,rfl,hfv,hb3,g1,g2,g3,g4⟩;obtain ⟨⟨a0,d0⟩,⟨a1,d1⟩,⟨a2,d2⟩,⟨a3,d3⟩,⟨a4,d4⟩,⟨a5,d5⟩,⟨a6,d6⟩,⟨a7,d7⟩,z0,z1,z2,z3,z4,z5,z6,z7,d8,z8⟩:=cells.out w3 hb3;have FIN:=hid (fin.out w3 l1 l2 l3 lc x hb3 hfv g1 g2 g3 g4);obtain ⟨la1,lc1,rfl⟩:=zq g1;obtain ⟨la2,lc2,rfl⟩:=zq g2;obtain ⟨la3,lc3,rfl⟩:=zq g3;obtain ⟨laf,lcf,rfl⟩:=g4.slice;rcases hfv.form with rfl|⟨T,z,rfl⟩)
    all_goals
     go_roundw
     case rel=>exact ⟨k+1,_,_,by omega,by go_num,FIN.out.1,FIN.out.2.1,FIN.out.2.2.1,FIN.out.2.2.2.1,FIN.out.2.2.2.2.1,FIN.out.2.2.2.2.2⟩
     case measure=>simp [intOf];omega
  ·have hkn:k=n:=by omega
   subst hkn
   have hE:=HYS.out.done
   have hl:=HYS.out.1
   go_wp2
   go_ret2
   refine ⟨_,_,_,_,ys,rfl,hl,?_,hE,RB.out,xs,?_,?_⟩
   ·exact .inr ⟨eb,0,rfl,fun j hj=>by rw [Nat.zero_add];exact (RE.out.cellAt j (by omega)).trans (List.getElem?_eq_getElem hj)⟩
   ·rw [List.length_map,List.length_range];exact RO.out
   ·intro j hj
    rw [List.length_map,List.length_range] at hj
    rw [List.getElem_map,List.getElem_range]
    exact (RC.out j hj).mono (by omega)
inductive zi3 (EL:Value):Int→Nat→Value→Prop
 | ok:zi3 EL 0 0 .nilIface
 | long:zi3 EL 1 0 EL
 | text (c:Int) (q:Nat):Rd.Code c→zi3 EL c q (uY c q)
 | doc (p:ByteArray):zi3 EL 5 0 (.iface 125 (.agg #[.string p]))
 | shape (n:Nat) (p:ByteArray):zi3 EL 5 n (.iface 138 (.agg #[.int .i64 (n:Int), .iface 125 (.agg #[.string p])]))
 | pat (n:Nat) (k:Int):zi3 EL 6 n (.iface 138 (.agg #[.int .i64 (n:Int), .iface 228 (.agg #[.int .i64 k])]))
def QR (w:World) (EL:Value) (a:Int×Nat) (ss:List xH) (e:Ending) (w':World):Prop:=
 ∃la n lc u,e = .returned (.tuple #[.agg #[.slice la n lc],u])∧zi3 EL a.1 a.2 u∧Below w.heap.size w w'∧(a.1=0→xJ w' w.heap.size (.slice la n lc) ss)
structure zkz (w:World) (EL:Value):Prop where
 p:zi2 w
 seq:qo w
 long:w.cell? ⟨0,0,none⟩=some EL
theorem zkz.below {w w':World} {EL:Value} (h:zkz w EL) (hb:Below w.heap.size w w'):zkz w' EL:=⟨h.p.below hb,h.seq.same (hb.block _ h.seq.lt),cell_later hb h.long⟩
def zgz:Obj := .cells #[.slice none 0 0] 72
theorem zgp (vs:List Rd.V) (us:List Value) (ao:Option Addr) (cap:Nat) (w:World) (hE:zi2 w) (hl:us.length=vs.length) (hn:us.length≤1000)
  (hm:yT w ao us) (hx:∀(j:Nat) (v:Rd.V) (u:Value),vs[j]?=some v→us[j]?=some u→OAt w (some v) u) (hG:∀v ∈ vs,Rd.Good 4000 v) :
  Calls Tryz.prog 52 #[.slice ao us.length cap, .func (.func 53) #[] #[]] w fun e w'=>
   ∃(oa fa:Option Addr) (oc fc:Nat) (ys:List Value),e = .returned (.tuple #[.slice oa us.length oc, .slice fa us.length fc])∧ys.length=us.length∧yT w' fa ys∧FVs (vs.map Rd.jX) ys∧Below w.heap.size w w'∧xJ w' w.heap.size (.slice oa us.length oc) (vs.map uM):=by
 have hat:∀j,(h:j<us.length)→OAt w (some (vs.getD j (.word false))) us[j]:=fun j h=>by
  have h2:j<vs.length:=by omega
  rw [List.getD_eq_getElem?_getD,List.getElem?_eq_getElem h2]
  exact hx j _ _ (List.getElem?_eq_getElem h2) (List.getElem?_eq_getElem h)
 refine (zhv us ao cap 53 #[] (fun j=>uM (vs.getD j (.word false))) (fun j=>Rd.jX (vs.getD j (.word false))) w hn (enters_of Tryz.func53 (by kernel_rfl) rfl) hm ?_ ?_).mono ?_
 ·intro u hu
  obtain ⟨j,hj,rfl⟩:=List.getElem_of_mem hu
  exact (hat j hj).form
 ·intro W j hj hb
  have h2:j<vs.length:=by omega
  have:=zf0 (vs.getD j (.word false)) us[j] W (hE.below hb) ((hat j hj).below hb) (hG _ (by rw [List.getD_eq_getElem?_getD,List.getElem?_eq_getElem h2];exact List.getElem_mem h2))
  rw [show us[j]=us.getD j .nilIface by rw [List.getD_eq_getElem?_getD,List.getElem?_eq_getElem hj];rfl] at this
  exact this
 ·rintro e w' ⟨oa,fa,oc,fc,ys,rfl,h1,h2,h3,h4,h5⟩
  refine ⟨oa,fa,oc,fc,ys,rfl,h1,h2,?_,h4,?_⟩
  ·rw [hl,vO] at h3;exact h3
  ·rw [hl,vO] at h5;rw [hl];exact h5
theorem one_cell {w W:World} {t:TypeId} {v:Value} (hb:Below (w.alloc (.cells #[v] t)).heap.size (w.alloc (.cells #[v] t)) W):W.cell? ⟨w.heap.size,0,none⟩=some v∧W.frozen? ⟨w.heap.size,0,none⟩=false:=by
 have bk:=zQ hb
 exact ⟨(cells_of_block bk 0).1,(cells_of_block bk 0).2⟩
theorem zaw (s:ByteArray) (w:World) (EL:Value) (T:TypeId) (y:Value) (hEL:EL = .iface T y) (hQ:zkz w EL) (hs:4000<s.size) :
  Calls Tryz.prog 32 #[.string s] w (QR w EL (1,0) []):=by
 have hb0:=(Below.refl _ w).alloc (Nat.le_refl _) zgz
 have c:=zhz s (w.alloc zgz) EL (hQ.below hb0).long hs
 subst hEL
 unfold zgz at hb0 c
 clear hQ hs
 go_enter Tryz.func32,Tryz.ntmps32
 go_wp2_with (go_at_call 50;refine c.mono ?_;rintro e w1 ⟨rfl,hb1⟩;obtain ⟨r0,f0⟩:=one_cell hb1)
 exact bodyPost_ret (v := .tuple #[.agg #[.slice none 0 0], .iface T y]) (by simp [results,Tryz.results32,go_sem,r0]) rfl ⟨_,_,_,_,rfl, .long,(hb0.trans (hb1.mono (by simp))).setCell (Nat.le_refl _) _,fun h=>by simp at h⟩
theorem zdk (s:ByteArray) (w:World) (EL:Value) (c:Int) (q:Nat) (hQ:zkz w EL) (hs:s.size≤4000) (hr:Rd.vK s.data.toList = .err c q) :
  Calls Tryz.prog 32 #[.string s] w (QR w EL (c,q) []):=by
 have hb0:=(Below.refl _ w).alloc (Nat.le_refl _) zgz
 have cc:=zh1 s (w.alloc zgz) (hQ.below hb0).seq hs
 rw [hr] at cc
 have hcode:=Rd.Xq hr
 have hv:=zi3.text (EL:=EL) c q hcode
 obtain ⟨T,hT⟩:=yX c q
 unfold jL at cc
 simp only at cc
 rw [hT] at cc hv
 have hc0:c≠0:=by rcases hcode with rfl|rfl|rfl<;>decide
 unfold zgz at hb0 cc
 clear hQ hs hr hT hcode
 go_enter Tryz.func32,Tryz.ntmps32
 go_wp2_with (go_at_call 50;refine cc.mono ?_;rintro e w1 ⟨rfl,hb1⟩;obtain ⟨r0,f0⟩:=one_cell hb1)
 exact bodyPost_ret (v := .tuple #[.agg #[.slice none 0 0], .iface T (.agg #[.int .i64 (q:Int)])]) (by simp [results,Tryz.results32,go_sem,r0]) rfl ⟨_,_,_,_,rfl,hv,(hb0.trans (hb1.mono (by simp))).setCell (Nat.le_refl _) _,fun h=>absurd h hc0⟩
end Go.Proofs.YtdakgnaojakldaaGreatDoor
