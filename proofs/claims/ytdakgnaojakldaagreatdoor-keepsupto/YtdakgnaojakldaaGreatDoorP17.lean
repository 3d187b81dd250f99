/- P -/
import Derived.Test.YtdakgnaojakldaaGreatDoorP16
set_option maxRecDepth 100000
set_option maxHeartbeats 2000000
namespace Go.Proofs.YtdakgnaojakldaaGreatDoor
open Go.RowKit
structure xH where
 eff:ByteArray
 who:Bool×List ByteArray
 act:Bool×List ByteArray
 on:Bool×List ByteArray
 ifs:List jg
def zck:xH:=⟨⟨#[]⟩,(false,[]),(false,[]),(false,[]),[]⟩
def uM:Rd.V→xH
 | .obj ms=>if Rd.qX ms [Rd.zk,Rd.jB,Rd.bDo,Rd.bOn,Rd.bIf] then ⟨Rd.qO Rd.zZ (Rd.zK ms Rd.zk),chS (Rd.zK ms Rd.jB),chS (Rd.zK ms Rd.bDo),chS (Rd.zK ms Rd.bOn),YH (Rd.zK ms Rd.bIf)⟩ else zck
 | _=>zck
def Xx (w:World) (v:Rd.V) (e:Ending) (w':World):Prop:=
 ∃l1 l2 l3 lc u,e = .returned (.tuple #[.agg #[.string (uM v).eff, .bool (uM v).who.1,l1, .bool (uM v).act.1,l2, .bool (uM v).on.1,l3,lc],u])∧FV (Rd.jX v) u∧Below w.heap.size w w' ∧
  zh w' w.heap.size l1 (uM v).who.2∧zh w' w.heap.size l2 (uM v).act.2∧zh w' w.heap.size l3 (uM v).on.2∧qc w' w.heap.size lc (uM v).ifs
def XD:Obj := .cells #[.string ⟨#[]⟩, .bool false, .slice none 0 0, .bool false, .slice none 0 0, .bool false, .slice none 0 0, .slice none 0 0] 133
def yF:Obj := .cells #[.string Rd.zk, .string Rd.jB, .string Rd.bDo, .string Rd.bOn, .string Rd.bIf] 9
theorem Ub (w:World) (a b c d f:ByteArray) (t:TypeId):Zn (w.alloc (.cells #[.string a, .string b, .string c, .string d, .string f] t)) (some ⟨w.heap.size,0,none⟩) [a,b,c,d,f]:=by
 have h:=heap_alloc_new w (.cells #[.string a, .string b, .string c, .string d, .string f] t)
 refine .inr ⟨w.heap.size,0,rfl,fun j hj=>?_⟩
 simp only [List.length_cons,List.length_nil] at hj
 rw [Nat.zero_add,(cells_of_block h j).1]
 have:j=0∨j=1∨j=2∨j=3∨j=4:=by omega
 rcases this with rfl|rfl|rfl|rfl|rfl<;>rfl
def zf7 (w:World) (b o:Nat) (x0 x1 x2 x3:Value):World:=(((w.setCell ⟨b,o,none⟩ x0).setCell ⟨b,o+1,none⟩ x1).setCell ⟨b,o+2,none⟩ x2).setCell ⟨b,o+3,none⟩ x3
theorem VW (w:World) (b o:Nat) (x0 x1 x2 x3:Value) (q:Nat) (h:q<o∨o+4≤q):(zf7 w b o x0 x1 x2 x3).cell? ⟨b,q,none⟩=w.cell? ⟨b,q,none⟩:=by
 unfold zf7
 rw [World.cell?_setCell_other _ _ _ _ (by simp only [ne_eq,Addr.mk.injEq];omega),World.cell?_setCell_other _ _ _ _ (by simp only [ne_eq,Addr.mk.injEq];omega),World.cell?_setCell_other _ _ _ _ (by simp only [ne_eq,Addr.mk.injEq];omega),World.cell?_setCell_other _ _ _ _ (by simp only [ne_eq,Addr.mk.injEq];omega)]
theorem UH {w:World} {b o:Nat} {o0 o1 o2 o3:Value} (x0 x1 x2 x3:Value) (h0:w.cell? ⟨b,o,none⟩=some o0) (h1:w.cell? ⟨b,o+1,none⟩=some o1) (h2:w.cell? ⟨b,o+2,none⟩=some o2) (h3:w.cell? ⟨b,o+3,none⟩=some o3) :
  (zf7 w b o x0 x1 x2 x3).cell? ⟨b,o,none⟩=some x0∧(zf7 w b o x0 x1 x2 x3).cell? ⟨b,o+1,none⟩=some x1∧(zf7 w b o x0 x1 x2 x3).cell? ⟨b,o+2,none⟩=some x2∧(zf7 w b o x0 x1 x2 x3).cell? ⟨b,o+3,none⟩=some x3:=by
 unfold zf7
 have ne:∀i j:Nat,i≠j→∀(W:World) (x:Value),(W.setCell ⟨b,o+i,none⟩ x).cell? ⟨b,o+j,none⟩=W.cell? ⟨b,o+j,none⟩:=fun i j hij W x=>World.cell?_setCell_other _ _ _ _ (by simp only [ne_eq,Addr.mk.injEq];omega)
 have n0:∀j:Nat,0≠j→∀(W:World) (x:Value),(W.setCell ⟨b,o,none⟩ x).cell? ⟨b,o+j,none⟩=W.cell? ⟨b,o+j,none⟩:=fun j hij W x=>World.cell?_setCell_other _ _ _ _ (by simp only [ne_eq,Addr.mk.injEq];omega)
 have m0:∀i:Nat,i≠0→∀(W:World) (x:Value),(W.setCell ⟨b,o+i,none⟩ x).cell? ⟨b,o,none⟩=W.cell? ⟨b,o,none⟩:=fun i hij W x=>World.cell?_setCell_other _ _ _ _ (by simp only [ne_eq,Addr.mk.injEq];omega)
 refine ⟨?_,?_,?_,?_⟩
 ·rw [m0 3 (by omega),m0 2 (by omega),m0 1 (by omega)];exact World.cell?_setCell_same _ _ _ h0
 ·rw [ne 3 1 (by omega),ne 2 1 (by omega)];exact World.cell?_setCell_same _ _ _ ((n0 1 (by omega) _ _).trans h1)
 ·rw [ne 3 2 (by omega)];exact World.cell?_setCell_same _ _ _ ((ne 1 2 (by omega) _ _).trans ((n0 2 (by omega) _ _).trans h2))
 ·exact World.cell?_setCell_same _ _ _ ((ne 2 3 (by omega) _ _).trans ((ne 1 3 (by omega) _ _).trans ((n0 3 (by omega) _ _).trans h3)))
def ze1 (w:World) (b:Nat) (x0 x1 x2 x3 x4 x5 x6 x7:Value):World:=zf7 (zf7 w b 0 x0 x1 x2 x3) b 4 x4 x5 x6 x7
theorem Uh {w:World} {b:Nat} {cs:Array Value} {t:TypeId} (h:w.heap[b]?=some (.cells cs t (0,0))) (hs:cs.size=8) (x0 x1 x2 x3 x4 x5 x6 x7:Value) :
  (ze1 w b x0 x1 x2 x3 x4 x5 x6 x7).cell? ⟨b,0,none⟩=some x0∧(ze1 w b x0 x1 x2 x3 x4 x5 x6 x7).cell? ⟨b,1,none⟩=some x1∧(ze1 w b x0 x1 x2 x3 x4 x5 x6 x7).cell? ⟨b,2,none⟩=some x2∧(ze1 w b x0 x1 x2 x3 x4 x5 x6 x7).cell? ⟨b,3,none⟩=some x3 ∧
  (ze1 w b x0 x1 x2 x3 x4 x5 x6 x7).cell? ⟨b,4,none⟩=some x4∧(ze1 w b x0 x1 x2 x3 x4 x5 x6 x7).cell? ⟨b,5,none⟩=some x5∧(ze1 w b x0 x1 x2 x3 x4 x5 x6 x7).cell? ⟨b,6,none⟩=some x6∧(ze1 w b x0 x1 x2 x3 x4 x5 x6 x7).cell? ⟨b,7,none⟩=some x7:=by
 have hc:∀j,j<8→∃o,w.cell? ⟨b,j,none⟩=some o:=fun j hj=>⟨cs[j]'(by omega),by rw [(cells_of_block h j).1];exact Array.getElem?_eq_getElem (by omega)⟩
 obtain ⟨o0,g0⟩:=hc 0 (by omega)
 obtain ⟨o1,g1⟩:=hc 1 (by omega)
 obtain ⟨o2,g2⟩:=hc 2 (by omega)
 obtain ⟨o3,g3⟩:=hc 3 (by omega)
 obtain ⟨o4,g4⟩:=hc 4 (by omega)
 obtain ⟨o5,g5⟩:=hc 5 (by omega)
 obtain ⟨o6,g6⟩:=hc 6 (by omega)
 obtain ⟨o7,g7⟩:=hc 7 (by omega)
 obtain ⟨a0,a1,a2,a3⟩:=UH (o:=0) x0 x1 x2 x3 g0 g1 g2 g3
 have e:=fun q hq=>VW w b 0 x0 x1 x2 x3 q hq
 obtain ⟨b0,b1,b2,b3⟩:=UH (w:=zf7 w b 0 x0 x1 x2 x3) (o:=4) x4 x5 x6 x7 ((e 4 (by omega)).trans g4) ((e 5 (by omega)).trans g5) ((e 6 (by omega)).trans g6) ((e 7 (by omega)).trans g7)
 have f:=fun q hq=>VW (zf7 w b 0 x0 x1 x2 x3) b 4 x4 x5 x6 x7 q hq
 exact ⟨(f 0 (by omega)).trans a0,(f 1 (by omega)).trans a1,(f 2 (by omega)).trans a2,(f 3 (by omega)).trans a3,b0,b1,b2,b3⟩
theorem V7 {w0 w:World} {B b:Nat} (h:Below B w0 w) (hb:B≤b) (x0 x1 x2 x3 x4 x5 x6 x7:Value):Below B w0 (ze1 w b x0 x1 x2 x3 x4 x5 x6 x7):=
 (((((((h.setCell hb _).setCell hb _).setCell hb _).setCell hb _).setCell hb _).setCell hb _).setCell hb _).setCell hb _
theorem JV {w:World} {base:Nat} {lv:Value} {ss:List ByteArray} (h:zh w base lv ss) {b:Nat} (hb:b<base) (x0 x1 x2 x3 x4 x5 x6 x7:Value):zh (ze1 w b x0 x1 x2 x3 x4 x5 x6 x7) base lv ss:=
 zA (zA (zA (zA (zA (zA (zA (zA h hb _ _) hb _ _) hb _ _) hb _ _) hb _ _) hb _ _) hb _ _) hb _ _
theorem zga {w:World} {base:Nat} {lv:Value} {cs:List jg} (h:qc w base lv cs) {b:Nat} (hb:b<base) (x0 x1 x2 x3 x4 x5 x6 x7:Value):qc (ze1 w b x0 x1 x2 x3 x4 x5 x6 x7) base lv cs:=
 (((((((h.set hb _ _).set hb _ _).set hb _ _).set hb _ _).set hb _ _).set hb _ _).set hb _ _).set hb _ _
theorem zh.nil (w:World) (base:Nat):zh w base (.slice none 0 0) []:=World.ownsRow_nil _ _ _ _
theorem zaW (x:Rd.V) (u:Value) (w:World) (hx:OAt w (some x) u) (hG:Rd.Good 4000 x) (hbad:∀ms,x = .obj ms→Rd.qX ms [Rd.zk,Rd.jB,Rd.bDo,Rd.bOn,Rd.bIf]=false) :
  Calls Tryz.prog 53 #[u] w (Xx w x):=by
 have hS:uM x=zck:=by
  match x with
  | .str s=>rfl
  | .word b=>rfl
  | .list vs=>rfl
  | .obj ms=>simp only [uM];rw [hbad ms rfl];rfl
 have hC:Rd.jX x=1:=by
  match x with
  | .str s=>rfl
  | .word b=>rfl
  | .list vs=>rfl
  | .obj ms=>simp only [Rd.jX];rw [hbad ms rfl];rfl
 unfold Xx
 rw [hS,hC]
 have hb0:=(Below.refl _ w).alloc (Nat.le_refl _) XD
 have hb1:=hb0.alloc (by simp) yF
 have cR:Calls Tryz.prog 97 #[u, .slice (some ⟨w.heap.size+1,0,none⟩) 5 5] ((w.alloc XD).alloc yF) (zdS ((w.alloc XD).alloc yF)):=by
  by_cases h:∃ms,x = .obj ms
  ·obtain ⟨ms,rfl⟩:=h
   obtain ⟨us,ao,cap,rfl,hO⟩:=Uj hx
   have hml:ms.length≤4000:=by cases hG with|obj _ h=>exact h
   have hr:=Ub (w.alloc XD) Rd.zk Rd.jB Rd.bDo Rd.bOn Rd.bIf 9
   rw [World.size_alloc] at hr
   have:=jb ms us ao cap [Rd.zk,Rd.jB,Rd.bDo,Rd.bOn,Rd.bIf] (some ⟨w.heap.size+1,0,none⟩) 5 ((w.alloc XD).alloc yF) (by simp) hml hr (hO.below hb1) false (hbad ms rfl)
   simpa using this
  ·exact QG (some x) u 5 _ 5 _ (hx.below hb1) (fun ms e=>h ⟨ms,by simpa using e⟩)
 obtain ⟨T,y,rfl⟩:=ValAt.iface (show ValAt w (fun b=>b<w.heap.size) x u from hx)
 clear hx hG hbad hS hC
 unfold yF XD Rd.zk Rd.jB Rd.bDo Rd.bOn Rd.bIf at cR
 unfold XD at hb0
 unfold yF XD Rd.zk Rd.jB Rd.bDo Rd.bOn Rd.bIf at hb1
 go_enter Tryz.func53,Tryz.ntmps53
 go_wp2_with (go_at_call 97;refine cR.mono ?_;rintro e w1 ⟨p,rfl,hb2⟩;have bw1:Below w.heap.size w w1:=hb1.trans (hb2.mono (by simp;omega));have bk:=zQ (((Below.refl _ (w.alloc (.cells #[.string ⟨#[]⟩, .bool false, .slice none 0 0, .bool false, .slice none 0 0, .bool false, .slice none 0 0, .slice none 0 0] 133))).alloc (Nat.le_refl _) _).trans (hb2.mono (by simp)));have r0:=(cells_of_block bk 0).1;have r1:=(cells_of_block bk 1).1;have r2:=(cells_of_block bk 2).1;have r3:=(cells_of_block bk 3).1;have r4:=(cells_of_block bk 4).1;have r5:=(cells_of_block bk 5).1;have r6:=(cells_of_block bk 6).1;have r7:=(cells_of_block bk 7).1;have f0:=(cells_of_block bk 0).2;have f1:=(cells_of_block bk 1).2;have f2:=(cells_of_block bk 2).2;have f3:=(cells_of_block bk 3).2;have f4:=(cells_of_block bk 4).2;have f5:=(cells_of_block bk 5).2;have f6:=(cells_of_block bk 6).2;have f7:=(cells_of_block bk 7).2;simp at r0 r1 r2 r3 r4 r5 r6 r7;have s8:=Uh bk rfl (.string ⟨#[]⟩) (.bool false) (.slice none 0 0) (.bool false) (.slice none 0 0) (.bool false) (.slice none 0 0) (.slice none 0 0);unfold ze1 zf7 at s8;simp only [Nat.zero_add] at s8;obtain ⟨s0,s1,s2,s3,s4,s5,s6,s7⟩:=s8)
 exact bodyPost_ret (v := .tuple #[.agg #[.string ⟨#[]⟩, .bool false, .slice none 0 0, .bool false, .slice none 0 0, .bool false, .slice none 0 0, .slice none 0 0], .iface 125 (.agg #[.string p])]) (by simp [results,Tryz.results53,go_sem,s0,s1,s2,s3,s4,s5,s6,s7]) rfl
  ⟨_,_,_,_,_,rfl, .inr (.inl ⟨rfl,_,rfl⟩),V7 bw1 (Nat.le_refl _) _ _ _ _ _ _ _ _,zh.nil _ _,zh.nil _ _,zh.nil _ _,qc.nil _ _⟩
theorem yw.eff {w:World} {ms:List (ByteArray×Rd.V)} {us:List (ByteArray×Value)} {ao:Option Addr} {cap:Nat} (h:yw w ms us ao cap) :
  Calls Tryz.prog 98 #[QH us Rd.zk, .func (.func 99) #[] #[]] w (QZ w (Rd.qO Rd.zZ (Rd.zK ms Rd.zk)) (Rd.zT Rd.zZ (Rd.zK ms Rd.zk))):=
 Z8 _ _ _ _ _ 4000 w (enters_of Tryz.func99 (by kernel_rfl) rfl) (h.obj.get Rd.zk) (fun s hs=>by have:=Rd.qx h.good Rd.zk _ hs;cases this with|str _ h=>exact h) (fun W s _ _=>zeV s W)
theorem yw.choice {w:World} {ms:List (ByteArray×Rd.V)} {us:List (ByteArray×Value)} {ao:Option Addr} {cap:Nat} (h:yw w ms us ao cap) (nm:ByteArray) :
  Calls Tryz.prog 100 #[QH us nm] w (QX w (Rd.zK ms nm)):=zbM _ _ w h.env.d (h.obj.get nm) (fun v hv=>Rd.qx h.good nm v hv)
theorem yw.conds {w:World} {ms:List (ByteArray×Rd.V)} {us:List (ByteArray×Value)} {ao:Option Addr} {cap:Nat} (h:yw w ms us ao cap) (nm:ByteArray) :
  Calls Tryz.prog 101 #[QH us nm] w (Xb w (Rd.zK ms nm)):=zcH _ _ w h.env (h.obj.get nm) (fun v hv=>Rd.qx h.good nm v hv)
theorem znA {a b c d f:Nat} {u v x y z:Value} (h1:FV a u) (h2:FV b v) (h3:FV c x) (h4:FV d y) (h5:FV f z):FVs [a,b,c,d,f] [u,v,x,y,z]:=by
 refine ⟨rfl,fun j d y hd hy=>?_⟩
 match j with
 | 0=>simp at hd hy;subst hd;subst hy;exact h1
 | 1=>simp at hd hy;subst hd;subst hy;exact h2
 | 2=>simp at hd hy;subst hd;subst hy;exact h3
 | 3=>simp at hd hy;subst hd;subst hy;exact h4
 | 4=>simp at hd hy;subst hd;subst hy;exact h5
 | j+5=>simp at hd
theorem zmN {W:World} {b:Nat} {u v x y z:Value} {t:TypeId} (h:W.heap[b]?=some (.cells #[u,v,x,y,z] t (0,0))):yT W (some ⟨b,0,none⟩) [u,v,x,y,z]:=by
 refine .inr ⟨b,0,rfl,fun j hj=>?_⟩
 simp only [List.length_cons,List.length_nil] at hj
 rw [Nat.zero_add,(cells_of_block h j).1]
 have:j=0∨j=1∨j=2∨j=3∨j=4:=by omega
 rcases this with rfl|rfl|rfl|rfl|rfl<;>rfl
theorem zh.below {w w':World} {base:Nat} {lv:Value} {ss:List ByteArray} (h:zh w base lv ss) (hb:Below w.heap.size w w'):zh w' base lv ss:=ownsRow_below h hb
theorem zh.mono {w:World} {base base':Nat} {lv:Value} {ss:List ByteArray} (h:zh w base lv ss) (hb:base'≤base):zh w base' lv ss:=zl h hb
theorem zcT (ms:List (ByteArray×Rd.V)) (us:List (ByteArray×Value)) (ao:Option Addr) (cap:Nat) (w:World) (hI:yw w ms us ao cap) (ho:Rd.qX ms [Rd.zk,Rd.jB,Rd.bDo,Rd.bOn,Rd.bIf]=true) :
  Calls Tryz.prog 53 #[.iface 118 (.slice ao us.length cap)] w (Xx w (.obj ms)):=by
 have hC:Rd.jX (.obj ms)=Rd.Zc [Rd.zT Rd.zZ (Rd.zK ms Rd.zk),Rd.chC (Rd.zK ms Rd.jB),Rd.chC (Rd.zK ms Rd.bDo),Rd.chC (Rd.zK ms Rd.bOn),Rd.jD (Rd.zK ms Rd.bIf)]:=by simp only [Rd.jX];rw [ho];rfl
 have hS:uM (.obj ms)=⟨Rd.qO Rd.zZ (Rd.zK ms Rd.zk),chS (Rd.zK ms Rd.jB),chS (Rd.zK ms Rd.bDo),chS (Rd.zK ms Rd.bOn),YH (Rd.zK ms Rd.bIf)⟩:=by simp only [uM];rw [ho];rfl
 have hb0:=(Below.refl _ w).alloc (Nat.le_refl _) XD
 have hb1:=hb0.alloc (by simp) yF
 have hr:=Ub (w.alloc XD) Rd.zk Rd.jB Rd.bDo Rd.bOn Rd.bIf 9
 rw [World.size_alloc] at hr
 have cR:=jb ms us ao cap [Rd.zk,Rd.jB,Rd.bDo,Rd.bOn,Rd.bIf] (some ⟨w.heap.size+1,0,none⟩) 5 ((w.alloc XD).alloc yF) (by simp) hI.len hr (hI.obj.below hb1) true ho
 simp only [if_true,List.length_cons,List.length_nil] at cR
 have cG:=fun W nm (h:Below w.heap.size w W)=>(hI.below h).get nm
 have cE:=fun W (h:Below w.heap.size w W)=>(hI.below h).eff
 have cH:=fun W nm (h:Below w.heap.size w W)=>(hI.below h).choice nm
 have cF:=fun W (h:Below w.heap.size w W)=>(hI.below h).conds Rd.bIf
 have hErr:=fun W (h:Below w.heap.size w W)=>(hI.below h).env.d.err
 unfold Xx
 rw [hC,hS]
 obtain ⟨vE,hvE⟩:∃x,QH us Rd.zk=x:=⟨_,rfl⟩
 obtain ⟨v1,hv1⟩:∃x,QH us Rd.jB=x:=⟨_,rfl⟩
 obtain ⟨v2,hv2⟩:∃x,QH us Rd.bDo=x:=⟨_,rfl⟩
 obtain ⟨v3,hv3⟩:∃x,QH us Rd.bOn=x:=⟨_,rfl⟩
 obtain ⟨vF,hvF⟩:∃x,QH us Rd.bIf=x:=⟨_,rfl⟩
 have cGE:=fun W h=>cG W Rd.zk h
 have cG1:=fun W h=>cG W Rd.jB h
 have cG2:=fun W h=>cG W Rd.bDo h
 have cG3:=fun W h=>cG W Rd.bOn h
 have cGF:=fun W h=>cG W Rd.bIf h
 have cH1:=fun W h=>cH W Rd.jB h
 have cH2:=fun W h=>cH W Rd.bDo h
 have cH3:=fun W h=>cH W Rd.bOn h
 unfold QX at cH1 cH2 cH3
 unfold Xb at cF
 simp only [hvE] at cGE cE
 simp only [hv1] at cG1 cH1
 simp only [hv2] at cG2 cH2
 simp only [hv3] at cG3 cH3
 simp only [hvF] at cGF cF
 generalize Rd.qO Rd.zZ (Rd.zK ms Rd.zk)=ES at cE ⊢
 generalize Rd.zT Rd.zZ (Rd.zK ms Rd.zk)=EC at cE ⊢
 generalize chS (Rd.zK ms Rd.jB)=p1 at cH1 ⊢
 generalize Rd.chC (Rd.zK ms Rd.jB)=c1 at cH1 ⊢
 generalize chS (Rd.zK ms Rd.bDo)=p2 at cH2 ⊢
 generalize Rd.chC (Rd.zK ms Rd.bDo)=c2 at cH2 ⊢
 generalize chS (Rd.zK ms Rd.bOn)=p3 at cH3 ⊢
 generalize Rd.chC (Rd.zK ms Rd.bOn)=c3 at cH3 ⊢
 generalize YH (Rd.zK ms Rd.bIf)=cs at cF ⊢
 generalize Rd.jD (Rd.zK ms Rd.bIf)=cf at cF ⊢
 obtain ⟨b1,ss1⟩:=p1
 obtain ⟨b2,ss2⟩:=p2
 obtain ⟨b3,ss3⟩:=p3
 simp only at cH1 cH2 cH3 ⊢
 clear hI ho hS hC hvE hv1 hv2 hv3 hvF cG hr cH
 unfold yF XD at cR
 unfold XD at hb0
 unfold yF XD at hb1
 unfold Rd.zk Rd.jB Rd.bDo Rd.bOn Rd.bIf at cR hb1
 unfold Rd.zk at cGE
 unfold Rd.jB at cG1
 unfold Rd.bDo at cG2
 unfold Rd.bOn at cG3
 unfold Rd.bIf at cGF
 go_enter Tryz.func53,Tryz.ntmps53
 go_upto_region 9 with (first
  | (go_at_call 101;refine (cF w10 bw10).mono ?_;rintro e w11 ⟨lvF,uF,rfl,hfF,hb11,hownF⟩;obtain ⟨laf,lcf,rfl⟩:=hownF.slice)
  | (go_at_call 51;refine (cGF _ bw9').mono ?_;rintro e w10 ⟨rfl,hb10⟩;have bw10:Below w.heap.size w w10:=bw9'.trans (hb10.mono bw9'.size))
  | (go_at_call 100;refine (cH3 w8 bw8).mono ?_;rintro e w9 ⟨lv3,u3,rfl,hf3,hb9,hown3⟩;obtain ⟨la3,lc3,rfl⟩:=zq hown3;have bw9:=bw8.trans (hb9.mono bw8.size);have bw9':=bw9.alloc bw9.size (.cells #[.bool b3, .slice la3 ss3.length lc3] 130))
  | (go_at_call 51;refine (cG3 _ bw7').mono ?_;rintro e w8 ⟨rfl,hb8⟩;have bw8:Below w.heap.size w w8:=bw7'.trans (hb8.mono bw7'.size))
  | (go_at_call 100;refine (cH2 w6 bw6).mono ?_;rintro e w7 ⟨lv2,u2,rfl,hf2,hb7,hown2⟩;obtain ⟨la2,lc2,rfl⟩:=zq hown2;have bw7:=bw6.trans (hb7.mono bw6.size);have bw7':=bw7.alloc bw7.size (.cells #[.bool b2, .slice la2 ss2.length lc2] 130))
  | (go_at_call 51;refine (cG2 _ bw5').mono ?_;rintro e w6 ⟨rfl,hb6⟩;have bw6:Below w.heap.size w w6:=bw5'.trans (hb6.mono bw5'.size))
  | (go_at_call 100;refine (cH1 w4 bw4).mono ?_;rintro e w5 ⟨lv1,u1,rfl,hf1,hb5,hown1⟩;obtain ⟨la1,lc1,rfl⟩:=zq hown1;have bw5:=bw4.trans (hb5.mono bw4.size);have bw5':=bw5.alloc bw5.size (.cells #[.bool b1, .slice la1 ss1.length lc1] 130))
  | (go_at_call 51;refine (cG1 w3 bw3).mono ?_;rintro e w4 ⟨rfl,hb4⟩;have bw4:Below w.heap.size w w4:=bw3.trans (hb4.mono bw3.size);have aw4:=aw3.trans (hb4.mono aw3.size))
  | (go_at_call 98;refine (cE w2 bw2).mono ?_;rintro e w3 ⟨uE,rfl,hfE,hb3⟩;have bw3:Below w.heap.size w w3:=bw2.trans (hb3.mono bw2.size);have aw3:=aw2.trans (hb3.mono aw2.size))
  | (go_at_call 51;refine (cGE w1 bw1).mono ?_;rintro e w2 ⟨rfl,hb2'⟩;have bw2:Below w.heap.size w w2:=bw1.trans (hb2'.mono bw1.size);have aw2:=aw1.trans (hb2'.mono aw1.size))
  | (go_at_call 97;refine cR.mono ?_;rintro e w1 ⟨rfl,hb2⟩;have bw1:Below w.heap.size w w1:=hb1.trans (hb2.mono (by simp;omega));have aw1:=((Below.refl _ (w.alloc (.cells #[.string ⟨#[]⟩, .bool false, .slice none 0 0, .bool false, .slice none 0 0, .bool false, .slice none 0 0, .slice none 0 0] 133))).alloc (Nat.le_refl _) (.cells #[.string ⟨#[101,102,102,101,99,116]⟩, .string ⟨#[119,104,111]⟩, .string ⟨#[100,111]⟩, .string ⟨#[111,110]⟩, .string ⟨#[105,102]⟩] 9)).trans (hb2.mono (by simp))))
 have T3:=hb10.trans (hb11.mono hb10.size)
 have t9:=hb8.trans (hb9.mono hb8.size)
 have T2:=(t9.alloc t9.size (.cells #[.bool b3, .slice la3 ss3.length lc3] 130)).trans (T3.mono (by have:=t9.size;simp at this ⊢;omega))
 have t7:=hb6.trans (hb7.mono hb6.size)
 have T1:=(t7.alloc t7.size (.cells #[.bool b2, .slice la2 ss2.length lc2] 130)).trans (T2.mono (by have:=t7.size;simp at this ⊢;omega))
 have t5:=aw4.trans (hb5.mono aw4.size)
 have T0:=(t5.alloc t5.size (.cells #[.bool b1, .slice la1 ss1.length lc1] 130)).trans (T1.mono (by have:=t5.size;simp at this ⊢;omega))
 have k1:=zQ T1
 have k2:=zQ T2
 have k3:=zQ T3
 have a1:=(cells_of_block k1 0).1
 have a1':=(cells_of_block k1 1).1
 have a2:=(cells_of_block k2 0).1
 have a2':=(cells_of_block k2 1).1
 have a3:=(cells_of_block k3 0).1
 have a3':=(cells_of_block k3 1).1
 simp at a1 a1' a2 a2' a3 a3'
 have o1:zh w11 w4.heap.size (.slice la1 ss1.length lc1) ss1:=zh.below (zh.below hown1 ((Below.refl _ w5).alloc (Nat.le_refl _) (.cells #[.bool b1, .slice la1 ss1.length lc1] 130))) T1
 have o2:zh w11 w6.heap.size (.slice la2 ss2.length lc2) ss2:=zh.below (zh.below hown2 ((Below.refl _ w7).alloc (Nat.le_refl _) (.cells #[.bool b2, .slice la2 ss2.length lc2] 130))) T2
 have o3:zh w11 w8.heap.size (.slice la3 ss3.length lc3) ss3:=zh.below (zh.below hown3 ((Below.refl _ w9).alloc (Nat.le_refl _) (.cells #[.bool b3, .slice la3 ss3.length lc3] 130))) T3
 have bw11:Below w.heap.size w w11:=bw10.trans (hb11.mono bw10.size)
 have z4:w.heap.size<w4.heap.size:=by have h1:=aw4.size;simp at h1;omega
 have z6:w.heap.size<w6.heap.size:=by have h1:=T0.size;have h2:=hb5.size;have h3:=hb6.size;simp at h3;omega
 have z8:w.heap.size<w8.heap.size:=by have h2:=hb7.size;have h3:=hb8.size;simp at h3;omega
 have z10:w.heap.size<w10.heap.size:=by have h2:=hb9.size;have h3:=hb10.size;simp at h3;omega
 have bA:Below w.heap.size w ((w11.alloc (.cells #[.string ES, .bool b1, .slice la1 ss1.length lc1, .bool b2, .slice la2 ss2.length lc2, .bool b3, .slice la3 ss3.length lc3, .slice laf cs.length lcf] 133)).alloc (.cells #[uE,u1,u2,u3,uF] 74)):=(bw11.alloc bw11.size _).alloc (by have:=bw11.size;simp;omega) _
 have aA:=(T0.alloc T0.size (.cells #[.string ES, .bool b1, .slice la1 ss1.length lc1, .bool b2, .slice la2 ss2.length lc2, .bool b3, .slice la3 ss3.length lc3, .slice laf cs.length lcf] 133)).alloc (by have:=T0.size;simp at this ⊢;omega) (.cells #[uE,u1,u2,u3,uF] 74)
 have hCb:((w11.alloc (.cells #[.string ES, .bool b1, .slice la1 ss1.length lc1, .bool b2, .slice la2 ss2.length lc2, .bool b3, .slice la3 ss3.length lc3, .slice laf cs.length lcf] 133)).alloc (.cells #[uE,u1,u2,u3,uF] 74)).heap[w11.heap.size]?=some (.cells #[.string ES, .bool b1, .slice la1 ss1.length lc1, .bool b2, .slice la2 ss2.length lc2, .bool b3, .slice la3 ss3.length lc3, .slice laf cs.length lcf] 133):=(qI w11 (.cells #[.string ES, .bool b1, .slice la1 ss1.length lc1, .bool b2, .slice la2 ss2.length lc2, .bool b3, .slice la3 ss3.length lc3, .slice laf cs.length lcf] 133) (.cells #[uE,u1,u2,u3,uF] 74)).1
 have hGb:((w11.alloc (.cells #[.string ES, .bool b1, .slice la1 ss1.length lc1, .bool b2, .slice la2 ss2.length lc2, .bool b3, .slice la3 ss3.length lc3, .slice laf cs.length lcf] 133)).alloc (.cells #[uE,u1,u2,u3,uF] 74)).heap[w11.heap.size+1]?=some (.cells #[uE,u1,u2,u3,uF] 74):=(qI w11 (.cells #[.string ES, .bool b1, .slice la1 ss1.length lc1, .bool b2, .slice la2 ss2.length lc2, .bool b3, .slice la3 ss3.length lc3, .slice laf cs.length lcf] 133) (.cells #[uE,u1,u2,u3,uF] 74)).2
 have cGr:∀W:World,Below w.heap.size w W→W.heap[w11.heap.size+1]?=some (.cells #[uE,u1,u2,u3,uF] 74)→Calls Tryz.prog 102 #[.slice (some ⟨w11.heap.size+1,0,none⟩) 5 5] W fun e w'=>∃u,e = .returned u∧FV (Rd.Zc [EC,c1,c2,c3,cf]) u∧Below W.heap.size W w':=fun W hW hg=>
  kX [EC,c1,c2,c3,cf] [uE,u1,u2,u3,uF] _ 5 W (hErr W hW) (by simp) (zmN hg) (znA hfE hf1 hf2 hf3 hfF)
 have q0:=hfE.cells
 have q1:=hf1.cells
 have q2:=hf2.cells
 have q3:=hf3.cells
 have q4:=hfF.cells
 have KEEP:=hid (And.intro o1 (And.intro o2 (And.intro o3 hownF)))
 clear cR cGE cE cG1 cG2 cG3 cGF cH1 cH2 cH3 cF hErr o1 o2 o3 hownF hown1 hown2 hown3 k1 k2 k3 T1 T2 T3 t5 t7 t9 T0 hb2 hb2' hb3 hb4 hb5 hb6 hb7 hb8 hb9 hb10 aw1 aw2 aw3 aw4 bw1 bw2 bw3 bw4 bw5 bw5' bw6 bw7 bw7' bw8 bw9 bw9' bw10
 go_upto_region 10 with fail
 go_region_with (go_at_call 102;refine (cGr _ (by first|exact bA|exact bA.drew|exact bA.drew.drew) (by first|exact hGb)).mono ?_;rintro e w12 ⟨uR,rfl,hfR,hb12⟩;have hb12':Below ((w11.alloc (.cells #[.string ES, .bool b1, .slice la1 ss1.length lc1, .bool b2, .slice la2 ss2.length lc2, .bool b3, .slice la3 ss3.length lc3, .slice laf cs.length lcf] 133)).alloc (.cells #[uE,u1,u2,u3,uF] 74)).heap.size ((w11.alloc (.cells #[.string ES, .bool b1, .slice la1 ss1.length lc1, .bool b2, .slice la2 ss2.length lc2, .bool b3, .slice la3 ss3.length lc3, .slice laf cs.length lcf] 133)).alloc (.cells #[uE,u1,u2,u3,uF] 74)) w12:=(by first|exact hb12|exact xG hb12|exact xG (xG hb12));have bk:=zQ (aA.trans (hb12'.mono aA.size));have r0:=(cells_of_block bk 0).1;have r1:=(cells_of_block bk 1).1;have r2:=(cells_of_block bk 2).1;have r3:=(cells_of_block bk 3).1;have r4:=(cells_of_block bk 4).1;have r5:=(cells_of_block bk 5).1;have r6:=(cells_of_block bk 6).1;have r7:=(cells_of_block bk 7).1;have f0:=(cells_of_block bk 0).2;have f1:=(cells_of_block bk 1).2;have f2:=(cells_of_block bk 2).2;have f3:=(cells_of_block bk 3).2;have f4:=(cells_of_block bk 4).2;have f5:=(cells_of_block bk 5).2;have f6:=(cells_of_block bk 6).2;have f7:=(cells_of_block bk 7).2;simp at r0 r1 r2 r3 r4 r5 r6 r7;have bC:=(hb12'.block w11.heap.size (by simp;omega)).trans hCb;have g0:=(cells_of_block bC 0).1;have g1:=(cells_of_block bC 1).1;have g2:=(cells_of_block bC 2).1;have g3:=(cells_of_block bC 3).1;have g4:=(cells_of_block bC 4).1;have g5:=(cells_of_block bC 5).1;have g6:=(cells_of_block bC 6).1;have g7:=(cells_of_block bC 7).1;simp at g0 g1 g2 g3 g4 g5 g6 g7)
 all_goals
  have s8:=Uh bk rfl (.string ES) (.bool b1) (.slice la1 ss1.length lc1) (.bool b2) (.slice la2 ss2.length lc2) (.bool b3) (.slice la3 ss3.length lc3) (.slice laf cs.length lcf)
  unfold ze1 zf7 at s8
  simp only [Nat.zero_add] at s8
  obtain ⟨s0,s1,s2,s3,s4,s5,s6,s7⟩:=s8
  have BW:=hid (bA.trans (hb12'.mono bA.size))
  have AB:Below w11.heap.size w11 w12:=(((Below.refl _ w11).alloc (Nat.le_refl _) (.cells #[.string ES, .bool b1, .slice la1 ss1.length lc1, .bool b2, .slice la2 ss2.length lc2, .bool b3, .slice la3 ss3.length lc3, .slice laf cs.length lcf] 133)).alloc (by simp) (.cells #[uE,u1,u2,u3,uF] 74)).trans (hb12'.mono (by simp;omega))
  have OW:=hid (And.intro (KEEP.out.1.below AB) (And.intro (KEEP.out.2.1.below AB) (And.intro (KEEP.out.2.2.1.below AB) (KEEP.out.2.2.2.below AB))))
  have HFR:=hid hfR
  clear hfR hb12 hb12' bk bC KEEP AB q0 q1 q2 q3 q4 cGr hGb hCb bA aA
  go_wp2_with fail
  exact bodyPost_ret (v := .tuple #[.agg #[.string ES, .bool b1, .slice la1 ss1.length lc1, .bool b2, .slice la2 ss2.length lc2, .bool b3, .slice la3 ss3.length lc3, .slice laf cs.length lcf],uR]) (by simp [results,Tryz.results53,go_sem,s0,s1,s2,s3,s4,s5,s6,s7]) rfl
   ⟨_,_,_,_,_,rfl,HFR.out,V7 BW.out (Nat.le_refl _) _ _ _ _ _ _ _ _,(JV OW.out.1 z4 _ _ _ _ _ _ _ _).mono (by omega),(JV OW.out.2.1 z6 _ _ _ _ _ _ _ _).mono (by omega),(JV OW.out.2.2.1 z8 _ _ _ _ _ _ _ _).mono (by omega),(zga OW.out.2.2.2 z10 _ _ _ _ _ _ _ _).mono (by omega)⟩
theorem zf0 (x:Rd.V) (u:Value) (w:World) (hE:zi2 w) (hx:OAt w (some x) u) (hG:Rd.Good 4000 x):Calls Tryz.prog 53 #[u] w (Xx w x):=by
 by_cases h:∃ms,x = .obj ms∧Rd.qX ms [Rd.zk,Rd.jB,Rd.bDo,Rd.bOn,Rd.bIf]=true
 ·obtain ⟨ms,rfl,ho⟩:=h
  obtain ⟨us,ao,cap,rfl,hO⟩:=Uj hx
  exact zcT ms us ao cap w ⟨hE,hO,hG⟩ ho
 ·refine zaW x u w hx hG (fun ms e=>?_)
  cases hc:Rd.qX ms [Rd.zk,Rd.jB,Rd.bDo,Rd.bOn,Rd.bIf] with
  | false=>rfl
  | true=>exact absurd ⟨ms,e,hc⟩ h
end Go.Proofs.YtdakgnaojakldaaGreatDoor
