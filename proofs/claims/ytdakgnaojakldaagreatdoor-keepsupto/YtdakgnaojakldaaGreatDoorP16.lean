/- P -/
import Derived.Test.YtdakgnaojakldaaGreatDoorP15
set_option maxRecDepth 100000
set_option maxHeartbeats 2000000
namespace Go.Proofs.YtdakgnaojakldaaGreatDoor
open Go.RowKit
structure yw (w:World) (ms:List (ByteArray×Rd.V)) (us:List (ByteArray×Value)) (ao:Option Addr) (cap:Nat):Prop where
 env:zi2 w
 obj:Yl w ms us ao
 good:Rd.Good 4000 (.obj ms)
theorem yw.below {w w':World} {ms:List (ByteArray×Rd.V)} {us:List (ByteArray×Value)} {ao:Option Addr} {cap:Nat} (h:yw w ms us ao cap) (hb:Below w.heap.size w w'):yw w' ms us ao cap:=⟨h.env.below hb,h.obj.below hb,h.good⟩
theorem yw.len {w:World} {ms:List (ByteArray×Rd.V)} {us:List (ByteArray×Value)} {ao:Option Addr} {cap:Nat} (h:yw w ms us ao cap):ms.length≤4000:=by
 have:=h.good
 cases this with|obj _ h=>exact h
theorem yw.get {w:World} {ms:List (ByteArray×Rd.V)} {us:List (ByteArray×Value)} {ao:Option Addr} {cap:Nat} (h:yw w ms us ao cap) (nm:ByteArray) :
  Calls Tryz.prog 51 #[.slice ao us.length cap, .string nm] w fun e w'=>e = .returned (QH us nm)∧Below w.heap.size w w':=KP cap h.obj h.len nm
theorem yw.key {w:World} {ms:List (ByteArray×Rd.V)} {us:List (ByteArray×Value)} {ao:Option Addr} {cap:Nat} (h:yw w ms us ao cap) :
  Calls Tryz.prog 98 #[QH us Ref.x9, .func (.func 82) #[] #[]] w (QZ w (Rd.qO Ref.zY (Rd.zK ms Ref.x9)) (Rd.zT Ref.zY (Rd.zK ms Ref.x9))):=
 Z8 _ _ _ _ _ 4000 w (enters_of Tryz.func82 (by kernel_rfl) rfl) (h.obj.get Ref.x9) (fun s hs=>by have:=Rd.qx h.good Ref.x9 _ hs;cases this with|str _ h=>exact h) (Ky w)
theorem yw.no {w:World} {ms:List (ByteArray×Rd.V)} {us:List (ByteArray×Value)} {ao:Option Addr} {cap:Nat} (h:yw w ms us ao cap) :
  Calls Tryz.prog 201 #[QH us Ref.bNo] w (zg9 w (Rd.zK ms Ref.bNo)):=zkd _ _ w (h.obj.get Ref.bNo)
theorem yw.oper {w:World} {ms:List (ByteArray×Rd.V)} {us:List (ByteArray×Value)} {ao:Option Addr} {cap:Nat} (h:yw w ms us ao cap) :
  Calls Tryz.prog 200 #[QH us Ref.bOp] w (zg7 w (Rd.zK ms Ref.bOp)):=zjd _ _ w h.env.ops (h.obj.get Ref.bOp)
theorem yw.look {w:World} {ms:List (ByteArray×Rd.V)} {us:List (ByteArray×Value)} {ao:Option Addr} {cap:Nat} (h:yw w ms us ao cap) (k:Nat) (hk:k<5) :
  Calls Tryz.prog (opL k) #[QH us Ref.zt] w (vJ w (Rd.ZB (opN k) (Rd.zK ms Ref.zt)) (Rd.jY (opN k) (Rd.zK ms Ref.zt))):=
 zkx h.env.d k hk w _ _ (fun v hv=>Rd.qx h.good Ref.zt v hv) (h.obj.get Ref.zt) (Below.refl _ _)
theorem zfy (k:Nat) (hk:k<5):∀args w,(callFunc (opL k) args).run Tryz.prog w = .ok (.enter (opL k) args) w:=by
 rcases lt5 hk with rfl|rfl|rfl|rfl|rfl
 ·exact enters_of Tryz.func320 (by kernel_rfl) rfl
 ·exact enters_of Tryz.func322 (by kernel_rfl) rfl
 ·exact enters_of Tryz.func324 (by kernel_rfl) rfl
 ·exact enters_of Tryz.func326 (by kernel_rfl) rfl
 ·exact enters_of Tryz.func328 (by kernel_rfl) rfl
theorem FV.cells {c:Nat} {u:Value} (h:FV c u):Value.cells.match_1 (fun _=>Array Value) u (fun cs=>cs) (fun v=>#[v])=#[u]:=by
 rcases h.form with rfl|⟨T,x,rfl⟩
 ·rfl
 ·rfl
theorem zny {a b c:Nat} {u v x:Value} (h1:FV a u) (h2:FV b v) (h3:FV c x):FVs [a,b,c] [u,v,x]:=by
 refine ⟨rfl,fun j d y hd hy=>?_⟩
 match j with
 | 0=>simp at hd hy;subst hd;subst hy;exact h1
 | 1=>simp at hd hy;subst hd;subst hy;exact h2
 | 2=>simp at hd hy;subst hd;subst hy;exact h3
 | j+3=>simp at hd
theorem zmL {W:World} {b:Nat} {u v x:Value} {t:TypeId} (h:W.heap[b]?=some (.cells #[u,v,x] t (0,0))):yT W (some ⟨b,0,none⟩) [u,v,x]:=by
 refine .inr ⟨b,0,rfl,fun j hj=>?_⟩
 simp only [List.length_cons,List.length_nil] at hj
 rw [Nat.zero_add,(cells_of_block h j).1]
 have:j=0∨j=1∨j=2:=by omega
 rcases this with rfl|rfl|rfl<;>rfl
theorem zds (ms:List (ByteArray×Rd.V)) (us:List (ByteArray×Value)) (ao:Option Addr) (cap:Nat) (w:World) (hI:yw w ms us ao cap) (ho:Rd.qX ms [Ref.bOp,Ref.x9,Ref.zt,Ref.bNo]=true) :
  Calls Tryz.prog 154 #[.iface 118 (.slice ao us.length cap)] w (Xw w (.obj ms)):=by
 have hC:=zak ms
 rw [ho] at hC
 simp only [if_true] at hC
 have hS:QK (.obj ms)=match ziZ (Rd.zK ms Ref.bOp) with
  | some k=>⟨opN k,Rd.qO Ref.zY (Rd.zK ms Ref.x9),Rd.ZB (opN k) (Rd.zK ms Ref.zt),Rd.zgB (Rd.zK ms Ref.bNo)⟩
  | none=>Vt:=by simp only [QK];rw [ho];rfl
 have hb0:=(Below.refl _ w).alloc (Nat.le_refl _) Xc
 have hb1:=hb0.alloc (by simp) yG
 have hr:=za8 (w.alloc Xc) Ref.bOp Ref.x9 Ref.zt Ref.bNo 9
 rw [World.size_alloc] at hr
 have cR:=jb ms us ao cap [Ref.bOp,Ref.x9,Ref.zt,Ref.bNo] (some ⟨w.heap.size+1,0,none⟩) 4 ((w.alloc Xc).alloc yG) (by simp) hI.len hr (hI.obj.below hb1) true ho
 simp only [if_true,List.length_cons,List.length_nil] at cR
 have cG:=fun W nm (h:Below w.heap.size w W)=>(hI.below h).get nm
 have cOp:=fun W (h:Below w.heap.size w W)=>(hI.below h).oper
 have cKey:=fun W (h:Below w.heap.size w W)=>(hI.below h).key
 have cNo:=fun W (h:Below w.heap.size w W)=>(hI.below h).no
 have cLook:=fun k hk W (h:Below w.heap.size w W)=>(hI.below h).look k hk
 have hErr:=fun W (h:Below w.heap.size w W)=>(hI.below h).env.d.err
 unfold Xw
 rw [hC,hS]
 obtain ⟨F,hF⟩:∃F,ziZ (Rd.zK ms Ref.bOp)=F:=⟨_,rfl⟩
 rw [hF]
 unfold zg7 at cOp
 simp only [hF] at cOp
 have hF5:∀k,F=some k→k<5:=by
  intro k hk
  rw [hk] at hF
  unfold ziZ at hF
  split at hF
  ·exact (X8 hF).1
  ·cases hF
 obtain ⟨vOp,hvOp⟩:∃x,QH us Ref.bOp=x:=⟨_,rfl⟩
 obtain ⟨vKey,hvKey⟩:∃x,QH us Ref.x9=x:=⟨_,rfl⟩
 obtain ⟨vNo,hvNo⟩:∃x,QH us Ref.bNo=x:=⟨_,rfl⟩
 obtain ⟨vVal,hvVal⟩:∃x,QH us Ref.zt=x:=⟨_,rfl⟩
 have cG1:=fun W h=>cG W Ref.bOp h
 have cG2:=fun W h=>cG W Ref.x9 h
 have cG3:=fun W h=>cG W Ref.zt h
 have cG4:=fun W h=>cG W Ref.bNo h
 simp only [hvOp] at cG1 cOp
 simp only [hvKey] at cG2 cKey
 simp only [hvVal] at cG3 cLook
 simp only [hvNo] at cG4 cNo
 generalize Rd.qO Ref.zY (Rd.zK ms Ref.x9)=KS at cKey ⊢
 generalize Rd.zT Ref.zY (Rd.zK ms Ref.x9)=KC at cKey ⊢
 clear hI ho hS hC hF hvOp hvKey hvNo hvVal cG hr
 unfold yG Xc at cR
 unfold Xc at hb0
 unfold yG Xc at hb1
 unfold Ref.bOp Ref.x9 Ref.zt Ref.bNo at cR hb1
 unfold Ref.bOp at cG1
 unfold Ref.x9 at cG2
 unfold Ref.zt at cG3
 unfold Ref.bNo at cG4
 cases F with
 | none=>
  clear cG2 cG3 cG4 cKey cNo cLook hF5 hErr
  unfold opV at cOp
  simp only at cOp
  go_enter Tryz.func154,Tryz.ntmps154
  go_wp2_with (first
   | (go_at_call 200;refine (cOp w2 bw2).mono ?_;rintro e w3 ⟨u,rfl,hfv,hb3⟩;rcases hfv with ⟨h,_⟩|⟨_,p,rfl⟩|⟨h,_⟩;(exfalso;simp at h);rotate_left;(exfalso;simp at h);have bw3:Below w.heap.size w w3:=bw2.trans (hb3.mono bw2.size);have bk:=zQ (aw2.trans (hb3.mono aw2.size));have r0:=(cells_of_block bk 0).1;have r1:=(cells_of_block bk 1).1;have r2:=(cells_of_block bk 2).1;have r3:=(cells_of_block bk 3).1;have f0:=(cells_of_block bk 0).2;have f1:=(cells_of_block bk 1).2;have f2:=(cells_of_block bk 2).2;have f3:=(cells_of_block bk 3).2;simp at r0 r1 r2 r3;have sn:=(fun W a m=>run_store Tryz.prog W a .nilFunc m rfl);have hz:w.heap.size<w3.heap.size:=(by have h1:=aw2.size;have h2:=hb3.size;simp at h1;omega);have hne:w.heap.size≠w3.heap.size:=(by omega);obtain ⟨s0,s1,s2,s3⟩:=Yn (.string ⟨#[]⟩) (.string ⟨#[]⟩) (.slice none 0 0) (.bool false) r0 r1 r2 r3;have q0:=fun O=>zi s0 O;have q1:=fun O=>zi s1 O;have q2:=fun O=>zi s2 O;have q3:=fun O=>zi s3 O)
   | (go_at_call 51;refine (cG1 w1 bw1).mono ?_;rintro e w2 ⟨rfl,hb2⟩;have bw2:Below w.heap.size w w2:=bw1.trans (hb2.mono bw1.size);have aw2:=aw1.trans (hb2.mono aw1.size))
   | (go_at_call 97;refine cR.mono ?_;rintro e w1 ⟨rfl,hb2⟩;have bw1:Below w.heap.size w w1:=hb1.trans (hb2.mono (by simp;omega));have aw1:=((Below.refl _ (w.alloc (.cells #[.string ⟨#[]⟩, .string ⟨#[]⟩, .slice none 0 0, .bool false] 241))).alloc (Nat.le_refl _) (.cells #[.string ⟨#[111,112]⟩, .string ⟨#[107,101,121]⟩, .string ⟨#[118,97,108,117,101]⟩, .string ⟨#[110,111]⟩] 9)).trans (hb2.mono (by simp))))
  exact bodyPost_ret (v := .tuple #[.agg #[.string ⟨#[]⟩, .string ⟨#[]⟩, .slice none 0 0, .bool false], .iface 125 (.agg #[.string p])]) (by simp [results,Tryz.results154,go_sem,q0,q1,q2,q3]) rfl
   ⟨_,_,rfl, .inr (.inl ⟨rfl,_,rfl⟩),((((bw3.setCell (Nat.le_refl _) _).setCell (Nat.le_refl _) _).setCell (Nat.le_refl _) _).setCell (Nat.le_refl _) _).alloc (by simp [World.setCell];omega) _,World.ownsRow_nil _ _ _ _⟩
 | some k=>
  have hk:=hF5 k rfl
  have cL:=cLook k hk
  have eL:=zfy k hk
  unfold opV at cOp
  simp only at cOp
  dsimp only
  generalize Rd.ZB (opN k) (Rd.zK ms Ref.zt)=LS at cL ⊢
  generalize Rd.jY (opN k) (Rd.zK ms Ref.zt)=LC at cL ⊢
  generalize opN k=N at cOp ⊢
  generalize opT k=ft at cOp
  generalize opL k=fl at cOp cL eL
  obtain ⟨nt,hnt⟩:∃x,Rd.zgB (Rd.zK ms Ref.bNo)=x:=⟨_,rfl⟩
  obtain ⟨NC,hNC⟩:∃x,Rd.cls (Rd.jV (Rd.zK ms Ref.bNo)) false=x:=⟨_,rfl⟩
  unfold zg9 at cNo
  simp only [hnt,hNC] at cNo
  simp only [hnt,hNC]
  clear cLook hF5 hk hnt hNC
  have sf:=fun W a g m=>run_store Tryz.prog W a (.func (.func g) #[] #[]) m rfl
  go_enter Tryz.func154,Tryz.ntmps154
  go_upto_region 8 with (first
   | (go_at_call 98;refine (cKey w4 bw4).mono ?_;rintro e w5 ⟨uK,rfl,hfK,hb5⟩;have bw5:Below w.heap.size w w5:=bw4.trans (hb5.mono bw4.size);have aw5:=aw4.trans (hb5.mono aw4.size);have cw5:=cw4.trans (hb5.mono cw4.size))
   | (go_at_call 51;refine (cG2 _ bw3').mono ?_;rintro e w4 ⟨rfl,hb4⟩;have bw4:Below w.heap.size w w4:=bw3'.trans (hb4.mono bw3'.size);have aw4:=aw3'.trans (hb4.mono aw3'.size);have cw4:=hb4)
   | (go_at_call 200;refine (cOp w2 bw2).mono ?_;rintro e w3 ⟨u,rfl,hfv,hb3⟩;rcases hfv with ⟨_,rfl⟩|⟨h,_⟩|⟨h,_⟩;rotate_left;(exfalso;simp at h);(exfalso;simp at h);have bw3':=(bw2.trans (hb3.mono bw2.size)).alloc (bw2.trans (hb3.mono bw2.size)).size (.cells #[.string N, .func (.func fl) #[] #[], .func (.func ft) #[] #[]] 342);have aw3':=(aw2.trans (hb3.mono aw2.size)).alloc (aw2.trans (hb3.mono aw2.size)).size (.cells #[.string N, .func (.func fl) #[] #[], .func (.func ft) #[] #[]] 342))
   | (go_at_call 51;refine (cG1 w1 bw1).mono ?_;rintro e w2 ⟨rfl,hb2⟩;have bw2:Below w.heap.size w w2:=bw1.trans (hb2.mono bw1.size);have aw2:=aw1.trans (hb2.mono aw1.size))
   | (go_at_call 97;refine cR.mono ?_;rintro e w1 ⟨rfl,hb2⟩;have bw1:Below w.heap.size w w1:=hb1.trans (hb2.mono (by simp;omega));have aw1:=((Below.refl _ (w.alloc (.cells #[.string ⟨#[]⟩, .string ⟨#[]⟩, .slice none 0 0, .bool false] 241))).alloc (Nat.le_refl _) (.cells #[.string ⟨#[111,112]⟩, .string ⟨#[107,101,121]⟩, .string ⟨#[118,97,108,117,101]⟩, .string ⟨#[110,111]⟩] 9)).trans (hb2.mono (by simp))))
  have ok5:=zQ cw5
  have o0:=(cells_of_block ok5 0).1
  have o1:=(cells_of_block ok5 1).1
  simp at o0 o1
  clear cR cG1 cOp cG2 cKey
  go_cut [9,10] (fun a b wx=>∃la lc,a = .slice la LS.length lc∧FV LC b∧Below w5.heap.size w5 wx∧wx.ownsRow w5.heap.size 9 1 (.slice la LS.length lc) LS.length (LS.map Value.string))
  case first=>
   go_region_with (first
    | (go_at_call 51;refine (cG3 _ (by first|exact bw5|exact bw5.drew|exact bw5.drew.drew|exact bw5.drew.drew.drew)).mono ?_;rintro e w6 ⟨rfl,hb6⟩;have hb6':Below w5.heap.size w5 w6:=(by first|exact hb6|exact xG hb6);have o6:=cell_later hb6' o1;have bw6:Below w.heap.size w w6:=bw5.trans (hb6'.mono bw5.size))
    | (go_at_fn fl;refine (cL _ (by first|exact bw6|exact bw6.drew|exact bw6.drew.drew|exact bw6.drew.drew.drew)).mono ?_;rintro e w7 ⟨lv,uV,rfl,hfV,hb7,hown7⟩;obtain ⟨la,lc,rfl⟩:=zq hown7))
   all_goals
    have hb7':Below w6.heap.size w6 w7:=(by first|exact hb7|exact xG hb7)
    have FIN:=hid (And.intro hfV (And.intro (hb6'.trans (hb7'.mono hb6'.size)) (zl hown7 (show w5.heap.size≤_ from hb6'.size))))
    go_wp2_with fail
    go_meet
    exact ⟨la,lc,rfl,FIN.out.1,FIN.out.2.1,FIN.out.2.2⟩
  case rest=>
   obtain ⟨la,lc,rfl,hfV,hbc,hownc⟩:=hcut
   have bwc:Below w.heap.size w wc:=bw5.trans (hbc.mono bw5.size)
   have awc:=aw5.trans (hbc.mono aw5.size)
   have o0c:=cell_later hbc o0
   clear cG3 cL eL o1 ok5
   go_upto_region 11 with (first
    | (go_at_call 201;refine (cNo w8 bw8).mono ?_;rintro e w9 ⟨uN,rfl,hfN,hb9⟩;have o9:=cell_later hb9 o8)
    | (go_at_call 51;refine (cG4 wc bwc).mono ?_;rintro e w8 ⟨rfl,hb8⟩;have bw8:Below w.heap.size w w8:=bwc.trans (hb8.mono bwc.size);have o8:=cell_later hb8 o0c))
   obtain ⟨uV,rfl⟩:∃x,x=u10:=⟨_,rfl⟩
   have bw9:Below w.heap.size w w9:=bw8.trans (hb9.mono bw8.size)
   have aw9:=(awc.trans (hb8.mono awc.size)).trans (hb9.mono (awc.trans (hb8.mono awc.size)).size)
   have hown9:=ownsRow_below (ownsRow_below hownc hb8) hb9
   have bA:Below w.heap.size w ((w9.alloc (.cells #[.string N, .string KS, .slice la LS.length lc, .bool nt] 241)).alloc (.cells #[uK,uV,uN] 74)):=(bw9.alloc bw9.size _).alloc (by have:=bw9.size;simp;omega) _
   have aA:=(aw9.alloc aw9.size (.cells #[.string N, .string KS, .slice la LS.length lc, .bool nt] 241)).alloc (by have:=aw9.size;simp at this ⊢;omega) (.cells #[uK,uV,uN] 74)
   have hCb:((w9.alloc (.cells #[.string N, .string KS, .slice la LS.length lc, .bool nt] 241)).alloc (.cells #[uK,uV,uN] 74)).heap[w9.heap.size]?=some (.cells #[.string N, .string KS, .slice la LS.length lc, .bool nt] 241):=(qI w9 (.cells #[.string N, .string KS, .slice la LS.length lc, .bool nt] 241) (.cells #[uK,uV,uN] 74)).1
   have hGb:((w9.alloc (.cells #[.string N, .string KS, .slice la LS.length lc, .bool nt] 241)).alloc (.cells #[uK,uV,uN] 74)).heap[w9.heap.size+1]?=some (.cells #[uK,uV,uN] 74):=(qI w9 (.cells #[.string N, .string KS, .slice la LS.length lc, .bool nt] 241) (.cells #[uK,uV,uN] 74)).2
   have cGr:∀W:World,Below w.heap.size w W→W.heap[w9.heap.size+1]?=some (.cells #[uK,uV,uN] 74)→Calls Tryz.prog 102 #[.slice (some ⟨w9.heap.size+1,0,none⟩) 3 3] W fun e w'=>∃u,e = .returned u∧FV (Rd.Zc [KC,LC,NC]) u∧Below W.heap.size W w':=fun W hW hg=>
    kX [KC,LC,NC] [uK,uV,uN] _ 3 W (hErr W hW) (by simp) (zmL hg) (zny hfK hfV hfN)
   clear hErr cG4 cNo o0 o0c o8 o9
   have kK:=hfK.cells
   have kV:=hfV.cells
   have kN:=hfN.cells
   go_region_with (go_at_call 102;refine (cGr _ (by first|exact bA|exact bA.drew|exact bA.drew.drew) (by first|exact hGb)).mono ?_;rintro e w10 ⟨uR,rfl,hfR,hb10⟩;have hb10':Below ((w9.alloc (.cells #[.string N, .string KS, .slice la LS.length lc, .bool nt] 241)).alloc (.cells #[uK,uV,uN] 74)).heap.size ((w9.alloc (.cells #[.string N, .string KS, .slice la LS.length lc, .bool nt] 241)).alloc (.cells #[uK,uV,uN] 74)) w10:=(by first|exact hb10|exact xG hb10|exact xG (xG hb10));have bk:=zQ (aA.trans (hb10'.mono aA.size));have r0:=(cells_of_block bk 0).1;have r1:=(cells_of_block bk 1).1;have r2:=(cells_of_block bk 2).1;have r3:=(cells_of_block bk 3).1;have f0:=(cells_of_block bk 0).2;have f1:=(cells_of_block bk 1).2;have f2:=(cells_of_block bk 2).2;have f3:=(cells_of_block bk 3).2;simp at r0 r1 r2 r3;have bC:=(hb10'.block w9.heap.size (by simp;omega)).trans hCb;have c0:=(cells_of_block bC 0).1;have c1:=(cells_of_block bC 1).1;have c2:=(cells_of_block bC 2).1;have c3:=(cells_of_block bC 3).1;simp at c0 c1 c2 c3)
   all_goals
    have s4:=Yn (.string N) (.string KS) (.slice la LS.length lc) (.bool nt) r0 r1 r2 r3
    have BW:=hid (bA.trans (hb10'.mono bA.size))
    have OW:=hid (ownsRow_below ((hown9.alloc _).alloc _) hb10')
    have hz5:w.heap.size<w5.heap.size:=by have h1:=aw5.size;simp at h1;omega
    have HFR:=hid hfR
    clear hfR hb10 hb10' bk bC hown9
    go_wp2_with fail
    exact bodyPost_ret (v := .tuple #[.agg #[.string N, .string KS, .slice la LS.length lc, .bool nt],uR]) (by simp [results,Tryz.results154,go_sem,s4]) rfl
     ⟨_,_,rfl,HFR.out,(((BW.out.setCell (Nat.le_refl _) _).setCell (Nat.le_refl _) _).setCell (Nat.le_refl _) _).setCell (Nat.le_refl _) _,zl (zA (zA (zA (zA OW.out hz5 _ _) hz5 _ _) hz5 _ _) hz5 _ _) (by omega)⟩
theorem zgb (x:Rd.V) (u:Value) (w:World) (hE:zi2 w) (hx:OAt w (some x) u) (hG:Rd.Good 4000 x):Calls Tryz.prog 154 #[u] w (Xw w x):=by
 by_cases h:∃ms,x = .obj ms∧Rd.qX ms [Ref.bOp,Ref.x9,Ref.zt,Ref.bNo]=true
 ·obtain ⟨ms,rfl,ho⟩:=h
  obtain ⟨us,ao,cap,rfl,hO⟩:=Uj hx
  exact zds ms us ao cap w ⟨hE,hO,hG⟩ ho
 ·refine zb2 x u w hx hG (fun ms e=>?_)
  cases hc:Rd.qX ms [Ref.bOp,Ref.x9,Ref.zt,Ref.bNo] with
  | false=>rfl
  | true=>exact absurd ⟨ms,e,hc⟩ h
def zh (w:World) (base:Nat) (lv:Value) (ss:List ByteArray):Prop:=w.ownsRow base 9 1 lv ss.length (ss.map Value.string)
def jw (w:World) (base:Nat) (xs:List Value) (j:Nat) (c:jg):Prop:=
 ∃lv,xs[j*4]?=some (.string c.op)∧xs[j*4+1]?=some (.string c.key)∧xs[j*4+2]?=some lv∧xs[j*4+3]?=some (.bool c.no)∧zh w base lv c.vals
theorem jw.below {w w':World} {base:Nat} {xs:List Value} {j:Nat} {c:jg} (h:jw w base xs j c) (hb:Below w.heap.size w w'):jw w' base xs j c:=by
 obtain ⟨lv,h0,h1,h2,h3,h4⟩:=h
 exact ⟨lv,h0,h1,h2,h3,ownsRow_below h4 hb⟩
theorem jw.set {w:World} {base:Nat} {xs:List Value} {j:Nat} {c:jg} (h:jw w base xs j c) {b:Nat} (hb:b<base) (o:Nat) (u:Value):jw (w.setCell ⟨b,o,none⟩ u) base xs j c:=by
 obtain ⟨lv,h0,h1,h2,h3,h4⟩:=h
 exact ⟨lv,h0,h1,h2,h3,zA h4 hb o u⟩
def qc (w:World) (base:Nat) (lv:Value) (cs:List jg):Prop:=
 ∃xs,w.ownsRow base 241 4 lv cs.length xs∧∀j,(h:j<cs.length)→jw w base xs j cs[j]
def zkk (g:Nat) (lb:Array Value) (el:Nat→Value) (n:Nat) (cs:Nat→jg) (c:Nat→Nat) (w:World):Prop:=
 ∀W j,j<n→Below w.heap.size w W→Calls Tryz.prog g (#[el j]++lb) W fun e w'=>
  ∃lv u,e = .returned (.tuple #[.agg #[.string (cs j).op, .string (cs j).key,lv, .bool (cs j).no],u])∧FV (c j) u∧Below W.heap.size W w'∧zh w' W.heap.size lv (cs j).vals
def zif (w:World) (n:Nat) (cs:Nat→jg) (c:Nat→Nat) (e:Ending) (w':World):Prop:=
 ∃(oa fa:Option Addr) (oc fc:Nat) (ys:List Value),e = .returned (.tuple #[.slice oa n oc, .slice fa n fc])∧ys.length=n∧yT w' fa ys∧FVs ((List.range n).map c) ys∧Below w.heap.size w w' ∧
  qc w' w.heap.size (.slice oa n oc) ((List.range n).map cs)
theorem zgK:(Tryz.prog.info? 241).map (fun i=>(i.zero,i.size,i.bytes))=some (some (.agg #[.string ⟨#[]⟩, .string ⟨#[]⟩, .slice none 0 0, .bool false]),4,64):=by kernel_rfl
theorem zev {w:World} {base:Nat} {e:TypeId} {v:Value} {n:Nat} {xs:List Value} (h:w.ownsRow base e 4 v n xs) {b:Nat} (hb:v.ownBlock≠some b) (o:Nat) (u:Value):(w.setCell ⟨b,o,none⟩ u).ownsRow base e 4 v n xs:=
 ownsRow_setCell_other h (a:=⟨b,o,none⟩) hb u
theorem ziB (us:List Value) (ao:Option Addr) (cap g:Nat) (lb:Array Value) (cs:Nat→jg) (c:Nat→Nat) (w:World) (hn:us.length≤1000) (eg:∀args w,(callFunc g args).run Tryz.prog w = .ok (.enter g args) w)
  (hm:yT w ao us) (hif:∀u ∈ us,u = .nilIface∨∃T x,u = .iface T x) (hp:zkk g lb (fun j=>us.getD j .nilIface) us.length cs c w) :
  Calls Tryz.prog 153 #[.slice ao us.length cap, .func (.func g) #[] lb] w (zif w us.length cs c):=by
 obtain ⟨i0,hi,hz0,hz1,hz2⟩:=info_parts zgK
 obtain ⟨i1,hj,hy0,hy1,hy2⟩:=info_parts (show (Tryz.prog.info? 74).map (fun i=>(i.zero,i.size,i.bytes))=some (some .nilIface,1,16) by kernel_rfl)
 obtain ⟨n,hnn⟩:∃n,us.length=n:=⟨_,rfl⟩
 rw [hnn] at hn hp ⊢
 have HM:=hid hm
 have HIF:=hid hif
 have HP:=hid hp
 have HNN:=hid hnn
 clear hm hif hp hnn
 go_enter Tryz.func153,Tryz.ntmps153
 go_wp2_with (at_make;refine wpList_make_full _ rfl _ _ 131 rfl w.heap.size 241 i0 (.agg #[.string ⟨#[]⟩, .string ⟨#[]⟩, .slice none 0 0, .bool false]) 4 Tryz.underlying131 hi hz0 hz1 _ _ _ _ n rfl rfl ?_ ?_ ?_ ?_ ?_ ?_)
 ·omega
 ·omega
 ·rw [hz2];omega
 ·unfold maxLen;omega
 ·omega
 intro w1 own1 grow1
 obtain ⟨zs,hzs⟩:∃zs,(madeCells #[.string ⟨#[]⟩, .string ⟨#[]⟩, .slice none 0 0, .bool false] (n*4)).toList=zs:=⟨_,rfl⟩
 rw [hzs] at own1
 have bel1:Below w.heap.size w w1:=(Below.refl _ w).grown grow1 (Nat.le_refl _) (fun k hk=>by cases hk)
 clear hzs
 go_wp2_with (at_make;refine wpList_make_full _ rfl _ _ 126 rfl w.heap.size 74 i1 .nilIface 1 Tryz.underlying126 hj hy0 hy1 _ _ _ _ n rfl rfl ?_ ?_ ?_ ?_ ?_ ?_)
 ·omega
 ·omega
 ·rw [hy2];omega
 ·unfold maxLen;omega
 ·have:=bel1.size;omega
 intro w2 own2 grow2
 have ow2:w2.ownsRow w.heap.size 74 1 (.slice (some ⟨w1.heap.size,0,none⟩) n n) n (List.replicate n .nilIface):=by
  rw [← toList_madeCells_one];exact own2
 have ow1b:=own1.kept grow2 (.inr (by simp [Value.ownBlock]))
 have hlt1:w.heap.size<w1.heap.size:=(own1.lt _ rfl).2
 have bel2:Below w.heap.size w w2:=bel1.grown grow2 bel1.size (fun k hk=>by cases hk)
 have hlt2:w1.heap.size<w2.heap.size:=(ow2.lt _ rfl).2
 obtain ⟨eb,heb⟩:∃eb,w1.heap.size=eb:=⟨_,rfl⟩
 rw [heb] at ow2 hlt1 hlt2 ⊢
 have hne:w.heap.size≠eb:=by omega
 have OW1:=hid ow1b
 have OW2:=hid ow2
 have BEL:=hid bel2
 have HL2:=hid hlt2
 clear own2 grow2 grow1 own1 bel1 ow1b ow2 bel2 heb hlt2
 go_wp2_with fail
 go_loopw [18] (fun iv wr=>∃(k:Nat) (xs ys:List Value),k≤n∧iv = .int .i64 k∧zb9 c n k ys∧wr.ownsRow w.heap.size 241 4 (.slice (some ⟨w.heap.size,0,none⟩) n n) n xs∧wr.ownsRow w.heap.size 74 1 (.slice (some ⟨eb,0,none⟩) n n) n ys∧Below w.heap.size w wr∧eb<wr.heap.size∧(∀j,j<k→jw wr (eb+1) xs j (cs j))) (fun iv _=>n-(intOf iv).toNat)
 case atStart=>exact ⟨0,_,_,Nat.zero_le _,rfl,zb9.start c n,OW1.out,OW2.out,BEL.out,HL2.out,fun j hj=>by omega⟩
 case round=>
  obtain ⟨k,xs,ys,hk,rfl,hys,ro,re,rb,rlt,rc⟩:=hrel
  clear OW1 OW2 BEL HL2
  have RO:=hid ro
  have RE:=hid re
  have RB:=hid rb
  have HYS:=hid hys
  have RC:=hid rc
  clear ro re rb hys rc
  by_cases hlt:k<n
  ·have hku:k<us.length:=by rw [HNN.out];exact hlt
   have hgd:us.getD k .nilIface=us[k]:=by rw [List.getD_eq_getElem?_getD,List.getElem?_eq_getElem hku];rfl
   have hpk:=HP.out wr k hlt RB.out
   have hv:=HIF.out us[k] (List.getElem_mem hku)
   rcases HM.out with hnil|⟨b,o,hao,hc⟩
   ·rw [hnil] at hku;simp at hku
   subst hao
   have q:=cell_later RB.out (hc k hku)
   simp only [hgd] at hpk
   obtain ⟨u,hu⟩:∃u,us[k]=u:=⟨_,rfl⟩
   rw [hu] at q hpk hv
   obtain ⟨cop,hcop⟩:∃x,(cs k).op=x:=⟨_,rfl⟩
   obtain ⟨ckey,hckey⟩:∃x,(cs k).key=x:=⟨_,rfl⟩
   obtain ⟨cno,hcno⟩:∃x,(cs k).no=x:=⟨_,rfl⟩
   rw [hcop,hckey,hcno] at hpk
   have HC1:=hid hcop
   have HC2:=hid hckey
   have HC3:=hid hcno
   clear hu hc hgd hcop hckey hcno
   have hxl:xs.length=n*4:=RO.out.1
   have HXL:=hid hxl
   clear hxl
   have cells:Hid (∀w3,Below wr.heap.size wr w3→(∃a0,w3.cell? ⟨w.heap.size,k*4,none⟩=some a0)∧(∃a0,w3.cell? ⟨w.heap.size,k*4+1,none⟩=some a0)∧(∃a0,w3.cell? ⟨w.heap.size,k*4+2,none⟩=some a0)∧(∃a0,w3.cell? ⟨w.heap.size,k*4+3,none⟩=some a0) ∧
     w3.frozen? ⟨w.heap.size,k*4,none⟩=false∧w3.frozen? ⟨w.heap.size,k*4+1,none⟩=false∧w3.frozen? ⟨w.heap.size,k*4+2,none⟩=false∧w3.frozen? ⟨w.heap.size,k*4+3,none⟩=false∧w3.cell? ⟨eb,k,none⟩=some .nilIface∧w3.frozen? ⟨eb,k,none⟩=false):=by
    intro w3 hb3
    have o3:=ownsRow_below RO.out hb3
    have e3:=ownsRow_below RE.out hb3
    have hx:=HXL.out
    exact ⟨⟨_,(o3.cellAt _ (by omega)).trans (List.getElem?_eq_getElem (by omega))⟩,⟨_,(o3.cellAt _ (by omega)).trans (List.getElem?_eq_getElem (by omega))⟩,⟨_,(o3.cellAt _ (by omega)).trans (List.getElem?_eq_getElem (by omega))⟩,⟨_,(o3.cellAt _ (by omega)).trans (List.getElem?_eq_getElem (by omega))⟩,
     o3.frozenAt _,o3.frozenAt _,o3.frozenAt _,o3.frozenAt _,(e3.cellAt k (by omega)).trans (HYS.out.2.2 k (Nat.le_refl _) hlt),e3.frozenAt k⟩
   have fin:Hid (∀w3 lv x,Below wr.heap.size wr w3→FV (c k) x→zh w3 wr.heap.size lv (cs k).vals →
     zb9 c n (k+1) (ys.set k x) ∧
     (((((w3.setCell ⟨w.heap.size,k*4,none⟩ (.string cop)).setCell ⟨w.heap.size,k*4+1,none⟩ (.string ckey)).setCell ⟨w.heap.size,k*4+2,none⟩ lv).setCell ⟨w.heap.size,k*4+3,none⟩ (.bool cno)).setCell ⟨eb,k,none⟩ x).ownsRow w.heap.size 241 4 (.slice (some ⟨w.heap.size,0,none⟩) n n) n ((((xs.set (k*4) (.string cop)).set (k*4+1) (.string ckey)).set (k*4+2) lv).set (k*4+3) (.bool cno)) ∧
     (((((w3.setCell ⟨w.heap.size,k*4,none⟩ (.string cop)).setCell ⟨w.heap.size,k*4+1,none⟩ (.string ckey)).setCell ⟨w.heap.size,k*4+2,none⟩ lv).setCell ⟨w.heap.size,k*4+3,none⟩ (.bool cno)).setCell ⟨eb,k,none⟩ x).ownsRow w.heap.size 74 1 (.slice (some ⟨eb,0,none⟩) n n) n (ys.set k x) ∧
     Below w.heap.size w (((((w3.setCell ⟨w.heap.size,k*4,none⟩ (.string cop)).setCell ⟨w.heap.size,k*4+1,none⟩ (.string ckey)).setCell ⟨w.heap.size,k*4+2,none⟩ lv).setCell ⟨w.heap.size,k*4+3,none⟩ (.bool cno)).setCell ⟨eb,k,none⟩ x) ∧
     eb<(((((w3.setCell ⟨w.heap.size,k*4,none⟩ (.string cop)).setCell ⟨w.heap.size,k*4+1,none⟩ (.string ckey)).setCell ⟨w.heap.size,k*4+2,none⟩ lv).setCell ⟨w.heap.size,k*4+3,none⟩ (.bool cno)).setCell ⟨eb,k,none⟩ x).heap.size ∧
     (∀j,j<k+1→jw (((((w3.setCell ⟨w.heap.size,k*4,none⟩ (.string cop)).setCell ⟨w.heap.size,k*4+1,none⟩ (.string ckey)).setCell ⟨w.heap.size,k*4+2,none⟩ lv).setCell ⟨w.heap.size,k*4+3,none⟩ (.bool cno)).setCell ⟨eb,k,none⟩ x) (eb+1) ((((xs.set (k*4) (.string cop)).set (k*4+1) (.string ckey)).set (k*4+2) lv).set (k*4+3) (.bool cno)) j (cs j))):=by
    intro w3 lv x hb3 hx hlv
    have o3:=ownsRow_below RO.out hb3
    have e3:=ownsRow_below RE.out hb3
    have o4:=((((o3.stored (k*4) (.string cop)).1.stored (k*4+1) (.string ckey)).1.stored (k*4+2) lv).1.stored (k*4+3) (.bool cno)).1
    have hnb:(Value.slice (some ⟨eb,0,none⟩) n n).ownBlock≠some w.heap.size:=by simp only [Value.ownBlock];intro e;simp only [Option.some.injEq] at e;exact hne e.symm
    have e4:=ownsRow_setCell_other (ownsRow_setCell_other (ownsRow_setCell_other (ownsRow_setCell_other e3 (a:=⟨w.heap.size,k*4,none⟩) hnb (.string cop)) (a:=⟨w.heap.size,k*4+1,none⟩) hnb (.string ckey)) (a:=⟨w.heap.size,k*4+2,none⟩) hnb lv) (a:=⟨w.heap.size,k*4+3,none⟩) hnb (.bool cno)
    have hz:=hb3.size
    have hxl:=HXL.out
    refine ⟨HYS.out.set hlt hx,zev o4 (by simp only [Value.ownBlock];intro e;simp only [Option.some.injEq] at e;exact hne e) _ _,(e4.stored k x).1,(((((RB.out.trans (hb3.mono RB.out.size)).setCell (Nat.le_refl _) _).setCell (Nat.le_refl _) _).setCell (Nat.le_refl _) _).setCell (Nat.le_refl _) _).setCell (by show w.heap.size≤eb;omega) _,by simp [World.setCell];omega,fun j hj=>?_⟩
    by_cases hjk:j=k
    ·subst hjk
     refine ⟨lv,?_,?_,?_,?_,zA (zA (zA (zA (zA (zl hlv (by omega)) (by omega) _ _) (by omega) _ _) (by omega) _ _) (by omega) _ _) (by omega) _ _⟩
     ·simp [List.getElem?_set,HC1.out];omega
     ·simp [List.getElem?_set,HC2.out];omega
     ·simp [List.getElem?_set];omega
     ·simp [List.getElem?_set,HC3.out];omega
    ·have hc0:=(((((((RC.out j (by omega)).below hb3).set (b:=w.heap.size) (by omega) (k*4) (.string cop)).set (b:=w.heap.size) (by omega) (k*4+1) (.string ckey)).set (b:=w.heap.size) (by omega) (k*4+2) lv).set (b:=w.heap.size) (by omega) (k*4+3) (.bool cno)).set (b:=eb) (by omega) k x)
     obtain ⟨l0,h0,h1,h2,h3,h4⟩:=hc0
     refine ⟨l0,?_,?_,?_,?_,h4⟩
     ·rw [List.getElem?_set,if_neg (by omega),List.getElem?_set,if_neg (by omega),List.getElem?_set,if_neg (by omega),List.getElem?_set,if_neg (by omega)];exact h0
     ·rw [List.getElem?_set,if_neg (by omega),List.getElem?_set,if_neg (by omega),List.getElem?_set,if_neg (by omega),List.getElem?_set,if_neg (by omega)];exact h1
     ·rw [List.getElem?_set,if_neg (by omega),List.getElem?_set,if_neg (by omega),List.getElem?_set,if_neg (by omega),List.getElem?_set,if_neg (by omega)];exact h2
     ·rw [List.getElem?_set,if_neg (by omega),List.getElem?_set,if_neg (by omega),List.getElem?_set,if_neg (by omega),List.getElem?_set,if_neg (by omega)];exact h3
   rcases hv with rfl|⟨T,y,rfl⟩
   ·go_wp2_with (go_at_fn g;refine hpk.mono ?_;rintro e w3 ⟨lv,x,rfl,hfv,hb3,hlv⟩;obtain ⟨⟨a0,d0⟩,⟨a1,d1⟩,⟨a2,d2⟩,⟨a3,d3⟩,g0,g1,g2,g3,d4,g4⟩:=cells.out w3 hb3;have FIN:=hid (fin.out w3 lv x hb3 hfv hlv);obtain ⟨la,lc,rfl⟩:=zq hlv;rcases hfv.form with rfl|⟨T,z,rfl⟩)
    all_goals
     go_roundw
     case rel=>exact ⟨k+1,_,_,by omega,by go_num,FIN.out.1,FIN.out.2.1,FIN.out.2.2.1,FIN.out.2.2.2.1,FIN.out.2.2.2.2.1,FIN.out.2.2.2.2.2⟩
     case measure=>simp [intOf];omega
   ·go_wp2_with (go_at_fn g;refine hpk.mono ?_;rintro e w3 ⟨lv,x,rfl,hfv,hb3,hlv⟩;obtain ⟨⟨a0,d0⟩,⟨a1,d1⟩,⟨a2,d2⟩,⟨a3,d3⟩,g0,g1,g2,g3,d4,g4⟩:=cells.out w3 hb3;have FIN:=hid (fin.out w3 lv x hb3 hfv hlv);obtain ⟨la,lc,rfl⟩:=zq hlv;rcases hfv.form with rfl|⟨T,z,rfl⟩)
    all_goals
     go_roundw
     case rel=>exact ⟨k+1,_,_,by omega,by go_num,FIN.out.1,FIN.out.2.1,FIN.out.2.2.1,FIN.out.2.2.2.1,FIN.out.2.2.2.2.1,FIN.out.2.2.2.2.2⟩
     case measure=>simp [intOf];omega
  ·have hkn:k=n:=by omega
   subst hkn
   have hE:=HYS.out.done
   have hl:=HYS.out.1
   go_wp2
   go_ret2
   refine ⟨_,_,_,_,ys,rfl,hl,?_,hE,RB.out,xs,?_,?_⟩
   ·exact .inr ⟨eb,0,rfl,fun j hj=>by rw [Nat.zero_add];exact (RE.out.cellAt j (by omega)).trans (List.getElem?_eq_getElem hj)⟩
   ·rw [List.length_map,List.length_range];exact RO.out
   ·intro j hj
    rw [List.length_map,List.length_range] at hj
    obtain ⟨l0,h0,h1,h2,h3,h4⟩:=RC.out j hj
    rw [List.getElem_map,List.getElem_range]
    exact ⟨l0,h0,h1,h2,h3,zl h4 (by omega)⟩
def YH:Option Rd.V→List jg
 | some (.list vs)=>if 5<vs.length then [] else vs.map QK
 | _=>[]
def Xb (w:World) (x:Option Rd.V) (e:Ending) (w':World):Prop:=
 ∃lv u,e = .returned (.tuple #[lv,u])∧FV (Rd.jD x) u∧Below w.heap.size w w'∧qc w' w.heap.size lv (YH x)
theorem qc.nil (w:World) (base:Nat):qc w base (.slice none 0 0) []:=⟨[],World.ownsRow_nil _ _ _ _,fun j hj=>by simp at hj⟩
theorem qc.below {w w':World} {base:Nat} {lv:Value} {cs:List jg} (h:qc w base lv cs) (hb:Below w.heap.size w w'):qc w' base lv cs:=by
 obtain ⟨xs,h1,h2⟩:=h
 exact ⟨xs,ownsRow_below h1 hb,fun j hj=>(h2 j hj).below hb⟩
theorem qc.mono {w:World} {base base':Nat} {lv:Value} {cs:List jg} (h:qc w base lv cs) (hb:base'≤base):qc w base' lv cs:=by
 obtain ⟨xs,h1,h2⟩:=h
 refine ⟨xs,zl h1 hb,fun j hj=>?_⟩
 obtain ⟨l0,g0,g1,g2,g3,g4⟩:=h2 j hj
 exact ⟨l0,g0,g1,g2,g3,zl g4 hb⟩
theorem qc.set {w:World} {base:Nat} {lv:Value} {cs:List jg} (h:qc w base lv cs) {b:Nat} (hb:b<base) (o:Nat) (u:Value):qc (w.setCell ⟨b,o,none⟩ u) base lv cs:=by
 obtain ⟨xs,h1,h2⟩:=h
 exact ⟨xs,zev h1 (by intro he;have:=(h1.lt b he).1;omega) o u,fun j hj=>(h2 j hj).set hb o u⟩
theorem qc.slice {w:World} {base:Nat} {lv:Value} {cs:List jg} (h:qc w base lv cs):∃a c,lv = .slice a cs.length c:=by
 obtain ⟨xs,h1,_⟩:=h
 rcases h1.2 with ⟨h0,hl⟩|⟨g,c,cur,rfl,_⟩
 ·rw [h0,hl];exact ⟨_,_,rfl⟩
 ·exact ⟨_,_,rfl⟩
theorem zeZ (vs:List Rd.V) (us:List Value) (ao:Option Addr) (cap:Nat) (w:World) (hE:zi2 w) (hl:us.length=vs.length) (hn:us.length≤1000)
  (hm:yT w ao us) (hx:∀(j:Nat) (v:Rd.V) (u:Value),vs[j]?=some v→us[j]?=some u→OAt w (some v) u) (hG:∀v ∈ vs,Rd.Good 4000 v) :
  Calls Tryz.prog 153 #[.slice ao us.length cap, .func (.func 154) #[] #[]] w fun e w'=>
   ∃(oa fa:Option Addr) (oc fc:Nat) (ys:List Value),e = .returned (.tuple #[.slice oa us.length oc, .slice fa us.length fc])∧ys.length=us.length∧yT w' fa ys∧FVs (vs.map Rd.condC) ys∧Below w.heap.size w w'∧qc w' w.heap.size (.slice oa us.length oc) (vs.map QK):=by
 have hat:∀j,(h:j<us.length)→OAt w (some (vs.getD j (.word false))) us[j]:=fun j h=>by
  have h2:j<vs.length:=by omega
  rw [List.getD_eq_getElem?_getD,List.getElem?_eq_getElem h2]
  exact hx j _ _ (List.getElem?_eq_getElem h2) (List.getElem?_eq_getElem h)
 refine (ziB us ao cap 154 #[] (fun j=>QK (vs.getD j (.word false))) (fun j=>Rd.condC (vs.getD j (.word false))) w hn (enters_of Tryz.func154 (by kernel_rfl) rfl) hm ?_ ?_).mono ?_
 ·intro u hu
  obtain ⟨j,hj,rfl⟩:=List.getElem_of_mem hu
  exact (hat j hj).form
 ·intro W j hj hb
  have h2:j<vs.length:=by omega
  have:=zgb (vs.getD j (.word false)) us[j] W (hE.below hb) ((hat j hj).below hb) (hG _ (by rw [List.getD_eq_getElem?_getD,List.getElem?_eq_getElem h2];exact List.getElem_mem h2))
  rw [show us[j]=us.getD j .nilIface by rw [List.getD_eq_getElem?_getD,List.getElem?_eq_getElem hj];rfl] at this
  exact this
 ·rintro e w' ⟨oa,fa,oc,fc,ys,rfl,h1,h2,h3,h4,h5⟩
  refine ⟨oa,fa,oc,fc,ys,rfl,h1,h2,?_,h4,?_⟩
  ·rw [hl,vO] at h3;exact h3
  ·rw [hl,vO] at h5;rw [hl];exact h5
theorem zcH (x:Option Rd.V) (u:Value) (w:World) (hE:zi2 w) (hx:OAt w x u) (hG:∀v,x=some v→Rd.Good 4000 v):Calls Tryz.prog 101 #[u] w (Xb w x):=by
 cases x with
 | none=>
  have hu:u = .nilIface:=hx
  subst hu
  clear hE hx hG
  go_enter Tryz.func101,Tryz.ntmps101
  go_wp2
  go_ret2
  exact ⟨_,_,rfl, .inl ⟨rfl,rfl⟩,Below.refl _ _,qc.nil _ _⟩
 | some v=>
  by_cases h:∃vs,v = .list vs
  ·obtain ⟨vs,rfl⟩:=h
   have hv:ValAt w (fun b=>b<w.heap.size) (.list vs) u:=hx
   have hgv:∀v ∈ vs,Rd.Good 4000 v:=by have:=hG _ rfl;cases this with|list _ _ h=>exact h
   have ta:=ZU
   have hc:Rd.jD (some (.list vs))=if 5<vs.length then 1 else Rd.Zc (vs.map Rd.condC):=rfl
   have hs:YH (some (.list vs))=if 5<vs.length then [] else vs.map QK:=rfl
   unfold Xb
   rw [hc,hs]
   clear hc hs hx hG
   cases hv with
   | list _ us ao cap h1 h2 h3=>
    by_cases hbad:5<vs.length
    ·rw [if_pos hbad,if_pos hbad]
     obtain ⟨n,hn⟩:∃n,us.length=n:=⟨_,rfl⟩
     rw [hn]
     have ht:decide ((5:Int)<(n:Int))=true:=by simp;omega
     clear h2 h3 hgv hE
     go_enter Tryz.func101,Tryz.ntmps101
     go_wp2
     go_ret2
     exact ⟨_,_,rfl, .inr (.inl ⟨rfl,_,rfl⟩),Below.refl _ _,qc.nil _ _⟩
    ·rw [if_neg hbad,if_neg hbad]
     have cE:=zeZ vs us ao cap w hE h1 (by omega) (by
       rcases h2 with h2|⟨b,ha,_,hc⟩
       ·exact .inl h2
       ·exact .inr ⟨b,0,ha,fun j hj=>by rw [Nat.zero_add];exact hc j _ (List.getElem?_eq_getElem hj)⟩) (fun j y v hy hv=>h3 j y v hy hv) hgv
     have hErr:=fun W (hb:Below w.heap.size w W)=>(hE.below hb).d.err
     clear h2 h3 hgv hE
     obtain ⟨n,hn⟩:∃n,us.length=n:=⟨_,rfl⟩
     rw [hn] at cE ⊢
     have hn5:n≤5:=by omega
     have ht:decide ((5:Int)<(n:Int))=false:=by simp;omega
     go_enter Tryz.func101,Tryz.ntmps101
     go_wp2_with (first
      | (go_at_call 102;refine hV.mono ?_;rintro e w2 ⟨v,rfl,hfv,hb2⟩)
      | (go_at_call 153;refine cE.mono ?_;rintro e w1 ⟨oa,fa,oc,fc,ys,rfl,hyl,hya,hyf,hb1,hown⟩;have hV:=kX _ ys fa fc w1 (hErr w1 hb1) (by omega) hya hyf;rw [hyl] at hV))
     go_ret2
     exact ⟨_,_,rfl,hfv,hb1.trans (hb2.mono hb1.size),hown.below hb2⟩
  ·have hno:∀vs,some v≠some (.list vs):=fun vs e=>h ⟨vs,by simpa using e⟩
   have ta:=fun W=>Q9 hx hno W
   obtain ⟨T,y,rfl⟩:=ValAt.iface (show ValAt w (fun b=>b<w.heap.size) v u from hx)
   have hc:Rd.jD (some v)=1:=by
    cases v with
    | list vs=>exact absurd ⟨vs,rfl⟩ h
    | _=>rfl
   have hs:YH (some v)=[]:=by
    cases v with
    | list vs=>exact absurd ⟨vs,rfl⟩ h
    | _=>rfl
   unfold Xb
   rw [hc,hs]
   clear hx hno hE hG hc hs h
   go_enter Tryz.func101,Tryz.ntmps101
   go_wp2
   go_ret2
   exact ⟨_,_,rfl, .inr (.inl ⟨rfl,_,rfl⟩),Below.refl _ _,qc.nil _ _⟩
end Go.Proofs.YtdakgnaojakldaaGreatDoor
