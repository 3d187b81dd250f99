/- P -/
import Derived.Test.YtdakgnaojakldaaGreatDoorP13
set_option maxRecDepth 100000
set_option maxHeartbeats 1000000
namespace Go.Proofs.YtdakgnaojakldaaGreatDoor
open Go.RowKit
structure Yl (w:World) (ms:List (ByteArray×Rd.V)) (us:List (ByteArray×Value)) (ao:Option Addr):Prop where
 names:us.map Prod.fst=ms.map Prod.fst
 mems:Xv w ao us
 vals:∀(j:Nat) (x:ByteArray×Rd.V) (u:ByteArray×Value),ms[j]?=some x→us[j]?=some u→ValAt w (fun b=>b<w.heap.size) x.2 u.2
theorem Uj {w:World} {ms:List (ByteArray×Rd.V)} {u:Value} (h:OAt w (some (.obj ms)) u):∃us ao cap,u = .iface 118 (.slice ao us.length cap)∧Yl w ms us ao:=by
 have hv:ValAt w (fun b=>b<w.heap.size) (.obj ms) u:=h
 cases hv with
 | obj _ us ao cap h1 h2 h3=>
  refine ⟨us,ao,cap,rfl,h1,?_,h3⟩
  rcases h2 with h2|⟨b,ha,_,hc⟩
  ·exact .inl h2
  ·exact .inr ⟨b,0,ha,fun j hj=>by simp only [Nat.zero_add];exact hc j _ (List.getElem?_eq_getElem hj)⟩
theorem Yl.len {w:World} {ms:List (ByteArray×Rd.V)} {us:List (ByteArray×Value)} {ao:Option Addr} (h:Yl w ms us ao):us.length=ms.length:=by
 have:=congrArg List.length h.names
 simpa using this
theorem Yl.below {w w':World} {ms:List (ByteArray×Rd.V)} {us:List (ByteArray×Value)} {ao:Option Addr} (h:Yl w ms us ao) (hb:Below w.heap.size w w'):Yl w' ms us ao:=
 ⟨h.names,uC h.mems hb,fun j x u hx hu=>(h.vals j x u hx hu).move (fun _ hlt=>Nat.lt_of_lt_of_le hlt hb.size) (fun b hb'=>hb.block b hb')⟩
theorem Yl.ifaces {w:World} {ms:List (ByteArray×Rd.V)} {us:List (ByteArray×Value)} {ao:Option Addr} (h:Yl w ms us ao):∀m ∈ us,∃T x,m.2 = .iface T x:=by
 intro m hm
 obtain ⟨j,hj,rfl⟩:=List.getElem_of_mem hm
 have hjm:j<ms.length:=by have:=h.len;omega
 exact (h.vals j ms[j] us[j] (List.getElem?_eq_getElem hjm) (List.getElem?_eq_getElem hj)).iface
theorem ziH {w:World} (nm:ByteArray):∀{ms:List (ByteArray×Rd.V)} {us:List (ByteArray×Value)},us.map Prod.fst=ms.map Prod.fst →
  (∀(j:Nat) (x:ByteArray×Rd.V) (u:ByteArray×Value),ms[j]?=some x→us[j]?=some u→ValAt w (fun b=>b<w.heap.size) x.2 u.2)→OAt w (Rd.zK ms nm) (QH us nm)
 | [],[],_,_=>rfl
 | [],_::_,h,_=>by simp at h
 | _::_,[],h,_=>by simp at h
 | m::ms,u::us,h,hv=>by
  simp only [List.map_cons,List.cons.injEq] at h
  unfold Rd.zK QH
  rw [List.find?_cons,List.find?_cons,h.1]
  cases e:(m.1.toList==nm.toList) with
  | true=>exact hv 0 m u rfl rfl
  | false=>exact ziH nm h.2 (fun j x y hx hy=>hv (j+1) x y (by simpa using hx) (by simpa using hy))
theorem Yl.get {w:World} {ms:List (ByteArray×Rd.V)} {us:List (ByteArray×Value)} {ao:Option Addr} (h:Yl w ms us ao) (nm:ByteArray):OAt w (Rd.zK ms nm) (QH us nm):=ziH nm h.names h.vals
theorem KP {w:World} {ms:List (ByteArray×Rd.V)} {us:List (ByteArray×Value)} {ao:Option Addr} (cap:Nat) (h:Yl w ms us ao) (hn:ms.length≤4000) (nm:ByteArray) :
  Calls Tryz.prog 51 #[.slice ao us.length cap, .string nm] w fun e w'=>e = .returned (QH us nm)∧Below w.heap.size w w':=
 zlN us ao cap nm w (by have:=h.len;omega) h.mems h.ifaces
theorem zlE (ss:List ByteArray) (aoN:Option Addr) (capN:Nat) (m:ByteArray×Value) (B:Nat) (w:World) (hn:ss.length≤100) (hs:Zn w aoN ss) (hB:w.cell? ⟨B,0,none⟩=some (.slice aoN ss.length capN)) :
  Calls Tryz.prog 148 #[zhX m, .pointer (some ⟨B,0,none⟩)] w fun e w'=>e = .returned (.bool (ss.any fun s=>s.toList==m.1.toList))∧Below w.heap.size w w':=by
 obtain ⟨a,v⟩:=m
 unfold zhX
 simp only
 have hB':=fun O:Obj=>cell_later ((Below.refl _ w).alloc (Nat.le_refl _) O) hB
 have hb0:=fun O:Obj=>(Below.refl _ w).alloc (Nat.le_refl _) O
 have c:=fun O:Obj=>zmE ss a aoN capN (w.alloc O) (by omega) (Zj hs (hb0 O))
 generalize ss.any (fun s=>s.toList==a.toList)=F at c
 clear hs
 go_enter Tryz.func148,Tryz.ntmps148
 go_wp2_with (go_at_call 149;refine (c _).mono ?_;rintro e w' ⟨rfl,hb'⟩)
 go_ret
 exact ⟨rfl,(hb0 _).trans (hb'.mono (hb0 _).size)⟩
theorem zky (ms:List (ByteArray×Rd.V)) (us:List (ByteArray×Value)) (ss:List ByteArray) (h:us.map Prod.fst=ms.map Prod.fst) :
  allOf (fun j=>ss.any fun s=>s.toList==(zay us j).1.toList) us.length=Rd.qX ms ss:=by
 have e1:allOf (fun j=>ss.any fun s=>s.toList==(zay us j).1.toList) us.length=(us.map Prod.fst).all (fun a=>ss.any fun s=>s.toList==a.toList):=by
  unfold allOf
  rw [List.all_map,Bool.eq_iff_iff,List.all_eq_true,List.all_eq_true]
  constructor
  ·intro h m hm
   obtain ⟨j,hj,rfl⟩:=List.getElem_of_mem hm
   have:=h j (List.mem_range.2 hj)
   rw [ZN us j hj] at this
   exact this
  ·intro h j hj
   have hj':=List.mem_range.1 hj
   rw [ZN us j hj']
   exact h _ (List.getElem_mem hj')
 rw [e1,h,List.all_map]
 rfl
def zdS (w:World) (e:Ending) (w':World):Prop:=∃p,e = .returned (.tuple #[.slice none 0 0, .iface 125 (.agg #[.string p])])∧Below w.heap.size w w'
theorem jb (ms:List (ByteArray×Rd.V)) (us:List (ByteArray×Value)) (ao:Option Addr) (cap:Nat) (ss:List ByteArray) (aoN:Option Addr) (capN:Nat) (w:World) (hn:ss.length≤100) (hm:ms.length≤4000) (hs:Zn w aoN ss) (h:Yl w ms us ao) (b:Bool) (ho:Rd.qX ms ss=b) :
  Calls Tryz.prog 97 #[.iface 118 (.slice ao us.length cap), .slice aoN ss.length capN] w fun e w'=>
   if b then (e = .returned (.tuple #[.slice ao us.length cap, .nilIface])∧Below w.heap.size w w') else zdS w e w':=by
 have hb0:=(Below.refl _ w).alloc (Nat.le_refl _) (.cells #[.slice aoN ss.length capN] 42)
 have e1:∀args w,(callFunc 148 args).run Tryz.prog w = .ok (.enter 148 args) w:=enters_of Tryz.func148 (by kernel_rfl) rfl
 have cA:=zll us ao cap 148 #[.pointer (some ⟨w.heap.size,0,none⟩)] (fun j=>ss.any fun s=>s.toList==(zay us j).1.toList) (w.alloc (.cells #[.slice aoN ss.length capN] 42)) (by have:=h.len;omega) e1
  (uC h.mems hb0) h.ifaces (fun W j hj hb=>zlE ss aoN capN (zay us j) w.heap.size W hn (Zj hs (hb0.trans (hb.mono (by simp)))) (cell_later hb (by simp)))
 rw [zky ms us ss h.names,ho] at cA
 have ta:=Yp
 clear e1 h hs ho
 cases b with
 | true=>
  simp only [if_true]
  go_enter Tryz.func97,Tryz.ntmps97
  go_wp2_with (go_at_call 150;refine cA.mono ?_;rintro e w' ⟨rfl,hb'⟩)
  go_ret2
  exact ⟨rfl,hb0.trans (hb'.mono (by simp))⟩
 | false=>
  simp only [Bool.false_eq_true,if_false]
  go_enter Tryz.func97,Tryz.ntmps97
  go_wp2_with (go_at_call 150;refine cA.mono ?_;rintro e w' ⟨rfl,hb'⟩)
  go_ret2
  exact ⟨_,rfl,hb0.trans (hb'.mono (by simp))⟩
theorem XZ {w:World} {x:Option Rd.V} {u:Value} (h:OAt w x u) (hx:∀ms,x≠some (.obj ms)) (W:World):(Instr.typeAssert u 114 118 true).run Tryz.prog W = .ok (.tuple #[.slice none 0 0, .bool false]) W:=by
 cases x with
 | none=>
  have hu:u = .nilIface:=h
  subst hu
  exact zeW W
 | some v=>
  have hv:ValAt w (fun b=>b<w.heap.size) v u:=h
  cases hv with
  | str s=>exact zfD _ W
  | word b=>exact zdh _ W
  | list vs=>exact zcy _ W
  | obj ms=>exact absurd rfl (hx ms)
theorem QG (x:Option Rd.V) (u:Value) (n:Nat) (aoN:Option Addr) (capN:Nat) (w:World) (hx:OAt w x u) (hno:∀ms,x≠some (.obj ms)) :
  Calls Tryz.prog 97 #[u, .slice aoN n capN] w (zdS w):=by
 have ta:=fun W=>XZ hx hno W
 have hb0:=(Below.refl _ w).alloc (Nat.le_refl _) (.cells #[.slice aoN n capN] 42)
 have hfm:=hx.form
 clear hx hno
 rcases hfm with rfl|⟨T,y,rfl⟩
 ·go_enter Tryz.func97,Tryz.ntmps97
  go_wp2
  go_ret2
  exact ⟨_,rfl,hb0⟩
 ·go_enter Tryz.func97,Tryz.ntmps97
  go_wp2
  go_ret2
  exact ⟨_,rfl,hb0⟩
theorem zA {w:World} {base:Nat} {e:TypeId} {v:Value} {n:Nat} {xs:List Value} (h:w.ownsRow base e 1 v n xs) {b:Nat} (hb:b<base) (o:Nat) (u:Value):(w.setCell ⟨b,o,none⟩ u).ownsRow base e 1 v n xs:=
 ownsRow_setCell_other h (a:=⟨b,o,none⟩) (by intro he;have:=(h.lt b he).1;omega) u
theorem zq {w:World} {base:Nat} {e:TypeId} {v:Value} {n:Nat} {xs:List Value} (h:w.ownsRow base e 1 v n xs):∃a c,v = .slice a n c:=by
 rcases h.2 with ⟨rfl,rfl⟩|⟨g,c,cur,rfl,_⟩
 ·exact ⟨_,_,rfl⟩
 ·exact ⟨_,_,rfl⟩
theorem zQ {w W:World} {O:Obj} (hb:Below (w.alloc O).heap.size (w.alloc O) W):W.heap[w.heap.size]?=some O:=(hb.block _ (by simp)).trans (heap_alloc_new w O)
def chS:Option Rd.V→Bool×List ByteArray
 | some (.obj ms)=>if Rd.qX ms [Ref.ZF] then (true,Rd.ZE Rd.strOf (Rd.zK ms Ref.ZF)) else (false,[])
 | x=>(false,Rd.ZE Rd.strOf x)
def QX (w:World) (x:Option Rd.V) (e:Ending) (w':World):Prop:=
 ∃lv u,e = .returned (.tuple #[.agg #[.bool (chS x).1,lv],u])∧FV (Rd.chC x) u∧Below w.heap.size w w'∧w'.ownsRow w.heap.size 9 1 lv (chS x).2.length ((chS x).2.map Value.string)
theorem ZP {w:World} (hE:zdY w):zbl 152 #[] Rd.strOf Rd.VH 4000 w:=fun W y u hG hx hb=>
 Kz y u W (hE.below hb) hx (fun s hs=>by have:=hG _ hs;cases this with|str _ h=>exact h)
theorem zio (x:Option Rd.V) (hx:∀ms,x≠some (.obj ms)):chS x=(false,Rd.ZE Rd.strOf x)∧Rd.chC x=Rd.Zu Rd.VH x:=by
 match x with
 | none=>exact ⟨rfl,rfl⟩
 | some (.str s)=>exact ⟨rfl,rfl⟩
 | some (.word b)=>exact ⟨rfl,rfl⟩
 | some (.list vs)=>exact ⟨rfl,rfl⟩
 | some (.obj ms)=>exact absurd rfl (hx ms)
theorem VJ (x:Option Rd.V) (u:Value) (w:World) (hE:zdY w) (hx:OAt w x u) (hG:∀v,x=some v→Rd.Good 4000 v) (hno:∀ms,x≠some (.obj ms)) :
  Calls Tryz.prog 100 #[u] w (QX w x):=by
 unfold QX
 rw [(zio x hno).1,(zio x hno).2]
 have ta:=fun W=>XZ hx hno W
 have hb0:=(Below.refl _ w).alloc (Nat.le_refl _) (.cells #[.bool false, .slice none 0 0] 130)
 have e1:∀args w,(callFunc 152 args).run Tryz.prog w = .ok (.enter 152 args) w:=enters_of Tryz.func152 (by kernel_rfl) rfl
 have c1:=Zp x u 152 #[] Rd.strOf Rd.VH 4000 (w.alloc (.cells #[.bool false, .slice none 0 0] 130)) (hE.below hb0).err e1 (hx.below hb0) hG (ZP (hE.below hb0))
 obtain ⟨ss,hss⟩:∃ss,Rd.ZE Rd.strOf x=ss:=⟨_,rfl⟩
 obtain ⟨c,hc⟩:∃c,Rd.Zu Rd.VH x=c:=⟨_,rfl⟩
 rw [hss,hc] at c1
 rw [hss,hc]
 have hfm:=hx.form
 clear hx hno hE e1 hss hc hG
 rcases hfm with rfl|⟨T,y,rfl⟩
 ·go_enter Tryz.func100,Tryz.ntmps100
  go_wp2_with (go_at_call 151;refine c1.mono ?_;rintro e w1 ⟨lv,v,rfl,hfv,hb1,hown⟩;have bw1:Below w.heap.size w w1:=hb0.trans (hb1.mono (by simp));obtain ⟨la,lc,rfl⟩:=zq hown;have bk:=zQ hb1;have r0:=(cells_of_block bk 0).1;have r1:=(cells_of_block bk 1).1;have f0:=(cells_of_block bk 0).2;have f1:=(cells_of_block bk 1).2;simp at r0 r1)
  exact bodyPost_ret (v := .tuple #[.agg #[.bool false, .slice la ss.length lc],v]) (by simp [results,Tryz.results100,go_sem,r0,r1]) rfl ⟨_,_,rfl,hfv,(bw1.setCell (Nat.le_refl _) _).setCell (Nat.le_refl _) _,zl (zA (zA hown (by simp) _ _) (by simp) _ _) (by simp)⟩
 ·go_enter Tryz.func100,Tryz.ntmps100
  go_wp2_with (go_at_call 151;refine c1.mono ?_;rintro e w1 ⟨lv,v,rfl,hfv,hb1,hown⟩;have bw1:Below w.heap.size w w1:=hb0.trans (hb1.mono (by simp));obtain ⟨la,lc,rfl⟩:=zq hown;have bk:=zQ hb1;have r0:=(cells_of_block bk 0).1;have r1:=(cells_of_block bk 1).1;have f0:=(cells_of_block bk 0).2;have f1:=(cells_of_block bk 1).2;simp at r0 r1)
  exact bodyPost_ret (v := .tuple #[.agg #[.bool false, .slice la ss.length lc],v]) (by simp [results,Tryz.results100,go_sem,r0,r1]) rfl ⟨_,_,rfl,hfv,(bw1.setCell (Nat.le_refl _) _).setCell (Nat.le_refl _) _,zl (zA (zA hown (by simp) _ _) (by simp) _ _) (by simp)⟩
theorem VS (ms:List (ByteArray×Rd.V)) (u:Value) (w:World) (hE:zdY w) (hx:OAt w (some (.obj ms)) u) (hG:Rd.Good 4000 (.obj ms)) :
  Calls Tryz.prog 100 #[u] w (QX w (some (.obj ms))):=by
 obtain ⟨us,ao,cap,rfl,hO⟩:=Uj hx
 have hml:ms.length≤4000:=by cases hG with|obj _ h=>exact h
 have hgg:=fun v h=>Rd.qx hG Ref.ZF v h
 unfold QX
 have hS:chS (some (.obj ms))=if Rd.qX ms [Ref.ZF] then (true,Rd.ZE Rd.strOf (Rd.zK ms Ref.ZF)) else (false,[]):=rfl
 have hC:Rd.chC (some (.obj ms))=if Rd.qX ms [Ref.ZF] then Rd.Zu Rd.VH (Rd.zK ms Ref.ZF) else 1:=rfl
 rw [hS,hC]
 have ta:=Yp
 have hb0:=(Below.refl _ w).alloc (Nat.le_refl _) (.cells #[.bool false, .slice none 0 0] 130)
 have hb1:=hb0.alloc (by simp) (.cells #[.string Ref.ZF] 9)
 have e1:∀args w,(callFunc 152 args).run Tryz.prog w = .ok (.enter 152 args) w:=enters_of Tryz.func152 (by kernel_rfl) rfl
 obtain ⟨b,hb⟩:∃b,Rd.qX ms [Ref.ZF]=b:=⟨_,rfl⟩
 have cR:=jb ms us ao cap [Ref.ZF] (some ⟨w.heap.size+1,0,none⟩) 1 ((w.alloc (.cells #[.bool false, .slice none 0 0] 130)).alloc (.cells #[.string Ref.ZF] 9)) (by simp) hml
  (.inr ⟨w.heap.size+1,0,rfl,fun j hj=>by
   simp only [List.length_singleton] at hj
   have:j=0:=by omega
   subst this
   have h:=heap_alloc_new (w.alloc (.cells #[.bool false, .slice none 0 0] 130)) (.cells #[.string Ref.ZF] 9)
   rw [World.size_alloc] at h
   exact (cells_of_block h 0).1⟩) (hO.below hb1) b hb
 rw [hb]
 have cG:=fun W (h:Below w.heap.size w W)=>KP (w:=W) cap (hO.below h) hml Ref.ZF
 have cO:=fun W (h:Below w.heap.size w W)=>Zp (Rd.zK ms Ref.ZF) (QH us Ref.ZF) 152 #[] Rd.strOf Rd.VH 4000 W (hE.below h).err e1 ((hO.below h).get Ref.ZF) hgg (ZP (hE.below h))
 have hgf:=(hO.get Ref.ZF).form
 obtain ⟨gv,hgv⟩:∃gv,QH us Ref.ZF=gv:=⟨_,rfl⟩
 rw [hgv] at hgf
 simp only [hgv] at cG cO
 simp only [List.length_singleton] at cR
 obtain ⟨ss,hss⟩:∃ss,Rd.ZE Rd.strOf (Rd.zK ms Ref.ZF)=ss:=⟨_,rfl⟩
 obtain ⟨c,hc⟩:∃c,Rd.Zu Rd.VH (Rd.zK ms Ref.ZF)=c:=⟨_,rfl⟩
 simp only [hss,hc] at cO
 rw [hss,hc]
 clear hx hE e1 hss hc hG hO hgv hb hS hC hgg
 unfold Ref.ZF at cR cG hb1
 cases b with
 | false=>
  simp only [Bool.false_eq_true,if_false] at cR ⊢
  clear cO cG hgf
  go_enter Tryz.func100,Tryz.ntmps100
  go_wp2_with (go_at_call 97;refine cR.mono ?_;rintro e w1 ⟨p,rfl,hb2⟩;have bw1:Below w.heap.size w w1:=hb1.trans (hb2.mono (by simp;omega));have bk:=zQ (((Below.refl _ (w.alloc (.cells #[.bool false, .slice none 0 0] 130))).alloc (Nat.le_refl _) _).trans (hb2.mono (by simp)));have r0:=(cells_of_block bk 0).1;have r1:=(cells_of_block bk 1).1;have f0:=(cells_of_block bk 0).2;have f1:=(cells_of_block bk 1).2;simp at r0 r1)
  exact bodyPost_ret (v := .tuple #[.agg #[.bool false, .slice none 0 0], .iface 125 (.agg #[.string p])]) (by simp [results,Tryz.results100,go_sem,r0,r1]) rfl ⟨_,_,rfl, .inr (.inl ⟨rfl,_,rfl⟩),(bw1.setCell (Nat.le_refl _) _).setCell (Nat.le_refl _) _,World.ownsRow_nil _ _ _ _⟩
 | true=>
  simp only [if_true] at cR ⊢
  rcases hgf with rfl|⟨T,y,rfl⟩
  ·go_enter Tryz.func100,Tryz.ntmps100
   go_wp2_with (first
    | (go_at_call 151;refine (cO w2 bw2).mono ?_;rintro e w3 ⟨lv,v,rfl,hfv,hb4,hown⟩;have bw3:Below w.heap.size w w3:=bw2.trans (hb4.mono bw2.size);obtain ⟨la,lc,rfl⟩:=zq hown;have hz2:w.heap.size<w2.heap.size:=(by have h1:=aw2.size;simp at h1;omega);have bk:=zQ (aw2.trans (hb4.mono aw2.size));have r0:=(cells_of_block bk 0).1;have r1:=(cells_of_block bk 1).1;have f0:=(cells_of_block bk 0).2;have f1:=(cells_of_block bk 1).2;simp at r0 r1)
    | (go_at_call 51;refine (cG w1 bw1).mono ?_;rintro e w2 ⟨rfl,hb3⟩;have bw2:Below w.heap.size w w2:=bw1.trans (hb3.mono bw1.size);have aw2:=aw1.trans (hb3.mono aw1.size))
    | (go_at_call 97;refine cR.mono ?_;rintro e w1 ⟨rfl,hb2⟩;have bw1:Below w.heap.size w w1:=hb1.trans (hb2.mono (by simp;omega));have aw1:=((Below.refl _ (w.alloc (.cells #[.bool false, .slice none 0 0] 130))).alloc (Nat.le_refl _) (.cells #[.string ⟨#[110,111,116]⟩] 9)).trans (hb2.mono (by simp))))
   exact bodyPost_ret (v := .tuple #[.agg #[.bool true, .slice la ss.length lc],v]) (by simp [results,Tryz.results100,go_sem,r0,r1]) rfl ⟨_,_,rfl,hfv,(bw3.setCell (Nat.le_refl _) _).setCell (Nat.le_refl _) _,zl (zA (zA hown hz2 _ _) hz2 _ _) (by omega)⟩
  ·go_enter Tryz.func100,Tryz.ntmps100
   go_wp2_with (first
    | (go_at_call 151;refine (cO w2 bw2).mono ?_;rintro e w3 ⟨lv,v,rfl,hfv,hb4,hown⟩;have bw3:Below w.heap.size w w3:=bw2.trans (hb4.mono bw2.size);obtain ⟨la,lc,rfl⟩:=zq hown;have hz2:w.heap.size<w2.heap.size:=(by have h1:=aw2.size;simp at h1;omega);have bk:=zQ (aw2.trans (hb4.mono aw2.size));have r0:=(cells_of_block bk 0).1;have r1:=(cells_of_block bk 1).1;have f0:=(cells_of_block bk 0).2;have f1:=(cells_of_block bk 1).2;simp at r0 r1)
    | (go_at_call 51;refine (cG w1 bw1).mono ?_;rintro e w2 ⟨rfl,hb3⟩;have bw2:Below w.heap.size w w2:=bw1.trans (hb3.mono bw1.size);have aw2:=aw1.trans (hb3.mono aw1.size))
    | (go_at_call 97;refine cR.mono ?_;rintro e w1 ⟨rfl,hb2⟩;have bw1:Below w.heap.size w w1:=hb1.trans (hb2.mono (by simp;omega));have aw1:=((Below.refl _ (w.alloc (.cells #[.bool false, .slice none 0 0] 130))).alloc (Nat.le_refl _) (.cells #[.string ⟨#[110,111,116]⟩] 9)).trans (hb2.mono (by simp))))
   exact bodyPost_ret (v := .tuple #[.agg #[.bool true, .slice la ss.length lc],v]) (by simp [results,Tryz.results100,go_sem,r0,r1]) rfl ⟨_,_,rfl,hfv,(bw3.setCell (Nat.le_refl _) _).setCell (Nat.le_refl _) _,zl (zA (zA hown hz2 _ _) hz2 _ _) (by omega)⟩
theorem zbM (x:Option Rd.V) (u:Value) (w:World) (hE:zdY w) (hx:OAt w x u) (hG:∀v,x=some v→Rd.Good 4000 v):Calls Tryz.prog 100 #[u] w (QX w x):=by
 by_cases h:∃ms,x=some (.obj ms)
 ·obtain ⟨ms,rfl⟩:=h
  exact VS ms u w hE hx (hG _ rfl)
 ·exact VJ x u w hE hx hG (fun ms e=>h ⟨ms,e⟩)
theorem zbw (s:ByteArray) (w:World) (hs:s.size≤4000):Calls Tryz.prog 331 #[.string s] w fun e w'=>e = .returned (.bool (Rd.short s))∧Below w.heap.size w w':=by
 have e:Rd.short s=decide ((s.size:Int)≤60):=by unfold Rd.short;exact decide_eq_decide.2 (by omega)
 rw [e]
 go_enter Tryz.func331,Tryz.ntmps331
 go_wp2
 go_ret
 exact ⟨rfl,Below.refl _ _⟩
theorem zeX (s:ByteArray) (w:World) (hs:s.size≤4000):Calls Tryz.prog 336 #[.string s] w fun e w'=>e = .returned (.bool (Rd.filled s))∧Below w.heap.size w w':=by
 have c:=zbw s w hs
 unfold Rd.filled
 generalize Rd.short s=R at c
 cases h:(s.toList==[]) with
 | true=>
  have h2:s.toList.isEmpty=true:=by rw [List.isEmpty_iff];simpa using h
  rw [h2]
  clear c h2
  go_enter Tryz.func336,Tryz.ntmps336
  go_wp2
  go_ret
  exact ⟨rfl,Below.refl _ _⟩
 | false=>
  have h2:s.toList.isEmpty=false:=by
   cases e:s.toList.isEmpty with
   | false=>rfl
   | true=>rw [List.isEmpty_iff] at e;rw [e] at h;simp at h
  rw [h2]
  clear h2
  go_enter Tryz.func336,Tryz.ntmps336
  go_wp2_with (go_at_call 331;refine c.mono ?_;rintro e w' ⟨rfl,hb'⟩)
  go_ret
  exact ⟨rfl,hb'⟩
theorem zdg (s p:ByteArray) (w:World) (R:Bool) (hR:R=(decide (p.size≤s.size)&&((s.extract 0 p.size).toList==p.toList))) :
  Calls Tryz.prog 345 #[.string s, .string p] w fun e w'=>e = .returned (.bool R)∧w'=w:=by
 by_cases h:p.size≤s.size
 ·rw [decide_eq_true h,Bool.true_and] at hR
  have d:decide ((p.size:Int)≤(s.size:Int))=true:=decide_eq_true (by omega)
  subst hR
  go_enter Tryz.func345,Tryz.ntmps345
  go_wp2
  go_ret
  exact ⟨rfl,rfl⟩
 ·rw [decide_eq_false h,Bool.false_and] at hR
  have d:decide ((p.size:Int)≤(s.size:Int))=false:=decide_eq_false (by omega)
  subst hR
  go_enter Tryz.func345,Tryz.ntmps345
  go_wp2
  go_ret
  exact ⟨rfl,rfl⟩
def unsigned (s:ByteArray):ByteArray:=if 0<s.size∧(s.data.toList.getD 0 0).toNat=45 then s.extract 1 s.size else s
theorem zc9 (s:ByteArray):(decide ((⟨#[45]⟩:ByteArray).size≤s.size)&&((s.extract 0 (⟨#[45]⟩:ByteArray).size).toList==(⟨#[45]⟩:ByteArray).toList))=decide (0<s.size∧(s.data.toList.getD 0 0).toNat=45):=by
 have e1:(⟨#[45]⟩:ByteArray).size=1:=rfl
 have e2:(⟨#[45]⟩:ByteArray).toList=[45]:=by rw [ByteArray.toList_eq]
 rw [e1,e2,ByteArray.toList_eq]
 by_cases h:0<s.size
 ·rw [decide_eq_true (show 1≤s.size from h),Bool.true_and]
  have e3:(s.extract 0 1).data.toList=[s.data.toList.getD 0 0]:=by
   cases hl:s.data.toList with
   | nil=>have:=Ref.zg s;rw [hl] at this;simp at this;omega
   | cons a r=>simp [hl]
  rw [e3,Bool.eq_iff_iff,decide_eq_true_iff]
  simp only [List.cons_beq_cons,BEq.rfl,Bool.and_true,beq_iff_eq]
  constructor
  ·intro e;exact ⟨h,by rw [e];rfl⟩
  ·intro e;exact UInt8.toNat.inj e.2
 ·rw [decide_eq_false (show ¬1≤s.size by omega),Bool.false_and,decide_eq_false (fun e=>h e.1)]
theorem zda (s:ByteArray) (w:World):Calls Tryz.prog 340 #[.string s, .string ⟨#[45]⟩] w fun e w'=>e = .returned (.string (unsigned s))∧w'=w:=by
 have c:=zdg s ⟨#[45]⟩ w _ (zc9 s).symm
 have c2:Calls Tryz.prog 346 #[.string s, .string ⟨#[45]⟩] w fun e w'=>e = .returned (.string (unsigned s))∧w'=w:=by
  unfold unsigned
  by_cases h:0<s.size∧(s.data.toList.getD 0 0).toNat=45
  ·rw [if_pos h]
   rw [decide_eq_true h] at c
   have h1:(1:Int)≤(s.size:Int):=by have:=h.1;omega
   clear h
   go_enter Tryz.func346,Tryz.ntmps346
   go_wp2_with (go_at_call 345;refine c.mono ?_;rintro e w' ⟨rfl,rfl⟩)
   go_ret
   exact ⟨rfl,rfl⟩
  ·rw [if_neg h]
   rw [decide_eq_false h] at c
   clear h
   go_enter Tryz.func346,Tryz.ntmps346
   go_wp2_with (go_at_call 345;refine c.mono ?_;rintro e w' ⟨rfl,rfl⟩)
   go_ret
   exact ⟨rfl,rfl⟩
 clear c
 go_enter Tryz.func340,Tryz.ntmps340
 go_wp2_with (go_at_call 346;refine c2.mono ?_;rintro e w' ⟨rfl,rfl⟩)
 go_ret
 exact ⟨rfl,rfl⟩
def Zr (c:Nat):Bool:=decide (48≤c∧c≤57)
theorem zhY (c:Nat) (w:World) (hc:c<256) :
  Calls Tryz.prog 341 #[.int .u8 (c:Int)] w fun e w'=>e = .returned (.bool (Zr c))∧w'=w:=by
 by_cases h1:48≤c
 ·have d1:decide ((48:Int)≤(c:Int))=true:=decide_eq_true (by omega)
  by_cases h2:c≤57
  ·have d2:decide ((c:Int)≤57)=true:=decide_eq_true (by omega)
   have e:Zr c=true:=by unfold Zr;simp;omega
   rw [e]
   go_enter Tryz.func341,Tryz.ntmps341
   go_wp2
   go_ret
   exact ⟨rfl,rfl⟩
  ·have d2:decide ((c:Int)≤57)=false:=decide_eq_false (by omega)
   have e:Zr c=false:=by unfold Zr;simp;omega
   rw [e]
   go_enter Tryz.func341,Tryz.ntmps341
   go_wp2
   go_ret
   exact ⟨rfl,rfl⟩
 ·have d1:decide ((48:Int)≤(c:Int))=false:=decide_eq_false (by omega)
  have e:Zr c=false:=by unfold Zr;simp;omega
  rw [e]
  go_enter Tryz.func341,Tryz.ntmps341
  go_wp2
  go_ret
  exact ⟨rfl,rfl⟩
theorem zjC (s:ByteArray):Ref.ZA s=((s.toList==[48])||Ref.X4 (unsigned s)):=rfl
theorem zhB (s:ByteArray) (w:World):Calls Tryz.prog 332 #[.string s] w fun e w'=>e = .returned (.bool (Ref.ZA s))∧Below w.heap.size w w':=by
 have cT:=zda s
 rw [zjC]
 obtain ⟨t,ht⟩:∃t,unsigned s=t:=⟨_,rfl⟩
 simp only [ht] at cT
 rw [ht]
 clear ht
 cases h0:(s.toList==[48]) with
 | true=>
  rw [Bool.true_or]
  go_enter Tryz.func332,Tryz.ntmps332
  go_wp2_with (go_at_call 340;refine (cT _).mono ?_;rintro e w' ⟨rfl,rfl⟩)
  go_ret
  exact ⟨rfl,Below.refl _ _⟩
 | false=>
  rw [Bool.false_or]
  by_cases h1:1≤t.size
  ·have d1:decide ((0:Int)<(t.size:Int))=true:=decide_eq_true (by omega)
   by_cases h2:t.size≤18
   ·have d2:decide ((t.size:Int)≤18)=true:=decide_eq_true (by omega)
    have hp:0<t.size:=h1
    have hfb:=Ref.jF t hp
    by_cases h3:(t[0].toNat:Int)=48
    ·have d3:((t[0].toNat:Int) != 48)=false:=by simp [h3]
     have e:Ref.X4 t=false:=Ref.X9 t hp h3
     rw [e]
     clear e hfb
     go_enter Tryz.func332,Tryz.ntmps332
     go_wp2_with (go_at_call 340;refine (cT _).mono ?_;rintro e w' ⟨rfl,rfl⟩)
     go_ret
     exact ⟨rfl,Below.refl _ _⟩
    ·have d3:((t[0].toNat:Int) != 48)=true:=by simp [h3]
     obtain ⟨C,O,hcv,hcl⟩:=VU t w
     have hb0:Below w.heap.size w (w.alloc O).drew:=((Below.refl _ w).alloc (Nat.le_refl _) _).drew
     have c:=zdU t.size w.heap.size 0 C 341 #[] (fun j=>(((t.data.toList.getD j 0).toNat:Nat):Int)) (fun j=>Zr (t.data.toList.getD j 0).toNat) _ (by omega)
      (enters_of Tryz.func341 (by kernel_rfl) rfl) hcl
      (fun W j _ _=>(zhY _ W (UInt8.toNat_lt _)).mono fun e w' ⟨he,hw⟩=>⟨he,hw ▸ Below.refl _ _⟩)
     have hl:=UE t.data.toList Zr
     rw [Ref.zg] at hl
     rw [hl] at c
     have hn:Ref.X4 t=t.data.toList.all fun c=>Zr c.toNat:=by
      unfold Ref.X4 Ref.digits Zr
      rw [decide_eq_true (show 1≤t.size∧t.size≤18 from ⟨h1,h2⟩),hfb]
      have:(t[0].toNat != 48)=true:=by simp;omega
      rw [this]
      rfl
     rw [hn]
     generalize (t.data.toList.all fun c=>Zr c.toNat)=R at c
     clear hl hn hcl hfb h3
     go_enter Tryz.func332,Tryz.ntmps332
     go_wp2_with (first
      | (go_at_call 340;refine (cT _).mono ?_;rintro e w' ⟨rfl,rfl⟩)
      | (go_at_call 132;refine c.mono ?_;rintro e w' ⟨rfl,hb'⟩))
     go_ret
     exact ⟨rfl,hb0.trans (hb'.mono hb0.size)⟩
   ·have d2:decide ((t.size:Int)≤18)=false:=decide_eq_false (by omega)
    rw [Ref.uQ t (by omega)]
    go_enter Tryz.func332,Tryz.ntmps332
    go_wp2_with (go_at_call 340;refine (cT _).mono ?_;rintro e w' ⟨rfl,rfl⟩)
    go_ret
    exact ⟨rfl,Below.refl _ _⟩
  ·have d1:decide ((0:Int)<(t.size:Int))=false:=decide_eq_false (by omega)
   rw [Ref.uQ t (by omega)]
   go_enter Tryz.func332,Tryz.ntmps332
   go_wp2_with (go_at_call 340;refine (cT _).mono ?_;rintro e w' ⟨rfl,rfl⟩)
   go_ret
   exact ⟨rfl,Below.refl _ _⟩
theorem zl7 (x:Option Rd.V) (u:Value) (g:Nat) (lb:Array Value) (f:ByteArray→Bool) (L B:Nat) (w:World) (eg:∀args w,(callFunc g args).run Tryz.prog w = .ok (.enter g args) w)
  (hx:OAt w x u) (hL:∀s,x=some (.str s)→s.size≤L) (hp:zd3 g lb f L w) (hB:w.cell? ⟨B,0,none⟩=some (.func (.func g) #[] lb)) :
  Calls Tryz.prog 339 #[u, .pointer (some ⟨B,0,none⟩)] w (QZ w (Rd.qO f x) (Rd.zT f x)):=by
 have c:=Z8 x u g lb f L w eg hx hL hp
 generalize Rd.qO f x=S at c
 generalize Rd.zT f x=C at c
 have hfm:=hx.form
 clear hx hL hp eg
 rcases hfm with rfl|⟨T,y,rfl⟩
 ·go_enter Tryz.func339,Tryz.ntmps339
  go_wp2_with (go_at_call 98;refine c.mono ?_;rintro e w' ⟨v,rfl,hfv,hb'⟩)
  go_ret2
  exact ⟨_,rfl,hfv,hb'⟩
 ·go_enter Tryz.func339,Tryz.ntmps339
  go_wp2_with (go_at_call 98;refine c.mono ?_;rintro e w' ⟨v,rfl,hfv,hb'⟩)
  go_ret2
  exact ⟨_,rfl,hfv,hb'⟩
theorem vJ.after {w w1 w2:World} {ss:List ByteArray} {c:Nat} {e:Ending} (h:vJ w1 ss c e w2) (hb:Below w.heap.size w w1):vJ w ss c e w2:=by
 obtain ⟨lv,u,h1,h2,h3,h4⟩:=h
 exact ⟨lv,u,h1,h2,hb.trans (h3.mono hb.size),zl h4 hb.size⟩
theorem Za (x:Option Rd.V) (u:Value) (g:Nat) (f:ByteArray→Bool) (w:World) (hg:jq w) (eg:∀args w,(callFunc g args).run Tryz.prog w = .ok (.enter g args) w)
  (hx:OAt w x u) (hG:∀v,x=some v→Rd.Good 4000 v) (hp:zd3 g #[] f 4000 w) :
  Calls Tryz.prog 330 #[u, .func (.func g) #[] #[]] w (vJ w (Rd.ZE (Rd.qO f) x) (Rd.Zu (Rd.zT f) x)):=by
 have hb0:=(Below.refl _ w).alloc (Nat.le_refl _) (.cells #[.func (.func g) #[] #[]] 25)
 have e1:∀args w,(callFunc 339 args).run Tryz.prog w = .ok (.enter 339 args) w:=enters_of Tryz.func339 (by kernel_rfl) rfl
 have c:=Zp x u 339 #[.pointer (some ⟨w.heap.size,0,none⟩)] (Rd.qO f) (Rd.zT f) 4000 (w.alloc (.cells #[.func (.func g) #[] #[]] 25)) (hg.below hb0) e1 (hx.below hb0) hG
  (fun W y v hGy hy hb=>zl7 y v g #[] f 4000 w.heap.size W eg hy (fun s hs=>by have:=hGy _ hs;cases this with|str _ h=>exact h)
   (fun W2 s hs h2=>hp W2 s hs ((hb0.trans (hb.mono (by simp))).trans (h2.mono (by have:=hb.size;simp at this;omega)))) (cell_later hb (by simp)))
 generalize Rd.ZE (Rd.qO f) x=S at c
 generalize Rd.Zu (Rd.zT f) x=C at c
 have hfm:=hx.form
 clear hx hG hp eg e1
 rcases hfm with rfl|⟨T,y,rfl⟩
 ·go_enter Tryz.func330,Tryz.ntmps330
  go_wp2_with (go_at_call 151;refine c.mono ?_;rintro e w' h;have h2:=h.after hb0;obtain ⟨lv,v,rfl,hfv,hb',ho⟩:=h2)
  go_ret2
  exact ⟨_,_,rfl,hfv,hb',ho⟩
 ·go_enter Tryz.func330,Tryz.ntmps330
  go_wp2_with (go_at_call 151;refine c.mono ?_;rintro e w' h;have h2:=h.after hb0;obtain ⟨lv,v,rfl,hfv,hb',ho⟩:=h2)
  go_ret2
  exact ⟨_,_,rfl,hfv,hb',ho⟩
def Looks (g:Nat) (fL:Option Rd.V→List ByteArray) (fC:Option Rd.V→Nat) (w:World):Prop:=
 ∀W (x:Option Rd.V) (u:Value),(∀v,x=some v→Rd.Good 4000 v)→OAt W x u→Below w.heap.size w W→Calls Tryz.prog g #[u] W (vJ W (fL x) (fC x))
theorem zl5 {w:World} (hE:zdY w):Looks 320 (Rd.ZE Rd.strOf) (Rd.Zu Rd.VH) w:=by
 intro W x u hG hx hb
 have e1:∀args w,(callFunc 152 args).run Tryz.prog w = .ok (.enter 152 args) w:=enters_of Tryz.func152 (by kernel_rfl) rfl
 have c:=Zp x u 152 #[] Rd.strOf Rd.VH 4000 W (hE.below hb).err e1 hx hG (ZP (hE.below hb))
 generalize Rd.ZE Rd.strOf x=S at c
 generalize Rd.Zu Rd.VH x=C at c
 have hfm:=hx.form
 clear hx hG e1
 rcases hfm with rfl|⟨T,y,rfl⟩
 ·go_enter Tryz.func320,Tryz.ntmps320
  go_wp2_with (go_at_call 151;refine c.mono ?_;rintro e w' ⟨lv,v,rfl,hfv,hb',ho⟩)
  go_ret2
  exact ⟨_,_,rfl,hfv,hb',ho⟩
 ·go_enter Tryz.func320,Tryz.ntmps320
  go_wp2_with (go_at_call 151;refine c.mono ?_;rintro e w' ⟨lv,v,rfl,hfv,hb',ho⟩)
  go_ret2
  exact ⟨_,_,rfl,hfv,hb',ho⟩
theorem zmm {w:World} (hE:zdY w):Looks 322 (Rd.ZE (Rd.qO Rd.short)) (Rd.Zu (Rd.zT Rd.short)) w:=by
 intro W x u hG hx hb
 have e1:∀args w,(callFunc 331 args).run Tryz.prog w = .ok (.enter 331 args) w:=enters_of Tryz.func331 (by kernel_rfl) rfl
 have c:=Za x u 331 Rd.short W (hE.below hb).err e1 hx hG (fun W2 s hs _=>zbw s W2 hs)
 generalize Rd.ZE (Rd.qO Rd.short) x=S at c
 generalize Rd.Zu (Rd.zT Rd.short) x=C at c
 have hfm:=hx.form
 clear hx hG e1
 rcases hfm with rfl|⟨T,y,rfl⟩
 ·go_enter Tryz.func322,Tryz.ntmps322
  go_wp2_with (go_at_call 330;refine c.mono ?_;rintro e w' ⟨lv,v,rfl,hfv,hb',ho⟩)
  go_ret2
  exact ⟨_,_,rfl,hfv,hb',ho⟩
 ·go_enter Tryz.func322,Tryz.ntmps322
  go_wp2_with (go_at_call 330;refine c.mono ?_;rintro e w' ⟨lv,v,rfl,hfv,hb',ho⟩)
  go_ret2
  exact ⟨_,_,rfl,hfv,hb',ho⟩
theorem zlD {w:World} (hE:zdY w):Looks 324 (Rd.ZE (Rd.qO Ref.ZA)) (Rd.Zu (Rd.zT Ref.ZA)) w:=by
 intro W x u hG hx hb
 have e1:∀args w,(callFunc 332 args).run Tryz.prog w = .ok (.enter 332 args) w:=enters_of Tryz.func332 (by kernel_rfl) rfl
 have c:=Za x u 332 Ref.ZA W (hE.below hb).err e1 hx hG (fun W2 s _ _=>zhB s W2)
 generalize Rd.ZE (Rd.qO Ref.ZA) x=S at c
 generalize Rd.Zu (Rd.zT Ref.ZA) x=C at c
 have hfm:=hx.form
 clear hx hG e1
 rcases hfm with rfl|⟨T,y,rfl⟩
 ·go_enter Tryz.func324,Tryz.ntmps324
  go_wp2_with (go_at_call 330;refine c.mono ?_;rintro e w' ⟨lv,v,rfl,hfv,hb',ho⟩)
  go_ret2
  exact ⟨_,_,rfl,hfv,hb',ho⟩
 ·go_enter Tryz.func324,Tryz.ntmps324
  go_wp2_with (go_at_call 330;refine c.mono ?_;rintro e w' ⟨lv,v,rfl,hfv,hb',ho⟩)
  go_ret2
  exact ⟨_,_,rfl,hfv,hb',ho⟩
theorem zlq {w:World} (hE:zdY w):Looks 326 (Rd.ZE (Rd.qO Rd.filled)) (Rd.Zu (Rd.zT Rd.filled)) w:=by
 intro W x u hG hx hb
 have e1:∀args w,(callFunc 336 args).run Tryz.prog w = .ok (.enter 336 args) w:=enters_of Tryz.func336 (by kernel_rfl) rfl
 have c:=Za x u 336 Rd.filled W (hE.below hb).err e1 hx hG (fun W2 s hs _=>zeX s W2 hs)
 generalize Rd.ZE (Rd.qO Rd.filled) x=S at c
 generalize Rd.Zu (Rd.zT Rd.filled) x=C at c
 have hfm:=hx.form
 clear hx hG e1
 rcases hfm with rfl|⟨T,y,rfl⟩
 ·go_enter Tryz.func326,Tryz.ntmps326
  go_wp2_with (go_at_call 330;refine c.mono ?_;rintro e w' ⟨lv,v,rfl,hfv,hb',ho⟩)
  go_ret2
  exact ⟨_,_,rfl,hfv,hb',ho⟩
 ·go_enter Tryz.func326,Tryz.ntmps326
  go_wp2_with (go_at_call 330;refine c.mono ?_;rintro e w' ⟨lv,v,rfl,hfv,hb',ho⟩)
  go_ret2
  exact ⟨_,_,rfl,hfv,hb',ho⟩
theorem zkc {w:World}:Looks 328 (fun _=>[]) (fun x=>if x.isNone then 0 else 1) w:=by
 intro W x u _ hx _
 cases x with
 | none=>
  have hu:u = .nilIface:=hx
  subst hu
  go_enter Tryz.func328,Tryz.ntmps328
  go_wp2
  go_ret2
  exact ⟨_,_,rfl, .inl ⟨rfl,rfl⟩,Below.refl _ _,World.ownsRow_nil _ _ _ _⟩
 | some v=>
  obtain ⟨T,y,rfl⟩:=ValAt.iface (show ValAt W (fun b=>b<W.heap.size) v u from hx)
  clear hx
  go_enter Tryz.func328,Tryz.ntmps328
  go_wp2
  go_ret2
  exact ⟨_,_,rfl, .inr (.inl ⟨rfl,_,rfl⟩),Below.refl _ _,World.ownsRow_nil _ _ _ _⟩
def zg9 (w:World) (x:Option Rd.V) (e:Ending) (w':World):Prop:=∃u,e = .returned (.tuple #[.bool (Rd.zgB x),u])∧FV (Rd.cls (Rd.jV x) false) u∧Below w.heap.size w w'
theorem zkd (x:Option Rd.V) (u:Value) (w:World) (hx:OAt w x u):Calls Tryz.prog 201 #[u] w (zg9 w x):=by
 cases x with
 | none=>
  have hu:u = .nilIface:=hx
  subst hu
  go_enter Tryz.func201,Tryz.ntmps201
  go_wp2
  go_ret2
  exact ⟨_,rfl, .inl ⟨rfl,rfl⟩,Below.refl _ _⟩
 | some v=>
  have hv:ValAt w (fun b=>b<w.heap.size) v u:=hx
  clear hx
  cases hv with
  | word b=>
   have ta:=zbm
   go_enter Tryz.func201,Tryz.ntmps201
   go_wp2
   go_ret2
   exact ⟨_,rfl, .inl ⟨rfl,rfl⟩,Below.refl _ _⟩
  | str s=>
   have ta:=zcm
   go_enter Tryz.func201,Tryz.ntmps201
   go_wp2
   go_ret2
   exact ⟨_,rfl, .inr (.inl ⟨rfl,_,rfl⟩),Below.refl _ _⟩
  | list vs us ao cap h1 h2 h3=>
   clear h1 h2 h3
   have ta:=zbx
   go_enter Tryz.func201,Tryz.ntmps201
   go_wp2
   go_ret2
   exact ⟨_,rfl, .inr (.inl ⟨rfl,_,rfl⟩),Below.refl _ _⟩
  | obj ms us ao cap h1 h2 h3=>
   clear h1 h2 h3
   have ta:=zcn
   go_enter Tryz.func201,Tryz.ntmps201
   go_wp2
   go_ret2
   exact ⟨_,rfl, .inr (.inl ⟨rfl,_,rfl⟩),Below.refl _ _⟩
end Go.Proofs.YtdakgnaojakldaaGreatDoor
