/- P -/
import Derived.Test.YtdakgnaojakldaaGreatDoorP04
import Derived.Deep.Light
import Derived.Maps.AppendAt
set_option maxRecDepth 100000
set_option maxHeartbeats 400000
namespace Go.Proofs.YtdakgnaojakldaaGreatDoor
open Go.RowKit
def qf (l:List Nat):List Value:=l.map fun (n:Nat)=>Value.int .i64 (n:Int)
def qp:List Ref.Node→List (Value×Value)→List Value
 | n::ns,v::vs => .int .i64 n.kind :: .string n.text::v.1::v.2::qp ns vs
 | _,_=>[]
def jf (m:Ref.zC) (ov nv:Value):Array Value:=
 #[.int .i64 m.state,ov,nv, .bool m.named, .string m.got, .int .i64 m.need, .int .u8 m.low, .int .u8 m.high, .int .i64 m.number, .string m.word, .int .i64 m.root]
structure zI (w:World) (base b:Nat) (m:Ref.zC) (ov nv:Value) (vs:List (Value×Value)):Prop where
 hb:base≤b
 blk:w.heap[b]?=some (.cells (jf m ov nv) 155 (0,0))
 ownO:w.ownsRow base 3 1 ov m.opn.length (qf m.opn)
 ownN:w.ownsRow base 152 4 nv m.nodes.length (qp m.nodes vs)
 len:vs.length=m.nodes.length
 names:∀(i:Nat) (n:Ref.Node) (v:Value×Value),m.nodes[i]?=some n→vs[i]?=some v→w.ownsRow base 9 1 v.1 n.names.length (Ref.strCells n.names)
 kids:∀(i:Nat) (n:Ref.Node) (v:Value×Value),m.nodes[i]?=some n→vs[i]?=some v→w.ownsRow base 3 1 v.2 n.kids.length (qf n.kids)
 sepO:∀(i:Nat) (v:Value×Value) (g:Nat),vs[i]?=some v→v.2.ownBlock=some g→ov.ownBlock≠some g
 sepK:∀(i j:Nat) (v v':Value×Value) (g:Nat),vs[i]?=some v→vs[j]?=some v'→i≠j→v.2.ownBlock=some g→v'.2.ownBlock≠some g
 sepN:∀(i j:Nat) (v v':Value×Value) (g:Nat),vs[i]?=some v→vs[j]?=some v'→i≠j→v.1.ownBlock=some g→v'.1.ownBlock≠some g
theorem jU {w:World} {base:Nat} {e:TypeId} {size:Nat} {v:Value} {n:Nat} {xs:List Value} {g:Nat} (h:w.ownsRow base e size v n xs) (hg:v.ownBlock=some g):∃cur,w.heap[g]?=some (.cells cur e (0,0)):=by
 rcases h.2 with ⟨rfl,_⟩|⟨g',cap,cur,rfl,_,hh,_⟩
 ·simp [Value.ownBlock] at hg
 ·simp only [Value.ownBlock,Option.some.injEq] at hg;subst hg;exact ⟨cur,hh⟩
theorem x8 {w:World} {base base':Nat} {e e':TypeId} {size size':Nat} {v v':Value} {n n':Nat} {xs xs':List Value} {g:Nat} (h:w.ownsRow base e size v n xs) (h':w.ownsRow base' e' size' v' n' xs') (hne:e≠e')
  (hg:v.ownBlock=some g):v'.ownBlock≠some g:=by
 intro hg'
 obtain ⟨c,hc⟩:=jU h hg
 obtain ⟨c',hc'⟩:=jU h' hg'
 rw [hc] at hc'
 simp only [Option.some.injEq,Obj.cells.injEq] at hc'
 exact hne hc'.2.1
theorem zD {w:World} {base:Nat} {e t:TypeId} {size:Nat} {v:Value} {n:Nat} {xs:List Value} {b:Nat} {cs:Array Value} (h:w.ownsRow base e size v n xs) (hb:w.heap[b]?=some (.cells cs t (0,0))) (hne:e≠t):v.ownBlock≠some b:=by
 intro hg
 obtain ⟨c,hc⟩:=jU h hg
 rw [hc] at hb
 simp only [Option.some.injEq,Obj.cells.injEq] at hb
 exact hne hb.2.1
theorem zI.store {w:World} {base b:Nat} {m m':Ref.zC} {ov nv:Value} {vs:List (Value×Value)} (h:zI w base b m ov nv vs) (k:Nat) (u:Value) (harr:(jf m ov nv).setIfInBounds k u=jf m' ov nv)
  (ho:m'.opn=m.opn) (hn:m'.nodes=m.nodes):zI (w.setCell ⟨b,k,none⟩ u) base b m' ov nv vs:=by
 obtain ⟨h1,h2,h3,h4,h5,h6,h7,h8,h9,h10⟩:=h
 refine ⟨h1,?_,?_,?_,by rw [hn];exact h5,?_,?_,h8,h9,h10⟩
 ·rw [heap_setCell_same w b k _ _ u h2,harr]
 ·rw [ho];exact ownsRow_setCell_other h3 (zD h3 h2 (by decide)) u
 ·rw [hn];exact ownsRow_setCell_other h4 (zD h4 h2 (by decide)) u
 ·rw [hn];intro i n v hi hv;exact ownsRow_setCell_other (h6 i n v hi hv) (zD (h6 i n v hi hv) h2 (by decide)) u
 ·rw [hn];intro i n v hi hv;exact ownsRow_setCell_other (h7 i n v hi hv) (zD (h7 i n v hi hv) h2 (by decide)) u
theorem zI.below {w w':World} {base b:Nat} {m:Ref.zC} {ov nv:Value} {vs:List (Value×Value)} (h:zI w base b m ov nv vs) (hb:Below w.heap.size w w'):zI w' base b m ov nv vs:=by
 obtain ⟨h1,h2,h3,h4,h5,h6,h7,h8,h9,h10⟩:=h
 exact ⟨h1,(hb.block b (lt_of_block h2)).trans h2,ownsRow_below h3 hb,ownsRow_below h4 hb,h5,fun i n v hi hv=>ownsRow_below (h6 i n v hi hv) hb,fun i n v hi hv=>ownsRow_below (h7 i n v hi hv) hb,h8,h9,h10⟩
theorem zh0 (b:Int) (w:World) (h0:0≤b) (h1:b≤255) :
  Calls Tryz.prog 161 #[.int .u8 b] w fun e w'=>e = .returned (.bool (Ref.Xg b))∧w'=w:=by
 obtain ⟨P,hP⟩:∃P,Ref.Xg b=P:=⟨_,rfl⟩
 rw [hP]
 unfold Ref.Xg at hP
 have HP:=hid hP
 clear hP
 go_enter Tryz.func161,Tryz.ntmps161
 go_wp2
 all_goals
  go_ret
  refine ⟨yK ?_,rfl⟩
  have hp:=HP.out
  go_light
  rw [← hp]
  first
   | (symm;rw [decide_eq_true_eq];omega)
   | (rw [Bool.eq_iff_iff];simp only [Bool.or_eq_true,beq_iff_eq,decide_eq_true_eq];omega)
theorem zkQ (b:Int) (w:World) (h0:0≤b) (h1:b≤255) :
  Calls Tryz.prog 204 #[.int .u8 b] w fun e w'=>e = .returned (.int .i64 (Ref.hexN b))∧w'=w:=by
 obtain ⟨P,hP⟩:∃P,Ref.hexN b=P:=⟨_,rfl⟩
 rw [hP]
 unfold Ref.hexN at hP
 have HP:=hid hP
 clear hP
 go_enter Tryz.func204,Tryz.ntmps204
 go_wp2
 all_goals
  go_ret
  refine ⟨zlr ?_,rfl⟩
  have hp:=HP.out
  go_light
  (repeat' split at hp)<;>omega
theorem zj9 (w:World) (x:Int) (t:TypeId) (c:Nat):(convert 256 9 (.slice (some ⟨w.heap.size,0,none⟩) 1 c)).run Tryz.prog (w.alloc (.cells #[.int .u8 x] t)) = .ok (.string ⟨#[UInt8.ofNat x.toNat]⟩) (w.alloc (.cells #[.int .u8 x] t)):=by
 rw [run_convert_bytes_string _ _ _ _ _ _ _ Tryz.underlying256 Tryz.underlying5 Tryz.underlying9]
 rw [run_bytesToString _ _ _ _ [x] (by simp [loadCells,go_sem])]
 rfl
theorem zkm (w:World) (x y:Int) (t:TypeId) (c:Nat):(convert 256 9 (.slice (some ⟨w.heap.size,0,none⟩) 2 c)).run Tryz.prog (w.alloc (.cells #[.int .u8 x, .int .u8 y] t)) = .ok (.string ⟨#[UInt8.ofNat x.toNat,UInt8.ofNat y.toNat]⟩) (w.alloc (.cells #[.int .u8 x, .int .u8 y] t)):=by
 rw [run_convert_bytes_string _ _ _ _ _ _ _ Tryz.underlying256 Tryz.underlying5 Tryz.underlying9]
 rw [run_bytesToString _ _ _ _ [x,y] (by simp [loadCells,go_sem])]
 rfl
theorem zeY (w:World) (x y z:Int) (t:TypeId) (c:Nat):(convert 256 9 (.slice (some ⟨w.heap.size,0,none⟩) 3 c)).run Tryz.prog (w.alloc (.cells #[.int .u8 x, .int .u8 y, .int .u8 z] t)) = .ok (.string ⟨#[UInt8.ofNat x.toNat,UInt8.ofNat y.toNat,UInt8.ofNat z.toNat]⟩) (w.alloc (.cells #[.int .u8 x, .int .u8 y, .int .u8 z] t)):=by
 rw [run_convert_bytes_string _ _ _ _ _ _ _ Tryz.underlying256 Tryz.underlying5 Tryz.underlying9]
 rw [run_bytesToString _ _ _ _ [x,y,z] (by simp [loadCells,go_sem])]
 rfl
theorem zc3 (n:Int) (w:World) (h0:0≤n) (h1:n<65536) :
  Calls Tryz.prog 205 #[.int .i64 n] w fun e w'=>e = .returned (.string (Ref.enc n))∧Below w.heap.size w w':=by
 obtain ⟨P,hP⟩:∃P,Ref.enc n=P:=⟨_,rfl⟩
 rw [hP]
 unfold Ref.enc at hP
 have HP:=hid hP
 clear hP
 have k1:=zj9
 have k2:=zkm
 have k3:=zeY
 go_enter Tryz.func205,Tryz.ntmps205
 go_wp2
 all_goals
  go_ret
  refine ⟨zfL ?_,(Below.refl _ _).alloc (Nat.le_refl _) _⟩
  have hp:=HP.out
  go_light
  clear k1 k2 k3
  rw [← hp]
  first
   | (rw [if_pos (by omega)];rfl)
   | (rw [if_neg (by omega),if_pos (by omega)])
   | (rw [if_neg (by omega),if_neg (by omega)])
theorem za9 {α:Type} (l:List α) (f:α→α) (o i:Nat) (h:i≠o):(l.modify o f)[i]?=l[i]?:=by
 have h2:o≠i:=fun e=>h e.symm
 rw [List.getElem?_modify];simp [h2]
theorem JH {α:Type} (l:List α) (f:α→α) (o:Nat) (n:α) (h:l[o]?=some n):(l.modify o f)[o]?=some (f n):=by
 rw [List.getElem?_modify,h];simp
theorem VL (ns:List Ref.Node) (vs:List (Value×Value)) (n:Ref.Node) (v:Value×Value) (h:vs.length=ns.length) :
  qp (ns++[n]) (vs++[v])=qp ns vs++[.int .i64 n.kind, .string n.text,v.1,v.2]:=by
 induction ns generalizing vs with
 | nil=>
  cases vs with
  | nil=>rfl
  | cons a l=>simp at h
 | cons a l ih=>
  cases vs with
  | nil=>simp at h
  | cons c t=>
   simp only [List.cons_append,qp]
   rw [ih t (by simpa using h)]
theorem vN (ns:List Ref.Node) (vs:List (Value×Value)) (h:vs.length=ns.length) (o:Nat) (n:Ref.Node) (v:Value×Value) (hn:ns[o]?=some n) (hv:vs[o]?=some v) :
  (qp ns vs)[o*4]?=some (.int .i64 n.kind)∧(qp ns vs)[o*4+1]?=some (.string n.text)∧(qp ns vs)[o*4+2]?=some v.1∧(qp ns vs)[o*4+3]?=some v.2:=by
 induction ns generalizing vs o with
 | nil=>simp at hn
 | cons a l ih=>
  cases vs with
  | nil=>simp at h
  | cons c t=>
   cases o with
   | zero=>
    simp only [List.getElem?_cons_zero,Option.some.injEq] at hn hv
    subst hn hv
    exact ⟨rfl,rfl,rfl,rfl⟩
   | succ o=>
    simp only [List.getElem?_cons_succ] at hn hv
    have:=ih t (by simpa using h) o hn hv
    simp only [qp]
    rw [show (o+1)*4=o*4+1+1+1+1 by omega]
    simp only [show o*4+1+1+1+1+1=(o*4+1)+1+1+1+1 by omega,show o*4+1+1+1+1+2=(o*4+2)+1+1+1+1 by omega,show o*4+1+1+1+1+3=(o*4+3)+1+1+1+1 by omega,List.getElem?_cons_succ]
    exact this
theorem KD (ns:List Ref.Node) (vs:List (Value×Value)) (h:vs.length=ns.length) (o:Nat) (v:Value×Value) (hv:vs[o]?=some v) (kv:Value) (f:Ref.Node→Ref.Node) (hf:∀n,(f n).kind=n.kind∧(f n).text=n.text) :
  (qp ns vs).set (o*4+3) kv=qp (ns.modify o f) (vs.set o (v.1,kv)):=by
 induction ns generalizing vs o with
 | nil=>
  cases vs with
  | nil=>simp at hv
  | cons a l=>simp at h
 | cons a l ih=>
  cases vs with
  | nil=>simp at h
  | cons c t=>
   cases o with
   | zero=>
    simp only [List.getElem?_cons_zero,Option.some.injEq] at hv
    subst hv
    simp [qp,List.modify,List.modifyTailIdx,List.modifyTailIdx.go,(hf a).1,(hf a).2]
   | succ o=>
    simp only [List.getElem?_cons_succ] at hv
    have:=ih t (by simpa using h) o hv
    rw [show (o+1)*4+3=(o*4+3)+1+1+1+1 by omega,List.modify_succ_cons,List.set_cons_succ]
    simp only [qp,List.set_cons_succ,this]
theorem VM (ns:List Ref.Node) (vs:List (Value×Value)) (h:vs.length=ns.length) (o:Nat) (v:Value×Value) (hv:vs[o]?=some v) (kv:Value) (f:Ref.Node→Ref.Node) (hf:∀n,(f n).kind=n.kind∧(f n).text=n.text) :
  (qp ns vs).set (o*4+2) kv=qp (ns.modify o f) (vs.set o (kv,v.2)):=by
 induction ns generalizing vs o with
 | nil=>
  cases vs with
  | nil=>simp at hv
  | cons a l=>simp at h
 | cons a l ih=>
  cases vs with
  | nil=>simp at h
  | cons c t=>
   cases o with
   | zero=>
    simp only [List.getElem?_cons_zero,Option.some.injEq] at hv
    subst hv
    simp [qp,List.modify,List.modifyTailIdx,List.modifyTailIdx.go,(hf a).1,(hf a).2]
   | succ o=>
    simp only [List.getElem?_cons_succ] at hv
    have:=ih t (by simpa using h) o hv
    rw [show (o+1)*4+2=(o*4+2)+1+1+1+1 by omega,List.modify_succ_cons,List.set_cons_succ]
    simp only [qp,List.set_cons_succ,this]
theorem zI.addNode {X w1:World} {base b:Nat} {m:Ref.zC} {ov nv nv':Value} {vs:List (Value×Value)} (h:zI X base b m ov nv vs) (hg:X.grownBy w1 nv.ownBlock) (n:Ref.Node) (hn:n.names=[]) (hk:n.kids=[])
  (hown:w1.ownsRow base 152 4 nv' (m.nodes.length+1) (qp m.nodes vs++[.int .i64 n.kind, .string n.text, .slice none 0 0, .slice none 0 0])) :
  zI (w1.setCell ⟨b,2,none⟩ nv') base b { m with nodes:=m.nodes++[n] } ov nv' (vs++[(.slice none 0 0, .slice none 0 0)]):=by
 obtain ⟨h1,h2,h3,h4,h5,h6,h7,h8,h9,h10⟩:=h
 have hbn:nv.ownBlock≠some b:=zD h4 h2 (by decide)
 have hblk:w1.heap[b]?=some (.cells (jf m ov nv) 155 (0,0)):=(hg.block b (lt_of_block h2) (fun e=>hbn e.symm)).trans h2
 have keep:∀{e:TypeId} {size n:Nat} {v:Value} {xs:List Value},X.ownsRow base e size v n xs→e≠152→w1.ownsRow base e size v n xs:=by
  intro e size n v xs hv he
  refine hv.kept hg ?_
  cases hvb:v.ownBlock with
  | none=>exact .inl rfl
  | some g=>exact .inr (fun e2=>x8 hv h4 he hvb e2.symm)
 have put:∀{e:TypeId} {size n:Nat} {v:Value} {xs:List Value},w1.ownsRow base e size v n xs→e≠155→(w1.setCell ⟨b,2,none⟩ nv').ownsRow base e size v n xs:=
  fun hv he=>ownsRow_setCell_other hv (zD hv hblk he) _
 refine ⟨h1,?_,put (keep h3 (by decide)) (by decide),?_,by simp [h5],?_,?_,?_,?_,?_⟩
 ·rw [heap_setCell_same w1 b 2 _ _ nv' hblk];rfl
 ·simp only [List.length_append,List.length_singleton]
  rw [VL _ _ _ _ h5]
  exact put hown (by decide)
 ·intro i n' v hi hv
  rw [List.getElem?_append] at hi hv
  simp only [h5] at hv
  split at hi
  ·rename_i hlt
   rw [if_pos hlt] at hv
   exact put (keep (h6 i n' v hi hv) (by decide)) (by decide)
  ·rename_i hlt
   rw [if_neg hlt] at hv
   have e0:i-m.nodes.length=0:=by
    have:=(List.getElem?_eq_some_iff.1 hi).1
    simp at this;omega
   rw [e0] at hi hv
   simp only [List.getElem?_cons_zero,Option.some.injEq] at hi hv
   subst hi hv
   rw [hn];exact World.ownsRow_nil _ _ _ _
 ·intro i n' v hi hv
  rw [List.getElem?_append] at hi hv
  simp only [h5] at hv
  split at hi
  ·rename_i hlt
   rw [if_pos hlt] at hv
   exact put (keep (h7 i n' v hi hv) (by decide)) (by decide)
  ·rename_i hlt
   rw [if_neg hlt] at hv
   have e0:i-m.nodes.length=0:=by
    have:=(List.getElem?_eq_some_iff.1 hi).1
    simp at this;omega
   rw [e0] at hi hv
   simp only [List.getElem?_cons_zero,Option.some.injEq] at hi hv
   subst hi hv
   rw [hk];exact World.ownsRow_nil _ _ _ _
 ·intro i v g hv hvg
  rw [List.getElem?_append] at hv
  split at hv
  ·exact h8 i v g hv hvg
  ·have:=List.mem_of_getElem? hv
   simp only [List.mem_singleton] at this
   subst this
   simp [Value.ownBlock] at hvg
 ·intro i j v v' g hv hv' hij hvg
  rw [List.getElem?_append] at hv hv'
  split at hv
  ·split at hv'
   ·exact h9 i j v v' g hv hv' hij hvg
   ·have:=List.mem_of_getElem? hv'
    simp only [List.mem_singleton] at this
    subst this
    simp [Value.ownBlock]
  ·have:=List.mem_of_getElem? hv
   simp only [List.mem_singleton] at this
   subst this
   simp [Value.ownBlock] at hvg
 ·intro i j v v' g hv hv' hij hvg
  rw [List.getElem?_append] at hv hv'
  split at hv
  ·split at hv'
   ·exact h10 i j v v' g hv hv' hij hvg
   ·have:=List.mem_of_getElem? hv'
    simp only [List.mem_singleton] at this
    subst this
    simp [Value.ownBlock]
  ·have:=List.mem_of_getElem? hv
   simp only [List.mem_singleton] at this
   subst this
   simp [Value.ownBlock] at hvg
theorem zI.xN {X w1:World} {base b:Nat} {m:Ref.zC} {ov nv kv:Value} {vs:List (Value×Value)} (h:zI X base b m ov nv vs) (o:Nat) (n:Ref.Node) (v:Value×Value) (hn:m.nodes[o]?=some n) (hv:vs[o]?=some v)
  (hg:X.grownBy w1 v.2.ownBlock) (k:Nat) (hown:w1.ownsRow base 3 1 kv (n.kids.length+1) (qf n.kids++[.int .i64 (k:Int)])) (hat:kv.ownBlock=v.2.ownBlock∨kv.ownBlock=some X.heap.size)
  (g cnt cap:Nat) (hnv:nv = .slice (some ⟨g,0,none⟩) cnt cap) :
  zI (w1.setCell ⟨g,o*4+3,none⟩ kv) base b { m with nodes:=Ref.xN o k m.nodes } ov nv (vs.set o (v.1,kv)):=by
 obtain ⟨h1,h2,h3,h4,h5,h6,h7,h8,h9,h10⟩:=h
 have hold:=h7 o n v hn hv
 have hbk:v.2.ownBlock≠some b:=zD hold h2 (by decide)
 have hblk:w1.heap[b]?=some (.cells (jf m ov nv) 155 (0,0)):=(hg.block b (lt_of_block h2) (fun e=>hbk e.symm)).trans h2
 have keep:∀{e:TypeId} {size n':Nat} {v':Value} {xs:List Value},X.ownsRow base e size v' n' xs→(∀g,v.2.ownBlock=some g→v'.ownBlock≠some g)→w1.ownsRow base e size v' n' xs:=by
  intro e size n' v' xs hv' hne
  refine hv'.kept hg ?_
  cases hvb:v'.ownBlock with
  | none=>exact .inl rfl
  | some g2=>exact .inr (fun e2=>hne g2 e2.symm hvb)
 have apart:∀{e:TypeId} {size n':Nat} {v':Value} {xs:List Value},X.ownsRow base e size v' n' xs→3≠e→∀g,v.2.ownBlock=some g→v'.ownBlock≠some g:=
  fun hv' he g hg'=>x8 hold hv' he hg'
 have hN1:=keep h4 (apart h4 (by decide))
 have hgt:∃cur,w1.heap[g]?=some (.cells cur 152 (0,0)):=jU hN1 (by rw [hnv];rfl)
 obtain ⟨cur,hcur⟩:=hgt
 have put:∀{e:TypeId} {size n':Nat} {v':Value} {xs:List Value},w1.ownsRow base e size v' n' xs→e≠152→(w1.setCell ⟨g,o*4+3,none⟩ kv).ownsRow base e size v' n' xs:=
  fun hv' he=>ownsRow_setCell_other hv' (zD hv' hcur he) _
 have hgb:g≠b:=by intro e;subst e;rw [hblk] at hcur;simp at hcur
 have hlt:o<m.nodes.length:=(List.getElem?_eq_some_iff.1 hn).1
 have hml:(Ref.xN o k m.nodes).length=m.nodes.length:=by unfold Ref.xN;rw [List.length_modify]
 have hmo:∀i,i≠o→(Ref.xN o k m.nodes)[i]?=m.nodes[i]?:=fun i hi=>by unfold Ref.xN;exact za9 _ _ _ _ hi
 have hms:(Ref.xN o k m.nodes)[o]?=some { n with kids:=n.kids++[k] }:=by unfold Ref.xN;exact JH _ _ _ _ hn
 have hvo:∀i,i≠o→(vs.set o (v.1,kv))[i]?=vs[i]?:=fun i hi=>by rw [List.getElem?_set,if_neg (fun e=>hi e.symm)]
 have hvs:(vs.set o (v.1,kv))[o]?=some (v.1,kv):=by rw [List.getElem?_set,if_pos rfl,if_pos (by omega)]
 have hltX:∀{e:TypeId} {size n':Nat} {v':Value} {xs:List Value},X.ownsRow base e size v' n' xs→∀g,v'.ownBlock=some g→g<X.heap.size:=fun hv' g hg'=>(hv'.lt g hg').2
 refine ⟨h1,?_,put (keep h3 (fun g2 hg2=>h8 o v g2 hv hg2)) (by decide),?_,by simp [h5,hml],?_,?_,?_,?_,?_⟩
 ·rw [Below.heap_setCell w1 ⟨g,o*4+3,none⟩ kv b (fun e=>hgb e.symm),hblk];rfl
 ·simp only [hml]
  subst hnv
  rw [show Ref.xN o k m.nodes=m.nodes.modify o (fun n=>{ n with kids:=n.kids++[k] }) from rfl]
  rw [← KD m.nodes vs h5 o v hv kv (fun n=>{ n with kids:=n.kids++[k] }) (fun _=>⟨rfl,rfl⟩)]
  have hc:cnt=m.nodes.length:=by
   rcases hN1.2 with ⟨e,_⟩|⟨g',cap',cur',e,_⟩
   ·cases e
   ·simp only [Value.slice.injEq] at e;exact e.2.1
  subst hc
  exact (hN1.stored (o*4+3) kv).1
 ·intro i n' v' hi hv'
  by_cases hio:i=o
  ·subst hio
   rw [hms] at hi;rw [hvs] at hv'
   simp only [Option.some.injEq] at hi hv'
   subst hi hv'
   exact put (keep (h6 i n v hn hv) (apart (h6 i n v hn hv) (by decide))) (by decide)
  ·rw [hmo i hio] at hi;rw [hvo i hio] at hv'
   exact put (keep (h6 i n' v' hi hv') (apart (h6 i n' v' hi hv') (by decide))) (by decide)
 ·intro i n' v' hi hv'
  by_cases hio:i=o
  ·subst hio
   rw [hms] at hi;rw [hvs] at hv'
   simp only [Option.some.injEq] at hi hv'
   subst hi hv'
   simp only [List.length_append,List.length_singleton]
   have:qf (n.kids++[k])=qf n.kids++[.int .i64 (k:Int)]:=by simp [qf]
   rw [this]
   exact put hown (by decide)
  ·rw [hmo i hio] at hi;rw [hvo i hio] at hv'
   exact put (keep (h7 i n' v' hi hv') (fun g2 hg2=>h9 o i v v' g2 hv hv' (fun e=>hio e.symm) hg2)) (by decide)
 ·intro i v' g2 hv' hg2
  by_cases hio:i=o
  ·subst hio
   rw [hvs] at hv'
   simp only [Option.some.injEq] at hv'
   subst hv'
   rcases hat with e|e
   ·exact h8 i v g2 hv (e ▸ hg2)
   ·intro ho
    have l1:=hltX h3 g2 ho
    rw [show kv.ownBlock=some g2 from hg2] at e
    simp only [Option.some.injEq] at e;omega
  ·rw [hvo i hio] at hv'
   exact h8 i v' g2 hv' hg2
 ·intro i j v' v'' g2 hv' hv'' hij hg2
  by_cases hio:i=o
  ·subst hio
   rw [hvs] at hv'
   simp only [Option.some.injEq] at hv'
   subst hv'
   rw [hvo j (fun e=>hij e.symm)] at hv''
   rcases hat with e|e
   ·exact h9 i j v v'' g2 hv hv'' hij (e ▸ hg2)
   ·intro ho
    have hjl:j<m.nodes.length:=by rw [← h5];exact (List.getElem?_eq_some_iff.1 hv'').1
    have l1:=hltX (h7 j m.nodes[j] v'' (List.getElem?_eq_getElem hjl) hv'') g2 ho
    rw [show kv.ownBlock=some g2 from hg2] at e
    simp only [Option.some.injEq] at e;omega
  ·rw [hvo i hio] at hv'
   by_cases hjo:j=o
   ·subst hjo
    rw [hvs] at hv''
    simp only [Option.some.injEq] at hv''
    subst hv''
    rcases hat with e|e
    ·rw [show kv.ownBlock=v.2.ownBlock from e]
     exact h9 i j v' v g2 hv' hv hij hg2
    ·intro ho
     have hil:i<m.nodes.length:=by rw [← h5];exact (List.getElem?_eq_some_iff.1 hv').1
     have l1:=hltX (h7 i m.nodes[i] v' (List.getElem?_eq_getElem hil) hv') g2 hg2
     rw [show kv.ownBlock=some g2 from ho] at e
     simp only [Option.some.injEq] at e;omega
   ·rw [hvo j hjo] at hv''
    exact h9 i j v' v'' g2 hv' hv'' hij hg2
 ·intro i j v' v'' g2 hv' hv'' hij hg2
  by_cases hio:i=o
  ·subst hio
   rw [hvs] at hv'
   simp only [Option.some.injEq] at hv'
   subst hv'
   rw [hvo j (fun e=>hij e.symm)] at hv''
   exact h10 i j v v'' g2 hv hv'' hij hg2
  ·rw [hvo i hio] at hv'
   by_cases hjo:j=o
   ·subst hjo
    rw [hvs] at hv''
    simp only [Option.some.injEq] at hv''
    subst hv''
    exact h10 i j v' v g2 hv' hv hij hg2
   ·rw [hvo j hjo] at hv''
    exact h10 i j v' v'' g2 hv' hv'' hij hg2
theorem zI.qQ {X w1:World} {base b:Nat} {m:Ref.zC} {ov nv kv:Value} {vs:List (Value×Value)} (h:zI X base b m ov nv vs) (o:Nat) (n:Ref.Node) (v:Value×Value) (hn:m.nodes[o]?=some n) (hv:vs[o]?=some v)
  (hg:X.grownBy w1 v.1.ownBlock) (k:ByteArray) (hown:w1.ownsRow base 9 1 kv (n.names.length+1) (Ref.strCells n.names++[.string k])) (hat:kv.ownBlock=v.1.ownBlock∨kv.ownBlock=some X.heap.size)
  (g cnt cap:Nat) (hnv:nv = .slice (some ⟨g,0,none⟩) cnt cap) :
  zI (w1.setCell ⟨g,o*4+2,none⟩ kv) base b { m with nodes:=Ref.qQ o k m.nodes } ov nv (vs.set o (kv,v.2)):=by
 obtain ⟨h1,h2,h3,h4,h5,h6,h7,h8,h9,h10⟩:=h
 have hold:=h6 o n v hn hv
 have hbk:v.1.ownBlock≠some b:=zD hold h2 (by decide)
 have hblk:w1.heap[b]?=some (.cells (jf m ov nv) 155 (0,0)):=(hg.block b (lt_of_block h2) (fun e=>hbk e.symm)).trans h2
 have keep:∀{e:TypeId} {size n':Nat} {v':Value} {xs:List Value},X.ownsRow base e size v' n' xs→(∀g,v.1.ownBlock=some g→v'.ownBlock≠some g)→w1.ownsRow base e size v' n' xs:=by
  intro e size n' v' xs hv' hne
  refine hv'.kept hg ?_
  cases hvb:v'.ownBlock with
  | none=>exact .inl rfl
  | some g2=>exact .inr (fun e2=>hne g2 e2.symm hvb)
 have apart:∀{e:TypeId} {size n':Nat} {v':Value} {xs:List Value},X.ownsRow base e size v' n' xs→9≠e→∀g,v.1.ownBlock=some g→v'.ownBlock≠some g:=
  fun hv' he g hg'=>x8 hold hv' he hg'
 have hN1:=keep h4 (apart h4 (by decide))
 have hgt:∃cur,w1.heap[g]?=some (.cells cur 152 (0,0)):=jU hN1 (by rw [hnv];rfl)
 obtain ⟨cur,hcur⟩:=hgt
 have put:∀{e:TypeId} {size n':Nat} {v':Value} {xs:List Value},w1.ownsRow base e size v' n' xs→e≠152→(w1.setCell ⟨g,o*4+2,none⟩ kv).ownsRow base e size v' n' xs:=
  fun hv' he=>ownsRow_setCell_other hv' (zD hv' hcur he) _
 have hgb:g≠b:=by intro e;subst e;rw [hblk] at hcur;simp at hcur
 have hlt:o<m.nodes.length:=(List.getElem?_eq_some_iff.1 hn).1
 have hml:(Ref.qQ o k m.nodes).length=m.nodes.length:=by unfold Ref.qQ;rw [List.length_modify]
 have hmo:∀i,i≠o→(Ref.qQ o k m.nodes)[i]?=m.nodes[i]?:=fun i hi=>by unfold Ref.qQ;exact za9 _ _ _ _ hi
 have hms:(Ref.qQ o k m.nodes)[o]?=some { n with names:=n.names++[k] }:=by unfold Ref.qQ;exact JH _ _ _ _ hn
 have hvo:∀i,i≠o→(vs.set o (kv,v.2))[i]?=vs[i]?:=fun i hi=>by rw [List.getElem?_set,if_neg (fun e=>hi e.symm)]
 have hvs:(vs.set o (kv,v.2))[o]?=some (kv,v.2):=by rw [List.getElem?_set,if_pos rfl,if_pos (by omega)]
 have hltX:∀{e:TypeId} {size n':Nat} {v':Value} {xs:List Value},X.ownsRow base e size v' n' xs→∀g,v'.ownBlock=some g→g<X.heap.size:=fun hv' g hg'=>(hv'.lt g hg').2
 refine ⟨h1,?_,put (keep h3 (apart h3 (by decide))) (by decide),?_,by simp [h5,hml],?_,?_,?_,?_,?_⟩
 ·rw [Below.heap_setCell w1 ⟨g,o*4+2,none⟩ kv b (fun e=>hgb e.symm),hblk];rfl
 ·simp only [hml]
  subst hnv
  rw [show Ref.qQ o k m.nodes=m.nodes.modify o (fun n=>{ n with names:=n.names++[k] }) from rfl]
  rw [← VM m.nodes vs h5 o v hv kv (fun n=>{ n with names:=n.names++[k] }) (fun _=>⟨rfl,rfl⟩)]
  have hc:cnt=m.nodes.length:=by
   rcases hN1.2 with ⟨e,_⟩|⟨g',cap',cur',e,_⟩
   ·cases e
   ·simp only [Value.slice.injEq] at e;exact e.2.1
  subst hc
  exact (hN1.stored (o*4+2) kv).1
 ·intro i n' v' hi hv'
  by_cases hio:i=o
  ·subst hio
   rw [hms] at hi;rw [hvs] at hv'
   simp only [Option.some.injEq] at hi hv'
   subst hi hv'
   simp only [List.length_append,List.length_singleton]
   have:Ref.strCells (n.names++[k])=Ref.strCells n.names++[.string k]:=by simp [Ref.strCells]
   rw [this]
   exact put hown (by decide)
  ·rw [hmo i hio] at hi;rw [hvo i hio] at hv'
   exact put (keep (h6 i n' v' hi hv') (fun g2 hg2=>h10 o i v v' g2 hv hv' (fun e=>hio e.symm) hg2)) (by decide)
 ·intro i n' v' hi hv'
  by_cases hio:i=o
  ·subst hio
   rw [hms] at hi;rw [hvs] at hv'
   simp only [Option.some.injEq] at hi hv'
   subst hi hv'
   exact put (keep (h7 i n v hn hv) (apart (h7 i n v hn hv) (by decide))) (by decide)
  ·rw [hmo i hio] at hi;rw [hvo i hio] at hv'
   exact put (keep (h7 i n' v' hi hv') (apart (h7 i n' v' hi hv') (by decide))) (by decide)
 ·intro i v' g2 hv' hg2
  by_cases hio:i=o
  ·subst hio
   rw [hvs] at hv'
   simp only [Option.some.injEq] at hv'
   subst hv'
   exact h8 i v g2 hv hg2
  ·rw [hvo i hio] at hv'
   exact h8 i v' g2 hv' hg2
 ·intro i j v' v'' g2 hv' hv'' hij hg2
  by_cases hio:i=o
  ·subst hio
   rw [hvs] at hv'
   simp only [Option.some.injEq] at hv'
   subst hv'
   rw [hvo j (fun e=>hij e.symm)] at hv''
   exact h9 i j v v'' g2 hv hv'' hij hg2
  ·rw [hvo i hio] at hv'
   by_cases hjo:j=o
   ·subst hjo
    rw [hvs] at hv''
    simp only [Option.some.injEq] at hv''
    subst hv''
    exact h9 i j v' v g2 hv' hv hij hg2
   ·rw [hvo j hjo] at hv''
    exact h9 i j v' v'' g2 hv' hv'' hij hg2
 ·intro i j v' v'' g2 hv' hv'' hij hg2
  by_cases hio:i=o
  ·subst hio
   rw [hvs] at hv'
   simp only [Option.some.injEq] at hv'
   subst hv'
   rw [hvo j (fun e=>hij e.symm)] at hv''
   rcases hat with e|e
   ·exact h10 i j v v'' g2 hv hv'' hij (e ▸ hg2)
   ·intro ho
    have hjl:j<m.nodes.length:=by rw [← h5];exact (List.getElem?_eq_some_iff.1 hv'').1
    have l1:=hltX (h6 j m.nodes[j] v'' (List.getElem?_eq_getElem hjl) hv'') g2 ho
    rw [show kv.ownBlock=some g2 from hg2] at e
    simp only [Option.some.injEq] at e;omega
  ·rw [hvo i hio] at hv'
   by_cases hjo:j=o
   ·subst hjo
    rw [hvs] at hv''
    simp only [Option.some.injEq] at hv''
    subst hv''
    rcases hat with e|e
    ·rw [show kv.ownBlock=v.1.ownBlock from e]
     exact h10 i j v' v g2 hv' hv hij hg2
    ·intro ho
     have hil:i<m.nodes.length:=by rw [← h5];exact (List.getElem?_eq_some_iff.1 hv').1
     have l1:=hltX (h6 i m.nodes[i] v' (List.getElem?_eq_getElem hil) hv') g2 hg2
     rw [show kv.ownBlock=some g2 from ho] at e
     simp only [Option.some.injEq] at e;omega
   ·rw [hvo j hjo] at hv''
    exact h10 i j v' v'' g2 hv' hv'' hij hg2
theorem zI.push {X w1:World} {base b:Nat} {m:Ref.zC} {ov ov' nv:Value} {vs:List (Value×Value)} (h:zI X base b m ov nv vs) (hg:X.grownBy w1 ov.ownBlock) (k:Nat)
  (hown:w1.ownsRow base 3 1 ov' (m.opn.length+1) (qf m.opn++[.int .i64 (k:Int)])) (hat:ov'.ownBlock=ov.ownBlock∨ov'.ownBlock=some X.heap.size) :
  zI (w1.setCell ⟨b,1,none⟩ ov') base b { m with opn:=m.opn++[k] } ov' nv vs:=by
 obtain ⟨h1,h2,h3,h4,h5,h6,h7,h8,h9,h10⟩:=h
 have hbo:ov.ownBlock≠some b:=zD h3 h2 (by decide)
 have hblk:w1.heap[b]?=some (.cells (jf m ov nv) 155 (0,0)):=(hg.block b (lt_of_block h2) (fun e=>hbo e.symm)).trans h2
 have keep:∀{e:TypeId} {size n':Nat} {v':Value} {xs:List Value},X.ownsRow base e size v' n' xs→(∀g,ov.ownBlock=some g→v'.ownBlock≠some g)→w1.ownsRow base e size v' n' xs:=by
  intro e size n' v' xs hv' hne
  refine hv'.kept hg ?_
  cases hvb:v'.ownBlock with
  | none=>exact .inl rfl
  | some g2=>exact .inr (fun e2=>hne g2 e2.symm hvb)
 have put:∀{e:TypeId} {size n:Nat} {v:Value} {xs:List Value},w1.ownsRow base e size v n xs→e≠155→(w1.setCell ⟨b,1,none⟩ ov').ownsRow base e size v n xs:=
  fun hv he=>ownsRow_setCell_other hv (zD hv hblk he) _
 refine ⟨h1,?_,?_,put (keep h4 (fun g hg'=>x8 h3 h4 (by decide) hg')) (by decide),h5,?_,?_,?_,h9,h10⟩
 ·rw [heap_setCell_same w1 b 1 _ _ ov' hblk];rfl
 ·simp only [List.length_append,List.length_singleton]
  rw [show qf (m.opn++[k])=qf m.opn++[.int .i64 (k:Int)] by simp [qf]]
  exact put hown (by decide)
 ·intro i n v hi hv
  exact put (keep (h6 i n v hi hv) (fun g hg'=>x8 h3 (h6 i n v hi hv) (by decide) hg')) (by decide)
 ·intro i n v hi hv
  exact put (keep (h7 i n v hi hv) (fun g hg' e=>h8 i v g hv e hg')) (by decide)
 ·intro i v g hv hvg
  rcases hat with e|e
  ·rw [e];exact h8 i v g hv hvg
  ·intro ho
   have hil:i<m.nodes.length:=by rw [← h5];exact (List.getElem?_eq_some_iff.1 hv).1
   have l1:=((h7 i m.nodes[i] v (List.getElem?_eq_getElem hil) hv).lt g hvg).2
   rw [ho] at e
   simp only [Option.some.injEq] at e;omega
theorem zI.pop {w:World} {base b:Nat} {m:Ref.zC} {g cap:Nat} {nv:Value} {vs:List (Value×Value)} (h:zI w base b m (.slice (some ⟨g,0,none⟩) m.opn.length cap) nv vs) (st:Int) :
  zI ((w.setCell ⟨b,1,none⟩ (.slice (some ⟨g,0,none⟩) (m.opn.length-1) cap)).setCell ⟨b,0,none⟩ (.int .i64 st)) base b { m with opn:=m.opn.dropLast,state:=st } (.slice (some ⟨g,0,none⟩) (m.opn.length-1) cap) nv vs:=by
 obtain ⟨h1,h2,h3,h4,h5,h6,h7,h8,h9,h10⟩:=h
 have put:∀{e:TypeId} {size n:Nat} {v:Value} {xs:List Value},w.ownsRow base e size v n xs→e≠155 →
   ((w.setCell ⟨b,1,none⟩ (.slice (some ⟨g,0,none⟩) (m.opn.length-1) cap)).setCell ⟨b,0,none⟩ (.int .i64 st)).ownsRow base e size v n xs:=
  fun hv he=>ownsRow_setCell_other (ownsRow_setCell_other hv (zD hv h2 he) _) (zD hv h2 he) _
 refine ⟨h1,?_,?_,put h4 (by decide),h5,fun i n v hi hv=>put (h6 i n v hi hv) (by decide),fun i n v hi hv=>put (h7 i n v hi hv) (by decide),h8,h9,h10⟩
 ·rw [heap_setCell_same _ b 0 _ _ _ (heap_setCell_same w b 1 _ _ _ h2)];rfl
 ·have hr:w.ownsRow base 3 1 (.slice (some ⟨g,0,none⟩) (m.opn.length-1) cap) (m.opn.length-1) (qf m.opn.dropLast):=by
   refine ⟨by simp [qf],?_⟩
   rcases h3.2 with ⟨e,_⟩|⟨g',cap',cur,e,hg,hh,hc,hm,hs,ht⟩
   ·cases e
   ·simp only [Value.slice.injEq,Option.some.injEq,Addr.mk.injEq,and_true,true_and] at e
    obtain ⟨rfl,rfl⟩:=e
    refine .inr ⟨g,cap,cur,rfl,hg,hh,by omega,hm,hs,?_⟩
    have e2:qf m.opn.dropLast=(qf m.opn).take (m.opn.length-1):=by
     unfold qf;rw [List.dropLast_eq_take,List.map_take]
    rw [e2,← ht,List.take_take]
    congr 1
    omega
  simp only [List.length_dropLast]
  exact put hr (by decide)
theorem zI.cell {w:World} {base b:Nat} {m:Ref.zC} {ov nv:Value} {vs:List (Value×Value)} (h:zI w base b m ov nv vs) (k:Nat):w.cell? ⟨b,k,none⟩=(jf m ov nv)[k]?∧w.frozen? ⟨b,k,none⟩=false:=cells_of_block h.blk k
end Go.Proofs.YtdakgnaojakldaaGreatDoor
