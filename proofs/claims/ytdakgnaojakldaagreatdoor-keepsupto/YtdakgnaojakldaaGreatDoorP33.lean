/- P -/
import Derived.Test.YtdakgnaojakldaaGreatDoorP32
set_option maxRecDepth 100000
set_option maxHeartbeats 4000000
namespace Go.Proofs.YtdakgnaojakldaaGreatDoor
def zlh (c:jg):Prop:=(Ref.zV c.op=true∧c.vals=[])∨(Ref.zV c.op=false∧Ref.zgA c.op c.vals=true∧(Ref.xR c.op=true→∀v ∈ c.vals,Ref.xY v=true))
structure zli (s:xH):Prop where
 who:∀p ∈ s.who.2,Ref.xY p=true
 act:∀p ∈ s.act.2,Ref.xY p=true
 on:∀p ∈ s.on.2,Ref.xY p=true
 ifs:∀c ∈ s.ifs,zlh c
theorem zhr (v:Rd.V) (hs:(Rd.yE v).sh=false) (hp:(Rd.yE v).pt=false):zlh (toS (Rd.yE v)):=by
 match v with
 | .str s=>exact absurd hs (by simp [Rd.yE,Ref.xQ])
 | .word b=>exact absurd hs (by simp [Rd.yE,Ref.xQ])
 | .list l=>exact absurd hs (by simp [Rd.yE,Ref.xQ])
 | .obj ms=>
  obtain ⟨R,hR⟩:∃R,Rd.yE (.obj ms)=R:=⟨_,rfl⟩
  rw [hR] at hs hp ⊢
  simp only [Rd.yE,Rd.zaO] at hR
  cases h1:Rd.opV (Rd.zK ms Ref.bOp) with
  | none=>rw [h1] at hR;subst hR;simp [Ref.xQ] at hs
  | some op=>
   rw [h1] at hR
   cases h2:Rd.opV (Rd.zK ms Ref.x9) with
   | none=>rw [h2] at hR;subst hR;simp [Ref.xQ] at hs
   | some key=>
    rw [h2] at hR
    simp only at hR
    by_cases ca:Ref.zV op=true
    ·rw [if_pos ca] at hR
     subst hR
     exact .inl ⟨ca,rfl⟩
    ·rw [if_neg ca] at hR
     subst hR
     simp only [Bool.or_eq_false_iff,Bool.not_eq_false'] at hs
     refine .inr ⟨Bool.eq_false_iff.2 ca,hs.1.1.2.2,fun hl v hv=>?_⟩
     have hl2:Ref.xR op=true:=hl
     simp only [hl2,Bool.true_and,Bool.not_eq_false'] at hp
     exact List.all_eq_true.1 hp v hv
theorem zhm {c:Bool×Option (List ByteArray)} (h:Rd.chP c=false):∀p ∈ (Rd.chD c).2,Ref.xY p=true:=by
 unfold Rd.chP at h
 rw [Bool.not_eq_false'] at h
 exact fun p hp=>List.all_eq_true.1 h p hp
theorem zfp (x:Option Rd.V) (hs:(Rd.qZ x).sh=false) (hp:(Rd.qZ x).pt=false):∀c ∈ (Rd.qZ x).cs.map toS,zlh c:=by
 intro c hc
 match x with
 | none=>simp [Rd.qZ] at hc
 | some (.str s)=>simp [Rd.qZ] at hs
 | some (.word b)=>simp [Rd.qZ] at hs
 | some (.obj ms)=>simp [Rd.qZ] at hs
 | some (.list vs)=>
  simp only [Rd.qZ] at hs hp hc
  by_cases c5:5<vs.length
  ·rw [if_pos c5] at hs;simp at hs
  ·rw [if_neg c5] at hs hp hc
   simp only [List.any_map,List.any_eq_false,Function.comp] at hs hp
   simp only [List.map_map,List.mem_map,Function.comp] at hc
   obtain ⟨v,hv,rfl⟩:=hc
   exact zhr v (by simpa using hs v hv) (by simpa using hp v hv)
theorem zhc (v:Rd.V) (hs:(Rd.jC v).sh=false) (hp:(Rd.jC v).pt=false):zli (zaq (Rd.jC v)):=by
 match v with
 | .str s=>exact absurd hs (by simp [Rd.jC,Rd.yJ])
 | .word b=>exact absurd hs (by simp [Rd.jC,Rd.yJ])
 | .list l=>exact absurd hs (by simp [Rd.jC,Rd.yJ])
 | .obj ms=>
  simp only [Rd.jC,Rd.zaF] at hs hp ⊢
  split at hs
  ·rename_i eff h1 h2
   rw [h1,h2] at hp
   simp only [Rd.Xo,Bool.or_eq_false_iff] at hs hp
   obtain ⟨⟨⟨p1,p2⟩,p3⟩,p4⟩:=hp
   exact ⟨zhm p1,zhm p2,zhm p3,zfp _ hs.2 p4⟩
  ·simp [Rd.yJ] at hs
theorem zcM (s:ByteArray) (h:(Rd.qU s).1=0):∀r ∈ yV s,zli (zaq r):=by
 unfold Rd.qU at h
 unfold yV
 by_cases h1:4000<s.size
 ·rw [if_pos h1] at h;simp at h
 rw [if_neg h1] at h
 rw [if_neg h1]
 cases hm:Rd.vK s.data.toList with
 | err e q=>intro r hr;simp at hr
 | ok v q=>
  rw [hm] at h
  simp only at h ⊢
  match v with
  | .str t=>simp [Rd.zan] at h
  | .word b=>simp [Rd.zan] at h
  | .list l=>simp [Rd.zan] at h
  | .obj ms=>
   simp only [Rd.zan] at h
   match hx:Rd.zK ms Rd.zN with
   | none=>rw [hx] at h;simp at h
   | some (.str t)=>rw [hx] at h;simp at h
   | some (.word b)=>rw [hx] at h;simp at h
   | some (.obj ms)=>rw [hx] at h;simp at h
   | some (.list vs)=>
    rw [hx] at h
    simp only at h
    have hv:uG (stX (.obj ms))=vs:=by simp [uG,stX,hx]
    rw [hv]
    by_cases c:ms.length≠1∨vs.length<1∨10<vs.length
    ·rw [if_pos c] at h;simp at h
    rw [if_neg c] at h
    intro r hr
    obtain ⟨a,b⟩:=QT _ _ h r hr
    rw [List.mem_map] at hr
    obtain ⟨v,hv,rfl⟩:=hr
    exact zhc v a b
end Go.Proofs.YtdakgnaojakldaaGreatDoor
namespace Go.Proofs.YtdakgnaojakldaaGreatDoor
open Go.RowKit
abbrev StO:=Nat→List zU
def upd (st:StO) (i:Nat) (L:List zU):StO:=fun j=>if j=i then L else st j
def zdX (ss:List xH):Prop:=ss.length≤10∧(∀s ∈ ss,QS s)∧∀s ∈ ss,zli s
def VP (L:List zU):Prop:=xI L∧L.length≤4∧∀x ∈ L,zdX x.2
theorem VP.less {L:List zU} (h:VP L) (p:Nat):VP (Yu L p):=
 ⟨h.1.less p,zgX p h.2.1,fun x hx=>h.2.2 x (by
  unfold Yu at hx
  rcases List.mem_append.1 hx with hx|hx
  ·exact List.mem_of_mem_take hx
  ·exact List.mem_of_mem_drop hx)⟩
theorem VP.with {L:List zU} (h:VP L) {name:ByteArray} {ss:List xH} (ho:(zX L name||decide (L.length<4))=true) (hs:zdX ss):VP (Qy L name ss):=
 ⟨h.1.with name ss,zib h.2.1 ho,fun x hx=>by
  unfold Qy at hx
  rcases List.mem_append.1 hx with hx|hx
  ·rcases List.mem_append.1 hx with hx|hx
   ·exact h.2.2 x (List.mem_of_mem_take hx)
   ·rw [List.mem_singleton] at hx;subst hx;exact hs
  ·exact h.2.2 x (List.mem_of_mem_drop hx)⟩
structure qA (M:Nat→Prop) (W:World) (ob:Nat) (st:StO):Prop where
 mine:M ob
 row:∃vs:Nat→Value,W.heap[ob]?=some (.cells #[vs 0,vs 1,vs 2,vs 3] 101)∧∀i,i<4→qy M W (vs i) (st i)
 good:∀i,i<4→VP (st i)
theorem lt4 {i:Nat} (h:i<4):i=0∨i=1∨i=2∨i=3:=by omega
theorem qA.below {M:Nat→Prop} {W W':World} {ob:Nat} {st:StO} (h:qA M W ob st) (hb:Below W.heap.size W W'):qA M W' ob st:=by
 obtain ⟨vs,h1,h2⟩:=h.row
 exact ⟨h.mine,⟨vs,(hb.block ob (lt_of_block h1)).trans h1,fun i hi=>(h2 i hi).turn (zF.of hb)⟩,h.good⟩
theorem Qa (vs:Nat→Value) {i:Nat} (h:i<4):(#[vs 0,vs 1,vs 2,vs 3]:Array Value)[i]?=some (vs i):=by
 rcases lt4 h with rfl|rfl|rfl|rfl<;>rfl
theorem zj1 (vs:Nat→Value) (v:Value) {i:Nat} (h:i<4):(#[vs 0,vs 1,vs 2,vs 3]:Array Value).setIfInBounds i v=#[if 0=i then v else vs 0,if 1=i then v else vs 1,if 2=i then v else vs 2,if 3=i then v else vs 3]:=by
 rcases lt4 h with rfl|rfl|rfl|rfl<;>rfl
theorem qA.set {M:Nat→Prop} {W:World} {ob:Nat} {st:StO} (h:qA M W ob st) {i:Nat} (hi:i<4) {v:Value} {L:List zU} (hv:qy M W v L) (hg:VP L):qA M (W.setCell ⟨ob,i,none⟩ v) ob (upd st i L):=by
 obtain ⟨vs,h1,h2⟩:=h.row
 have ht:=zF.set (M:=M) W h.mine i v
 refine ⟨h.mine,⟨fun j=>if j=i then v else vs j,?_,fun j hj=>?_⟩,fun j hj=>?_⟩
 ·have:=heap_setCell_same W ob i _ _ v h1
  rw [zj1 vs v hi] at this
  exact this
 ·show qy M _ (if j=i then v else vs j) (if j=i then L else st j)
  by_cases e:j=i
  ·rw [if_pos e,if_pos e];exact hv.turn ht
  ·rw [if_neg e,if_neg e];exact (h2 j hj).turn ht
 ·unfold upd
  by_cases e:j=i
  ·rw [if_pos e];exact hg
  ·rw [if_neg e];exact h.good j hj
def zir:StO:=fun _=>[]
theorem zmD (M:Nat→Prop) (w:World) (hM:M w.heap.size) :
  Calls Tryz.prog 21 #[] w fun e w'=>e = .returned (.pointer (some ⟨w.heap.size,0,none⟩))∧Below w.heap.size w w'∧qA M w' w.heap.size zir:=by
 have hfin:qA M (w.alloc (.cells #[.slice none 0 0, .slice none 0 0, .slice none 0 0, .slice none 0 0] 101)) w.heap.size zir:=
  ⟨hM,⟨fun _ => .slice none 0 0,heap_alloc_new w _,fun i _=>JK M _⟩,fun i _=>⟨List.Pairwise.nil,by simp [zir],fun x hx=>by simp [zir] at hx⟩⟩
 have HF:=hid hfin
 clear hfin
 go_enter Tryz.func21,Tryz.ntmps21
 go_wp2
 go_ret
 exact ⟨rfl,(Below.refl _ w).alloc (Nat.le_refl _) _,HF.out⟩
def UY (st:StO) (l:Int) (name:ByteArray):Int:=if ql l name=0 then (if zX (st l.toNat) name then 0 else 9) else ql l name
def zac (st:StO) (l:Int) (name:ByteArray):StO:=if ql l name=0∧zX (st l.toNat) name=true then upd st l.toNat (Yu (st l.toNat) (uP (st l.toNat) name)) else st
theorem uT {l:Int} {name:ByteArray} (h:ql l name=0):∃i:Nat,l=(i:Int)∧i<4∧Ref.zY name=true:=by
 unfold ql at h
 cases h1:qJ l with
 | false=>rw [h1] at h;simp at h
 | true=>
  rw [h1] at h
  cases h2:Ref.zY name with
  | false=>rw [h2] at h;simp at h
  | true=>
   unfold qJ at h1
   rw [Bool.and_eq_true,decide_eq_true_eq,decide_eq_true_eq] at h1
   exact ⟨l.toNat,by omega,by omega,rfl⟩
theorem zl9 (ob:Nat) (st:StO) (l:Int) (name:ByteArray) (M:Nat→Prop) (w:World) (h:qA M w ob st) (hM:∀b,M b→b<w.heap.size) (hs:name.size≤maxLen) :
  Calls Tryz.prog 29 #[.pointer (some ⟨ob,0,none⟩), .int .i64 l, .string name] w fun e w'=>e = .returned (.int .i64 (UY st l name))∧zF (fun b=>b=ob) w w'∧qA M w' ob (zac st l name):=by
 have cp:=ZY l name w hs
 by_cases hpl:ql l name=0
 ·obtain ⟨i,rfl,hi,hnm⟩:=uT hpl
  have hA:UY st (i:Int) name=if zX (st i) name then 0 else 9:=by unfold UY;rw [if_pos hpl];rfl
  have hS:zac st (i:Int) name=if zX (st i) name=true then upd st i (Yu (st i) (uP (st i) name)) else st:=by
   unfold zac
   simp only [Int.toNat_natCast,hpl,true_and]
  rw [hA,hS]
  rw [hpl] at cp
  have CP:=hid cp
  have HO:=hid h
  have HM:=hid hM
  have hob:ob<w.heap.size:=hM ob h.mine
  have cw:∀(W:World) (v:Value),qA M W ob st→Below w.heap.size w W→qy M W v (st i)→Calls Tryz.prog 48 #[v, .string name] W fun e w'=>∃v,e = .returned (.tuple #[v, .bool (zX (st i) name)])∧Below W.heap.size W w'∧(zX (st i) name=true→qy M w' v (Yu (st i) (uP (st i) name))):=fun W v hO hb hl=>
   ziL (st i) v name M W hl (by have:=(hO.good i hi).2.1;omega) ((hO.good i hi).1.down name) (fun b hb'=>Nat.lt_of_lt_of_le (hM b hb') hb.size)
  have hg:=(h.good i hi)
  have hg2:=hg.less (uP (st i) name)
  obtain ⟨b,hb⟩:∃b,zX (st i) name=b:=⟨_,rfl⟩
  obtain ⟨LN,hLN⟩:∃x,Yu (st i) (uP (st i) name)=x:=⟨_,rfl⟩
  simp only [hb,hLN] at cw
  simp only [hb,hLN]
  rw [hLN] at hg2
  clear hA hS
  have HW:=hid cw
  have HG:=hid hg2
  have k0:(0:Int)≤(i:Int):=Int.natCast_nonneg _
  have k1:(i:Int)<4:=by omega
  clear cp cw hg hg2 hpl hb hLN hM hnm
  cases b with
  | false=>
   simp only [Bool.false_eq_true,if_false]
   go_enter Tryz.func29,Tryz.ntmps29
   go_upto_region 4 with (go_at_call 42;refine CP.out.mono ?_;rintro e w1 ⟨rfl,b1⟩;have HB1:=hid b1;clear b1)
   obtain ⟨vs,hrow,hlay⟩:=(HO.out.below HB1.out).row
   have c0:w1.cell? ⟨ob,i,none⟩=some (vs i):=(cells_of_block hrow i).1.trans (Qa vs hi)
   obtain ⟨la,ln,lc,hv⟩:∃a n c,vs i = .slice a n c:=by obtain ⟨a,c,e,_⟩:=hlay i hi;exact ⟨a,_,c,e⟩
   have hli:=hlay i hi
   rw [hv] at c0 hli
   have HC:=hid (HW.out w1 _ (HO.out.below HB1.out) HB1.out hli)
   clear hrow hlay hv hli HW
   go_wp2_with (go_at_call 48;refine HC.out.mono ?_;rintro e w2 ⟨v,rfl,b2,_⟩;have HB2:=hid (HB1.out.trans (b2.mono HB1.out.size));clear b2)
   go_ret
   exact ⟨rfl,zF.of HB2.out,HO.out.below HB2.out⟩
  | true=>
   simp only [if_true]
   go_enter Tryz.func29,Tryz.ntmps29
   go_upto_region 4 with (go_at_call 42;refine CP.out.mono ?_;rintro e w1 ⟨rfl,b1⟩;have HB1:=hid b1;clear b1)
   obtain ⟨vs,hrow,hlay⟩:=(HO.out.below HB1.out).row
   have c0:w1.cell? ⟨ob,i,none⟩=some (vs i):=(cells_of_block hrow i).1.trans (Qa vs hi)
   obtain ⟨la,ln,lc,hv⟩:∃a n c,vs i = .slice a n c:=by obtain ⟨a,c,e,_⟩:=hlay i hi;exact ⟨a,_,c,e⟩
   have hli:=hlay i hi
   have HRW:=hid hrow
   rw [hv] at c0 hli
   have HC:=hid (HW.out w1 _ (HO.out.below HB1.out) HB1.out hli)
   have f1:=(cells_of_block hrow i).2
   clear hrow hlay hli HW
   go_upto_region 7 with (go_at_call 48;refine HC.out.mono ?_;rintro e w2 ⟨v,rfl,b2,hl2⟩;have HL:=hid (hl2 (by trivial));have HB12:=hid b2;have HB2:=hid (HB1.out.trans (b2.mono HB1.out.size));clear b2 hl2)
   have hrow2:=(HB12.out.block ob (by have:=HB1.out.size;omega)).trans HRW.out
   have d0:w2.cell? ⟨ob,i,none⟩=some (vs i):=(cells_of_block hrow2 i).1.trans (Qa vs hi)
   have f2:=(cells_of_block hrow2 i).2
   obtain ⟨va,vn,vc,hvv⟩:∃a n c,v = .slice a n c:=by obtain ⟨a,c,e,_⟩:=HL.out;exact ⟨a,_,c,e⟩
   subst hvv
   have HF:=hid ((HO.out.below HB2.out).set hi HL.out HG.out)
   have HT:=hid ((zF.of (M:=fun b=>b=ob) HB2.out).trans (zF.set (M:=fun b=>b=ob) w2 rfl i (.slice va vn vc)))
   rw [hv] at d0
   clear hrow2 hv c0 f1
   go_wp2_with fail
   go_ret
   exact ⟨rfl,HT.out,HF.out⟩
 ·unfold UY zac
  rw [if_neg hpl,if_neg (fun e=>hpl e.1)]
  obtain ⟨E,hE⟩:∃x,ql l name=x:=⟨_,rfl⟩
  rw [hE] at cp hpl ⊢
  have CP:=hid cp
  have HO:=hid h
  have d:(E==0)=false:=by simpa using hpl
  have d2:(E != 0)=true:=by simpa using hpl
  clear cp hE h hM
  go_enter Tryz.func29,Tryz.ntmps29
  go_wp2_with (go_at_call 42;refine CP.out.mono ?_;rintro e w1 ⟨rfl,b1⟩;have HB1:=hid b1;clear b1)
  go_ret
  exact ⟨rfl,zF.of HB1.out,HO.out.below HB1.out⟩
def Xi (l:Int):Int:=if qJ l then 0 else 7
def YT (st:StO) (l:Int):List ByteArray:=if qJ l then (st l.toNat).map Prod.fst else []
theorem zkT (ob:Nat) (st:StO) (l:Int) (M:Nat→Prop) (w:World) (h:qA M w ob st) :
  Calls Tryz.prog 22 #[.pointer (some ⟨ob,0,none⟩), .int .i64 l] w fun e w'=>∃lv,e = .returned (.tuple #[lv, .int .i64 (Xi l)])∧zh w' w.heap.size lv (YT st l)∧Below w.heap.size w w':=by
 have c1:=zau l w
 unfold Xi YT
 cases hl:qJ l with
 | false=>
  rw [hl] at c1
  have C1:=hid c1
  simp only [Bool.false_eq_true,if_false]
  clear c1 h hl
  go_enter Tryz.func22,Tryz.ntmps22
  go_wp2_with (go_at_call 40;refine C1.out.mono ?_;rintro e w1 ⟨rfl,e1⟩;rw [e1];clear e1)
  go_ret2
  exact ⟨_,rfl,⟨rfl, .inl ⟨rfl,rfl⟩⟩,Below.refl _ _⟩
 | true=>
  rw [hl] at c1
  have C1:=hid c1
  simp only [if_true]
  unfold qJ at hl
  rw [Bool.and_eq_true,decide_eq_true_eq,decide_eq_true_eq] at hl
  obtain ⟨i,rfl⟩:∃i:Nat,l=(i:Int):=⟨l.toNat,by omega⟩
  have hi:i<4:=by omega
  obtain ⟨vs,hrow,hlay⟩:=h.row
  have c0:w.cell? ⟨ob,i,none⟩=some (vs i):=(cells_of_block hrow i).1.trans (Qa vs hi)
  have cn:=zbh (st i) (vs i) M w (hlay i hi) (by have:=(h.good i hi).2.1;omega)
  obtain ⟨la,ln,lc,hv⟩:∃a n c,vs i = .slice a n c:=by obtain ⟨a,c,e,_⟩:=hlay i hi;exact ⟨a,_,c,e⟩
  rw [hv] at c0 cn
  unfold QO at cn
  have e2:((i:Int)).toNat=i:=Int.toNat_natCast i
  rw [e2]
  have CN:=hid cn
  have k0:(0:Int)≤(i:Int):=Int.natCast_nonneg _
  have k1:(i:Int)<4:=by omega
  clear c1 h hl hrow hlay cn hv e2
  go_enter Tryz.func22,Tryz.ntmps22
  go_wp2_with (first
   | (go_at_call 41;refine CN.out.mono ?_;rintro e w2 ⟨lv,rfl,ho,hb⟩;have HO:=hid ho;have HB:=hid hb;clear ho hb)
   | (go_at_call 40;refine C1.out.mono ?_;rintro e w1 ⟨rfl,e1⟩;rw [e1];clear e1))
  go_ret2
  exact ⟨lv,rfl,HO.out,HB.out⟩
def zaa (st:StO) (l:Int) (name:ByteArray):Int:=if ql l name=0 then (if zX (st l.toNat) name then 0 else 9) else ql l name
def zdD (st:StO) (l:Int) (name:ByteArray):List xH:=match (st l.toNat)[uP (st l.toNat) name]? with
 | some x=>x.2
 | none=>[]
def Kr (st:StO) (l:Int) (name:ByteArray):ByteArray:=if ql l name=0∧zX (st l.toNat) name=true then zjY (zdD st l name) else ⟨#[]⟩
theorem zmi (ob:Nat) (st:StO) (l:Int) (name:ByteArray) (M:Nat→Prop) (w:World) (h:qA M w ob st) (hs:name.size≤maxLen) :
  Calls Tryz.prog 23 #[.pointer (some ⟨ob,0,none⟩), .int .i64 l, .string name] w fun e w'=>e = .returned (.tuple #[.string (Kr st l name), .int .i64 (zaa st l name)])∧Below w.heap.size w w':=by
 have cp:=ZY l name w hs
 by_cases hpl:ql l name=0
 ·obtain ⟨i,rfl,hi,hnm⟩:=uT hpl
  have hE:zaa st (i:Int) name=if zX (st i) name then 0 else 9:=by unfold zaa;rw [if_pos hpl];rfl
  have hA:Kr st (i:Int) name=if zX (st i) name=true then zjY (zdD st (i:Int) name) else ⟨#[]⟩:=by
   unfold Kr
   simp only [Int.toNat_natCast,hpl,true_and]
  rw [hE,hA]
  rw [hpl] at cp
  have CP:=hid cp
  have HO:=hid h
  have hdoc:∀x,(st i)[uP (st i) name]?=some x→zdD st (i:Int) name=x.2:=fun x hx=>by unfold zdD;simp only [Int.toNat_natCast];rw [hx]
  have hsm:∀x,(st i)[uP (st i) name]?=some x→zdX x.2:=fun x hx=>(h.good i hi).2.2 x (List.mem_of_getElem? hx)
  have cg:∀(W:World) (v:Value),Below w.heap.size w W→qy M W v (st i)→Calls Tryz.prog 43 #[v, .string name] W fun e w'=>∃da dn dc,e = .returned (.tuple #[.agg #[.slice da dn dc], .bool (zX (st i) name)])∧Below W.heap.size W w'∧(zX (st i) name=true→∃x,(st i)[uP (st i) name]?=some x∧uj M w' (.slice da dn dc) x.2):=fun W v hb hl=>
   zgj (st i) v name M W hl (by have:=(h.good i hi).2.1;omega) ((h.good i hi).1.down name)
  obtain ⟨b,hb⟩:∃b,zX (st i) name=b:=⟨_,rfl⟩
  simp only [hb] at cg
  simp only [hb]
  have HG:=hid cg
  have HD:=hid hdoc
  have HS:=hid hsm
  have k0:(0:Int)≤(i:Int):=Int.natCast_nonneg _
  have k1:(i:Int)<4:=by omega
  clear cp cg hdoc hsm hpl hb hnm hA hE
  cases b with
  | false=>
   simp only [Bool.false_eq_true,if_false]
   go_enter Tryz.func23,Tryz.ntmps23
   go_upto_region 4 with (go_at_call 42;refine CP.out.mono ?_;rintro e w1 ⟨rfl,b1⟩;have HB1:=hid b1;clear b1)
   obtain ⟨vs,hrow,hlay⟩:=(HO.out.below HB1.out).row
   have c0:w1.cell? ⟨ob,i,none⟩=some (vs i):=(cells_of_block hrow i).1.trans (Qa vs hi)
   obtain ⟨la,ln,lc,hv⟩:∃a n c,vs i = .slice a n c:=by obtain ⟨a,c,e,_⟩:=hlay i hi;exact ⟨a,_,c,e⟩
   have hli:=hlay i hi
   rw [hv] at c0 hli
   have HC:=hid (HG.out w1 _ HB1.out hli)
   clear hrow hlay hv hli HG
   go_wp2_with (go_at_call 43;refine HC.out.mono ?_;rintro e w2 ⟨da,dn,dc,rfl,b2,_⟩;have HB2:=hid (HB1.out.trans (b2.mono HB1.out.size));clear b2)
   go_ret2
   exact ⟨rfl,HB2.out.alloc HB2.out.size _⟩
  | true=>
   simp only [if_true]
   go_enter Tryz.func23,Tryz.ntmps23
   go_upto_region 4 with (go_at_call 42;refine CP.out.mono ?_;rintro e w1 ⟨rfl,b1⟩;have HB1:=hid b1;clear b1)
   obtain ⟨vs,hrow,hlay⟩:=(HO.out.below HB1.out).row
   have c0:w1.cell? ⟨ob,i,none⟩=some (vs i):=(cells_of_block hrow i).1.trans (Qa vs hi)
   obtain ⟨la,ln,lc,hv⟩:∃a n c,vs i = .slice a n c:=by obtain ⟨a,c,e,_⟩:=hlay i hi;exact ⟨a,_,c,e⟩
   have hli:=hlay i hi
   rw [hv] at c0 hli
   have HC:=hid (HG.out w1 _ HB1.out hli)
   clear hrow hlay hv hli HG
   go_upto_region 7 with (go_at_call 43;refine HC.out.mono ?_;rintro e w2 ⟨da,dn,dc,rfl,b2,hg2⟩;have HG2:=hid (hg2 (by trivial));have HB2:=hid (HB1.out.trans (b2.mono HB1.out.size));clear b2 hg2)
   obtain ⟨x,hx,hdx⟩:=HG2.out
   have bA:Below w2.heap.size w2 (w2.alloc (.cells #[.slice da dn dc] 72)):=(Below.refl _ w2).alloc (Nat.le_refl _) _
   obtain ⟨base,hat⟩:=(hdx.turn (zF.of bA)).at
   have hsd:=HS.out x hx
   have cpl:=zeT x.2 _ base _ hat hsd.1 hsd.2.1
   rw [← HD.out x hx] at cpl
   have CPL:=hid cpl
   have HBA:=hid (HB2.out.trans (bA.mono HB2.out.size))
   clear cpl hat hsd hdx hx bA HG2 HC
   go_wp2_with (go_at_call 35;refine CPL.out.mono ?_;rintro e w5 ⟨rfl,b5⟩;have HB5:=hid (HBA.out.trans (b5.mono HBA.out.size));clear b5)
   go_ret2
   exact ⟨rfl,HB5.out⟩
 ·unfold zaa Kr
  rw [if_neg hpl,if_neg (fun e=>hpl e.1)]
  obtain ⟨E,hE⟩:∃x,ql l name=x:=⟨_,rfl⟩
  rw [hE] at cp hpl ⊢
  have CP:=hid cp
  have d:(E==0)=false:=by simpa using hpl
  have d2:(E != 0)=true:=by simpa using hpl
  clear cp hE h
  go_enter Tryz.func23,Tryz.ntmps23
  go_wp2_with (go_at_call 42;refine CP.out.mono ?_;rintro e w1 ⟨rfl,b1⟩;have HB1:=hid b1;clear b1)
  go_ret2
  exact ⟨rfl,HB1.out⟩
def UU (st:StO) (l:Int) (name text:ByteArray):Bool:=decide (ql l name=0)&&decide ((Rd.qU text).1=0)&&(zX (st l.toNat) name||decide ((st l.toNat).length<4))
def zde (st:StO) (l:Int) (name text:ByteArray):Int×Nat:=if ql l name=0 then (if (Rd.qU text).1=0 then (if zX (st l.toNat) name||decide ((st l.toNat).length<4) then (0,0) else (10,0)) else Rd.qU text) else (ql l name,0)
def zd1 (st:StO) (l:Int) (name text:ByteArray):StO:=if UU st l name text then upd st l.toNat (Qy (st l.toNat) name (zcW text)) else st
theorem zia (s:ByteArray) (h0:(Rd.qU s).1=0):zdX (zcW s):=by
 obtain ⟨h1,h2,h3⟩:=Uu s h0
 have ht:zcW s=(yV s).map zaq:=h3
 rw [ht]
 refine ⟨by rw [List.length_map];exact h2,fun x hx=>?_,fun x hx=>?_⟩
 ·rw [List.mem_map] at hx
  obtain ⟨r,hr,rfl⟩:=hx
  exact zkf (h1 r hr).2
 ·rw [List.mem_map] at hx
  obtain ⟨r,hr,rfl⟩:=hx
  exact zcM s h0 r hr
theorem zmT (ob:Nat) (st:StO) (l:Int) (name text:ByteArray) (M:Nat→Prop) (aL:Addr) (w:World) (hC:ziV w aL) (h:qA M w ob st) (hM:∀b,M b→b<w.heap.size) (hs:name.size≤maxLen) :
  Calls Tryz.prog 24 #[.pointer (some ⟨ob,0,none⟩), .int .i64 l, .string name, .string text] w fun e w'=>e = .returned (.tuple #[.int .i64 (zde st l name text).1, .int .i64 ((zde st l name text).2:Int)])∧zF (fun b=>b=ob) w w'∧qA M w' ob (zd1 st l name text):=by
 have cp:=ZY l name w hs
 by_cases hpl:ql l name=0
 ·obtain ⟨i,rfl,hi,hnm⟩:=uT hpl
  rw [hpl] at cp
  have CP:=hid cp
  have HO:=hid h
  have HC0:=hid hC
  have hob:ob<w.heap.size:=hM ob h.mine
  have cr:=fun W (hb:Below w.heap.size w W)=>ziy text W _ _ _ rfl (hC.below hb).q
  have hsmall:=zia text
  have k0:(0:Int)≤(i:Int):=Int.natCast_nonneg _
  have k1:(i:Int)<4:=by omega
  by_cases hd:(Rd.qU text).1=0
  ·have hA:zde st (i:Int) name text=if (zX (st i) name||decide ((st i).length<4))=true then (0,0) else (10,0):=by
    unfold zde
    rw [if_pos hpl,if_pos hd]
    rfl
   have hS:zd1 st (i:Int) name text=if (zX (st i) name||decide ((st i).length<4))=true then upd st i (Qy (st i) name (zcW text)) else st:=by
    unfold zd1 UU
    rw [decide_eq_true hpl,decide_eq_true hd]
    simp only [Int.toNat_natCast,Bool.true_and]
   rw [hA,hS]
   have hn12:name.size≤281474976710656:=by
    by_cases e:1≤name.size∧name.size≤12
    ·omega
    ·rw [Ref.ug name e] at hnm;cases hnm
   have cw:∀(W:World) (v:Value) (la:Option Addr) (n lc:Nat),Below w.heap.size w W→qy M W v (st i)→uj M W (.slice la n lc) (zcW text)→Calls Tryz.prog 44 #[v, .string name, .agg #[.slice la n lc]] W fun e w'=>∃v,e = .returned (.tuple #[v, .bool (zX (st i) name||decide ((st i).length<4))])∧Below W.heap.size W w'∧((zX (st i) name||decide ((st i).length<4))=true→qy M w' v (Qy (st i) name (zcW text))):=fun W v la n lc hb hl hdd=>
    zl8 (st i) v name la n lc (zcW text) M W hl (by have:=(h.good i hi).2.1;omega) ((h.good i hi).1.down name) (fun b hb'=>Nat.lt_of_lt_of_le (hM b hb') hb.size) hdd hn12
   have hgd:(zX (st i) name||decide ((st i).length<4))=true→VP (Qy (st i) name (zcW text)):=fun ho=>(h.good i hi).with ho (hsmall hd)
   obtain ⟨b,hb⟩:∃b,(zX (st i) name||decide ((st i).length<4))=b:=⟨_,rfl⟩
   simp only [hb] at cw hgd
   simp only [hb]
   obtain ⟨⟨c,q⟩,hcq⟩:∃x,Rd.qU text=x:=⟨_,rfl⟩
   rw [hcq] at hd
   simp only [hcq] at cr
   unfold QR at cr
   simp only at hd cr
   subst hd
   have CR:=hid cr
   have HW:=hid cw
   have HGD:=hid hgd
   have HM:=hid hM
   clear cp cr cw hgd hA hS hb hcq hsmall h hC hM hpl hnm
   cases b with
   | false=>
    simp only [Bool.false_eq_true,if_false]
    go_enter Tryz.func24,Tryz.ntmps24
    go_upto_region 4 with (go_at_call 42;refine CP.out.mono ?_;rintro e w1 ⟨rfl,b1⟩;have HB1:=hid b1;clear b1)
    have HR:=hid (CR.out w1 HB1.out)
    clear CR
    go_upto_region 5 with (go_at_call 32;refine HR.out.mono ?_;rintro e w2 ⟨la,n,lc,u,rfl,hev,b2,hst⟩;have HST:=hid (hst (by trivial));have HEV:=hid hev;have HB2:=hid (HB1.out.trans (b2.mono HB1.out.size));clear b2 hev hst)
    obtain rfl:u = .nilIface:=by
     rcases UL rfl HEV.out with ⟨_,e⟩|⟨e,_⟩
     ·exact e
     ·exact absurd rfl e
    obtain ⟨W3,hW3⟩:∃W,w2.alloc (.cells #[.slice la n lc] 72)=W:=⟨_,rfl⟩
    have HB3:Hid (Below w.heap.size w W3):=hid (by rw [← hW3];exact HB2.out.alloc HB2.out.size _)
    have b23:Below w2.heap.size w2 W3:=by rw [← hW3];exact (Below.refl _ w2).alloc (Nat.le_refl _) _
    have e0:W3.cell? ⟨w2.heap.size,0,none⟩=some (.slice la n lc):=by rw [← hW3];exact (cells_of_block (heap_alloc_new w2 _) 0).1
    have hdoc:uj M W3 (.slice la n lc) (zcW text):=uj.of (HST.out.below b23) (fun b hb=>Nat.lt_of_lt_of_le (HM.out b hb) HB1.out.size)
    obtain ⟨vs,hrow,hlay⟩:=(HO.out.below HB3.out).row
    have c0:W3.cell? ⟨ob,i,none⟩=some (vs i):=(cells_of_block hrow i).1.trans (Qa vs hi)
    obtain ⟨xa,xn,xc,hv⟩:∃a n c,vs i = .slice a n c:=by obtain ⟨a,c,e,_⟩:=hlay i hi;exact ⟨a,_,c,e⟩
    have bD:Below W3.heap.size W3 W3.drew:=(Below.refl _ W3).drew
    have HWI:=hid (HW.out W3.drew (vs i) la n lc (HB3.out.trans (bD.mono HB3.out.size)) ((hlay i hi).turn (zF.of bD)) (hdoc.turn (zF.of bD)))
    have HRW:=hid hrow
    rw [hv] at c0 HWI
    rw [hW3]
    clear hrow hlay hdoc HW HST HR bD b23 hW3
    go_upto_region 7 with fail
    go_region_held3 (fun w'=>w'.cell? ⟨ob,i,none⟩=some (.slice xa xn xc)∧w'.cell? ⟨w2.heap.size,0,none⟩=some (.slice la n lc)) (go_keep) (first|((go_at_call 44);refine HWI.out.mono ?_;rintro e w5 ⟨v,rfl,b5,hl5⟩;have HL5:=hid hl5;have g0:=cell_later b5 c0;have g1:=cell_later b5 e0;have HB35:Hid (Below W3.heap.size W3 w5):=(((Below.refl _ W3).drew).trans b5);have HB5:=hid (HB3.out.trans (HB35.out.mono HB3.out.size));clear b5 hl5))
    go_wp2_with fail
    go_ret2
    exact ⟨rfl,zF.of HB5.out,HO.out.below HB5.out⟩
   | true=>
    simp only [if_true]
    go_enter Tryz.func24,Tryz.ntmps24
    go_upto_region 4 with (go_at_call 42;refine CP.out.mono ?_;rintro e w1 ⟨rfl,b1⟩;have HB1:=hid b1;clear b1)
    have HR:=hid (CR.out w1 HB1.out)
    clear CR
    go_upto_region 5 with (go_at_call 32;refine HR.out.mono ?_;rintro e w2 ⟨la,n,lc,u,rfl,hev,b2,hst⟩;have HST:=hid (hst (by trivial));have HEV:=hid hev;have HB2:=hid (HB1.out.trans (b2.mono HB1.out.size));clear b2 hev hst)
    obtain rfl:u = .nilIface:=by
     rcases UL rfl HEV.out with ⟨_,e⟩|⟨e,_⟩
     ·exact e
     ·exact absurd rfl e
    obtain ⟨W3,hW3⟩:∃W,w2.alloc (.cells #[.slice la n lc] 72)=W:=⟨_,rfl⟩
    have HB3:Hid (Below w.heap.size w W3):=hid (by rw [← hW3];exact HB2.out.alloc HB2.out.size _)
    have b23:Below w2.heap.size w2 W3:=by rw [← hW3];exact (Below.refl _ w2).alloc (Nat.le_refl _) _
    have e0:W3.cell? ⟨w2.heap.size,0,none⟩=some (.slice la n lc):=by rw [← hW3];exact (cells_of_block (heap_alloc_new w2 _) 0).1
    have hdoc:uj M W3 (.slice la n lc) (zcW text):=uj.of (HST.out.below b23) (fun b hb=>Nat.lt_of_lt_of_le (HM.out b hb) HB1.out.size)
    obtain ⟨vs,hrow,hlay⟩:=(HO.out.below HB3.out).row
    have c0:W3.cell? ⟨ob,i,none⟩=some (vs i):=(cells_of_block hrow i).1.trans (Qa vs hi)
    obtain ⟨xa,xn,xc,hv⟩:∃a n c,vs i = .slice a n c:=by obtain ⟨a,c,e,_⟩:=hlay i hi;exact ⟨a,_,c,e⟩
    have bD:Below W3.heap.size W3 W3.drew:=(Below.refl _ W3).drew
    have HWI:=hid (HW.out W3.drew (vs i) la n lc (HB3.out.trans (bD.mono HB3.out.size)) ((hlay i hi).turn (zF.of bD)) (hdoc.turn (zF.of bD)))
    have HRW:=hid hrow
    rw [hv] at c0 HWI
    rw [hW3]
    clear hrow hlay hdoc HW HST HR bD b23 hW3
    go_upto_region 7 with fail
    go_region_held3 (fun w'=>w'.cell? ⟨ob,i,none⟩=some (.slice xa xn xc)∧w'.cell? ⟨w2.heap.size,0,none⟩=some (.slice la n lc)) (go_keep) (first|((go_at_call 44);refine HWI.out.mono ?_;rintro e w5 ⟨v,rfl,b5,hl5⟩;have HL5:=hid hl5;have g0:=cell_later b5 c0;have g1:=cell_later b5 e0;have HB35:Hid (Below W3.heap.size W3 w5):=(((Below.refl _ W3).drew).trans b5);have HB5:=hid (HB3.out.trans (HB35.out.mono HB3.out.size));clear b5 hl5))
    have HL:=hid (HL5.out (by trivial))
    have hrow2:=(HB35.out.block ob (by have:=HB3.out.size;omega)).trans HRW.out
    have f2:=(cells_of_block hrow2 i).2
    obtain ⟨va,vn,vc,hvv⟩:∃a n c,v = .slice a n c:=by obtain ⟨a,c,e,_⟩:=HL.out;exact ⟨a,_,c,e⟩
    subst hvv
    have HF:=hid ((HO.out.below HB5.out).set hi HL.out (HGD.out (by trivial)))
    have HT:=hid ((zF.of (M:=fun b=>b=ob) HB5.out).trans (zF.set (M:=fun b=>b=ob) w5 rfl i (.slice va vn vc)))
    clear hrow2 HL5 HL
    go_wp2_with fail
    go_ret2
    exact ⟨rfl,HT.out,HF.out⟩
  ·have hA:zde st (i:Int) name text=Rd.qU text:=by
    unfold zde
    rw [if_pos hpl,if_neg hd]
   have hS:zd1 st (i:Int) name text=st:=by
    unfold zd1 UU
    rw [decide_eq_false hd]
    simp
   rw [hA,hS]
   obtain ⟨⟨c,q⟩,hcq⟩:∃x,Rd.qU text=x:=⟨_,rfl⟩
   rw [hcq] at hd ⊢
   simp only [hcq] at cr
   unfold QR at cr
   simp only at hd cr ⊢
   have ce:=fun W u (hb:Below w.heap.size w W) h=>zlf c q u aL W (hC.below hb).q.p.d.err (hC.below hb).q.long h
   have CR:=hid cr
   have CE:=hid ce
   clear cp cr ce hA hS hcq hsmall h hC hM hpl hnm
   go_enter Tryz.func24,Tryz.ntmps24
   go_upto_region 4 with (go_at_call 42;refine CP.out.mono ?_;rintro e w1 ⟨rfl,b1⟩;have HB1:=hid b1;clear b1)
   have HR:=hid (CR.out w1 HB1.out)
   clear CR
   go_upto_region 5 with (go_at_call 32;refine HR.out.mono ?_;rintro e w2 ⟨la,n,lc,u,rfl,hev,b2,_⟩;have HEV:=hid hev;have HB2:=hid (HB1.out.trans (b2.mono HB1.out.size));clear b2 hev)
   obtain ⟨T,y,rfl⟩:∃T y,u = .iface T y:=by
    rcases UL rfl HEV.out with ⟨e,_⟩|⟨_,T,y,e⟩
    ·exact absurd e hd
    ·exact ⟨T,y,e⟩
   have HBA:=hid (HB2.out.alloc HB2.out.size (.cells #[.slice la n lc] 72))
   have HCE:=hid (CE.out _ _ HBA.out HEV.out)
   clear CE HR
   go_wp2_with (go_at_call 33;refine HCE.out.mono ?_;rintro e w5 ⟨rfl,b5⟩;have HB5:=hid (HBA.out.trans (b5.mono HBA.out.size));clear b5)
   go_ret2
   exact ⟨rfl,zF.of HB5.out,HO.out.below HB5.out⟩
 ·unfold zde
  have hS:zd1 st l name text=st:=by
   unfold zd1 UU
   rw [decide_eq_false hpl]
   simp
  rw [if_neg hpl,hS]
  obtain ⟨E,hE⟩:∃x,ql l name=x:=⟨_,rfl⟩
  rw [hE] at cp hpl ⊢
  have CP:=hid cp
  have HO:=hid h
  have d:(E==0)=false:=by simpa using hpl
  have d2:(E != 0)=true:=by simpa using hpl
  clear cp hE h hM hC hS
  go_enter Tryz.func24,Tryz.ntmps24
  go_wp2_with (go_at_call 42;refine CP.out.mono ?_;rintro e w1 ⟨rfl,b1⟩;have HB1:=hid b1;clear b1)
  go_ret2
  exact ⟨rfl,zF.of HB1.out,HO.out.below HB1.out⟩
end Go.Proofs.YtdakgnaojakldaaGreatDoor
