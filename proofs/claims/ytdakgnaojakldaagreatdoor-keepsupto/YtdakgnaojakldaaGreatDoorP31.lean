/- P -/
import Derived.Test.YtdakgnaojakldaaGreatDoorP30
import Derived.Deep.CutRange
import Derived.Laws.AppendOwnNone
set_option maxRecDepth 100000
set_option maxHeartbeats 4000000
namespace Go.Proofs.YtdakgnaojakldaaGreatDoor
open Go.RowKit
structure zF (M:Nat→Prop) (w w':World):Prop where
 os:w'.os=w.os
 tape:w'.tape=w.tape
 output:w'.output=w.output
 size:w.heap.size≤w'.heap.size
 block:∀k,k<w.heap.size→¬M k→w'.heap[k]?=w.heap[k]?
theorem zF.refl (M:Nat→Prop) (w:World):zF M w w:=⟨rfl,rfl,rfl,Nat.le_refl _,fun _ _ _=>rfl⟩
theorem zF.of {M:Nat→Prop} {w w':World} (h:Below w.heap.size w w'):zF M w w':=⟨h.os,h.tape,h.output,h.size,fun k hk _=>h.block k hk⟩
theorem zF.trans {M:Nat→Prop} {a b c:World} (h:zF M a b) (k:zF M b c):zF M a c:=
 ⟨k.os.trans h.os,k.tape.trans h.tape,k.output.trans h.output,Nat.le_trans h.size k.size,fun x hx hm=>(k.block x (Nat.lt_of_lt_of_le hx h.size) hm).trans (h.block x hx hm)⟩
theorem zF.wide {M M':Nat→Prop} {a b:World} (h:zF M a b) (hM:∀k,k<a.heap.size→M k→M' k):zF M' a b:=
 ⟨h.os,h.tape,h.output,h.size,fun k hk hm=>h.block k hk (fun hk'=>hm (hM k hk hk'))⟩
theorem zF.below {M:Nat→Prop} {B:Nat} {a b:World} (h:zF M a b) (hM:∀k,k<B→¬M k) (hB:B≤a.heap.size):Below B a b:=
 ⟨h.os,h.tape,h.output,h.size,fun k hk=>h.block k (Nat.lt_of_lt_of_le hk hB) (hM k hk)⟩
theorem zF.set {M:Nat→Prop} (w:World) {b:Nat} (hb:M b) (o:Nat) (u:Value):zF M w (w.setCell ⟨b,o,none⟩ u):=by
 exact ⟨rfl,rfl,rfl,by simp [World.setCell],fun k _ hm=>Below.heap_setCell _ _ _ _ (fun e=>hm (by simp only at e;rw [e];exact hb))⟩
theorem zF.cell {M:Nat→Prop} {a b:World} (h:zF M a b) {x:Addr} {v:Value} (hm:¬M x.block) (hc:a.cell? x=some v):b.cell? x=some v:=by
 have hl:x.block<a.heap.size:=World.block_lt_of_cell? _ _ hc
 have:=h.block x.block hl hm
 unfold World.cell? at hc ⊢
 rw [this]
 exact hc
def Same (base:Nat) (w w':World):Prop:=∀b,base≤b→b<w.heap.size→w'.heap[b]?=w.heap[b]?
theorem Z9 {w w':World} {base:Nat} {e:TypeId} {size:Nat} {v:Value} {n:Nat} {xs:List Value} (h:w.ownsRow base e size v n xs) (hb:Same base w w'):w'.ownsRow base e size v n xs:=by
 obtain ⟨h1,h2⟩:=h
 refine ⟨h1,?_⟩
 rcases h2 with h2|⟨g,cap,cur,hv,hg,hh,h3⟩
 ·exact .inl h2
 ·exact .inr ⟨g,cap,cur,hv,hg,by rw [hb g hg (lt_of_block hh)];exact hh,h3⟩
theorem zh.same {w w':World} {base:Nat} {lv:Value} {ss:List ByteArray} (h:zh w base lv ss) (hb:Same base w w'):zh w' base lv ss:=Z9 h hb
theorem qc.same {w w':World} {base:Nat} {lv:Value} {cs:List jg} (h:qc w base lv cs) (hb:Same base w w'):qc w' base lv cs:=by
 obtain ⟨xs,h1,h2⟩:=h
 refine ⟨xs,Z9 h1 hb,fun j hj=>?_⟩
 obtain ⟨lx,g0,g1,g2,g3,g4⟩:=h2 j hj
 exact ⟨lx,g0,g1,g2,g3,g4.same hb⟩
theorem xJ.same {w w':World} {base:Nat} {lv:Value} {ss:List xH} (h:xJ w base lv ss) (hb:Same base w w'):xJ w' base lv ss:=by
 obtain ⟨xs,h1,h2⟩:=h
 refine ⟨xs,Z9 h1 hb,fun j hj=>?_⟩
 obtain ⟨l1,l2,l3,lc,h0,h1,h2,h3,h4,h5,h6,h7,g1,g2,g3,g4⟩:=h2 j hj
 exact ⟨l1,l2,l3,lc,h0,h1,h2,h3,h4,h5,h6,h7,g1.same hb,g2.same hb,g3.same hb,g4.same hb⟩
def uj (M:Nat→Prop) (W:World) (dv:Value) (ss:List xH):Prop:=
 ∃base W0,xJ W0 base dv ss∧W0.heap.size≤W.heap.size∧∀b,base≤b→b<W0.heap.size→¬M b∧W.heap[b]?=W0.heap[b]?
theorem uj.at {M:Nat→Prop} {W:World} {dv:Value} {ss:List xH} (h:uj M W dv ss):∃base,xJ W base dv ss:=by
 obtain ⟨base,W0,h1,_,h3⟩:=h
 exact ⟨base,h1.same (fun b hb hl=>(h3 b hb hl).2)⟩
theorem uj.turn {M:Nat→Prop} {W W':World} {dv:Value} {ss:List xH} (h:uj M W dv ss) (k:zF M W W'):uj M W' dv ss:=by
 obtain ⟨base,W0,h1,h2,h3⟩:=h
 exact ⟨base,W0,h1,Nat.le_trans h2 k.size,fun b hb hl=>⟨(h3 b hb hl).1,(k.block b (Nat.lt_of_lt_of_le hl h2) (h3 b hb hl).1).trans (h3 b hb hl).2⟩⟩
theorem uj.of {M:Nat→Prop} {W:World} {dv:Value} {ss:List xH} {base:Nat} (h:xJ W base dv ss) (hM:∀b,M b→b<base):uj M W dv ss:=
 ⟨base,W,h,Nat.le_refl _,fun b hb _=>⟨fun hm=>absurd (hM b hm) (by omega),rfl⟩⟩
theorem uj.more {M M':Nat→Prop} {W:World} {dv:Value} {ss:List xH} (h:uj M W dv ss) (hM:∀b,M' b→M b∨W.heap.size≤b):uj M' W dv ss:=by
 obtain ⟨base,W0,h1,h2,h3⟩:=h
 refine ⟨base,W0,h1,h2,fun b hb hl=>⟨fun hm=>?_,(h3 b hb hl).2⟩⟩
 rcases hM b hm with h|h
 ·exact (h3 b hb hl).1 h
 ·omega
abbrev zU:=ByteArray×List xH
def qy (M:Nat→Prop) (W:World) (lv:Value) (L:List zU):Prop:=
 ∃a c,lv = .slice a L.length c∧L.length≤c∧c≤maxLen∧(a=none→c=0)∧∀(k:Nat) (x:zU),L[k]?=some x→∃gb o dv,a=some ⟨gb,o,none⟩∧¬M gb∧W.cell? ⟨gb,o+k*2,none⟩=some (.string x.1)∧W.cell? ⟨gb,o+k*2+1,none⟩=some dv∧uj M W dv x.2
theorem qy.turn {M:Nat→Prop} {W W':World} {lv:Value} {L:List zU} (h:qy M W lv L) (k:zF M W W'):qy M W' lv L:=by
 obtain ⟨a,c,rfl,h1,h2,h4,h3⟩:=h
 refine ⟨a,c,rfl,h1,h2,h4,fun j x hx=>?_⟩
 obtain ⟨gb,o,dv,e,hm,c0,c1,d⟩:=h3 j x hx
 exact ⟨gb,o,dv,e,hm,k.cell hm c0,k.cell hm c1,d.turn k⟩
theorem qy.more {M M':Nat→Prop} {W:World} {lv:Value} {L:List zU} (h:qy M W lv L) (hM:∀b,M' b→M b∨W.heap.size≤b):qy M' W lv L:=by
 obtain ⟨a,c,rfl,h1,h2,h4,h3⟩:=h
 refine ⟨a,c,rfl,h1,h2,h4,fun j x hx=>?_⟩
 obtain ⟨gb,o,dv,e,hm,c0,c1,d⟩:=h3 j x hx
 refine ⟨gb,o,dv,e,fun hm'=>?_,c0,c1,d.more hM⟩
 have hl:gb<W.heap.size:=World.block_lt_of_cell? _ _ c0
 rcases hM gb hm' with h|h
 ·exact hm h
 ·omega
theorem JK (M:Nat→Prop) (W:World):qy M W (.slice none 0 0) []:=⟨none,0,rfl,Nat.le_refl _,by unfold maxLen;omega,fun _=>rfl,fun k x hx=>by simp at hx⟩
def uA (a b:ByteArray):Int:=Lib.compareBytes a.data.toList b.data.toList
def ltN (name:ByteArray) (x:zU):Bool:=decide (uA x.1 name<0)
def uP (L:List zU) (name:ByteArray):Nat:=(L.takeWhile (ltN name)).length
def zX (L:List zU) (name:ByteArray):Bool:=match L[uP L name]? with
 | some x=>uA x.1 name==0
 | none=>false
def Down (L:List zU) (name:ByteArray):Prop:=∀(a b:Nat) (x y:zU),a<b→L[a]?=some x→L[b]?=some y→ltN name y=true→ltN name x=true
theorem ZO {α:Type} (p:α→Bool):∀(l:List α) (i:Nat),i≤l.length→(∀(k:Nat) (x:α),k<i→l[k]?=some x→p x=true)→(∀(k:Nat) (x:α),i≤k→l[k]?=some x→p x=false)→(l.takeWhile p).length=i
 | [],i,h,_,_=>by simp at h;simp [h]
 | a::l,0,_,_,h2=>by
  have:=h2 0 a (Nat.le_refl _) rfl
  rw [List.takeWhile_cons,this]
  rfl
 | a::l,i+1,h,h1,h2=>by
  have ha:=h1 0 a (Nat.succ_pos _) rfl
  have:=ZO p l i (by simpa using h) (fun k x hk hx=>h1 (k+1) x (by omega) (by simpa using hx)) (fun k x hk hx=>h2 (k+1) x (by omega) (by simpa using hx))
  rw [List.takeWhile_cons,ha]
  simp [this]
theorem zhj (L:List zU) (name:ByteArray):uP L name≤L.length:=by
 unfold uP
 exact (List.takeWhile_prefix _).length_le
theorem VY (a b:ByteArray):uA a b = -1∨uA a b=0∨uA a b=1:=by
 unfold uA
 generalize a.data.toList=x
 generalize b.data.toList=y
 induction x generalizing y with
 | nil=>cases y<;>simp [Lib.compareBytes]
 | cons p x ih=>
  cases y with
  | nil=>simp [Lib.compareBytes]
  | cons q y=>
   unfold Lib.compareBytes
   split
   ·exact .inl rfl
   split
   ·exact .inr (.inr rfl)
   ·exact ih y
theorem zmf (nm name:ByteArray) (a:Option Addr) (n c:Nat) (w:World) :
  Calls Tryz.prog 135 #[.agg #[.string nm, .slice a n c], .string name] w fun e w'=>e = .returned (.int .i64 (uA nm name))∧Below w.heap.size w w':=by
 have cc:=fun W=>Any.strings_Compare Tryz.lays106 nm name W
 have CC:Hid (∀W,Calls Tryz.prog 136 #[.string nm, .string name] W fun e w'=>e = .returned (.int .i64 (uA nm name))∧w'=W):=hid cc
 clear cc
 go_enter Tryz.func135,Tryz.ntmps135
 go_wp2_with (go_at_call 136;refine (CC.out _).mono ?_;rintro e w1 ⟨rfl,e1⟩;rw [e1];clear e1)
 go_ret
 exact ⟨rfl,(Below.refl _ w).alloc (Nat.le_refl _) _⟩
theorem zlR:∀args w,(callFunc 135 args).run Tryz.prog w = .ok (.enter 135 args) w:=enters_of Tryz.func135 (by kernel_rfl) rfl
theorem qy.cells {M:Nat→Prop} {W:World} {a:Option Addr} {n c:Nat} {L:List zU} (h:qy M W (.slice a n c) L):n=L.length∧n≤c∧c≤maxLen∧∀(k:Nat) (x:zU),L[k]?=some x→∃gb o da dn dc,a=some ⟨gb,o,none⟩∧¬M gb∧W.cell? ⟨gb,o+k*2,none⟩=some (.string x.1)∧W.cell? ⟨gb,o+k*2+1,none⟩=some (.slice da dn dc)∧uj M W (.slice da dn dc) x.2:=by
 obtain ⟨a',c',e,h1,h2,_,h3⟩:=h
 injection e with e1 e2 e3
 subst e1 e2 e3
 refine ⟨rfl,h1,h2,fun k x hx=>?_⟩
 obtain ⟨gb,o,dv,e,hm,c0,c1,d⟩:=h3 k x hx
 obtain ⟨base,W0,⟨xs,hr,_⟩,_⟩:=d
 have:∃da dn dc,dv = .slice da dn dc:=by
  rcases hr.2 with ⟨e,_⟩|⟨g,cap,cur,e,_⟩
  ·exact ⟨_,_,_,e⟩
  ·exact ⟨_,_,_,e⟩
 obtain ⟨da,dn,dc,rfl⟩:=this
 exact ⟨gb,o,da,dn,dc,e,hm,c0,c1,(h3 k x hx).elim (fun gb' ⟨o',dv',e',_,c0',c1',d'⟩=>by
  rw [e] at e'
  injection e' with e'
  injection e' with g1 g2
  subst g1 g2
  rw [c1] at c1'
  injection c1' with c1'
  rw [c1']
  exact d')⟩
theorem zj5 (L:List zU) (lv:Value) (name:ByteArray) (M:Nat→Prop) (w:World) (h:qy M w lv L) (hn:L.length≤1000000) (hd:Down L name) :
  Calls Tryz.prog 134 #[lv, .string name, .func (.func 135) #[] #[]] w fun e w'=>e = .returned (.tuple #[.int .i64 (uP L name:Int), .bool (zX L name)])∧Below w.heap.size w w':=by
 obtain ⟨a,c,rfl,h1,h2⟩:∃a c,lv = .slice a L.length c∧L.length≤c∧c≤maxLen:=by obtain ⟨a,c,e,h1,h2,_⟩:=h;exact ⟨a,c,e,h1,h2⟩
 have hc:=h.cells.2.2.2
 obtain ⟨n,hnn⟩:∃n,L.length=n:=⟨_,rfl⟩
 have hfin:∀i,i≤n→(∀(k:Nat) (x:zU),k<i→L[k]?=some x→ltN name x=true)→(∀(k:Nat) (x:zU),i≤k→L[k]?=some x→ltN name x=false)→uP L name=i:=fun i hi g1 g2=>ZO (ltN name) L i (by omega) g1 g2
 rw [hnn] at h1 hn ⊢
 have HF:=hid hfin
 have HC:=hid hc
 have HN:=hid hnn
 have HD:=hid hd
 have eg:=zlR
 clear hc hnn h hd hfin
 go_enter Tryz.func134,Tryz.ntmps134
 go_wp2
 go_loopw [9,10] (fun iv jv wr=>∃i j:Nat,i≤j∧j≤n∧iv = .int .i64 i∧jv = .int .i64 j∧(∀(k:Nat) (x:zU),k<i→L[k]?=some x→ltN name x=true)∧(∀(k:Nat) (x:zU),j≤k→L[k]?=some x→ltN name x=false)∧Below w.heap.size w wr) (fun iv jv _=>(intOf jv).toNat-(intOf iv).toNat)
 case atStart=>exact ⟨0,n,Nat.zero_le _,Nat.le_refl _,rfl,rfl,fun k x hk=>by omega,fun k x hk hx=>by have:=(List.getElem?_eq_some_iff.1 hx).1;rw [HN.out] at this;omega,Below.refl _ _⟩
 case round=>
  obtain ⟨i,j,hij,hjn,rfl,rfl,g1,g2,hb⟩:=hrel
  have HB:=hid hb
  have G1:=hid g1
  have G2:=hid g2
  clear hb g1 g2
  by_cases hlt:i<j
  ·go_upto_region 5 with fail
   obtain ⟨m,hm⟩:∃m:Nat,((i:Int)+(j:Int)) / 2=(m:Int):=⟨(i+j) / 2,by omega⟩
   have hmi:i≤m:=by omega
   have hmj:m<j:=by omega
   rw [hm]
   have hml:m<L.length:=by rw [HN.out];omega
   have hx:=List.getElem?_eq_getElem hml
   obtain ⟨gb,o,da,dn,dc,rfl,_,q0,q1,_⟩:=HC.out m _ hx
   obtain ⟨x,hxx⟩:∃x,L[m]=x:=⟨_,rfl⟩
   rw [hxx] at q0 hx
   have p0:=cell_later HB.out q0
   have p1:=cell_later HB.out q1
   have cc:=zmf x.1 name da dn dc wr
   obtain ⟨z,hz⟩:∃z,uA x.1 name=z:=⟨_,rfl⟩
   rw [hz] at cc
   have CC:=hid cc
   have HX:=hid hx
   have k0:(0:Int)≤(m:Int):=Int.natCast_nonneg _
   have k1:(m:Int)<(n:Int):=by omega
   have hlx:ltN name x=decide (z<0):=by unfold ltN;rw [hz]
   clear cc hx q0 q1 hxx HC HF hm
   by_cases hzn:z<0
   ·rw [decide_eq_true hzn] at hlx
    go_wp2_with (go_at_fn 135;refine CC.out.mono ?_;rintro e w2 ⟨rfl,b2⟩;have HB2:=hid (HB.out.trans (b2.mono HB.out.size));clear b2)
    go_roundw
    case rel=>
     refine ⟨m+1,j,by omega,hjn,by go_num,rfl,fun k y hk hy=>?_,G2.out,HB2.out⟩
     by_cases hkm:k<m
     ·exact HD.out k m y x hkm hy HX.out hlx
     ·have:k=m:=by omega
      subst this
      rw [HX.out] at hy
      injection hy with hy
      rw [← hy]
      exact hlx
    case measure=>simp [intOf];omega
   ·rw [decide_eq_false hzn] at hlx
    go_wp2_with (go_at_fn 135;refine CC.out.mono ?_;rintro e w2 ⟨rfl,b2⟩;have HB2:=hid (HB.out.trans (b2.mono HB.out.size));clear b2)
    go_roundw
    case rel=>
     refine ⟨i,m,hmi,by omega,rfl,rfl,G1.out,fun k y hk hy=>?_,HB2.out⟩
     by_cases hkm:m<k
     ·cases hly:ltN name y with
      | false=>rfl
      | true=>
       have:=HD.out m k x y hkm HX.out hy hly
       rw [hlx] at this
       cases this
     ·have:k=m:=by omega
      subst this
      rw [HX.out] at hy
      injection hy with hy
      rw [← hy]
      exact hlx
    case measure=>simp [intOf];omega
  ·have hij2:i=j:=by omega
   subst hij2
   have hpos:=HF.out i hjn G1.out G2.out
   have hhas:zX L name=match L[i]? with
    | some x=>uA x.1 name==0
    | none=>false:=by unfold zX;rw [hpos]
   by_cases hin:i<n
   ·have hml:i<L.length:=by rw [HN.out];omega
    have hx:=List.getElem?_eq_getElem hml
    obtain ⟨gb,o,da,dn,dc,rfl,_,q0,q1,_⟩:=HC.out i _ hx
    rw [hx] at hhas
    obtain ⟨x,hxx⟩:∃x,L[i]=x:=⟨_,rfl⟩
    rw [hxx] at q0 hhas
    have p0:=cell_later HB.out q0
    have p1:=cell_later HB.out q1
    have cc:=zmf x.1 name da dn dc wr
    simp only at hhas
    obtain ⟨z,hz⟩:∃z,uA x.1 name=z:=⟨_,rfl⟩
    rw [hz] at cc hhas
    have CC:=hid cc
    have HP:=hid hpos
    have HH:=hid hhas
    have k0:(0:Int)≤(i:Int):=Int.natCast_nonneg _
    have k1:(i:Int)<(n:Int):=by omega
    clear cc hx q0 q1 hxx HC HF hpos hhas HD G1 G2 hlt
    go_wp2_with (go_at_fn 135;refine CC.out.mono ?_;rintro e w2 ⟨rfl,b2⟩;have HB2:=hid (HB.out.trans (b2.mono HB.out.size));clear b2)
    go_ret2
    exact ⟨by rw [HP.out,HH.out];rfl,HB2.out⟩
   ·have hx:L[i]?=none:=List.getElem?_eq_none (by rw [HN.out];omega)
    rw [hx] at hhas
    have HP:=hid hpos
    have HH:=hid hhas
    clear hx HC HF hpos hhas HD G1 G2 hlt
    go_wp2_with fail
    go_ret2
    exact ⟨by rw [HP.out,HH.out];rfl,HB.out⟩
theorem zg5 (L:List zU) (lv:Value) (name:ByteArray) (M:Nat→Prop) (w:World) (h:qy M w lv L) (hn:L.length≤1000000) (hd:Down L name) :
  Calls Tryz.prog 83 #[lv, .string name] w fun e w'=>e = .returned (.tuple #[.int .i64 (uP L name:Int), .bool (zX L name)])∧Below w.heap.size w w':=by
 have c1:=zj5 L lv name M w h hn hd
 obtain ⟨a,c,rfl,_⟩:=h
 obtain ⟨P,hP⟩:∃x,uP L name=x:=⟨_,rfl⟩
 obtain ⟨B,hB⟩:∃x,zX L name=x:=⟨_,rfl⟩
 rw [hP,hB] at c1 ⊢
 have C1:=hid c1
 clear c1 hP hB
 go_enter Tryz.func83,Tryz.ntmps83
 go_wp2_with (go_at_call 134;refine C1.out.mono ?_;rintro e w1 ⟨rfl,b1⟩;have HB1:=hid b1;clear b1)
 go_ret2
 exact ⟨rfl,HB1.out⟩
def jK (W:World) (v:Value) (xs:List Value):Prop:=
 ∃a n c,v = .slice a n c∧xs.length=n*2∧n≤c∧c≤maxLen∧(a=none→n=0∧c=0)∧(∀u ∈ xs,u.oneCell'=true)∧∀(j:Nat) (u:Value),xs[j]?=some u→∃gb o,a=some ⟨gb,o,none⟩∧W.cell? ⟨gb,o+j,none⟩=some u
theorem jK.below {W W':World} {v:Value} {xs:List Value} (h:jK W v xs) (hb:Below W.heap.size W W'):jK W' v xs:=by
 obtain ⟨a,n,c,e,h1,h2,h3,h4,h5,h6⟩:=h
 exact ⟨a,n,c,e,h1,h2,h3,h4,h5,fun j u hu=>by obtain ⟨gb,o,e,hc⟩:=h6 j u hu;exact ⟨gb,o,e,cell_later hb hc⟩⟩
def sumTo (xss:List (List Value)):Nat→Nat
 | 0=>0
 | k+1=>sumTo xss k+(xss.getD k []).length / 2
def zen (xss:List (List Value)):Nat→List Value
 | 0=>[]
 | k+1=>zen xss k++xss.getD k []
theorem zfZ (xss:List (List Value)) {a b:Nat} (h:a≤b):sumTo xss a≤sumTo xss b:=by
 induction b with
 | zero=>have:a=0:=by omega
         subst this;exact Nat.le_refl _
 | succ b ih=>
  by_cases e:a=b+1
  ·subst e;exact Nat.le_refl _
  ·have:=ih (by omega)
   rw [sumTo];omega
theorem Ji:(Tryz.prog.info? 187).map (fun i=>(i.zero,i.size,i.bytes))=some (some (.agg #[.string ⟨#[]⟩, .slice none 0 0]),2,40):=by kernel_rfl
theorem QI (z:Array Value) (n:Nat):(Builtin.zeroCells z n).size=n*z.size:=by
 unfold Builtin.zeroCells
 simp
theorem zmd (n:Nat) (w:World) (hn:n≤1000) :
  Calls Tryz.prog 138 #[.slice none 0 0, .int .i64 (n:Int)] w fun e w'=>∃v,e = .returned v∧w'.ownsRow w.heap.size 187 2 v 0 []∧Below w.heap.size w w':=by
 obtain ⟨i0,hi,hz0,hz1,hz2⟩:=info_parts Ji
 by_cases h0:n=0
 ·subst h0
  refine (Any8.slices_Grow_room Tryz.lays8grow none 0 0 0 w (Nat.le_refl _) (by omega) (by omega) (by omega)).mono ?_
  rintro e w' ⟨rfl,rfl⟩
  exact ⟨_,rfl,⟨rfl, .inl ⟨rfl,rfl⟩⟩,Below.refl _ _⟩
 ·have c:=Any8.slices_Grow_grow Tryz.lays8grow i0 _ hi hz0 (by omega) none 0 0 n [] w (Nat.le_refl _) (by omega) (by rw [hz2];omega) (by omega) (by simp) (fun _=>rfl) (fun a h=>by cases h)
  refine c.mono ?_
  rintro e w' ⟨rfl,rfl⟩
  have hge:=grownCap_ge w (0+n) 0 187
  have hle:=grownCap_le_maxLen w (0+n) 0 187 (by unfold maxLen;omega)
  refine ⟨_,rfl,⟨by simp, .inr ⟨w.heap.size,_,_,rfl,Nat.le_refl _,heap_alloc_new w.drew _,Nat.zero_le _,hle,?_,by simp⟩⟩,((Below.refl _ w).drew).alloc (Nat.le_refl _) _⟩
  have e1:(Value.agg #[Value.string ⟨#[]⟩,Value.slice none 0 0]).cells.size=2:=by kernel_rfl
  have hge2:0+n≤grownCap w (0+n) 0 (Tryz.lays8grow_ren.t 25):=hge
  rw [Array.size_append,Array.size_append,QI,QI,e1]
  show 0+(0+n-0)*2+(grownCap w (0+n) 0 (Tryz.lays8grow_ren.t 25)-(0+n))*2=grownCap w (0+n) 0 (Tryz.lays8grow_ren.t 25)*2
  omega
theorem Kt (vs:List Value) (xss:List (List Value)) (pb:Nat) (w:World) (hl:vs.length=xss.length) (hp:∀(k:Nat) (v:Value),vs[k]?=some v→w.cell? ⟨pb,k,none⟩=some v) (hc:∀(k:Nat) (v:Value) (xs:List Value),vs[k]?=some v→xss[k]?=some xs→jK w v xs) (hn:vs.length≤10) (hs:sumTo xss vs.length≤1000) :
  Calls Tryz.prog 85 #[.slice (some ⟨pb,0,none⟩) vs.length vs.length] w fun e w'=>∃v,e = .returned v∧w'.ownsRow w.heap.size 187 2 v (sumTo xss vs.length) (zen xss vs.length)∧Below w.heap.size w w':=by
 obtain ⟨i0,hi,hz0,hz1,hz2⟩:=info_parts Ji
 obtain ⟨n,hnn⟩:∃n,vs.length=n:=⟨_,rfl⟩
 obtain ⟨S,hS⟩:∃S:Nat→Nat,sumTo xss=S:=⟨_,rfl⟩
 obtain ⟨T,hT⟩:∃T:Nat→List Value,zen xss=T:=⟨_,rfl⟩
 have S0:S 0=0:=by rw [← hS];rfl
 have T0:T 0=[]:=by rw [← hT];rfl
 have hmono:∀k,k≤n→S k≤S n:=fun k hk=>by rw [← hS];exact zfZ xss hk
 have each:∀k,k<n→∃v xs a m c,vs[k]?=some v∧v = .slice a m c∧xs.length=m*2∧(a=none→m=0∧c=0)∧(∀u ∈ xs,u.oneCell'=true)∧S (k+1)=S k+m∧T (k+1)=T k++xs∧m≤c∧c≤maxLen ∧
   (∀(j:Nat) (u:Value),xs[j]?=some u→∃gb o,a=some ⟨gb,o,none⟩∧w.cell? ⟨gb,o+j,none⟩=some u):=by
  intro k hk
  have h1:=List.getElem?_eq_getElem (l:=vs) (i:=k) (by omega)
  have h2:=List.getElem?_eq_getElem (l:=xss) (i:=k) (by omega)
  obtain ⟨a,m,c,e,g1,g2,g3,g4,g5,g6⟩:=hc k _ _ h1 h2
  have hg:xss.getD k []=xss[k]'(by omega):=by rw [List.getD_eq_getElem?_getD,h2];rfl
  refine ⟨_,_,a,m,c,h1,e,g1,g4,g5,?_,?_,g2,g3,g6⟩
  ·rw [← hS,sumTo,hg,g1];omega
  ·rw [← hT,zen,hg]
 rw [hnn] at hn hs ⊢
 rw [hS] at hs ⊢
 rw [hT]
 have hp2:∀(k:Nat) (v:Value),vs[k]?=some v→∀W,Below w.heap.size w W→W.cell? ⟨pb,k,none⟩=some v:=fun k v hv W hb=>cell_later hb (hp k v hv)
 have cg:=fun W=>zmd (S n) W hs
 have HE:=hid each
 have HP:=hid hp2
 have HM:=hid hmono
 have CG:=hid cg
 have HS0:=hid S0
 have HT0:=hid T0
 clear each hp2 hmono cg S0 T0 hp hc hl hnn hS hT
 go_enter Tryz.func85,Tryz.ntmps85
 go_wp2
 go_loopw [3,5,11] (fun sv _ iv wr=>∃k:Nat,k≤n∧iv = .int .i64 k∧sv = .int .i64 (S k:Int)∧wr=w) (fun _ _ iv _=>n-(intOf iv).toNat)
 case atStart=>exact ⟨0,Nat.zero_le _,rfl,by rw [HS0.out];rfl,rfl⟩
 case round=>
  obtain ⟨k,hk,rfl,rfl,hwr⟩:=hrel
  rw [hwr]
  clear hwr
  by_cases hlt:k<n
  ·obtain ⟨v,xs,a,m,c,hv,rfl,_,_,_,hS1,_,_,_,_⟩:=HE.out k hlt
   have p0:=HP.out k _ hv w (Below.refl _ _)
   have hz:=HM.out k hk
   have hz2':=HM.out (k+1) hlt
   have HS1:=hid hS1
   have k0:(0:Int)≤(k:Int):=Int.natCast_nonneg _
   have k1:(k:Int)<(n:Int):=by omega
   have hsm:¬((S k:Int)+(m:Int)<0):=by omega
   have hsb:S k+m≤1000:=by omega
   clear hS1 HE HP HM CG HT0 hv
   go_wp2_with fail
   go_roundw
   case rel=>exact ⟨k+1,by omega,by go_num,by rw [HS1.out];go_num,by trivial⟩
   case measure=>simp [intOf];omega
  ·have hkn:n=k:=by omega
   subst hkn
   clear hlt hk
   go_wp2_with (go_at_call 138;refine (CG.out _).mono ?_;rintro e w1 ⟨gv,rfl,ho,hb⟩;have HO1:=hid ho;have HB1:=hid hb;clear ho hb)
   go_loopw [6,8,27] (fun ov _ iv wr=>∃k:Nat,k≤n∧iv = .int .i64 k∧wr.ownsRow w.heap.size 187 2 ov (S k) (T k)∧Below w.heap.size w wr) (fun _ _ iv _=>n-(intOf iv).toNat)
   case atStart=>exact ⟨0,Nat.zero_le _,rfl,by rw [HS0.out,HT0.out];exact HO1.out,HB1.out⟩
   case round=>
    obtain ⟨k,hk,rfl,ho,hb⟩:=hrel
    have HO:=hid ho
    have HB:=hid hb
    have hzr:=HB.out.size
    clear ho hb HO1 HB1 HS0 HT0 CG
    by_cases hlt:k<n
    ·obtain ⟨v,xs,a,m,c,hv,hve,hxl,hno,hone,hS1,hT1,_,_,hcell⟩:=HE.out k hlt
     subst hve
     have p0:=HP.out k _ hv wr HB.out
     have hz:=HM.out (k+1) hlt
     have k0:(0:Int)≤(k:Int):=Int.natCast_nonneg _
     have k1:(k:Int)<(n:Int):=by omega
     have HST:Hid (S (k+1)=S k+m∧T (k+1)=T k++xs):=⟨hS1,hT1⟩
     have hsb:S k+m≤1000:=by omega
     cases a with
     | none=>
      obtain ⟨rfl,rfl⟩:=hno rfl
      have hxn:xs=[]:=List.length_eq_zero_iff.1 (by omega)
      have HO3:Hid (wr.ownsRow w.heap.size 187 2 u6 (S (k+1)) (T (k+1))):=hid (by rw [HST.out.1,HST.out.2,hxn,List.append_nil];exact HO.out)
      clear hcell hno hone hS1 hT1 HE HP HM hv hxn hxl HST
      go_wp2_with (at_builtin;refine wpList_append_own_none rfl _ _ 98 rfl w.heap.size 187 i0 2 Tryz.underlying98 hi _ (S k) (T k) rfl HO.out rfl ?_)
      go_wp2_with fail
      go_roundw
      case rel=>exact ⟨k+1,by omega,by go_num,HO3.out,HB.out⟩
      case measure=>simp [intOf];omega
     | some ad=>
      have hsrc:∀(j:Nat) (u:Value),xs[j]?=some u→wr.cell? (ad.add j)=some u:=fun j u hu=>by
       obtain ⟨gb,o,e,hq⟩:=hcell j u hu
       injection e with e
       subst e
       rw [addr_add]
       exact cell_later HB.out hq
      have HSR:=hid hsrc
      have HON:=hid hone
      clear hcell hno hone hS1 hT1 HE HP HM hv hsrc
      go_wp2_with (at_builtin;refine wpList_append_own _ rfl _ _ 98 rfl w.heap.size 187 i0 (.agg #[.string ⟨#[]⟩, .slice none 0 0]) 2 40 Tryz.underlying98 hi hz0 hz1 hz2 rfl (by decide) _ (S k) (T k) rfl HO.out ad m c xs rfl hxl HSR.out HON.out ?_ ?_ ?_ ?_)
      ·unfold maxLen;omega
      ·omega
      ·omega
      ·intro v' w3 hown' hgrow _
       have HO3:Hid (w3.ownsRow w.heap.size 187 2 v' (S (k+1)) (T (k+1))):=hid (by rw [HST.out.1,HST.out.2];exact hown')
       have HB3:Hid (Below w.heap.size w w3):=HB.out.grown hgrow hzr (fun k hk=>(World.ownsRow.lt HO.out k hk).1)
       clear hown' hgrow
       go_wp2_with fail
       go_roundw
       case rel=>exact ⟨k+1,by omega,by go_num,HO3.out,HB3.out⟩
       case measure=>simp [intOf];omega
    ·have hkn:n=k:=by omega
     subst hkn
     clear HE HP HM hlt
     go_wp2_with fail
     go_ret
     exact ⟨_,rfl,HO.out,HB.out⟩
def Pairs (M:Nat→Prop) (W:World) (xs:List Value) (L:List zU):Prop:=
 xs.length=L.length*2∧∀(k:Nat) (x:zU),L[k]?=some x→∃da dn dc,xs[k*2]?=some (.string x.1)∧xs[k*2+1]?=some (.slice da dn dc)∧uj M W (.slice da dn dc) x.2
theorem Pairs.turn {M:Nat→Prop} {W W':World} {xs:List Value} {L:List zU} (h:Pairs M W xs L) (k:zF M W W'):Pairs M W' xs L:=
 ⟨h.1,fun j x hx=>by obtain ⟨da,dn,dc,h1,h2,h3⟩:=h.2 j x hx;exact ⟨da,dn,dc,h1,h2,h3.turn k⟩⟩
theorem Pairs.one {M:Nat→Prop} {W:World} {da:Option Addr} {dn dc:Nat} {x:zU} (h:uj M W (.slice da dn dc) x.2):Pairs M W [.string x.1, .slice da dn dc] [x]:=by
 refine ⟨rfl,fun k y hy=>?_⟩
 match k,hy with
 | 0,hy=>
  simp only [List.getElem?_cons_zero,Option.some.injEq] at hy
  subst hy
  exact ⟨da,dn,dc,rfl,rfl,h⟩
 | k+1,hy=>simp at hy
theorem Pairs.nil {M:Nat→Prop} {W:World}:Pairs M W [] []:=⟨rfl,fun k x hx=>by simp at hx⟩
theorem Pairs.take {M:Nat→Prop} {W:World} {xs:List Value} {L:List zU} (h:Pairs M W xs L) (p:Nat):Pairs M W (xs.take (p*2)) (L.take p):=by
 refine ⟨by rw [List.length_take,List.length_take,h.1];omega,fun k x hx=>?_⟩
 rw [List.getElem?_take] at hx
 split at hx
 ·rename_i hk
  obtain ⟨da,dn,dc,h1,h2,h3⟩:=h.2 k x hx
  exact ⟨da,dn,dc,by rw [List.getElem?_take,if_pos (by omega)];exact h1,by rw [List.getElem?_take,if_pos (by omega)];exact h2,h3⟩
 ·cases hx
theorem Pairs.drop {M:Nat→Prop} {W:World} {xs:List Value} {L:List zU} (h:Pairs M W xs L) (p:Nat):Pairs M W (xs.drop (p*2)) (L.drop p):=by
 refine ⟨by rw [List.length_drop,List.length_drop,h.1];omega,fun k x hx=>?_⟩
 rw [List.getElem?_drop] at hx
 obtain ⟨da,dn,dc,h1,h2,h3⟩:=h.2 (p+k) x hx
 exact ⟨da,dn,dc,by rw [List.getElem?_drop,show p*2+k*2=(p+k)*2 by omega];exact h1,by rw [List.getElem?_drop,show p*2+(k*2+1)=(p+k)*2+1 by omega];exact h2,h3⟩
theorem Pairs.app {M:Nat→Prop} {W:World} {xs ys:List Value} {L N:List zU} (h:Pairs M W xs L) (g:Pairs M W ys N):Pairs M W (xs++ys) (L++N):=by
 refine ⟨by rw [List.length_append,List.length_append,h.1,g.1];omega,fun k x hx=>?_⟩
 by_cases hk:k<L.length
 ·rw [List.getElem?_append_left hk] at hx
  obtain ⟨da,dn,dc,h1,h2,h3⟩:=h.2 k x hx
  exact ⟨da,dn,dc,by rw [List.getElem?_append_left (by rw [h.1];omega)];exact h1,by rw [List.getElem?_append_left (by rw [h.1];omega)];exact h2,h3⟩
 ·rw [List.getElem?_append_right (by omega)] at hx
  obtain ⟨da,dn,dc,h1,h2,h3⟩:=g.2 (k-L.length) x hx
  exact ⟨da,dn,dc,by rw [List.getElem?_append_right (by rw [h.1];omega),h.1,show k*2-L.length*2=(k-L.length)*2 by omega];exact h1,by rw [List.getElem?_append_right (by rw [h.1];omega),h.1,show k*2+1-L.length*2=(k-L.length)*2+1 by omega];exact h2,h3⟩
theorem qy.flat {M:Nat→Prop} {W:World} {lv:Value} {L:List zU} (h:qy M W lv L):∃xs,jK W lv xs∧Pairs M W xs L:=by
 obtain ⟨a,c,rfl,h1,h2,h4,h3⟩:=id h
 have hc:=h.cells.2.2.2
 by_cases h0:L.length=0
 ·have hL:L=[]:=List.length_eq_zero_iff.1 h0
  subst hL
  exact ⟨[],⟨a,0,c,rfl,rfl,Nat.zero_le _,h2,fun e=>⟨rfl,h4 e⟩,by simp,fun j u hu=>by simp at hu⟩,Pairs.nil⟩
 ·obtain ⟨gb,o,_,_,_,ea,_⟩:=hc 0 _ (List.getElem?_eq_getElem (by omega))
  subst ea
  have cell:∀j,j<L.length*2→∃u,W.cell? ⟨gb,o+j,none⟩=some u∧u.oneCell'=true:=by
   intro j hj
   obtain ⟨gb',o',da,dn,dc,e,_,c0,c1,_⟩:=hc (j / 2) _ (List.getElem?_eq_getElem (by omega))
   injection e with e
   injection e with e1 e2
   subst e1 e2
   by_cases he:j % 2=0
   ·have:j=j / 2*2:=by omega
    rw [this]
    exact ⟨_,c0,rfl⟩
   ·have:o+j=o+j / 2*2+1:=by omega
    rw [this]
    exact ⟨_,c1,rfl⟩
  have get:∀j,j<L.length*2→((List.range (L.length*2)).map fun j=>(W.cell? ⟨gb,o+j,none⟩).getD undef)[j]?=W.cell? ⟨gb,o+j,none⟩:=by
   intro j hj
   obtain ⟨u,hu,_⟩:=cell j hj
   rw [List.getElem?_map,List.getElem?_range hj]
   simp only [Option.map_some]
   rw [hu]
   rfl
  refine ⟨(List.range (L.length*2)).map fun j=>(W.cell? ⟨gb,o+j,none⟩).getD undef,⟨some ⟨gb,o,none⟩,L.length,c,rfl,by simp,h1,h2,(fun e=>by cases e),?_,?_⟩,by simp,?_⟩
  ·intro u hu
   obtain ⟨j,hj,rfl⟩:=List.mem_map.1 hu
   obtain ⟨u,hu,ho⟩:=cell j (List.mem_range.1 hj)
   rw [hu]
   exact ho
  ·intro j u hu
   have hj:j<L.length*2:=by
    have:=(List.getElem?_eq_some_iff.1 hu).1
    simpa using this
   rw [get j hj] at hu
   exact ⟨gb,o,rfl,hu⟩
  ·intro k x hx
   have hk:k<L.length:=(List.getElem?_eq_some_iff.1 hx).1
   obtain ⟨gb',o',da,dn,dc,e,_,c0,c1,d⟩:=hc k x hx
   injection e with e
   injection e with e1 e2
   subst e1 e2
   exact ⟨da,dn,dc,by rw [get _ (by omega)];exact c0,by rw [get _ (by omega)];exact c1,d⟩
theorem UM {M:Nat→Prop} {W:World} {base:Nat} {v:Value} {n:Nat} {xs:List Value} {L:List zU} (h:W.ownsRow base 187 2 v n xs) (hp:Pairs M W xs L) (hM:∀b,M b→b<base):qy M W v L:=by
 have hn:n=L.length:=by have:=h.1;have:=hp.1;omega
 subst hn
 have hcell:=fun g cap (e:v = .slice (some ⟨g,0,none⟩) L.length cap)=>World.ownsRow.cellAt (w:=W) (base:=base) (e:=187) (size:=2) (n:=L.length) (xs:=xs) (g:=g) (cap:=cap) (by rw [← e];exact h)
 rcases h.2 with ⟨e,h0⟩|⟨g,cap,cur,e,hg,hh,h1,h2,_⟩
 ·have hL:L=[]:=List.length_eq_zero_iff.1 h0
  subst hL
  rw [e]
  exact JK M W
 ·refine ⟨some ⟨g,0,none⟩,cap,e,h1,h2,(fun e=>by cases e),fun k x hx=>?_⟩
  have hk:k<L.length:=(List.getElem?_eq_some_iff.1 hx).1
  obtain ⟨da,dn,dc,g1,g2,g3⟩:=hp.2 k x hx
  have hc:=hcell g cap e
  refine ⟨g,0, .slice da dn dc,rfl,fun hm=>absurd (hM g hm) (by omega),?_,?_,g3⟩
  ·rw [Nat.zero_add,hc _ (by have:=hp.1;omega)];exact g1
  ·rw [Nat.zero_add,hc _ (by have:=hp.1;omega)];exact g2
theorem jK.take {W:World} {a:Option Addr} {n c:Nat} {xs:List Value} (h:jK W (.slice a n c) xs) {p:Nat} (hp:p≤n):jK W (.slice a p c) (xs.take (p*2)):=by
 obtain ⟨a',n',c',e,h1,h2,h3,h4,h5,h6⟩:=h
 injection e with e1 e2 e3
 subst e1 e2 e3
 refine ⟨a,p,c,rfl,by rw [List.length_take,h1];omega,by omega,h3,fun e=>⟨by have:=(h4 e).1;omega,(h4 e).2⟩,fun u hu=>h5 u (List.mem_of_mem_take hu),fun j u hu=>?_⟩
 rw [List.getElem?_take] at hu
 split at hu
 ·exact h6 j u hu
 ·cases hu
theorem jK.drop {W:World} {a:Option Addr} {n c:Nat} {xs:List Value} (h:jK W (.slice a n c) xs) {p:Nat} (hp:p≤n):jK W (.slice (if c=p then a else a.map fun x=>x.add (p*2)) (n-p) (c-p)) (xs.drop (p*2)):=by
 obtain ⟨a',n',c',e,h1,h2,h3,h4,h5,h6⟩:=h
 injection e with e1 e2 e3
 subst e1 e2 e3
 refine ⟨_,n-p,c-p,rfl,by rw [List.length_drop,h1];omega,by omega,by omega,fun e=>?_,fun u hu=>h5 u (List.mem_of_mem_drop hu),fun j u hu=>?_⟩
 ·have ha:a=none:=by
   split at e
   ·exact e
   ·exact Option.map_eq_none_iff.1 e
  have:=h4 ha
  exact ⟨by omega,by omega⟩
 ·have hj:j<(xs.drop (p*2)).length:=(List.getElem?_eq_some_iff.1 hu).1
  rw [List.length_drop,h1] at hj
  rw [List.getElem?_drop] at hu
  obtain ⟨gb,o,ea,hc⟩:=h6 _ u hu
  refine ⟨gb,o+p*2,?_,by rw [Nat.add_assoc];exact hc⟩
  rw [if_neg (by omega),ea]
  simp only [Option.map_some,addr_add]
end Go.Proofs.YtdakgnaojakldaaGreatDoor
