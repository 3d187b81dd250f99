/- P -/
import Derived.Test.YtdakgnaojakldaaGreatDoorP07
import Derived.Test.YtdakgnaojakldaaGreatDoorP10
import Derived.Test.YtdakgnaojakldaaGreatDoorP12
set_option maxRecDepth 100000
set_option maxHeartbeats 1000000
namespace Go.Proofs.YtdakgnaojakldaaGreatDoor
open Go.RowKit
def Zn (w:World) (ao:Option Addr) (ss:List ByteArray):Prop:=
 ss=[]∨∃b o,ao=some ⟨b,o,none⟩∧∀j,(h:j<ss.length)→w.cell? ⟨b,o+j,none⟩=some (.string ss[j])
theorem Zj {w w':World} {ao:Option Addr} {ss:List ByteArray} (h:Zn w ao ss) (hb:Below w.heap.size w w'):Zn w' ao ss:=by
 rcases h with h|⟨b,o,ha,hc⟩
 ·exact .inl h
 ·exact .inr ⟨b,o,ha,fun j hj=>cell_later hb (hc j hj)⟩
def zlb (ss:List ByteArray) (j:Nat):ByteArray:=ss.getD j ⟨#[]⟩
theorem zlg (ss:List ByteArray) (j:Nat) (h:j<ss.length):zlb ss j=ss[j]:=by
 unfold zlb;rw [List.getD_eq_getElem?_getD,List.getElem?_eq_getElem h];rfl
theorem ziE (ss:List ByteArray) (ao:Option Addr) (cap g:Nat) (lb:Array Value) (p:Nat→Bool) (w:World) (hn:ss.length≤100000000000) (eg:∀args w,(callFunc g args).run Tryz.prog w = .ok (.enter g args) w)
  (hm:Zn w ao ss) (hp:J5 g lb (fun j => .string (zlb ss j)) ss.length p w) :
  Calls Tryz.prog 231 #[.slice ao ss.length cap, .func (.func g) #[] lb] w fun e w'=>
   e = .returned (.tuple #[.int .i64 (((zB p ss.length).getD 0:Nat):Int), .bool (zB p ss.length).isSome])∧Below w.heap.size w w':=by
 generalize hF:zB p ss.length=F
 have HF:=hid hF
 clear hF
 go_enter Tryz.func231,Tryz.ntmps231
 go_wp2
 go_loopw [10] (fun i wr=>∃k:Nat,k≤ss.length∧i = .int .i64 k∧(∀j,j<k→p j=false)∧Below w.heap.size w wr) (fun i _=>ss.length-(intOf i).toNat)
 case atStart=>exact ⟨0,Nat.zero_le _,rfl,fun j h=>by omega,Below.refl _ _⟩
 case round=>
  obtain ⟨k,hk,rfl,hb,hw⟩:=hrel
  have HB:=hid hb
  clear hb
  by_cases hlt:k<ss.length
  ·rcases hm with rfl|⟨b,o,rfl,hc⟩
   ·simp at hlt
   have hpk:=fun W hb=>hp W k hlt hb
   simp only [zlg ss k hlt] at hpk
   have q1:=hc k hlt
   obtain ⟨u,hu⟩:∃u,ss[k]=u:=⟨_,rfl⟩
   rw [hu] at q1 hpk
   have q3:=cell_later hw q1
   clear hu hc q1
   cases hpp:p k with
   | false=>
    rw [hpp] at hpk
    have HP:=hid hpp
    clear hpp
    go_wp2_with (go_at_fn g;refine (hpk _ hw).mono ?_;rintro e w' ⟨rfl,hb'⟩)
    refine ⟨⟨k+1,by omega,by go_num,fun j h=>?_,hw.trans (hb'.mono hw.size)⟩,by simp [intOf];omega⟩
    by_cases hj:j=k
    ·subst hj;exact HP.out
    ·exact HB.out j (by omega)
   | true=>
    rw [hpp] at hpk
    have e:=uh p ss.length k hlt HB.out hpp
    rw [HF.out] at e
    subst e
    clear hpp
    go_wp2_with (go_at_fn g;refine (hpk _ hw).mono ?_;rintro e w' ⟨rfl,hb'⟩)
    go_ret2
    exact ⟨rfl,hw.trans (hb'.mono hw.size)⟩
  ·have e:=jW p ss.length (fun j h=>HB.out j (by omega))
   rw [HF.out] at e
   subst e
   go_wp2
   go_ret2
   exact ⟨rfl,hw⟩
theorem zkY (ss:List ByteArray) (ao:Option Addr) (cap g:Nat) (lb:Array Value) (p:Nat→Bool) (w:World) (hn:ss.length≤100000000000) (eg:∀args w,(callFunc g args).run Tryz.prog w = .ok (.enter g args) w)
  (hm:Zn w ao ss) (hp:J5 g lb (fun j => .string (zlb ss j)) ss.length p w) :
  Calls Tryz.prog 195 #[.slice ao ss.length cap, .func (.func g) #[] lb] w fun e w'=>e = .returned (.bool (zB p ss.length).isSome)∧Below w.heap.size w w':=by
 have c:=ziE ss ao cap g lb p w hn eg hm hp
 generalize zB p ss.length=F at c
 go_enter Tryz.func195,Tryz.ntmps195
 go_wp2_with (go_at_call 231;refine c.mono ?_;rintro e w' ⟨rfl,hb'⟩)
 go_ret
 exact ⟨rfl,hb'⟩
theorem zmG (s this:ByteArray) (B:Nat) (w:World) (hB:w.cell? ⟨B,0,none⟩=some (.string this)) :
  Calls Tryz.prog 196 #[.string s, .pointer (some ⟨B,0,none⟩)] w fun e w'=>e = .returned (.bool (s.toList==this.toList))∧Below w.heap.size w w':=by
 go_enter Tryz.func196,Tryz.ntmps196
 go_wp2
 go_ret
 exact ⟨rfl,Below.refl _ _⟩
theorem zh8 {α:Type} (l:List α) (d:α) (f:α→Bool):(zB (fun j=>f (l.getD j d)) l.length).isSome=l.any f:=by
 rw [Bool.eq_iff_iff,List.any_eq_true]
 constructor
 ·intro h
  obtain ⟨k,hk⟩:=Option.isSome_iff_exists.1 h
  unfold zB at hk
  rw [List.find?_range_eq_some] at hk
  have hkl:k<l.length:=by simpa using hk.2.1
  refine ⟨l[k],List.getElem_mem hkl,?_⟩
  have:=hk.1
  rw [List.getD_eq_getElem?_getD,List.getElem?_eq_getElem hkl] at this
  exact this
 ·rintro ⟨x,hx,hf⟩
  obtain ⟨j,hj,rfl⟩:=List.getElem_of_mem hx
  cases h:zB (fun j=>f (l.getD j d)) l.length with
  | some k=>rfl
  | none=>
   unfold zB at h
   rw [List.find?_eq_none] at h
   have:=h j (List.mem_range.2 hj)
   rw [List.getD_eq_getElem?_getD,List.getElem?_eq_getElem hj] at this
   simp at this
   rw [this] at hf
   cases hf
theorem zmE (ss:List ByteArray) (this:ByteArray) (ao:Option Addr) (cap:Nat) (w:World) (hn:ss.length≤100000000000) (hm:Zn w ao ss) :
  Calls Tryz.prog 149 #[.slice ao ss.length cap, .string this] w fun e w'=>e = .returned (.bool (ss.any fun s=>s.toList==this.toList))∧Below w.heap.size w w':=by
 have hb0:=(Below.refl _ w).alloc (Nat.le_refl _) (.cells #[.string this] 9)
 have e1:∀args w,(callFunc 196 args).run Tryz.prog w = .ok (.enter 196 args) w:=enters_of Tryz.func196 (by kernel_rfl) rfl
 have c:=zkY ss ao cap 196 #[.pointer (some ⟨w.heap.size,0,none⟩)] (fun j=>(zlb ss j).toList==this.toList) (w.alloc (.cells #[.string this] 9)) hn e1 (Zj hm hb0)
  (fun W j hj hb=>zmG (zlb ss j) this w.heap.size W (cell_later hb (by simp)))
 rw [show (zB (fun j=>(zlb ss j).toList==this.toList) ss.length).isSome=ss.any (fun s=>s.toList==this.toList) from zh8 ss ⟨#[]⟩ (fun s=>s.toList==this.toList)] at c
 generalize ss.any (fun s=>s.toList==this.toList)=F at c
 go_enter Tryz.func149,Tryz.ntmps149
 go_wp2_with (go_at_call 195;refine c.mono ?_;rintro e w' ⟨rfl,hb'⟩)
 go_ret
 exact ⟨rfl,hb0.trans (hb'.mono (by simp))⟩
def OAt (w:World) (x:Option Rd.V) (u:Value):Prop:=match x with
 | none=>u = .nilIface
 | some v=>ValAt w (fun b=>b<w.heap.size) v u
theorem OAt.below {w w':World} {x:Option Rd.V} {u:Value} (h:OAt w x u) (hb:Below w.heap.size w w'):OAt w' x u:=by
 cases x with
 | none=>exact h
 | some v=>exact ValAt.move h (fun b hb'=>Nat.lt_of_lt_of_le hb' hb.size) (fun b hb'=>hb.block b hb')
def zd3 (g:Nat) (lb:Array Value) (f:ByteArray→Bool) (L:Nat) (w:World):Prop:=
 ∀W (s:ByteArray),s.size≤L→Below w.heap.size w W→Calls Tryz.prog g (#[.string s]++lb) W fun e w'=>e = .returned (.bool (f s))∧Below W.heap.size W w'
def QZ (w:World) (s:ByteArray) (c:Nat) (e:Ending) (w':World):Prop:=∃u,e = .returned (.tuple #[.string s,u])∧FV c u∧Below w.heap.size w w'
theorem Z8 (x:Option Rd.V) (u:Value) (g:Nat) (lb:Array Value) (f:ByteArray→Bool) (L:Nat) (w:World) (eg:∀args w,(callFunc g args).run Tryz.prog w = .ok (.enter g args) w)
  (hx:OAt w x u) (hL:∀s,x=some (.str s)→s.size≤L) (hp:zd3 g lb f L w) :
  Calls Tryz.prog 98 #[u, .func (.func g) #[] lb] w (QZ w (Rd.qO f x) (Rd.zT f x)):=by
 cases x with
 | none=>
  have hu:u = .nilIface:=hx
  subst hu
  clear hx hp
  have ta:=Yz
  go_enter Tryz.func98,Tryz.ntmps98
  go_wp2
  go_ret2
  exact ⟨_,rfl, .inr (.inl ⟨rfl,_,rfl⟩),Below.refl _ _⟩
 | some v=>
  have hv:ValAt w (fun b=>b<w.heap.size) v u:=hx
  clear hx
  cases hv with
  | word b=>
   clear hp
   have ta:=Q3
   go_enter Tryz.func98,Tryz.ntmps98
   go_wp2
   go_ret2
   exact ⟨_,rfl, .inr (.inl ⟨rfl,_,rfl⟩),Below.refl _ _⟩
  | list vs us ao cap h1 h2 h3=>
   clear hp h1 h2 h3
   have ta:=QQ
   go_enter Tryz.func98,Tryz.ntmps98
   go_wp2
   go_ret2
   exact ⟨_,rfl, .inr (.inl ⟨rfl,_,rfl⟩),Below.refl _ _⟩
  | obj ms us ao cap h1 h2 h3=>
   clear hp h1 h2 h3
   have ta:=Yo
   go_enter Tryz.func98,Tryz.ntmps98
   go_wp2
   go_ret2
   exact ⟨_,rfl, .inr (.inl ⟨rfl,_,rfl⟩),Below.refl _ _⟩
  | str s=>
   have c:=hp w s (hL s rfl) (Below.refl _ _)
   have hr:Rd.qO f (some (.str s))=if f s then s else ⟨#[]⟩:=rfl
   have hc:Rd.zT f (some (.str s))=Rd.cls (!f s) false:=rfl
   rw [hr,hc]
   clear hp hL hr hc
   cases hf:f s with
   | true=>
    rw [hf] at c
    clear hf
    have ta:=kY
    go_enter Tryz.func98,Tryz.ntmps98
    go_wp2_with (go_at_fn g;refine c.mono ?_;rintro e w' ⟨rfl,hb'⟩)
    go_ret2
    exact ⟨_,rfl, .inl ⟨rfl,rfl⟩,hb'⟩
   | false=>
    rw [hf] at c
    clear hf
    have ta:=kY
    go_enter Tryz.func98,Tryz.ntmps98
    go_wp2_with (go_at_fn g;refine c.mono ?_;rintro e w' ⟨rfl,hb'⟩)
    go_ret2
    exact ⟨_,rfl, .inr (.inl ⟨rfl,_,rfl⟩),hb'⟩
theorem zeV (s:ByteArray) (w:World):Calls Tryz.prog 99 #[.string s] w fun e w'=>e = .returned (.bool (Rd.zZ s))∧Below w.heap.size w w':=by
 unfold Rd.zZ
 cases h1:(s.toList==[97,108,108,111,119]) with
 | true=>
  go_enter Tryz.func99,Tryz.ntmps99
  go_wp2
  go_ret
  exact ⟨rfl,Below.refl _ _⟩
 | false=>
  cases h2:(s.toList==[100,101,110,121]) with
  | true=>
   go_enter Tryz.func99,Tryz.ntmps99
   go_wp2
   go_ret
   exact ⟨rfl,Below.refl _ _⟩
  | false=>
   go_enter Tryz.func99,Tryz.ntmps99
   go_wp2
   go_ret
   exact ⟨rfl,Below.refl _ _⟩
def zjv (g:Nat) (lb:Array Value) (el:Nat→Value) (n:Nat) (f:Nat→ByteArray) (c:Nat→Nat) (w:World):Prop:=
 ∀W j,j<n→Below w.heap.size w W→Calls Tryz.prog g (#[el j]++lb) W (QZ W (f j) (c j))
def ZC (f:Nat→ByteArray) (n k:Nat):List Value:=(List.range n).map fun j=>if j<k then .string (f j) else .string ⟨#[]⟩
theorem zjn (f:Nat→ByteArray) (n k:Nat):(ZC f n k).set k (.string (f k))=ZC f n (k+1):=by
 apply List.ext_getElem
 ·simp [ZC]
 intro i h1 h2
 simp only [ZC,List.length_set,List.length_map,List.length_range] at h1 h2
 simp only [ZC,List.getElem_set,List.getElem_map,List.getElem_range]
 by_cases e:k=i
 ·subst e;simp
 ·rw [if_neg e]
  by_cases h:i<k
  ·rw [if_pos h,if_pos (by omega)]
  ·rw [if_neg h,if_neg (by omega)]
theorem zg3 (f:Nat→ByteArray) (n:Nat):ZC f n 0=List.replicate n (.string ⟨#[]⟩):=by
 apply List.ext_getElem
 ·simp [ZC]
 intro i h1 h2
 simp [ZC]
theorem zjR (f:Nat→ByteArray) (n k:Nat) (h:k<n):(ZC f n k)[k]?=some (.string ⟨#[]⟩):=by
 simp [ZC,h]
def zb9 (c:Nat→Nat) (n k:Nat) (ys:List Value):Prop:=ys.length=n∧(∀j,j<k→FV (c j) (ys.getD j .nilIface))∧∀j,k≤j→j<n→ys[j]?=some .nilIface
theorem zb9.set {c:Nat→Nat} {n k:Nat} {ys:List Value} (h:zb9 c n k ys) (hk:k<n) {u:Value} (hu:FV (c k) u):zb9 c n (k+1) (ys.set k u):=by
 obtain ⟨h1,h2,h3⟩:=h
 refine ⟨by simp [h1],fun j hj=>?_,fun j hj hjn=>?_⟩
 ·rw [List.getD_eq_getElem?_getD,List.getElem?_set]
  by_cases e:k=j
  ·subst e
   rw [if_pos rfl,if_pos (by omega)]
   exact hu
  ·rw [if_neg e]
   have:=h2 j (by omega)
   rwa [List.getD_eq_getElem?_getD] at this
 ·rw [List.getElem?_set,if_neg (by omega)]
  exact h3 j (by omega) hjn
theorem zb9.start (c:Nat→Nat) (n:Nat):zb9 c n 0 (List.replicate n .nilIface):=⟨by simp,fun j hj=>by omega,fun j _ hj=>by simp [hj]⟩
theorem zb9.done {c:Nat→Nat} {n:Nat} {ys:List Value} (h:zb9 c n n ys):FVs ((List.range n).map c) ys:=by
 obtain ⟨h1,h2,h3⟩:=h
 refine ⟨by simp [h1],fun j d u hc hu=>?_⟩
 have hj:j<n:=by have:=(List.getElem?_eq_some_iff.1 hu).1;omega
 have:=h2 j hj
 rw [List.getD_eq_getElem?_getD,hu] at this
 simp [hj] at hc
 subst hc
 exact this
def zkr (w:World) (n:Nat) (f:Nat→ByteArray) (c:Nat→Nat) (e:Ending) (w':World):Prop:=
 ∃(oa fa:Option Addr) (oc fc:Nat) (ys:List Value),e = .returned (.tuple #[.slice oa n oc, .slice fa n fc])∧ys.length=n∧yT w' fa ys∧FVs ((List.range n).map c) ys∧Below w.heap.size w w' ∧
  w'.ownsRow w.heap.size 9 1 (.slice oa n oc) n (ZC f n n)
theorem zi5 (us:List Value) (ao:Option Addr) (cap g:Nat) (lb:Array Value) (f:Nat→ByteArray) (c:Nat→Nat) (w:World) (hn:us.length≤10000) (eg:∀args w,(callFunc g args).run Tryz.prog w = .ok (.enter g args) w)
  (hm:yT w ao us) (hif:∀u ∈ us,u = .nilIface∨∃T x,u = .iface T x) (hp:zjv g lb (fun j=>us.getD j .nilIface) us.length f c w) :
  Calls Tryz.prog 199 #[.slice ao us.length cap, .func (.func g) #[] lb] w (zkr w us.length f c):=by
 obtain ⟨i0,hi,hz0,hz1,hz2⟩:=info_parts (show (Tryz.prog.info? 9).map (fun i=>(i.zero,i.size,i.bytes))=some (some (.string ⟨#[]⟩),1,16) by kernel_rfl)
 obtain ⟨i1,hj,hy0,hy1,hy2⟩:=info_parts (show (Tryz.prog.info? 74).map (fun i=>(i.zero,i.size,i.bytes))=some (some .nilIface,1,16) by kernel_rfl)
 obtain ⟨n,hnn⟩:∃n,us.length=n:=⟨_,rfl⟩
 rw [hnn] at hn hp ⊢
 have HM:=hid hm
 have HIF:=hid hif
 have HP:=hid hp
 have HNN:=hid hnn
 clear hm hif hp hnn
 go_enter Tryz.func199,Tryz.ntmps199
 go_wp2_with (at_make;refine wpList_make_full _ rfl _ _ 42 rfl w.heap.size 9 i0 (.string ⟨#[]⟩) 1 Tryz.underlying42 hi hz0 hz1 _ _ _ _ n rfl rfl ?_ ?_ ?_ ?_ ?_ ?_)
 ·omega
 ·omega
 ·rw [hz2];omega
 ·unfold maxLen;omega
 ·omega
 intro w1 own1 grow1
 have ow1:w1.ownsRow w.heap.size 9 1 (.slice (some ⟨w.heap.size,0,none⟩) n n) n (ZC f n 0):=by
  rw [zg3,← toList_madeCells_one];exact own1
 have bel1:Below w.heap.size w w1:=(Below.refl _ w).grown grow1 (Nat.le_refl _) (fun k hk=>by cases hk)
 clear own1
 go_wp2_with (at_make;refine wpList_make_full _ rfl _ _ 126 rfl w.heap.size 74 i1 .nilIface 1 Tryz.underlying126 hj hy0 hy1 _ _ _ _ n rfl rfl ?_ ?_ ?_ ?_ ?_ ?_)
 ·omega
 ·omega
 ·rw [hy2];omega
 ·unfold maxLen;omega
 ·have:=bel1.size;omega
 intro w2 own2 grow2
 have ow2:w2.ownsRow w.heap.size 74 1 (.slice (some ⟨w1.heap.size,0,none⟩) n n) n (List.replicate n .nilIface):=by
  rw [← toList_madeCells_one];exact own2
 have ow1b:=ow1.kept grow2 (.inr (by simp [Value.ownBlock]))
 have hlt1:w.heap.size<w1.heap.size:=(ow1.lt _ rfl).2
 have bel2:Below w.heap.size w w2:=bel1.grown grow2 bel1.size (fun k hk=>by cases hk)
 obtain ⟨eb,heb⟩:∃eb,w1.heap.size=eb:=⟨_,rfl⟩
 rw [heb] at ow2 hlt1 ⊢
 have hne:w.heap.size≠eb:=by omega
 have OW1:=hid ow1b
 have OW2:=hid ow2
 have BEL:=hid bel2
 clear own2 grow2 grow1 ow1 bel1 ow1b ow2 bel2 heb
 go_wp2_with fail
 go_loopw [18] (fun iv wr=>∃(k:Nat) (ys:List Value),k≤n∧iv = .int .i64 k∧zb9 c n k ys∧wr.ownsRow w.heap.size 9 1 (.slice (some ⟨w.heap.size,0,none⟩) n n) n (ZC f n k)∧wr.ownsRow w.heap.size 74 1 (.slice (some ⟨eb,0,none⟩) n n) n ys∧Below w.heap.size w wr) (fun iv _=>n-(intOf iv).toNat)
 case atStart=>exact ⟨0,_,Nat.zero_le _,rfl,zb9.start c n,OW1.out,OW2.out,BEL.out⟩
 case round=>
  obtain ⟨k,ys,hk,rfl,hys,ro,re,rb⟩:=hrel
  clear OW1 OW2 BEL
  have RO:=hid ro
  have RE:=hid re
  have RB:=hid rb
  have HYS:=hid hys
  clear ro re rb hys
  by_cases hlt:k<n
  ·have hku:k<us.length:=by rw [HNN.out];exact hlt
   have hgd:us.getD k .nilIface=us[k]:=by rw [List.getD_eq_getElem?_getD,List.getElem?_eq_getElem hku];rfl
   have hpk:=HP.out wr k hlt RB.out
   have hv:=HIF.out us[k] (List.getElem_mem hku)
   rcases HM.out with hnil|⟨b,o,hao,hc⟩
   ·rw [hnil] at hku;simp at hku
   subst hao
   have q:=cell_later RB.out (hc k hku)
   simp only [hgd] at hpk
   obtain ⟨u,hu⟩:∃u,us[k]=u:=⟨_,rfl⟩
   rw [hu] at q hpk hv
   clear hu hc hgd
   have fin:Hid (∀w3 x,Below wr.heap.size wr w3→FV (c k) x→zb9 c n (k+1) (ys.set k x)∧((w3.setCell ⟨w.heap.size,k,none⟩ (.string (f k))).setCell ⟨eb,k,none⟩ x).ownsRow w.heap.size 9 1 (.slice (some ⟨w.heap.size,0,none⟩) n n) n (ZC f n (k+1)) ∧
     ((w3.setCell ⟨w.heap.size,k,none⟩ (.string (f k))).setCell ⟨eb,k,none⟩ x).ownsRow w.heap.size 74 1 (.slice (some ⟨eb,0,none⟩) n n) n (ys.set k x)∧Below w.heap.size w ((w3.setCell ⟨w.heap.size,k,none⟩ (.string (f k))).setCell ⟨eb,k,none⟩ x)):=by
    intro w3 x hb3 hx
    have o3:=ownsRow_below RO.out hb3
    have e3:=ownsRow_below RE.out hb3
    have o4:=(o3.stored k (.string (f k))).1
    rw [zjn] at o4
    have e4:=ownsRow_setCell_other e3 (a:=⟨w.heap.size,k,none⟩) (by simp only [Value.ownBlock];intro e;simp only [Option.some.injEq] at e;exact hne e.symm) (.string (f k))
    exact ⟨HYS.out.set hlt hx,ownsRow_setCell_other o4 (by simp only [Value.ownBlock];intro e;simp only [Option.some.injEq] at e;exact hne e) _,(e4.stored k x).1,((RB.out.trans (hb3.mono RB.out.size)).setCell (Nat.le_refl _) _).setCell (by show w.heap.size≤eb;omega) _⟩
   have cells:Hid (∀w3,Below wr.heap.size wr w3→w3.cell? ⟨w.heap.size,k,none⟩=some (.string ⟨#[]⟩)∧w3.frozen? ⟨w.heap.size,k,none⟩=false∧w3.cell? ⟨eb,k,none⟩=some .nilIface∧w3.frozen? ⟨eb,k,none⟩=false):=by
    intro w3 hb3
    have o3:=ownsRow_below RO.out hb3
    have e3:=ownsRow_below RE.out hb3
    exact ⟨(o3.cellAt k (by omega)).trans (zjR f n k hlt),o3.frozenAt k,(e3.cellAt k (by omega)).trans (HYS.out.2.2 k (Nat.le_refl _) hlt),e3.frozenAt k⟩
   rcases hv with rfl|⟨T,y,rfl⟩
   ·go_wp2_with (go_at_fn g;refine hpk.mono ?_;rintro e w3 ⟨x,rfl,hfv,hb3⟩;obtain ⟨d1,d2,d3,d4⟩:=cells.out w3 hb3;have FIN:=hid (fin.out w3 x hb3 hfv);rcases hfv.form with rfl|⟨T,z,rfl⟩)
    all_goals
     go_roundw
     case rel=>exact ⟨k+1,_,by omega,by go_num,FIN.out.1,FIN.out.2.1,FIN.out.2.2.1,FIN.out.2.2.2⟩
     case measure=>simp [intOf];omega
   ·go_wp2_with (go_at_fn g;refine hpk.mono ?_;rintro e w3 ⟨x,rfl,hfv,hb3⟩;obtain ⟨d1,d2,d3,d4⟩:=cells.out w3 hb3;have FIN:=hid (fin.out w3 x hb3 hfv);rcases hfv.form with rfl|⟨T,z,rfl⟩)
    all_goals
     go_roundw
     case rel=>exact ⟨k+1,_,by omega,by go_num,FIN.out.1,FIN.out.2.1,FIN.out.2.2.1,FIN.out.2.2.2⟩
     case measure=>simp [intOf];omega
  ·have hkn:k=n:=by omega
   subst hkn
   have hE:=HYS.out.done
   have hl:=HYS.out.1
   go_wp2
   go_ret2
   refine ⟨_,_,_,_,ys,rfl,hl,?_,hE,RB.out,RO.out⟩
   exact .inr ⟨eb,0,rfl,fun j hj=>by rw [Nat.zero_add];exact (RE.out.cellAt j (by omega)).trans (List.getElem?_eq_getElem hj)⟩
def zbl (g:Nat) (lb:Array Value) (f:Option Rd.V→ByteArray) (c:Option Rd.V→Nat) (L:Nat) (w:World):Prop:=
 ∀W (y:Option Rd.V) (u:Value),(∀v,y=some v→Rd.Good L v)→OAt W y u→Below w.heap.size w W→Calls Tryz.prog g (#[u]++lb) W (QZ W (f y) (c y))
def vJ (w:World) (ss:List ByteArray) (c:Nat) (e:Ending) (w':World):Prop:=
 ∃lv u,e = .returned (.tuple #[lv,u])∧FV c u∧Below w.heap.size w w'∧w'.ownsRow w.heap.size 9 1 lv ss.length (ss.map Value.string)
theorem OAt.form {w:World} {x:Option Rd.V} {u:Value} (h:OAt w x u):u = .nilIface∨∃T y,u = .iface T y:=by
 cases x with
 | none=>exact .inl h
 | some v=>exact .inr (ValAt.iface h)
theorem vO {α β:Type} (l:List α) (d:α) (f:α→β):(List.range l.length).map (fun j=>f (l.getD j d))=l.map f:=by
 apply List.ext_getElem
 ·simp
 intro i h1 h2
 simp only [List.length_map,List.length_range] at h1
 simp [h1]
theorem zaP (xs:List (Option Rd.V)) (us:List Value) (ao:Option Addr) (cap g:Nat) (lb:Array Value) (f:Option Rd.V→ByteArray) (c:Option Rd.V→Nat) (L:Nat) (w:World) (hl:us.length=xs.length) (hn:us.length≤10000) (eg:∀args w,(callFunc g args).run Tryz.prog w = .ok (.enter g args) w)
  (hm:yT w ao us) (hx:∀(j:Nat) (x:Option Rd.V) (u:Value),xs[j]?=some x→us[j]?=some u→OAt w x u) (hG:∀x ∈ xs,∀v,x=some v→Rd.Good L v) (hp:zbl g lb f c L w) :
  Calls Tryz.prog 199 #[.slice ao us.length cap, .func (.func g) #[] lb] w fun e w'=>
   ∃(oa fa:Option Addr) (oc fc:Nat) (ys:List Value),e = .returned (.tuple #[.slice oa us.length oc, .slice fa us.length fc])∧ys.length=us.length∧yT w' fa ys∧FVs (xs.map c) ys∧Below w.heap.size w w' ∧
    w'.ownsRow w.heap.size 9 1 (.slice oa us.length oc) us.length ((xs.map f).map Value.string):=by
 have hat:∀j,(h:j<us.length)→OAt w (xs.getD j none) us[j]:=fun j h=>by
  have h2:j<xs.length:=by omega
  rw [List.getD_eq_getElem?_getD,List.getElem?_eq_getElem h2]
  exact hx j _ _ (List.getElem?_eq_getElem h2) (List.getElem?_eq_getElem h)
 refine (zi5 us ao cap g lb (fun j=>f (xs.getD j none)) (fun j=>c (xs.getD j none)) w hn eg hm ?_ ?_).mono ?_
 ·intro u hu
  obtain ⟨j,hj,rfl⟩:=List.getElem_of_mem hu
  exact (hat j hj).form
 ·intro W j hj hb
  have h2:j<xs.length:=by omega
  have:=hp W (xs.getD j none) us[j] (fun v hv=>hG _ (by rw [List.getD_eq_getElem?_getD,List.getElem?_eq_getElem h2];exact List.getElem_mem h2) v hv) ((hat j hj).below hb) hb
  rw [show us[j]=us.getD j .nilIface by rw [List.getD_eq_getElem?_getD,List.getElem?_eq_getElem hj];rfl] at this
  exact this
 ·rintro e w' ⟨oa,fa,oc,fc,ys,rfl,h1,h2,h3,h4,h5⟩
  refine ⟨oa,fa,oc,fc,ys,rfl,h1,h2,?_,h4,?_⟩
  ·rw [hl,vO] at h3;exact h3
  ·have e1:ZC (fun j=>f (xs.getD j none)) us.length us.length=(xs.map f).map Value.string:=by
    rw [hl,List.map_map,← vO xs none (Value.string ∘ f)]
    unfold ZC
    refine List.map_congr_left fun j hj=>?_
    rw [if_pos (List.mem_range.1 hj)]
    rfl
   rw [e1] at h5
   exact h5
theorem Q9 {w:World} {x:Option Rd.V} {u:Value} (h:OAt w x u) (hx:∀vs,x≠some (.list vs)) (W:World):(Instr.typeAssert u 114 121 true).run Tryz.prog W = .ok (.tuple #[.slice none 0 0, .bool false]) W:=by
 cases x with
 | none=>
  have hu:u = .nilIface:=h
  subst hu
  exact zdA W
 | some v=>
  have hv:ValAt w (fun b=>b<w.heap.size) v u:=h
  cases hv with
  | str s=>exact zdF _ W
  | word b=>exact zar _ W
  | list vs=>exact absurd rfl (hx vs)
  | obj ms=>exact zdx _ W
theorem zek (c:Option Rd.V→Nat) (f:Option Rd.V→ByteArray) (x:Option Rd.V) (hx:∀vs,x≠some (.list vs)):Rd.Zu c x=Rd.Zc [c x]∧Rd.ZE f x=[f x]:=by
 match x with
 | none=>exact ⟨rfl,rfl⟩
 | some (.str s)=>exact ⟨rfl,rfl⟩
 | some (.word b)=>exact ⟨rfl,rfl⟩
 | some (.obj ms)=>exact ⟨rfl,rfl⟩
 | some (.list vs)=>exact absurd rfl (hx vs)
theorem KX (x:Option Rd.V) (u:Value) (g:Nat) (lb:Array Value) (f:Option Rd.V→ByteArray) (c:Option Rd.V→Nat) (L:Nat) (w:World) (hg:jq w) (eg:∀args w,(callFunc g args).run Tryz.prog w = .ok (.enter g args) w)
  (hx:OAt w x u) (hG:∀v,x=some v→Rd.Good L v) (hp:zbl g lb f c L w) (hno:∀vs,x≠some (.list vs)) :
  Calls Tryz.prog 151 #[u, .func (.func g) #[] lb] w (vJ w (Rd.ZE f x) (Rd.Zu c x)):=by
 have ta:=fun W=>Q9 hx hno W
 rw [(zek c f x hno).1,(zek c f x hno).2]
 have hb0:=(Below.refl _ w).alloc (Nat.le_refl _) (.cells #[u] 114)
 have cE:=zaP [x] [u] (some ⟨w.heap.size,0,none⟩) 1 g lb f c L (w.alloc (.cells #[u] 114)) rfl (by simp) eg (.inr ⟨w.heap.size,0,rfl,fun j hj=>by
   simp only [List.length_singleton] at hj
   have:j=0:=by omega
   subst this
   simp⟩) (fun j y v hy hv=>by
   cases j with
   | zero=>
    simp only [List.getElem?_cons_zero,Option.some.injEq] at hy hv
    subst hy
    subst hv
    exact hx.below hb0
   | succ j=>simp at hy) (fun y hy v hv=>by simp only [List.mem_singleton] at hy;subst hy;exact hG v hv) (fun W y v h1 h2 h3=>hp W y v h1 h2 (hb0.trans (h3.mono (by simp))))
 simp only [List.map_cons,List.map_nil,List.length_singleton] at cE
 have hfm:=hx.form
 clear hx hp hno
 rcases hfm with rfl|⟨T,y,rfl⟩
 ·go_enter Tryz.func151,Tryz.ntmps151
  go_wp2_with (first
   | (go_at_call 102;refine hV.mono ?_;rintro e w2 ⟨v,rfl,hfv,hb2⟩)
   | (go_at_call 199;refine cE.mono ?_;rintro e w1 ⟨oa,fa,oc,fc,ys,rfl,hyl,hya,hyf,hb1,hown⟩;have bw1:Below w.heap.size w w1:=hb0.trans (hb1.mono (by simp));have hV:=kX [c x] ys fa fc w1 (hg.below bw1) (by omega) hya hyf;rw [hyl] at hV))
  go_ret2
  exact ⟨_,_,rfl,hfv,bw1.trans (hb2.mono bw1.size),ownsRow_below (zl hown (by simp)) hb2⟩
 ·go_enter Tryz.func151,Tryz.ntmps151
  go_wp2_with (first
   | (go_at_call 102;refine hV.mono ?_;rintro e w2 ⟨v,rfl,hfv,hb2⟩)
   | (go_at_call 199;refine cE.mono ?_;rintro e w1 ⟨oa,fa,oc,fc,ys,rfl,hyl,hya,hyf,hb1,hown⟩;have bw1:Below w.heap.size w w1:=hb0.trans (hb1.mono (by simp));have hV:=kX [c x] ys fa fc w1 (hg.below bw1) (by omega) hya hyf;rw [hyl] at hV))
  go_ret2
  exact ⟨_,_,rfl,hfv,bw1.trans (hb2.mono bw1.size),ownsRow_below (zl hown (by simp)) hb2⟩
theorem VO (vs:List Rd.V) (u:Value) (g:Nat) (lb:Array Value) (f:Option Rd.V→ByteArray) (c:Option Rd.V→Nat) (L:Nat) (w:World) (hg:jq w) (eg:∀args w,(callFunc g args).run Tryz.prog w = .ok (.enter g args) w)
  (hx:OAt w (some (.list vs)) u) (hG:Rd.Good L (.list vs)) (hp:zbl g lb f c L w) :
  Calls Tryz.prog 151 #[u, .func (.func g) #[] lb] w (vJ w (Rd.ZE f (some (.list vs))) (Rd.Zu c (some (.list vs)))):=by
 have hv:ValAt w (fun b=>b<w.heap.size) (.list vs) u:=hx
 clear hx
 have ta:=ZU
 have hgv:∀v ∈ vs,Rd.Good L v:=by cases hG with|list _ _ h=>exact h
 have hc:Rd.Zu c (some (.list vs))=if vs.length<1∨10<vs.length then 1 else Rd.Zc (vs.map fun v=>c (some v)):=rfl
 have hf:Rd.ZE f (some (.list vs))=if vs.length<1∨10<vs.length then [] else vs.map fun v=>f (some v):=rfl
 rw [hc,hf]
 clear hc hf
 cases hv with
 | list _ us ao cap h1 h2 h3=>
  by_cases hbad:vs.length<1∨10<vs.length
  ·rw [if_pos hbad,if_pos hbad]
   obtain ⟨n,hn⟩:∃n,us.length=n:=⟨_,rfl⟩
   rw [hn]
   have hbad2:n=0∨(¬n=0∧10<n):=by omega
   clear h2 h3 hp hgv
   rcases hbad2 with rfl|⟨h0,h10⟩
   ·go_enter Tryz.func151,Tryz.ntmps151
    go_wp2
    go_ret2
    exact ⟨_,_,rfl, .inr (.inl ⟨rfl,_,rfl⟩),Below.refl _ _,World.ownsRow_nil _ _ _ _⟩
   ·have hz:((n:Int)==0)=false:=by simp;omega
    have ht:decide ((10:Int)<(n:Int))=true:=by simp;omega
    go_enter Tryz.func151,Tryz.ntmps151
    go_wp2
    go_ret2
    exact ⟨_,_,rfl, .inr (.inl ⟨rfl,_,rfl⟩),Below.refl _ _,World.ownsRow_nil _ _ _ _⟩
  ·rw [if_neg hbad,if_neg hbad]
   have cE:=zaP (vs.map some) us ao cap g lb f c L w (by simp [h1]) (by omega) eg (by
     rcases h2 with h2|⟨b,ha,_,hc⟩
     ·exact .inl h2
     ·exact .inr ⟨b,0,ha,fun j hj=>by rw [Nat.zero_add];exact hc j _ (List.getElem?_eq_getElem hj)⟩)
    (fun j y v hy hv=>by
     rw [List.getElem?_map] at hy
     obtain ⟨z,hz,rfl⟩:=Option.map_eq_some_iff.1 hy
     exact h3 j z v hz hv) (fun y hy v hv=>by
     rw [List.mem_map] at hy
     obtain ⟨z,hz,rfl⟩:=hy
     simp only [Option.some.injEq] at hv
     subst hv
     exact hgv z hz) hp
   simp only [List.map_map] at cE
   have hlen:(vs.map fun v=>f (some v)).length=us.length:=by simp [h1]
   have hn1:¬us.length=0:=by omega
   have hn10:us.length≤10:=by omega
   clear h2 h3 hp hgv hbad hG h1
   have HLEN:=hid hlen
   clear hlen
   obtain ⟨n,hn⟩:∃n,us.length=n:=⟨_,rfl⟩
   rw [hn] at cE hn1 hn10 ⊢
   have HN:=hid hn
   clear hn
   have hz:((n:Int)==0)=false:=by simp;omega
   have ht:decide ((10:Int)<(n:Int))=false:=by simp;omega
   go_enter Tryz.func151,Tryz.ntmps151
   go_wp2_with (first
    | (go_at_call 102;refine hV.mono ?_;rintro e w2 ⟨v,rfl,hfv,hb2⟩)
    | (go_at_call 199;refine cE.mono ?_;rintro e w1 ⟨oa,fa,oc,fc,ys,rfl,hyl,hya,hyf,hb1,hown⟩;have hV:=kX _ ys fa fc w1 (hg.below hb1) (by omega) hya hyf;rw [hyl] at hV))
   go_ret2
   refine ⟨_,_,rfl,hfv,hb1.trans (hb2.mono hb1.size),?_⟩
   have ho:=ownsRow_below hown hb2
   rw [HLEN.out,HN.out,List.map_map]
   exact ho
theorem Zp (x:Option Rd.V) (u:Value) (g:Nat) (lb:Array Value) (f:Option Rd.V→ByteArray) (c:Option Rd.V→Nat) (L:Nat) (w:World) (hg:jq w) (eg:∀args w,(callFunc g args).run Tryz.prog w = .ok (.enter g args) w)
  (hx:OAt w x u) (hG:∀v,x=some v→Rd.Good L v) (hp:zbl g lb f c L w) :
  Calls Tryz.prog 151 #[u, .func (.func g) #[] lb] w (vJ w (Rd.ZE f x) (Rd.Zu c x)):=by
 by_cases h:∃vs,x=some (.list vs)
 ·obtain ⟨vs,rfl⟩:=h
  exact VO vs u g lb f c L w hg eg hx (hG _ rfl) hp
 ·exact KX x u g lb f c L w hg eg hx hG hp (fun vs e=>h ⟨vs,e⟩)
structure zdY (w:World):Prop where
 tabs:Y3 w
 max:KG w
 err:jq w
theorem zdY.below {w w':World} (h:zdY w) (hb:Below w.heap.size w w'):zdY w':=⟨h.tabs.below hb,h.max.below hb,h.err.below hb⟩
theorem Kz (x:Option Rd.V) (u:Value) (w:World) (hE:zdY w) (hx:OAt w x u) (hL:∀s,x=some (.str s)→s.size≤4000) :
  Calls Tryz.prog 152 #[u] w (QZ w (Rd.strOf x) (Rd.VH x)):=by
 cases x with
 | none=>
  have hu:u = .nilIface:=hx
  subst hu
  have ta:=Yz
  go_enter Tryz.func152,Tryz.ntmps152
  go_wp2
  go_ret2
  exact ⟨_,rfl, .inr (.inl ⟨rfl,_,rfl⟩),Below.refl _ _⟩
 | some v=>
  have hv:ValAt w (fun b=>b<w.heap.size) v u:=hx
  clear hx
  cases hv with
  | word b=>
   have ta:=Q3
   go_enter Tryz.func152,Tryz.ntmps152
   go_wp2
   go_ret2
   exact ⟨_,rfl, .inr (.inl ⟨rfl,_,rfl⟩),Below.refl _ _⟩
  | list vs us ao cap h1 h2 h3=>
   clear h1 h2 h3
   have ta:=QQ
   go_enter Tryz.func152,Tryz.ntmps152
   go_wp2
   go_ret2
   exact ⟨_,rfl, .inr (.inl ⟨rfl,_,rfl⟩),Below.refl _ _⟩
  | obj ms us ao cap h1 h2 h3=>
   clear h1 h2 h3
   have ta:=Yo
   go_enter Tryz.func152,Tryz.ntmps152
   go_wp2
   go_ret2
   exact ⟨_,rfl, .inr (.inl ⟨rfl,_,rfl⟩),Below.refl _ _⟩
  | str s=>
   have hs:=hL s rfl
   have c:=zhA s w (by unfold maxLen;omega) hE.max hE.tabs
   have hc:Rd.VH (some (.str s))=Rd.cls false (!Ref.xY s):=rfl
   have hr:Rd.strOf (some (.str s))=s:=rfl
   rw [hc,hr]
   unfold Ref.xY
   have ta:=kY
   clear hL hc hr hs hE
   cases hP:Ref.parts s with
   | none=>
    rw [hP] at c
    clear hP
    go_enter Tryz.func152,Tryz.ntmps152
    go_wp2_with (go_at_call 173;refine c.mono ?_;rintro e w1 ⟨v,y,rfl,hb1,hpost⟩;rcases hpost with ⟨_,rfl,k,rfl⟩|⟨ps,hps,_⟩;rotate_left;cases hps)
    go_ret2
    exact ⟨_,rfl, .inr (.inr ⟨rfl,k,rfl⟩),hb1⟩
   | some ps=>
    rw [hP] at c
    clear hP
    go_enter Tryz.func152,Tryz.ntmps152
    go_wp2_with (go_at_call 173;refine c.mono ?_;rintro e w1 ⟨v,y,rfl,hb1,hpost⟩;rcases hpost with ⟨hps,_⟩|⟨ps',hps,rfl,hown⟩;cases hps;cases hps)
    go_ret2
    exact ⟨_,rfl, .inl ⟨rfl,rfl⟩,hb1⟩
end Go.Proofs.YtdakgnaojakldaaGreatDoor
