/- P -/
import Derived.Test.YtdakgnaojakldaaGreatDoorP33
import Derived.Test.YtdakgnaojakldaaGreatDoorP46
set_option maxRecDepth 100000
set_option maxHeartbeats 8000000
namespace Go.Proofs.YtdakgnaojakldaaGreatDoor
open Go.RowKit
theorem zdP (a b:List UInt8):∀(k:Nat),k≤a.length→k≤b.length→a.take k=b.take k→Lib.compareBytes a b=Lib.compareBytes (a.drop k) (b.drop k)
 | 0,_,_,_=>rfl
 | k+1,ha,hb,h=>by
  match a,b,ha,hb with
  | x::a,y::b,ha,hb=>
   simp only [List.take_succ_cons,List.cons.injEq] at h
   obtain ⟨rfl,h⟩:=h
   have ih:=zdP a b k (by simpa using ha) (by simpa using hb) h
   rw [List.drop_succ_cons,List.drop_succ_cons,← ih,Lib.compareBytes,if_neg (UInt8.lt_irrefl x),if_neg (UInt8.lt_irrefl x)]
theorem zdw (a b:ByteArray) (k:Nat) (ha:k<a.size) (hb:k<b.size) (h:a.data.toList.take k=b.data.toList.take k) (hne:a[k].toNat≠b[k].toNat):decide (uA a b<0)=decide (a[k].toNat<b[k].toNat):=by
 unfold uA
 have la:a.data.toList.length=a.size:=by simp
 have lb:b.data.toList.length=b.size:=by simp
 have ka:k<a.data.toList.length:=by omega
 have kb:k<b.data.toList.length:=by omega
 rw [zdP _ _ k (by omega) (by omega) h,List.drop_eq_getElem_cons ka,List.drop_eq_getElem_cons kb]
 have ea:a.data.toList[k]'ka=a[k]:=rfl
 have eb:b.data.toList[k]'kb=b[k]:=rfl
 rw [ea,eb,Lib.compareBytes]
 by_cases c:a[k]<b[k]
 ·have c':a[k].toNat<b[k].toNat:=c
  rw [if_pos c,decide_eq_true c'];rfl
 ·have c':¬a[k].toNat<b[k].toNat:=c
  have d:b[k]<a[k]:=by show b[k].toNat<a[k].toNat;omega
  rw [if_neg c,if_pos d,decide_eq_false c'];rfl
theorem zjV (a b:ByteArray) (k:Nat) (ha:k≤a.size) (hb:k≤b.size) (h:a.data.toList.take k=b.data.toList.take k) (he:k=a.size∨k=b.size):decide (uA a b<0)=decide (a.size<b.size):=by
 unfold uA
 have la:a.data.toList.length=a.size:=by simp
 have lb:b.data.toList.length=b.size:=by simp
 rw [zdP _ _ k (by omega) (by omega) h]
 have e1:(a.data.toList.drop k).length=a.size-k:=by rw [List.length_drop,la]
 have e2:(b.data.toList.drop k).length=b.size-k:=by rw [List.length_drop,lb]
 generalize a.data.toList.drop k=x at e1
 generalize b.data.toList.drop k=y at e2
 match x,y,e1,e2 with
 | [],[],e1,e2=>
  have:¬a.size<b.size:=by simp at e1 e2;omega
  rw [decide_eq_false this];rfl
 | [],_::_,e1,e2=>
  have:a.size<b.size:=by simp at e1 e2;omega
  rw [decide_eq_true this];rfl
 | _::_,[],e1,e2=>
  have:¬a.size<b.size:=by simp at e1 e2;omega
  rw [decide_eq_false this];rfl
 | _::_,_::_,e1,e2=>simp at e1 e2;omega
theorem zim (a b:ByteArray) (k:Nat) (ha:k<a.size) (hb:k<b.size) (h:a.data.toList.take k=b.data.toList.take k) (he:a[k].toNat=b[k].toNat):a.data.toList.take (k+1)=b.data.toList.take (k+1):=by
 have la:a.data.toList.length=a.size:=by simp
 have lb:b.data.toList.length=b.size:=by simp
 have ka:k<a.data.toList.length:=by omega
 have kb:k<b.data.toList.length:=by omega
 rw [List.take_succ_eq_append_getElem ka,List.take_succ_eq_append_getElem kb,h]
 have ea:a.data.toList[k]'ka=a[k]:=rfl
 have eb:b.data.toList[k]'kb=b[k]:=rfl
 rw [ea,eb,UInt8.toNat_inj.1 he]
theorem zms (a b:ByteArray) (w:World) (ha:a.size≤maxLen) :
  Calls Tryz.prog 181 #[.string a, .string b] w fun e w'=>e = .returned (.bool (decide (uA a b<0)))∧Below w.heap.size w w':=by
 have h1:=zdw a b
 have h2:=zjV a b
 have h3:=zim a b
 unfold maxLen at ha
 have H1:=hid h1
 have H2:=hid h2
 have H3:=hid h3
 clear h1 h2 h3
 go_enter Tryz.func181,Tryz.ntmps181
 go_wp2
 go_loopw [5] (fun iv wr=>∃k:Nat,k≤a.size∧k≤b.size∧iv = .int .i64 k∧a.data.toList.take k=b.data.toList.take k∧Below w.heap.size w wr) (fun iv _=>a.size-(intOf iv).toNat)
 case atStart=>exact ⟨0,Nat.zero_le _,Nat.zero_le _,rfl,rfl,Below.refl _ _⟩
 case round=>
  obtain ⟨k,hka,hkb,rfl,hpre,hbel⟩:=hrel
  have HP:=hid hpre
  have HB:=hid hbel
  clear hpre hbel
  by_cases hlt:k<a.size∧k<b.size
  ·obtain ⟨hl1,hl2⟩:=hlt
   have k0:(0:Int)≤(k:Int):=Int.natCast_nonneg _
   have k1:(k:Int)<(a.size:Int):=by omega
   have k2:(k:Int)<(b.size:Int):=by omega
   have g1:=H1.out k hl1 hl2 HP.out
   have g3:=H3.out k hl1 hl2 HP.out
   by_cases hne:a[k].toNat=b[k].toNat
   ·have HG:=hid (g3 hne)
    have d:((a[k].toNat:Int)==(b[k].toNat:Int))=true:=by simp [hne]
    have d2:((a[k].toNat:Int) != (b[k].toNat:Int))=false:=by simp [hne]
    clear g1 g3 H1 H2 H3 hne
    go_wp2_with fail
    go_quiet (fail)
    go_wp2
    go_roundw
    case rel=>exact ⟨k+1,by omega,by omega,by go_num,HG.out,below_drewN HB.out nq⟩
    case measure=>simp [intOf];omega
   ·have HG:=hid (g1 hne)
    have d:((a[k].toNat:Int)==(b[k].toNat:Int))=false:=by simp;omega
    have d2:((a[k].toNat:Int) != (b[k].toNat:Int))=true:=by simp;omega
    clear g1 g3 H1 H2 H3
    go_wp2_with fail
    go_quiet (fail)
    go_wp2_with fail
    go_quiet (fail)
    go_wp2
    go_ret
    exact ⟨by rw [HG.out];rfl,below_drewN (below_drewN HB.out _) _⟩
  ·have he:=H2.out k hka hkb HP.out (by omega)
   have HE:=hid he
   clear he H1 H2 H3 HP
   by_cases hl1:k<a.size
   ·have e1:decide ((k:Int)<(b.size:Int))=false:=by simp;omega
    go_wp2_with fail
    go_ret
    exact ⟨by rw [HE.out];simp,HB.out⟩
   ·have e1:decide ((k:Int)<(a.size:Int))=false:=by simp;omega
    go_wp2_with fail
    go_ret
    exact ⟨by rw [HE.out];simp,HB.out⟩
theorem UX (l:Int) (name:ByteArray) (w:World) (hs:name.size≤maxLen) :
  Calls Tryz.prog 124 #[.int .i64 l, .string name] w fun e w'=>e = .returned (.int .i64 (ql l name))∧w'=w:=by
 have c2:=fun W=>Yq name W hs
 unfold ql qJ
 obtain ⟨b,hb⟩:∃x,Ref.zY name=x:=⟨_,rfl⟩
 simp only [hb] at c2
 simp only [hb]
 have C2:=hid c2
 clear c2 hb
 by_cases h1:l<0
 ·have d1:decide (0≤l)=false:=by simp;omega
  rw [d1]
  go_enter Tryz.func124,Tryz.ntmps124
  go_wp2_with fail
  go_ret
  exact ⟨rfl,rfl⟩
 ·have d1:decide (0≤l)=true:=by simp;omega
  by_cases h2:4≤l
  ·have d2:decide (l<4)=false:=by simp;omega
   rw [d1,d2]
   go_enter Tryz.func124,Tryz.ntmps124
   go_wp2_with fail
   go_ret
   exact ⟨rfl,rfl⟩
  ·have d2:decide (l<4)=true:=by simp;omega
   rw [d1,d2]
   cases b
   all_goals
    go_enter Tryz.func124,Tryz.ntmps124
    go_wp2_with (go_at_call 180;refine (C2.out _).mono ?_;rintro e w2 ⟨rfl,e2⟩;rw [e2];clear e2)
    go_ret
    exact ⟨rfl,rfl⟩
def jA (M:Nat→Prop) (W:World) (dv:Value) (rs:List Rd.qN):Prop:=
 ∃base W0,yB W0 base dv rs∧W0.heap.size≤W.heap.size∧∀b,base≤b→b<W0.heap.size→¬M b∧W.heap[b]?=W0.heap[b]?
theorem jA.at {M:Nat→Prop} {W:World} {dv:Value} {ss:List Rd.qN} (h:jA M W dv ss):∃base,yB W base dv ss:=by
 obtain ⟨base,W0,h1,_,h3⟩:=h
 exact ⟨base,h1.kept (fun b hb hl=>(h3 b hb hl).2)⟩
theorem jA.turn {M:Nat→Prop} {W W':World} {dv:Value} {ss:List Rd.qN} (h:jA M W dv ss) (k:zF M W W'):jA M W' dv ss:=by
 obtain ⟨base,W0,h1,h2,h3⟩:=h
 exact ⟨base,W0,h1,Nat.le_trans h2 k.size,fun b hb hl=>⟨(h3 b hb hl).1,(k.block b (Nat.lt_of_lt_of_le hl h2) (h3 b hb hl).1).trans (h3 b hb hl).2⟩⟩
theorem jA.of {M:Nat→Prop} {W:World} {dv:Value} {ss:List Rd.qN} {base:Nat} (h:yB W base dv ss) (hM:∀b,M b→b<base):jA M W dv ss:=
 ⟨base,W,h,Nat.le_refl _,fun b hb _=>⟨fun hm=>absurd (hM b hm) (by omega),rfl⟩⟩
theorem jA.more {M M':Nat→Prop} {W:World} {dv:Value} {ss:List Rd.qN} (h:jA M W dv ss) (hM:∀b,M' b→M b∨W.heap.size≤b):jA M' W dv ss:=by
 obtain ⟨base,W0,h1,h2,h3⟩:=h
 refine ⟨base,W0,h1,h2,fun b hb hl=>⟨fun hm=>?_,(h3 b hb hl).2⟩⟩
 rcases hM b hm with h|h
 ·exact (h3 b hb hl).1 h
 ·omega
structure zG where
 layer:Int
 name:ByteArray
 rs:List Rd.qN
def yP (M:Nat→Prop) (W:World) (xs:List Value) (ks:List zG):Prop:=
 xs.length=ks.length*3∧∀(k:Nat) (x:zG),ks[k]?=some x→∃da dn dc,xs[k*3]?=some (.int .i64 x.layer)∧xs[k*3+1]?=some (.string x.name)∧xs[k*3+2]?=some (.slice da dn dc)∧jA M W (.slice da dn dc) x.rs
theorem yP.turn {M:Nat→Prop} {W W':World} {xs:List Value} {L:List zG} (h:yP M W xs L) (k:zF M W W'):yP M W' xs L:=
 ⟨h.1,fun j x hx=>by obtain ⟨da,dn,dc,h1,h2,h3,h4⟩:=h.2 j x hx;exact ⟨da,dn,dc,h1,h2,h3,h4.turn k⟩⟩
theorem yP.more {M M':Nat→Prop} {W:World} {xs:List Value} {L:List zG} (h:yP M W xs L) (hM:∀b,M' b→M b∨W.heap.size≤b):yP M' W xs L:=
 ⟨h.1,fun j x hx=>by obtain ⟨da,dn,dc,h1,h2,h3,h4⟩:=h.2 j x hx;exact ⟨da,dn,dc,h1,h2,h3,h4.more hM⟩⟩
theorem yP.nil {M:Nat→Prop} {W:World}:yP M W [] []:=⟨rfl,fun k x hx=>by simp at hx⟩
theorem yP.one {M:Nat→Prop} {W:World} {da:Option Addr} {dn dc:Nat} {x:zG} (h:jA M W (.slice da dn dc) x.rs):yP M W [.int .i64 x.layer, .string x.name, .slice da dn dc] [x]:=by
 refine ⟨rfl,fun k y hy=>?_⟩
 match k,hy with
 | 0,hy=>
  simp only [List.getElem?_cons_zero,Option.some.injEq] at hy
  subst hy
  exact ⟨da,dn,dc,rfl,rfl,rfl,h⟩
 | k+1,hy=>simp at hy
theorem yP.take {M:Nat→Prop} {W:World} {xs:List Value} {L:List zG} (h:yP M W xs L) (p:Nat):yP M W (xs.take (p*3)) (L.take p):=by
 refine ⟨by rw [List.length_take,List.length_take,h.1];omega,fun k x hx=>?_⟩
 rw [List.getElem?_take] at hx
 split at hx
 ·rename_i hk
  obtain ⟨da,dn,dc,h1,h2,h3,h4⟩:=h.2 k x hx
  exact ⟨da,dn,dc,by rw [List.getElem?_take,if_pos (by omega)];exact h1,by rw [List.getElem?_take,if_pos (by omega)];exact h2,by rw [List.getElem?_take,if_pos (by omega)];exact h3,h4⟩
 ·cases hx
theorem yP.drop {M:Nat→Prop} {W:World} {xs:List Value} {L:List zG} (h:yP M W xs L) (p:Nat):yP M W (xs.drop (p*3)) (L.drop p):=by
 refine ⟨by rw [List.length_drop,List.length_drop,h.1];omega,fun k x hx=>?_⟩
 rw [List.getElem?_drop] at hx
 obtain ⟨da,dn,dc,h1,h2,h3,h4⟩:=h.2 (p+k) x hx
 exact ⟨da,dn,dc,by rw [List.getElem?_drop,show p*3+k*3=(p+k)*3 by omega];exact h1,by rw [List.getElem?_drop,show p*3+(k*3+1)=(p+k)*3+1 by omega];exact h2,by rw [List.getElem?_drop,show p*3+(k*3+2)=(p+k)*3+2 by omega];exact h3,h4⟩
theorem yP.app {M:Nat→Prop} {W:World} {xs ys:List Value} {L N:List zG} (h:yP M W xs L) (g:yP M W ys N):yP M W (xs++ys) (L++N):=by
 refine ⟨by rw [List.length_append,List.length_append,h.1,g.1];omega,fun k x hx=>?_⟩
 by_cases hk:k<L.length
 ·rw [List.getElem?_append_left hk] at hx
  obtain ⟨da,dn,dc,h1,h2,h3,h4⟩:=h.2 k x hx
  exact ⟨da,dn,dc,by rw [List.getElem?_append_left (by rw [h.1];omega)];exact h1,by rw [List.getElem?_append_left (by rw [h.1];omega)];exact h2,by rw [List.getElem?_append_left (by rw [h.1];omega)];exact h3,h4⟩
 ·rw [List.getElem?_append_right (by omega)] at hx
  obtain ⟨da,dn,dc,h1,h2,h3,h4⟩:=g.2 (k-L.length) x hx
  exact ⟨da,dn,dc,by rw [List.getElem?_append_right (by rw [h.1];omega),h.1,show k*3-L.length*3=(k-L.length)*3 by omega];exact h1,by rw [List.getElem?_append_right (by rw [h.1];omega),h.1,show k*3+1-L.length*3=(k-L.length)*3+1 by omega];exact h2,by rw [List.getElem?_append_right (by rw [h.1];omega),h.1,show k*3+2-L.length*3=(k-L.length)*3+2 by omega];exact h3,h4⟩
structure yM (M:Nat→Prop) (W:World) (cb:Nat) (lv:Value) (ks:List zG):Prop where
 mine:M cb
 cell:W.heap[cb]?=some (.cells #[lv] 173)
 rows:∃xs,W.ownsRow 0 251 3 lv ks.length xs∧yP M W xs ks
 own:∀g,lv.ownBlock=some g→M g∧g≠cb
theorem yM.below {M:Nat→Prop} {W W':World} {cb:Nat} {lv:Value} {ks:List zG} (h:yM M W cb lv ks) (hb:Below W.heap.size W W'):yM M W' cb lv ks:=by
 obtain ⟨xs,h1,h2⟩:=h.rows
 exact ⟨h.mine,(hb.block cb (lt_of_block h.cell)).trans h.cell,⟨xs,ownsRow_below h1 hb,h2.turn (zF.of hb)⟩,h.own⟩
theorem yM.cells {M:Nat→Prop} {W:World} {cb:Nat} {lv:Value} {ks:List zG} (h:yM M W cb lv ks):∃a c,lv = .slice a ks.length c∧∀(k:Nat) (x:zG),ks[k]?=some x→∃gb da dn dc,a=some ⟨gb,0,none⟩∧W.cell? ⟨gb,k*3,none⟩=some (.int .i64 x.layer)∧W.cell? ⟨gb,k*3+1,none⟩=some (.string x.name)∧W.cell? ⟨gb,k*3+2,none⟩=some (.slice da dn dc)∧jA M W (.slice da dn dc) x.rs:=by
 obtain ⟨xs,h1,h2⟩:=h.rows
 rcases h1.2 with ⟨e,h0⟩|⟨g,cap,cur,e,_⟩
 ·have hk:ks=[]:=List.length_eq_zero_iff.1 h0
  subst hk
  exact ⟨none,0,e,fun k x hx=>by simp at hx⟩
 ·refine ⟨some ⟨g,0,none⟩,cap,e,fun k x hx=>?_⟩
  have hk:k<ks.length:=(List.getElem?_eq_some_iff.1 hx).1
  obtain ⟨da,dn,dc,g1,g2,g3,g4⟩:=h2.2 k x hx
  have hc:∀i,i<ks.length*3→W.cell? ⟨g,i,none⟩=xs[i]?:=fun i hi=>World.ownsRow.cellAt (g:=g) (cap:=cap) (by rw [← e];exact h1) i (by omega)
  exact ⟨g,da,dn,dc,rfl,by rw [hc _ (by omega)];exact g1,by rw [hc _ (by omega)];exact g2,by rw [hc _ (by omega)];exact g3,g4⟩
def isR (l:Int) (name:ByteArray) (x:zG):Bool:=(x.layer==l)&&(x.name.toList==name.toList)
def zkV (ks:List zG) (l:Int) (name:ByteArray):Int:=match ks.findIdx? (isR l name) with
 | some k=>(k:Int)
 | none=>-1
theorem JQ {α:Type} (p:α→Bool):∀(l:List α) (k:Nat) (x:α),l[k]?=some x→p x=true→(∀(j:Nat) (y:α),j<k→l[j]?=some y→p y=false)→l.findIdx? p=some k
 | [],_,_,h,_,_=>by simp at h
 | a::l,0,x,h,hp,_=>by
  simp only [List.getElem?_cons_zero,Option.some.injEq] at h
  subst h
  rw [List.findIdx?_cons,hp];rfl
 | a::l,k+1,x,h,hp,hn=>by
  have ha:=hn 0 a (Nat.succ_pos _) rfl
  have:=JQ p l k x (by simpa using h) hp (fun j y hj hy=>hn (j+1) y (by omega) (by simpa using hy))
  rw [List.findIdx?_cons,ha,this];rfl
theorem zbe {α:Type} (p:α→Bool) (l:List α) (h:∀(j:Nat) (y:α),l[j]?=some y→p y=false):l.findIdx? p=none:=by
 rw [List.findIdx?_eq_none_iff]
 intro x hx
 obtain ⟨j,hj⟩:=List.getElem?_of_mem hx
 exact h j x hj
theorem UV (cb:Nat) (lv:Value) (ks:List zG) (l:Int) (name:ByteArray) (M:Nat→Prop) (w:World) (h:yM M w cb lv ks) (hn:ks.length≤maxLen) :
  Calls Tryz.prog 125 #[.pointer (some ⟨cb,0,none⟩), .int .i64 l, .string name] w fun e w'=>e = .returned (.int .i64 (zkV ks l name))∧w'=w:=by
 obtain ⟨a,c,rfl,hcells⟩:=h.cells
 have c0:=(cells_of_block h.cell 0).1
 simp at c0
 obtain ⟨n,hnn⟩:∃n,ks.length=n:=⟨_,rfl⟩
 rw [hnn] at hn c0
 unfold maxLen at hn
 have hhit:=JQ (isR l name) ks
 have hmiss:=zbe (isR l name) ks
 obtain ⟨R,hRR⟩:∃R,zkV ks l name=R:=⟨_,rfl⟩
 rw [hRR]
 unfold zkV at hRR
 have HRR:=hid hRR
 clear hRR
 have HC:=hid hcells
 have HN:=hid hnn
 have HH:=hid hhit
 have HM:=hid hmiss
 clear hcells hnn hhit hmiss h
 go_enter Tryz.func125,Tryz.ntmps125
 go_wp2
 go_loopw [7] (fun iv wr=>∃k:Nat,k≤n∧iv = .int .i64 k∧(∀(j:Nat) (y:zG),j<k→ks[j]?=some y→isR l name y=false)∧wr=w) (fun iv _=>n-(intOf iv).toNat)
 case atStart=>exact ⟨0,Nat.zero_le _,rfl,fun j y hj=>by omega,rfl⟩
 case round=>
  obtain ⟨k,hk,rfl,hno,hwr⟩:=hrel
  rw [hwr]
  have HNO:=hid hno
  clear hwr hno
  by_cases hlt:k<n
  ·have hkl:k<ks.length:=by rw [HN.out];exact hlt
   have hx:=List.getElem?_eq_getElem hkl
   obtain ⟨gb,da,dn,dc,rfl,q0,q1,_,_⟩:=HC.out k _ hx
   obtain ⟨x,hxx⟩:∃x,ks[k]=x:=⟨_,rfl⟩
   rw [hxx] at q0 q1 hx
   have HX:=hid hx
   obtain ⟨xl,xn,xr⟩:=x
   simp only at q0 q1
   have k0:(0:Int)≤(k:Int):=Int.natCast_nonneg _
   have k1:(k:Int)<(n:Int):=by omega
   have hR:isR l name ⟨xl,xn,xr⟩=((xl==l)&&(xn.toList==name.toList)):=rfl
   have HR:=hid hR
   clear hx hxx hR HC
   cases hb1:(xl==l) with
   | false=>
    have HF:Hid (isR l name ⟨xl,xn,xr⟩=false):=hid (by rw [HR.out,hb1];rfl)
    clear HR
    go_wp2_with fail
    go_roundw
    case rel=>
     refine ⟨k+1,by omega,by go_num,fun j y hj hy=>?_,by trivial⟩
     by_cases hjk:j<k
     ·exact HNO.out j y hjk hy
     ·have:j=k:=by omega
      subst this
      rw [HX.out] at hy
      injection hy with hy
      rw [← hy]
      exact HF.out
    case measure=>simp [intOf];omega
   | true=>
    cases hb2:(xn.toList==name.toList) with
    | false=>
     have HF:Hid (isR l name ⟨xl,xn,xr⟩=false):=hid (by rw [HR.out,hb1,hb2];rfl)
     clear HR
     go_wp2_with fail
     go_roundw
     case rel=>
      refine ⟨k+1,by omega,by go_num,fun j y hj hy=>?_,by trivial⟩
      by_cases hjk:j<k
      ·exact HNO.out j y hjk hy
      ·have:j=k:=by omega
       subst this
       rw [HX.out] at hy
       injection hy with hy
       rw [← hy]
       exact HF.out
     case measure=>simp [intOf];omega
    | true=>
     have hf:=HH.out k _ HX.out (by rw [HR.out,hb1,hb2];rfl) HNO.out
     have hr:=HRR.out
     rw [hf] at hr
     have HF:Hid (R=(k:Int)):=hid hr.symm
     clear HR hf HH HM HNO hr HRR
     go_wp2_with fail
     go_ret
     exact ⟨by rw [HF.out];rfl,rfl⟩
  ·have hf:=HM.out (fun j y hy=>HNO.out j y (by have:=(List.getElem?_eq_some_iff.1 hy).1;rw [HN.out] at this;omega) hy)
   have hr:=HRR.out
   rw [hf] at hr
   have HF:Hid (R = -1):=hid hr.symm
   clear hf HH HM HNO HC hr HRR
   go_wp2_with fail
   go_ret
   exact ⟨by rw [HF.out];rfl,rfl⟩
def nameAt (ks:List zG) (i:Nat):ByteArray:=match ks[i]? with
 | some x=>x.name
 | none=>⟨#[]⟩
def Vo (ks:List zG) (l:Int) (i:Nat):Bool:=match ks[i]? with
 | some x=>x.layer==l
 | none=>false
def zcb (ks:List zG) (l:Int) (ts:List Bool) (i:Nat):Bool:=Vo ks l i && !(ts.getD i false)
def Zx (ks:List zG) (l:Int) (ts:List Bool):Nat→Option Nat
 | 0=>none
 | i+1=>if zcb ks l ts i then (match Zx ks l ts i with
  | none=>some i
  | some b=>if uA (nameAt ks i) (nameAt ks b)<0 then some i else some b) else Zx ks l ts i
def zhi:Option Nat→Int
 | none=>-1
 | some b=>(b:Int)
theorem vW (ks:List zG) (l:Int) (ts:List Bool):∀n,(Zx ks l ts n=none→∀i,i<n→zcb ks l ts i=false)∧(∀b,Zx ks l ts n=some b→b<n∧zcb ks l ts b=true∧∀i,i<n→zcb ks l ts i=true→¬uA (nameAt ks i) (nameAt ks b)<0)
 | 0=>⟨fun _ i hi=>by omega,fun b h=>by simp [Zx] at h⟩
 | n+1=>by
  obtain ⟨h1,h2⟩:=vW ks l ts n
  rw [Zx]
  cases hc:zcb ks l ts n with
  | false=>
   simp only [Bool.false_eq_true,if_false]
   refine ⟨fun h i hi=>?_,fun b h=>?_⟩
   ·by_cases e:i=n
    ·subst e;exact hc
    ·exact h1 h i (by omega)
   ·obtain ⟨g1,g2,g3⟩:=h2 b h
    refine ⟨by omega,g2,fun i hi hci=>?_⟩
    by_cases e:i=n
    ·subst e;rw [hc] at hci;cases hci
    ·exact g3 i (by omega) hci
  | true=>
   simp only [if_true]
   cases hb:Zx ks l ts n with
   | none=>
    refine ⟨(fun h=>by cases h),fun b h=>?_⟩
    simp only [Option.some.injEq] at h
    subst h
    refine ⟨by omega,hc,fun i hi hci=>?_⟩
    by_cases e:i=n
    ·subst e;rw [jS];omega
    ·rw [h1 hb i (by omega)] at hci;cases hci
   | some b0=>
    obtain ⟨g1,g2,g3⟩:=h2 b0 hb
    simp only
    by_cases hlt:uA (nameAt ks n) (nameAt ks b0)<0
    ·rw [if_pos hlt]
     refine ⟨(fun h=>by cases h),fun b h=>?_⟩
     simp only [Option.some.injEq] at h
     subst h
     refine ⟨by omega,hc,fun i hi hci hl=>?_⟩
     by_cases e:i=n
     ·subst e;rw [jS] at hl;omega
     ·exact g3 i (by omega) hci (kL hl hlt)
    ·rw [if_neg hlt]
     refine ⟨(fun h=>by cases h),fun b h=>?_⟩
     simp only [Option.some.injEq] at h
     subst h
     refine ⟨by omega,g2,fun i hi hci=>?_⟩
     by_cases e:i=n
     ·subst e;exact hlt
     ·exact g3 i (by omega) hci
def outOf (ks:List zG) (ps:List Nat):List zG:=ps.filterMap fun p=>ks[p]?
structure Taken (ks:List zG) (l:Int) (ps:List Nat) (ts:List Bool):Prop where
 len:ts.length=ks.length
 nodup:ps.Nodup
 mem:∀i,i<ks.length→(ts.getD i false=true↔i ∈ ps)
 ok:∀p ∈ ps,p<ks.length∧Vo ks l p=true
 sorted:ps.Pairwise fun a b=>¬uA (nameAt ks b) (nameAt ks a)<0
 ahead:∀p ∈ ps,∀i,i<ks.length→zcb ks l ts i=true→¬uA (nameAt ks i) (nameAt ks p)<0
theorem Taken.start (ks:List zG) (l:Int):Taken ks l [] (List.replicate ks.length false):=
 ⟨by simp,List.nodup_nil,fun i hi=>by simp [List.getD_eq_getElem?_getD,hi],fun p hp=>by simp at hp,List.Pairwise.nil,fun p hp=>by simp at hp⟩
theorem zjN {ks:List zG} {l:Int} {ts:List Bool} {b i:Nat} (h:zcb ks l (ts.set b true) i=true):zcb ks l ts i=true∧i≠b∨zcb ks l ts i=true∧ts.length≤b:=by
 unfold zcb at h ⊢
 rw [Bool.and_eq_true] at h ⊢
 obtain ⟨h1,h2⟩:=h
 rw [List.getD_eq_getElem?_getD,List.getElem?_set] at h2
 by_cases e:b=i
 ·subst e
  by_cases hb:b<ts.length
  ·rw [if_pos rfl,if_pos hb] at h2;simp at h2
  ·exact .inr ⟨⟨h1,by rw [List.getD_eq_getElem?_getD,List.getElem?_eq_none (by omega)];rfl⟩,by omega⟩
 ·rw [if_neg e] at h2
  exact .inl ⟨⟨h1,by rw [List.getD_eq_getElem?_getD];exact h2⟩,fun x=>e x.symm⟩
theorem Taken.next {ks:List zG} {l:Int} {ps:List Nat} {ts:List Bool} (h:Taken ks l ps ts) {b:Nat} (hb:Zx ks l ts ks.length=some b):Taken ks l (ps++[b]) (ts.set b true):=by
 obtain ⟨h1,h2,h3⟩:=(vW ks l ts ks.length).2 b hb
 have hnot:b ∉ ps:=by
  intro hm
  have:=(h.mem b h1).2 hm
  unfold zcb at h2
  rw [this] at h2
  simp at h2
 refine ⟨by rw [List.length_set];exact h.len,?_,fun i hi=>?_,fun p hp=>?_,?_,fun p hp i hi hc=>?_⟩
 ·rw [List.nodup_append]
  exact ⟨h.nodup,by simp,fun x hx y hy=>by simp at hy;subst hy;intro e;subst e;exact hnot hx⟩
 ·rw [List.getD_eq_getElem?_getD,List.getElem?_set]
  by_cases e:b=i
  ·subst e
   rw [if_pos rfl,if_pos (by rw [h.len];exact hi)]
   simp
  ·rw [if_neg e,← List.getD_eq_getElem?_getD,h.mem i hi]
   simp only [List.mem_append,List.mem_singleton]
   exact ⟨fun x => .inl x,fun x=>x.elim id (fun y=>absurd y.symm e)⟩
 ·rcases List.mem_append.1 hp with hp|hp
  ·exact h.ok p hp
  ·rw [List.mem_singleton] at hp;subst hp
   refine ⟨h1,?_⟩
   unfold zcb at h2
   rw [Bool.and_eq_true] at h2
   exact h2.1
 ·rw [List.pairwise_append]
  refine ⟨h.sorted,by simp,fun x hx y hy=>?_⟩
  rw [List.mem_singleton] at hy;subst hy
  exact h.ahead x hx y h1 h2
 ·rcases zjN hc with ⟨hc1,_⟩|⟨hc1,_⟩
  ·rcases List.mem_append.1 hp with hp|hp
   ·exact h.ahead p hp i hi hc1
   ·rw [List.mem_singleton] at hp;subst hp;exact h3 i hi hc1
  ·rcases List.mem_append.1 hp with hp|hp
   ·exact h.ahead p hp i hi hc1
   ·rw [List.mem_singleton] at hp;subst hp;exact h3 i hi hc1
theorem Taken.small {ks:List zG} {l:Int} {ps:List Nat} {ts:List Bool} (h:Taken ks l ps ts):ps.length≤ks.length:=by
 have:=h.nodup.length_le_of_subset (l₂:=List.range ks.length) (fun p hp=>List.mem_range.2 (h.ok p hp).1)
 simpa using this
theorem Taken.room {ks:List zG} {l:Int} {ps:List Nat} {ts:List Bool} (h:Taken ks l ps ts) {b:Nat} (hb:Zx ks l ts ks.length=some b):ps.length<ks.length:=by
 have:=(h.next hb).small
 rw [List.length_append,List.length_singleton] at this
 omega
theorem zbz {ks:List zG} {ps:List Nat} (h:∀p ∈ ps,p<ks.length):(outOf ks ps).length=ps.length:=by
 unfold outOf
 induction ps with
 | nil=>rfl
 | cons p ps ih=>
  rw [List.filterMap_cons,List.getElem?_eq_getElem (h p (by simp))]
  simp [ih (fun q hq=>h q (by simp [hq]))]
theorem zfQ (ks:List zG) (ps:List Nat) {b:Nat} {x:zG} (h:ks[b]?=some x):outOf ks (ps++[b])=outOf ks ps++[x]:=by
 unfold outOf
 rw [List.filterMap_append]
 simp [h]
def Yk (ks:List zG) (l:Int) (out:List zG):Prop:=∃ps:List Nat,ps.Nodup∧(∀p,p ∈ ps↔p<ks.length∧Vo ks l p=true)∧(ps.Pairwise fun a b=>¬uA (nameAt ks b) (nameAt ks a)<0)∧out=outOf ks ps
theorem Taken.done {ks:List zG} {l:Int} {ps:List Nat} {ts:List Bool} (h:Taken ks l ps ts) (hb:Zx ks l ts ks.length=none):Yk ks l (outOf ks ps):=by
 have h1:=(vW ks l ts ks.length).1 hb
 refine ⟨ps,h.nodup,fun p=>⟨fun hp=>h.ok p hp,fun ⟨hp,hl⟩=>?_⟩,h.sorted,rfl⟩
 have:=h1 p hp
 unfold zcb at this
 rw [hl,Bool.true_and] at this
 exact (h.mem p hp).1 (by simpa using this)
def lenV:Value→Nat
 | .slice _ n _=>n
 | _=>0
theorem zgM:(Tryz.prog.info? 4).map (fun i=>(i.zero,i.size,i.bytes))=some (some (.bool false),1,1):=by kernel_rfl
theorem Qn:(Tryz.prog.info? 251).map (fun i=>(i.zero,i.size,i.bytes))=some (some (.agg #[.int .i64 0, .string ⟨#[]⟩, .slice none 0 0]),3,48):=by kernel_rfl
theorem Yt {ks:List zG} {l:Int} {i:Nat} {x:zG} (h:ks[i]?=some x):Vo ks l i=(x.layer==l):=by unfold Vo;rw [h]
theorem Xm {ks:List zG} {i:Nat} {x:zG} (h:ks[i]?=some x):nameAt ks i=x.name:=by unfold nameAt;rw [h]
structure zgv (M:Nat→Prop) (w wr:World) (tb n:Nat) (ks:List zG) (ps:List Nat) (ts:List Bool) (ov:Value):Prop where
 took:wr.ownsRow w.heap.size 4 1 (.slice (some ⟨tb,0,none⟩) n n) n (ts.map Value.bool)
 out:∃xs,wr.ownsRow w.heap.size 251 3 ov ps.length xs∧yP M w xs (outOf ks ps)
 bel:Below w.heap.size w wr
theorem zgv.below {M:Nat→Prop} {w wr wr':World} {tb n:Nat} {ks:List zG} {ps:List Nat} {ts:List Bool} {ov:Value} (h:zgv M w wr tb n ks ps ts ov) (hb:Below wr.heap.size wr wr'):zgv M w wr' tb n ks ps ts ov:=by
 obtain ⟨xs,h1,h2⟩:=h.out
 exact ⟨ownsRow_below h.took hb,⟨xs,ownsRow_below h1 hb,h2⟩,h.bel.trans (hb.mono h.bel.size)⟩
structure VB (A:World) where
 w:World
 b:Below A.heap.size A w
theorem zb6 (cb:Nat) (lv:Value) (ks:List zG) (l:Int) (M:Nat→Prop) (w:World) (h:yM M w cb lv ks) (hn:ks.length≤1000000000) (hN:∀x ∈ ks,x.name.size≤maxLen) (hM:∀b,M b→b<w.heap.size) :
  Calls Tryz.prog 126 #[.pointer (some ⟨cb,0,none⟩), .int .i64 l] w fun e w'=>∃v xs out,e = .returned v∧Yk ks l out∧w'.ownsRow w.heap.size 251 3 v out.length xs∧yP M w' xs out∧Below w.heap.size w w':=by
 obtain ⟨i0,hi,hz0,hz1,hz2⟩:=info_parts zgM
 obtain ⟨i1,hj,hy0,hy1,hy2⟩:=info_parts Qn
 obtain ⟨a,c,rfl,hcells⟩:=h.cells
 have c0:=(cells_of_block h.cell 0).1
 simp at c0
 obtain ⟨n,hnn⟩:∃n,ks.length=n:=⟨_,rfl⟩
 rw [hnn] at hn c0
 have HC:=hid hcells
 have HN:=hid hnn
 have HNM:=hid hN
 have HM:=hid hM
 clear hcells hnn h hN hM
 go_enter Tryz.func126,Tryz.ntmps126
 go_wp2_with (at_make;refine wpList_make_full _ rfl _ _ 317 rfl w.heap.size 4 i0 (.bool false) 1 Tryz.underlying317 hi hz0 hz1 _ _ _ _ n rfl rfl ?_ ?_ ?_ ?_ ?_ ?_)
 ·omega
 ·omega
 ·rw [hz2];omega
 ·unfold maxLen;omega
 ·omega
 intro w1 own1 grow1
 have ow1:w1.ownsRow w.heap.size 4 1 (.slice (some ⟨w.heap.size,0,none⟩) n n) n ((List.replicate n false).map Value.bool):=by
  rw [List.map_replicate,← toList_madeCells_one];exact own1
 have bel1:Below w.heap.size w w1:=(Below.refl _ w).grown grow1 (Nat.le_refl _) (fun k hk=>by cases hk)
 have HS:Hid (zgv M w w1 w.heap.size n ks [] (List.replicate n false) (.slice none 0 0)):=⟨ow1,⟨[],World.ownsRow_nil _ _ _ _,yP.nil⟩,bel1⟩
 have HT:Hid (Taken ks l [] (List.replicate n false)):=hid (by rw [← HN.out];exact Taken.start ks l)
 clear own1 grow1 ow1 bel1
 go_wp2_with fail
 go_loopw [5,7,8,9] (fun ov _ _ _ wr=>∃ps ts,Taken ks l ps ts∧zgv M w wr w.heap.size n ks ps ts ov∧lenV ov=ps.length) (fun ov _ _ _ _=>n-lenV ov)
 case atStart=>exact ⟨[],List.replicate n false,HT.out,HS.out,rfl⟩
 case round=>
  obtain ⟨ps,ts,htk,hrw,hlen⟩:=hrel
  obtain ⟨wo,rfl⟩:∃x,x=wr:=⟨_,rfl⟩
  have HTK:=hid htk
  have HRW:=hid hrw
  clear htk hrw HS HT
  have hbs:=fun i=>(vW ks l ts i).2
  have HBS:=hid hbs
  obtain ⟨BT,hBT⟩:∃f:Nat→Option Nat,Zx ks l ts=f:=⟨_,rfl⟩
  have hB0:BT 0=none:=by rw [← hBT];rfl
  have hBn:∀i,BT (i+1)=if zcb ks l ts i then (match BT i with
   | none=>some i
   | some b=>if uA (nameAt ks i) (nameAt ks b)<0 then some i else some b) else BT i:=fun i=>by subst hBT;rfl
  have HB0:=hid hB0
  have HBN:=hid hBn
  have HBT:=hid hBT
  clear hB0 hBn hBT hbs
  have HCW:=hid (cell_later HRW.out.bel c0)
  go_wp2_with fail
  go_loopw [7,8,9] (fun bv iv _ wi=>∃i:Nat,i≤n∧iv = .int .i64 i∧bv = .int .i64 (zhi (BT i))∧Below wo.heap.size wo wi) (fun _ iv _ _=>n-(intOf iv).toNat)
  case atStart=>exact ⟨0,Nat.zero_le _,rfl,by rw [HB0.out];rfl,Below.refl _ _⟩
  case round=>
   obtain ⟨i,hin,rfl,rfl,hbi⟩:=hrel
   have HBI:=hid hbi
   have HRI:=hid (HRW.out.below hbi)
   have d0:=cell_later hbi HCW.out
   clear hbi HB0
   by_cases hlt:i<n
   ·have hkl:i<ks.length:=by rw [HN.out];exact hlt
    have hx:=List.getElem?_eq_getElem hkl
    obtain ⟨gb,da,dn,dc,rfl,q0,q1,_,_⟩:=HC.out i _ hx
    obtain ⟨x,hxx⟩:∃x,ks[i]=x:=⟨_,rfl⟩
    rw [hxx] at q0 q1 hx
    have p0:=cell_later HRI.out.bel q0
    have p1:=cell_later HRI.out.bel q1
    have hti:i<ts.length:=by rw [HTK.out.len];exact hkl
    have t0:wr.cell? ⟨w.heap.size,i,none⟩=some (.bool (ts.getD i false)):=by
     rw [HRI.out.took.cellAt i (by omega),List.getElem?_map,List.getElem?_eq_getElem hti,List.getD_eq_getElem?_getD,List.getElem?_eq_getElem hti];rfl
    have hnx:=HBN.out i
    have hcd:zcb ks l ts i=((x.layer==l) && !(ts.getD i false)):=by unfold zcb;rw [Yt hx]
    have hnm:=Xm hx
    rw [hcd] at hnx
    obtain ⟨tk,htk⟩:∃t,ts.getD i false=t:=⟨_,rfl⟩
    rw [htk] at t0 hnx
    have k0:(0:Int)≤(i:Int):=Int.natCast_nonneg _
    have k1:(i:Int)<(n:Int):=by omega
    cases hb1:(x.layer==l) with
    | false=>
     rw [hb1] at hnx
     have HNX:Hid (BT (i+1)=BT i):=hid (by rw [hnx];rfl)
     have nb1:(x.layer != l)=true:=by simp only [bne,hb1,Bool.not_false]
     clear hnx hcd hnm hxx hx htk q0 q1
     go_wp2_with fail
     go_roundw
     case rel=>exact ⟨i+1,by omega,by go_num,by rw [HNX.out],HBI.out⟩
     case measure=>simp [intOf];omega
    | true=>
     have nb1:(x.layer != l)=false:=by simp only [bne,hb1,Bool.not_true]
     cases tk with
     | true=>
      rw [hb1] at hnx
      have HNX:Hid (BT (i+1)=BT i):=hid (by rw [hnx];rfl)
      clear hnx hcd hnm hxx hx htk q0 q1
      go_wp2_with fail
      go_roundw
      case rel=>exact ⟨i+1,by omega,by go_num,by rw [HNX.out],HBI.out⟩
      case measure=>simp [intOf];omega
     | false=>
      rw [hb1] at hnx
      simp only [Bool.not_false,Bool.and_true,if_true] at hnx
      cases hbi2:BT i with
      | none=>
       rw [hbi2] at hnx
       have HNX:=hid hnx
       have hbv:zhi none = -1:=rfl
       rw [hbv]
       clear hnx hcd hnm hxx hx htk q0 q1
       go_wp2_with fail
       go_roundw
       case rel=>exact ⟨i+1,by omega,by go_num,by rw [HNX.out];rfl,HBI.out⟩
       case measure=>simp [intOf];omega
      | some b=>
       rw [hbi2] at hnx
       simp only at hnx
       have hbspec:=HBS.out i b (by rw [HBT.out];exact hbi2)
       obtain ⟨hbi3,hbc,_⟩:=hbspec
       have hkb:b<ks.length:=by omega
       have hy:=List.getElem?_eq_getElem hkb
       obtain ⟨gb2,da2,dn2,dc2,e2,_,r1,_,_⟩:=HC.out b _ hy
       injection e2 with e2
       injection e2 with e2
       subst e2
       obtain ⟨y,hyy⟩:∃y,ks[b]=y:=⟨_,rfl⟩
       rw [hyy] at r1 hy
       have p2:=cell_later HRI.out.bel r1
       rw [hnm,Xm hy] at hnx
       have HQ:Hid (∀X:VB wr,Calls Tryz.prog 181 #[.string x.name, .string y.name] X.w fun e w''=>e = .returned (.bool (decide (uA x.name y.name<0)))∧∃Y:VB wr,w''=Y.w):=
        hid (fun X=>(zms x.name y.name X.w (HNM.out x (List.mem_of_getElem? hx))).mono (fun e w'' ⟨he,hb⟩=>⟨he,⟨w'',X.b.trans (hb.mono X.b.size)⟩,rfl⟩))
       have hbv:zhi (some b)=(b:Int):=rfl
       rw [hbv]
       have k2:(0:Int)≤(b:Int):=Int.natCast_nonneg _
       have k3:(b:Int)<(n:Int):=by omega
       obtain ⟨xn,hxn⟩:∃z,x.name=z:=⟨_,rfl⟩
       obtain ⟨yn,hyn⟩:∃z,y.name=z:=⟨_,rfl⟩
       rw [hxn] at p1 HQ hnx
       rw [hyn] at p2 HQ hnx
       have HNX:=hid hnx
       clear hnx hcd hnm hxx hx htk q0 q1 r1 hy hyy hbc hxn hyn HBS HBN
       go_upto_region 10 with fail
       have f0:∀X:VB wr,X.w.cell? ⟨cb,0,none⟩=some (.slice (some ⟨gb,0,none⟩) n c):=fun X=>cell_later X.b d0
       have f1:∀X:VB wr,X.w.cell? ⟨gb,i*3+1,none⟩=some (.string xn):=fun X=>cell_later X.b p1
       have f2:∀X:VB wr,X.w.cell? ⟨gb,b*3+1,none⟩=some (.string yn):=fun X=>cell_later X.b p2
       have NE:Nonempty (VB wr):=⟨⟨wr,Below.refl _ _⟩⟩
       refine wp_region_quiet (C:=fun W'=>∃X:VB wr,W'=X.w) (by kernel_rfl) (by kernel_rfl) ⟨⟨_,(Below.refl _ wr).drew⟩,rfl⟩ ?_
       simp only
       repeat (go_big_quiet_step (fail))
       go_big_quiet_step (exact HQ.out _)
       repeat (go_big_quiet_step (fail))
       refine wpQuiet_nil ?_
       intro w' hw'
       obtain ⟨X,rfl⟩:=hw'
       have hbx:=HBI.out.trans (X.b.mono HBI.out.size)
       have HBX:=hid hbx
       clear hbx
       by_cases hls:uA xn yn<0
       ·have dl:decide (uA xn yn<0)=true:=decide_eq_true hls
        have hnx:=HNX.out
        rw [if_pos hls] at hnx
        have HNX2:=hid hnx
        clear hnx HNX
        rw [dl]
        go_wp2_with fail
        go_roundw
        case rel=>exact ⟨i+1,by omega,by go_num,by rw [HNX2.out];rfl,HBX.out⟩
        case measure=>simp [intOf];omega
       ·have dl:decide (uA xn yn<0)=false:=decide_eq_false hls
        have hnx:=HNX.out
        rw [if_neg hls] at hnx
        have HNX2:=hid hnx
        clear hnx HNX
        rw [dl]
        go_wp2_with fail
        go_roundw
        case rel=>exact ⟨i+1,by omega,by go_num,by rw [HNX2.out];rfl,HBX.out⟩
        case measure=>simp [intOf];omega
   ·have hieq:i=n:=by omega
    subst hieq
    have hbt:=HBT.out
    cases hb:BT i with
    | none=>
     have hdone:=HTK.out.done (by rw [HN.out,hbt];exact hb)
     have hbv:zhi none = -1:=rfl
     rw [hbv]
     have HDN:=hid hdone
     obtain ⟨xs,hown,htr⟩:=HRI.out.out
     have hol:(outOf ks ps).length=ps.length:=zbz (fun p hp=>(HTK.out.ok p hp).1)
     rw [← hol] at hown
     have HOW:=hid hown
     have HTR:=hid htr
     have HBF:=hid HRI.out.bel
     clear hdone hown htr hol hbt HBT HBS HBN HC HM HNM
     go_wp2_with fail
     go_ret
     exact ⟨_,xs,outOf ks ps,rfl,HDN.out,HOW.out,HTR.out.turn (zF.of HBF.out),HBF.out⟩
    | some b=>
     have hbn:Zx ks l ts ks.length=some b:=by rw [HN.out,hbt];exact hb
     obtain ⟨hbl,hbc,_⟩:=(vW ks l ts ks.length).2 b hbn
     have hnext:=HTK.out.next hbn
     have hroom:=HTK.out.room hbn
     have hy:=List.getElem?_eq_getElem hbl
     obtain ⟨gb,da,dn,dc,rfl,r0,r1,r2,hdoc⟩:=HC.out b _ hy
     obtain ⟨y,hyy⟩:∃y,ks[b]=y:=⟨_,rfl⟩
     rw [hyy] at r0 r1 hy hdoc
     have hbv:zhi (some b)=(b:Int):=rfl
     rw [hbv]
     have hti:b<ts.length:=by rw [HTK.out.len];exact hbl
     have u0:=(HRI.out.took.cellAt b (by rw [HN.out] at hbl;omega))
     rw [List.getElem?_map,List.getElem?_eq_getElem hti] at u0
     have u1:=HRI.out.took.frozenAt b
     have hst:=(HRI.out.took.stored b (.bool true)).1
     obtain ⟨xs,hown,htr⟩:=HRI.out.out
     have hout2:=ji HRI.out.took hown (by decide) ((HRI.out.took.stored b (.bool true)).2)
     have hzr:=HRI.out.bel.size
     have hbf:=HRI.out.bel.setCell (p:=⟨w.heap.size,b,none⟩) (Nat.le_refl _) (.bool true)
     have e0:=cell_later HRI.out.bel r0
     have e1:=cell_later HRI.out.bel r1
     have e2:=cell_later HRI.out.bel r2
     have hgb:gb<w.heap.size:=World.block_lt_of_cell? _ _ r0
     have hcb:cb<w.heap.size:=World.block_lt_of_cell? _ _ c0
     have tr2:=htr.app (yP.one (x:=y) hdoc)
     rw [← zfQ ks ps hy] at tr2
     obtain ⟨yl,yn,yr⟩:=y
     simp only at e0 e1 e2 tr2
     simp only [Option.map_some] at u0
     have HNX:=hid hnext
     have HST:=hid hst
     have HO2:=hid hout2
     have HTR:=hid tr2
     have HBF:=hid hbf
     obtain ⟨tv,htv⟩:∃t,ts[b]=t:=⟨_,rfl⟩
     rw [htv] at u0
     have hmt:(ts.map Value.bool).set b (.bool true)=(ts.set b true).map Value.bool:=by rw [List.map_set]
     rw [hmt] at HST
     have n1:gb≠w.heap.size:=by omega
     have n2:cb≠w.heap.size:=by omega
     have n3:w.heap.size≠gb:=by omega
     have n4:w.heap.size≠cb:=by omega
     have hbi:b<i:=by rw [HN.out] at hbl;exact hbl
     have k2:(0:Int)≤(b:Int):=Int.natCast_nonneg _
     have k3:(b:Int)<(i:Int):=by omega
     have hps:ps.length<i:=by rw [HN.out] at hroom;exact hroom
     clear hnext hst hout2 tr2 hbf hown htr hmt htv hroom hbl hbc hbn hbt hyy hy r0 r1 r2 hdoc HBS HBN HBT HC HNM HM HRI HBI HRW HTK hti
     go_wp2_with (at_builtin;refine wpList_append_own _ rfl _ _ 171 rfl w.heap.size 251 i1 (.agg #[.int .i64 0, .string ⟨#[]⟩, .slice none 0 0]) 3 48 Tryz.underlying171 hj hy0 hy1 hy2 rfl (by decide) _ ps.length xs rfl (World.ownsRow.alloc HO2.out _) ⟨wr.heap.size,0,none⟩ 1 1 [.int .i64 yl, .string yn, .slice da dn dc] rfl rfl ?_ ?_ ?_ ?_ ?_ ?_)
     ·exact ⟨rfl,rfl,rfl⟩
     ·unfold maxLen;omega
     ·omega
     ·omega
     ·intro v' w3 hown' hgrow _
      have hA:=World.ownsRow.alloc HO2.out (.cells #[.int .i64 yl, .string yn, .slice da dn dc] 251)
      have hB:=World.ownsRow.alloc HST.out (.cells #[.int .i64 yl, .string yn, .slice da dn dc] 251)
      have htook:=ji hA hB (by decide) hgrow
      have hbel:Below w.heap.size w w3:=(HBF.out.alloc HBF.out.size _).grown hgrow (by simp;omega) (fun k hk=>(World.ownsRow.lt HO2.out k hk).1)
      have hl1:(ps++[b]).length=ps.length+1:=by simp
      have HR3:Hid (zgv M w w3 w.heap.size i ks (ps++[b]) (ts.set b true) v'):=⟨htook,⟨_,by rw [hl1];exact hown',HTR.out⟩,hbel⟩
      have hlv:lenV v'=(ps++[b]).length:=by
       rcases hown'.2 with ⟨rfl,h0⟩|⟨g,cap,cur,rfl,_⟩
       ·omega
       ·rw [hl1];rfl
      have HLV:=hid hlv
      clear hA hB htook hbel hown' hgrow hlv hl1
      go_wp2_with fail
      go_roundw
      case rel=>exact ⟨ps++[b],ts.set b true,HNX.out,HR3.out,HLV.out⟩
      case measure=>rw [HLV.out,hlen];simp;omega
end Go.Proofs.YtdakgnaojakldaaGreatDoor
