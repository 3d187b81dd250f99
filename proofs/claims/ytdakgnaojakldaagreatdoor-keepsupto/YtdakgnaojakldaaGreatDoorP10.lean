/- P -/
import Derived.Test.YtdakgnaojakldaaGreatDoorP03
import Derived.Test.YtdakgnaojakldaaGreatDoorP09
set_option maxRecDepth 100000
set_option maxHeartbeats 2000000
namespace Go.Proofs.YtdakgnaojakldaaGreatDoor
open Go.RowKit
def Xv (w:World) (ao:Option Addr) (ms:List (ByteArray×Value)):Prop:=
 ms=[]∨∃b o,ao=some ⟨b,o,none⟩∧∀j,(h:j<ms.length)→w.cell? ⟨b,o+j*2,none⟩=some (.string ms[j].1)∧w.cell? ⟨b,o+j*2+1,none⟩=some ms[j].2
theorem uC {w w':World} {ao:Option Addr} {ms:List (ByteArray×Value)} (h:Xv w ao ms) (hb:Below w.heap.size w w'):Xv w' ao ms:=by
 rcases h with h|⟨b,o,ha,hc⟩
 ·exact .inl h
 ·exact .inr ⟨b,o,ha,fun j hj=>⟨cell_later hb (hc j hj).1,cell_later hb (hc j hj).2⟩⟩
def zhX (m:ByteArray×Value):Value := .agg #[.string m.1,m.2]
def zay (ms:List (ByteArray×Value)) (j:Nat):ByteArray×Value:=ms.getD j (⟨#[]⟩, .nilIface)
theorem ZN (ms:List (ByteArray×Value)) (j:Nat) (h:j<ms.length):zay ms j=ms[j]:=by
 unfold zay;rw [List.getD_eq_getElem?_getD,List.getElem?_eq_getElem h];rfl
theorem zaQ (ms:List (ByteArray×Value)) (ao:Option Addr) (cap g:Nat) (lb:Array Value) (p:Nat→Bool) (w:World) (hn:ms.length≤100000000000) (eg:∀args w,(callFunc g args).run Tryz.prog w = .ok (.enter g args) w)
  (hm:Xv w ao ms) (hif:∀m ∈ ms,∃T x,m.2 = .iface T x) (hp:J5 g lb (fun j=>zhX (zay ms j)) ms.length p w) :
  Calls Tryz.prog 95 #[.slice ao ms.length cap, .func (.func g) #[] lb] w fun e w'=>
   e = .returned (.tuple #[.int .i64 (((zB p ms.length).getD 0:Nat):Int), .bool (zB p ms.length).isSome])∧Below w.heap.size w w':=by
 generalize hF:zB p ms.length=F
 have HF:=hid hF
 clear hF
 go_enter Tryz.func95,Tryz.ntmps95
 go_wp2
 go_loopw [10] (fun i wr=>∃k:Nat,k≤ms.length∧i = .int .i64 k∧(∀j,j<k→p j=false)∧Below w.heap.size w wr) (fun i _=>ms.length-(intOf i).toNat)
 case atStart=>exact ⟨0,Nat.zero_le _,rfl,fun j h=>by omega,Below.refl _ _⟩
 case round=>
  obtain ⟨k,hk,rfl,hb,hw⟩:=hrel
  have HB:=hid hb
  clear hb
  by_cases hlt:k<ms.length
  ·rcases hm with rfl|⟨b,o,rfl,hc⟩
   ·simp at hlt
   have hpk:=fun W hb=>hp W k hlt hb
   simp only [ZN ms k hlt,zhX] at hpk
   obtain ⟨q1,q2⟩:=hc k hlt
   obtain ⟨n1,hn1⟩:∃n,ms[k].1=n:=⟨_,rfl⟩
   obtain ⟨T,v1,hv1⟩:=hif ms[k] (List.getElem_mem hlt)
   rw [hn1] at q1 hpk;rw [hv1] at q2 hpk
   have q3:=cell_later hw q1
   have q4:=cell_later hw q2
   clear hn1 hv1 hc q1 q2
   have hwa:=fun O=>hw.trans ((Below.refl _ wr).alloc (Nat.le_refl _) O |>.mono hw.size)
   cases hpp:p k with
   | false=>
    rw [hpp] at hpk
    have HP:=hid hpp
    clear hpp
    go_wp2_with (go_at_fn g;refine (hpk _ (hwa _)).mono ?_;rintro e w' ⟨rfl,hb'⟩)
    refine ⟨⟨k+1,by omega,by go_num,fun j h=>?_,(hwa _).trans (hb'.mono (hwa _).size)⟩,by simp [intOf];omega⟩
    by_cases hj:j=k
    ·subst hj;exact HP.out
    ·exact HB.out j (by omega)
   | true=>
    rw [hpp] at hpk
    have e:=uh p ms.length k hlt HB.out hpp
    rw [HF.out] at e
    subst e
    clear hpp
    go_wp2_with (go_at_fn g;refine (hpk _ (hwa _)).mono ?_;rintro e w' ⟨rfl,hb'⟩)
    go_ret2
    exact ⟨rfl,(hwa _).trans (hb'.mono (hwa _).size)⟩
  ·have e:=jW p ms.length (fun j h=>HB.out j (by omega))
   rw [HF.out] at e
   subst e
   go_wp2
   go_ret2
   exact ⟨rfl,hw⟩
theorem zlc (ms:List (ByteArray×Value)) (ao:Option Addr) (cap g:Nat) (lb:Array Value) (p:Nat→Bool) (w:World) (hn:ms.length≤100000000000) (eg:∀args w,(callFunc g args).run Tryz.prog w = .ok (.enter g args) w)
  (hm:Xv w ao ms) (hif:∀m ∈ ms,∃T x,m.2 = .iface T x) (hp:J5 g lb (fun j=>zhX (zay ms j)) ms.length p w) :
  Calls Tryz.prog 197 #[.slice ao ms.length cap, .func (.func g) #[] lb] w fun e w'=>
   e = .returned (.bool (zB p ms.length).isSome)∧Below w.heap.size w w':=by
 have c:=zaQ ms ao cap g lb p w hn eg hm hif hp
 generalize zB p ms.length=F at c
 go_enter Tryz.func197,Tryz.ntmps197
 go_wp2_with (go_at_call 95;refine c.mono ?_;rintro e w' ⟨rfl,hb'⟩)
 go_ret
 exact ⟨rfl,hb'⟩
theorem zh6 (g:Nat) (lb:Array Value) (m:ByteArray×Value) (B:Nat) (y:Bool) (w:World) (eg:∀args w,(callFunc g args).run Tryz.prog w = .ok (.enter g args) w)
  (hB:w.cell? ⟨B,0,none⟩=some (.func (.func g) #[] lb)) (hp:∀W,Below w.heap.size w W→Calls Tryz.prog g (#[zhX m]++lb) W fun e w'=>e = .returned (.bool y)∧Below W.heap.size W w') :
  Calls Tryz.prog 198 #[zhX m, .pointer (some ⟨B,0,none⟩)] w fun e w'=>e = .returned (.bool (!y))∧Below w.heap.size w w':=by
 obtain ⟨a,v⟩:=m
 unfold zhX at hp ⊢
 simp only at hp ⊢
 have hB':=fun O:Obj=>cell_later ((Below.refl _ w).alloc (Nat.le_refl _) O) hB
 have hb0:=fun O:Obj=>(Below.refl _ w).alloc (Nat.le_refl _) O
 go_enter Tryz.func198,Tryz.ntmps198
 go_wp2_with (go_at_fn g;refine (hp _ (hb0 _)).mono ?_;rintro e w' ⟨rfl,hb'⟩)
 go_ret
 exact ⟨rfl,(hb0 _).trans (hb'.mono (hb0 _).size)⟩
theorem zll (ms:List (ByteArray×Value)) (ao:Option Addr) (cap g:Nat) (lb:Array Value) (p:Nat→Bool) (w:World) (hn:ms.length≤100000000000) (eg:∀args w,(callFunc g args).run Tryz.prog w = .ok (.enter g args) w)
  (hm:Xv w ao ms) (hif:∀m ∈ ms,∃T x,m.2 = .iface T x) (hp:J5 g lb (fun j=>zhX (zay ms j)) ms.length p w) :
  Calls Tryz.prog 150 #[.slice ao ms.length cap, .func (.func g) #[] lb] w fun e w'=>
   e = .returned (.bool (allOf p ms.length))∧Below w.heap.size w w':=by
 have e1:∀args w,(callFunc 198 args).run Tryz.prog w = .ok (.enter 198 args) w:=enters_of Tryz.func198 (by kernel_rfl) rfl
 have c:=zlc ms ao cap 198 #[.pointer (some ⟨w.heap.size,0,none⟩)] (fun j=>!p j) (w.alloc (.cells #[.func (.func g) #[] lb] 203)) hn e1
  (uC hm ((Below.refl _ w).alloc (Nat.le_refl _) _)) hif
  (fun W j hj hb=>by
   refine zh6 g lb (zay ms j) w.heap.size (p j) W eg ?_ (fun W2 h2=>hp W2 j hj ((((Below.refl _ w).alloc (Nat.le_refl _) _).trans (hb.mono (by simp))).trans (h2.mono (by have:=hb.size;simp at this;omega))))
   exact cell_later hb (by simp))
 rw [Vd]
 generalize zB (fun j=>!p j) ms.length=F at c
 go_enter Tryz.func150,Tryz.ntmps150
 go_wp2_with (go_at_call 197;refine c.mono ?_;rintro e w' ⟨rfl,hb'⟩)
 go_ret
 exact ⟨rfl,((Below.refl _ w).alloc (Nat.le_refl _) _).trans (hb'.mono (by simp))⟩
theorem zmJ (nm:ByteArray) (m:ByteArray×Value) (B:Nat) (w:World) (hB:w.cell? ⟨B,0,none⟩=some (.string nm)) :
  Calls Tryz.prog 96 #[zhX m, .pointer (some ⟨B,0,none⟩)] w fun e w'=>e = .returned (.bool (m.1.toList==nm.toList))∧Below w.heap.size w w':=by
 obtain ⟨a,v⟩:=m
 unfold zhX
 simp only
 have hB':=fun O:Obj=>cell_later ((Below.refl _ w).alloc (Nat.le_refl _) O) hB
 have hb0:=fun O:Obj=>(Below.refl _ w).alloc (Nat.le_refl _) O
 go_enter Tryz.func96,Tryz.ntmps96
 go_wp2
 go_ret
 exact ⟨rfl,hb0 _⟩
def QH (ms:List (ByteArray×Value)) (nm:ByteArray):Value:=match ms.find? (fun m=>m.1.toList==nm.toList) with
 | some m=>m.2
 | none => .nilIface
theorem zgn (ms:List (ByteArray×Value)) (nm:ByteArray):QH ms nm=match zB (fun j=>(zay ms j).1.toList==nm.toList) ms.length with
  | some k=>(zay ms k).2
  | none => .nilIface:=by
 unfold QH
 cases hF:zB (fun j=>(zay ms j).1.toList==nm.toList) ms.length with
 | none=>
  have:ms.find? (fun m=>m.1.toList==nm.toList)=none:=by
   rw [List.find?_eq_none]
   intro m hm
   obtain ⟨j,hj,rfl⟩:=List.getElem_of_mem hm
   unfold zB at hF
   rw [List.find?_eq_none] at hF
   have:=hF j (List.mem_range.2 hj)
   rwa [ZN ms j hj] at this
  rw [this]
 | some k=>
  unfold zB at hF
  rw [List.find?_range_eq_some] at hF
  obtain ⟨h1,h2,h3⟩:=hF
  have hk:k<ms.length:=by simpa using h2
  have:ms.find? (fun m=>m.1.toList==nm.toList)=some ms[k]:=by
   rw [List.find?_eq_some_iff_getElem]
   refine ⟨by rw [ZN ms k hk] at h1;exact h1,k,hk,rfl,fun j hj=>?_⟩
   have:=h3 j hj
   rw [ZN ms j (by omega)] at this
   exact this
  rw [this]
  simp only
  rw [ZN ms k hk]
theorem zlN (ms:List (ByteArray×Value)) (ao:Option Addr) (cap:Nat) (nm:ByteArray) (w:World) (hn:ms.length≤100000000000) (hm:Xv w ao ms) (hif:∀m ∈ ms,∃T x,m.2 = .iface T x) :
  Calls Tryz.prog 51 #[.slice ao ms.length cap, .string nm] w fun e w'=>e = .returned (QH ms nm)∧Below w.heap.size w w':=by
 have e1:∀args w,(callFunc 96 args).run Tryz.prog w = .ok (.enter 96 args) w:=enters_of Tryz.func96 (by kernel_rfl) rfl
 have c:=zaQ ms ao cap 96 #[.pointer (some ⟨w.heap.size,0,none⟩)] (fun j=>(zay ms j).1.toList==nm.toList) (w.alloc (.cells #[.string nm] 9)) hn e1
  (uC hm ((Below.refl _ w).alloc (Nat.le_refl _) _)) hif
  (fun W j hj hb=>zmJ nm (zay ms j) w.heap.size W (cell_later hb (by simp)))
 have hg:=zgn ms nm
 have hF:∀k,zB (fun j=>(zay ms j).1.toList==nm.toList) ms.length=some k→k<ms.length:=fun k h=>by
  unfold zB at h
  rw [List.find?_range_eq_some] at h
  simpa using h.2.1
 have hb1:=fun O:Obj=>(Below.refl _ w).alloc (Nat.le_refl _) O
 cases hf:zB (fun j=>(zay ms j).1.toList==nm.toList) ms.length with
 | none=>
  rw [hf] at c hg
  simp only at hg
  rw [hg]
  clear hg hF hf
  go_enter Tryz.func51,Tryz.ntmps51
  go_wp2_with (go_at_call 95;refine c.mono ?_;rintro e w' ⟨rfl,hb'⟩)
  go_ret
  exact ⟨rfl,(hb1 _).trans (hb'.mono (by simp))⟩
 | some k=>
  rw [hf] at c hg
  simp only at hg
  have hk:=hF k hf
  rw [hg,ZN ms k hk]
  rcases hm with rfl|⟨b,o,rfl,hc⟩
  ·simp at hk
  obtain ⟨q1,q2⟩:=hc k hk
  obtain ⟨u,hu⟩:∃u,ms[k].2=u:=⟨_,rfl⟩
  rw [hu] at q2 ⊢
  have hki:(k:Int)<(ms.length:Int):=by omega
  clear hg hF hf hc q1 hu
  go_enter Tryz.func51,Tryz.ntmps51
  go_wp2_with (go_at_call 95;refine c.mono ?_;rintro e w' ⟨rfl,hb'⟩;have q3:=cell_later ((hb1 (.cells #[.string nm] 9)).trans (hb'.mono (by simp))) q2)
  go_ret
  exact ⟨rfl,(hb1 _).trans (hb'.mono (by simp))⟩
def uY (c:Int) (q:Nat):Value:=
 if c=3 then .iface 141 (.agg #[.int .i64 (q:Int)])
 else if c=4 then .iface 142 (.agg #[.int .i64 (q:Int)])
 else .iface 140 (.agg #[.int .i64 (q:Int)])
theorem zcA (q:Nat):uY 4 q = .iface 142 (.agg #[.int .i64 (q:Int)]):=rfl
theorem yX (c:Int) (q:Nat):∃T,uY c q = .iface T (.agg #[.int .i64 (q:Int)]):=by
 unfold uY;split
 ·exact ⟨_,rfl⟩
 split
 ·exact ⟨_,rfl⟩
 ·exact ⟨_,rfl⟩
def jE {α:Type} (Inv:α→Nat→World→Prop) (Bad:World→Prop) (r:Rd.Res α) (e:Ending) (w':World):Prop:=match r with
 | .ok a q=>e = .returned .nilIface∧Inv a q w'
 | .err c q=>e = .returned (uY c q)∧Bad w'
theorem jE.of {α:Type} {Inv:α→Nat→World→Prop} {Bad:World→Prop} {r r':Rd.Res α} {e:Ending} {w':World} (h:jE Inv Bad r e w') (hr:r'=r):jE Inv Bad r' e w':=hr ▸ h
structure Reads {α:Type} (s:ByteArray) (R g:Nat) (lb:Array Value) (st:Nat→α→Nat→Rd.Res α) (F d:Nat) (Inv:α→Nat→World→Prop) (Bad:World→Prop):Prop where
 rd:∀a q w,Inv a q w→zu w R s q
 mv:∀a q q' w w',Inv a q w→q≤q'→w.grownBy w' (some R)→zu w' R s q'→Inv a q' w'
 bad:∀a q w,Inv a q w→Bad w
 adv:∀f a q a' q',q≤s.size→Rd.blank (Rd.peek s.data.toList q)=false→2*(s.size-q)<f→st f a q = .ok a' q'→q<q'∧q'≤s.size
 one:∀f a q w,f<F→d≤8→Inv a q w→q≤s.size→Rd.blank (Rd.peek s.data.toList q)=false→2*(s.size-q)<f→Calls Tryz.prog g lb w fun e w'=>jE Inv Bad (st f a q) e w'
theorem zhe {α:Type} {l:List UInt8} {st:Nat→α→Nat→Rd.Res α} {e f q q2:Nat} {a:α} {c:Int} (h:st f a q = .err c q2):Rd.jm l st e (f+1) a q = .err c q2:=by rw [Rd.jm,h]
theorem zfx {α:Type} {l:List UInt8} {st:Nat→α→Nat→Rd.Res α} {e f q q2:Nat} {a a2:α} (h:st f a q = .ok a2 q2) (hb:Rd.peek l (Rd.skip l q2)=44):Rd.jm l st e (f+1) a q=Rd.jm l st e f a2 (Rd.skip l (Rd.skip l q2+1)):=by
 rw [Rd.jm,h];exact if_pos hb
theorem zhw {α:Type} {l:List UInt8} {st:Nat→α→Nat→Rd.Res α} {e f q q2:Nat} {a a2:α} (h:st f a q = .ok a2 q2) (hb:Rd.peek l (Rd.skip l q2)=e) (he:e≠44):Rd.jm l st e (f+1) a q = .ok a2 (Rd.skip l q2+1):=by
 rw [Rd.jm,h];exact (if_neg (by omega)).trans (if_pos hb)
theorem zhh {α:Type} {l:List UInt8} {st:Nat→α→Nat→Rd.Res α} {e f q q2:Nat} {a a2:α} (h:st f a q = .ok a2 q2) (hb:Rd.peek l (Rd.skip l q2)≠44) (he:Rd.peek l (Rd.skip l q2)≠e):Rd.jm l st e (f+1) a q = .err 2 (Rd.skip l q2):=by
 rw [Rd.jm,h];exact (if_neg hb).trans (if_neg he)
theorem zhV {α:Type} (s:ByteArray) (R p d e g F:Nat) (lb:Array Value) (st:Nat→α→Nat→Rd.Res α) (Inv:α→Nat→World→Prop) (Bad:World→Prop) (a:α) (w:World)
  (eg:∀args w,(callFunc g args).run Tryz.prog w = .ok (.enter g args) w) (hR:Reads s R g lb st F d Inv Bad)
  (hi:Inv a p w) (hp:p<s.size) (hs:s.size≤4000) (hd:d≤100) (he0:e≠0) (he2:e≠44) (hF:2*(s.size-(p+1))+1<F) :
  Calls Tryz.prog 190 #[.pointer (some ⟨R,0,none⟩), .int .i64 (d:Int), .int .u8 (e:Int), .func (.func g) #[] lb] w fun en w'=>jE Inv Bad (Rd.vw s.data.toList st e F d a p) en w':=by
 have hr:=hR.rd a p w hi
 have HI:=hid hi
 have HRD:=hid hR
 clear hi hR
 have hE:Rd.vw s.data.toList st e F d a p=Rd.vw s.data.toList st e F d a p:=rfl
 conv at hE=>rhs;unfold Rd.vw
 have hmv:zu (w.setCell ⟨R,1,none⟩ (.int .i64 ((p:Int)+1))) R s (p+1):=by
  have:=hr.move (p+1)
  rwa [show ((p+1:Nat):Int)=(p:Int)+1 by omega] at this
 have HMV:=hid hmv
 obtain ⟨h1,h2,h3⟩:=hr
 clear hmv
 by_cases c8:8<d
 ·rw [if_pos c8] at hE
  have HE:=hid hE
  have d8:decide (8<(d:Int))=true:=decide_eq_true (by omega)
  clear hE
  go_enter Tryz.func190,Tryz.ntmps190
  go_wp2
  go_ret
  refine jE.of ?_ HE.out
  exact ⟨rfl,HRD.out.bad _ _ _ HI.out⟩
 rw [if_neg c8] at hE
 have d8:decide (8<(d:Int))=false:=decide_eq_false (by omega)
 have hsk:=Rd.yh s.data.toList (p+1) (by rw [Ref.zg];omega)
 rw [Ref.zg] at hsk
 have hsg:=Rd.xy s.data.toList (p+1)
 have hnb:=Rd.xX s.data.toList (p+1)
 obtain ⟨q,hq⟩:∃q,Rd.skip s.data.toList (p+1)=q:=⟨_,rfl⟩
 have hs1:=yu s R (p+1) _ HMV.out (by omega) hs
 rw [hq] at hE hsk hsg hnb hs1
 obtain ⟨b,hb⟩:∃b,Rd.peek s.data.toList q=b:=⟨_,rfl⟩
 have hblt:b<256:=by rw [← hb];exact Rd.vS _ _
 rw [hb] at hE
 have hs2:=hs1.mono (R':=fun en w'=>en = .returned (.tuple #[])∧w.grownBy w' (some R)∧zu w' R s q) (by
  rintro en w' ⟨rfl,h4,h5⟩
  exact ⟨rfl,zf (qg _ _ _ _) h4,h5⟩)
 have hpe:∀w1,zu w1 R s q→w.grownBy w1 (some R)→Calls Tryz.prog 143 #[.pointer (some ⟨R,0,none⟩)] w1 fun en w'=>en = .returned (.int .u8 (b:Int))∧w.grownBy w' (some R)∧zu w' R s q:=fun w1 h6 h7=>by
  refine (VZ s R q w1 h6 hsk).mono ?_
  rintro en w' ⟨rfl,h4,h5,_,_⟩
  exact ⟨by rw [hb],zf h7 h5,h4⟩
 clear hs1
 by_cases ce:b=e
 ·rw [if_pos ce] at hE
  have HE:=hid hE
  have hql:q<s.size:=by
   have:=Rd.zx s.data.toList q (by rw [hb];omega)
   rwa [Ref.zg] at this
  have de:((b:Int)==(e:Int))=true:=by rw [beq_iff_eq];omega
  clear hE hb hq hnb
  go_enter Tryz.func190,Tryz.ntmps190
  go_wp2_with (first
   | (go_at_call 92;refine hs2.mono ?_;rintro en w1 ⟨rfl,hg1,hr1⟩)
   | (go_at_call 143;refine (hpe w1 hr1 hg1).mono ?_;rintro en w2 ⟨rfl,hg2,hr2⟩;have HR2:=hid hr2;obtain ⟨g1,g2,g3⟩:=hr2))
  go_ret
  refine jE.of ?_ HE.out
  refine ⟨rfl,HRD.out.mv a p _ w _ HI.out (by omega) (zf hg2 (qg _ _ _ _)) ?_⟩
  have:=HR2.out.move (q+1)
  rwa [show ((q+1:Nat):Int)=(q:Int)+1 by omega] at this
 rw [if_neg ce] at hE
 have de:((b:Int)==(e:Int))=false:=by rw [beq_eq_false_iff_ne];omega
 have HE:=hid hE
 have HNB:=hid hnb
 clear hE hb hq hnb
 go_enter Tryz.func190,Tryz.ntmps190
 go_wp2_with (first
  | (go_at_call 92;refine hs2.mono ?_;rintro en w1 ⟨rfl,hg1,hr1⟩)
  | (go_at_call 143;refine (hpe w1 hr1 hg1).mono ?_;rintro en w2 ⟨rfl,hg2,hr2⟩))
 have HR2:=hid hr2
 have HG2:=hid hg2
 clear hr1 hg1 hr2 hg2 hpe hs2 h1 h2 h3
 go_loopw [38] (fun _ wr=>∃(f:Nat) (a':α) (q':Nat),f≤F∧Inv a' q' wr∧q'≤s.size∧Rd.blank (Rd.peek s.data.toList q')=false∧2*(s.size-q')+1<f∧Rd.jm s.data.toList st e F a q=Rd.jm s.data.toList st e f a' q') (fun _ wr=>s.size-zmg wr R)
 case atStart=>exact ⟨F,a,q,Nat.le_refl _,HRD.out.mv a p q w w2 HI.out (by omega) HG2.out HR2.out,hsk,HNB.out,by omega,rfl⟩
 case round=>
  obtain ⟨f,a',q',hfF,hi',hq',hnb',hf',hst⟩:=hrel
  obtain ⟨f,rfl⟩:∃k,f=k+1:=⟨f-1,by omega⟩
  have hone:=HRD.out.one f a' q' wr (by omega) (by omega) hi' hq' hnb' (by omega)
  have hat:=hid (HRD.out.rd _ _ _ hi').at
  have HST:=hid hst
  have HI2:=hid hi'
  have HADV:=hid (fun a2 q2=>HRD.out.adv f a' q' a2 q2 hq' hnb' (by omega))
  clear hst hi' HR2 HG2 HNB HMV hnb'
  cases hx:st f a' q' with
  | err c q2=>
   rw [hx] at hone
   have HEND:=hid (HE.out.trans (HST.out.trans (zhe hx)))
   obtain ⟨T,hT⟩:=yX c q2
   have hone2:=hone.mono (R':=fun en w'=>en = .returned (.iface T (.agg #[.int .i64 (q2:Int)]))∧Bad w') (by
    rintro en w' ⟨rfl,h⟩
    exact ⟨by rw [hT],h⟩)
   have HT:=hid hT
   clear hone hx HADV hT
   go_wp2_with (go_at_fn g;refine hone2.mono ?_;rintro en w3 ⟨rfl,hbad⟩)
   go_ret
   refine jE.of ?_ HEND.out
   exact ⟨by rw [HT.out];rfl,hbad⟩
  | ok a2 q2=>
   rw [hx] at hone
   obtain ⟨hadv1,hadv2⟩:=HADV.out a2 q2 hx
   have hsk2:=Rd.yh s.data.toList q2 (by rw [Ref.zg];omega)
   rw [Ref.zg] at hsk2
   have hsg2:=Rd.xy s.data.toList q2
   have hmore:=fun h=>hid (HE.out.trans (HST.out.trans (zfx (e:=e) (l:=s.data.toList) hx h)))
   have hend:=fun h=>hid (HE.out.trans (HST.out.trans (zhw (e:=e) (l:=s.data.toList) hx h he2)))
   have hbd:=fun h h'=>hid (HE.out.trans (HST.out.trans (zhh (e:=e) (l:=s.data.toList) hx h h')))
   have hs1:=fun w1 (h:Inv a2 q2 w1)=>yu s R q2 w1 (HRD.out.rd _ _ _ h) hadv2 hs
   obtain ⟨q3,hq3⟩:∃q,Rd.skip s.data.toList q2=q:=⟨_,rfl⟩
   simp only [hq3] at hsk2 hsg2 hmore hend hbd hs1
   obtain ⟨b3,hb3⟩:∃b,Rd.peek s.data.toList q3=b:=⟨_,rfl⟩
   have hblt3:b3<256:=by rw [← hb3];exact Rd.vS _ _
   have hpos3:b3≠0→q3<s.size:=fun h=>by
    have:=Rd.zx s.data.toList q3 (by rw [hb3];exact h)
    rwa [Ref.zg] at this
   simp only [hb3] at hmore hend hbd
   have hone2:=hone.mono (R':=fun en w'=>en = .returned .nilIface∧Inv a2 q2 w') (by
    rintro en w' ⟨rfl,h⟩
    exact ⟨rfl,h⟩)
   have hs2:∀w1,Inv a2 q2 w1→Calls Tryz.prog 92 #[.pointer (some ⟨R,0,none⟩)] w1 fun en w'=>en = .returned (.tuple #[])∧Inv a2 q3 w':=fun w1 h=>by
    refine (hs1 w1 h).mono ?_
    rintro en w' ⟨rfl,h4,h5⟩
    exact ⟨rfl,HRD.out.mv _ _ _ _ _ h hsg2 h4 h5⟩
   have hpe:∀w1,Inv a2 q3 w1→Calls Tryz.prog 143 #[.pointer (some ⟨R,0,none⟩)] w1 fun en w'=>en = .returned (.int .u8 (b3:Int))∧Inv a2 q3 w'∧zu w' R s q3:=fun w1 h=>by
    refine (VZ s R q3 w1 (HRD.out.rd _ _ _ h) hsk2).mono ?_
    rintro en w' ⟨rfl,h4,h5,_,_⟩
    exact ⟨by rw [hb3],HRD.out.mv _ _ _ _ _ h (Nat.le_refl _) h5 h4,h4⟩
   clear hone hx HADV hs1 hb3 hq3
   by_cases c44:b3=44
   ·have d44:(b3:Int)=44:=by omega
    have HM:=hmore c44
    have hql:=hpos3 (by omega)
    have hsk4:=Rd.yh s.data.toList (q3+1) (by rw [Ref.zg];omega)
    rw [Ref.zg] at hsk4
    have hsg4:=Rd.xy s.data.toList (q3+1)
    have HNB4:=hid (Rd.xX s.data.toList (q3+1))
    clear hmore hend hbd hpos3 c44
    obtain ⟨q4,hq4⟩:∃q,Rd.skip s.data.toList (q3+1)=q:=⟨_,rfl⟩
    rw [hq4] at hsk4 hsg4 HM HNB4
    have hs4:∀w3,Inv a2 q3 w3→zu w3 R s q3→Calls Tryz.prog 92 #[.pointer (some ⟨R,0,none⟩)] (w3.setCell ⟨R,1,none⟩ (.int .i64 ((q3:Int)+1))) fun en w'=>en = .returned (.tuple #[])∧Inv a2 q4 w':=fun w3 h h'=>by
     have hm:=h'.move (q3+1)
     rw [show ((q3+1:Nat):Int)=(q3:Int)+1 by omega] at hm
     refine (yu s R (q3+1) _ hm (by omega) hs).mono ?_
     rintro en w' ⟨rfl,h4,h5⟩
     rw [hq4] at h5
     exact ⟨rfl,HRD.out.mv _ _ _ _ _ h (by omega) (zf (qg _ _ _ _) h4) h5⟩
    clear hq4
    go_wp2_with (first
     | (go_at_fn g;refine hone2.mono ?_;rintro en w3 ⟨rfl,hi3⟩)
     | (go_at_call 92;refine (hs4 w5 hi5 HR5.out).mono ?_;rintro en w6 ⟨rfl,hi6⟩)
     | (go_at_call 92;refine (hs2 w3 hi3).mono ?_;rintro en w4 ⟨rfl,hi4⟩)
     | (go_at_call 143;refine (hpe w4 hi4).mono ?_;rintro en w5 ⟨rfl,hi5,hr5⟩;have HR5:=hid hr5;obtain ⟨g1,g2,g3⟩:=hr5))
    have hat6:=(HRD.out.rd _ _ _ hi6).at
    go_roundw
    case rel=>exact ⟨f,a2,q4,by omega,hi6,hsk4,HNB4.out,by omega,HE.out.symm.trans HM.out⟩
    case measure=>rw [hat.out,hat6];omega
   have d44:((b3:Int)==44)=false:=by rw [beq_eq_false_iff_ne];omega
   by_cases ce3:b3=e
   ·have de3:((b3:Int)==(e:Int))=true:=by rw [beq_iff_eq];omega
    have HM:=hend ce3
    have hql:=hpos3 (by omega)
    clear hmore hend hbd hpos3 c44 ce3
    go_wp2_with (first
     | (go_at_fn g;refine hone2.mono ?_;rintro en w3 ⟨rfl,hi3⟩)
     | (go_at_call 92;refine (hs2 w3 hi3).mono ?_;rintro en w4 ⟨rfl,hi4⟩)
     | (go_at_call 143;refine (hpe w4 hi4).mono ?_;rintro en w5 ⟨rfl,hi5,hr5⟩;have HR5:=hid hr5;obtain ⟨g1,g2,g3⟩:=hr5))
    go_ret
    refine jE.of ?_ HM.out
    refine ⟨rfl,HRD.out.mv _ _ _ _ _ hi5 (by omega) (qg _ _ _ _) ?_⟩
    have:=HR5.out.move (q3+1)
    rwa [show ((q3+1:Nat):Int)=(q3:Int)+1 by omega] at this
   ·have de3:((b3:Int)==(e:Int))=false:=by rw [beq_eq_false_iff_ne];omega
    have HM:=hbd c44 ce3
    clear hmore hend hbd hpos3 c44 ce3
    go_wp2_with (first
     | (go_at_fn g;refine hone2.mono ?_;rintro en w3 ⟨rfl,hi3⟩)
     | (go_at_call 92;refine (hs2 w3 hi3).mono ?_;rintro en w4 ⟨rfl,hi4⟩)
     | (go_at_call 143;refine (hpe w4 hi4).mono ?_;rintro en w5 ⟨rfl,hi5,hr5⟩)
     | (go_at_call 94;refine (qR s R q3 w5 hr5).mono ?_;rintro en w6 ⟨rfl,rfl⟩))
    go_ret
    refine jE.of ?_ HM.out
    exact ⟨rfl,HRD.out.bad _ _ _ hi5⟩
inductive ValAt (w:World) (S:Nat→Prop):Rd.V→Value→Prop
 | str (t:ByteArray):ValAt w S (.str t) (.iface 270 (.string t))
 | word (b:Bool):ValAt w S (.word b) (.iface 271 (.bool b))
 | list (vs:List Rd.V) (us:List Value) (ao:Option Addr) (cap:Nat):us.length=vs.length →
   (us=[]∨∃b,ao=some ⟨b,0,none⟩∧S b∧∀(j:Nat) (u:Value),us[j]?=some u→w.cell? ⟨b,j,none⟩=some u) →
   (∀(j:Nat) (v:Rd.V) (u:Value),vs[j]?=some v→us[j]?=some u→ValAt w S v u)→ValAt w S (.list vs) (.iface 121 (.slice ao us.length cap))
 | obj (ms:List (ByteArray×Rd.V)) (us:List (ByteArray×Value)) (ao:Option Addr) (cap:Nat):us.map Prod.fst=ms.map Prod.fst →
   (us=[]∨∃b,ao=some ⟨b,0,none⟩∧S b∧∀(j:Nat) (x:ByteArray×Value),us[j]?=some x→w.cell? ⟨b,j*2,none⟩=some (.string x.1)∧w.cell? ⟨b,j*2+1,none⟩=some x.2) →
   (∀(j:Nat) (x:ByteArray×Rd.V) (u:ByteArray×Value),ms[j]?=some x→us[j]?=some u→ValAt w S x.2 u.2)→ValAt w S (.obj ms) (.iface 118 (.slice ao us.length cap))
theorem ValAt.move {w w':World} {S S':Nat→Prop} {v:Rd.V} {u:Value} (h:ValAt w S v u) (hS:∀b,S b→S' b) (hh:∀b,S b→w'.heap[b]?=w.heap[b]?):ValAt w' S' v u:=by
 induction h with
 | str t=>exact .str t
 | word b=>exact .word b
 | list vs us ao cap h1 h2 _ ih=>
  refine .list vs us ao cap h1 ?_ ih
  rcases h2 with h2|⟨b,ha,hb,hc⟩
  ·exact .inl h2
  ·exact .inr ⟨b,ha,hS b hb,fun j u hu=>by rw [World.cell?_of_block (a:=⟨b,j,none⟩) (hh b hb)];exact hc j u hu⟩
 | obj ms us ao cap h1 h2 _ ih=>
  refine .obj ms us ao cap h1 ?_ ih
  rcases h2 with h2|⟨b,ha,hb,hc⟩
  ·exact .inl h2
  ·exact .inr ⟨b,ha,hS b hb,fun j x hx=>⟨by rw [World.cell?_of_block (a:=⟨b,j*2,none⟩) (hh b hb)];exact (hc j x hx).1,by rw [World.cell?_of_block (a:=⟨b,j*2+1,none⟩) (hh b hb)];exact (hc j x hx).2⟩⟩
theorem ValAt.iface {w:World} {S:Nat→Prop} {v:Rd.V} {u:Value} (h:ValAt w S v u):∃T x,u = .iface T x:=by
 cases h with
 | str t=>exact ⟨_,_,rfl⟩
 | word b=>exact ⟨_,_,rfl⟩
 | list=>exact ⟨_,_,rfl⟩
 | obj=>exact ⟨_,_,rfl⟩
def Blk (w w':World) (b:Nat):Prop:=w.heap.size≤b∧b<w'.heap.size
def starts (s:ByteArray) (p:Nat):Bool:=Rd.peek s.data.toList p==123||Rd.peek s.data.toList p==91||Rd.peek s.data.toList p==34||Rd.peek s.data.toList p==116||Rd.peek s.data.toList p==102
def yC (w:World) (R:Nat) (s:ByteArray) (sb:Bool) (r:Rd.Res Rd.V) (e:Ending) (w':World):Prop:=match r with
 | .ok v q=>∃u,e = .returned (.tuple #[u, .nilIface])∧ValAt w' (Blk w w') v u∧w.grownBy w' (some R)∧zu w' R s q
 | .err c q=>∃u,e = .returned (.tuple #[u,uY c q])∧((sb=true→∃T x,u = .iface T x)∧(sb=false→u = .nilIface))∧w.grownBy w' (some R)
theorem yC.of {w w':World} {R:Nat} {s:ByteArray} {sb:Bool} {r r':Rd.Res Rd.V} {e:Ending} (h:yC w R s sb r e w') (hr:r'=r):yC w R s sb r' e w':=hr ▸ h
def vY (s:ByteArray) (R F:Nat):Prop:=∀f,f<F→∀(d p:Nat) (w:World),zu w R s p→qo w→p≤s.size→1≤d→d≤9→Rd.blank (Rd.peek s.data.toList p)=false→2*(s.size-p)<f →
 Calls Tryz.prog 93 #[.pointer (some ⟨R,0,none⟩), .int .i64 (d:Int)] w fun e w'=>yC w R s (starts s p) (Rd.qj s.data.toList f d p) e w'
structure ziU (w0:World) (R:Nat) (s:ByteArray) (d:Nat) (acc:List Rd.V) (q:Nat) (wr:World):Prop where
 rd:zu wr R s q
 seq:qo wr
 grown:w0.grownBy wr (some R)
 size:w0.heap.size+3≤wr.heap.size
 len:acc.length≤q
 cx:wr.cell? ⟨w0.heap.size,0,none⟩=some (.pointer (some ⟨R,0,none⟩))
 cd:wr.cell? ⟨w0.heap.size+1,0,none⟩=some (.int .i64 (d:Int))
 row:∃lv us,wr.cell? ⟨w0.heap.size+2,0,none⟩=some lv∧wr.frozen? ⟨w0.heap.size+2,0,none⟩=false∧wr.ownsRow (w0.heap.size+3) 114 1 lv acc.length us ∧
  ∀(j:Nat) (v:Rd.V) (u:Value),acc[j]?=some v→us[j]?=some u→ValAt wr (fun b=>w0.heap.size+3≤b∧b<wr.heap.size∧lv.ownBlock≠some b) v u
def zlX (w0:World) (R:Nat) (wr:World):Prop:=w0.grownBy wr (some R)∧∃lv,wr.cell? ⟨w0.heap.size+2,0,none⟩=some lv
theorem ziU.mv {w0:World} {R:Nat} {s:ByteArray} {d:Nat} {acc:List Rd.V} {q q':Nat} {w w':World} (hR:R<w0.heap.size) (hRg:R≠5) (h:ziU w0 R s d acc q w) (hq:q≤q') (hg:w.grownBy w' (some R)) (hr:zu w' R s q'):ziU w0 R s d acc q' w':=by
 obtain ⟨lv,us,c1,c2,c3,c4⟩:=h.row
 have hsz:=h.size
 have hgs:=hg.size
 refine ⟨hr,h.seq.grown hg hRg,zf h.grown hg,by omega,by have:=h.len;omega,hg.cell h.cx (by simp;omega),hg.cell h.cd (by simp;omega),lv,us,hg.cell c1 (by simp;omega),?_,xE c3 hg (by omega),fun j v u hv hu=>(c4 j v u hv hu).move (fun b hb=>⟨hb.1,by omega,hb.2.2⟩) (fun b hb=>hg.block b hb.2.1 (by simp;omega))⟩
 rw [World.frozen?_of_block (w:=w) (a:=⟨w0.heap.size+2,0,none⟩) (hg.block _ (by show w0.heap.size+2<_;omega) (by simp;omega))]
 exact c2
theorem zkl:(Tryz.prog.info? 114).map (fun i=>(i.zero,i.size,i.bytes))=some (some .nilIface,1,16):=by kernel_rfl
theorem zik {α:Type} {xs:List α} {x:α} {j:Nat} {u:α} (h:(xs++[x])[j]?=some u):(j<xs.length∧xs[j]?=some u)∨(j=xs.length∧u=x):=by
 rw [List.getElem?_append] at h
 split at h
 ·rename_i hj;exact .inl ⟨hj,h⟩
 ·have hj:=(List.getElem?_eq_some_iff.1 h).1
  simp at hj
  have e:j=xs.length:=by omega
  subst e
  simp at h
  exact .inr ⟨rfl,h.symm⟩
end Go.Proofs.YtdakgnaojakldaaGreatDoor
