/- P -/
import Derived.Test.YtdakgnaojakldaaGreatDoorP47
set_option maxRecDepth 100000
set_option maxHeartbeats 4000000
namespace Go.Proofs.YtdakgnaojakldaaGreatDoor
open Go.RowKit
theorem Vg {M:Nat→Prop} {W:World} {base:Nat} {v:Value} {ks:List zG} {xs:List Value} (h1:W.ownsRow base 251 3 v ks.length xs) (h2:yP M W xs ks):∃a c,v = .slice a ks.length c∧∀(k:Nat) (x:zG),ks[k]?=some x→∃gb da dn dc,a=some ⟨gb,0,none⟩∧W.cell? ⟨gb,k*3,none⟩=some (.int .i64 x.layer)∧W.cell? ⟨gb,k*3+1,none⟩=some (.string x.name)∧W.cell? ⟨gb,k*3+2,none⟩=some (.slice da dn dc)∧jA M W (.slice da dn dc) x.rs:=by
 rcases h1.2 with ⟨e,h0⟩|⟨g,cap,cur,e,_⟩
 ·have hk:ks=[]:=List.length_eq_zero_iff.1 h0
  subst hk
  exact ⟨none,0,e,fun k x hx=>by simp at hx⟩
 ·refine ⟨some ⟨g,0,none⟩,cap,e,fun k x hx=>?_⟩
  have hk:k<ks.length:=(List.getElem?_eq_some_iff.1 hx).1
  obtain ⟨da,dn,dc,g1,g2,g3,g4⟩:=h2.2 k x hx
  have hc:∀i,i<ks.length*3→W.cell? ⟨g,i,none⟩=xs[i]?:=fun i hi=>World.ownsRow.cellAt (g:=g) (cap:=cap) (by rw [← e];exact h1) i (by omega)
  exact ⟨g,da,dn,dc,rfl,by rw [hc _ (by omega)];exact g1,by rw [hc _ (by omega)];exact g2,by rw [hc _ (by omega)];exact g3,g4⟩
theorem zjD {ks:List zG} {l:Int} {out:List zG} (h:Yk ks l out):out.length≤ks.length:=by
 obtain ⟨ps,h1,h2,_,rfl⟩:=h
 rw [zbz (fun p hp=>((h2 p).1 hp).1)]
 have:=h1.length_le_of_subset (l₂:=List.range ks.length) (fun p hp=>List.mem_range.2 ((h2 p).1 hp).1)
 simpa using this
def XY (ks:List zG) (l:Int) (w:World) (e:Ending) (w':World):Prop:=
 ∃v ns,e = .returned (.tuple #[v, .int .i64 (Xi l)])∧zh w' w.heap.size v ns∧Below w.heap.size w w'∧(qJ l=false→ns=[])∧(qJ l=true→∃out,Yk ks l out∧ns=out.map zG.name)
def Jt (ks:List zG) (l:Int) (name:ByteArray) (w:World) (e:Ending) (w':World):Prop:=
 ∃s E,e = .returned (.tuple #[.string s, .int .i64 E])∧Below w.heap.size w w' ∧
  (ql l name≠0→s=⟨#[]⟩∧E=ql l name)∧(ql l name=0→ks.findIdx? (isR l name)=none→s=⟨#[]⟩∧E=9)∧(ql l name=0→∀k x,ks.findIdx? (isR l name)=some k→ks[k]?=some x→s=Ref.XG x.rs∧E=0)
theorem J4 {ks:List zG} {l:Int} {name:ByteArray} (h:ks.findIdx? (isR l name)=none):zkV ks l name = -1:=by unfold zkV;rw [h]
theorem Jm {ks:List zG} {l:Int} {name:ByteArray} {k:Nat} (h:ks.findIdx? (isR l name)=some k):zkV ks l name=(k:Int):=by unfold zkV;rw [h]
theorem zj3 (cb:Nat) (lv:Value) (ks:List zG) (l:Int) (M:Nat→Prop) (w:World) (h:yM M w cb lv ks) (hn:ks.length≤1000000000) (hN:∀x ∈ ks,x.name.size≤maxLen) (hM:∀b,M b→b<w.heap.size) :
  Calls Tryz.prog 72 #[.pointer (some ⟨cb,0,none⟩), .int .i64 l] w (XY ks l w):=by
 obtain ⟨i0,hi,hz0,hz1,hz2⟩:=info_parts Qo
 by_cases hr:0≤l∧l<4
 ·obtain ⟨hl0,hl4⟩:=hr
  have d1:decide (0≤l)=true:=decide_eq_true hl0
  have d2:decide (l<4)=true:=decide_eq_true hl4
  have d3:decide (l<0)=false:=by simp;omega
  have d4:decide (4≤l)=false:=by simp;omega
  have hB:qJ l=true:=by unfold qJ;rw [d1,d2];rfl
  have hE:Xi l=0:=by unfold Xi;rw [hB];rfl
  have HBE:=hid (And.intro hB hE)
  clear hB hE
  have ci:=zb6 cb lv ks l M w h hn hN hM
  have CI:=hid ci
  clear ci h hM hN
  go_enter Tryz.func72,Tryz.ntmps72
  go_upto_region 4 with (go_at_call 126;refine CI.out.mono ?_;rintro e w1 ⟨v,xs,out,rfl,hin,hown,htr,hb⟩;have HIN:=hid hin;have HTR:=hid (Vg hown htr);have HB1:=hid hb;have hol:=zjD hin;clear hin hown htr hb)
  obtain ⟨a,c,rfl,hcells⟩:=HTR.out
  have HC:=hid hcells
  obtain ⟨m,hmm⟩:∃m,out.length=m:=⟨_,rfl⟩
  rw [hmm] at hol ⊢
  have HMM:=hid hmm
  clear hcells hmm HTR CI
  go_wp2_with fail
  go_loopw [7,8] (fun ov iv wr=>∃k:Nat,k≤m∧iv = .int .i64 k∧zh wr w1.heap.size ov ((out.take k).map zG.name)∧Below w1.heap.size w1 wr) (fun _ iv _=>m-(intOf iv).toNat)
  case atStart=>exact ⟨0,Nat.zero_le _,rfl,⟨rfl, .inl ⟨rfl,rfl⟩⟩,Below.refl _ _⟩
  case round=>
   obtain ⟨k,hk,rfl,ho,hb⟩:=hrel
   have HO:=hid ho
   have HB:=hid hb
   clear ho hb
   by_cases hlt:k<m
   ·have hkl:k<out.length:=by rw [HMM.out];exact hlt
    obtain ⟨gb,da,dn,dc,rfl,q0,q1,q2,_⟩:=HC.out k _ (List.getElem?_eq_getElem hkl)
    have p1:=cell_later HB.out q1
    have htk:Hid ((out.take (k+1)).map zG.name=(out.take k).map zG.name++[out[k].name]):=hid (by rw [List.take_add_one,List.getElem?_eq_getElem hkl,List.map_append];rfl)
    have hln:((out.take k).map zG.name).length=k:=by rw [List.length_map,List.length_take];omega
    obtain ⟨S,hS⟩:∃S,out[k].name=S:=⟨_,rfl⟩
    rw [hS] at p1 htk
    obtain ⟨K,hK⟩:∃K,(out.take k).map zG.name=K:=⟨_,rfl⟩
    rw [hK] at HO htk hln
    have hzr:=HB.out.size
    have hz1':=HB1.out.size
    have k0:(0:Int)≤(k:Int):=Int.natCast_nonneg _
    have k1:(k:Int)<(m:Int):=by omega
    clear q0 q1 q2 hS hK HC
    go_wp2_with (at_builtin;refine wpList_append_own _ rfl _ _ 42 rfl w1.heap.size 9 i0 (.string ⟨#[]⟩) 1 16 Tryz.underlying42 hi hz0 hz1 hz2 rfl (by decide) _ K.length (K.map Value.string) rfl (World.ownsRow.alloc HO.out _) ⟨wr.heap.size,0,none⟩ 1 1 [.string S] rfl rfl ?_ ?_ ?_ ?_ ?_ ?_)
    ·exact qM _ _ _
    ·intro u hu;simp at hu;rcases hu with rfl;rfl
    ·unfold maxLen;omega
    ·omega
    ·simp;omega
    ·intro v' w3 hown' hgrow _
     have HO3:Hid (zh w3 w1.heap.size v' ((out.take (k+1)).map zG.name)):=by rw [htk.out];exact ZI (by rw [hln];exact hown')
     have HB3:Hid (Below w1.heap.size w1 w3):=(HB.out.alloc hzr _).grown hgrow (by simp;omega) (fun k hk=>(World.ownsRow.lt HO.out k hk).1)
     clear hown' hgrow
     go_wp2_with fail
     go_roundw
     case rel=>exact ⟨k+1,by omega,by go_num,HO3.out,HB3.out⟩
     case measure=>simp [intOf];omega
   ·have hkm:m=k:=by omega
    subst hkm
    have ho:=HO.out
    rw [List.take_of_length_le (by rw [HMM.out];omega)] at ho
    have HO2:=hid (zl ho HB1.out.size)
    clear ho HC
    go_wp2_with fail
    go_ret2
    exact ⟨_,_,by rw [HBE.out.2];rfl,HO2.out,HB1.out.trans (HB.out.mono HB1.out.size),(fun e=>by rw [HBE.out.1] at e;cases e),fun _=>⟨out,HIN.out,rfl⟩⟩
 ·have dd:(decide (0≤l)&&decide (l<4))=false:=by
   rw [Bool.and_eq_false_iff]
   by_cases e:0≤l
   ·exact .inr (by simp;omega)
   ·exact .inl (by simp;omega)
  have hB:qJ l=false:=dd
  have hE:Xi l=7:=by unfold Xi;rw [hB];rfl
  have HBE:=hid (And.intro hB hE)
  clear hB hE dd
  clear h hM hN
  by_cases e:l<0
  ·have d3:decide (l<0)=true:=by simp;omega
   go_enter Tryz.func72,Tryz.ntmps72
   go_wp2_with fail
   go_ret2
   exact ⟨_,[],by rw [HBE.out.2];rfl,⟨rfl, .inl ⟨rfl,rfl⟩⟩,Below.refl _ _,(fun _=>rfl),fun e=>by rw [HBE.out.1] at e;cases e⟩
  ·have d3:decide (l<0)=false:=by simp;omega
   have d4:decide (4≤l)=true:=by simp;omega
   go_enter Tryz.func72,Tryz.ntmps72
   go_wp2_with fail
   go_ret2
   exact ⟨_,[],by rw [HBE.out.2];rfl,⟨rfl, .inl ⟨rfl,rfl⟩⟩,Below.refl _ _,(fun _=>rfl),fun e=>by rw [HBE.out.1] at e;cases e⟩
theorem zlw (cb:Nat) (lv:Value) (ks:List zG) (l:Int) (name:ByteArray) (M:Nat→Prop) (w:World) (h:yM M w cb lv ks) (hn:ks.length≤maxLen) (hs:name.size≤maxLen) (hS:∀x ∈ ks,x.rs.length≤10∧∀r ∈ x.rs,Ref.uS r) :
  Calls Tryz.prog 71 #[.pointer (some ⟨cb,0,none⟩), .int .i64 l, .string name] w (Jt ks l name w):=by
 have cn:=UX l name w hs
 have cf:=UV cb lv ks l name M w h hn
 by_cases hpl:ql l name=0
 ·rw [hpl] at cn
  have CN:=hid cn
  obtain ⟨F,hF⟩:∃F,ks.findIdx? (isR l name)=F:=⟨_,rfl⟩
  cases F with
  | none=>
   rw [J4 hF] at cf
   have CF:Hid (Calls Tryz.prog 125 #[.pointer (some ⟨cb,0,none⟩), .int .i64 l, .string name] w fun e w'=>e = .returned (.int .i64 (-1))∧w'=w):=hid cf
   have HF:=hid hF
   clear cn cf h hF hS
   go_enter Tryz.func71,Tryz.ntmps71
   go_wp2_with (first
    | (go_at_call 125;refine CF.out.mono ?_;rintro e w2 ⟨rfl,e2⟩;rw [e2];clear e2)
    | (go_at_call 124;refine CN.out.mono ?_;rintro e w1 ⟨rfl,e1⟩;rw [e1];clear e1))
   go_ret2
   exact ⟨⟨#[]⟩,9,rfl,Below.refl _ _,(fun e=>absurd hpl e),(fun _ _=>⟨rfl,rfl⟩),fun _ k x hk=>by rw [HF.out] at hk;cases hk⟩
  | some k=>
   rw [Jm hF] at cf
   have CF:Hid (Calls Tryz.prog 125 #[.pointer (some ⟨cb,0,none⟩), .int .i64 l, .string name] w fun e w'=>e = .returned (.int .i64 (k:Int))∧w'=w):=hid cf
   have hkl:k<ks.length:=by
    have:=List.findIdx?_eq_some_iff_getElem.1 hF
    exact this.1
   have hx:=List.getElem?_eq_getElem hkl
   obtain ⟨a,c,rfl,hcells⟩:=h.cells
   have c0:=(cells_of_block h.cell 0).1
   simp at c0
   obtain ⟨gb,da,dn,dc,rfl,q0,q1,q2,hdoc⟩:=hcells k _ hx
   have hsm:=hS _ (List.mem_of_getElem? hx)
   obtain ⟨x,hxx⟩:∃x,ks[k]=x:=⟨_,rfl⟩
   rw [hxx] at hx hdoc hsm
   obtain ⟨base,hat⟩:=hdoc.at
   have cpl:=zaB x.rs _ base w hat hsm.1 hsm.2
   obtain ⟨P,hP⟩:∃P,Ref.XG x.rs=P:=⟨_,rfl⟩
   rw [hP] at cpl
   have CPL:=hid cpl
   have HX:=hid hx
   have HF:=hid hF
   have HP:=hid hP
   obtain ⟨n,hnn⟩:∃n,ks.length=n:=⟨_,rfl⟩
   rw [hnn] at hkl c0
   have k0:(0:Int)≤(k:Int):=Int.natCast_nonneg _
   have k1:(k:Int)<(n:Int):=by omega
   clear cn cf h hF hS hcells hdoc hat hsm cpl hxx hx hP q0 q1 hnn hn
   go_enter Tryz.func71,Tryz.ntmps71
   go_wp2_with (first
    | (go_at_call 36;refine CPL.out.mono ?_;rintro e w3 ⟨rfl,b3⟩;have HB3:=hid b3;clear b3)
    | (go_at_call 125;refine CF.out.mono ?_;rintro e w2 ⟨rfl,e2⟩;rw [e2];clear e2)
    | (go_at_call 124;refine CN.out.mono ?_;rintro e w1 ⟨rfl,e1⟩;rw [e1];clear e1))
   go_ret2
   exact ⟨P,0,rfl,HB3.out,(fun e=>absurd hpl e),(fun _ e=>by rw [HF.out] at e;cases e),fun _ k' x' hk' hx'=>by
    rw [HF.out] at hk'
    injection hk' with hk'
    subst hk'
    rw [HX.out] at hx'
    injection hx' with hx'
    subst hx'
    exact ⟨HP.out.symm,rfl⟩⟩
 ·obtain ⟨E,hE⟩:∃x,ql l name=x:=⟨_,rfl⟩
  have HE:=hid hE
  rw [hE] at cn
  have hpl2:=hpl
  rw [hE] at hpl2
  have CN:=hid cn
  have d:(E==0)=false:=by simpa using hpl2
  have d2:(E != 0)=true:=by simpa using hpl2
  clear cn cf hE h hS
  go_enter Tryz.func71,Tryz.ntmps71
  go_wp2_with (go_at_call 124;refine CN.out.mono ?_;rintro e w1 ⟨rfl,e1⟩;rw [e1];clear e1)
  go_ret2
  exact ⟨⟨#[]⟩,E,rfl,Below.refl _ _,fun _=>⟨rfl,HE.out.symm⟩,fun e=>absurd e hpl,fun e=>absurd e hpl⟩
theorem V5 (W:World):(Go.sizeOf (Tryz.prog.elem 171)).run Tryz.prog W = .ok 3 W:=by
 obtain ⟨i0,hi,hz0,hz1,hz2⟩:=info_parts Qn
 have e:Tryz.prog.elem 171=251:=by kernel_rfl
 rw [e]
 simp [Go.sizeOf,typeInfo,hi,hz1]
theorem ziI (a:Option Addr) (n c p:Nat) (h:p≤c) (W:World):(Instr.sliceAt 171 (.slice a n c) none (some (.int .i64 (p:Int))) none).run Tryz.prog W = .ok (.slice a p c) W:=by
 have hu:Tryz.prog.underlying 171=some (.slice (Tryz.prog.elem 171)):=by kernel_rfl
 rw [run_sliceAt_slice _ _ _ _ _ _ hu,run_slice_h _ _ _ _ _ hu .i64 (p:Int) (by omega) (by omega),V5]
 simp [Result.andThen,sliced,Addr.add]
theorem zdH (a:Option Addr) (n c p:Nat) (h:p≤n) (W:World):(Instr.sliceAt 171 (.slice a n c) (some (.int .i64 (p:Int))) none none).run Tryz.prog W = .ok (.slice (if c=p then a else a.map fun x=>x.add (p*3)) (n-p) (c-p)) W:=by
 have hu:Tryz.prog.underlying 171=some (.slice (Tryz.prog.elem 171)):=by kernel_rfl
 rw [run_sliceAt_slice _ _ _ _ _ _ hu,run_slice_l _ _ _ _ _ hu .i64 (p:Int) (by omega) (by omega),V5]
 simp [Result.andThen,sliced]
def xx (M:Nat→Prop) (v:Value):Nat→Prop:=fun b=>M b∨v.ownBlock=some b
def JA (ks:List zG) (l:Int) (name:ByteArray) (M:Nat→Prop) (cb:Nat) (lv:Value) (w:World) (e:Ending) (w':World):Prop:=
 ∃E v' ks',e = .returned (.int .i64 E)∧zF (fun b=>b=cb) w w'∧(∀b,xx M v' b→M b∨w.heap.size≤b)∧yM (xx M v') w' cb v' ks'∧(v'=lv∨∀g,v'.ownBlock=some g→w.heap.size≤g) ∧
  (ql l name≠0→E=ql l name∧ks'=ks)∧(ql l name=0→ks.findIdx? (isR l name)=none→E=9∧ks'=ks)∧(ql l name=0→∀k,ks.findIdx? (isR l name)=some k→E=0∧ks'=ks.take k++ks.drop (k+1))
theorem yM.same {M:Nat→Prop} {W:World} {cb:Nat} {lv:Value} {ks:List zG} (h:yM M W cb lv ks):yM (xx M lv) W cb lv ks:=by
 obtain ⟨xs,h1,h2⟩:=h.rows
 have hM:∀b,xx M lv b→M b∨W.heap.size≤b:=fun b hb=>hb.elim .inl (fun e => .inl (h.own b e).1)
 exact ⟨.inl h.mine,h.cell,⟨xs,h1,h2.more hM⟩,fun g hg=>⟨.inl (h.own g hg).1,(h.own g hg).2⟩⟩
theorem yM.sameM {M:Nat→Prop} {W:World} {cb:Nat} {lv:Value} {ks:List zG} (h:yM M W cb lv ks):∀b,xx M lv b→M b∨W.heap.size≤b:=fun b hb=>hb.elim .inl (fun e => .inl (h.own b e).1)
theorem zla (cb:Nat) (lv:Value) (ks:List zG) (l:Int) (name:ByteArray) (M:Nat→Prop) (w:World) (h:yM M w cb lv ks) (hn:ks.length≤1000000000) (hs:name.size≤maxLen) (hM:∀b,M b→b<w.heap.size) :
  Calls Tryz.prog 70 #[.pointer (some ⟨cb,0,none⟩), .int .i64 l, .string name] w (JA ks l name M cb lv w):=by
 obtain ⟨i1,hj,hy0,hy1,hy2⟩:=info_parts Qn
 have cn:=UX l name w hs
 have cf:=UV cb lv ks l name M w h (by unfold maxLen;omega)
 have HSM:=hid h.same
 have HMM:=hid h.sameM
 by_cases hpl:ql l name=0
 ·rw [hpl] at cn
  have CN:=hid cn
  obtain ⟨F,hF⟩:∃F,ks.findIdx? (isR l name)=F:=⟨_,rfl⟩
  cases F with
  | none=>
   rw [J4 hF] at cf
   have CF:=hid cf
   have HF:=hid hF
   clear cn cf h hF hM
   go_enter Tryz.func70,Tryz.ntmps70
   go_wp2_with (first
    | (go_at_call 125;refine CF.out.mono ?_;rintro e w2 ⟨rfl,e2⟩;rw [e2];clear e2)
    | (go_at_call 124;refine CN.out.mono ?_;rintro e w1 ⟨rfl,e1⟩;rw [e1];clear e1))
   go_ret
   exact ⟨9,lv,ks,rfl,zF.refl _ _,HMM.out,HSM.out, .inl rfl,(fun e=>absurd hpl e),(fun _ _=>⟨rfl,rfl⟩),fun _ k hk=>by rw [HF.out] at hk;cases hk⟩
  | some k=>
   rw [Jm hF] at cf
   have CF:=hid cf
   have HF:=hid hF
   have hkl:k<ks.length:=(List.findIdx?_eq_some_iff_getElem.1 hF).1
   obtain ⟨xs,hown,htr⟩:=h.rows
   have c0:=(cells_of_block h.cell 0).1
   have f0:=(cells_of_block h.cell 0).2
   have hcb:cb<w.heap.size:=hM cb h.mine
   obtain ⟨g,cap,cur,e,_,hgg,hnc,hcm,_⟩:∃g cap cur,lv = .slice (some ⟨g,0,none⟩) ks.length cap∧0≤g∧w.heap[g]?=some (.cells cur 251 (0,0))∧ks.length≤cap∧cap≤maxLen∧True:=by
    rcases hown.2 with ⟨_,h0⟩|⟨g,cap,cur,e,h1,h2,h3,h4,_⟩
    ·omega
    ·exact ⟨g,cap,cur,e,h1,h2,h3,h4,trivial⟩
   subst e
   have hcell:∀i,i<ks.length*3→w.cell? ⟨g,i,none⟩=xs[i]?:=fun i hi=>World.ownsRow.cellAt (g:=g) (cap:=cap) hown i (by omega)
   simp at c0
   obtain ⟨n,hnn⟩:∃n,ks.length=n:=⟨_,rfl⟩
   rw [hnn] at hkl c0 hnc hcell hn
   have hxl:=htr.1
   rw [hnn] at hxl
   unfold maxLen at hcm
   have s1:=ziI (some ⟨g,0,none⟩) n cap k (by omega)
   have s2:∀W,(Instr.sliceAt 171 (.slice (some ⟨g,0,none⟩) n cap) (some (.int .i64 ((k:Int)+1))) none none).run Tryz.prog W = .ok (.slice (if cap=k+1 then some ⟨g,0,none⟩ else (some (⟨g,0,none⟩:Addr)).map fun x=>x.add ((k+1)*3)) (n-(k+1)) (cap-(k+1))) W:=zdH (some ⟨g,0,none⟩) n cap (k+1) (by omega)
   obtain ⟨ad,had,hadc⟩:∃ad:Addr,(if cap=k+1 then some ⟨g,0,none⟩ else (some (⟨g,0,none⟩:Addr)).map fun x=>x.add ((k+1)*3))=some ad∧(∀(j:Nat) (u:Value),(xs.drop ((k+1)*3))[j]?=some u→w.cell? (ad.add j)=some u):=by
    by_cases hc:cap=k+1
    ·refine ⟨⟨g,0,none⟩,by rw [if_pos hc],fun j u hu=>?_⟩
     have:=(List.getElem?_eq_some_iff.1 hu).1
     rw [List.length_drop,hxl] at this
     omega
    ·refine ⟨⟨g,(k+1)*3,none⟩,by rw [if_neg hc];simp [addr_add],fun j u hu=>?_⟩
     have hj2:=(List.getElem?_eq_some_iff.1 hu).1
     rw [List.length_drop,hxl] at hj2
     rw [List.getElem?_drop] at hu
     rw [addr_add,hcell _ (by omega)]
     exact hu
   rw [had] at s2
   have hac:∀(j:Nat) (u:Value),(xs.take (k*3))[j]?=some u→w.cell? ((⟨g,0,none⟩:Addr).add j)=some u:=fun j u hu=>by
    have hj2:=(List.getElem?_eq_some_iff.1 hu).1
    rw [List.length_take,hxl] at hj2
    rw [List.getElem?_take] at hu
    split at hu
    ·rw [addr_add,Nat.zero_add,hcell _ (by omega)];exact hu
    ·cases hu
   have hone:∀u ∈ xs,u.oneCell'=true:=by
    intro u hu
    obtain ⟨j,hj3⟩:=List.getElem?_of_mem hu
    have hjl:=(List.getElem?_eq_some_iff.1 hj3).1
    obtain ⟨da,dn,dc,g1,g2,g3,_⟩:=htr.2 (j / 3) _ (List.getElem?_eq_getElem (by omega))
    rcases (by omega:j=j / 3*3∨j=j / 3*3+1∨j=j / 3*3+2) with e|e|e
    ·rw [e,g1] at hj3;injection hj3 with hj3;rw [← hj3];rfl
    ·rw [e,g2] at hj3;injection hj3 with hj3;rw [← hj3];rfl
    ·rw [e,g3] at hj3;injection hj3 with hj3;rw [← hj3];rfl
   have HO:=hid h
   have HTR:=hid htr
   have HAC:=hid hac
   have HAD:=hid hadc
   have HON:=hid hone
   have HNN:=hid hnn
   have HM:=hid hM
   have HCL:=hid h.cell
   obtain ⟨vn,hvn⟩:∃x,n-(k+1)=x:=⟨_,rfl⟩
   obtain ⟨vc,hvc⟩:∃x,cap-(k+1)=x:=⟨_,rfl⟩
   simp only [hvn,hvc] at s2
   have l1:(xs.take (k*3)).length=k*3:=by rw [List.length_take,hxl];omega
   have l2:(xs.drop ((k+1)*3)).length=vn*3:=by rw [List.length_drop,hxl];omega
   have b1:0+k≤maxLen:=by unfold maxLen;omega
   have b2:(0+k)*48≤140737488355328:=by omega
   have b3:k+vn≤maxLen:=by unfold maxLen;omega
   have b4:(k+vn)*48≤140737488355328:=by omega
   have hlen:(ks.take k++ks.drop (k+1)).length=k+vn:=by rw [List.length_append,List.length_take,List.length_drop,hnn];omega
   have hlt3:∀b,w.heap.size≤b→b≠cb:=fun b hb=>by omega
   have HLEN:=hid hlen
   have HL3:=hid hlt3
   clear hlen hlt3
   have y6:IntKind.i64.wrap ((k:Int)+1)=(k:Int)+1:=by rw [IntKind.wrap_i64];omega
   have y7:wrap64 ((k:Int)+1)=(k:Int)+1:=by unfold wrap64;omega
   clear cn cf h hF hac hadc hone hnn hM htr hown hcell hgg had hxl hvc
   go_enter Tryz.func70,Tryz.ntmps70
   go_upto_region 8 with (first
    | (go_at_call 125;refine CF.out.mono ?_;rintro e w2 ⟨rfl,e2⟩;rw [e2];clear e2)
    | (go_at_call 124;refine CN.out.mono ?_;rintro e w1 ⟨rfl,e1⟩;rw [e1];clear e1))
   clear CF CN
   go_wp2_with (at_builtin;refine wpList_append_own _ rfl _ _ 171 rfl w.heap.size 251 i1 (.agg #[.int .i64 0, .string ⟨#[]⟩, .slice none 0 0]) 3 48 Tryz.underlying171 hj hy0 hy1 hy2 rfl (by decide) _ 0 [] rfl (World.ownsRow_nil _ _ _ _) ⟨g,0,none⟩ k cap (xs.take (k*3)) rfl l1 HAC.out (fun u hu=>HON.out u (List.mem_of_mem_take hu)) ?_ ?_ ?_ ?_)
   ·exact b1
   ·exact b2
   ·exact Nat.le_refl _
   ·intro v1 w1 hown1 hgrow1 _
    have HO1:=hid hown1
    have HB1:Hid (Below w.heap.size w w1):=(Below.refl _ w).grown hgrow1 (Nat.le_refl _) (fun k hk=>by cases hk)
    have e0:=cell_later HB1.out c0
    have hzz:=HB1.out.size
    clear hown1 hgrow1
    go_wp2_with (at_builtin;refine wpList_append_own _ rfl _ _ 171 rfl w.heap.size 251 i1 (.agg #[.int .i64 0, .string ⟨#[]⟩, .slice none 0 0]) 3 48 Tryz.underlying171 hj hy0 hy1 hy2 rfl (by decide) _ k (xs.take (k*3)) rfl HO1.out ad vn vc (xs.drop ((k+1)*3)) rfl l2 (fun j u hu=>cell_later HB1.out (HAD.out j u hu)) (fun u hu=>HON.out u (List.mem_of_mem_drop hu)) ?_ ?_ ?_ ?_)
    ·exact b3
    ·exact b4
    ·exact hzz
    ·intro v2 w2 hown2 hgrow2 _
     have HB2:Hid (Below w.heap.size w w2):=HB1.out.grown hgrow2 hzz (fun k hk=>(World.ownsRow.lt HO1.out k hk).1)
     have hcl2:=(HB2.out.block cb hcb).trans HCL.out
     have g0:=(cells_of_block hcl2 0).1
     have g1:=(cells_of_block hcl2 0).2
     simp at g0
     obtain ⟨va,vl,vcc,hv2⟩:∃a n c,v2 = .slice a n c:=by
      rcases hown2.2 with ⟨e,_⟩|⟨g,cap,cur,e,_⟩
      ·exact ⟨_,_,_,e⟩
      ·exact ⟨_,_,_,e⟩
     have hlt2:=fun b hb=>World.ownsRow.lt hown2 b hb
     have hnew:∀b,xx M v2 b→M b∨w.heap.size≤b:=fun b hb=>hb.elim .inl (fun e => .inr (hlt2 b e).1)
     have hT:zF (fun b=>b=cb) w (w2.setCell ⟨cb,0,none⟩ v2):=(zF.of (M:=fun b=>b=cb) HB2.out).trans (zF.set (M:=fun b=>b=cb) w2 rfl 0 v2)
     have hne:v2.ownBlock≠some cb:=fun e=>HL3.out cb (hlt2 cb e).1 rfl
     have hlen:=HLEN.out
     have hrow:=ownsRow_setCell_other hown2 (a:=⟨cb,0,none⟩) hne v2
     have htr2:=((HTR.out.take k).app (HTR.out.drop (k+1))).more hnew
     have hTM:zF (xx M v2) w (w2.setCell ⟨cb,0,none⟩ v2):=hT.wide (fun b _ e => .inl (by rw [e];exact HO.out.mine))
     have hcl3:=heap_setCell_same w2 cb 0 _ _ v2 hcl2
     have hfin:yM (xx M v2) (w2.setCell ⟨cb,0,none⟩ v2) cb v2 (ks.take k++ks.drop (k+1)):=
      ⟨.inl HO.out.mine,hcl3,⟨_,by rw [hlen];exact zl hrow (Nat.zero_le _),htr2.turn hTM⟩,fun b hb=>⟨.inr hb,fun e=>hne (by rw [← e];exact hb)⟩⟩
     have HFN:=hid hfin
     have HT:=hid hT
     have HNW:=hid hnew
     have HLT:=hid (fun b hb=>(hlt2 b hb).1)
     subst hv2
     clear hfin hT hnew hlt2 hne hlen hrow htr2 hTM hcl3 hcl2 hown2 hgrow2
     go_wp2_with fail
     go_ret
     exact ⟨0,_,_,rfl,HT.out,HNW.out,HFN.out, .inr HLT.out,(fun e=>absurd hpl e),(fun _ e=>by rw [HF.out] at e;cases e),fun _ k' hk'=>by
      rw [HF.out] at hk'
      injection hk' with hk'
      subst hk'
      exact ⟨rfl,rfl⟩⟩
 ·obtain ⟨E,hE⟩:∃x,ql l name=x:=⟨_,rfl⟩
  have HE:=hid hE
  rw [hE] at cn
  have hpl2:=hpl
  rw [hE] at hpl2
  have CN:=hid cn
  have d:(E==0)=false:=by simpa using hpl2
  have d2:(E != 0)=true:=by simpa using hpl2
  clear cn cf hE h hM
  go_enter Tryz.func70,Tryz.ntmps70
  go_wp2_with (go_at_call 124;refine CN.out.mono ?_;rintro e w1 ⟨rfl,e1⟩;rw [e1];clear e1)
  go_ret
  exact ⟨E,lv,ks,rfl,zF.refl _ _,HMM.out,HSM.out, .inl rfl,(fun _=>⟨HE.out.symm,rfl⟩),(fun e=>absurd e hpl),fun e=>absurd e hpl⟩
def KZ (ks:List zG) (l:Int) (name text:ByteArray) (M:Nat→Prop) (cb:Nat) (lv:Value) (w:World) (e:Ending) (w':World):Prop:=
 ∃(E:Int) (A:Nat) (v':Value) (ks':List zG),e = .returned (.tuple #[.int .i64 E, .int .i64 (A:Int)])∧zF (fun b=>b=cb∨lv.ownBlock=some b) w w'∧(∀b,xx M v' b→M b∨w.heap.size≤b)∧yM (xx M v') w' cb v' ks'∧(∀g,v'.ownBlock=some g→lv.ownBlock=some g∨w.heap.size≤g) ∧
  (ql l name≠0→E=ql l name∧A=0∧ks'=ks) ∧
  (ql l name=0→(Rd.qU text).1≠0→E=(Rd.qU text).1∧A=(Rd.qU text).2∧ks'=ks) ∧
  (ql l name=0→(Rd.qU text).1=0→∀k,ks.findIdx? (isR l name)=some k→E=0∧A=0∧ks'=ks.set k ⟨l,name,yV text⟩) ∧
  (ql l name=0→(Rd.qU text).1=0→ks.findIdx? (isR l name)=none→∃out,Yk ks l out∧((4≤out.length∧E=10∧A=0∧ks'=ks)∨(out.length<4∧E=0∧A=0∧ks'=ks++[⟨l,name,yV text⟩])))
theorem yP.set {M:Nat→Prop} {W:World} {xs:List Value} {ks:List zG} (h:yP M W xs ks) {k:Nat} (hk:k<ks.length) {d:zG} {da:Option Addr} {dn dc:Nat} (hd:jA M W (.slice da dn dc) d.rs):yP M W (((xs.set (k*3) (.int .i64 d.layer)).set (k*3+1) (.string d.name)).set (k*3+2) (.slice da dn dc)) (ks.set k d):=by
 have hl:=h.1
 refine ⟨by simp [hl],fun j x hx=>?_⟩
 rw [List.getElem?_set] at hx
 by_cases e:k=j
 ·subst e
  rw [if_pos rfl,if_pos hk] at hx
  injection hx with hx
  subst hx
  refine ⟨da,dn,dc,?_,?_,?_,hd⟩
  ·rw [List.getElem?_set,if_neg (by omega),List.getElem?_set,if_neg (by omega),List.getElem?_set,if_pos rfl,if_pos (by omega)]
  ·rw [List.getElem?_set,if_neg (by omega),List.getElem?_set,if_pos rfl,if_pos (by rw [List.length_set];omega)]
  ·rw [List.getElem?_set,if_pos rfl,if_pos (by rw [List.length_set,List.length_set];omega)]
 ·rw [if_neg e] at hx
  obtain ⟨ea,en,ec,g1,g2,g3,g4⟩:=h.2 j x hx
  refine ⟨ea,en,ec,?_,?_,?_,g4⟩
  ·rw [List.getElem?_set,if_neg (by omega),List.getElem?_set,if_neg (by omega),List.getElem?_set,if_neg (by omega)];exact g1
  ·rw [List.getElem?_set,if_neg (by omega),List.getElem?_set,if_neg (by omega),List.getElem?_set,if_neg (by omega)];exact g2
  ·rw [List.getElem?_set,if_neg (by omega),List.getElem?_set,if_neg (by omega),List.getElem?_set,if_neg (by omega)];exact g3
theorem zmr (cb:Nat) (lv:Value) (ks:List zG) (l:Int) (name text:ByteArray) (M:Nat→Prop) (w:World) (h:yM M w cb lv ks) (hn:ks.length≤1000000000) (hN:∀x ∈ ks,x.name.size≤maxLen) (hs:name.size≤maxLen) (ht:text.size≤maxLen) (hM:∀b,M b→b<w.heap.size) :
  Calls Tryz.prog 69 #[.pointer (some ⟨cb,0,none⟩), .int .i64 l, .string name, .string text] w (KZ ks l name text M cb lv w):=by
 obtain ⟨i1,hj,hy0,hy1,hy2⟩:=info_parts Qn
 have cn:=UX l name w hs
 have cd:=zbS text w ht
 have HSM:=hid h
 by_cases hpl:ql l name=0
 ·rw [hpl] at cn
  have CN:=hid cn
  by_cases hd:(Rd.qU text).1=0
  ·have hrs:=zct text hd
   rw [hrs] at cd
   obtain ⟨R,hR⟩:∃R,yV text=R:=⟨_,rfl⟩
   rw [hR] at cd
   obtain ⟨⟨c,q⟩,hcq⟩:∃x,Rd.qU text=x:=⟨_,rfl⟩
   rw [hcq] at cd
   have hc0:c=0:=by rw [hcq] at hd;exact hd
   subst hc0
   unfold zdC at cd
   simp only at cd
   have CD:=hid cd
   have HR:=hid hR
   have HDD:=hid hd
   have hcbl:cb<w.heap.size:=hM cb h.mine
   clear cn cd hrs hcq hR hd
   obtain ⟨F,hF⟩:∃F,ks.findIdx? (isR l name)=F:=⟨_,rfl⟩
   cases F with
   | some k=>
    have HF:=hid hF
    have HM:=hid hM
    have hkl:k<ks.length:=(List.findIdx?_eq_some_iff_getElem.1 hF).1
    have cf:∀W,Below w.heap.size w W→Calls Tryz.prog 125 #[.pointer (some ⟨cb,0,none⟩), .int .i64 l, .string name] W fun e w'=>e = .returned (.int .i64 (k:Int))∧w'=W:=fun W hb=>by
     have:=UV cb lv ks l name M W (h.below hb) (by unfold maxLen;omega)
     rw [Jm hF] at this
     exact this
    have CF:=hid cf
    clear cf hF h hM
    go_enter Tryz.func69,Tryz.ntmps69
    go_upto_region 5 with (first
     | (go_at_call 34;refine CD.out.mono ?_;rintro e w1 ⟨dv,rfl,b1,hst⟩;have HST:=hid (hst (by trivial));have HB1:=hid b1;clear b1 hst)
     | (go_at_call 124;refine CN.out.mono ?_;rintro e w1 ⟨rfl,e1⟩;rw [e1];clear e1))
    obtain ⟨da,dc,rfl⟩:=HST.out.slice
    obtain ⟨dn,hdn⟩:∃x,R.length=x:=⟨_,rfl⟩
    rw [hdn] at HST ⊢
    clear hdn CD CN
    obtain ⟨W2,hW2⟩:∃W,w1.alloc (.cells #[.int .i64 l, .string name, .slice da dn dc] 251)=W:=⟨_,rfl⟩
    have b12:Below w1.heap.size w1 W2:=by rw [← hW2];exact (Below.refl _ w1).alloc (Nat.le_refl _) _
    have HB2:=hid (HB1.out.trans (b12.mono HB1.out.size))
    have hk3:W2.heap[w1.heap.size]?=some (.cells #[.int .i64 l, .string name, .slice da dn dc] 251):=by rw [← hW2];exact heap_alloc_new w1 _
    have hdoc:jA M W2 (.slice da dn dc) R:=jA.of (HST.out.kept (fun b _ hl=>b12.block b hl)) (fun b hb=>Nat.lt_of_lt_of_le (HM.out b hb) (Nat.le_refl _))
    have HW2:=hid hW2
    have HCF:=hid (CF.out w1 HB1.out)
    clear CF b12 hW2 HST
    have href:=HSM.out.below HB2.out
    obtain ⟨xs,hrow,htrp⟩:=href.rows
    obtain ⟨g,cap,cur,e,_,hgg,_⟩:∃g cap cur,lv = .slice (some ⟨g,0,none⟩) ks.length cap∧0≤g∧W2.heap[g]?=some (.cells cur 251 (0,0))∧True:=by
     rcases hrow.2 with ⟨_,h0⟩|⟨g,cap,cur,e,h1,h2,_⟩
     ·omega
     ·exact ⟨g,cap,cur,e,h1,h2,trivial⟩
    subst e
    have c0:=(cells_of_block href.cell 0).1
    simp at c0
    have m0:=(cells_of_block hk3 0).1
    have m1:=(cells_of_block hk3 1).1
    have m2:=(cells_of_block hk3 2).1
    simp at m0 m1 m2
    obtain ⟨ea,en,ec,g0,g1,g2,_⟩:=htrp.2 k _ (List.getElem?_eq_getElem hkl)
    have hcell:∀i,i<ks.length*3→W2.cell? ⟨g,i,none⟩=xs[i]?:=fun i hi=>World.ownsRow.cellAt (g:=g) (cap:=cap) hrow i (by omega)
    have q0:=(hcell (k*3) (by omega)).trans g0
    have q1:=(hcell (k*3+1) (by omega)).trans g1
    have q2:=(hcell (k*3+2) (by omega)).trans g2
    have z0:=hrow.frozenAt (k*3)
    have z1:=hrow.frozenAt (k*3+1)
    have z2:=hrow.frozenAt (k*3+2)
    have hMg:=href.own g rfl
    have hgw:=HM.out g hMg.1
    have hne1:g≠w1.heap.size:=by have:=HB1.out.size;omega
    have hne2:=hMg.2
    have s1:=(hrow.stored (k*3) (.int .i64 l)).1
    have s2:=(s1.stored (k*3+1) (.string name)).1
    have s3:=(s2.stored (k*3+2) (.slice da dn dc)).1
    have tset:=((zF.set (M:=fun b=>b=cb∨(Value.slice (some ⟨g,0,none⟩) ks.length cap).ownBlock=some b) W2 (b:=g) (.inr rfl) (k*3) (.int .i64 l)).trans (zF.set _ (b:=g) (.inr rfl) (k*3+1) (.string name))).trans (zF.set _ (b:=g) (.inr rfl) (k*3+2) (.slice da dn dc))
    have htr2:=htrp.set hkl (d:=⟨l,name,R⟩) hdoc
    have tM:=tset.wide (M':=M) (fun b _ e=>by
     rcases e with e|e
     ·rw [e];exact href.mine
     ·exact (href.own b e).1)
    have hcl:(((W2.setCell ⟨g,k*3,none⟩ (.int .i64 l)).setCell ⟨g,k*3+1,none⟩ (.string name)).setCell ⟨g,k*3+2,none⟩ (.slice da dn dc)).heap[cb]?=some (.cells #[.slice (some ⟨g,0,none⟩) ks.length cap] 173):=
     (Below.heap_setCell _ _ _ _ (Ne.symm hne2)).trans ((Below.heap_setCell _ _ _ _ (Ne.symm hne2)).trans ((Below.heap_setCell _ _ _ _ (Ne.symm hne2)).trans href.cell))
    have hlen:(ks.set k ⟨l,name,R⟩).length=ks.length:=List.length_set
    have hfin:yM M (((W2.setCell ⟨g,k*3,none⟩ (.int .i64 l)).setCell ⟨g,k*3+1,none⟩ (.string name)).setCell ⟨g,k*3+2,none⟩ (.slice da dn dc)) cb (.slice (some ⟨g,0,none⟩) ks.length cap) (ks.set k ⟨l,name,R⟩):=
     ⟨href.mine,hcl,⟨_,by rw [hlen];exact s3,htr2.turn tM⟩,href.own⟩
    have HFN:=hid hfin
    have HTS:=hid ((zF.of (M:=fun b=>b=cb∨(Value.slice (some ⟨g,0,none⟩) ks.length cap).ownBlock=some b) HB2.out).trans tset)
    obtain ⟨n,hnn⟩:∃n,ks.length=n:=⟨_,rfl⟩
    rw [hnn] at c0 HFN HTS hkl hn
    have HNN:=hid hnn
    have k0:(0:Int)≤(k:Int):=Int.natCast_nonneg _
    have k1:(k:Int)<(n:Int):=by omega
    have nn1:=Ne.symm hne1
    have nn2:=Ne.symm hne2
    have kne:¬((k:Int)<0):=by omega
    have kge:decide ((0:Int)≤(k:Int))=true:=by simp
    clear hfin hcl hlen htr2 tM tset s1 s2 s3 hrow htrp href hcell g0 g1 g2 hgg hdoc hk3 hnn
    go_upto_region 9 with (go_at_call 125;refine HCF.out.mono ?_;rintro e w3 ⟨rfl,e3⟩;rw [e3];clear e3)
    rw [HW2.out]
    clear HCF HW2
    go_upto_region 10 with fail
    go_region_held3 (fun w'=>w'.cell? ⟨cb,0,none⟩=some (.slice (some ⟨g,0,none⟩) n cap)∧w'.cell? ⟨w1.heap.size,0,none⟩=some (.int .i64 l)∧w'.cell? ⟨w1.heap.size,1,none⟩=some (.string name)∧w'.cell? ⟨w1.heap.size,2,none⟩=some (.slice da dn dc)) (go_keep) (fail)
    have HDR:=hid (HFN.out.below ((Below.refl _ _).drew))
    have HTD:=hid (HTS.out.trans (zF.of ((Below.refl _ _).drew)))
    clear HFN HTS
    go_wp2_with fail
    go_ret2
    exact ⟨0,0,_,_,rfl,by rw [HNN.out];exact HTD.out,by rw [← HNN.out];exact HSM.out.sameM,HDR.out.same,(fun g hg => .inl (by rw [HNN.out];exact hg)),(fun e=>absurd hpl e),(fun _ e=>absurd HDD.out e),(fun _ _ k' hk'=>by
     rw [HF.out] at hk'
     injection hk' with hk'
     subst hk'
     exact ⟨rfl,rfl,by rw [HR.out]⟩),fun _ _ e=>by rw [HF.out] at e;cases e⟩
   | none=>
    have HF:=hid hF
    have HM:=hid hM
    have cf:∀W,Below w.heap.size w W→Calls Tryz.prog 125 #[.pointer (some ⟨cb,0,none⟩), .int .i64 l, .string name] W fun e w'=>e = .returned (.int .i64 (-1))∧w'=W:=fun W hb=>by
     have:=UV cb lv ks l name M W (h.below hb) (by unfold maxLen;omega)
     rw [J4 hF] at this
     exact this
    have ci:∀W,Below w.heap.size w W→_:=fun W hb=>zb6 cb lv ks l M W (h.below hb) hn hN (fun b hb'=>Nat.lt_of_lt_of_le (hM b hb') hb.size)
    have CF:=hid cf
    have CI:=hid ci
    clear cf ci hF h hM
    go_enter Tryz.func69,Tryz.ntmps69
    go_upto_region 5 with (first
     | (go_at_call 34;refine CD.out.mono ?_;rintro e w1 ⟨dv,rfl,b1,hst⟩;have HST:=hid (hst (by trivial));have HB1:=hid b1;clear b1 hst)
     | (go_at_call 124;refine CN.out.mono ?_;rintro e w1 ⟨rfl,e1⟩;rw [e1];clear e1))
    obtain ⟨da,dc,rfl⟩:=HST.out.slice
    obtain ⟨dn,hdn⟩:∃x,R.length=x:=⟨_,rfl⟩
    rw [hdn] at HST ⊢
    clear hdn CD CN
    obtain ⟨W2,hW2⟩:∃W,w1.alloc (.cells #[.int .i64 l, .string name, .slice da dn dc] 251)=W:=⟨_,rfl⟩
    have b12:Below w1.heap.size w1 W2:=by rw [← hW2];exact (Below.refl _ w1).alloc (Nat.le_refl _) _
    have HB2:=hid (HB1.out.trans (b12.mono HB1.out.size))
    have hk3:W2.heap[w1.heap.size]?=some (.cells #[.int .i64 l, .string name, .slice da dn dc] 251):=by rw [← hW2];exact heap_alloc_new w1 _
    have HKB:=hid hk3
    have HDC:=hid (jA.of (HST.out.kept (fun b _ hl=>b12.block b hl)) (fun b hb=>Nat.lt_of_lt_of_le (HM.out b hb) (Nat.le_refl _)):jA M W2 (.slice da dn dc) R)
    have HW2:=hid hW2
    have HCF:=hid (CF.out w1 HB1.out)
    clear CF b12 hk3 hW2 HST
    go_upto_region 9 with (go_at_call 125;refine HCF.out.mono ?_;rintro e w3 ⟨rfl,e3⟩;rw [e3];clear e3)
    rw [HW2.out]
    have HCI:=hid (CI.out W2 HB2.out)
    clear CI HCF HW2
    go_upto_if 52 with (go_at_call 126;refine HCI.out.mono ?_;rintro e w4 ⟨ov,ys,out,rfl,hin,hown,htr,b4⟩;have HIN:=hid hin;obtain ⟨oa,oc,hov,_⟩:=Vg hown htr;have HB4:=hid (HB2.out.trans (b4.mono HB2.out.size));have HB24:=hid b4;subst hov;clear hin hown htr b4)
    obtain ⟨ol,hol⟩:∃x,out.length=x:=⟨_,rfl⟩
    rw [hol]
    have HOL:=hid hol
    clear hol HCI
    by_cases h4:4≤ol
    ·have d4:decide ((4:Int)≤(ol:Int))=true:=by simp;omega
     rw [d4]
     go_wp2_with fail
     go_ret2
     exact ⟨10,0,lv,ks,rfl,zF.of HB4.out,HSM.out.sameM,(HSM.out.below HB4.out).same,(fun g hg => .inl hg),(fun e=>absurd hpl e),(fun _ e=>absurd HDD.out e),(fun _ _ k hk=>by rw [HF.out] at hk;cases hk),fun _ _ _=>⟨out,HIN.out, .inl ⟨by rw [HOL.out];exact h4,rfl,rfl,rfl⟩⟩⟩
    ·have d4:decide ((4:Int)≤(ol:Int))=false:=by simp;omega
     rw [d4]
     have href:=HSM.out.below HB4.out
     obtain ⟨xs,hrow,htrp⟩:=href.rows
     obtain ⟨la,lc,hlv⟩:∃a c,lv = .slice a ks.length c:=by
      rcases hrow.2 with ⟨e,h0⟩|⟨g,cap,cur,e,_⟩
      ·exact ⟨none,0,by rw [h0];exact e⟩
      ·exact ⟨_,_,e⟩
     have c0:=(cells_of_block href.cell 0).1
     have f0:=(cells_of_block href.cell 0).2
     have hkb:=(HB24.out.block w1.heap.size (lt_of_block HKB.out)).trans HKB.out
     have k0:=(cells_of_block hkb 0).1
     have k1:=(cells_of_block hkb 1).1
     have k2:=(cells_of_block hkb 2).1
     simp at c0 k0 k1 k2
     have hown:=href.own
     have hcb4:cb<w4.heap.size:=lt_of_block href.cell
     obtain ⟨n,hnn⟩:∃n,ks.length=n:=⟨_,rfl⟩
     rw [hnn] at hlv hrow hn
     subst hlv
     have nb:(Value.slice la n lc).ownBlock≠some cb:=fun e=>(hown cb e).2 rfl
     have c0':=fun O:Obj=>cell_later ((Below.refl _ w4).alloc (Nat.le_refl _) O) c0
     have f0':=fun O:Obj=>(((Below.refl _ w4).alloc (Nat.le_refl _) O).frozen (p:=⟨cb,0,none⟩) hcb4).trans f0
     have HRF:=hid href
     have HTP:=hid (htrp.app (yP.one (x:=⟨l,name,R⟩) (HDC.out.turn (zF.of HB24.out))))
     have HNN:=hid hnn
     have HOWN:=hid hown
     have h44:=HB4.out.size
     clear href htrp hown hnn hkb HKB HDC
     go_upto_region 14 with fail
     go_cut [] (fun wc=>∃gg cap,zF (fun b=>b=cb∨(Value.slice la n lc).ownBlock=some b) w wc∧(∀b,xx M (.slice (some ⟨gg,0,none⟩) (n+1) cap) b→M b∨w.heap.size≤b)∧yM (xx M (.slice (some ⟨gg,0,none⟩) (n+1) cap)) wc cb (.slice (some ⟨gg,0,none⟩) (n+1) cap) (ks++[⟨l,name,R⟩])∧((Value.slice la n lc).ownBlock=some gg∨w.heap.size≤gg))
     case first=>
      go_region_law ((refine step_append_lies _ (by rfl) _ _ _ (by rfl) 0 251 i1 _ 3 48 Tryz.underlying171 hj hy0 hy1 hy2 rfl (by omega) (.slice la n lc) n xs (by rfl) ((hrow.alloc _).drew) ⟨w4.heap.size,0,none⟩ 1 1 [.int .i64 l, .string name, .slice da dn dc] (by rfl) (by rfl) (World.news_of_block (cs:=#[.int .i64 l, .string name, .slice da dn dc]) (t:=251) (fr:=(0,0)) (heap_alloc_new w4 _)) (by simp [Value.oneCell']) (by omega) (by unfold maxLen;omega) (by omega) (by simp) (w4.heap.size+1) (by simp) ?_;intro gg cap w5 hown5 hgrow5 hat5 hlt5;have kk2:w5.cell? ⟨cb,0,none⟩=some (.slice la n lc):=(hgrow5.cell_far _ (by simp;omega) (Ne.symm nb)).trans (by simp [c0']);have ff2:w5.frozen? ⟨cb,0,none⟩=false:=(hgrow5.frozen_far _ (by simp;omega) (Ne.symm nb)).trans (by simp [f0'])))
      all_goals
       go_wp2_with fail
       go_meet
       case rel=>
        have hcl5:w5.heap[cb]?=some (.cells #[.slice la n lc] 173):=(hgrow5.block cb (by simp;omega) (Ne.symm nb)).trans ((((Below.refl _ w4).alloc (Nat.le_refl _) _).block cb hcb4).trans HRF.out.cell)
        have hgg:gg≠cb:=by
         rcases hat5 with e|e
         ·exact (HOWN.out gg e).2
         ·omega
        have hnew4:∀b,xx M (.slice (some ⟨gg,0,none⟩) (n+1) cap) b→M b∨w4.heap.size≤b:=fun b hb=>hb.elim .inl (fun e=>by
         have e2:gg=b:=by simpa [Value.ownBlock] using e
         subst e2
         rcases hat5 with e|e
         ·exact .inl (HOWN.out gg e).1
         ·exact .inr (by omega))
        have t45:zF (fun b=>b=cb∨(Value.slice la n lc).ownBlock=some b) w4 w5:=
         (zF.of (((Below.refl _ w4).alloc (Nat.le_refl _) _).drew)).trans ⟨hgrow5.os,hgrow5.tape,hgrow5.output,hgrow5.size,fun k hk hne=>hgrow5.block k hk (fun e=>hne (.inr e.symm))⟩
        have t4c:=t45.trans (zF.set (M:=fun b=>b=cb∨(Value.slice la n lc).ownBlock=some b) w5 (.inl rfl) 0 (.slice (some ⟨gg,0,none⟩) (n+1) cap))
        have tM:zF (xx M (.slice (some ⟨gg,0,none⟩) (n+1) cap)) w4 _:=t4c.wide (fun k _ e => .inl (by
         rcases e with e|e
         ·rw [e];exact HRF.out.mine
         ·exact (HOWN.out k e).1))
        have hlen:(ks++[(⟨l,name,R⟩:zG)]).length=n+1:=by rw [List.length_append,HNN.out];rfl
        refine ⟨gg,cap,(zF.of HB4.out).trans t4c,fun b hb=>(hnew4 b hb).imp id (fun e=>by omega),⟨.inl HRF.out.mine,heap_setCell_same w5 cb 0 _ _ _ hcl5,⟨_,by rw [hlen];exact ownsRow_setCell_other hown5 (a:=⟨cb,0,none⟩) (by simp only [Value.ownBlock];intro e;injection e with e;exact hgg e) _,(HTP.out.more hnew4).turn tM⟩,fun b hb=>?_⟩,hat5.imp id (fun e=>by omega)⟩
        have e2:gg=b:=by simpa [Value.ownBlock] using hb
        subst e2
        exact ⟨.inr hb,hgg⟩
     case rest=>
      obtain ⟨gg,cap,ht5,hn5,hr5,ho5⟩:=hcut
      have HO5:=hid ho5
      have HT5:=hid ht5
      have HN5:=hid hn5
      have HR5:=hid hr5
      clear ht5 hn5 hr5 ho5
      go_wp2_with fail
      go_ret2
      exact ⟨0,0,_,_,rfl,HT5.out,HN5.out,HR5.out,(fun g hg=>by
       have e2:gg=g:=by simpa [Value.ownBlock] using hg
       subst e2
       exact HO5.out),(fun e=>absurd hpl e),(fun _ e=>absurd HDD.out e),(fun _ _ k hk=>by rw [HF.out] at hk;cases hk),fun _ _ _=>⟨out,HIN.out, .inr ⟨by rw [HOL.out];omega,rfl,rfl,by rw [HR.out]⟩⟩⟩
  ·have hd2:=hd
   obtain ⟨⟨c,q⟩,hcq⟩:∃x,Rd.qU text=x:=⟨_,rfl⟩
   have HCQ:=hid hcq
   rw [hcq] at cd hd2
   unfold zdC at cd
   simp only at cd hd2
   have CD:=hid cd
   have d:(c==0)=false:=by simpa using hd2
   have d2:(c != 0)=true:=by simpa using hd2
   clear cn cd hcq h hM hN
   go_enter Tryz.func69,Tryz.ntmps69
   go_wp2_with (first
    | (go_at_call 34;refine CD.out.mono ?_;rintro e w1 ⟨dv,rfl,b1,_⟩;have HB1:=hid b1;clear b1)
    | (go_at_call 124;refine CN.out.mono ?_;rintro e w1 ⟨rfl,e1⟩;rw [e1];clear e1))
   go_ret2
   exact ⟨c,q,lv,ks,rfl,zF.of HB1.out,HSM.out.sameM,(HSM.out.below HB1.out).same,(fun g hg => .inl hg),(fun e=>absurd hpl e),(fun _ _=>by rw [HCQ.out];exact ⟨rfl,rfl,rfl⟩),(fun _ e=>absurd e hd),fun _ e=>absurd e hd⟩
 ·obtain ⟨E,hE⟩:∃x,ql l name=x:=⟨_,rfl⟩
  have HE:=hid hE
  rw [hE] at cn
  have hpl2:=hpl
  rw [hE] at hpl2
  have CN:=hid cn
  have d:(E==0)=false:=by simpa using hpl2
  have d2:(E != 0)=true:=by simpa using hpl2
  clear cn cd hE h hM hN
  go_enter Tryz.func69,Tryz.ntmps69
  go_wp2_with (go_at_call 124;refine CN.out.mono ?_;rintro e w1 ⟨rfl,e1⟩;rw [e1];clear e1)
  go_ret2
  exact ⟨E,0,lv,ks,rfl,zF.refl _ _,HSM.out.sameM,HSM.out.same,(fun g hg => .inl hg),(fun _=>⟨HE.out.symm,rfl,rfl⟩),(fun e=>absurd e hpl),(fun e=>absurd e hpl),fun e=>absurd e hpl⟩
theorem ne_of_lt {a b:ByteArray} (h:uA a b<0):a≠b:=fun e=>by rw [e,jS] at h;omega
theorem zk0 {L:List zU} (h:xI L) {k:Nat} {y:zU} (hy:L[k]?=some y):uP L y.1=k:=by
 have hk:k<L.length:=(List.getElem?_eq_some_iff.1 hy).1
 refine ZO (ltN y.1) L k (Nat.le_of_lt hk) (fun j x hj hx=>?_) (fun j x hj hx=>?_)
 ·unfold ltN
  rw [decide_eq_true_eq]
  exact h.at hj hx hy
 ·unfold ltN
  rw [decide_eq_false_iff_not]
  by_cases e:j=k
  ·subst e
   rw [hy] at hx
   injection hx with hx
   rw [← hx,jS]
   omega
  ·have:=h.at (show k<j by omega) hy hx
   rw [Vh] at this
   omega
theorem QP {L:List zU} (h:xI L) {y:zU} (hy:y ∈ L):zX L y.1=true∧L[uP L y.1]?=some y:=by
 obtain ⟨k,hk⟩:=List.getElem?_of_mem hy
 have hp:=zk0 h hk
 unfold zX
 rw [hp,hk]
 exact ⟨by simp [jS],rfl⟩
theorem Jw {L:List zU} {name:ByteArray} (h:zX L name=true):∃ss,(name,ss) ∈ L∧L[uP L name]?=some (name,ss):=by
 unfold zX at h
 split at h
 ·rename_i x hx
  have hz:x.1=name:=JU (by simpa using h)
  obtain ⟨a,b⟩:=x
  simp only at hz
  subst hz
  exact ⟨b,List.mem_of_getElem? hx,hx⟩
 ·cases h
theorem zjG {L:List zU} {p:Nat} {x:zU} (h:L[p]?=some x):L=L.take p++x::L.drop (p+1):=by
 obtain ⟨hp,rfl⟩:=List.getElem?_eq_some_iff.1 h
 rw [← List.drop_eq_getElem_cons hp,List.take_append_drop]
theorem zef {L:List zU} (h:xI L) {name:ByteArray} {y:zU}:(y ∈ L.take (uP L name)++L.drop (if zX L name then uP L name+1 else uP L name))↔y ∈ L∧y.1≠name:=by
 cases hh:zX L name with
 | true=>
  obtain ⟨ss,hm,hat⟩:=Jw hh
  have hs:=zjG hat
  rw [if_pos rfl]
  constructor
  ·intro hy
   rcases List.mem_append.1 hy with hy|hy
   ·exact ⟨List.mem_of_mem_take hy,ne_of_lt (UZ hy)⟩
   ·exact ⟨List.mem_of_mem_drop hy,Ne.symm (ne_of_lt (JY h (by rw [hh,if_pos rfl];exact hy)))⟩
  ·rintro ⟨hy,hne⟩
   rw [hs] at hy
   rcases List.mem_append.1 hy with hy|hy
   ·exact List.mem_append_left _ hy
   ·rcases List.mem_cons.1 hy with rfl|hy
    ·exact absurd rfl hne
    ·exact List.mem_append_right _ hy
 | false=>
  simp only [Bool.false_eq_true,if_false]
  rw [List.take_append_drop]
  refine ⟨fun hy=>⟨hy,fun e=>?_⟩,fun hy=>hy.1⟩
  have:=(QP h hy).1
  rw [e,hh] at this
  cases this
theorem zeH {L:List zU} (h:xI L) {name:ByteArray} {ss:List xH} {y:zU}:y ∈ Qy L name ss↔y=(name,ss)∨(y ∈ L∧y.1≠name):=by
 rw [← zef h]
 unfold Qy
 simp only [List.mem_append,List.mem_singleton]
 constructor
 ·rintro ((hy|hy)|hy)
  ·exact .inr (.inl hy)
  ·exact .inl hy
  ·exact .inr (.inr hy)
 ·rintro (hy|hy|hy)
  ·exact .inl (.inr hy)
  ·exact .inl (.inl hy)
  ·exact .inr hy
theorem zkw {L:List zU} (h:xI L) {name:ByteArray} (hh:zX L name=true) {y:zU}:y ∈ Yu L (uP L name)↔y ∈ L∧y.1≠name:=by
 rw [← zef h,hh,if_pos rfl]
 rfl
theorem XR:∀(A B:List zU),xI A→xI B→(∀y,y ∈ A↔y ∈ B)→A=B
 | [],[],_,_,_=>rfl
 | [],b::B,_,_,h=>by have:=(h b).2 (by simp);simp at this
 | a::A,[],_,_,h=>by have:=(h a).1 (by simp);simp at this
 | a::A,b::B,hA,hB,h=>by
  have hA2:=List.pairwise_cons.1 hA
  have hB2:=List.pairwise_cons.1 hB
  have e:a=b:=by
   have h1:=(h a).1 (by simp)
   have h2:=(h b).2 (by simp)
   rcases List.mem_cons.1 h1 with e|h1
   ·exact e
   ·rcases List.mem_cons.1 h2 with e|h2
    ·exact e.symm
    ·have p:=hA2.1 b h2
     have q:=hB2.1 a h1
     have:=kL p q
     rw [jS] at this
     omega
  subst e
  have ih:=XR A B hA2.2 hB2.2 (fun y=>by
   have hy:=h y
   constructor
   ·intro hm
    rcases List.mem_cons.1 (hy.1 (by simp [hm])) with e|e
    ·subst e
     have:=hA2.1 _ hm
     rw [jS] at this
     omega
    ·exact e
   ·intro hm
    rcases List.mem_cons.1 (hy.2 (by simp [hm])) with e|e
    ·subst e
     have:=hB2.1 _ hm
     rw [jS] at this
     omega
    ·exact e)
  rw [ih]
def VQ (x:zG):zU:=(x.name,x.rs.map zaq)
structure Agree (st:StO) (ks:List zG):Prop where
 sorted:∀i,i<4→xI (st i)
 mem:∀i,i<4→∀y,y ∈ st i↔∃x ∈ ks,x.layer=(i:Int)∧y=VQ x
 keys:ks.Pairwise fun x y=>¬(x.layer=y.layer∧x.name=y.name)
 lay:∀x ∈ ks,∃i:Nat,i<4∧x.layer=(i:Int)
 ok:∀x ∈ ks,Ref.zY x.name=true∧x.rs.length≤10∧(∀r ∈ x.rs,Ref.uS r)∧zjY (x.rs.map zaq)=Ref.XG x.rs
theorem Agree.start:Agree zir []:=
 ⟨fun _ _=>List.Pairwise.nil,fun i _ y=>by simp [zir],List.Pairwise.nil,fun x hx=>by simp at hx,fun x hx=>by simp at hx⟩
theorem zgC {l:Int} {name:ByteArray} {x:zG}:isR l name x=true↔x.layer=l∧x.name=name:=by
 unfold isR
 rw [Bool.and_eq_true,beq_iff_eq,beq_iff_eq]
 constructor
 ·rintro ⟨h1,h2⟩
  refine ⟨h1,?_⟩
  rw [ByteArray.toList_eq,ByteArray.toList_eq] at h2
  exact ByteArray.ext (Array.toList_inj.1 h2)
 ·rintro ⟨h1,h2⟩
  exact ⟨h1,by rw [h2]⟩
theorem kU {ks:List zG} {l:Int} {name:ByteArray} {k:Nat} (h:ks.findIdx? (isR l name)=some k):∃x,ks[k]?=some x∧x.layer=l∧x.name=name:=by
 obtain ⟨hk,hp,_⟩:=List.findIdx?_eq_some_iff_getElem.1 h
 exact ⟨_,List.getElem?_eq_getElem hk,zgC.1 hp⟩
theorem UD {ks:List zG} {l:Int} {name:ByteArray} (h:ks.findIdx? (isR l name)=none):∀x ∈ ks,¬(x.layer=l∧x.name=name):=by
 intro x hx e
 have:=List.findIdx?_eq_none_iff.1 h x hx
 rw [zgC.2 e] at this
 cases this
theorem Agree.has {st:StO} {ks:List zG} (h:Agree st ks) {i:Nat} (hi:i<4) {name:ByteArray}:zX (st i) name=true↔∃k,ks.findIdx? (isR (i:Int) name)=some k:=by
 constructor
 ·intro hh
  obtain ⟨ss,hm,_⟩:=Jw hh
  obtain ⟨x,hx,hl,he⟩:=(h.mem i hi _).1 hm
  cases hf:ks.findIdx? (isR (i:Int) name) with
  | some k=>exact ⟨k,rfl⟩
  | none=>
   have hn:x.name=name:=by
    have:=congrArg Prod.fst he
    exact this.symm
   exact absurd ⟨hl,hn⟩ (UD hf x hx)
 ·rintro ⟨k,hk⟩
  obtain ⟨x,hx,hl,hn⟩:=kU hk
  have hm:VQ x ∈ st i:=(h.mem i hi _).2 ⟨x,List.mem_of_getElem? hx,hl,rfl⟩
  have:=(QP (h.sorted i hi) hm).1
  rw [show (VQ x).1=x.name from rfl,hn] at this
  exact this
theorem Agree.shown {st:StO} {ks:List zG} (h:Agree st ks) {i:Nat} (hi:i<4) {name:ByteArray} {k:Nat} {x:zG} (hk:ks.findIdx? (isR (i:Int) name)=some k) (hx:ks[k]?=some x):zjY (zdD st (i:Int) name)=Ref.XG x.rs:=by
 obtain ⟨x',hx',hl,hn⟩:=kU hk
 rw [hx] at hx'
 injection hx' with hx'
 subst hx'
 have hm:VQ x ∈ st i:=(h.mem i hi _).2 ⟨x,List.mem_of_getElem? hx,hl,rfl⟩
 have hat:=(QP (h.sorted i hi) hm).2
 rw [show (VQ x).1=x.name from rfl,hn] at hat
 have:zdD st (i:Int) name=x.rs.map zaq:=by
  unfold zdD
  simp only [Int.toNat_natCast]
  rw [hat]
  rfl
 rw [this]
 exact (h.ok x (List.mem_of_getElem? hx)).2.2.2
theorem XP {ks:List zG} (h:ks.Pairwise fun x y=>¬(x.layer=y.layer∧x.name=y.name)) {a b:Nat} {x y:zG} (hx:ks[a]?=some x) (hy:ks[b]?=some y) (hl:x.layer=y.layer) (hn:x.name=y.name):a=b:=by
 obtain ⟨ha,rfl⟩:=List.getElem?_eq_some_iff.1 hx
 obtain ⟨hb,rfl⟩:=List.getElem?_eq_some_iff.1 hy
 rcases Nat.lt_trichotomy a b with e|e|e
 ·exact absurd ⟨hl,hn⟩ (List.pairwise_iff_getElem.1 h a b ha hb e)
 ·exact e
 ·exact absurd ⟨hl.symm,hn.symm⟩ (List.pairwise_iff_getElem.1 h b a hb ha e)
theorem Agree.layer {st:StO} {ks:List zG} (h:Agree st ks) {i:Nat} (hi:i<4) {out:List zG} (ho:Yk ks (i:Int) out):st i=out.map VQ:=by
 obtain ⟨ps,h1,h2,h3,rfl⟩:=ho
 have hget:∀p ∈ ps,∃x,ks[p]?=some x∧x.layer=(i:Int):=by
  intro p hp
  obtain ⟨hl,hy⟩:=(h2 p).1 hp
  refine ⟨_,List.getElem?_eq_getElem hl,?_⟩
  rw [Yt (List.getElem?_eq_getElem hl)] at hy
  simpa using hy
 refine XR _ _ (h.sorted i hi) ?_ (fun y=>?_)
 ·show List.Pairwise _ _
  unfold outOf
  rw [List.pairwise_map,List.pairwise_filterMap]
  refine List.Pairwise.imp_of_mem (fun {a b} ha hb hab=>?_) (h1.and h3)
  intro x hx y hy
  obtain ⟨hne,hle⟩:=hab
  rw [Xm hx,Xm hy] at hle
  have hr:=VY y.name x.name
  show uA x.name y.name<0
  rw [Vh]
  have hz:uA y.name x.name≠0:=fun e=>by
   obtain ⟨x',hx',lx⟩:=hget a ha
   obtain ⟨y',hy',ly⟩:=hget b hb
   rw [hx] at hx';injection hx' with hx';subst hx'
   rw [hy] at hy';injection hy' with hy';subst hy'
   exact hne (XP h.keys hx hy (lx.trans ly.symm) (JU e).symm)
  omega
 ·rw [h.mem i hi]
  unfold outOf
  simp only [List.mem_map,List.mem_filterMap]
  constructor
  ·rintro ⟨x,hx,hl,rfl⟩
   obtain ⟨p,hp⟩:=List.getElem?_of_mem hx
   refine ⟨x,⟨p,(h2 p).2 ⟨(List.getElem?_eq_some_iff.1 hp).1,by rw [Yt hp];simpa using hl⟩,hp⟩,rfl⟩
  ·rintro ⟨x,⟨p,hp,hx⟩,rfl⟩
   obtain ⟨x',hx',hl⟩:=hget p hp
   rw [hx] at hx';injection hx' with hx';subst hx'
   exact ⟨x,List.mem_of_getElem? hx,hl,rfl⟩
theorem yR {ks:List zG} {k:Nat} (hk:k<ks.length) {d x:zG}:x ∈ ks.set k d↔x=d∨∃j,j≠k∧ks[j]?=some x:=by
 constructor
 ·intro hx
  obtain ⟨j,hj⟩:=List.getElem?_of_mem hx
  rw [List.getElem?_set] at hj
  by_cases e:k=j
  ·rw [if_pos e,if_pos hk] at hj
   injection hj with hj
   exact .inl hj.symm
  ·rw [if_neg e] at hj
   exact .inr ⟨j,fun x=>e x.symm,hj⟩
 ·rintro (rfl|⟨j,hne,hj⟩)
  ·exact List.mem_of_getElem? (i:=k) (by rw [List.getElem?_set,if_pos rfl,if_pos hk])
  ·exact List.mem_of_getElem? (i:=j) (by rw [List.getElem?_set,if_neg (fun e=>hne e.symm)];exact hj)
theorem mem_erase_iff {ks:List zG} {k:Nat} {x:zG}:x ∈ ks.take k++ks.drop (k+1)↔∃j,j≠k∧ks[j]?=some x:=by
 rw [← List.eraseIdx_eq_take_drop_succ]
 rw [List.mem_eraseIdx_iff_getElem?]
theorem zkJ (text:ByteArray) (h0:(Rd.qU text).1=0):(yV text).length≤10∧(∀r ∈ yV text,Ref.uS r)∧zjY ((yV text).map zaq)=Ref.XG (yV text)∧zcW text=(yV text).map zaq:=by
 obtain ⟨h1,h2,h3⟩:=Uu text h0
 exact ⟨h2,fun r hr=>(h1 r hr).2,(zfa _ (fun r hr=>(h1 r hr).1)).symm,h3⟩
theorem Agree.set {st:StO} {ks:List zG} (h:Agree st ks) {i:Nat} (hi:i<4) {name text:ByteArray} (hn:Ref.zY name=true) (h0:(Rd.qU text).1=0) {k:Nat} (hk:ks.findIdx? (isR (i:Int) name)=some k):Agree (upd st i (Qy (st i) name (zcW text))) (ks.set k ⟨i,name,yV text⟩):=by
 obtain ⟨n1,n2,n3,n4⟩:=zkJ text h0
 obtain ⟨x0,hx0,hl0,hn0⟩:=kU hk
 have hkl:k<ks.length:=(List.getElem?_eq_some_iff.1 hx0).1
 refine ⟨fun j hj=>?_,fun j hj y=>?_,?_,fun x hx=>?_,fun x hx=>?_⟩
 ·unfold upd
  split
  ·exact (h.sorted i hi).with name _
  ·exact h.sorted j hj
 ·unfold upd
  by_cases e:j=i
  ·subst e
   rw [if_pos rfl,zeH (h.sorted j hj)]
   constructor
   ·rintro (rfl|⟨hy,hne⟩)
    ·exact ⟨_,(yR hkl).2 (.inl rfl),rfl,by unfold VQ;rw [n4]⟩
    ·obtain ⟨x,hx,hl,rfl⟩:=(h.mem j hj _).1 hy
     obtain ⟨p,hp⟩:=List.getElem?_of_mem hx
     refine ⟨x,(yR hkl).2 (.inr ⟨p,fun e=>?_,hp⟩),hl,rfl⟩
     subst e
     rw [hx0] at hp
     injection hp with hp
     subst hp
     exact hne hn0
   ·rintro ⟨x,hx,hl,rfl⟩
    rcases (yR hkl).1 hx with rfl|⟨p,hp,hpx⟩
    ·exact .inl (by unfold VQ;rw [n4])
    ·refine .inr ⟨(h.mem j hj _).2 ⟨x,List.mem_of_getElem? hpx,hl,rfl⟩,fun e=>hp ?_⟩
     exact XP h.keys hpx hx0 (hl.trans hl0.symm) (e.trans hn0.symm)
  ·rw [if_neg e,h.mem j hj]
   constructor
   ·rintro ⟨x,hx,hl,rfl⟩
    obtain ⟨p,hp⟩:=List.getElem?_of_mem hx
    refine ⟨x,(yR hkl).2 (.inr ⟨p,fun e2=>?_,hp⟩),hl,rfl⟩
    subst e2
    rw [hx0] at hp
    injection hp with hp
    subst hp
    rw [hl0] at hl
    omega
   ·rintro ⟨x,hx,hl,rfl⟩
    rcases (yR hkl).1 hx with rfl|⟨p,hp,hpx⟩
    ·simp only at hl
     omega
    ·exact ⟨x,List.mem_of_getElem? hpx,hl,rfl⟩
 ·rw [List.pairwise_iff_getElem]
  intro a b ha hb hab
  rw [List.length_set] at ha hb
  rw [List.getElem_set,List.getElem_set]
  by_cases ea:k=a
  ·subst ea
   rw [if_pos rfl,if_neg (by omega)]
   rintro ⟨e1,e2⟩
   have:=XP h.keys hx0 (List.getElem?_eq_getElem hb) (hl0.trans e1) (hn0.trans e2)
   omega
  ·rw [if_neg ea]
   by_cases eb:k=b
   ·subst eb
    rw [if_pos rfl]
    rintro ⟨e1,e2⟩
    have:=XP h.keys (List.getElem?_eq_getElem ha) hx0 (e1.trans hl0.symm) (e2.trans hn0.symm)
    omega
   ·rw [if_neg eb]
    exact List.pairwise_iff_getElem.1 h.keys a b ha hb hab
 ·rcases (yR hkl).1 hx with rfl|⟨p,_,hpx⟩
  ·exact ⟨i,hi,rfl⟩
  ·exact h.lay x (List.mem_of_getElem? hpx)
 ·rcases (yR hkl).1 hx with rfl|⟨p,_,hpx⟩
  ·exact ⟨hn,n1,n2,n3⟩
  ·exact h.ok x (List.mem_of_getElem? hpx)
theorem Agree.add {st:StO} {ks:List zG} (h:Agree st ks) {i:Nat} (hi:i<4) {name text:ByteArray} (hn:Ref.zY name=true) (h0:(Rd.qU text).1=0) (hk:ks.findIdx? (isR (i:Int) name)=none):Agree (upd st i (Qy (st i) name (zcW text))) (ks++[⟨i,name,yV text⟩]):=by
 obtain ⟨n1,n2,n3,n4⟩:=zkJ text h0
 have hno:=UD hk
 refine ⟨fun j hj=>?_,fun j hj y=>?_,?_,fun x hx=>?_,fun x hx=>?_⟩
 ·unfold upd
  split
  ·exact (h.sorted i hi).with name _
  ·exact h.sorted j hj
 ·unfold upd
  by_cases e:j=i
  ·subst e
   rw [if_pos rfl,zeH (h.sorted j hj)]
   constructor
   ·rintro (rfl|⟨hy,hne⟩)
    ·exact ⟨⟨(j:Int),name,yV text⟩,List.mem_append_right _ (by simp),rfl,by unfold VQ;rw [n4]⟩
    ·obtain ⟨x,hx,hl,rfl⟩:=(h.mem j hj _).1 hy
     exact ⟨x,List.mem_append_left _ hx,hl,rfl⟩
   ·rintro ⟨x,hx,hl,rfl⟩
    rcases List.mem_append.1 hx with hx|hx
    ·exact .inr ⟨(h.mem j hj _).2 ⟨x,hx,hl,rfl⟩,fun e=>hno x hx ⟨hl,e⟩⟩
    ·rw [List.mem_singleton] at hx
     subst hx
     exact .inl (by unfold VQ;rw [n4])
  ·rw [if_neg e,h.mem j hj]
   constructor
   ·rintro ⟨x,hx,hl,rfl⟩
    exact ⟨x,List.mem_append_left _ hx,hl,rfl⟩
   ·rintro ⟨x,hx,hl,rfl⟩
    rcases List.mem_append.1 hx with hx|hx
    ·exact ⟨x,hx,hl,rfl⟩
    ·rw [List.mem_singleton] at hx
     subst hx
     simp only at hl
     omega
 ·rw [List.pairwise_append]
  refine ⟨h.keys,by simp,fun x hx y hy=>?_⟩
  rw [List.mem_singleton] at hy
  subst hy
  exact hno x hx
 ·rcases List.mem_append.1 hx with hx|hx
  ·exact h.lay x hx
  ·rw [List.mem_singleton] at hx
   subst hx
   exact ⟨i,hi,rfl⟩
 ·rcases List.mem_append.1 hx with hx|hx
  ·exact h.ok x hx
  ·rw [List.mem_singleton] at hx
   subst hx
   exact ⟨hn,n1,n2,n3⟩
theorem Agree.less {st:StO} {ks:List zG} (h:Agree st ks) {i:Nat} (hi:i<4) {name:ByteArray} {k:Nat} (hk:ks.findIdx? (isR (i:Int) name)=some k):Agree (upd st i (Yu (st i) (uP (st i) name))) (ks.take k++ks.drop (k+1)):=by
 obtain ⟨x0,hx0,hl0,hn0⟩:=kU hk
 have hh:zX (st i) name=true:=(h.has hi).2 ⟨k,hk⟩
 refine ⟨fun j hj=>?_,fun j hj y=>?_,?_,fun x hx=>?_,fun x hx=>?_⟩
 ·unfold upd
  split
  ·exact (h.sorted i hi).less _
  ·exact h.sorted j hj
 ·unfold upd
  by_cases e:j=i
  ·subst e
   rw [if_pos rfl,zkw (h.sorted j hj) hh]
   constructor
   ·rintro ⟨hy,hne⟩
    obtain ⟨x,hx,hl,rfl⟩:=(h.mem j hj _).1 hy
    obtain ⟨p,hp⟩:=List.getElem?_of_mem hx
    refine ⟨x,mem_erase_iff.2 ⟨p,fun e=>?_,hp⟩,hl,rfl⟩
    subst e
    rw [hx0] at hp
    injection hp with hp
    subst hp
    exact hne hn0
   ·rintro ⟨x,hx,hl,rfl⟩
    obtain ⟨p,hp,hpx⟩:=mem_erase_iff.1 hx
    exact ⟨(h.mem j hj _).2 ⟨x,List.mem_of_getElem? hpx,hl,rfl⟩,fun e=>hp (XP h.keys hpx hx0 (hl.trans hl0.symm) (e.trans hn0.symm))⟩
  ·rw [if_neg e,h.mem j hj]
   constructor
   ·rintro ⟨x,hx,hl,rfl⟩
    obtain ⟨p,hp⟩:=List.getElem?_of_mem hx
    refine ⟨x,mem_erase_iff.2 ⟨p,fun e2=>?_,hp⟩,hl,rfl⟩
    subst e2
    rw [hx0] at hp
    injection hp with hp
    subst hp
    rw [hl0] at hl
    omega
   ·rintro ⟨x,hx,hl,rfl⟩
    obtain ⟨p,hp,hpx⟩:=mem_erase_iff.1 hx
    exact ⟨x,List.mem_of_getElem? hpx,hl,rfl⟩
 ·rw [← List.eraseIdx_eq_take_drop_succ]
  exact h.keys.sublist (List.eraseIdx_sublist _ _)
 ·obtain ⟨p,_,hpx⟩:=mem_erase_iff.1 hx
  exact h.lay x (List.mem_of_getElem? hpx)
 ·obtain ⟨p,_,hpx⟩:=mem_erase_iff.1 hx
  exact h.ok x (List.mem_of_getElem? hpx)
theorem Agree.few {st:StO} {ks:List zG} (h:Agree st ks) (h4:∀i,i<4→(st i).length≤4):ks.length≤16:=by
 have hnd:(ks.map fun x=>(x.layer,x.name)).Nodup:=by
  rw [List.nodup_iff_pairwise_ne,List.pairwise_map]
  refine h.keys.imp (fun hxy e=>hxy ?_)
  injection e with e1 e2
  exact ⟨e1,e2⟩
 have hsub:(ks.map fun x=>(x.layer,x.name)) ⊆ ((st 0).map fun y=>((0:Int),y.1))++((st 1).map fun y=>((1:Int),y.1))++((st 2).map fun y=>((2:Int),y.1))++((st 3).map fun y=>((3:Int),y.1)):=by
  intro z hz
  obtain ⟨x,hx,rfl⟩:=List.mem_map.1 hz
  obtain ⟨i,hi,hl⟩:=h.lay x hx
  have hm:=(h.mem i hi _).2 ⟨x,hx,hl,rfl⟩
  have hm2:(x.layer,x.name) ∈ (st i).map fun y=>((i:Int),y.1):=List.mem_map.2 ⟨_,hm,by rw [hl];rfl⟩
  simp only [List.mem_append]
  rcases lt4 hi with rfl|rfl|rfl|rfl
  ·exact .inl (.inl (.inl hm2))
  ·exact .inl (.inl (.inr hm2))
  ·exact .inl (.inr hm2)
  ·exact .inr hm2
 have:=hnd.length_le_of_subset hsub
 simp only [List.length_map,List.length_append] at this
 have a0:=h4 0 (by omega)
 have a1:=h4 1 (by omega)
 have a2:=h4 2 (by omega)
 have a3:=h4 3 (by omega)
 omega
end Go.Proofs.YtdakgnaojakldaaGreatDoor
