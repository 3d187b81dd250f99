/- P -/
import Derived.Test.YtdakgnaojakldaaGreatDoorP03
import Derived.Test.YtdakgnaojakldaaGreatDoorP06
set_option maxRecDepth 100000
set_option maxHeartbeats 1000000
namespace Go.Proofs.YtdakgnaojakldaaGreatDoor
open Go.RowKit
def FV (c:Nat) (u:Value):Prop:=(c=0∧u = .nilIface)∨(c=1∧∃p,u = .iface 125 (.agg #[.string p]))∨(c=2∧∃k,u = .iface 228 (.agg #[.int .i64 k]))
theorem FV.le {c:Nat} {u:Value} (h:FV c u):c≤2:=by rcases h with ⟨h,_⟩|⟨h,_⟩|⟨h,_⟩<;>omega
theorem FV.form {c:Nat} {u:Value} (h:FV c u):u = .nilIface∨∃T x,u = .iface T x:=by
 rcases h with ⟨_,h⟩|⟨_,p,h⟩|⟨_,k,h⟩
 ·exact .inl h
 ·exact .inr ⟨_,_,h⟩
 ·exact .inr ⟨_,_,h⟩
theorem zbL (c:Nat) (u:Value) (w:World) (h:FV c u):Calls Tryz.prog 55 #[u] w fun e w'=>e = .returned (.bool (c != 0))∧Below w.heap.size w w':=by
 rcases h with ⟨rfl,rfl⟩|⟨rfl,p,rfl⟩|⟨rfl,k,rfl⟩
 ·go_enter Tryz.func55,Tryz.ntmps55
  go_wp2
  go_ret
  exact ⟨rfl,Below.refl _ _⟩
 ·go_enter Tryz.func55,Tryz.ntmps55
  go_wp2
  go_ret
  exact ⟨rfl,Below.refl _ _⟩
 ·go_enter Tryz.func55,Tryz.ntmps55
  go_wp2
  go_ret
  exact ⟨rfl,Below.refl _ _⟩
theorem as_nil (tgt:Value) (w:World):Calls Tryz.prog 57 #[.nilIface,tgt] w fun e w'=>e = .returned (.bool false)∧w'=w:=by
 go_enter Tryz.func57,Tryz.ntmps57
 go_wp2
 go_ret
 exact ⟨rfl,rfl⟩
theorem YC (w:World) (v:Value) (t:TypeId):(w.alloc (.cells #[v] t)).cell? ⟨w.heap.size,0,none⟩=some v:=by simp
theorem zk8 (w:World) (v:Value) (t:TypeId):(w.alloc (.cells #[v] t)).frozen? ⟨w.heap.size,0,none⟩=false:=by simp
theorem zhu (c:Nat) (u:Value) (w:World) (hg:jq w) (h:FV c u):Calls Tryz.prog 155 #[u] w fun e w'=>e = .returned (.bool (c==1))∧Below w.heap.size w w':=by
 have hb0:=(Below.refl _ w).alloc (Nat.le_refl _) (.cells #[.string ⟨#[]⟩] 125)
 rcases h with ⟨rfl,rfl⟩|⟨rfl,p,rfl⟩|⟨rfl,k,rfl⟩
 ·have c1:=as_nil
  go_enter Tryz.func155,Tryz.ntmps155
  go_wp2_with (go_at_call 57;refine (c1 _ _).mono ?_;rintro e w1 ⟨rfl,rfl⟩)
  go_ret
  exact ⟨rfl,hb0⟩
 ·have c1:=zbZ 125 347 125 (.agg #[.string p]) ⟨w.heap.size,0,none⟩ (w.alloc (.cells #[.string ⟨#[]⟩] 125)) (hg.below hb0) Yc true
   (fun w'=>Below w.heap.size w w') (fun O=>by
    refine (zbE 125 347 _ (.string p) _ (.string ⟨#[]⟩) _ ⟨w.heap.size,0,none⟩ _ xA Xl Yc zgq ⟨p,rfl⟩ (zi (YC _ _ _) O) (zi (zi (YC w _ _) _) O) (zO (zi (YC w _ _) _) (zO (YC w _ _) (zk8 w _ _) _) O)).mono ?_
    rintro e w' ⟨rfl,_,hb⟩
    have hb2:Below w.heap.size w (((w.alloc (.cells #[.string ⟨#[]⟩] 125)).alloc (.cells #[.pointer (some ⟨w.heap.size,0,none⟩)] 347)).alloc O):=(hb0.alloc (by simp) _).alloc (by simp;omega) _
    exact ⟨rfl,hb2.trans (hb w.heap.size (Nat.le_refl _) hb2.size)⟩)
  go_enter Tryz.func155,Tryz.ntmps155
  go_wp2_with (go_at_call 57;refine c1.mono ?_;rintro e w1 ⟨rfl,hb1⟩)
  go_ret
  exact ⟨rfl,hb1⟩
 ·have c1:=zbZ 125 347 228 (.agg #[.int .i64 k]) ⟨w.heap.size,0,none⟩ (w.alloc (.cells #[.string ⟨#[]⟩] 125)) (hg.below hb0) Yc false
   (fun w'=>Below w.heap.size w w') (fun O=>by
    refine (Ul 228 125 _ _ _ _ _ _ vP jQ Xr).mono ?_
    rintro e w' ⟨rfl,hb⟩
    have hb2:Below w.heap.size w (((w.alloc (.cells #[.string ⟨#[]⟩] 125)).alloc (.cells #[.pointer (some ⟨w.heap.size,0,none⟩)] 347)).alloc O):=(hb0.alloc (by simp) _).alloc (by simp;omega) _
    exact ⟨rfl,hb2.trans (hb.mono hb2.size)⟩)
  go_enter Tryz.func155,Tryz.ntmps155
  go_wp2_with (go_at_call 57;refine c1.mono ?_;rintro e w1 ⟨rfl,hb1⟩)
  go_ret
  exact ⟨rfl,hb1⟩
def yT (w:World) (ao:Option Addr) (us:List Value):Prop:=
 us=[]∨∃b o,ao=some ⟨b,o,none⟩∧∀j,(h:j<us.length)→w.cell? ⟨b,o+j,none⟩=some us[j]
theorem ul {w w':World} {ao:Option Addr} {us:List Value} (h:yT w ao us) (hb:Below w.heap.size w w'):yT w' ao us:=by
 rcases h with h|⟨b,o,ha,hc⟩
 ·exact .inl h
 ·exact .inr ⟨b,o,ha,fun j hj=>cell_later hb (hc j hj)⟩
theorem VF (us:List Value) (ao:Option Addr) (cap g:Nat) (p:Nat→Bool) (w:World) (hn:us.length≤100000000000) (eg:∀args w,(callFunc g args).run Tryz.prog w = .ok (.enter g args) w)
  (hm:yT w ao us) (hif:∀u ∈ us,u = .nilIface∨∃T x,u = .iface T x) (hp:J5 g #[] (fun j=>us.getD j .nilIface) us.length p w) :
  Calls Tryz.prog 54 #[.slice ao us.length cap, .func (.func g) #[] #[]] w fun e w'=>
   e = .returned (.tuple #[.int .i64 (((zB p us.length).getD 0:Nat):Int), .bool (zB p us.length).isSome])∧Below w.heap.size w w':=by
 generalize hF:zB p us.length=F
 have HF:=hid hF
 clear hF
 go_enter Tryz.func54,Tryz.ntmps54
 go_wp2
 go_loopw [10] (fun i wr=>∃k:Nat,k≤us.length∧i = .int .i64 k∧(∀j,j<k→p j=false)∧Below w.heap.size w wr) (fun i _=>us.length-(intOf i).toNat)
 case atStart=>exact ⟨0,Nat.zero_le _,rfl,fun j h=>by omega,Below.refl _ _⟩
 case round=>
  obtain ⟨k,hk,rfl,hb,hw⟩:=hrel
  have HB:=hid hb
  clear hb
  by_cases hlt:k<us.length
  ·rcases hm with rfl|⟨b,o,rfl,hc⟩
   ·simp at hlt
   have hpk:=fun W hb=>hp W k hlt hb
   have hgd:us.getD k .nilIface=us[k]:=by rw [List.getD_eq_getElem?_getD,List.getElem?_eq_getElem hlt];rfl
   simp only [hgd] at hpk
   have q1:=hc k hlt
   have hv:=hif us[k] (List.getElem_mem hlt)
   obtain ⟨u,hu⟩:∃u,us[k]=u:=⟨_,rfl⟩
   rw [hu] at q1 hpk hv
   have q3:=cell_later hw q1
   clear hu hc q1 hgd
   cases hpp:p k with
   | false=>
    rw [hpp] at hpk
    have HP:=hid hpp
    clear hpp
    rcases hv with rfl|⟨T,x,rfl⟩
    ·go_wp2_with (go_at_fn g;refine (hpk _ hw).mono ?_;rintro e w' ⟨rfl,hb'⟩)
     refine ⟨⟨k+1,by omega,by go_num,fun j h=>?_,hw.trans (hb'.mono hw.size)⟩,by simp [intOf];omega⟩
     by_cases hj:j=k
     ·subst hj;exact HP.out
     ·exact HB.out j (by omega)
    ·go_wp2_with (go_at_fn g;refine (hpk _ hw).mono ?_;rintro e w' ⟨rfl,hb'⟩)
     refine ⟨⟨k+1,by omega,by go_num,fun j h=>?_,hw.trans (hb'.mono hw.size)⟩,by simp [intOf];omega⟩
     by_cases hj:j=k
     ·subst hj;exact HP.out
     ·exact HB.out j (by omega)
   | true=>
    rw [hpp] at hpk
    have e:=uh p us.length k hlt HB.out hpp
    rw [HF.out] at e
    subst e
    clear hpp
    rcases hv with rfl|⟨T,x,rfl⟩
    ·go_wp2_with (go_at_fn g;refine (hpk _ hw).mono ?_;rintro e w' ⟨rfl,hb'⟩)
     go_ret2
     exact ⟨rfl,hw.trans (hb'.mono hw.size)⟩
    ·go_wp2_with (go_at_fn g;refine (hpk _ hw).mono ?_;rintro e w' ⟨rfl,hb'⟩)
     go_ret2
     exact ⟨rfl,hw.trans (hb'.mono hw.size)⟩
  ·have e:=jW p us.length (fun j h=>HB.out j (by omega))
   rw [HF.out] at e
   subst e
   go_wp2
   go_ret2
   exact ⟨rfl,hw⟩
def FVs (cs:List Nat) (us:List Value):Prop:=us.length=cs.length∧∀(j c:Nat) (u:Value),cs[j]?=some c→us[j]?=some u→FV c u
theorem FVs.at {cs:List Nat} {us:List Value} (h:FVs cs us) (j:Nat) (hj:j<us.length):FV (cs.getD j 0) us[j]:=by
 have hc:j<cs.length:=by have:=h.1;omega
 have:=h.2 j cs[j] us[j] (List.getElem?_eq_getElem hc) (List.getElem?_eq_getElem hj)
 rw [List.getD_eq_getElem?_getD,List.getElem?_eq_getElem hc]
 exact this
theorem FVs.form {cs:List Nat} {us:List Value} (h:FVs cs us):∀u ∈ us,u = .nilIface∨∃T x,u = .iface T x:=by
 intro u hu
 obtain ⟨j,hj,rfl⟩:=List.getElem_of_mem hu
 exact (h.at j hj).form
theorem uq {p:Nat→Bool} {n k:Nat} (h:zB p n=some k):k<n∧p k=true∧∀j,j<k→p j=false:=by
 unfold zB at h
 rw [List.find?_range_eq_some] at h
 exact ⟨by simpa using h.2.1,h.1,fun j hj=>by simpa using h.2.2 j hj⟩
theorem jT {p:Nat→Bool} {n:Nat} (h:zB p n=none):∀j,j<n→p j=false:=by
 intro j hj
 unfold zB at h
 rw [List.find?_eq_none] at h
 simpa using h j (List.mem_range.2 hj)
theorem getD_mem {cs:List Nat} {j:Nat} (h:j<cs.length):cs.getD j 0 ∈ cs:=by
 rw [List.getD_eq_getElem?_getD,List.getElem?_eq_getElem h];exact List.getElem_mem h
theorem zil {cs:List Nat} {k:Nat} (h:zB (fun j=>cs.getD j 0==1) cs.length=some k):k<cs.length∧cs.getD k 0=1∧Rd.Zc cs=1:=by
 obtain ⟨h1,h2,_⟩:=uq h
 have h3:cs.getD k 0=1:=by simpa using h2
 exact ⟨h1,h3,Rd.XC (h3 ▸ getD_mem h1)⟩
theorem Jd {cs:List Nat} {c:Nat} (h:c ∈ cs):∃j,j<cs.length∧cs.getD j 0=c:=by
 obtain ⟨j,hj,rfl⟩:=List.getElem_of_mem h
 exact ⟨j,hj,by rw [List.getD_eq_getElem?_getD,List.getElem?_eq_getElem hj];rfl⟩
theorem zdT {cs:List Nat} (h:zB (fun j=>cs.getD j 0==1) cs.length=none):(cs.any fun c=>c==1)=false:=by
 rw [List.any_eq_false]
 intro c hc
 obtain ⟨j,hj,rfl⟩:=Jd hc
 simpa using jT h j hj
theorem zhZ {cs:List Nat} {k:Nat} (hle:∀c ∈ cs,c≤2) (h:zB (fun j=>cs.getD j 0==1) cs.length=none) (h':zB (fun j=>cs.getD j 0 != 0) cs.length=some k):k<cs.length∧cs.getD k 0=2∧Rd.Zc cs=2:=by
 obtain ⟨h1,h2,_⟩:=uq h'
 have h3:cs.getD k 0≠0:=by simpa using h2
 have h4:cs.getD k 0≠1:=by simpa using jT h k h1
 have h5:=hle _ (getD_mem h1)
 have h6:cs.getD k 0=2:=by omega
 refine ⟨h1,h6,?_⟩
 unfold Rd.Zc
 rw [zdT h,if_neg (by decide),if_pos]
 rw [List.any_eq_true]
 exact ⟨2,h6 ▸ getD_mem h1,rfl⟩
theorem ziO {cs:List Nat} (h:zB (fun j=>cs.getD j 0==1) cs.length=none) (h':zB (fun j=>cs.getD j 0 != 0) cs.length=none):Rd.Zc cs=0:=by
 unfold Rd.Zc
 rw [zdT h,if_neg (by decide),if_neg]
 rw [Bool.not_eq_true,List.any_eq_false]
 intro c hc
 obtain ⟨j,hj,rfl⟩:=Jd hc
 have:cs.getD j 0=0:=by simpa using jT h' j hj
 rw [this];decide
theorem FVs.le {cs:List Nat} {us:List Value} (h:FVs cs us):∀c ∈ cs,c≤2:=by
 intro c hc
 obtain ⟨j,hj,rfl⟩:=Jd hc
 have hu:j<us.length:=by have:=h.1;omega
 exact (h.at j hu).le
theorem kX (cs:List Nat) (us:List Value) (ao:Option Addr) (cap:Nat) (w:World) (hg:jq w) (hn:us.length≤100000) (hm:yT w ao us) (hF:FVs cs us) :
  Calls Tryz.prog 102 #[.slice ao us.length cap] w fun e w'=>∃u,e = .returned u∧FV (Rd.Zc cs) u∧Below w.heap.size w w':=by
 have hl:=hF.1
 have t1:J5 155 #[] (fun j=>us.getD j .nilIface) us.length (fun j=>cs.getD j 0==1) w:=fun W j hj hb=>by
  have:=zhu _ _ W (hg.below hb) (hF.at j hj)
  rw [show us[j]=us.getD j .nilIface by rw [List.getD_eq_getElem?_getD,List.getElem?_eq_getElem hj];rfl] at this
  exact this
 have t2:∀W0,J5 55 #[] (fun j=>us.getD j .nilIface) us.length (fun j=>cs.getD j 0 != 0) W0:=fun W0 W j hj hb=>by
  have:=zbL _ _ W (hF.at j hj)
  rw [show us[j]=us.getD j .nilIface by rw [List.getD_eq_getElem?_getD,List.getElem?_eq_getElem hj];rfl] at this
  exact this
 have e1:∀args w,(callFunc 155 args).run Tryz.prog w = .ok (.enter 155 args) w:=enters_of Tryz.func155 (by kernel_rfl) rfl
 have e2:∀args w,(callFunc 55 args).run Tryz.prog w = .ok (.enter 55 args) w:=enters_of Tryz.func55 (by kernel_rfl) rfl
 have c1:=VF us ao cap _ _ w (by omega) e1 hm hF.form t1
 have c2:=fun W hb=>VF us ao cap _ _ W (by omega) e2 (ul hm hb) hF.form (t2 W)
 clear t1 t2 e1 e2
 have hat:=fun j hj=>hF.at j hj
 have hfm:=hF.form
 have hle:=hF.le
 rw [hl] at c1 c2
 cases hx:zB (fun j=>cs.getD j 0==1) cs.length with
 | some k=>
  obtain ⟨k1,k2,k3⟩:=zil hx
  rw [hx] at c1
  simp only [Option.getD_some,Option.isSome_some] at c1
  have hku:k<us.length:=by omega
  have hfv:=hat k hku
  rw [k2] at hfv
  rw [k3]
  rcases hm with rfl|⟨b,o,rfl,hc⟩
  ·simp at hku
  have q:=hc k hku
  obtain ⟨u,hu⟩:∃u,us[k]=u:=⟨_,rfl⟩
  rw [hu] at hfv q
  have hki:(k:Int)<(cs.length:Int):=by omega
  rcases hfv with ⟨h,_⟩|⟨_,p,rfl⟩|⟨h,_⟩
  ·simp at h
  ·rw [hl]
   clear c2 hat hfm hle hx hc hF hu
   go_enter Tryz.func102,Tryz.ntmps102
   go_wp2_with (go_at_call 54;refine c1.mono ?_;rintro e w1 ⟨rfl,hb1⟩;have q1:=cell_later hb1 q)
   go_ret
   exact ⟨_,rfl, .inr (.inl ⟨rfl,p,rfl⟩),hb1⟩
  ·simp at h
 | none=>
  rw [hx] at c1
  simp only [Option.getD_none,Option.isSome_none] at c1
  cases hy:zB (fun j=>cs.getD j 0 != 0) cs.length with
  | some k=>
   obtain ⟨k1,k2,k3⟩:=zhZ hle hx hy
   simp only [hy,Option.getD_some,Option.isSome_some] at c2
   have hku:k<us.length:=by omega
   have hfv:=hat k hku
   rw [k2] at hfv
   rw [k3]
   rcases hm with rfl|⟨b,o,rfl,hc⟩
   ·simp at hku
   have q:=hc k hku
   obtain ⟨u,hu⟩:∃u,us[k]=u:=⟨_,rfl⟩
   rw [hu] at hfv q
   have hki:(k:Int)<(cs.length:Int):=by omega
   rcases hfv with ⟨h,_⟩|⟨h,_⟩|⟨_,p,rfl⟩
   ·simp at h
   ·simp at h
   ·rw [hl]
    clear hat hfm hle hx hy hc hF hu
    go_enter Tryz.func102,Tryz.ntmps102
    go_wp2_with (first
     | (go_at_call 54;refine (c2 w1 hb1).mono ?_;rintro e w2 ⟨rfl,hb2⟩;have q1:=cell_later (hb1.trans (hb2.mono hb1.size)) q)
     | (go_at_call 54;refine c1.mono ?_;rintro e w1 ⟨rfl,hb1⟩))
    go_ret
    exact ⟨_,rfl, .inr (.inr ⟨rfl,p,rfl⟩),hb1.trans (hb2.mono hb1.size)⟩
  | none=>
   have k3:=ziO hx hy
   simp only [hy,Option.getD_none,Option.isSome_none] at c2
   rw [k3,hl]
   clear hat hfm hle hx hy hF hm
   go_enter Tryz.func102,Tryz.ntmps102
   go_wp2_with (first
    | (go_at_call 54;refine (c2 w1 hb1).mono ?_;rintro e w2 ⟨rfl,hb2⟩)
    | (go_at_call 54;refine c1.mono ?_;rintro e w1 ⟨rfl,hb1⟩))
   go_ret
   exact ⟨_,rfl, .inl ⟨rfl,rfl⟩,hb1.trans (hb2.mono hb1.size)⟩
end Go.Proofs.YtdakgnaojakldaaGreatDoor
