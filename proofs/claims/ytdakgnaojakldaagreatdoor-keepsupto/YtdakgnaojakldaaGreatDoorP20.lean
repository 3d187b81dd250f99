/- P -/
import Derived.Test.YtdakgnaojakldaaGreatDoorP19
set_option maxRecDepth 100000
set_option maxHeartbeats 2000000
namespace Go.Proofs.YtdakgnaojakldaaGreatDoor
open Go.RowKit
def zml (w:World) (R:Nat) (s:ByteArray) (r:Rd.Res (List (ByteArray×Rd.V))) (e:Ending) (w':World):Prop:=match r with
 | .ok ms q=>∃lv,e = .returned (.tuple #[lv, .nilIface])∧ValAt w' (Blk w w') (.obj ms) (.iface 118 lv)∧w.grownBy w' (some R)∧zu w' R s q
 | .err c q=>∃lv,e = .returned (.tuple #[lv,uY c q])∧w.grownBy w' (some R)
theorem ziC (s:ByteArray) (R d F:Nat) (w0:World) (hs:s.size≤4000) (hR:R<w0.heap.size) (hRg:R≠5) (hg0:5<w0.heap.size) (hv:vY s R F) :
  Reads s R 191 #[.pointer (some ⟨w0.heap.size,0,none⟩), .pointer (some ⟨w0.heap.size+1,0,none⟩), .pointer (some ⟨w0.heap.size+2,0,none⟩)] (Rd.stO s.data.toList d) F d (ziY w0 R s d) (zlX w0 R) where
 rd:=fun _ _ _ h=>h.rd
 mv:=fun _ _ _ _ _ h hq hg hr=>h.mv hR hRg hq hg hr
 bad:=fun _ _ _ h=>by
  obtain ⟨ao,cap,us,c1,_⟩:=h.row
  exact ⟨h.grown,_,c1⟩
 adv:=fun f a q a' q' hq hb hf h=>by
  unfold Rd.stO at h
  cases hx:Rd.ziW s.data.toList d f a q with
  | ok v q2=>
   rw [hx] at h
   injection h with h1 h2
   rw [← h2];exact ziw hq hf hx
  | err c q2=>rw [hx] at h;cases h
 one:=fun f a q w hf hd hi hq _ hfu=>zlz s R d F w0 hs hR hRg hg0 hd hv f a q w hf hi hq hfu
theorem ziY.val {w0:World} {R:Nat} {s:ByteArray} {d:Nat} {acc:List (ByteArray×Rd.V)} {q:Nat} {w:World} (h:ziY w0 R s d acc q w):∃lv,w.cell? ⟨w0.heap.size+2,0,none⟩=some lv∧ValAt w (Blk w0 w) (.obj acc) (.iface 118 lv):=by
 obtain ⟨ao,cap,us,c1,c2,c3,cn,c4⟩:=h.row
 refine ⟨_,c1,?_⟩
 have hl:us.length=acc.length:=by have:=congrArg List.length cn;simpa using this
 have hel:∀(j:Nat) (x:ByteArray×Rd.V) (u:ByteArray×Value),acc[j]?=some x→us[j]?=some u→ValAt w (Blk w0 w) x.2 u.2:=fun j v u hv hu=>(c4 j v u hv hu).move (fun b hb=>⟨by omega,hb.2.1⟩) (fun _ _=>rfl)
 have hms:=Vq c3
 rw [← hl]
 refine .obj acc us ao cap cn ?_ hel
 rcases hms with h0|⟨b,o,ha,hc⟩
 ·exact .inl h0
 ·rcases c3.2 with ⟨h1,h2⟩|⟨g,c,cur,h1,hB,hg,hrest⟩
  ·exact .inl (List.eq_nil_of_length_eq_zero (by omega))
  ·injection h1 with h1 h2 h3
   rw [h1] at ha
   injection ha with ha
   injection ha with hb ho
   subst hb
   refine .inr ⟨g,h1,⟨by omega,(Array.getElem?_eq_some_iff.1 hg).1⟩,fun j x hx=>?_⟩
   obtain ⟨hj,rfl⟩:=List.getElem?_eq_some_iff.1 hx
   have:=hc j hj
   rw [← ho] at this
   simpa using this
theorem zkb (s:ByteArray) (R p d F:Nat) (w:World) (hr:zu w R s p) (hq:qo w) (hRg:R≠5) (hp:p<s.size) (hs:s.size≤4000) (hd:d≤9) (hv:vY s R F) (hF:2*(s.size-(p+1))+1<F) :
  Calls Tryz.prog 144 #[.pointer (some ⟨R,0,none⟩), .int .i64 (d:Int)] w fun e w'=>zml w R s (Rd.vw s.data.toList (Rd.stO s.data.toList d) 125 F d [] p) e w':=by
 have hR:=hr.lt
 have hg0:=hq.lt
 have e1:∀args w,(callFunc 191 args).run Tryz.prog w = .ok (.enter 191 args) w:=enters_of Tryz.func191 (by kernel_rfl) rfl
 have hg3:∀A B C:Obj,w.grownBy (((w.alloc A).alloc B).alloc C) (some R):=fun A B C=>zf (zf (World.grownBy_alloc w A _) (World.grownBy_alloc _ B _)) (World.grownBy_alloc _ C _)
 have hinit:ziY w R s d [] p (((w.alloc (.cells #[.pointer (some ⟨R,0,none⟩)] 195)).alloc (.cells #[.int .i64 (d:Int)] 3)).alloc (.cells #[.slice none 0 0] 118)):=by
  have h3:=Vk w (.pointer (some ⟨R,0,none⟩)) (.int .i64 (d:Int)) (.slice none 0 0) 195 3 118
  exact ⟨((hr.alloc _).alloc _).alloc _,hq.grown (hg3 _ _ _) hRg,hg3 _ _ _,by simp,Nat.zero_le _,h3.1,h3.2.1,none,0,[],h3.2.2.1,h3.2.2.2,World.ownsRow_nil _ _ _ _,rfl,fun j v u hv=>by simp at hv⟩
 have hit:=zhV s R p d 125 191 F _ (Rd.stO s.data.toList d) (ziY w R s d) (zlX w R) [] _ e1 (ziC s R d F w hs hR hRg hg0 hv) hinit hp hs (by omega) (by decide) (by decide) hF
 clear hinit hv hr hq
 cases hx:Rd.vw s.data.toList (Rd.stO s.data.toList d) 125 F d [] p with
 | ok vs q=>
  rw [hx] at hit
  have hit2:=hit.mono (R':=fun e w'=>e = .returned .nilIface∧∃lv,w'.cell? ⟨w.heap.size+2,0,none⟩=some lv∧ValAt w' (Blk w w') (.obj vs) (.iface 118 lv)∧w.grownBy w' (some R)∧zu w' R s q) (by
   rintro e w' ⟨rfl,h⟩
   obtain ⟨lv,h1,h2⟩:=h.val
   exact ⟨rfl,lv,h1,h2,h.grown,h.rd⟩)
  clear hit hx
  go_enter Tryz.func144,Tryz.ntmps144
  go_wp2_with (go_at_call 190;refine hit2.mono ?_;rintro e w1 ⟨rfl,lv,k1,hva,hg1,hr1⟩)
  go_ret2
  exact ⟨lv,rfl,hva,hg1,hr1⟩
 | err c q=>
  rw [hx] at hit
  have hit2:=hit.mono (R':=fun e w'=>e = .returned (uY c q)∧∃lv,w'.cell? ⟨w.heap.size+2,0,none⟩=some lv∧w.grownBy w' (some R)) (by
   rintro e w' ⟨rfl,h,lv,h1⟩
   exact ⟨rfl,lv,h1,h⟩)
  clear hit hx
  go_enter Tryz.func144,Tryz.ntmps144
  go_wp2_with (go_at_call 190;refine hit2.mono ?_;rintro e w1 ⟨rfl,lv,k1,hg1⟩)
  go_ret2
  exact ⟨lv,rfl,hg1⟩
theorem zkE (s:ByteArray) (R p d F:Nat) (w:World) (hr:zu w R s p) (hq:qo w) (hRg:R≠5) (hp:p<s.size) (hs:s.size≤4000) (hd:d≤9) (hv:vY s R F) (hF:2*(s.size-(p+1))+1<F) (r:Rd.Res (List Rd.V)) (h:Rd.vw s.data.toList (Rd.stL s.data.toList d) 93 F d [] p=r) :
  Calls Tryz.prog 145 #[.pointer (some ⟨R,0,none⟩), .int .i64 (d:Int)] w fun e w'=>zlZ w R s r e w':=by
 rw [← h];exact zmp s R p d F w hr hq hRg hp hs hd hv hF
theorem zei (s:ByteArray) (R p d F:Nat) (w:World) (hr:zu w R s p) (hq:qo w) (hRg:R≠5) (hp:p<s.size) (hs:s.size≤4000) (hd:d≤9) (hv:vY s R F) (hF:2*(s.size-(p+1))+1<F) (r:Rd.Res (List (ByteArray×Rd.V))) (h:Rd.vw s.data.toList (Rd.stO s.data.toList d) 125 F d [] p=r) :
  Calls Tryz.prog 144 #[.pointer (some ⟨R,0,none⟩), .int .i64 (d:Int)] w fun e w'=>zml w R s r e w':=by
 rw [← h];exact zkb s R p d F w hr hq hRg hp hs hd hv hF
theorem Blk.later {w w1 w2:World} {b:Nat} (h:Blk w1 w2 b) (hs:w.heap.size≤w1.heap.size):Blk w w2 b:=⟨by have:=h.1;omega,h.2⟩
theorem zbG (s:ByteArray) (R f d p:Nat) (w:World) (hr:zu w R s p) (hq:qo w) (hRg:R≠5) (hp:p≤s.size) (hs:s.size≤4000) (hd:d≤9) (hfu:2*(s.size-p)<f+1) (hv:vY s R f) :
  Calls Tryz.prog 93 #[.pointer (some ⟨R,0,none⟩), .int .i64 (d:Int)] w fun e w'=>yC w R s (starts s p) (Rd.qj s.data.toList (f+1) d p) e w':=by
 obtain ⟨b,hb⟩:∃b,Rd.peek s.data.toList p=b:=⟨_,rfl⟩
 have hpe:=(VZ s R p w hr hp).mono (R':=fun e w'=>e = .returned (.int .u8 (b:Int))∧zu w' R s p∧w.grownBy w' (some R)∧qo w') (by
  rintro e w' ⟨rfl,h1,h2,_,_⟩
  exact ⟨by rw [hb],h1,h2,hq.grown h2 hRg⟩)
 have hblt:b<256:=by rw [← hb];exact Rd.vS _ _
 have hpos:b≠0→p<s.size:=fun h=>by
  have:=Rd.zx s.data.toList p (by rw [hb];exact h)
  rwa [Ref.zg] at this
 have hst:starts s p=(b==123||b==91||b==34||b==116||b==102):=by unfold starts;rw [hb]
 clear hr hq
 by_cases c1:b=123
 ·have HE:=hid (Rd.zhK s.data.toList f d p (by rw [hb];exact c1))
  have HS:Hid (starts s p=true):=hid (by rw [hst,c1];rfl)
  have d1:(b:Int)=123:=by omega
  have hlt:=hpos (by omega)
  clear hb hst hpos
  cases hx:Rd.vw s.data.toList (Rd.stO s.data.toList d) 125 f d [] p with
  | ok ms q=>
   rw [hx] at HE
   have HX:=hid hx
   clear hx
   go_enter Tryz.func93,Tryz.ntmps93
   go_wp2_with (first
    | (go_at_call 143;refine hpe.mono ?_;rintro e w1 ⟨rfl,hr1,hg1,hq1⟩)
    | (go_at_call 144;refine (zei s R p d f w1 hr1 hq1 hRg hlt hs hd hv (by omega) _ HX.out).mono ?_;rintro e w2 ⟨lv,rfl,hva,hg2,hr2⟩))
   go_ret2
   refine yC.of ?_ HE.out
   exact ⟨_,rfl,hva.move (fun b hb=>hb.later hg1.size) (fun _ _=>rfl),zf hg1 hg2,hr2⟩
  | err c q=>
   rw [hx] at HE
   have HX:=hid hx
   clear hx
   go_enter Tryz.func93,Tryz.ntmps93
   go_wp2_with (first
    | (go_at_call 143;refine hpe.mono ?_;rintro e w1 ⟨rfl,hr1,hg1,hq1⟩)
    | (go_at_call 144;refine (zei s R p d f w1 hr1 hq1 hRg hlt hs hd hv (by omega) _ HX.out).mono ?_;rintro e w2 ⟨lv,rfl,hg2⟩))
   go_ret2
   refine yC.of ?_ HE.out
   exact ⟨_,rfl,⟨fun _=>⟨_,_,rfl⟩,fun h=>absurd (HS.out.symm.trans h) (by decide)⟩,zf hg1 hg2⟩
 have n1:((b:Int)==123)=false:=by rw [beq_eq_false_iff_ne];omega
 by_cases c2:b=91
 ·have HE:=hid (Rd.zfc s.data.toList f d p (by rw [hb];exact c2))
  have HS:Hid (starts s p=true):=hid (by rw [hst,c2];rfl)
  have d1:(b:Int)=91:=by omega
  have hlt:=hpos (by omega)
  clear hb hst hpos
  cases hx:Rd.vw s.data.toList (Rd.stL s.data.toList d) 93 f d [] p with
  | ok ms q=>
   rw [hx] at HE
   have HX:=hid hx
   clear hx
   go_enter Tryz.func93,Tryz.ntmps93
   go_wp2_with (first
    | (go_at_call 143;refine hpe.mono ?_;rintro e w1 ⟨rfl,hr1,hg1,hq1⟩)
    | (go_at_call 145;refine (zkE s R p d f w1 hr1 hq1 hRg hlt hs hd hv (by omega) _ HX.out).mono ?_;rintro e w2 ⟨lv,rfl,hva,hg2,hr2⟩))
   go_ret2
   refine yC.of ?_ HE.out
   exact ⟨_,rfl,hva.move (fun b hb=>hb.later hg1.size) (fun _ _=>rfl),zf hg1 hg2,hr2⟩
  | err c q=>
   rw [hx] at HE
   have HX:=hid hx
   clear hx
   go_enter Tryz.func93,Tryz.ntmps93
   go_wp2_with (first
    | (go_at_call 143;refine hpe.mono ?_;rintro e w1 ⟨rfl,hr1,hg1,hq1⟩)
    | (go_at_call 145;refine (zkE s R p d f w1 hr1 hq1 hRg hlt hs hd hv (by omega) _ HX.out).mono ?_;rintro e w2 ⟨lv,rfl,hg2⟩))
   go_ret2
   refine yC.of ?_ HE.out
   exact ⟨_,rfl,⟨fun _=>⟨_,_,rfl⟩,fun h=>absurd (HS.out.symm.trans h) (by decide)⟩,zf hg1 hg2⟩
 have n2:((b:Int)==91)=false:=by rw [beq_eq_false_iff_ne];omega
 clear hv
 by_cases c3:b=34
 ·have HE:=hid (Rd.zgS s.data.toList f d p (by rw [hb];exact c3))
  have HS:Hid (starts s p=true):=hid (by rw [hst,c3];rfl)
  have d1:(b:Int)=34:=by omega
  clear hb hst hpos
  cases hx:Rd.uf s.data.toList p with
  | ok t q=>
   rw [hx] at HE
   have HX:=hid hx
   clear hx
   go_enter Tryz.func93,Tryz.ntmps93
   go_wp2_with (first
    | (go_at_call 143;refine hpe.mono ?_;rintro e w1 ⟨rfl,hr1,hg1,hq1⟩)
    | (go_at_call 146;refine (Y8 s R p w1 hr1 hp hs hq1 hRg _ HX.out).mono ?_;rintro e w2 ⟨rfl,hg2,hr2,hq2⟩))
   go_ret2
   refine yC.of ?_ HE.out
   exact ⟨_,rfl, .str t,zf hg1 hg2,hr2⟩
  | err c q=>
   rw [hx] at HE
   have hc:=Rd.zel hx
   subst hc
   have HX:=hid hx
   clear hx
   go_enter Tryz.func93,Tryz.ntmps93
   go_wp2_with (first
    | (go_at_call 143;refine hpe.mono ?_;rintro e w1 ⟨rfl,hr1,hg1,hq1⟩)
    | (go_at_call 146;refine (Y8 s R p w1 hr1 hp hs hq1 hRg _ HX.out).mono ?_;rintro e w2 ⟨rfl,hg2,hr2,hq2⟩))
   go_ret2
   refine yC.of ?_ HE.out
   exact ⟨_,rfl,⟨fun _=>⟨_,_,rfl⟩,fun h=>absurd (HS.out.symm.trans h) (by decide)⟩,zf hg1 hg2⟩
 have n3:((b:Int)==34)=false:=by rw [beq_eq_false_iff_ne];omega
 by_cases c4:b=116
 ·have HE:=hid (Rd.zfh s.data.toList f d p (by rw [hb];exact c4))
  have HS:Hid (starts s p=true):=hid (by rw [hst,c4];rfl)
  have d1:(b:Int)=116:=by omega
  clear hb hst hpos
  cases hx:Rd.xu s.data.toList [116,114,117,101] p with
  | ok t q=>
   rw [hx] at HE
   have HX:=hid hx
   clear hx
   go_enter Tryz.func93,Tryz.ntmps93
   go_wp2_with (first
    | (go_at_call 143;refine hpe.mono ?_;rintro e w1 ⟨rfl,hr1,hg1,hq1⟩)
    | (go_at_call 147;refine (Y1 s ⟨#[116,114,117,101]⟩ R p w1 hr1 hp hs (by decide) (by decide) _ HX.out).mono ?_;rintro e w2 ⟨rfl,hg2,hr2,hq2⟩))
   go_ret2
   refine yC.of ?_ HE.out
   exact ⟨_,rfl, .word true,zf hg1 hg2,hr2⟩
  | err c q=>
   rw [hx] at HE
   have hc:=Rd.Xk hx
   subst hc
   have HX:=hid hx
   clear hx
   go_enter Tryz.func93,Tryz.ntmps93
   go_wp2_with (first
    | (go_at_call 143;refine hpe.mono ?_;rintro e w1 ⟨rfl,hr1,hg1,hq1⟩)
    | (go_at_call 147;refine (Y1 s ⟨#[116,114,117,101]⟩ R p w1 hr1 hp hs (by decide) (by decide) _ HX.out).mono ?_;rintro e w2 ⟨rfl,hg2,hr2,hq2⟩))
   go_ret2
   refine yC.of ?_ HE.out
   exact ⟨_,rfl,⟨fun _=>⟨_,_,rfl⟩,fun h=>absurd (HS.out.symm.trans h) (by decide)⟩,zf hg1 hg2⟩
 have n4:((b:Int)==116)=false:=by rw [beq_eq_false_iff_ne];omega
 by_cases c5:b=102
 ·have HE:=hid (Rd.zdB s.data.toList f d p (by rw [hb];exact c5))
  have HS:Hid (starts s p=true):=hid (by rw [hst,c5];rfl)
  have d1:(b:Int)=102:=by omega
  clear hb hst hpos
  cases hx:Rd.xu s.data.toList [102,97,108,115,101] p with
  | ok t q=>
   rw [hx] at HE
   have HX:=hid hx
   clear hx
   go_enter Tryz.func93,Tryz.ntmps93
   go_wp2_with (first
    | (go_at_call 143;refine hpe.mono ?_;rintro e w1 ⟨rfl,hr1,hg1,hq1⟩)
    | (go_at_call 147;refine (Y1 s ⟨#[102,97,108,115,101]⟩ R p w1 hr1 hp hs (by decide) (by decide) _ HX.out).mono ?_;rintro e w2 ⟨rfl,hg2,hr2,hq2⟩))
   go_ret2
   refine yC.of ?_ HE.out
   exact ⟨_,rfl, .word false,zf hg1 hg2,hr2⟩
  | err c q=>
   rw [hx] at HE
   have hc:=Rd.Xk hx
   subst hc
   have HX:=hid hx
   clear hx
   go_enter Tryz.func93,Tryz.ntmps93
   go_wp2_with (first
    | (go_at_call 143;refine hpe.mono ?_;rintro e w1 ⟨rfl,hr1,hg1,hq1⟩)
    | (go_at_call 147;refine (Y1 s ⟨#[102,97,108,115,101]⟩ R p w1 hr1 hp hs (by decide) (by decide) _ HX.out).mono ?_;rintro e w2 ⟨rfl,hg2,hr2,hq2⟩))
   go_ret2
   refine yC.of ?_ HE.out
   exact ⟨_,rfl,⟨fun _=>⟨_,_,rfl⟩,fun h=>absurd (HS.out.symm.trans h) (by decide)⟩,zf hg1 hg2⟩
 have n5:((b:Int)==102)=false:=by rw [beq_eq_false_iff_ne];omega
 have HE:=hid (Rd.zfW s.data.toList f d p (by rw [hb];exact c1) (by rw [hb];exact c2) (by rw [hb];exact c3) (by rw [hb];exact c4) (by rw [hb];exact c5))
 have HS:Hid (starts s p=false):=hid (by rw [hst];simp [c1,c2,c3,c4,c5])
 clear hb hst hpos c1 c2 c3 c4 c5
 go_enter Tryz.func93,Tryz.ntmps93
 go_wp2_with (first
  | (go_at_call 143;refine hpe.mono ?_;rintro e w1 ⟨rfl,hr1,hg1,hq1⟩)
  | (go_at_call 94;refine (qR s R p w1 hr1).mono ?_;rintro e w2 ⟨rfl,rfl⟩))
 go_ret2
 refine yC.of ?_ HE.out
 exact ⟨_,rfl,⟨fun h=>absurd (HS.out.symm.trans h) (by decide),fun _=>rfl⟩,hg1⟩
theorem zd5 (s:ByteArray) (R:Nat) (hRg:R≠5) (hs:s.size≤4000):∀F,vY s R F
 | 0=>fun f hf=>absurd hf (Nat.not_lt_zero f)
 | F+1=>fun f hf d p w hr hq hp _ hd9 _ hfu=>by
  cases f with
  | zero=>omega
  | succ f=>exact zbG s R f d p w hr hq hRg hp hs hd9 (by omega) (fun g hg=>zd5 s R hRg hs F g (by omega))
def jL (w:World) (r:Rd.Res Rd.V) (e:Ending) (w':World):Prop:=match r with
 | .ok v _=>∃u,e = .returned (.tuple #[u, .nilIface])∧ValAt w' (Blk w w') v u∧Below w.heap.size w w'
 | .err c q=>e = .returned (.tuple #[.nilIface,uY c q])∧Below w.heap.size w w'
theorem jL.of {w w':World} {r r':Rd.Res Rd.V} {e:Ending} (h:jL w r e w') (hr:r'=r):jL w r' e w':=hr ▸ h
theorem below_grown {w w1 w2:World} {R:Nat} (h:Below w.heap.size w w1) (hR:w.heap.size≤R) (hg:w1.grownBy w2 (some R)):Below w.heap.size w w2:=
 ⟨hg.os.trans h.os,hg.tape.trans h.tape,hg.output.trans h.output,Nat.le_trans h.size hg.size,fun k hk=>(hg.block k (Nat.lt_of_lt_of_le hk h.size) (by simp;omega)).trans (h.block k hk)⟩
theorem zh1 (s:ByteArray) (w:World) (hq:qo w) (hs:s.size≤4000) :
  Calls Tryz.prog 50 #[.string s] w fun e w'=>jL w (Rd.vK s.data.toList) e w':=by
 have hsl:=hq.lt
 have hRg:w.heap.size≠5:=by omega
 have dl:decide ((4000:Int)<(s.size:Int))=false:=decide_eq_false (by omega)
 have hn:=heap_alloc_new w (.cells #[.string s, .int .i64 0] 197)
 have hr0:zu (w.alloc (.cells #[.string s, .int .i64 0] 197)) w.heap.size s 0:=by
  refine ⟨?_,?_,?_⟩
  ·simp only [World.cell?,hn];rfl
  ·simp only [World.cell?,hn];rfl
  ·simp only [World.frozen?,hn];rfl
 have hb0:=(Below.refl _ w).alloc (Nat.le_refl _) (.cells #[.string s, .int .i64 0] 197)
 have hq0:qo (w.alloc (.cells #[.string s, .int .i64 0] 197)):=hq.same (hb0.block _ hsl)
 have hsk:=Rd.yh s.data.toList 0 (Nat.zero_le _)
 have hnb:=Rd.xX s.data.toList 0
 rw [Ref.zg] at hsk
 have hE:Rd.vK s.data.toList=Rd.vK s.data.toList:=rfl
 conv at hE=>rhs;unfold Rd.vK
 obtain ⟨p,hpp⟩:∃p,Rd.skip s.data.toList 0=p:=⟨_,rfl⟩
 rw [hpp] at hsk hnb hE
 have hs1:=(yu s w.heap.size 0 _ hr0 (Nat.zero_le _) hs).mono (R':=fun e w'=>e = .returned (.tuple #[])∧zu w' w.heap.size s p∧Below w.heap.size w w'∧qo w'∧w.heap.size+1≤w'.heap.size) (by
  rintro e w' ⟨rfl,h1,h2⟩
  rw [hpp] at h2
  exact ⟨rfl,h2,below_grown hb0 (Nat.le_refl _) h1,hq0.grown h1 hRg,by have:=h1.size;simp at this;omega⟩)
 have hval:=fun w1 (h:zu w1 w.heap.size s p) (h':qo w1)=>zd5 s w.heap.size hRg hs (2*s.data.toList.length+2) (2*s.data.toList.length+1) (by omega) 1 p w1 h h' hsk (by omega) (by omega) hnb (by rw [Ref.zg];omega)
 have HADV:=hid (fun v q hx=>Rd.XT (l:=s.data.toList) (f:=2*s.data.toList.length+1) (d:=1) (p:=p) (q:=q) (v:=v) (by omega) (by rw [Ref.zg];omega) hnb (by rw [Ref.zg];omega) hx)
 clear hpp hnb hr0 hq hq0 hn
 cases hx:Rd.qj s.data.toList (2*s.data.toList.length+1) 1 p with
 | err c q=>
  rw [hx] at hE
  simp only at hE
  simp only [hx] at hval
  obtain ⟨T2,hT2⟩:=yX c q
  have hval2:∀w1,zu w1 w.heap.size s p→qo w1→Below w.heap.size w w1→Calls Tryz.prog 93 #[.pointer (some ⟨w.heap.size,0,none⟩), .int .i64 1] w1 fun e w'=>∃u,e = .returned (.tuple #[u, .iface T2 (.agg #[.int .i64 (q:Int)])])∧Below w.heap.size w w':=fun w1 h h' h2=>by
   refine (hval w1 h h').mono ?_
   rintro e w' ⟨u,rfl,_,hg⟩
   exact ⟨u,by rw [hT2],below_grown h2 (Nat.le_refl _) hg⟩
  have HE:=hid hE
  have HT:=hid hT2
  clear hval hE hx hT2
  go_enter Tryz.func50,Tryz.ntmps50
  go_wp2_with (first
   | (go_at_call 92;refine hs1.mono ?_;rintro e w1 ⟨rfl,hr1,hb1,hq1,hz1⟩)
   | (go_at_call 93;refine (hval2 w1 hr1 hq1 hb1).mono ?_;rintro e w2 ⟨u,rfl,hb2⟩))
  go_ret2
  refine jL.of ?_ HE.out
  exact ⟨by rw [HT.out];rfl,hb2⟩
 | ok v q=>
  rw [hx] at hE
  simp only at hE
  simp only [hx] at hval
  have hadv:=HADV.out v q hx
  rw [Ref.zg] at hadv
  have hsk2:=Rd.yh s.data.toList q (by rw [Ref.zg];omega)
  rw [Ref.zg] at hsk2
  obtain ⟨q2,hq2⟩:∃q2,Rd.skip s.data.toList q=q2:=⟨_,rfl⟩
  rw [hq2] at hsk2 hE
  have hval2:∀w1,zu w1 w.heap.size s p→qo w1→Below w.heap.size w w1→w.heap.size+1≤w1.heap.size→Calls Tryz.prog 93 #[.pointer (some ⟨w.heap.size,0,none⟩), .int .i64 1] w1 fun e w'=>∃u,e = .returned (.tuple #[u, .nilIface])∧ValAt w' (fun b=>w.heap.size+1≤b∧b<w'.heap.size) v u∧Below w.heap.size w w'∧zu w' w.heap.size s q:=fun w1 h h' h2 h3=>by
   refine (hval w1 h h').mono ?_
   rintro e w' ⟨u,rfl,hva,hg,hr⟩
   exact ⟨u,rfl,hva.move (fun b hb=>⟨by have:=hb.1;omega,hb.2⟩) (fun _ _=>rfl),below_grown h2 (Nat.le_refl _) hg,hr⟩
  have hs2:∀w2 u,zu w2 w.heap.size s q→Below w.heap.size w w2→ValAt w2 (fun b=>w.heap.size+1≤b∧b<w2.heap.size) v u→Calls Tryz.prog 92 #[.pointer (some ⟨w.heap.size,0,none⟩)] w2 fun e w'=>e = .returned (.tuple #[])∧zu w' w.heap.size s q2∧Below w.heap.size w w'∧ValAt w' (Blk w w') v u:=fun w2 u h h' hva=>by
   refine (yu s w.heap.size q w2 h hadv.2 hs).mono ?_
   rintro e w' ⟨rfl,h1,h2⟩
   rw [hq2] at h2
   exact ⟨rfl,h2,below_grown h' (Nat.le_refl _) h1,hva.move (fun b hb=>⟨by omega,by have:=h1.size;omega⟩) (fun b hb=>h1.block b hb.2 (by simp;omega))⟩
  clear hval hx hq2 HADV
  by_cases c:q2<s.size
  ·rw [if_pos (by rw [Ref.zg];exact c)] at hE
   have HE:=hid hE
   have dq:decide ((q2:Int)<(s.size:Int))=true:=decide_eq_true (by omega)
   clear hE
   go_enter Tryz.func50,Tryz.ntmps50
   go_wp2_with (first
    | (go_at_call 92;refine (hs2 w2 u hr2 hb2 hva2).mono ?_;rintro e w3 ⟨rfl,hr3,hb3,hva3⟩;have HR3:=hid hr3;obtain ⟨g1,g2,g3⟩:=hr3)
    | (go_at_call 92;refine hs1.mono ?_;rintro e w1 ⟨rfl,hr1,hb1,hq1,hz1⟩)
    | (go_at_call 93;refine (hval2 w1 hr1 hq1 hb1 hz1).mono ?_;rintro e w2 ⟨u,rfl,hva2,hb2,hr2⟩)
    | (go_at_call 94;refine (qR s w.heap.size q2 w3 HR3.out).mono ?_;rintro e w4 ⟨rfl,rfl⟩))
   go_ret2
   refine jL.of ?_ HE.out
   exact ⟨rfl,hb3⟩
  ·rw [if_neg (by rw [Ref.zg];exact c)] at hE
   have HE:=hid hE
   have dq:decide ((q2:Int)<(s.size:Int))=false:=decide_eq_false (by omega)
   clear hE
   go_enter Tryz.func50,Tryz.ntmps50
   go_wp2_with (first
    | (go_at_call 92;refine (hs2 w2 u hr2 hb2 hva2).mono ?_;rintro e w3 ⟨rfl,hr3,hb3,hva3⟩;have HR3:=hid hr3;obtain ⟨g1,g2,g3⟩:=hr3)
    | (go_at_call 92;refine hs1.mono ?_;rintro e w1 ⟨rfl,hr1,hb1,hq1,hz1⟩)
    | (go_at_call 93;refine (hval2 w1 hr1 hq1 hb1 hz1).mono ?_;rintro e w2 ⟨u,rfl,hva2,hb2,hr2⟩))
   go_ret2
   refine jL.of ?_ HE.out
   exact ⟨u,rfl,hva3,hb3⟩
theorem zhz (s:ByteArray) (w:World) (EL:Value) (hEL:w.cell? ⟨0,0,none⟩=some EL) (hs:4000<s.size) :
  Calls Tryz.prog 50 #[.string s] w fun e w'=>e = .returned (.tuple #[.nilIface,EL])∧Below w.heap.size w w':=by
 have dl:decide ((4000:Int)<(s.size:Int))=true:=decide_eq_true (by omega)
 go_enter Tryz.func50,Tryz.ntmps50
 go_wp2_with fail
 go_quiet (fail)
 go_wp2
 go_ret2
 exact ⟨rfl,by have h:=zJ w none nq;exact ⟨h.os,h.tape,h.output,h.size,fun k hk=>h.block k hk (by simp)⟩⟩
end Go.Proofs.YtdakgnaojakldaaGreatDoor
