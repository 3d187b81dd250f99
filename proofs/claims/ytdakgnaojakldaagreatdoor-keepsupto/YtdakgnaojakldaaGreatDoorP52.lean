/- P -/
import Derived.Test.YtdakgnaojakldaaGreatDoorP51
set_option maxRecDepth 100000
set_option maxHeartbeats 4000000
namespace Go.Proofs.YtdakgnaojakldaaGreatDoor
open Go.RowKit
theorem za2 (w0:World) (L:Nat→Nat) (w:World) (yb:Nat) (psv bkv:Value) (ps:List yZ) (m:Nat) (h:xw w0 L w yb psv bkv ps m) (hag:xK ps) (hps:0<ps.length) (hpl:ps.length≤100000000) (a l:Int) (name text who act on:ByteArray) (ma:Option Addr) (mn mc:Nat) (hA:I64 a) (hs:name.size≤maxLen) :
  Calls Tryz.prog 37 #[.pointer (some ⟨yb,0,none⟩),J9 3 a l name text who act on ma mn mc] w (Zb w0 L w yb ps.length m):=by
 unfold J9
 obtain ⟨W1,hW1⟩:∃W,w.alloc (.cells #[.int .i64 3, .int .i64 a, .int .i64 l, .string name, .string text, .string who, .string act, .string on, .slice ma mn mc] 91)=W:=⟨_,rfl⟩
 have b1:Below w.heap.size w W1:=by rw [← hW1];exact (Below.refl _ w).alloc (Nat.le_refl _) _
 have hbx:W1.heap[w.heap.size]?=some (.cells #[.int .i64 3, .int .i64 a, .int .i64 l, .string name, .string text, .string who, .string act, .string on, .slice ma mn mc] 91):=by rw [← hW1];exact heap_alloc_new w _
 have h1:=h.below b1
 obtain ⟨g,pc,p,rfl,hlt,hp,hc0,hco,hcc,hc1⟩:=h1.pick a hps
 have k0:=(cells_of_block hbx 0).1
 have k1:=(cells_of_block hbx 1).1
 simp at k0 k1
 have cp:=fun W=>Ku a ps.length W hA hps (by omega)
 obtain ⟨n,hn⟩:∃x,ps.length=x:=⟨_,rfl⟩
 obtain ⟨i,hi⟩:∃x,Kp.Z5 a ps.length=x:=⟨_,rfl⟩
 simp only [hi] at hp hco hcc hlt cp
 have hbase:=fun b (hb:L b≠0)=>(h.base b hb).2
 have lob:=(h.off i p hp).2
 have lcb:=(h.ref i p hp).2.1
 have llv:=(h.ref i p hp).2.2
 have ob1:p.ob<w.heap.size:=hbase _ (by omega)
 have cb1:p.cb<w.heap.size:=hbase _ (by omega)
 have lv1:∀g,p.lv.ownBlock=some g→g<w.heap.size:=fun g hg=>hbase _ (by have:=llv g hg;omega)
 have HPF:=hid (Qr h hag hp)
 simp only [hn] at hlt hps hpl hc0 cp ⊢
 have CP:=hid cp
 have HN:=hid hn
 have HP:=hid hp
 have H1:=hid h1
 have HBX:=hid hbx
 have HAG:=hid hag
 have HW1:=hid hW1
 have HB1:=hid b1
 have HLV:=hid lv1
 have HBS:=hid hbase
 have i0:(0:Int)≤(i:Int):=Int.natCast_nonneg _
 have i1:(i:Int)<(n:Int):=by omega
 have hzn:((n:Int)==0)=false:=by simp;omega
 clear cp hn hi hp h1 hbx hag hW1 b1 h lv1 hbase lob lcb llv
 go_enter Tryz.func37,Tryz.ntmps37
 go_upto_region 1 with fail
 rw [HW1.out]
 clear HW1
 go_upto_region 16 with fail
 go_cut [6] (fun v6 wc=>v6 = .pointer (some ⟨W1.heap.size,0,none⟩)∧wc=(W1.alloc (.cells #[.pointer (some ⟨p.ob,0,none⟩), .pointer (some ⟨p.cb,0,none⟩)] 175)).drew)
 case first=>
  go_region_held3 (fun w'=>w'.cell? ⟨yb,0,none⟩=some (.slice (some ⟨g,0,none⟩) n pc)∧w'.cell? ⟨w.heap.size,1,none⟩=some (.int .i64 a)∧w'.cell? ⟨g,i*2,none⟩=some (.pointer (some ⟨p.ob,0,none⟩))∧w'.cell? ⟨g,i*2+1,none⟩=some (.pointer (some ⟨p.cb,0,none⟩))) (go_keep) (first|(go_at_call 68;refine (CP.out _).mono ?_;rintro e w3 ⟨rfl,e3⟩;rw [e3];clear e3))
  all_goals
   go_wp2_with fail
   go_meet
   case rel=>exact ⟨rfl,rfl⟩
 case rest=>
  obtain ⟨rfl,hwc⟩:=hcut
  have b2:Below W1.heap.size W1 wc:=by rw [hwc];exact ((Below.refl _ W1).alloc (Nat.le_refl _) _).drew
  have hpr:wc.heap[W1.heap.size]?=some (.cells #[.pointer (some ⟨p.ob,0,none⟩), .pointer (some ⟨p.cb,0,none⟩)] 175):=by rw [hwc];exact heap_alloc_new W1 _
  clear hwc CP hc0 hco hcc hc1 k0 k1
  have HWc:=hid (H1.out.below b2)
  have hbx2:=(b2.block _ (lt_of_block HBX.out)).trans HBX.out
  have zw1:w.heap.size<W1.heap.size:=lt_of_block HBX.out
  have zwc:W1.heap.size<wc.heap.size:=lt_of_block hpr
  have HSW:Hid (YS L L w wc):=hid ((YS.of HB1.out).trans (YS.of b2))
  have HM2:Hid (∀b,Lm L b→b<w.heap.size):=hid HBS.out
  have p0:=(cells_of_block hpr 0).1
  have k0:=(cells_of_block hbx2 0).1
  have k2:=(cells_of_block hbx2 2).1
  have k3:=(cells_of_block hbx2 3).1
  have k4:=(cells_of_block hbx2 4).1
  simp at p0 k0 k2 k3 k4
  have HPR:=hid hpr
  have HX2:=hid hbx2
  clear hpr hbx2 b2
  have cput:=zl9 p.ob p.st l name (Lm L) wc (HWc.out.off i p HP.out).1 (fun b hb=>Nat.lt_trans (HM2.out b hb) (by omega)) hs
  have cpr:=fun (W:World) (hz:wc.heap.size≤W.heap.size) (hr:yM (Lm L) W p.cb p.lv p.ks)=>zla p.cb p.lv p.ks l name (Lm L) W hr (by have:=HPF.out.1;omega) hs (fun b hb=>Nat.lt_of_lt_of_le (Nat.lt_trans (HM2.out b hb) (by omega)) hz)
  have hsm:=fun (W W':World) (e:Ending) (h:JA p.ks l name (Lm L) p.cb p.lv W e W')=>ziF HPF.out.2.2.2 h
  obtain ⟨E,hEA⟩:∃x,UY p.st l name=x:=⟨_,rfl⟩
  rw [hEA] at cput
  simp only [hEA] at hsm
  have d1:(E==E)=true:=by simp
  have CPUT:=hid cput
  have CPR:=hid cpr
  have HSM:=hid hsm
  clear cput cpr hsm hEA
  have HPS:=hid (List.getElem?_set_self (l:=ps) (a:={ p with st:=zac p.st l name }) (List.getElem?_eq_some_iff.1 HP.out).1)
  go_wp2_with (first
   | (go_at_call 29;refine CPUT.out.mono ?_;rintro e w4 ⟨rfl,t4,o4⟩;have P4:=hid (HWc.out.offSet HP.out t4 o4);have hp4:=(t4.block _ (lt_of_block HPR.out) (by omega)).trans HPR.out;have hx4:=(t4.block _ (lt_of_block HX2.out) (by omega)).trans HX2.out;have r1:=(cells_of_block hp4 1).1;have r2:=(cells_of_block hx4 2).1;have r3:=(cells_of_block hx4 3).1;simp at r1 r2 r3;have z4:=t4.size;clear t4 o4 hp4 hx4)
   | (go_at_call 70;refine (CPR.out w4 z4 (P4.out.2.ref i _ HPS.out).1).mono ?_;rintro e w5 he;obtain ⟨v5,ks5,rfl,t5,r5,o5,a5⟩:=HSM.out _ _ _ he;obtain ⟨L5,s5,q5⟩:=P4.out.2.refSet HPS.out t5 r5 o5;have S5:=hid s5;have Q5:=hid q5;have A5:=hid a5;clear he t5 r5 o5 s5 q5 a5))
  go_ret
  have hq:=Q5.out
  rw [List.set_set] at hq
  exact ⟨L5,_,_,_,m,rfl,(HSW.out.trans P4.out.1).trans S5.out,hq,HAG.out.set i A5.out,by rw [List.length_set];exact Nat.le_of_eq HN.out.symm,by rw [List.length_set,HN.out];omega,by omega,by rw [List.length_set,HN.out];exact hps⟩
theorem zix (w0:World) (L:Nat→Nat) (w:World) (yb:Nat) (psv bkv:Value) (ps:List yZ) (m:Nat) (h:xw w0 L w yb psv bkv ps m) (hag:xK ps) (hps:0<ps.length) (hpl:ps.length≤100000000) (a l:Int) (name text who act on:ByteArray) (ma:Option Addr) (mn mc:Nat) (hA:I64 a) (hs:name.size≤maxLen) :
  Calls Tryz.prog 37 #[.pointer (some ⟨yb,0,none⟩),J9 4 a l name text who act on ma mn mc] w (Zb w0 L w yb ps.length m):=by
 unfold J9
 obtain ⟨W1,hW1⟩:∃W,w.alloc (.cells #[.int .i64 4, .int .i64 a, .int .i64 l, .string name, .string text, .string who, .string act, .string on, .slice ma mn mc] 91)=W:=⟨_,rfl⟩
 have b1:Below w.heap.size w W1:=by rw [← hW1];exact (Below.refl _ w).alloc (Nat.le_refl _) _
 have hbx:W1.heap[w.heap.size]?=some (.cells #[.int .i64 4, .int .i64 a, .int .i64 l, .string name, .string text, .string who, .string act, .string on, .slice ma mn mc] 91):=by rw [← hW1];exact heap_alloc_new w _
 have h1:=h.below b1
 obtain ⟨g,pc,p,rfl,hlt,hp,hc0,hco,hcc,hc1⟩:=h1.pick a hps
 have k0:=(cells_of_block hbx 0).1
 have k1:=(cells_of_block hbx 1).1
 simp at k0 k1
 have cp:=fun W=>Ku a ps.length W hA hps (by omega)
 obtain ⟨n,hn⟩:∃x,ps.length=x:=⟨_,rfl⟩
 obtain ⟨i,hi⟩:∃x,Kp.Z5 a ps.length=x:=⟨_,rfl⟩
 simp only [hi] at hp hco hcc hlt cp
 have hbase:=fun b (hb:L b≠0)=>(h.base b hb).2
 have lob:=(h.off i p hp).2
 have lcb:=(h.ref i p hp).2.1
 have llv:=(h.ref i p hp).2.2
 have ob1:p.ob<w.heap.size:=hbase _ (by omega)
 have cb1:p.cb<w.heap.size:=hbase _ (by omega)
 have lv1:∀g,p.lv.ownBlock=some g→g<w.heap.size:=fun g hg=>hbase _ (by have:=llv g hg;omega)
 have HPF:=hid (Qr h hag hp)
 simp only [hn] at hlt hps hpl hc0 cp ⊢
 have CP:=hid cp
 have HN:=hid hn
 have HP:=hid hp
 have H1:=hid h1
 have HBX:=hid hbx
 have HAG:=hid hag
 have HW1:=hid hW1
 have HB1:=hid b1
 have HLV:=hid lv1
 have HBS:=hid hbase
 have i0:(0:Int)≤(i:Int):=Int.natCast_nonneg _
 have i1:(i:Int)<(n:Int):=by omega
 have hzn:((n:Int)==0)=false:=by simp;omega
 clear cp hn hi hp h1 hbx hag hW1 b1 h lv1 hbase lob lcb llv
 go_enter Tryz.func37,Tryz.ntmps37
 go_upto_region 1 with fail
 rw [HW1.out]
 clear HW1
 go_upto_region 16 with fail
 go_cut [6] (fun v6 wc=>v6 = .pointer (some ⟨W1.heap.size,0,none⟩)∧wc=(W1.alloc (.cells #[.pointer (some ⟨p.ob,0,none⟩), .pointer (some ⟨p.cb,0,none⟩)] 175)).drew)
 case first=>
  go_region_held3 (fun w'=>w'.cell? ⟨yb,0,none⟩=some (.slice (some ⟨g,0,none⟩) n pc)∧w'.cell? ⟨w.heap.size,1,none⟩=some (.int .i64 a)∧w'.cell? ⟨g,i*2,none⟩=some (.pointer (some ⟨p.ob,0,none⟩))∧w'.cell? ⟨g,i*2+1,none⟩=some (.pointer (some ⟨p.cb,0,none⟩))) (go_keep) (first|(go_at_call 68;refine (CP.out _).mono ?_;rintro e w3 ⟨rfl,e3⟩;rw [e3];clear e3))
  all_goals
   go_wp2_with fail
   go_meet
   case rel=>exact ⟨rfl,rfl⟩
 case rest=>
  obtain ⟨rfl,hwc⟩:=hcut
  have b2:Below W1.heap.size W1 wc:=by rw [hwc];exact ((Below.refl _ W1).alloc (Nat.le_refl _) _).drew
  have hpr:wc.heap[W1.heap.size]?=some (.cells #[.pointer (some ⟨p.ob,0,none⟩), .pointer (some ⟨p.cb,0,none⟩)] 175):=by rw [hwc];exact heap_alloc_new W1 _
  clear hwc CP hc0 hco hcc hc1 k0 k1
  have HWc:=hid (H1.out.below b2)
  have hbx2:=(b2.block _ (lt_of_block HBX.out)).trans HBX.out
  have zw1:w.heap.size<W1.heap.size:=lt_of_block HBX.out
  have zwc:W1.heap.size<wc.heap.size:=lt_of_block hpr
  have HSW:Hid (YS L L w wc):=hid ((YS.of HB1.out).trans (YS.of b2))
  have HM2:Hid (∀b,Lm L b→b<w.heap.size):=hid HBS.out
  have p0:=(cells_of_block hpr 0).1
  have k0:=(cells_of_block hbx2 0).1
  have k2:=(cells_of_block hbx2 2).1
  have k3:=(cells_of_block hbx2 3).1
  have k4:=(cells_of_block hbx2 4).1
  simp at p0 k0 k2 k3 k4
  have HPR:=hid hpr
  have HX2:=hid hbx2
  clear hpr hbx2 b2
  have cput:=zmi p.ob p.st l name (Lm L) wc (HWc.out.off i p HP.out).1 hs
  have cpr:=fun (W:World) (hr:yM (Lm L) W p.cb p.lv p.ks)=>zlw p.cb p.lv p.ks l name (Lm L) W hr (by have:=HPF.out.1;unfold maxLen;omega) hs HPF.out.2.2.1
  have hsm:=fun (W W':World) (e:Ending) (h:Jt p.ks l name W e W')=>zht HPF.out.2.2.2 h
  obtain ⟨E,hEA⟩:∃x,zaa p.st l name=x:=⟨_,rfl⟩
  obtain ⟨Z,hZA⟩:∃x,Kr p.st l name=x:=⟨_,rfl⟩
  rw [hEA,hZA] at cput
  simp only [hEA,hZA] at hsm
  have d1:(E==E)=true:=by simp
  have d2:(Z.toList==Z.toList)=true:=by simp
  have CPUT:=hid cput
  have CPR:=hid cpr
  have HSM:=hid hsm
  clear cput cpr hsm hEA hZA
  go_wp2_with (first
   | (go_at_call 23;refine CPUT.out.mono ?_;rintro e w4 ⟨rfl,t4⟩;have B4:=hid t4;have hp4:=(t4.block _ (lt_of_block HPR.out)).trans HPR.out;have hx4:=(t4.block _ (lt_of_block HX2.out)).trans HX2.out;have r1:=(cells_of_block hp4 1).1;have r2:=(cells_of_block hx4 2).1;have r3:=(cells_of_block hx4 3).1;simp at r1 r2 r3;clear t4 hp4 hx4)
   | (go_at_call 71;refine (CPR.out w4 ((HWc.out.below B4.out).ref i _ HP.out).1).mono ?_;rintro e w5 he;obtain ⟨rfl,t5⟩:=HSM.out _ _ _ he;have B5:=hid t5;clear he t5))
  go_ret
  exact ⟨L,_,_,_,m,rfl,(HSW.out.trans (YS.of B4.out)).trans (YS.of B5.out),(HWc.out.below B4.out).below B5.out,HAG.out,Nat.le_of_eq HN.out.symm,by rw [HN.out];omega,by omega,by rw [HN.out];exact hps⟩
theorem zf1 (w0:World) (L:Nat→Nat) (w:World) (yb:Nat) (psv bkv:Value) (ps:List yZ) (m:Nat) (h:xw w0 L w yb psv bkv ps m) (hag:xK ps) (hps:0<ps.length) (hpl:ps.length≤100000000) (hm:m≤100000000) (a l:Int) (name text who act on:ByteArray) (ma:Option Addr) (mn mc:Nat) (hA:I64 a) :
  Calls Tryz.prog 37 #[.pointer (some ⟨yb,0,none⟩),J9 5 a l name text who act on ma mn mc] w (Zb w0 L w yb ps.length m):=by
 unfold J9
 obtain ⟨W1,hW1⟩:∃W,w.alloc (.cells #[.int .i64 5, .int .i64 a, .int .i64 l, .string name, .string text, .string who, .string act, .string on, .slice ma mn mc] 91)=W:=⟨_,rfl⟩
 have b1:Below w.heap.size w W1:=by rw [← hW1];exact (Below.refl _ w).alloc (Nat.le_refl _) _
 have hbx:W1.heap[w.heap.size]?=some (.cells #[.int .i64 5, .int .i64 a, .int .i64 l, .string name, .string text, .string who, .string act, .string on, .slice ma mn mc] 91):=by rw [← hW1];exact heap_alloc_new w _
 have h1:=h.below b1
 obtain ⟨g,pc,p,rfl,hlt,hp,hc0,hco,hcc,hc1⟩:=h1.pick a hps
 have k0:=(cells_of_block hbx 0).1
 have k1:=(cells_of_block hbx 1).1
 simp at k0 k1
 have cp:=fun W=>Ku a ps.length W hA hps (by omega)
 obtain ⟨n,hn⟩:∃x,ps.length=x:=⟨_,rfl⟩
 obtain ⟨i,hi⟩:∃x,Kp.Z5 a ps.length=x:=⟨_,rfl⟩
 simp only [hi] at hp hco hcc hlt cp
 have hbase:=fun b (hb:L b≠0)=>(h.base b hb).2
 have lob:=(h.off i p hp).2
 have lcb:=(h.ref i p hp).2.1
 have llv:=(h.ref i p hp).2.2
 have ob1:p.ob<w.heap.size:=hbase _ (by omega)
 have cb1:p.cb<w.heap.size:=hbase _ (by omega)
 have lv1:∀g,p.lv.ownBlock=some g→g<w.heap.size:=fun g hg=>hbase _ (by have:=llv g hg;omega)
 have HPF:=hid (Qr h hag hp)
 simp only [hn] at hlt hps hpl hc0 cp ⊢
 have CP:=hid cp
 have HN:=hid hn
 have HP:=hid hp
 have H1:=hid h1
 have HBX:=hid hbx
 have HAG:=hid hag
 have HW1:=hid hW1
 have HB1:=hid b1
 have HLV:=hid lv1
 have HBS:=hid hbase
 have i0:(0:Int)≤(i:Int):=Int.natCast_nonneg _
 have i1:(i:Int)<(n:Int):=by omega
 have hzn:((n:Int)==0)=false:=by simp;omega
 clear cp hn hi hp h1 hbx hag hW1 b1 h lv1 hbase lob lcb llv
 go_enter Tryz.func37,Tryz.ntmps37
 go_upto_region 1 with fail
 rw [HW1.out]
 clear HW1
 go_upto_region 16 with fail
 go_cut [6] (fun v6 wc=>v6 = .pointer (some ⟨W1.heap.size,0,none⟩)∧wc=(W1.alloc (.cells #[.pointer (some ⟨p.ob,0,none⟩), .pointer (some ⟨p.cb,0,none⟩)] 175)).drew)
 case first=>
  go_region_held3 (fun w'=>w'.cell? ⟨yb,0,none⟩=some (.slice (some ⟨g,0,none⟩) n pc)∧w'.cell? ⟨w.heap.size,1,none⟩=some (.int .i64 a)∧w'.cell? ⟨g,i*2,none⟩=some (.pointer (some ⟨p.ob,0,none⟩))∧w'.cell? ⟨g,i*2+1,none⟩=some (.pointer (some ⟨p.cb,0,none⟩))) (go_keep) (first|(go_at_call 68;refine (CP.out _).mono ?_;rintro e w3 ⟨rfl,e3⟩;rw [e3];clear e3))
  all_goals
   go_wp2_with fail
   go_meet
   case rel=>exact ⟨rfl,rfl⟩
 case rest=>
  obtain ⟨rfl,hwc⟩:=hcut
  have b2:Below W1.heap.size W1 wc:=by rw [hwc];exact ((Below.refl _ W1).alloc (Nat.le_refl _) _).drew
  have hpr:wc.heap[W1.heap.size]?=some (.cells #[.pointer (some ⟨p.ob,0,none⟩), .pointer (some ⟨p.cb,0,none⟩)] 175):=by rw [hwc];exact heap_alloc_new W1 _
  clear hwc CP hc0 hco hcc hc1 k0 k1
  have HWc:=hid (H1.out.below b2)
  have hbx2:=(b2.block _ (lt_of_block HBX.out)).trans HBX.out
  have zw1:w.heap.size<W1.heap.size:=lt_of_block HBX.out
  have zwc:W1.heap.size<wc.heap.size:=lt_of_block hpr
  have HSW:Hid (YS L L w wc):=hid ((YS.of HB1.out).trans (YS.of b2))
  have HM2:Hid (∀b,Lm L b→b<w.heap.size):=hid HBS.out
  have p0:=(cells_of_block hpr 0).1
  have k0:=(cells_of_block hbx2 0).1
  have k2:=(cells_of_block hbx2 2).1
  have k3:=(cells_of_block hbx2 3).1
  have k4:=(cells_of_block hbx2 4).1
  simp at p0 k0 k2 k3 k4
  have HPR:=hid hpr
  have HX2:=hid hbx2
  clear hpr hbx2 b2
  have cput:=zkT p.ob p.st l (Lm L) wc (HWc.out.off i p HP.out).1
  have cpr:=fun (W:World) (hz:wc.heap.size≤W.heap.size) (hr:yM (Lm L) W p.cb p.lv p.ks)=>zj3 p.cb p.lv p.ks l (Lm L) W hr (by have:=HPF.out.1;omega) HPF.out.2.1 (fun b hb=>Nat.lt_of_lt_of_le (Nat.lt_trans (HM2.out b hb) (by omega)) hz)
  have hsm:=fun (W W':World) (e:Ending) (h:XY p.ks l W e W')=>zfN HPF.out.2.2.2 h
  have hfew:=zg8 (HWc.out.off i p HP.out).1.good l
  obtain ⟨E,hEA⟩:∃x,Xi l=x:=⟨_,rfl⟩
  obtain ⟨Z,hZA⟩:∃x,YT p.st l=x:=⟨_,rfl⟩
  rw [hEA,hZA] at cput
  rw [hZA] at hfew
  simp only [hEA,hZA] at hsm
  have d1:(E==E)=true:=by simp
  have CPUT:=hid cput
  have CPR:=hid cpr
  have HSM:=hid hsm
  clear cput cpr hsm hEA hZA
  go_wp2_with (first
   | (go_at_call 22;refine CPUT.out.mono ?_;rintro e w4 ⟨lv4,rfl,own4,t4⟩;obtain ⟨la,lc,e4⟩:=zq own4;subst e4;have O4:=hid own4;have B4:=hid t4;have hp4:=(t4.block _ (lt_of_block HPR.out)).trans HPR.out;have hx4:=(t4.block _ (lt_of_block HX2.out)).trans HX2.out;have r1:=(cells_of_block hp4 1).1;have r2:=(cells_of_block hx4 2).1;simp at r1 r2;have z4:=t4.size;clear t4 hp4 hx4 own4)
   | (go_at_call 72;refine (CPR.out w4 z4 ((HWc.out.below B4.out).ref i _ HP.out).1).mono ?_;rintro e w5 he;obtain ⟨lv5,rfl,own5,t5⟩:=HSM.out _ _ _ he;obtain ⟨la5,lc5,e5⟩:=zq own5;subst e5;have O5:=hid own5;have B5:=hid t5;clear he t5 own5)
   | (go_at_call 73;refine (zcg Z _ _ _ _ w5 (ownsRow_below O4.out B5.out) O5.out (by omega)).mono ?_;rintro e w6 ⟨rfl,t6⟩;have B6:=hid t6;have z5:=B5.out.size;clear t6)
   | (go_at_call 74;refine (zlH (Lm L) wc w6 yb m _ bkv _ Z (fun b hb=>Nat.lt_trans (HM2.out b hb) (by omega)) (by unfold Lm;rw [HWc.out.lyb];omega) HWc.out.play HWc.out.book (fun g hg=>⟨by unfold Lm;rw [HWc.out.lbk g hg];omega,fun e=>by have q1:=HWc.out.lbk g hg;rw [e,HWc.out.lyb] at q1;omega⟩) ((B4.out.trans (B5.out.mono z4)).trans (B6.out.mono (by omega))) (ownsRow_below (ownsRow_below O4.out B5.out) B6.out) hfew hm).mono ?_;rintro e w7 he;have HT:=hid he;obtain ⟨bk7,r7,rfl,_⟩:=he))
  go_ret
  obtain ⟨L7,bk8,s7,q7⟩:=HWc.out.bookAdd HT.out
  exact ⟨L7,_,_,_,m+1,rfl,HSW.out.trans s7,q7,HAG.out,Nat.le_of_eq HN.out.symm,by rw [HN.out];omega,by omega,by rw [HN.out];exact hps⟩
theorem zhF:(Tryz.prog.info? 175).map (fun i=>(i.zero,i.size,i.bytes))=some (some (.agg #[.pointer none, .pointer none]),2,16):=by kernel_rfl
theorem VV {w:World} {base:Nat} {e:TypeId} {size:Nat} {v:Value} {n:Nat} {xs:List Value} (h:w.ownsRow base e size v n xs):∃a c,v = .slice a n c:=by
 rcases h.2 with ⟨e,h0⟩|⟨g,cap,cur,e,_⟩
 ·exact ⟨none,0,by rw [h0];exact e⟩
 ·exact ⟨_,_,e⟩
theorem zeu (w0:World) (L:Nat→Nat) (w:World) (yb:Nat) (psv bkv:Value) (ps:List yZ) (m:Nat) (h:xw w0 L w yb psv bkv ps m) (hag:xK ps) (hpl:ps.length≤100000000) (a l:Int) (name text who act on:ByteArray) (ma:Option Addr) (mn mc:Nat) :
  Calls Tryz.prog 37 #[.pointer (some ⟨yb,0,none⟩),J9 1 a l name text who act on ma mn mc] w (Zb w0 L w yb ps.length m):=by
 unfold J9
 obtain ⟨j1,hj,hy0,hy1,hy2⟩:=info_parts zhF
 obtain ⟨W1,hW1⟩:∃W,w.alloc (.cells #[.int .i64 1, .int .i64 a, .int .i64 l, .string name, .string text, .string who, .string act, .string on, .slice ma mn mc] 91)=W:=⟨_,rfl⟩
 have b1:Below w.heap.size w W1:=by rw [← hW1];exact (Below.refl _ w).alloc (Nat.le_refl _) _
 have hbx:W1.heap[w.heap.size]?=some (.cells #[.int .i64 1, .int .i64 a, .int .i64 l, .string name, .string text, .string who, .string act, .string on, .slice ma mn mc] 91):=by rw [← hW1];exact heap_alloc_new w _
 have h1:=h.below b1
 have k0:=(cells_of_block hbx 0).1
 simp at k0
 obtain ⟨pa,pc,rfl⟩:=VV h.row
 have cn:=zmD (fun b=>b=W1.heap.size) W1 rfl
 obtain ⟨n,hn⟩:∃x,ps.length=x:=⟨_,rfl⟩
 obtain ⟨xs,hxs⟩:∃x,uz ps=x:=⟨_,rfl⟩
 have hrow:=h1.row
 have hplay:=h1.play
 have hneq:∀g,(Value.slice pa ps.length pc).ownBlock=some g→g≠yb:=fun g hg e=>by
  have q1:=h1.lps g hg
  rw [e,h1.lyb] at q1
  omega
 rw [hn] at hrow hneq hplay
 rw [hxs] at hrow
 have HXS:=hid hxs
 have HN:=hid hn
 have H:=hid h
 have HB1:=hid b1
 have HAG:=hid hag
 have HROW:=hid hrow
 have HPLAY:=hid hplay
 have HNE:=hid hneq
 have CN:=hid cn
 have HW1:=hid hW1
 have hybl:yb<W1.heap.size:=lt_of_block hplay
 clear hxs hn h b1 hag hrow cn hW1 h1 hbx hneq hplay
 simp only [HN.out] at hpl ⊢
 go_enter Tryz.func37,Tryz.ntmps37
 go_upto_region 1 with fail
 rw [HW1.out]
 clear HW1
 go_upto_region 6 with (go_at_call 21;refine CN.out.mono ?_;rintro e w2 ⟨rfl,b2,o2⟩;have B2:=hid b2;have O2:=hid o2;have hp2:=(b2.block yb hybl).trans HPLAY.out;have y0:=(cells_of_block hp2 0).1;simp at y0;have HP2:=hid hp2;obtain ⟨vs2,hv2,_⟩:=o2.row;have zo:=lt_of_block hv2;clear b2 o2 hp2 hv2)
 have y1:=fun (O1 O2:Obj)=>(((Below.refl _ w2).alloc (Nat.le_refl _) O1).alloc (by simp) O2)
 have HROW2:=hid (ownsRow_below HROW.out B2.out)
 have hz2:=B2.out.size
 go_wp2_with (at_builtin;refine wpList_append_own_at _ rfl _ _ 84 rfl 0 175 j1 (.agg #[.pointer none, .pointer none]) 2 16 Tryz.underlying84 hj hy0 hy1 hy2 rfl (by decide) (.slice pa n pc) n xs rfl (World.ownsRow.alloc (World.ownsRow.alloc HROW2.out _) _) ⟨w2.heap.size+1,0,none⟩ 1 1 [.pointer (some ⟨W1.heap.size,0,none⟩), .pointer (some ⟨w2.heap.size,0,none⟩)] rfl rfl ?_ ?_ ?_ ?_ ?_ ?_)
 ·rw [show w2.heap.size+1=(w2.alloc (.cells #[.slice none 0 0] 173)).heap.size by simp]
  exact qM _ _ _
 ·simp [Value.oneCell']
 ·unfold maxLen;omega
 ·omega
 ·exact Nat.zero_le _
 ·intro v5 w5 own5 grow5 _ at5
  obtain ⟨a5,c5,e5⟩:=VV own5
  subst e5
  have YA:=hid (y1 (.cells #[.slice none 0 0] 173) (.cells #[.pointer (some ⟨W1.heap.size,0,none⟩), .pointer (some ⟨w2.heap.size,0,none⟩)] 175))
  have hc5:=(grow5.block yb (by simp;omega) (fun e=>HNE.out yb e.symm rfl)).trans ((YA.out.block yb (by omega)).trans HP2.out)
  have q5:=(cells_of_block hc5 0).1
  have f5:=(cells_of_block hc5 0).2
  simp at q5
  have OWN5:=hid own5
  have GROW5:=hid grow5
  have AT5:=hid at5
  have HC5:=hid hc5
  clear own5 grow5 at5 hc5 y1
  go_wp2_with fail
  go_ret
  have hpw:∀g,(Value.slice pa n pc).ownBlock=some g→g<w.heap.size:=fun g hg=>by
   have:=H.out.lps g (by rw [HN.out];exact hg)
   exact (H.out.base g (by omega)).2
  have z1:=HB1.out.size
  have hout:∀b,w.heap.size≤b→b<w2.heap.size+1+1→b≠yb→(w5.setCell ⟨yb,0,none⟩ (.slice a5 (n+1) c5)).heap[b]?=((w2.alloc (.cells #[.slice none 0 0] 173)).alloc (.cells #[.pointer (some ⟨W1.heap.size,0,none⟩), .pointer (some ⟨w2.heap.size,0,none⟩)] 175)).heap[b]?:=fun b h1 h2 h3=>
   (Below.heap_setCell _ _ _ _ h3).trans (GROW5.out.block b (by simpa using h2) (fun e=>by have:=hpw b e.symm;omega))
  have hybw:yb<w.heap.size:=lt_of_block H.out.play
  have hat:∀g,(Value.slice a5 (n+1) c5).ownBlock=some g→(Value.slice pa n pc).ownBlock=some g∨g=w2.heap.size+1+1:=fun g hg=>by
   rcases AT5.out with e|e
   ·exact .inl (by rw [← e];exact hg)
   ·rw [hg] at e
    injection e with e
    exact .inr e
  have hT:zF (fun b=>b=yb∨(Value.slice pa n pc).ownBlock=some b) w (w5.setCell ⟨yb,0,none⟩ (.slice a5 (n+1) c5)):=
   ((((zF.of HB1.out).trans (zF.of B2.out)).trans (zF.of YA.out)).trans ⟨GROW5.out.os,GROW5.out.tape,GROW5.out.output,GROW5.out.size,fun k hk hne=>GROW5.out.block k hk (fun e=>hne (.inr e.symm))⟩).trans (zF.set w5 (.inl rfl) 0 _)
  obtain ⟨L',s',q'⟩:=H.out.pairAdd (W':=w5.setCell ⟨yb,0,none⟩ (.slice a5 (n+1) c5)) (psv' := .slice a5 (n+1) c5) (cb:=w2.heap.size) O2.out
   ((hout W1.heap.size z1 (by omega) (by omega)).trans (YA.out.block _ zo)) z1 ((hout w2.heap.size (by omega) (by omega) (by omega)).trans ((((Below.refl _ _).alloc (Nat.le_refl _) _).block w2.heap.size (by simp)).trans (heap_alloc_new w2 _))) (by omega) (by omega)
   (by rw [HN.out];exact hT) (heap_setCell_same w5 yb 0 _ _ _ HC5.out) (by
    rw [HN.out,HXS.out]
    exact ownsRow_setCell_other OWN5.out (a:=⟨yb,0,none⟩) (fun e=>by
     rcases hat yb e with e|e
     ·exact HNE.out yb e rfl
     ·omega) _) (fun g hg=>by
    rw [HN.out]
    exact (hat g hg).imp id (fun e=>⟨by omega,by omega,by omega⟩))
  exact ⟨L',_,_,_,m,rfl,s',q',HAG.out.add Agree.start,by rw [List.length_append,HN.out];omega,by rw [List.length_append,HN.out];exact Nat.le_refl _,by omega,by rw [List.length_append];exact Nat.succ_pos _⟩
end Go.Proofs.YtdakgnaojakldaaGreatDoor
