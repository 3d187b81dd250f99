/- P -/
import Derived.Test.YtdakgnaojakldaaGreatDoorP36
set_option maxRecDepth 100000
set_option maxHeartbeats 2000000
namespace Go.Proofs.YtdakgnaojakldaaGreatDoor
open Go.RowKit
attribute [local go_sem ↓] Go.wp_at_zero Go.wp_at_succ
theorem vG (w:World) (x:Int) (t:TypeId) (c:Nat):(convert 256 9 (.slice (some ⟨w.heap.size,0,none⟩) 1 c)).run Tryz.prog (w.alloc (.cells #[.int .u8 x] t)).drew = .ok (.string ⟨#[UInt8.ofNat x.toNat]⟩) (w.alloc (.cells #[.int .u8 x] t)).drew:=by
 rw [run_convert_bytes_string _ _ _ _ _ _ _ Tryz.underlying256 Tryz.underlying5 Tryz.underlying9]
 rw [run_bytesToString _ _ _ _ [x] (by simp [loadCells,go_sem])]
 rfl
theorem Kv (w:World) (p1 p2 p3:Addr) (v1 v2 v3:Value) (x:Int) (t:TypeId) (c:Nat):(convert 256 9 (.slice (some ⟨w.heap.size,0,none⟩) 1 c)).run Tryz.prog ((((w.setCell p1 v1).setCell p2 v2).setCell p3 v3).alloc (.cells #[.int .u8 x] t)).drew =
  .ok (.string ⟨#[UInt8.ofNat x.toNat]⟩) ((((w.setCell p1 v1).setCell p2 v2).setCell p3 v3).alloc (.cells #[.int .u8 x] t)).drew:=by
 have h:=vG (((w.setCell p1 v1).setCell p2 v2).setCell p3 v3) x t c
 have e:(((w.setCell p1 v1).setCell p2 v2).setCell p3 v3).heap.size=w.heap.size:=by simp [World.setCell]
 rw [e] at h
 exact h
theorem zaC (w:World) (p1:Addr) (v1:Value) (x:Int) (t:TypeId) (c:Nat):(convert 256 9 (.slice (some ⟨w.heap.size,0,none⟩) 1 c)).run Tryz.prog ((w.setCell p1 v1).alloc (.cells #[.int .u8 x] t)).drew =
  .ok (.string ⟨#[UInt8.ofNat x.toNat]⟩) ((w.setCell p1 v1).alloc (.cells #[.int .u8 x] t)).drew:=by
 have h:=vG (w.setCell p1 v1) x t c
 have e:(w.setCell p1 v1).heap.size=w.heap.size:=by simp [World.setCell]
 rw [e] at h
 exact h
theorem zho (m:Ref.zC) (x:Int) (base b:Nat) (ov nv:Value) (vs:List (Value×Value)) (w:World) (h:zI w base b m ov nv vs) (hs:Small m) (hno:m.named=true→m.opn≠[]) (x0:0≤x) (x1:x≤255) :
  Calls Tryz.prog 158 #[.pointer (some ⟨b,0,none⟩), .int .u8 x] w (Stepped base b (Ref.plain m x) w):=by
 obtain ⟨R,hR⟩:∃R,Ref.plain m x=R:=⟨_,rfl⟩
 rw [hR]
 unfold Ref.plain at hR
 have HB:=hid h.hb
 have lb:b<w.heap.size:=lt_of_block h.blk
 have c0:w.cell? ⟨b,0,none⟩=some (.int .i64 m.state):=(h.cell 0).1
 have f0:w.frozen? ⟨b,0,none⟩=false:=(h.cell 0).2
 have c4:w.cell? ⟨b,4,none⟩=some (.string m.got):=(h.cell 4).1
 have f4:w.frozen? ⟨b,4,none⟩=false:=(h.cell 4).2
 have hgs:=hs.got
 by_cases h34:x=34
 ·rw [if_pos h34] at hR
  subst hR
  have hxb:(x==34)=true:=by simp [h34]
  have HM:=hid h
  have HS:=hid hs
  have HNO:=hid hno
  clear h hs hno h34 c0 f0 c4 f4
  go_enter Tryz.func158,Tryz.ntmps158
  go_wp2_with fail
  refine (zfR m base b ov nv vs _ HM.out HS.out HNO.out).mono ?_
  rintro e w1 ⟨rfl,hb1,hm1⟩
  have HM1:=hid hm1
  clear hm1
  go_wp2
  go_ret
  exact ⟨rfl,hb1,HM1.out⟩
 rw [if_neg h34] at hR
 have hxb:(x==34)=false:=by simp [h34]
 by_cases h92:x=92
 ·rw [if_pos h92] at hR
  subst hR
  have hxc:(x==92)=true:=by simp [h92]
  have FIN:=hid (h.store 0 (.int .i64 10) (m':={ m with state:=10 }) rfl rfl rfl)
  clear h hs hno h34 h92
  go_enter Tryz.func158,Tryz.ntmps158
  go_wp2
  go_ret
  exact ⟨rfl,(Below.refl _ w).setCell HB.out _,fun _=>⟨_,_,_,FIN.out⟩⟩
 rw [if_neg h92] at hR
 have hxc:(x==92)=false:=by simp [h92]
 by_cases h32:x<32
 ·rw [if_pos h32] at hR
  subst hR
  clear h hs hno h34 h92
  go_enter Tryz.func158,Tryz.ntmps158
  go_wp2
  go_ret
  exact ⟨rfl,Below.refl _ w,by simp⟩
 rw [if_neg h32] at hR
 have k1:=vG
 have k3:=Kv
 obtain ⟨got,hgot⟩:∃g,m.got=g:=⟨_,rfl⟩
 rw [hgot] at c4 hgs hR
 have c4':=fun O:Obj=>cell_later ((Below.refl _ w).alloc (Nat.le_refl _) O) c4
 have f4':=fun O:Obj=>(((Below.refl _ w).alloc (Nat.le_refl _) O).frozen (p:=⟨b,4,none⟩) lb).trans f4
 have hbw:base≤w.heap.size:=Nat.le_trans HB.out (Nat.le_of_lt lb)
 by_cases h128:x<128
 ·rw [if_pos h128] at hR
  subst hR
  have FIN:=hid (h.store 4 (.string (got++Ref.one x)) (m':={ m with got:=got++Ref.one x }) rfl rfl rfl)
  clear h hs hno h34 h92 hgot
  go_enter Tryz.func158,Tryz.ntmps158
  go_wp2_with fail
  go_region
  all_goals
   go_wp2
   go_ret
   exact ⟨rfl,((((Below.refl _ w).setCell HB.out _).alloc (by simp [World.setCell];omega) _)).drew,fun _=>⟨_,_,_,(FIN.out.below ((Below.refl _ _).alloc (Nat.le_refl _) _)).drew⟩⟩
 rw [if_neg h128] at hR
 obtain ⟨n,lo,hi,hl⟩:∃n lo hi,Ref.qE x=(n,lo,hi):=⟨_,_,_,rfl⟩
 rw [hl] at hR
 have HL:=hid hl
 clear hl
 by_cases hn:n=0
 ·rw [if_pos hn] at hR
  subst hR
  have hnb:(n==0)=true:=by simp [hn]
  clear h hs hno h34 h92 hgot hn
  go_enter Tryz.func158,Tryz.ntmps158
  go_wp2_with fail
  refine (zcY x n lo hi _ x0 x1 HL.out).mono ?_
  rintro e w1 ⟨rfl,rfl⟩
  go_wp2
  go_ret
  exact ⟨rfl,Below.refl _ _,by simp⟩
 rw [if_neg hn] at hR
 subst hR
 have hnb:(n==0)=false:=by simp [hn]
 have c5:w.cell? ⟨b,5,none⟩=some (.int .i64 m.need):=(h.cell 5).1
 have f5:w.frozen? ⟨b,5,none⟩=false:=(h.cell 5).2
 have c6:w.cell? ⟨b,6,none⟩=some (.int .u8 m.low):=(h.cell 6).1
 have f6:w.frozen? ⟨b,6,none⟩=false:=(h.cell 6).2
 have c7:w.cell? ⟨b,7,none⟩=some (.int .u8 m.high):=(h.cell 7).1
 have f7:w.frozen? ⟨b,7,none⟩=false:=(h.cell 7).2
 have h3:=((h.store 5 (.int .i64 n) (m':={ m with need:=n }) rfl rfl rfl).store 6 (.int .u8 lo) (m':={ m with need:=n,low:=lo }) rfl rfl rfl).store 7 (.int .u8 hi) (m':={ m with need:=n,low:=lo,high:=hi }) rfl rfl rfl
 have FIN:=hid ((h3.store 4 (.string (got++Ref.one x)) (m':={ m with need:=n,low:=lo,high:=hi,got:=got++Ref.one x }) rfl rfl rfl).store 0 (.int .i64 9) (m':={ m with need:=n,low:=lo,high:=hi,got:=got++Ref.one x,state:=9 }) rfl rfl rfl)
 clear h hs hno h34 h92 hgot hn h3
 go_enter Tryz.func158,Tryz.ntmps158
 go_wp2_with fail
 refine (zcY x n lo hi _ x0 x1 HL.out).mono ?_
 rintro e w1 ⟨rfl,rfl⟩
 go_wp2_with fail
 go_region
 all_goals
  go_wp2
  go_ret
  exact ⟨rfl,(((((((Below.refl _ _).setCell HB.out _).setCell HB.out _).setCell HB.out _).setCell HB.out _).setCell HB.out _).alloc (by simp [World.setCell];omega) _).drew,fun _=>⟨_,_,_,(FIN.out.below ((Below.refl _ _).alloc (Nat.le_refl _) _)).drew⟩⟩
attribute [local go_sem ↓] Go.wp_at_zero Go.wp_at_succ
theorem zgi (m:Ref.zC) (x:Int) (base b:Nat) (ov nv:Value) (vs:List (Value×Value)) (w:World) (h:zI w base b m ov nv vs) (hs:Small m) :
  Calls Tryz.prog 159 #[.pointer (some ⟨b,0,none⟩), .int .u8 x] w (Stepped base b (Ref.escape m x) w):=by
 obtain ⟨R,hR⟩:∃R,Ref.escape m x=R:=⟨_,rfl⟩
 rw [hR]
 unfold Ref.escape at hR
 have HB:=hid h.hb
 have lb:b<w.heap.size:=lt_of_block h.blk
 have hbw:base≤w.heap.size:=Nat.le_trans HB.out (Nat.le_of_lt lb)
 have c0:w.cell? ⟨b,0,none⟩=some (.int .i64 m.state):=(h.cell 0).1
 have f0:w.frozen? ⟨b,0,none⟩=false:=(h.cell 0).2
 obtain ⟨got,hgot⟩:∃g,m.got=g:=⟨_,rfl⟩
 have c4:w.cell? ⟨b,4,none⟩=some (.string got):=by rw [← hgot];exact (h.cell 4).1
 have f4:w.frozen? ⟨b,4,none⟩=false:=(h.cell 4).2
 have hgs:=hs.got
 rw [hgot] at hgs hR
 have h8:=h.store 0 (.int .i64 8) (m':={ m with state:=8 }) rfl rfl rfl
 have d4:(w.setCell ⟨b,0,none⟩ (.int .i64 8)).cell? ⟨b,4,none⟩=some (.string got):=by rw [← hgot];exact (h8.cell 4).1
 have g4:(w.setCell ⟨b,0,none⟩ (.int .i64 8)).frozen? ⟨b,4,none⟩=false:=(h8.cell 4).2
 have lb8:b<(w.setCell ⟨b,0,none⟩ (.int .i64 8)).heap.size:=lt_of_block h8.blk
 have d4':=fun O:Obj=>cell_later ((Below.refl _ (w.setCell ⟨b,0,none⟩ (.int .i64 8))).alloc (Nat.le_refl _) O) d4
 have g4':=fun O:Obj=>(((Below.refl _ (w.setCell ⟨b,0,none⟩ (.int .i64 8))).alloc (Nat.le_refl _) O).frozen (p:=⟨b,4,none⟩) lb8).trans g4
 have k1:=zaC
 by_cases h1:x=34∨x=92∨x=47
 ·rw [if_pos h1] at hR
  subst hR
  have FIN:=hid (h8.store 4 (.string (got++Ref.one x)) (m':={ m with state:=8,got:=got++Ref.one x }) rfl rfl rfl)
  have hxb:(x==34)=true∨(x==34)=false∧(x==92)=true∨(x==34)=false∧(x==92)=false∧(x==47)=true:=by
   rcases h1 with e|e|e
   ·exact .inl (by simp [e])
   ·exact .inr (.inl ⟨by simp [e],by simp [e]⟩)
   ·exact .inr (.inr ⟨by simp [e],by simp [e],by simp [e]⟩)
  clear h hs h1 hgot h8
  rcases hxb with a1|⟨a1,a2⟩|⟨a1,a2,a3⟩
  all_goals
   go_enter Tryz.func159,Tryz.ntmps159
   go_wp2_with fail
   go_region
  all_goals
   go_wp2
   go_ret
   exact ⟨rfl,((((Below.refl _ _).setCell HB.out _).setCell HB.out _).alloc (by simp [World.setCell];omega) _).drew,fun _=>⟨_,_,_,(FIN.out.below ((Below.refl _ _).alloc (Nat.le_refl _) _)).drew⟩⟩
 rw [if_neg h1] at hR
 have a1:(x==34)=false:=by simp;omega
 have a2:(x==92)=false:=by simp;omega
 have a3:(x==47)=false:=by simp;omega
 by_cases h2:x=110
 ·rw [if_pos h2] at hR
  subst hR
  have a4:(x==110)=true:=by simp [h2]
  have FIN:=hid (h8.store 4 (.string (got++Ref.one 10)) (m':={ m with state:=8,got:=got++Ref.one 10 }) rfl rfl rfl)
  clear h hs h1 hgot h8 h2
  go_enter Tryz.func159,Tryz.ntmps159
  go_wp2
  go_ret
  exact ⟨rfl,((Below.refl _ _).setCell HB.out _).setCell HB.out _,fun _=>⟨_,_,_,FIN.out⟩⟩
 rw [if_neg h2] at hR
 have a4:(x==110)=false:=by simp [h2]
 by_cases h3:x=116
 ·rw [if_pos h3] at hR
  subst hR
  have a5:(x==116)=true:=by simp [h3]
  have FIN:=hid (h8.store 4 (.string (got++Ref.one 9)) (m':={ m with state:=8,got:=got++Ref.one 9 }) rfl rfl rfl)
  clear h hs h1 hgot h8 h2 h3
  go_enter Tryz.func159,Tryz.ntmps159
  go_wp2
  go_ret
  exact ⟨rfl,((Below.refl _ _).setCell HB.out _).setCell HB.out _,fun _=>⟨_,_,_,FIN.out⟩⟩
 rw [if_neg h3] at hR
 have a5:(x==116)=false:=by simp [h3]
 by_cases h4:x=117
 ·rw [if_pos h4] at hR
  subst hR
  have a6:(x==117)=true:=by simp [h4]
  have c5:w.cell? ⟨b,5,none⟩=some (.int .i64 m.need):=(h.cell 5).1
  have f5:w.frozen? ⟨b,5,none⟩=false:=(h.cell 5).2
  have c8:w.cell? ⟨b,8,none⟩=some (.int .i64 m.number):=(h.cell 8).1
  have f8:w.frozen? ⟨b,8,none⟩=false:=(h.cell 8).2
  have fin:=(((h8.store 0 (.int .i64 11) (m':={ m with state:=11 }) rfl rfl rfl).store 5 (.int .i64 4) (m':={ m with state:=11,need:=4 }) rfl rfl rfl).store 8 (.int .i64 0) (m':={ m with state:=11,need:=4,number:=0 }) rfl rfl rfl)
  rw [hgot] at fin
  have FIN:=hid fin
  clear fin
  clear h hs h1 hgot h8 h2 h3 h4
  go_enter Tryz.func159,Tryz.ntmps159
  go_wp2
  go_ret
  exact ⟨rfl,((((Below.refl _ _).setCell HB.out _).setCell HB.out _).setCell HB.out _).setCell HB.out _,fun _=>⟨_,_,_,FIN.out⟩⟩
 rw [if_neg h4] at hR
 subst hR
 have a6:(x==117)=false:=by simp [h4]
 clear h hs h1 hgot h8 h2 h3 h4
 go_enter Tryz.func159,Tryz.ntmps159
 go_wp2
 go_ret
 exact ⟨rfl,(Below.refl _ _).setCell HB.out _,by simp⟩
attribute [local go_sem ↓] Go.wp_at_zero Go.wp_at_succ
theorem zcD (b:Int):-1≤Ref.hexN b∧Ref.hexN b≤15:=by
 unfold Ref.hexN
 split
 ·omega
 split
 ·omega
 split
 ·omega
 ·omega
theorem V8 (b v:Int) (w:World) (h0:0≤b) (h1:b≤255) (hv:Ref.hexN b=v) :
  Calls Tryz.prog 204 #[.int .u8 b] w fun e w'=>e = .returned (.int .i64 v)∧w'=w:=by
 subst hv;exact zkQ b w h0 h1
theorem zhH (m:Ref.zC) (x:Int) (base b:Nat) (ov nv:Value) (vs:List (Value×Value)) (w:World) (h:zI w base b m ov nv vs) (hs:Small m) (x0:0≤x) (x1:x≤255)
  (n0:0≤m.number) (n1:m.number≤4095) (d1:1≤m.need) (d2:m.need≤4) :
  Calls Tryz.prog 160 #[.pointer (some ⟨b,0,none⟩), .int .u8 x] w (Stepped base b (Ref.digit m x) w):=by
 obtain ⟨R,hR⟩:∃R,Ref.digit m x=R:=⟨_,rfl⟩
 rw [hR]
 unfold Ref.digit at hR
 have HB:=hid h.hb
 have lb:b<w.heap.size:=lt_of_block h.blk
 have hbw:base≤w.heap.size:=Nat.le_trans HB.out (Nat.le_of_lt lb)
 have hvb:=zcD x
 obtain ⟨v,hv⟩:∃v,Ref.hexN x=v:=⟨_,rfl⟩
 rw [hv] at hR hvb
 have HV:=hid hv
 clear hv
 by_cases hneg:v<0
 ·rw [if_pos hneg] at hR
  subst hR
  clear h hs
  go_enter Tryz.func160,Tryz.ntmps160
  go_wp2_with fail
  refine (V8 x v _ x0 x1 HV.out).mono ?_
  rintro e w1 ⟨rfl,rfl⟩
  go_wp2
  go_ret
  exact ⟨rfl,Below.refl _ _,by simp⟩
 rw [if_neg hneg] at hR
 obtain ⟨num,hnum⟩:∃n,m.number=n:=⟨_,rfl⟩
 obtain ⟨need,hneed⟩:∃n,m.need=n:=⟨_,rfl⟩
 rw [hnum] at hR n0 n1
 rw [hneed] at hR d1 d2
 have c8:w.cell? ⟨b,8,none⟩=some (.int .i64 num):=by rw [← hnum];exact (h.cell 8).1
 have f8:w.frozen? ⟨b,8,none⟩=false:=(h.cell 8).2
 have c5:w.cell? ⟨b,5,none⟩=some (.int .i64 need):=by rw [← hneed];exact (h.cell 5).1
 have f5:w.frozen? ⟨b,5,none⟩=false:=(h.cell 5).2
 have h2:=(h.store 8 (.int .i64 (16*num+v)) (m':={ m with number:=16*num+v }) rfl rfl rfl).store 5 (.int .i64 (need-1)) (m':={ m with number:=16*num+v,need:=need-1 }) rfl rfl rfl
 by_cases hsur:need-1=2∧216≤16*num+v∧16*num+v≤223
 ·rw [if_pos hsur] at hR
  subst hR
  have e1:(need-1==2)=true:=by simp;omega
  obtain ⟨_,s2,s3⟩:=hsur
  clear h hs h2 hnum hneed
  go_enter Tryz.func160,Tryz.ntmps160
  go_wp2_with fail
  refine (V8 x v _ x0 x1 HV.out).mono ?_
  rintro e w1 ⟨rfl,rfl⟩
  go_wp2
  go_ret
  exact ⟨rfl,((Below.refl _ _).setCell HB.out _).setCell HB.out _,by simp⟩
 rw [if_neg hsur] at hR
 by_cases hz:need-1=0
 ·rw [if_pos hz] at hR
  have e1:(need-1==2)=false:=by simp;omega
  have e2:(need-1==0)=true:=by simp;omega
  have hgs:=hs.got
  obtain ⟨got,hgot⟩:∃g,m.got=g:=⟨_,rfl⟩
  have g4:((w.setCell ⟨b,8,none⟩ (.int .i64 (16*num+v))).setCell ⟨b,5,none⟩ (.int .i64 (need-1))).cell? ⟨b,4,none⟩=some (.string got):=by rw [← hgot];exact (h2.cell 4).1
  have g8:((w.setCell ⟨b,8,none⟩ (.int .i64 (16*num+v))).setCell ⟨b,5,none⟩ (.int .i64 (need-1))).cell? ⟨b,8,none⟩=some (.int .i64 (16*num+v)):=(h2.cell 8).1
  have hM2:=hid h2
  have henc:(Ref.enc (16*num+v)).size≤3:=by unfold Ref.enc Ref.one;split<;>(try split)<;>simp [ByteArray.size]
  obtain ⟨en,hen⟩:∃en,Ref.enc (16*num+v)=en:=⟨_,rfl⟩
  rw [hen] at henc hR
  rw [hgot] at hR
  subst hR
  have HEN:=hid hen
  have HG:=hid hgot
  rw [hgot] at hgs
  clear h hs h2 hnum hneed hsur hz hen hgot
  go_enter Tryz.func160,Tryz.ntmps160
  go_wp2_with fail
  refine (V8 x v _ x0 x1 HV.out).mono ?_
  rintro e w1 ⟨rfl,rfl⟩
  go_wp2_with fail
  have hN:0≤16*num+v∧16*num+v<65536:=by omega
  go_region_with (go_at_call 205;refine (zc3 _ _ hN.1 hN.2).mono ?_;rw [HEN.out];rintro e w2 ⟨rfl,hb2⟩;have b2:=xG hb2;have hM3:=hM2.out.below b2;have q4:w2.cell? ⟨b,4,none⟩=some (.string got):=cell_later b2 g4;have q4f:w2.frozen? ⟨b,4,none⟩=false:=(hM3.cell 4).2)
  all_goals
   have q0:w2.cell? ⟨b,0,none⟩=some (.int .i64 m.state):=(hM3.cell 0).1
   have q0f:w2.frozen? ⟨b,0,none⟩=false:=(hM3.cell 0).2
   have FIN:=hid ((hM3.store 4 (.string (got++en)) (m':={ m with number:=16*num+v,need:=need-1,got:=got++en }) rfl rfl rfl).store 0 (.int .i64 8) (m':={ m with number:=16*num+v,need:=need-1,got:=got++en,state:=8 }) rfl rfl rfl)
   have B2:Hid (Below base _ w2):=(((Below.refl base _).setCell HB.out _).setCell HB.out _).trans (b2.mono (by simp [World.setCell];omega))
   clear hM3 b2 hb2 g4 g8
   go_wp2
   go_ret
   exact ⟨rfl,(B2.out.setCell HB.out _).setCell HB.out _,fun _=>⟨_,_,_,FIN.out⟩⟩
 rw [if_neg hz] at hR
 subst hR
 have e2:(need-1==0)=false:=by simp;omega
 have FIN:=hid h2
 clear h hs h2 hnum hneed
 by_cases hd:need-1=2
 ·have e1:(need-1==2)=true:=by simp [hd]
  by_cases hlo:216≤16*num+v
  ·have hhi:223<16*num+v:=by omega
   clear hsur hz hd
   go_enter Tryz.func160,Tryz.ntmps160
   go_wp2_with fail
   refine (V8 x v _ x0 x1 HV.out).mono ?_
   rintro e w1 ⟨rfl,rfl⟩
   go_wp2
   go_ret
   exact ⟨rfl,((Below.refl _ _).setCell HB.out _).setCell HB.out _,fun _=>⟨_,_,_,FIN.out⟩⟩
  ·clear hsur hz hd
   go_enter Tryz.func160,Tryz.ntmps160
   go_wp2_with fail
   refine (V8 x v _ x0 x1 HV.out).mono ?_
   rintro e w1 ⟨rfl,rfl⟩
   go_wp2
   go_ret
   exact ⟨rfl,((Below.refl _ _).setCell HB.out _).setCell HB.out _,fun _=>⟨_,_,_,FIN.out⟩⟩
 ·have e1:(need-1==2)=false:=by simp [hd]
  clear hsur hz hd
  go_enter Tryz.func160,Tryz.ntmps160
  go_wp2_with fail
  refine (V8 x v _ x0 x1 HV.out).mono ?_
  rintro e w1 ⟨rfl,rfl⟩
  go_wp2
  go_ret
  exact ⟨rfl,((Below.refl _ _).setCell HB.out _).setCell HB.out _,fun _=>⟨_,_,_,FIN.out⟩⟩
attribute [local go_sem ↓] Go.wp_at_zero Go.wp_at_succ
theorem Qk (x:Int) (v:Bool) (w:World) (h0:0≤x) (h1:x≤255) (hv:Ref.Xg x=v) :
  Calls Tryz.prog 161 #[.int .u8 x] w fun e w'=>e = .returned (.bool v)∧w'=w:=by
 subst hv;exact zh0 x w h0 h1
theorem zh5 (m:Ref.zC) (x:Int) (base b:Nat) (ov nv:Value) (vs:List (Value×Value)) (w:World) (h:zI w base b m ov nv vs) (hs:Small m) (hw:Ref.Wf m) (x0:0≤x) (x1:x≤255) (hst:m.state=8∨m.state=10∨m.state=11) :
  Calls Tryz.prog 109 #[.pointer (some ⟨b,0,none⟩), .int .u8 x] w (Stepped base b (Ref.step m x) w):=by
 have HM:=hid h
 have HS:=hid hs
 have HW:=hid hw
 rcases hst with h8|h8|h8
 ·rw [Ref.Xn m x h8]
  have c0:w.cell? ⟨b,0,none⟩=some (.int .i64 8):=by rw [← h8];exact (h.cell 0).1
  have H8:=hid h8
  clear h hs hw h8
  go_enter Tryz.func109,Tryz.ntmps109
  go_wp2_with fail
  refine (zho m x base b ov nv vs _ HM.out HS.out (HW.out.named (by rw [H8.out];decide)) x0 x1).mono ?_
  rintro e w1 ⟨rfl,hb1,hm1⟩
  have HM1:=hid hm1
  clear hm1
  go_wp2
  go_ret
  exact ⟨rfl,hb1,HM1.out⟩
 ·rw [Ref.Ym m x h8]
  have c0:w.cell? ⟨b,0,none⟩=some (.int .i64 10):=by rw [← h8];exact (h.cell 0).1
  have H8:=hid h8
  clear h hs hw h8
  go_enter Tryz.func109,Tryz.ntmps109
  go_wp2_with fail
  refine (zgi m x base b ov nv vs _ HM.out HS.out).mono ?_
  rintro e w1 ⟨rfl,hb1,hm1⟩
  have HM1:=hid hm1
  clear hm1
  go_wp2
  go_ret
  exact ⟨rfl,hb1,HM1.out⟩
 ·rw [Ref.X0 m x h8]
  have c0:w.cell? ⟨b,0,none⟩=some (.int .i64 11):=by rw [← h8];exact (h.cell 0).1
  have H8:=hid h8
  clear h hs hw h8
  go_enter Tryz.func109,Tryz.ntmps109
  go_wp2_with fail
  refine (zhH m x base b ov nv vs _ HM.out HS.out x0 x1 (HW.out.need11 H8.out).2.2.1 (HW.out.need11 H8.out).2.2.2.1 (HW.out.need11 H8.out).1 (HW.out.need11 H8.out).2.1).mono ?_
  rintro e w1 ⟨rfl,hb1,hm1⟩
  have HM1:=hid hm1
  clear hm1
  go_wp2
  go_ret
  exact ⟨rfl,hb1,HM1.out⟩
theorem zit (m:Ref.zC) (x:Int) (base b:Nat) (ov nv:Value) (vs:List (Value×Value)) (w:World) (h:zI w base b m ov nv vs) (hw:Ref.Wf m) (hst:m.state=7) :
  Calls Tryz.prog 109 #[.pointer (some ⟨b,0,none⟩), .int .u8 x] w (Stepped base b (Ref.step m x) w):=by
 obtain ⟨R,hR⟩:∃R,Ref.step m x=R:=⟨_,rfl⟩
 rw [hR]
 rw [Ref.UB m x hst] at hR
 have HB:=hid h.hb
 have hwp:=hw.word hst
 have hws:=hw.small
 obtain ⟨wd,hwd⟩:∃g,m.word=g:=⟨_,rfl⟩
 rw [hwd] at hR hwp hws
 have c0:w.cell? ⟨b,0,none⟩=some (.int .i64 7):=by rw [← hst];exact (h.cell 0).1
 have f0:w.frozen? ⟨b,0,none⟩=false:=(h.cell 0).2
 have c9:w.cell? ⟨b,9,none⟩=some (.string wd):=by rw [← hwd];exact (h.cell 9).1
 have f9:w.frozen? ⟨b,9,none⟩=false:=(h.cell 9).2
 rw [Ref.getD_at wd 0 hwp] at hR
 have hpos:0<wd.size:=hwp
 by_cases hx:x=(wd[0].toNat:Int)
 ·rw [if_neg (fun e=>e hx)] at hR
  have hxb:(x != (wd[0].toNat:Int))=false:=by simp [hx]
  have HX:=hid hx
  clear hx
  by_cases h1:wd.size=1
  ·rw [if_pos h1] at hR
   subst hR
   have hnil:(wd.extract 1 wd.size).toList.isEmpty=true:=by
    have:(wd.extract 1 wd.size).size=0:=by rw [ByteArray.size_extract];omega
    rw [List.isEmpty_iff]
    apply List.eq_nil_of_length_eq_zero
    rw [ByteArray.toList_eq,Ref.zg];exact this
   have FIN:=hid ((h.store 9 (.string (wd.extract 1 wd.size)) (m':={ m with word:=wd.extract 1 wd.size }) rfl rfl rfl).store 0 (.int .i64 6) (m':={ m with word:=wd.extract 1 wd.size,state:=6 }) rfl rfl rfl)
   clear h hw hst hwd h1
   go_enter Tryz.func109,Tryz.ntmps109
   go_wp2
   go_ret
   exact ⟨rfl,((Below.refl _ _).setCell HB.out _).setCell HB.out _,fun _=>⟨_,_,_,FIN.out⟩⟩
  ·rw [if_neg h1] at hR
   rw [← hst] at hR
   subst hR
   have hnil:(wd.extract 1 wd.size).toList.isEmpty=false:=by
    have hsz:(wd.extract 1 wd.size).size≠0:=by rw [ByteArray.size_extract];omega
    rw [List.isEmpty_eq_false_iff]
    intro e
    apply hsz
    rw [← Ref.zg,← ByteArray.toList_eq,e];rfl
   have FIN:=hid (h.store 9 (.string (wd.extract 1 wd.size)) (m':={ m with word:=wd.extract 1 wd.size }) rfl rfl rfl)
   clear h hw hst hwd
   go_enter Tryz.func109,Tryz.ntmps109
   go_wp2
   go_ret
   exact ⟨rfl,(Below.refl _ _).setCell HB.out _,fun _=>⟨_,_,_,FIN.out⟩⟩
 ·rw [if_pos hx] at hR
  subst hR
  have hxb:(x != (wd[0].toNat:Int))=true:=by simp [hx]
  clear h hw hst hwd hx
  go_enter Tryz.func109,Tryz.ntmps109
  go_wp2
  go_ret
  exact ⟨rfl,Below.refl _ _,by simp⟩
theorem Vj (m:Ref.zC) (x:Int) (base b:Nat) (ov nv:Value) (vs:List (Value×Value)) (w:World) (h:zI w base b m ov nv vs) (hs:Small m) (hw:Ref.Wf m) (hst:m.state=9) :
  Calls Tryz.prog 109 #[.pointer (some ⟨b,0,none⟩), .int .u8 x] w (Stepped base b (Ref.step m x) w):=by
 obtain ⟨R,hR⟩:∃R,Ref.step m x=R:=⟨_,rfl⟩
 rw [hR]
 rw [Ref.J8 m x hst] at hR
 have HB:=hid h.hb
 have lb:b<w.heap.size:=lt_of_block h.blk
 have hbw:base≤w.heap.size:=Nat.le_trans HB.out (Nat.le_of_lt lb)
 obtain ⟨d1,d2,l0,l1,g0,g1⟩:=hw.need9 hst
 have hgs:=hs.got
 obtain ⟨got,hgot⟩:∃g,m.got=g:=⟨_,rfl⟩
 obtain ⟨lo,hlo⟩:∃g,m.low=g:=⟨_,rfl⟩
 obtain ⟨hi,hhi⟩:∃g,m.high=g:=⟨_,rfl⟩
 obtain ⟨nd,hnd⟩:∃g,m.need=g:=⟨_,rfl⟩
 rw [hgot] at hR hgs
 rw [hlo] at hR l0 l1
 rw [hhi] at hR g0 g1
 rw [hnd] at hR d1 d2
 have c0:w.cell? ⟨b,0,none⟩=some (.int .i64 9):=by rw [← hst];exact (h.cell 0).1
 have f0:w.frozen? ⟨b,0,none⟩=false:=(h.cell 0).2
 have c4:w.cell? ⟨b,4,none⟩=some (.string got):=by rw [← hgot];exact (h.cell 4).1
 have f4:w.frozen? ⟨b,4,none⟩=false:=(h.cell 4).2
 have c5:w.cell? ⟨b,5,none⟩=some (.int .i64 nd):=by rw [← hnd];exact (h.cell 5).1
 have f5:w.frozen? ⟨b,5,none⟩=false:=(h.cell 5).2
 have c6:w.cell? ⟨b,6,none⟩=some (.int .u8 lo):=by rw [← hlo];exact (h.cell 6).1
 have f6:w.frozen? ⟨b,6,none⟩=false:=(h.cell 6).2
 have c7:w.cell? ⟨b,7,none⟩=some (.int .u8 hi):=by rw [← hhi];exact (h.cell 7).1
 have f7:w.frozen? ⟨b,7,none⟩=false:=(h.cell 7).2
 by_cases hbad:x<lo∨hi<x
 ·rw [if_pos hbad] at hR
  subst hR
  clear h hs hw hst hgot hlo hhi hnd
  by_cases hl:x<lo
  all_goals
   go_enter Tryz.func109,Tryz.ntmps109
   go_wp2
   go_ret
   exact ⟨rfl,Below.refl _ _,by simp⟩
 rw [if_neg hbad] at hR
 have e1:¬x<lo:=fun e=>hbad (.inl e)
 have e2:¬hi<x:=fun e=>hbad (.inr e)
 have c4':=fun O:Obj=>cell_later ((Below.refl _ w).alloc (Nat.le_refl _) O) c4
 have f4':=fun O:Obj=>(((Below.refl _ w).alloc (Nat.le_refl _) O).frozen (p:=⟨b,4,none⟩) lb).trans f4
 have k1:=vG
 have h4:=(((h.store 4 (.string (got++Ref.one x)) (m':={ m with got:=got++Ref.one x }) rfl rfl rfl).store 6 (.int .u8 128) (m':={ m with got:=got++Ref.one x,low:=128 }) rfl rfl rfl).store 7 (.int .u8 191) (m':={ m with got:=got++Ref.one x,low:=128,high:=191 }) rfl rfl rfl).store 5 (.int .i64 (nd-1)) (m':={ m with got:=got++Ref.one x,low:=128,high:=191,need:=nd-1 }) rfl rfl rfl
 by_cases hz:nd-1=0
 ·rw [if_pos hz] at hR
  subst hR
  have e3:(nd-1==0)=true:=by simp [hz]
  have FIN:=hid (h4.store 0 (.int .i64 8) (m':={ m with got:=got++Ref.one x,low:=128,high:=191,need:=nd-1,state:=8 }) rfl rfl rfl)
  clear h hs hw hst hgot hlo hhi hnd hbad h4 hz
  go_enter Tryz.func109,Tryz.ntmps109
  go_wp2_with fail
  go_region
  all_goals
   go_wp2
   go_ret
   exact ⟨rfl,(((((((Below.refl _ _).setCell HB.out _).setCell HB.out _).setCell HB.out _).setCell HB.out _).setCell HB.out _).alloc (by simp [World.setCell];omega) _).drew,fun _=>⟨_,_,_,(FIN.out.below ((Below.refl _ _).alloc (Nat.le_refl _) _)).drew⟩⟩
 ·rw [if_neg hz] at hR
  rw [← hst] at hR
  subst hR
  have e3:(nd-1==0)=false:=by simp [hz]
  have FIN:=hid h4
  clear h hs hw hst hgot hlo hhi hnd hbad h4 hz
  go_enter Tryz.func109,Tryz.ntmps109
  go_wp2_with fail
  go_region
  all_goals
   go_wp2
   go_ret
   exact ⟨rfl,((((((Below.refl _ _).setCell HB.out _).setCell HB.out _).setCell HB.out _).setCell HB.out _).alloc (by simp [World.setCell];omega) _).drew,fun _=>⟨_,_,_,(FIN.out.below ((Below.refl _ _).alloc (Nat.le_refl _) _)).drew⟩⟩
theorem zgQ (m:Ref.zC) (x:Int) (base b:Nat) (ov nv:Value) (vs:List (Value×Value)) (w:World) (h:zI w base b m ov nv vs) (hs:Small m) (x0:0≤x) (x1:x≤255) (st:Int) (hst:m.state=st) (hl:1≤st) (hu:st<7) :
  Calls Tryz.prog 109 #[.pointer (some ⟨b,0,none⟩), .int .u8 x] w (Stepped base b (Ref.step m x) w):=by
 obtain ⟨R,hR⟩:∃R,Ref.step m x=R:=⟨_,rfl⟩
 rw [hR]
 rw [Ref.step_low m x (by omega),hst] at hR
 have HB:=hid h.hb
 have c0:w.cell? ⟨b,0,none⟩=some (.int .i64 st):=by rw [← hst];exact (h.cell 0).1
 have f0:w.frozen? ⟨b,0,none⟩=false:=(h.cell 0).2
 have s8:(st==8)=false:=by simp;omega
 have s9:(st==9)=false:=by simp;omega
 have s10:(st==10)=false:=by simp;omega
 have s11:(st==11)=false:=by simp;omega
 have s7:(st==7)=false:=by simp;omega
 have HM:=hid h
 have HS:=hid hs
 cases hbl:Ref.Xg x with
 | true=>
  rw [if_pos hbl] at hR
  subst hR
  have HBL:=hid hbl
  clear h hs hbl
  go_enter Tryz.func109,Tryz.ntmps109
  go_wp2_with fail
  refine (Qk x true _ x0 x1 HBL.out).mono ?_
  rintro e w1 ⟨rfl,rfl⟩
  go_wp2
  go_ret
  exact ⟨rfl,Below.refl _ _,fun _=>⟨_,_,_,HM.out⟩⟩
 | false=>
  rw [if_neg (by simp [hbl])] at hR
  have HBL:=hid hbl
  clear hbl
  by_cases h65:st=6∨st=5
  ·rw [if_pos h65] at hR
   subst hR
   have hb:(st==6)=true∨(st==6)=false∧(st==5)=true:=by
    rcases h65 with e|e
    ·exact .inl (by simp [e])
    ·exact .inr ⟨by simp [e],by simp [e]⟩
   clear h hs hst h65
   rcases hb with a|⟨a,a2⟩
   all_goals
    go_enter Tryz.func109,Tryz.ntmps109
    go_wp2_with fail
    refine (Qk x false _ x0 x1 HBL.out).mono ?_
    rintro e w1 ⟨rfl,rfl⟩
    go_wp2_with fail
    refine (zgW m x base b ov nv vs _ HM.out HS.out).mono ?_
    rintro e w2 ⟨rfl,hb2,hm2⟩
    have HM2:=hid hm2
    clear hm2
    go_wp2
    go_ret
    exact ⟨rfl,hb2,HM2.out⟩
  rw [if_neg h65] at hR
  have s6:(st==6)=false:=by simp;omega
  have s5:(st==5)=false:=by simp;omega
  by_cases hend:(st=2∧x=93)∨(st=3∧x=125)
  ·rw [if_pos hend] at hR
   subst hR
   have hb:((st==2)=true∧(x==93)=true)∨(st==2)=false∧(st==3)=true∧(x==125)=true:=by
    rcases hend with ⟨e,e2⟩|⟨e,e2⟩
    ·exact .inl ⟨by simp [e],by simp [e2]⟩
    ·exact .inr ⟨by simp [e],by simp [e],by simp [e2]⟩
   clear h hs hst h65 hend
   rcases hb with ⟨a,a2⟩|⟨a,a2,a3⟩
   all_goals
    go_enter Tryz.func109,Tryz.ntmps109
    go_wp2_with fail
    refine (Qk x false _ x0 x1 HBL.out).mono ?_
    rintro e w1 ⟨rfl,rfl⟩
    go_wp2_with fail
    refine (zid m x base b ov nv vs _ HM.out HS.out).mono ?_
    rintro e w2 ⟨rfl,hb2,hm2⟩
    have HM2:=hid hm2
    clear hm2
    go_wp2
    go_ret
    exact ⟨rfl,hb2,HM2.out⟩
  rw [if_neg hend] at hR
  by_cases h34:st=3∨st=4
  ·rw [if_pos h34] at hR
   have s2:(st==2)=false:=by simp;omega
   have hb:((st==3)=true∧(x==125)=false)∨(st==3)=false∧(st==4)=true:=by
    rcases h34 with e|e
    ·exact .inl ⟨by simp [e],by simp;omega⟩
    ·exact .inr ⟨by simp [e],by simp [e]⟩
   by_cases hx:x=34
   ·rw [if_neg (fun e=>e hx)] at hR
    subst hR
    have hxb:(x != 34)=false:=by simp [hx]
    have c3:w.cell? ⟨b,3,none⟩=some (.bool m.named):=(h.cell 3).1
    have f3:w.frozen? ⟨b,3,none⟩=false:=(h.cell 3).2
    have c4:w.cell? ⟨b,4,none⟩=some (.string m.got):=(h.cell 4).1
    have f4:w.frozen? ⟨b,4,none⟩=false:=(h.cell 4).2
    have FIN:=hid (((h.store 0 (.int .i64 8) (m':={ m with state:=8 }) rfl rfl rfl).store 3 (.bool true) (m':={ m with state:=8,named:=true }) rfl rfl rfl).store 4 (.string ⟨#[]⟩) (m':={ m with state:=8,named:=true,got:=⟨#[]⟩ }) rfl rfl rfl)
    clear h hs hst h65 hend h34 hx
    rcases hb with ⟨a,a2⟩|⟨a,a2⟩
    all_goals
     go_enter Tryz.func109,Tryz.ntmps109
     go_wp2_with fail
     refine (Qk x false _ x0 x1 HBL.out).mono ?_
     rintro e w1 ⟨rfl,rfl⟩
     go_wp2
     go_ret
     exact ⟨rfl,(((Below.refl _ _).setCell HB.out _).setCell HB.out _).setCell HB.out _,fun _=>⟨_,_,_,FIN.out⟩⟩
   ·rw [if_pos hx] at hR
    subst hR
    have hxb:(x != 34)=true:=by simp [hx]
    clear h hs hst h65 hend h34 hx
    rcases hb with ⟨a,a2⟩|⟨a,a2⟩
    all_goals
     go_enter Tryz.func109,Tryz.ntmps109
     go_wp2_with fail
     refine (Qk x false _ x0 x1 HBL.out).mono ?_
     rintro e w1 ⟨rfl,rfl⟩
     go_wp2
     go_ret
     exact ⟨rfl,Below.refl _ _,by simp⟩
  rw [if_neg h34] at hR
  subst hR
  have s3:(st==3)=false:=by simp;omega
  have s4:(st==4)=false:=by simp;omega
  have hb:(st==2)=false∨(st==2)=true∧(x==93)=false:=by
   by_cases e:st=2
   ·exact .inr ⟨by simp [e],by simp;omega⟩
   ·exact .inl (by simp [e])
  clear h hs hst h65 hend h34
  rcases hb with a|⟨a,a2⟩
  all_goals
   go_enter Tryz.func109,Tryz.ntmps109
   go_wp2_with fail
   refine (Qk x false _ x0 x1 HBL.out).mono ?_
   rintro e w1 ⟨rfl,rfl⟩
   go_wp2_with fail
   refine (zh7 m x base b ov nv vs _ HM.out HS.out).mono ?_
   rintro e w2 ⟨rfl,hb2,hm2⟩
   have HM2:=hid hm2
   clear hm2
   go_wp2
   go_ret
   exact ⟨rfl,hb2,HM2.out⟩
theorem zjj (m:Ref.zC) (x:Int) (base b:Nat) (ov nv:Value) (vs:List (Value×Value)) (w:World) (h:zI w base b m ov nv vs) (hs:Small m) (hw:Ref.Wf m) (x0:0≤x) (x1:x≤255) :
  Calls Tryz.prog 109 #[.pointer (some ⟨b,0,none⟩), .int .u8 x] w (Stepped base b (Ref.step m x) w):=by
 have hlo:=hw.lo
 have hhi:=hw.hi
 by_cases h7:m.state<7
 ·exact zgQ m x base b ov nv vs w h hs x0 x1 m.state rfl hlo h7
 by_cases h7':m.state=7
 ·exact zit m x base b ov nv vs w h hw h7'
 by_cases h9:m.state=9
 ·exact Vj m x base b ov nv vs w h hs hw h9
 exact zh5 m x base b ov nv vs w h hs hw x0 x1 (by omega)
theorem Small.of {n:Nat} {m:Ref.zC} (h:Ref.Bnd n m) (hn:n≤4000):Small m:=by
 have h1:=h.nodes
 have h2:=h.opn
 have h3:=h.got
 refine ⟨by omega,by omega,fun d hd=>?_,fun d hd=>?_,by omega,h.top⟩
 ·obtain ⟨i,hi⟩:=List.getElem?_of_mem hd;have:=h.kids i d hi;omega
 ·obtain ⟨i,hi⟩:=List.getElem?_of_mem hd;have:=h.kids i d hi;omega
def xP (text:ByteArray):Int×Nat×Ref.zC:=
 if 4000<text.size then (1,0,Ref.init)
 else if (Ref.run Ref.init text.data.toList 0).1≠0 then Ref.run Ref.init text.data.toList 0
 else if (Ref.run Ref.init text.data.toList 0).2.2.state≠6∨(Ref.run Ref.init text.data.toList 0).2.2.opn≠[] then (2,text.size,Ref.init)
 else (0,0,(Ref.run Ref.init text.data.toList 0).2.2)
theorem zcK:Ref.Wf Ref.init:=⟨by decide,by decide,by decide,by decide,by decide,by decide,by decide,by decide⟩
theorem U7:Ref.Bnd 0 Ref.init:=⟨by decide,by decide,fun i d hd=>by simp [Ref.init] at hd,by decide,fun o ho=>by simp [Ref.init] at ho⟩
theorem zjb (text:ByteArray) (k:Nat) (hk:k<text.size) (m:Ref.zC) (he:(Ref.step m (text[k].toNat:Int)).1=0):Ref.run m (text.data.toList.drop k) k=Ref.run (Ref.step m (text[k].toNat:Int)).2 (text.data.toList.drop (k+1)) (k+1):=by
 rw [List.drop_eq_getElem_cons (by rw [Ref.zg];exact hk),Ref.run]
 exact if_pos he
theorem run_stop (text:ByteArray) (k:Nat) (hk:k<text.size) (m:Ref.zC) (he:(Ref.step m (text[k].toNat:Int)).1≠0):Ref.run m (text.data.toList.drop k) k=((Ref.step m (text[k].toNat:Int)).1,k,m):=by
 rw [List.drop_eq_getElem_cons (by rw [Ref.zg];exact hk),Ref.run]
 exact if_neg he
theorem run_end (text:ByteArray) (k:Nat) (hk:¬k<text.size) (m:Ref.zC):Ref.run m (text.data.toList.drop k) k=(0,k,m):=by
 rw [List.drop_of_length_le (by rw [Ref.zg];omega),Ref.run]
theorem zks (text:ByteArray) (w:World) (ht:text.size≤maxLen) :
  Calls Tryz.prog 59 #[.string text] w fun e w'=>∃p,e = .returned (.tuple #[.pointer p, .int .i64 (xP text).1, .int .i64 ((xP text).2.1:Nat)])∧Below w.heap.size w w' ∧
   ((xP text).1=0→∃b ov nv vs,p=some ⟨b,0,none⟩∧zI w' w.heap.size b (xP text).2.2 ov nv vs∧Ref.Bnd 4000 (xP text).2.2):=by
 unfold maxLen at ht
 obtain ⟨R,hR⟩:∃R,xP text=R:=⟨_,rfl⟩
 rw [hR]
 unfold xP at hR
 by_cases hlong:4000<text.size
 ·rw [if_pos hlong] at hR
  subst hR
  go_enter Tryz.func59,Tryz.ntmps59
  go_wp2
  go_ret3
  exact ⟨_,rfl,Below.refl _ _,by simp⟩
 rw [if_neg hlong] at hR
 have hl:decide (4000<(text.size:Int))=false:=by simp;omega
 obtain ⟨Q,hQ⟩:∃Q,Ref.run Ref.init text.data.toList 0=Q:=⟨_,rfl⟩
 rw [hQ] at hR
 have HR:=hid hR
 have HQ:=hid hQ
 clear hR hQ
 have hstart:Hid (zI (w.alloc (.cells #[.int .i64 1, .slice none 0 0, .slice none 0 0, .bool false, .string ⟨#[]⟩, .int .i64 0, .int .u8 0, .int .u8 0, .int .i64 0, .string ⟨#[]⟩, .int .i64 0] 155)) w.heap.size w.heap.size Ref.init (.slice none 0 0) (.slice none 0 0) []):=
  ⟨Nat.le_refl _,heap_alloc_new w _,World.ownsRow_nil _ _ _ _,World.ownsRow_nil _ _ _ _,rfl,fun i n v hi=>by simp [Ref.init] at hi,fun i n v hi=>by simp [Ref.init] at hi,fun i v g hv=>by simp at hv,fun i j v v' g hv=>by simp at hv,fun i j v v' g hv=>by simp at hv⟩
 go_enter Tryz.func59,Tryz.ntmps59
 go_wp2
 go_loopw [6] (fun iv wr=>∃(k:Nat) (m:Ref.zC) (ov nv:Value) (vs:List (Value×Value)),k≤text.size∧iv = .int .i64 k∧Q=Ref.run m (text.data.toList.drop k) k∧Ref.Wf m∧Ref.Bnd k m∧zI wr w.heap.size w.heap.size m ov nv vs∧Below w.heap.size w wr) (fun iv _=>text.size-(intOf iv).toNat)
 case atStart=>exact ⟨0,Ref.init,_,_,_,by omega,rfl,by rw [← HQ.out];rfl,zcK,U7,hstart.out,(Below.refl _ _).alloc (Nat.le_refl _) _⟩
 case round=>
  obtain ⟨k,m,ov,nv,vs,hk,rfl,hq,hw,hb,hm,hbel⟩:=hrel
  have HQ1:=hid hq
  have HW:=hid hw
  have HBD:=hid hb
  have HM:=hid hm
  clear hq hw hb hm HQ hstart
  by_cases hlt:k<text.size
  ·go_wp2_with fail
   refine (zjj m _ _ _ _ _ _ _ HM.out (Small.of HBD.out (by omega)) HW.out (Ref.b0 _) (Ref.zmM _)).mono ?_
   rintro e w1 ⟨rfl,hb1,hm1⟩
   have bel1:Below w.heap.size w w1:=hbel.trans hb1
   by_cases he:(Ref.step m (text[k].toNat:Int)).1=0
   ·have HM1:=hid (hm1 he)
    have hq2:=HQ1.out
    rw [zjb text k hlt m he] at hq2
    have HQ2:=hid hq2
    have HW2:=hid (Ref.zdu HW.out _ he)
    have HB2:=hid (Ref.UJ HBD.out _ he)
    have heb:((Ref.step m (text[k].toNat:Int)).1 != 0)=false:=by simp [he]
    obtain ⟨r,hr⟩:∃r,(Ref.step m (text[k].toNat:Int)).1=r:=⟨_,rfl⟩
    rw [hr] at heb
    rw [hr]
    clear hm1 hb1 hq2 he hbel HM HQ1 HW HBD hr HR
    go_wp2
    go_roundw
    case rel=>
     obtain ⟨ov',nv',vs',hM'⟩:=HM1.out
     exact ⟨k+1,_,ov',nv',vs',by omega,by go_num,HQ2.out,HW2.out,HB2.out,hM',bel1⟩
    case measure=>simp [intOf];omega
   ·have hq2:=HQ1.out
    rw [run_stop text k hlt m he] at hq2
    have hr:=HR.out
    rw [hq2,if_pos he] at hr
    have heb:((Ref.step m (text[k].toNat:Int)).1 != 0)=true:=by simp [he]
    obtain ⟨r,hr2⟩:∃r,(Ref.step m (text[k].toNat:Int)).1=r:=⟨_,rfl⟩
    rw [hr2] at heb he hr
    rw [hr2]
    have HE:=hid he
    subst hr
    clear hm1 hb1 hq2 he hbel HM HQ1 HW HBD hr2 HR
    go_wp2
    go_ret3
    exact ⟨_,rfl,bel1,fun e=>absurd e HE.out⟩
  ·have hq2:=HQ1.out
   rw [run_end text k hlt m] at hq2
   have hr:=HR.out
   rw [hq2,if_neg (by simp)] at hr
   simp only at hr
   have ownO:=HM.out.ownO
   obtain ⟨q,hqq⟩:∃q,m.opn.length=q:=⟨_,rfl⟩
   rw [hqq] at ownO
   obtain ⟨ao,oc,rfl⟩:∃a c,ov = .slice a q c:=by
    rcases ownO.2 with ⟨rfl,rfl⟩|⟨g,c,cur,rfl,_⟩
    ·exact ⟨_,_,rfl⟩
    ·exact ⟨_,_,rfl⟩
   have c0:wr.cell? ⟨w.heap.size,0,none⟩=some (.int .i64 m.state):=(HM.out.cell 0).1
   have c1:wr.cell? ⟨w.heap.size,1,none⟩=some (.slice ao q oc):=(HM.out.cell 1).1
   have hql:=HBD.out.opn
   rw [hqq] at hql
   obtain ⟨st,hst⟩:∃st,m.state=st:=⟨_,rfl⟩
   rw [hst] at c0 hr
   have HB2:Hid (Ref.Bnd 4000 m):=by
    have hb:=HBD.out
    have h1:=hb.nodes
    have h2:=hb.opn
    have h3:=hb.got
    exact ⟨by omega,by omega,fun i d hd=>by have:=hb.kids i d hd;omega,by omega,hb.top⟩
   by_cases hc:st≠6∨m.opn≠[]
   ·rw [if_pos hc] at hr
    subst hr
    by_cases h6:st=6
    ·have h6b:(st != 6)=false:=by simp [h6]
     have hq0:0<q:=by rw [← hqq];exact List.length_pos_iff.2 (hc.resolve_left (fun e=>e h6))
     have hqb:decide (0<(q:Int))=true:=by simp;omega
     clear hq2 HM HQ1 HW HBD HR ownO hqq hst hc h6
     go_wp2
     go_ret3
     first|exact hbel|exact ⟨⟨_,rfl⟩,hbel⟩
    ·have h6b:(st != 6)=true:=by simp [h6]
     clear hq2 HM HQ1 HW HBD HR ownO hqq hst hc h6
     go_wp2
     go_ret3
     first|exact hbel|exact ⟨⟨_,rfl⟩,hbel⟩
   ·rw [if_neg hc] at hr
    subst hr
    have h6:st=6:=by
     by_cases e:st=6
     ·exact e
     ·exact absurd (.inl e) hc
    have hq0:q=0:=by
     have:m.opn=[]:=by
      by_cases e:m.opn=[]
      ·exact e
      ·exact absurd (.inr e) hc
     rw [← hqq,this];rfl
    have h6b:(st != 6)=false:=by simp [h6]
    clear hq2 HQ1 HW HBD HR ownO hqq hst hc h6
    subst hq0
    go_wp2
    go_ret3
    exact ⟨_,rfl,hbel,⟨_,rfl,⟨_,_,_,HM.out⟩,HB2.out⟩⟩
end Go.Proofs.YtdakgnaojakldaaGreatDoor
