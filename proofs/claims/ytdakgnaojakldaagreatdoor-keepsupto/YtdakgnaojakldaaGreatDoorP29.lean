/- P -/
import Derived.Test.YtdakgnaojakldaaGreatDoorP28
import Derived.Test.YtdakgnaojakldaaGreatDoorP26
set_option maxRecDepth 100000
set_option maxHeartbeats 2000000
namespace Go.Proofs.YtdakgnaojakldaaGreatDoor
open Go.RowKit
theorem ziS (M:Nat):∀(r:List (List UInt8)),(∀x ∈ r,x.length≤M)→Lib.lens r≤r.length*M
 | [],_=>by simp [Lib.lens]
 | x::r,h=>by
  have h1:=h x (by simp)
  have h2:=ziS M r (fun y hy=>h y (by simp [hy]))
  simp only [Lib.lens,List.map_cons,List.sum_cons,List.length_cons] at h2 ⊢
  rw [Nat.succ_mul]
  omega
theorem zb3 (xs:List ByteArray):(kH xs).size=(Lib.join (xs.map (·.data.toList)) [44]).length:=by simp [kH,ByteArray.size]
theorem Qp (xs:List ByteArray) (M:Nat) (h:∀x ∈ xs,x.size≤M):(kH xs).size≤xs.length*(M+1):=by
 rw [zb3]
 cases xs with
 | nil=>simp [Lib.join_nil]
 | cons x r=>
  have h1:x.data.toList.length≤M:=by rw [Ref.zg];exact h x (by simp)
  have h2:=ziS M (r.map (·.data.toList)) (fun y hy=>by
   rw [List.mem_map] at hy
   obtain ⟨z,hz,rfl⟩:=hy
   rw [Ref.zg];exact h z (by simp [hz]))
  rw [List.map_cons,Lib.join_cons,List.length_append,Lib.joinTail_length]
  simp only [List.length_map,List.length_cons,List.length_nil] at h2 ⊢
  have e:(r.length+1)*(M+1)=r.length*M+r.length+M+1:=by rw [Nat.add_mul,Nat.mul_add];omega
  rw [e]
  omega
theorem Tryz.bx:Builder.Extra Tryz.prog Tryz.lays156_ren:={
 sizeBuilder:=by kernel_rfl
 liesBuilder:=by kernel_rfl
 t5:=Tryz.underlying5
 a5:=Tryz.isAgg5
 z5:=Tryz.sizeOf5
 v5:=Tryz.zeroValue5
 infoByte:=by kernel_rfl
 cellsByte:=by kernel_rfl
 sizeByte:=by kernel_rfl
 neB5:=by decide }
theorem zgG (xs:List ByteArray) (lv:Value) (base:Nat) (w:World) (h:zh w base lv xs) (hn:xs.length≤1000) (hz:(kH xs).size≤1000000000) :
  Calls Tryz.prog 113 #[lv, .string ⟨#[44]⟩] w fun e w'=>e = .returned (.string (kH xs))∧Below w.heap.size w w':=by
 rcases h.2 with ⟨rfl,h0⟩|⟨g,cap,cur,rfl,_,hb,hle,_⟩
 ·have hx:xs=[]:=List.length_eq_zero_iff.1 h0
  subst hx
  exact (Any.strings_Join_none Tryz.lays156 Tryz.bx none 0 ⟨#[44]⟩ w).mono fun e w' ⟨he,hw⟩=>⟨he,hw ▸ Below.refl _ _⟩
 ·exact Any.strings_Join Tryz.lays156 Tryz.bx g 0 cap xs ⟨#[44]⟩ w (fun j x hx=>by
   have hj:j<xs.length:=(List.getElem?_eq_some_iff.1 hx).1
   rw [Nat.zero_add,World.ownsRow.cellAt h j (by omega)]
   simp [List.getElem?_map,hx]) (lt_of_block hb) (by omega) hle (by rw [zb3] at hz;exact Nat.le_trans hz (by decide))
theorem zjL:∀args w,(callFunc 115 args).run Tryz.prog w = .ok (.enter 115 args) w:=enters_of Tryz.func115 (by kernel_rfl) rfl
theorem za3 (ss:List ByteArray) (lv:Value) (base:Nat) (w:World) (h:zh w base lv ss) (hS:Ref.ut ss) :
  Calls Tryz.prog 171 #[lv, .func (.func 115) #[] #[]] w fun e w'=>e = .returned (.string (Ref.xe ss))∧Below w.heap.size w w':=by
 have hl:=hS.1
 have c1:=zlu ss lv base 115 Ref.zy w h (by omega) zjL (fun W s hs _=>zci s W (by have:=hS.2 s hs;omega))
 have hq:∀x ∈ ss.map Ref.zy,x.size≤80000:=by
  intro x hx
  rw [List.mem_map] at hx
  obtain ⟨s,hs,rfl⟩:=hx
  have:=Ref.zW s
  have:=hS.2 s hs
  omega
 have hz:=Qp _ _ hq
 rw [List.length_map] at hz
 have hz2:(kH (ss.map Ref.zy)).size≤1000000:=by
  have:ss.length*(80000+1)≤10*(80000+1):=Nat.mul_le_mul_right _ hl
  omega
 have c2:=fun W lv' (ho:zh W w.heap.size lv' (ss.map Ref.zy))=>zgG (ss.map Ref.zy) lv' w.heap.size W ho (by rw [List.length_map];omega) (by omega)
 rw [vX]
 unfold Zk
 obtain ⟨J,hJ⟩:∃J,kH (ss.map Ref.zy)=J:=⟨_,rfl⟩
 rw [hJ] at hz2 ⊢
 simp only [hJ] at c2
 obtain ⟨M,hM⟩:∃M,ss.map Ref.zy=M:=⟨_,rfl⟩
 rw [hM] at c1
 simp only [hM] at c2
 have C1:=hid c1
 have C2:=hid c2
 obtain ⟨a,c,rfl⟩:=zq h
 clear c1 c2 hJ hM hq hz h hS hl
 go_enter Tryz.func171,Tryz.ntmps171
 go_wp2_with (first
  | (go_at_call 113;refine (C2.out w1 _ HO.out).mono ?_;rintro e w2 ⟨rfl,hb2⟩;have HB2:=hid (HB1.out.trans (hb2.mono HB1.out.size));clear hb2)
  | (go_at_call 211;refine C1.out.mono ?_;rintro e w1 ⟨lv1,rfl,ho,hb1⟩;have HO:=hid ho;have HB1:=hid hb1;clear ho hb1))
 go_ret
 exact ⟨rfl,HB2.out⟩
theorem Zl (c:Bool×List ByteArray) (lv:Value) (base:Nat) (w:World) (h:zh w base lv c.2) (hS:Ref.ut c.2) :
  Calls Tryz.prog 116 #[.agg #[.bool c.1,lv]] w fun e w'=>e = .returned (.string (Ref.yS c))∧Below w.heap.size w w':=by
 obtain ⟨nt,l⟩:=c
 simp only at h hS ⊢
 have c1:=fun O:Obj=>za3 l lv base (w.alloc O) (World.ownsRow.alloc h O) hS
 have hz:=Ref.yA hS
 unfold Ref.yS
 obtain ⟨J,hJ⟩:∃J,Ref.xe l=J:=⟨_,rfl⟩
 rw [hJ] at hz ⊢
 simp only [hJ] at c1 ⊢
 have C1:=hid c1
 obtain ⟨a,c,rfl⟩:=zq h
 clear c1 hJ h hS
 have bA:∀O:Obj,Below w.heap.size w (w.alloc O):=fun O=>(Below.refl _ w).alloc (Nat.le_refl _) O
 have BA:=hid bA
 clear bA
 cases nt with
 | true=>
  go_enter Tryz.func116,Tryz.ntmps116
  go_wp2_with fail
  refine (C1.out _).mono ?_
  rintro e w2 ⟨rfl,hb2⟩
  have r0:w2.cell? ⟨w.heap.size,0,none⟩=some (.bool true):=cell_later hb2 ((cells_of_block (heap_alloc_new w _) 0).1)
  have HB2:=hid ((BA.out _).trans (hb2.mono (by simp)))
  clear hb2
  go_wp2
  go_ret
  exact ⟨rfl,HB2.out⟩
 | false=>
  go_enter Tryz.func116,Tryz.ntmps116
  go_wp2_with fail
  refine (C1.out _).mono ?_
  rintro e w2 ⟨rfl,hb2⟩
  have r0:w2.cell? ⟨w.heap.size,0,none⟩=some (.bool false):=cell_later hb2 ((cells_of_block (heap_alloc_new w _) 0).1)
  have HB2:=hid ((BA.out _).trans (hb2.mono (by simp)))
  clear hb2
  go_wp2
  go_ret
  exact ⟨rfl,HB2.out⟩
theorem Below.chain {B:Nat} {a b c:World} (h:Below B a b) (k:Below b.heap.size b c) (hB:B≤a.heap.size):Below B a c:=h.trans (k.mono (Nat.le_trans hB h.size))
theorem zdM (c:jg) (lv:Value) (base:Nat) (w:World) (h:zh w base lv c.vals) (hop:c.op.size≤12000) (hkey:c.key.size≤12000) (hS:Ref.ut c.vals) :
  Calls Tryz.prog 118 #[.agg #[.string c.op, .string c.key,lv, .bool c.no]] w fun e w'=>e = .returned (.string (Zz c))∧Below w.heap.size w w':=by
 obtain ⟨op,key,vals,no⟩:=c
 simp only at h hop hkey hS ⊢
 unfold Zz
 simp only
 rw [← vX]
 have hz:=Ref.yA hS
 have z1:=Ref.zW op
 have z2:=Ref.zW key
 have c1:=fun W (hb:Below w.heap.size w W)=>za3 vals lv base W (ownsRow_below h hb) hS
 obtain ⟨J,hJ⟩:∃J,Ref.xe vals=J:=⟨_,rfl⟩
 rw [hJ] at hz
 simp only [hJ] at c1
 simp only [hJ]
 have C1:=hid c1
 have hop':op.size≤100000:=by omega
 have hkey':key.size≤100000:=by omega
 obtain ⟨xa,xc,rfl⟩:=zq h
 obtain ⟨n,hn⟩:∃n,vals.length=n:=⟨_,rfl⟩
 rw [hn] at C1 ⊢
 have hn10:n≤10:=by rw [← hn];exact hS.1
 clear c1 hJ h hS hn
 obtain ⟨A,hA⟩:∃A,w.alloc (.cells #[.string op, .string key, .slice xa n xc, .bool no] 241)=A:=⟨_,rfl⟩
 have bl:=heap_alloc_new w (.cells #[.string op, .string key, .slice xa n xc, .bool no] 241)
 have bwA:Below w.heap.size w A:=by rw [← hA];exact (Below.refl _ w).alloc (Nat.le_refl _) _
 rw [hA] at bl
 have a0:A.drew.cell? ⟨w.heap.size,0,none⟩=some (.string op):=(cells_of_block bl 0).1
 have a1:A.drew.cell? ⟨w.heap.size,1,none⟩=some (.string key):=(cells_of_block bl 1).1
 have a2:A.drew.cell? ⟨w.heap.size,2,none⟩=some (.slice xa n xc):=(cells_of_block bl 2).1
 have a3:A.drew.cell? ⟨w.heap.size,3,none⟩=some (.bool no):=(cells_of_block bl 3).1
 have bA:Below A.heap.size A A.drew:=(Below.refl _ A).drew
 have HBW:=hid bwA
 clear bl bwA
 go_enter Tryz.func118,Tryz.ntmps118
 go_upto_region 1 with fail
 go_cut [3] (fun s wx=>s = .string (⟨#[123,34,111,112,34,58]⟩++Ref.zy op++⟨#[44,34,107,101,121,34,58]⟩++Ref.zy key)∧Below A.heap.size A wx∧wx.cell? ⟨w.heap.size,2,none⟩=some (.slice xa n xc)∧wx.cell? ⟨w.heap.size,3,none⟩=some (.bool no))
 case first=>
  go_region_with (go_at_call 115;refine (zci _ _ ?_).mono ?_;(first|exact hop'|exact hkey');rintro e wK ⟨rfl,hbK⟩;have k0:wK.cell? ⟨w.heap.size,0,none⟩=some (.string op):=cell_later hbK (by assumption);have k1:wK.cell? ⟨w.heap.size,1,none⟩=some (.string key):=cell_later hbK (by assumption);have k2:wK.cell? ⟨w.heap.size,2,none⟩=some (.slice xa n xc):=cell_later hbK (by assumption);have k3:wK.cell? ⟨w.heap.size,3,none⟩=some (.bool no):=cell_later hbK (by assumption);have bK:Below A.heap.size A wK:=Below.chain (by assumption) hbK (Nat.le_refl _);clear hbK)
  all_goals
   go_wp2_with fail
   go_meet
   case rel=>exact ⟨rfl,by assumption,by assumption,by assumption⟩
 case rest=>
  obtain ⟨rfl,hbc,r2,r3⟩:=hcut
  have HBC:Hid (Below w.heap.size w wc):=HBW.out.trans (hbc.mono HBW.out.size)
  clear hbc a0 a1 a2 a3 bA hA
  have hc1:=C1.out wc HBC.out
  have HC1:=hid hc1
  clear hc1 C1
  obtain ⟨Hd,hHd⟩:∃x,(⟨#[123,34,111,112,34,58]⟩++Ref.zy op++⟨#[44,34,107,101,121,34,58]⟩++Ref.zy key:ByteArray)=x:=⟨_,rfl⟩
  have hzH:Hd.size≤200000:=by
   have y1:(⟨#[123,34,111,112,34,58]⟩:ByteArray).size=6:=rfl
   have y2:(⟨#[44,34,107,101,121,34,58]⟩:ByteArray).size=7:=rfl
   rw [← hHd,ByteArray.size_append,ByteArray.size_append,ByteArray.size_append];omega
  rw [hHd]
  have HHD:=hid hHd
  clear hHd z1 z2 hop hkey hop' hkey'
  by_cases hn0:0<n
  ·have dn:decide (0<(n:Int))=true:=by simp;omega
   cases no with
   | true=>
    go_wp2_with (go_at_call 171;refine HC1.out.mono ?_;rintro e w5 ⟨rfl,hb5⟩;have s3:=cell_later hb5 r3;have HB5:=hid (Below.chain HBC.out hb5 (Nat.le_refl _));clear hb5)
    go_ret
    exact ⟨by simp;exact HHD.out.symm,HB5.out⟩
   | false=>
    go_wp2_with (go_at_call 171;refine HC1.out.mono ?_;rintro e w5 ⟨rfl,hb5⟩;have s3:=cell_later hb5 r3;have HB5:=hid (Below.chain HBC.out hb5 (Nat.le_refl _));clear hb5)
    go_ret
    exact ⟨by simp;exact HHD.out.symm,HB5.out⟩
  ·have dn:decide (0<(n:Int))=false:=by simp;omega
   cases no with
   | true=>
    go_wp2
    go_ret
    exact ⟨by simp;exact HHD.out.symm,HBC.out⟩
   | false=>
    go_wp2
    go_ret
    exact ⟨by simp;exact HHD.out.symm,HBC.out⟩
def zal (c:jg):Prop:=c.op.size≤12000∧c.key.size≤12000∧Ref.ut c.vals
structure QS (s:xH):Prop where
 eff:s.eff.size≤12000
 who:Ref.ut s.who.2
 act:Ref.ut s.act.2
 on:Ref.ut s.on.2
 len:s.ifs.length≤5
 cs:∀c ∈ s.ifs,zal c
theorem UG {c:jg} (h:zal c):(Zz c).size≤1300000:=by
 obtain ⟨h1,h2,h3⟩:=h
 have q1:=Ref.zW c.op
 have q2:=Ref.zW c.key
 have q3:=Ref.yA h3
 rw [vX] at q3
 have y1:(⟨#[123,34,111,112,34,58]⟩:ByteArray).size=6:=rfl
 have y2:(⟨#[44,34,107,101,121,34,58]⟩:ByteArray).size=7:=rfl
 have y3:(⟨#[44,34,118,97,108,117,101,34,58]⟩:ByteArray).size=9:=rfl
 have y4:(⟨#[44,34,110,111,34,58,116,114,117,101]⟩:ByteArray).size=10:=rfl
 have y5:(⟨#[125]⟩:ByteArray).size=1:=rfl
 have a:(⟨#[123,34,111,112,34,58]⟩++Ref.zy c.op++⟨#[44,34,107,101,121,34,58]⟩++Ref.zy c.key).size≤200000:=by
  rw [ByteArray.size_append,ByteArray.size_append,ByteArray.size_append];omega
 have d:(⟨#[123,34,111,112,34,58]⟩++Ref.zy c.op++⟨#[44,34,107,101,121,34,58]⟩++Ref.zy c.key++(⟨#[44,34,118,97,108,117,101,34,58]⟩++Zk (c.vals.map Ref.zy))).size≤1200000:=by
  rw [ByteArray.size_append,ByteArray.size_append (a:=⟨#[44,34,118,97,108,117,101,34,58]⟩)];omega
 unfold Zz
 rw [ByteArray.size_append]
 split
 ·rw [ByteArray.size_append]
  split
  ·omega
  ·omega
 ·split
  ·omega
  ·omega
theorem Uc (l:List ByteArray) (M n:Nat) (h:∀x ∈ l,x.size≤M) (hn:l.length≤n):(Zk l).size≤n*(M+1)+2:=by
 have h1:=Qp l M h
 have h2:l.length*(M+1)≤n*(M+1):=Nat.mul_le_mul_right _ hn
 have y1:(⟨#[91]⟩:ByteArray).size=1:=rfl
 have y2:(⟨#[93]⟩:ByteArray).size=1:=rfl
 unfold Zk
 rw [ByteArray.size_append,ByteArray.size_append]
 omega
theorem zlC:∀args w,(callFunc 118 args).run Tryz.prog w = .ok (.enter 118 args) w:=enters_of Tryz.func118 (by kernel_rfl) rfl
theorem zfr (cs:List jg) (lv:Value) (base:Nat) (w:World) (h:qc w base lv cs) (hn:cs.length≤5) (hS:∀c ∈ cs,zal c) :
  Calls Tryz.prog 117 #[lv, .func (.func 118) #[] #[]] w fun e w'=>e = .returned (.string (JF cs))∧Below w.heap.size w w':=by
 have c1:=zjh cs lv base 118 Zz w h (by omega) zlC (fun W c lx hc _ ho=>zdM c lx base W ho (hS c hc).1 (hS c hc).2.1 (hS c hc).2.2)
 have hq:∀x ∈ cs.map Zz,x.size≤1300000:=by
  intro x hx
  rw [List.mem_map] at hx
  obtain ⟨s,hs,rfl⟩:=hx
  exact UG (hS s hs)
 have hz:=Qp _ _ hq
 rw [List.length_map] at hz
 have hz2:(kH (cs.map Zz)).size≤10000000:=by
  have:cs.length*(1300000+1)≤5*(1300000+1):=Nat.mul_le_mul_right _ hn
  omega
 have c2:=fun W lv' (ho:zh W w.heap.size lv' (cs.map Zz))=>zgG (cs.map Zz) lv' w.heap.size W ho (by rw [List.length_map];omega) (by omega)
 unfold JF Zk
 obtain ⟨J,hJ⟩:∃J,kH (cs.map Zz)=J:=⟨_,rfl⟩
 rw [hJ] at hz2 ⊢
 simp only [hJ] at c2
 obtain ⟨M,hM⟩:∃M,cs.map Zz=M:=⟨_,rfl⟩
 rw [hM] at c1
 simp only [hM] at c2
 have C1:=hid c1
 have C2:=hid c2
 obtain ⟨a,c,rfl⟩:∃a c,lv = .slice a cs.length c:=by
  obtain ⟨xs,hx,_⟩:=h
  rcases hx.2 with ⟨rfl,h0⟩|⟨gb,c,cur,rfl,_⟩
  ·exact ⟨_,_,by rw [h0]⟩
  ·exact ⟨_,_,rfl⟩
 clear c1 c2 hJ hM hq hz h hS
 go_enter Tryz.func117,Tryz.ntmps117
 go_wp2_with (first
  | (go_at_call 113;refine (C2.out w1 _ HO.out).mono ?_;rintro e w2 ⟨rfl,hb2⟩;have HB2:=hid (HB1.out.trans (hb2.mono HB1.out.size));clear hb2)
  | (go_at_call 172;refine C1.out.mono ?_;rintro e w1 ⟨lv1,rfl,ho,hb1⟩;have HO:=hid ho;have HB1:=hid hb1;clear ho hb1))
 go_ret
 exact ⟨rfl,HB2.out⟩
theorem JI {cs:List jg} (hn:cs.length≤5) (hS:∀c ∈ cs,zal c):(JF cs).size≤7000000:=by
 have:=Uc (cs.map Zz) 1300000 5 (fun x hx=>by
  rw [List.mem_map] at hx
  obtain ⟨s,hs,rfl⟩:=hx
  exact UG (hS s hs)) (by rw [List.length_map];exact hn)
 unfold JF
 omega
theorem zdy (s:xH) (l1 l2 l3 lc:Value) (base:Nat) (w:World) (h1:zh w base l1 s.who.2) (h2:zh w base l2 s.act.2) (h3:zh w base l3 s.on.2) (h4:qc w base lc s.ifs) (hS:QS s) :
  Calls Tryz.prog 63 #[.agg #[.string s.eff, .bool s.who.1,l1, .bool s.act.1,l2, .bool s.on.1,l3,lc]] w fun e w'=>e = .returned (.string (ku s))∧Below w.heap.size w w':=by
 obtain ⟨eff,who,act,on,ifs⟩:=s
 obtain ⟨z1,z2,z3,z4,z5,z6⟩:=hS
 simp only at h1 h2 h3 h4 z1 z2 z3 z4 z5 z6 ⊢
 unfold ku
 simp only [← Zi]
 have cQ:=fun W=>zci eff W (by omega)
 have cA:=fun W (hb:Below w.heap.size w W)=>Zl who l1 base W (ownsRow_below h1 hb) z2
 have cB:=fun W (hb:Below w.heap.size w W)=>Zl act l2 base W (ownsRow_below h2 hb) z3
 have cC:=fun W (hb:Below w.heap.size w W)=>Zl on l3 base W (ownsRow_below h3 hb) z4
 have cD:=fun W (hb:Below w.heap.size w W)=>zfr ifs lc base W (h4.below hb) z5 z6
 have y1:=Ref.zW eff
 have y2:=Ref.qC z2
 have y3:=Ref.qC z3
 have y4:=Ref.qC z4
 have y5:=JI z5 z6
 obtain ⟨N1,L1⟩:=who
 obtain ⟨N2,L2⟩:=act
 obtain ⟨N3,L3⟩:=on
 simp only at h1 h2 h3 z2 z3 z4 cA cB cC
 obtain ⟨x1,c1,rfl⟩:=zq h1
 obtain ⟨x2,c2,rfl⟩:=zq h2
 obtain ⟨x3,c3,rfl⟩:=zq h3
 obtain ⟨x4,c4,rfl⟩:∃a c,lc = .slice a ifs.length c:=by
  obtain ⟨xs,hx,_⟩:=h4
  rcases hx.2 with ⟨rfl,h0⟩|⟨gb,c,cur,rfl,_⟩
  ·exact ⟨_,_,by rw [h0]⟩
  ·exact ⟨_,_,rfl⟩
 obtain ⟨Q,hQ⟩:∃x,Ref.zy eff=x:=⟨_,rfl⟩
 obtain ⟨G1,hG1⟩:∃x,Ref.yS (N1,L1)=x:=⟨_,rfl⟩
 obtain ⟨G2,hG2⟩:∃x,Ref.yS (N2,L2)=x:=⟨_,rfl⟩
 obtain ⟨G3,hG3⟩:∃x,Ref.yS (N3,L3)=x:=⟨_,rfl⟩
 obtain ⟨G4,hG4⟩:∃x,JF ifs=x:=⟨_,rfl⟩
 simp only [hQ] at cQ y1
 simp only [hG1] at cA y2
 simp only [hG2] at cB y3
 simp only [hG3] at cC y4
 simp only [hG4] at cD y5
 simp only [hQ,hG1,hG2,hG3,hG4]
 obtain ⟨n,hn⟩:∃n,ifs.length=n:=⟨_,rfl⟩
 obtain ⟨n1,hn1⟩:∃n,L1.length=n:=⟨_,rfl⟩
 obtain ⟨n2,hn2⟩:∃n,L2.length=n:=⟨_,rfl⟩
 obtain ⟨n3,hn3⟩:∃n,L3.length=n:=⟨_,rfl⟩
 rw [hn] at cD z5 ⊢
 rw [hn1] at cA ⊢
 rw [hn2] at cB ⊢
 rw [hn3] at cC ⊢
 have CQ:=hid cQ
 have CA:=hid cA
 have CB:=hid cB
 have CC:=hid cC
 have CD:=hid cD
 clear cQ cA cB cC cD h1 h2 h3 h4 z2 z3 z4 z6 hQ hG1 hG2 hG3 hG4 hn hn1 hn2 hn3
 obtain ⟨A,hA⟩:∃A,w.alloc (.cells #[.string eff, .bool N1, .slice x1 n1 c1, .bool N2, .slice x2 n2 c2, .bool N3, .slice x3 n3 c3, .slice x4 n c4] 133)=A:=⟨_,rfl⟩
 have bl:=heap_alloc_new w (.cells #[.string eff, .bool N1, .slice x1 n1 c1, .bool N2, .slice x2 n2 c2, .bool N3, .slice x3 n3 c3, .slice x4 n c4] 133)
 have bwA:Below w.heap.size w A:=by rw [← hA];exact (Below.refl _ w).alloc (Nat.le_refl _) _
 rw [hA] at bl
 have hlt:w.heap.size<A.heap.size:=lt_of_block bl
 have KEEP:Hid (∀W,Below A.heap.size A W→(W.cell? ⟨w.heap.size,0,none⟩=some (.string eff)∧W.cell? ⟨w.heap.size,1,none⟩=some (.bool N1)∧W.cell? ⟨w.heap.size,2,none⟩=some (.slice x1 n1 c1)∧W.cell? ⟨w.heap.size,3,none⟩=some (.bool N2)∧W.cell? ⟨w.heap.size,4,none⟩=some (.slice x2 n2 c2)∧W.cell? ⟨w.heap.size,5,none⟩=some (.bool N3)∧W.cell? ⟨w.heap.size,6,none⟩=some (.slice x3 n3 c3)∧W.cell? ⟨w.heap.size,7,none⟩=some (.slice x4 n c4))∧Below w.heap.size w W):=by
  refine hid (fun W hb=>?_)
  have bW:=(hb.block _ hlt).trans bl
  exact ⟨⟨(cells_of_block bW 0).1,(cells_of_block bW 1).1,(cells_of_block bW 2).1,(cells_of_block bW 3).1,(cells_of_block bW 4).1,(cells_of_block bW 5).1,(cells_of_block bW 6).1,(cells_of_block bW 7).1⟩,bwA.trans (hb.mono bwA.size)⟩
 obtain ⟨⟨a0,a1,a2,a3,a4,a5,a6,a7⟩,_⟩:=KEEP.out A (Below.refl _ _)
 clear bl bwA hlt
 by_cases hn0:0<n
 ·have dn:decide (0<(n:Int))=true:=by simp;omega
  rw [if_pos hn0]
  go_enter Tryz.func63,Tryz.ntmps63
  go_wp2_with (first
   | (go_at_call 117;refine (CD.out w4 (KEEP.out w4 B4).2).mono ?_;rintro e w5 ⟨rfl,hb5⟩;have B5:Below A.heap.size A w5:=Below.chain B4 hb5 (Nat.le_refl _);clear hb5)
   | (go_at_call 116;refine (CC.out w3 (KEEP.out w3 B3).2).mono ?_;rintro e w4 ⟨rfl,hb4⟩;have B4:Below A.heap.size A w4:=Below.chain B3 hb4 (Nat.le_refl _);obtain ⟨⟨e0,e1,e2,e3,e4,e5,e6,e7⟩,_⟩:=KEEP.out w4 B4;clear hb4)
   | (go_at_call 116;refine (CB.out w2 (KEEP.out w2 B2).2).mono ?_;rintro e w3 ⟨rfl,hb3⟩;have B3:Below A.heap.size A w3:=Below.chain B2 hb3 (Nat.le_refl _);obtain ⟨⟨d0,d1,d2,d3,d4,d5,d6,d7⟩,_⟩:=KEEP.out w3 B3;clear hb3)
   | (go_at_call 116;refine (CA.out w1 (KEEP.out w1 B1).2).mono ?_;rintro e w2 ⟨rfl,hb2⟩;have B2:Below A.heap.size A w2:=Below.chain B1 hb2 (Nat.le_refl _);obtain ⟨⟨g0,g1,g2,g3,g4,g5,g6,g7⟩,_⟩:=KEEP.out w2 B2;clear hb2)
   | (go_at_call 115;refine (CQ.out A).mono ?_;rintro e w1 ⟨rfl,hb1⟩;have B1:Below A.heap.size A w1:=hb1;obtain ⟨⟨b0,b1,b2,b3,b4,b5,b6,b7⟩,_⟩:=KEEP.out w1 B1;clear hb1))
  go_ret
  exact ⟨rfl,(KEEP.out w5 B5).2⟩
 ·have dn:decide (0<(n:Int))=false:=by simp;omega
  rw [if_neg hn0]
  go_enter Tryz.func63,Tryz.ntmps63
  go_wp2_with (first
   | (go_at_call 116;refine (CC.out w3 (KEEP.out w3 B3).2).mono ?_;rintro e w4 ⟨rfl,hb4⟩;have B4:Below A.heap.size A w4:=Below.chain B3 hb4 (Nat.le_refl _);obtain ⟨⟨e0,e1,e2,e3,e4,e5,e6,e7⟩,_⟩:=KEEP.out w4 B4;clear hb4)
   | (go_at_call 116;refine (CB.out w2 (KEEP.out w2 B2).2).mono ?_;rintro e w3 ⟨rfl,hb3⟩;have B3:Below A.heap.size A w3:=Below.chain B2 hb3 (Nat.le_refl _);obtain ⟨⟨d0,d1,d2,d3,d4,d5,d6,d7⟩,_⟩:=KEEP.out w3 B3;clear hb3)
   | (go_at_call 116;refine (CA.out w1 (KEEP.out w1 B1).2).mono ?_;rintro e w2 ⟨rfl,hb2⟩;have B2:Below A.heap.size A w2:=Below.chain B1 hb2 (Nat.le_refl _);obtain ⟨⟨g0,g1,g2,g3,g4,g5,g6,g7⟩,_⟩:=KEEP.out w2 B2;clear hb2)
   | (go_at_call 115;refine (CQ.out A).mono ?_;rintro e w1 ⟨rfl,hb1⟩;have B1:Below A.heap.size A w1:=hb1;obtain ⟨⟨b0,b1,b2,b3,b4,b5,b6,b7⟩,_⟩:=KEEP.out w1 B1;clear hb1))
  go_ret
  exact ⟨rfl,(KEEP.out w4 B4).2⟩
end Go.Proofs.YtdakgnaojakldaaGreatDoor
