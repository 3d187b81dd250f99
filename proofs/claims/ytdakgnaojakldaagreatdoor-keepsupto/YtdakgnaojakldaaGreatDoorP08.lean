/- P -/
import Derived.Test.YtdakgnaojakldaaGreatDoorP05
import Derived.Deep.QuietTactic
import Derived.BigQuiet
import Derived.Laws.Rows
import Derived.Laws.AppendOwn
set_option maxRecDepth 100000
set_option maxHeartbeats 2000000
namespace Go.Proofs.YtdakgnaojakldaaGreatDoor
open Go.RowKit
def zu (w:World) (R:Nat) (s:ByteArray) (p:Nat):Prop:=w.cell? ⟨R,0,none⟩=some (.string s)∧w.cell? ⟨R,1,none⟩=some (.int .i64 (p:Int))∧w.frozen? ⟨R,1,none⟩=false
theorem zu.drewN {w:World} {R:Nat} {s:ByteArray} {p:Nat} (h:zu w R s p) (n:Nat):zu (w.drewN n) R s p:=by
 induction n with
 | zero=>exact h
 | succ n ih=>exact ih
theorem zu.lt {w:World} {R:Nat} {s:ByteArray} {p:Nat} (h:zu w R s p):R<w.heap.size:=World.block_lt_of_cell? _ _ h.1
theorem zu.move {w:World} {R:Nat} {s:ByteArray} {p:Nat} (h:zu w R s p) (q:Nat):zu (w.setCell ⟨R,1,none⟩ (.int .i64 (q:Int))) R s q:=by
 obtain ⟨h1,h2,h3⟩:=h
 refine ⟨by rw [zc1 _ _ _ _ _ _ (by omega)];exact h1,?_,by rw [Uk];exact h3⟩
 unfold World.cell? World.setCell at *
 simp only [Array.getElem?_modify,if_true]
 simp only at h2
 cases hb:w.heap[R]? with
 | none=>rw [hb] at h2;simp at h2
 | some o=>
  rw [hb] at h2
  cases o with
  | cells c t f=>
   simp at h2 ⊢
   have hl:=(Array.getElem?_eq_some_iff.1 h2).1
   simp [hl]
  | _=>simp at h2
theorem zJ (w:World) (r:Option Nat):∀n,w.grownBy (w.drewN n) r
 | 0=>⟨rfl,rfl,rfl,Nat.le_refl _,fun _ _ _=>rfl⟩
 | n+1=>have h:=zJ w r n;⟨h.os,h.tape,h.output,h.size,h.block⟩
theorem zf {a b c:World} {r:Option Nat} (h:a.grownBy b r) (k:b.grownBy c r):a.grownBy c r:=
 ⟨k.os.trans h.os,k.tape.trans h.tape,k.output.trans h.output,Nat.le_trans h.size k.size,fun i hi hne=>(k.block i (Nat.lt_of_lt_of_le hi h.size) hne).trans (h.block i hi hne)⟩
theorem qg (a:World) (b o:Nat) (u:Value):a.grownBy (a.setCell ⟨b,o,none⟩ u) (some b):=
 ⟨rfl,rfl,rfl,by simp [World.setCell],fun i _ hne=>Below.heap_setCell a ⟨b,o,none⟩ u i (fun e=>hne (by simp [e]))⟩
theorem VT (s:ByteArray) (R p:Nat) (w:World) (hr:zu w R s p) (hp:p≤s.size) :
  Calls Tryz.prog 143 #[.pointer (some ⟨R,0,none⟩)] w fun e w'=>e = .returned (.int .u8 ((Rd.peek s.data.toList p:Nat):Int))∧∃n,w'=w.drewN n:=by
 obtain ⟨h1,h2,h3⟩:=hr
 by_cases hlt:p<s.size
 ·have e:Rd.peek s.data.toList p=s[p].toNat:=by
   rw [Rd.zcp _ _ (by rw [Ref.zg];exact hlt)];rfl
  rw [e]
  have d:((p:Int)==(s.size:Int))=false:=by rw [beq_eq_false_iff_ne];omega
  have hi:(p:Int)<(s.size:Int):=by omega
  go_enter Tryz.func143,Tryz.ntmps143
  go_wp2_with fail
  go_quiet (fail)
  go_wp2_with fail
  go_quiet (fail)
  go_wp2
  go_ret
  exact ⟨rfl,_,by first|rfl|rw [World.drewN_drewN]⟩
 ·have e:Rd.peek s.data.toList p=0:=Rd.U0 _ _ (by rw [Ref.zg];exact hlt)
  rw [e]
  have d:((p:Int)==(s.size:Int))=true:=by rw [beq_iff_eq];omega
  go_enter Tryz.func143,Tryz.ntmps143
  go_wp2_with fail
  go_quiet (fail)
  go_wp2
  go_ret
  exact ⟨rfl,_,rfl⟩
theorem qR (s:ByteArray) (R p:Nat) (w:World) (hr:zu w R s p) :
  Calls Tryz.prog 94 #[.pointer (some ⟨R,0,none⟩)] w fun e w'=>e = .returned (.iface 140 (.agg #[.int .i64 (p:Int)]))∧w'=w:=by
 obtain ⟨h1,h2,h3⟩:=hr
 go_enter Tryz.func94,Tryz.ntmps94
 go_wp2
 go_ret
 exact ⟨rfl,rfl⟩
def zmg (w:World) (R:Nat):Nat:=match w.cell? ⟨R,1,none⟩ with
 | some (.int _ n)=>n.toNat
 | _=>0
theorem zu.at {w:World} {R:Nat} {s:ByteArray} {p:Nat} (h:zu w R s p):zmg w R=p:=by
 unfold zmg;rw [h.2.1];simp
theorem yu (s:ByteArray) (R p:Nat) (w:World) (hr:zu w R s p) (hp:p≤s.size) (hs:s.size≤4000) :
  Calls Tryz.prog 92 #[.pointer (some ⟨R,0,none⟩)] w fun e w'=>e = .returned (.tuple #[])∧w.grownBy w' (some R)∧zu w' R s (Rd.skip s.data.toList p):=by
 go_enter Tryz.func92,Tryz.ntmps92
 go_wp2
 go_loopw [2] (fun _ wr=>∃q:Nat,q≤s.size∧zu wr R s q∧w.grownBy wr (some R)∧Rd.skip s.data.toList q=Rd.skip s.data.toList p) (fun _ wr=>s.size-zmg wr R)
 case atStart=>exact ⟨p,hp,hr,zJ w _ 0,rfl⟩
 case round=>
  obtain ⟨q,hq,hrq,hg,hsk⟩:=hrel
  have HSK:=hid hsk
  have hat:=hid hrq.at
  clear hsk
  have hpk:=VT s R q wr hrq hq
  have hstep:=Rd.jy s.data.toList q
  obtain ⟨b,hb⟩:∃b,Rd.peek s.data.toList q=b:=⟨_,rfl⟩
  rw [hb] at hpk hstep
  have hblt:b<256:=by rw [← hb];exact Rd.vS _ _
  cases hbl:Rd.blank b with
  | true=>
   rw [hbl,if_pos rfl] at hstep
   have HST:=hid hstep
   have hlt:q<s.size:=by
    have:=Rd.kw s.data.toList q (by rw [hb];exact hbl)
    rwa [Ref.zg] at this
   have hc:(b:Int)=32∨(b:Int)=9∨(b:Int)=10∨(b:Int)=13:=by
    unfold Rd.blank at hbl
    simp at hbl
    omega
   clear hbl hstep hb
   have HRQ:=hid hrq
   have HG:=hid hg
   obtain ⟨h1,h2,h3⟩:=hrq
   clear hr hg
   rcases hc with hc|hc|hc|hc
   all_goals
    go_wp2_with (go_at_call 143;refine hpk.mono ?_;rintro e w1 ⟨rfl,n,rfl⟩)
    go_roundw
    case rel=>exact ⟨q+1,by omega,by have:=(HRQ.out.drewN n).move (q+1);simpa using this,zf HG.out (zf (zJ wr _ n) (qg _ _ _ _)),by rw [← HST.out];exact HSK.out⟩
    case measure=>
     have e1:=((HRQ.out.drewN n).move (q+1)).at
     rw [hat.out,show ((q:Int)+1)=((q+1:Nat):Int) by omega,e1]
     omega
  | false=>
   rw [hbl,if_neg (by decide)] at hstep
   rw [hstep] at HSK
   have n1:((b:Int)==32)=false:=by rw [beq_eq_false_iff_ne];intro e;simp [Rd.blank] at hbl;omega
   have n2:((b:Int)==9)=false:=by rw [beq_eq_false_iff_ne];intro e;simp [Rd.blank] at hbl;omega
   have n3:((b:Int)==10)=false:=by rw [beq_eq_false_iff_ne];intro e;simp [Rd.blank] at hbl;omega
   have n4:((b:Int)==13)=false:=by rw [beq_eq_false_iff_ne];intro e;simp [Rd.blank] at hbl;omega
   clear hbl hstep hb hr
   go_wp2_with (go_at_call 143;refine hpk.mono ?_;rintro e w1 ⟨rfl,n,rfl⟩)
   exact bodyPost_ret (v := .tuple #[]) (by simp [results,Tryz.results92,go_sem]) rfl ⟨rfl,zf hg (zJ wr _ n),by rw [← HSK.out];exact hrq.drewN n⟩
theorem zgw (b:Nat) (w:World) (hb:b<256) :
  Calls Tryz.prog 260 #[.int .u8 (b:Int)] w fun e w'=>e = .returned (.tuple #[.int .i32 (if Ref.hexN b<0 then 0 else Ref.hexN b), .bool (decide (0≤Ref.hexN b))])∧w'=w:=by
 have hc:(0≤b∧b≤47)∨(48≤b∧b≤57)∨(58≤b∧b≤64)∨(65≤b∧b≤70)∨(71≤b∧b≤96)∨(97≤b∧b≤102)∨(103≤b∧b≤255):=by omega
 rcases hc with hc|hc|hc|hc|hc|hc|hc
 ·have hx:Ref.hexN (b:Int) = -1:=by unfold Ref.hexN;rw [if_neg (by omega),if_neg (by omega),if_neg (by omega)]
  rw [hx]
  have d1:decide ((48:Int)≤(b:Int))=false:=decide_eq_false (by omega)
  have d2:decide ((b:Int)≤57)=true:=decide_eq_true (by omega)
  have d3:decide ((97:Int)≤(b:Int))=false:=decide_eq_false (by omega)
  have d4:decide ((b:Int)≤102)=true:=decide_eq_true (by omega)
  have d5:decide ((65:Int)≤(b:Int))=false:=decide_eq_false (by omega)
  have d6:decide ((b:Int)≤70)=true:=decide_eq_true (by omega)
  have b0:(0:Int)≤(b:Int):=by omega
  have b1:(b:Int)≤47:=by omega
  clear hx hc
  go_enter Tryz.func260,Tryz.ntmps260
  go_wp2
  go_ret2
  exact ⟨by first|rfl|(congr),rfl⟩
 ·have hx:Ref.hexN (b:Int)=(b:Int)-48:=by unfold Ref.hexN;rw [if_pos (by omega)]
  rw [hx]
  have d1:decide ((48:Int)≤(b:Int))=true:=decide_eq_true (by omega)
  have d2:decide ((b:Int)≤57)=true:=decide_eq_true (by omega)
  have d3:decide ((97:Int)≤(b:Int))=false:=decide_eq_false (by omega)
  have d4:decide ((b:Int)≤102)=true:=decide_eq_true (by omega)
  have d5:decide ((65:Int)≤(b:Int))=false:=decide_eq_false (by omega)
  have d6:decide ((b:Int)≤70)=true:=decide_eq_true (by omega)
  have b0:(48:Int)≤(b:Int):=by omega
  have b1:(b:Int)≤57:=by omega
  rw [if_neg (show ¬((b:Int)-48<0) by omega),decide_eq_true (show 0≤(b:Int)-48 by omega)]
  clear hx hc
  go_enter Tryz.func260,Tryz.ntmps260
  go_wp2
  go_ret2
  exact ⟨by first|rfl|(congr),rfl⟩
 ·have hx:Ref.hexN (b:Int) = -1:=by unfold Ref.hexN;rw [if_neg (by omega),if_neg (by omega),if_neg (by omega)]
  rw [hx]
  have d1:decide ((48:Int)≤(b:Int))=true:=decide_eq_true (by omega)
  have d2:decide ((b:Int)≤57)=false:=decide_eq_false (by omega)
  have d3:decide ((97:Int)≤(b:Int))=false:=decide_eq_false (by omega)
  have d4:decide ((b:Int)≤102)=true:=decide_eq_true (by omega)
  have d5:decide ((65:Int)≤(b:Int))=false:=decide_eq_false (by omega)
  have d6:decide ((b:Int)≤70)=true:=decide_eq_true (by omega)
  have b0:(58:Int)≤(b:Int):=by omega
  have b1:(b:Int)≤64:=by omega
  clear hx hc
  go_enter Tryz.func260,Tryz.ntmps260
  go_wp2
  go_ret2
  exact ⟨by first|rfl|(congr),rfl⟩
 ·have hx:Ref.hexN (b:Int)=(b:Int)-65+10:=by unfold Ref.hexN;rw [if_neg (by omega),if_neg (by omega),if_pos (by omega)]
  rw [hx]
  have d1:decide ((48:Int)≤(b:Int))=true:=decide_eq_true (by omega)
  have d2:decide ((b:Int)≤57)=false:=decide_eq_false (by omega)
  have d3:decide ((97:Int)≤(b:Int))=false:=decide_eq_false (by omega)
  have d4:decide ((b:Int)≤102)=true:=decide_eq_true (by omega)
  have d5:decide ((65:Int)≤(b:Int))=true:=decide_eq_true (by omega)
  have d6:decide ((b:Int)≤70)=true:=decide_eq_true (by omega)
  have b0:(65:Int)≤(b:Int):=by omega
  have b1:(b:Int)≤70:=by omega
  rw [if_neg (show ¬((b:Int)-65+10<0) by omega),decide_eq_true (show 0≤(b:Int)-65+10 by omega)]
  clear hx hc
  go_enter Tryz.func260,Tryz.ntmps260
  go_wp2
  go_ret2
  exact ⟨by first|rfl|(congr),rfl⟩
 ·have hx:Ref.hexN (b:Int) = -1:=by unfold Ref.hexN;rw [if_neg (by omega),if_neg (by omega),if_neg (by omega)]
  rw [hx]
  have d1:decide ((48:Int)≤(b:Int))=true:=decide_eq_true (by omega)
  have d2:decide ((b:Int)≤57)=false:=decide_eq_false (by omega)
  have d3:decide ((97:Int)≤(b:Int))=false:=decide_eq_false (by omega)
  have d4:decide ((b:Int)≤102)=true:=decide_eq_true (by omega)
  have d5:decide ((65:Int)≤(b:Int))=true:=decide_eq_true (by omega)
  have d6:decide ((b:Int)≤70)=false:=decide_eq_false (by omega)
  have b0:(71:Int)≤(b:Int):=by omega
  have b1:(b:Int)≤96:=by omega
  clear hx hc
  go_enter Tryz.func260,Tryz.ntmps260
  go_wp2
  go_ret2
  exact ⟨by first|rfl|(congr),rfl⟩
 ·have hx:Ref.hexN (b:Int)=(b:Int)-97+10:=by unfold Ref.hexN;rw [if_neg (by omega),if_pos (by omega)]
  rw [hx]
  have d1:decide ((48:Int)≤(b:Int))=true:=decide_eq_true (by omega)
  have d2:decide ((b:Int)≤57)=false:=decide_eq_false (by omega)
  have d3:decide ((97:Int)≤(b:Int))=true:=decide_eq_true (by omega)
  have d4:decide ((b:Int)≤102)=true:=decide_eq_true (by omega)
  have d5:decide ((65:Int)≤(b:Int))=true:=decide_eq_true (by omega)
  have d6:decide ((b:Int)≤70)=false:=decide_eq_false (by omega)
  have b0:(97:Int)≤(b:Int):=by omega
  have b1:(b:Int)≤102:=by omega
  rw [if_neg (show ¬((b:Int)-97+10<0) by omega),decide_eq_true (show 0≤(b:Int)-97+10 by omega)]
  clear hx hc
  go_enter Tryz.func260,Tryz.ntmps260
  go_wp2
  go_ret2
  exact ⟨by first|rfl|(congr),rfl⟩
 ·have hx:Ref.hexN (b:Int) = -1:=by unfold Ref.hexN;rw [if_neg (by omega),if_neg (by omega),if_neg (by omega)]
  rw [hx]
  have d1:decide ((48:Int)≤(b:Int))=true:=decide_eq_true (by omega)
  have d2:decide ((b:Int)≤57)=false:=decide_eq_false (by omega)
  have d3:decide ((97:Int)≤(b:Int))=true:=decide_eq_true (by omega)
  have d4:decide ((b:Int)≤102)=false:=decide_eq_false (by omega)
  have d5:decide ((65:Int)≤(b:Int))=true:=decide_eq_true (by omega)
  have d6:decide ((b:Int)≤70)=false:=decide_eq_false (by omega)
  have b0:(103:Int)≤(b:Int):=by omega
  have b1:(b:Int)≤255:=by omega
  clear hx hc
  go_enter Tryz.func260,Tryz.ntmps260
  go_wp2
  go_ret2
  exact ⟨by first|rfl|(congr),rfl⟩
theorem zep (s:ByteArray) (R p lo hi:Nat) (w:World) (hr:zu w R s p) (hp:p≤s.size) (hs:s.size≤4000) (h0:0<lo) (hlo:lo<256) :
  Calls Tryz.prog 251 #[.pointer (some ⟨R,0,none⟩), .int .u8 (lo:Int), .int .u8 (hi:Int)] w fun e w'=>
   (Rd.within s.data.toList lo hi p=true→e = .returned .nilIface∧w.grownBy w' (some R)∧zu w' R s (p+1)∧p<s.size) ∧
   (Rd.within s.data.toList lo hi p=false→e = .returned (.iface 140 (.agg #[.int .i64 (p:Int)]))∧w.grownBy w' (some R)∧zu w' R s p):=by
 have hpk:=VT s R p w hr hp
 obtain ⟨b,hb⟩:∃b,Rd.peek s.data.toList p=b:=⟨_,rfl⟩
 have hblt:b<256:=by rw [← hb];exact Rd.vS _ _
 have hwt:Rd.within s.data.toList lo hi p=decide (lo≤b∧b≤hi):=by unfold Rd.within;rw [hb]
 rw [hb] at hpk
 have hlt:0<b→p<s.size:=fun h=>by
  have:=Rd.zx s.data.toList p (by rw [hb];omega)
  rwa [Ref.zg] at this
 have HW:=hid hwt
 have HR:=hid hr
 have HL:=hid hlt
 obtain ⟨h1,h2,h3⟩:=hr
 clear hb hwt hlt
 have sf:=fun n=>qR s R p (w.drewN n) (HR.out.drewN n)
 by_cases c1:b<lo
 ·have d1:decide ((b:Int)<(lo:Int))=true:=decide_eq_true (by omega)
  go_enter Tryz.func251,Tryz.ntmps251
  go_wp2_with (first
   | (go_at_call 143;refine hpk.mono ?_;rintro e w1 ⟨rfl,n,rfl⟩)
   | (go_at_call 94;refine (sf n).mono ?_;rintro e w2 ⟨rfl,rfl⟩))
  go_ret
  refine ⟨fun h=>?_,fun _=>⟨rfl,zJ w _ n,HR.out.drewN n⟩⟩
  rw [HW.out] at h
  simp at h
  omega
 have d1:decide ((b:Int)<(lo:Int))=false:=decide_eq_false (by omega)
 by_cases c2:hi<b
 ·have d2:decide ((hi:Int)<(b:Int))=true:=decide_eq_true (by omega)
  go_enter Tryz.func251,Tryz.ntmps251
  go_wp2_with (first
   | (go_at_call 143;refine hpk.mono ?_;rintro e w1 ⟨rfl,n,rfl⟩)
   | (go_at_call 94;refine (sf n).mono ?_;rintro e w2 ⟨rfl,rfl⟩))
  go_ret
  refine ⟨fun h=>?_,fun _=>⟨rfl,zJ w _ n,HR.out.drewN n⟩⟩
  rw [HW.out] at h
  simp at h
  omega
 ·have d2:decide ((hi:Int)<(b:Int))=false:=decide_eq_false (by omega)
  go_enter Tryz.func251,Tryz.ntmps251
  go_wp2_with (go_at_call 143;refine hpk.mono ?_;rintro e w1 ⟨rfl,n,rfl⟩)
  go_ret
  refine ⟨fun _=>⟨rfl,zf (zJ w _ n) (qg _ _ _ _),?_,HL.out (by omega)⟩,fun h=>?_⟩
  ·have:=(HR.out.drewN n).move (p+1)
   simpa using this
  ·rw [HW.out] at h
   simp at h
   omega
def Zm (w:World) (R:Nat) (s:ByteArray) (r:Rd.Res Unit) (e:Ending) (w':World):Prop:=match r with
 | .ok _ q=>e = .returned .nilIface∧w.grownBy w' (some R)∧zu w' R s q∧q≤s.size
 | .err _ q=>e = .returned (.iface 140 (.agg #[.int .i64 (q:Int)]))∧w.grownBy w' (some R)∧zu w' R s q∧q≤s.size
theorem Zm.of {w w':World} {R:Nat} {s:ByteArray} {r r':Rd.Res Unit} {e:Ending} (h:Zm w R s r e w') (hr:r'=r):Zm w R s r' e w':=hr ▸ h
theorem zl1 (s t:ByteArray) (R p:Nat) (w:World) (hr:zu w R s p) (hp:p≤s.size) (hs:s.size≤4000) (ht:t.size≤100) (hz:∀k,k<t.size→(t.data.toList.getD k 0).toNat≠0) :
  Calls Tryz.prog 147 #[.pointer (some ⟨R,0,none⟩), .string t] w fun e w'=>Zm w R s (Rd.xu s.data.toList (t.data.toList.map UInt8.toNat) p) e w':=by
 have HR0:=hid hr
 clear hr
 go_enter Tryz.func147,Tryz.ntmps147
 go_wp2
 go_loopw [8] (fun iv wr=>∃k:Nat,k≤t.size∧iv = .int .i64 k∧p+k≤s.size∧zu wr R s (p+k)∧w.grownBy wr (some R)∧Rd.xu s.data.toList (t.data.toList.map UInt8.toNat) p=Rd.xu s.data.toList ((t.data.toList.map UInt8.toNat).drop k) (p+k)) (fun iv _=>t.size-(intOf iv).toNat)
 case atStart=>exact ⟨0,Nat.zero_le _,rfl,by omega,HR0.out,zJ w _ 0,by simp⟩
 case round=>
  obtain ⟨k,hk,rfl,hpk,hrq,hg,hw⟩:=hrel
  have HW:=hid hw
  have HG:=hid hg
  have HR:=hid hrq
  clear hw hg HR0
  by_cases hlt:k<t.size
  ·have hlti:(k:Int)<(t.size:Int):=by omega
   have hpe:=fun n=>VT s R (p+k) (wr.drewN n) (HR.out.drewN n) hpk
   obtain ⟨b,hb⟩:∃b,Rd.peek s.data.toList (p+k)=b:=⟨_,rfl⟩
   simp only [hb] at hpe
   have hblt:b<256:=by rw [← hb];exact Rd.vS _ _
   obtain ⟨c,hc⟩:∃c,t[k]=c:=⟨_,rfl⟩
   have hcz:=hz k hlt
   rw [Ref.getD_at t k hlt,hc] at hcz
   have hstep:Rd.xu s.data.toList ((t.data.toList.map UInt8.toNat).drop k) (p+k)=if b=c.toNat then Rd.xu s.data.toList ((t.data.toList.map UInt8.toNat).drop (k+1)) (p+k+1) else .err 2 (p+k):=by
    have hkl:k<(t.data.toList.map UInt8.toNat).length:=by rw [List.length_map,Ref.zg];exact hlt
    rw [List.drop_eq_getElem_cons hkl,Rd.xu,hb]
    have:(t.data.toList.map UInt8.toNat)[k]=c.toNat:=by rw [List.getElem_map,← hc];rfl
    rw [this]
   have HST:=hid hstep
   have HB:=hid hb
   clear hstep hb hz
   obtain ⟨h1,h2,h3⟩:=hrq
   by_cases hbc:b=c.toNat
   ·have d:((b:Int) != (c.toNat:Int))=false:=by simp;omega
    have hps:p+k<s.size:=by
     have:=Rd.zx s.data.toList (p+k) (by rw [HB.out];omega)
     rwa [Ref.zg] at this
    go_wp2_with fail
    go_quiet ((go_at_call 143;exact Calls.quiet_of (hpe _)))
    go_wp2
    have hm:zu ((wr.drewN nq).setCell ⟨R,1,none⟩ (.int .i64 ((p:Int)+(k:Int)+1))) R s (p+(k+1)):=by
     have:=(HR.out.drewN nq).move (p+(k+1))
     rw [show ((p:Int)+(k:Int)+1)=((p+(k+1):Nat):Int) by omega]
     exact this
    exact ⟨⟨k+1,by omega,by go_num,by omega,hm,zf HG.out (zf (zJ wr _ nq) (qg _ _ _ _)),by rw [HW.out,HST.out,if_pos hbc];rfl⟩,by simp [intOf];omega⟩
   ·have d:((b:Int) != (c.toNat:Int))=true:=by simp;omega
    have sf:=fun n=>qR s R (p+k) (wr.drewN n) (HR.out.drewN n)
    go_wp2_with fail
    go_quiet ((go_at_call 143;exact Calls.quiet_of (hpe _)))
    go_wp2_with (go_at_call 94;refine (sf nq).mono ?_;rintro e w2 ⟨rfl,rfl⟩)
    go_ret
    refine Zm.of ?_ (HW.out.trans (HST.out.trans (if_neg hbc)))
    exact ⟨rfl,zf HG.out (zJ wr _ nq),HR.out.drewN nq,hpk⟩
  ·have e:Rd.xu s.data.toList ((t.data.toList.map UInt8.toNat).drop k) (p+k) = .ok () (p+k):=by
    rw [List.drop_of_length_le (by rw [List.length_map,Ref.zg];omega),Rd.xu]
   have HE:=hid e
   clear e hrq
   go_wp2
   go_ret
   refine Zm.of ?_ (HW.out.trans HE.out)
   exact ⟨rfl,HG.out,HR.out,hpk⟩
namespace Rd
open Ref
def Ja (l:List UInt8) (p:Nat):Nat→Int
 | 0=>0
 | k+1=>Ja l p k*16+hexN (peek l (p+k))
def okF (l:List UInt8) (p k:Nat):Prop:=(∀j,j<k→0≤hexN (peek l (p+j)))∧(2≤k→¬(hexN (peek l p)=13∧8≤hexN (peek l (p+1))))
theorem zlO (l:List UInt8) (p k:Nat) (h:okF l p k):0≤Ja l p k∧(k=0→Ja l p k=0)∧(k=1→Ja l p k=hexN (peek l p)∧Ja l p k≤15)∧(k=2→Ja l p k≤255)∧(k=3→Ja l p k≤4095)∧(k=4→Ja l p k≤65535∧¬(55296≤Ja l p k∧Ja l p k≤57343)):=by
 obtain ⟨h1,h2⟩:=h
 have a0:=Vf (peek l p)
 have a1:=Vf (peek l (p+1))
 have a2:=Vf (peek l (p+2))
 have a3:=Vf (peek l (p+3))
 match k with
 | 0=>simp [Ja]
 | 1=>
  have g0:=h1 0 (by omega)
  simp only [Ja,Nat.add_zero] at *
  omega
 | 2=>
  have g0:=h1 0 (by omega)
  have g1:=h1 1 (by omega)
  simp only [Ja,Nat.add_zero] at *
  omega
 | 3=>
  have g0:=h1 0 (by omega)
  have g1:=h1 1 (by omega)
  have g2:=h1 2 (by omega)
  simp only [Ja,Nat.add_zero] at *
  omega
 | 4=>
  have g0:=h1 0 (by omega)
  have g1:=h1 1 (by omega)
  have g2:=h1 2 (by omega)
  have g3:=h1 3 (by omega)
  have g4:=h2 (by omega)
  simp only [Ja,Nat.add_zero] at *
  omega
 | k+5=>
  refine ⟨?_,by omega,by omega,by omega,by omega,by omega⟩
  clear h2 a0 a1 a2 a3
  generalize k+5=m at *
  induction m with
  | zero=>simp [Ja]
  | succ m ih=>
   have g:=h1 m (by omega)
   have:=ih (fun j hj=>h1 j (by omega))
   simp only [Ja]
   omega
theorem zdW (l:List UInt8) (p k:Nat) (h:okF l p k) (hk:k<4) (hb:hexN (peek l (p+k))<0∨(k=1∧hexN (peek l p)=13∧8≤hexN (peek l (p+1)))):Xp l p = .err 2 (p+k):=by
 obtain ⟨h1,h2⟩:=h
 unfold Xp
 simp only
 match k with
 | 0=>rw [if_pos (by simpa using hb)];rfl
 | 1=>
  have g0:=h1 0 (by omega)
  simp only [Nat.add_zero] at g0
  rw [if_neg (by omega),if_pos (by omega)]
 | 2=>
  have g0:=h1 0 (by omega)
  have g1:=h1 1 (by omega)
  have g4:=h2 (by omega)
  simp only [Nat.add_zero] at g0
  rw [if_neg (by omega),if_neg (by omega),if_pos (by omega)]
 | 3=>
  have g0:=h1 0 (by omega)
  have g1:=h1 1 (by omega)
  have g2:=h1 2 (by omega)
  have g4:=h2 (by omega)
  simp only [Nat.add_zero] at g0
  rw [if_neg (by omega),if_neg (by omega),if_neg (by omega),if_pos (by omega)]
theorem zlJ (l:List UInt8) (p:Nat) (h:okF l p 4):Xp l p = .ok (enc (Ja l p 4)) (p+4):=by
 obtain ⟨h1,h2⟩:=h
 have g0:=h1 0 (by omega)
 have g1:=h1 1 (by omega)
 have g2:=h1 2 (by omega)
 have g3:=h1 3 (by omega)
 have g4:=h2 (by omega)
 simp only [Nat.add_zero] at g0
 unfold Xp
 simp only
 rw [if_neg (by omega),if_neg (by omega),if_neg (by omega),if_neg (by omega)]
 have:Ja l p 4=((hexN (peek l p)*16+hexN (peek l (p+1)))*16+hexN (peek l (p+2)))*16+hexN (peek l (p+3)):=by
  simp only [Ja,Nat.add_zero];omega
 rw [this]
theorem zea (l:List UInt8) (p k:Nat) (h:okF l p k) (h0:0≤hexN (peek l (p+k))) (hk:k=1→¬(hexN (peek l p)=13∧8≤hexN (peek l (p+1)))):okF l p (k+1):=by
 obtain ⟨h1,h2⟩:=h
 refine ⟨fun j hj=>?_,fun h=>?_⟩
 ·by_cases e:j=k
  ·subst e;exact h0
  ·exact h1 j (by omega)
 ·by_cases e:k=1
  ·exact hk e
  ·exact h2 (by omega)
end Rd
def yt (w:World) (R:Nat) (s:ByteArray) (r:Rd.Res ByteArray) (e:Ending) (w':World):Prop:=match r with
 | .ok u q=>(∃N:Int,e = .returned (.tuple #[.int .i32 N, .nilIface])∧u=Ref.enc N∧0≤N∧N≤65535∧¬(55296≤N∧N≤57343))∧w.grownBy w' (some R)∧zu w' R s q∧q≤s.size
 | .err _ q=>(∃N:Int,e = .returned (.tuple #[.int .i32 N, .iface 140 (.agg #[.int .i64 (q:Int)])])∧0≤N∧N≤65535)∧w.grownBy w' (some R)∧zu w' R s q∧q≤s.size
theorem yt.of {w w':World} {R:Nat} {s:ByteArray} {r r':Rd.Res ByteArray} {e:Ending} (h:yt w R s r e w') (hr:r'=r):yt w R s r' e w':=hr ▸ h
theorem zaX (s:ByteArray) (R p:Nat) (w:World) (hr:zu w R s p) (hp:p≤s.size) (hs:s.size≤4000) :
  Calls Tryz.prog 249 #[.pointer (some ⟨R,0,none⟩)] w fun e w'=>yt w R s (Rd.Xp s.data.toList p) e w':=by
 have HR0:=hid hr
 clear hr
 go_enter Tryz.func249,Tryz.ntmps249
 go_wp2
 go_loopw [4,8] (fun nv iv wr=>∃k:Nat,k≤4∧iv = .int .i64 k∧nv = .int .i32 (Rd.Ja s.data.toList p k)∧Rd.okF s.data.toList p k∧p+k≤s.size∧zu wr R s (p+k)∧w.grownBy wr (some R)) (fun _ iv _=>4-(intOf iv).toNat)
 case atStart=>exact ⟨0,by omega,rfl,rfl,⟨fun j h=>by omega,fun h=>by omega⟩,by omega,HR0.out,zJ w _ 0⟩
 case round=>
  obtain ⟨k,hk,rfl,rfl,hok,hpk,hrq,hg⟩:=hrel
  have hnl:=Rd.zlO s.data.toList p k hok
  obtain ⟨N,hN⟩:∃N,Rd.Ja s.data.toList p k=N:=⟨_,rfl⟩
  have HNx:=hid (show Rd.Ja s.data.toList p (k+1)=Rd.Ja s.data.toList p k*16+Ref.hexN (Rd.peek s.data.toList (p+k)) from rfl)
  rw [hN] at hnl HNx ⊢
  have HOK:=hid hok
  have HG:=hid hg
  have HR:=hid hrq
  clear hok hg HR0
  by_cases hlt:k<4
  ·have hpe:=VT s R (p+k) wr HR.out hpk
   obtain ⟨b,hb⟩:∃b,Rd.peek s.data.toList (p+k)=b:=⟨_,rfl⟩
   rw [hb] at hpe HNx
   have hblt:b<256:=by rw [← hb];exact Rd.vS _ _
   have hhx:=fun W=>zgw b W hblt
   have hle:=Rd.Vf b
   obtain ⟨h,hh⟩:∃h,Ref.hexN (b:Int)=h:=⟨_,rfl⟩
   rw [hh] at HNx hle
   simp only [hh] at hhx
   have sf:=fun n=>qR s R (p+k) (wr.drewN n) (HR.out.drewN n)
   have hN15:0≤N∧N≤4095:=by omega
   obtain ⟨hN0,hN1⟩:=hN15
   by_cases hneg:h<0
   ·have hbad:=Rd.zdW s.data.toList p k HOK.out hlt (.inl (by rw [hb,hh];exact hneg))
    rw [if_pos hneg,decide_eq_false (by omega)] at hhx
    have HBAD:=hid hbad
    clear hbad hb hh hN hnl hrq
    go_wp2_with (first
     | (go_at_call 143;refine hpe.mono ?_;rintro e w1 ⟨rfl,n,rfl⟩)
     | (go_at_call 260;refine (hhx _).mono ?_;rintro e w2 ⟨rfl,rfl⟩)
     | (go_at_call 94;refine (sf n).mono ?_;rintro e w3 ⟨rfl,rfl⟩))
    go_ret2
    refine yt.of ?_ HBAD.out
    exact ⟨⟨0,rfl,by omega,by omega⟩,zf HG.out (zJ wr _ n),HR.out.drewN n,hpk⟩
   rw [if_neg hneg,decide_eq_true (by omega)] at hhx
   have hpos:p+k<s.size:=by
    have:=Rd.zcj s.data.toList (p+k) (by rw [hb,hh];omega)
    rwa [Ref.zg] at this
   have hh0:0≤h:=by omega
   by_cases hk1:k=1
   ·subst hk1
    have hN13:Ref.hexN (Rd.peek s.data.toList p)=N:=(hnl.2.2.1 rfl).1.symm
    by_cases hbd:N=13∧8≤h
    ·have hbad:=Rd.zdW s.data.toList p 1 HOK.out hlt (.inr ⟨rfl,by rw [hN13];exact hbd.1,by rw [hb,hh];exact hbd.2⟩)
     have HBAD:=hid hbad
     obtain ⟨n13,h8⟩:=hbd
     have d8:decide (8≤h)=true:=decide_eq_true h8
     clear hbad hb hh hN hnl hrq hN13
     go_wp2_with (first
      | (go_at_call 143;refine hpe.mono ?_;rintro e w1 ⟨rfl,n,rfl⟩)
      | (go_at_call 260;refine (hhx _).mono ?_;rintro e w2 ⟨rfl,rfl⟩)
      | (go_at_call 94;refine (sf n).mono ?_;rintro e w3 ⟨rfl,rfl⟩))
     go_ret2
     refine yt.of ?_ HBAD.out
     exact ⟨⟨0,rfl,by omega,by omega⟩,zf HG.out (zJ wr _ n),HR.out.drewN n,hpk⟩
    have HOK2:=hid (Rd.zea s.data.toList p 1 HOK.out (by rw [hb,hh];exact hh0) (fun _=>by rw [hN13,hb,hh];exact hbd))
    obtain ⟨h1,h2,h3⟩:=hrq
    clear hb hh hN hnl hN13
    by_cases n13:N=13
    ·have d8:decide (8≤h)=false:=decide_eq_false (by omega)
     clear hbd
     go_wp2_with (first
      | (go_at_call 143;refine hpe.mono ?_;rintro e w1 ⟨rfl,n,rfl⟩)
      | (go_at_call 260;refine (hhx _).mono ?_;rintro e w2 ⟨rfl,rfl⟩)
      | (go_at_call 94;refine (sf n).mono ?_;rintro e w3 ⟨rfl,rfl⟩))
     have hm:zu ((wr.drewN n).setCell ⟨R,1,none⟩ (.int .i64 ((p:Int)+1+1))) R s (p+(1+1)):=by
      have:=(HR.out.drewN n).move (p+(1+1))
      rw [show ((p:Int)+1+1)=((p+(1+1):Nat):Int) by omega]
      exact this
     exact ⟨⟨1+1,by omega,by go_num,by rw [HNx.out,n13];rfl,HOK2.out,by omega,hm,zf HG.out (zf (zJ wr _ n) (qg _ _ _ _))⟩,by simp [intOf]⟩
    ·have d13:(N==13)=false:=by rw [beq_eq_false_iff_ne];exact n13
     clear hbd
     go_wp2_with (first
      | (go_at_call 143;refine hpe.mono ?_;rintro e w1 ⟨rfl,n,rfl⟩)
      | (go_at_call 260;refine (hhx _).mono ?_;rintro e w2 ⟨rfl,rfl⟩)
      | (go_at_call 94;refine (sf n).mono ?_;rintro e w3 ⟨rfl,rfl⟩))
     have hm:zu ((wr.drewN n).setCell ⟨R,1,none⟩ (.int .i64 ((p:Int)+1+1))) R s (p+(1+1)):=by
      have:=(HR.out.drewN n).move (p+(1+1))
      rw [show ((p:Int)+1+1)=((p+(1+1):Nat):Int) by omega]
      exact this
     exact ⟨⟨1+1,by omega,by go_num,by rw [HNx.out],HOK2.out,by omega,hm,zf HG.out (zf (zJ wr _ n) (qg _ _ _ _))⟩,by simp [intOf]⟩
   ·have HOK2:=hid (Rd.zea s.data.toList p k HOK.out (by rw [hb,hh];exact hh0) (fun e=>absurd e hk1))
    have dk1:((k:Int)==1)=false:=by rw [beq_eq_false_iff_ne];omega
    obtain ⟨h1,h2,h3⟩:=hrq
    clear hb hh hN hnl
    go_wp2_with (first
     | (go_at_call 143;refine hpe.mono ?_;rintro e w1 ⟨rfl,n,rfl⟩)
     | (go_at_call 260;refine (hhx _).mono ?_;rintro e w2 ⟨rfl,rfl⟩)
     | (go_at_call 94;refine (sf n).mono ?_;rintro e w3 ⟨rfl,rfl⟩))
    have hm:zu ((wr.drewN n).setCell ⟨R,1,none⟩ (.int .i64 ((p:Int)+(k:Int)+1))) R s (p+(k+1)):=by
     have:=(HR.out.drewN n).move (p+(k+1))
     rw [show ((p:Int)+(k:Int)+1)=((p+(k+1):Nat):Int) by omega]
     exact this
    exact ⟨⟨k+1,by omega,by go_num,by rw [HNx.out],HOK2.out,by omega,hm,zf HG.out (zf (zJ wr _ n) (qg _ _ _ _))⟩,by simp [intOf];omega⟩
  ·obtain rfl:k=4:=by omega
   have hok4:=Rd.zlJ s.data.toList p HOK.out
   rw [hN] at hok4
   have HO4:=hid hok4
   have h4:=hnl.2.2.2.2.2 rfl
   clear hok4 hN hrq
   go_wp2
   go_ret2
   refine yt.of ?_ HO4.out
   exact ⟨⟨N,rfl,rfl,hnl.1,h4.1,h4.2⟩,HG.out,HR.out,hpk⟩
theorem zdI (n:Int) (h:n<128):Ref.one n=Ref.enc n:=by unfold Ref.enc;rw [if_pos h]
theorem zbn (s:ByteArray) (R p:Nat) (w:World) (hr:zu w R s p) (hp:p≤s.size) (hs:s.size≤4000) :
  Calls Tryz.prog 228 #[.pointer (some ⟨R,0,none⟩)] w fun e w'=>yt w R s (Rd.zdG s.data.toList p) e w':=by
 have hpe:=VT s R p w hr hp
 have hE:Rd.zdG s.data.toList p=Rd.zdG s.data.toList p:=rfl
 conv at hE=>rhs;unfold Rd.zdG
 simp only at hE
 obtain ⟨b,hb⟩:∃b,Rd.peek s.data.toList p=b:=⟨_,rfl⟩
 rw [hb] at hpe hE
 have hblt:b<256:=by rw [← hb];exact Rd.vS _ _
 have hpos:b≠0→p<s.size:=fun h=>by
  have:=Rd.zx s.data.toList p (by rw [hb];exact h)
  rwa [Ref.zg] at this
 have HPOS:=hid hpos
 have HR:=hid hr
 have hmv:=fun n=>(HR.out.drewN n).move (p+1)
 obtain ⟨h1,h2,h3⟩:=hr
 clear hb hpos
 have hmv2:∀n,zu ((w.drewN n).setCell ⟨R,1,none⟩ (.int .i64 ((p:Int)+1))) R s (p+1):=fun n=>by
  have:=hmv n
  rw [show ((p:Int)+1)=((p+1:Nat):Int) by omega]
  exact this
 have HMV:=hid hmv2
 clear hmv hmv2
 by_cases c1:b=34∨b=92∨b=47
 ·rw [if_pos c1] at hE
  have HE:=hid hE
  have hlt:=HPOS.out (by omega)
  have hc:(b:Int)=34∨(b:Int)=92∨(b:Int)=47:=by omega
  clear hE c1
  rcases hc with hc|hc|hc
  all_goals
   go_enter Tryz.func228,Tryz.ntmps228
   go_wp2_with (go_at_call 143;refine hpe.mono ?_;rintro e w1 ⟨rfl,n,rfl⟩)
   go_ret2
   refine yt.of ?_ HE.out
   exact ⟨⟨b,by rw [hc];rfl,zdI _ (by omega),by omega,by omega,by omega⟩,zf (zJ w _ n) (qg _ _ _ _),HMV.out n,by omega⟩
 rw [if_neg c1] at hE
 have n1:((b:Int)==34)=false:=by rw [beq_eq_false_iff_ne];omega
 have n2:((b:Int)==92)=false:=by rw [beq_eq_false_iff_ne];omega
 have n3:((b:Int)==47)=false:=by rw [beq_eq_false_iff_ne];omega
 by_cases c4:b=110
 ·rw [if_pos c4] at hE
  have HE:=hid hE
  have hlt:=HPOS.out (by omega)
  have hc:(b:Int)=110:=by omega
  clear hE c1 c4
  go_enter Tryz.func228,Tryz.ntmps228
  go_wp2_with (go_at_call 143;refine hpe.mono ?_;rintro e w1 ⟨rfl,n,rfl⟩)
  go_ret2
  refine yt.of ?_ HE.out
  exact ⟨⟨10,rfl,zdI _ (by omega),by omega,by omega,by omega⟩,zf (zJ w _ n) (qg _ _ _ _),HMV.out n,by omega⟩
 rw [if_neg c4] at hE
 have n4:((b:Int)==110)=false:=by rw [beq_eq_false_iff_ne];omega
 by_cases c5:b=116
 ·rw [if_pos c5] at hE
  have HE:=hid hE
  have hlt:=HPOS.out (by omega)
  have hc:(b:Int)=116:=by omega
  clear hE c1 c5
  go_enter Tryz.func228,Tryz.ntmps228
  go_wp2_with (go_at_call 143;refine hpe.mono ?_;rintro e w1 ⟨rfl,n,rfl⟩)
  go_ret2
  refine yt.of ?_ HE.out
  exact ⟨⟨9,rfl,zdI _ (by omega),by omega,by omega,by omega⟩,zf (zJ w _ n) (qg _ _ _ _),HMV.out n,by omega⟩
 rw [if_neg c5] at hE
 have n5:((b:Int)==116)=false:=by rw [beq_eq_false_iff_ne];omega
 by_cases c6:b=117
 ·rw [if_pos c6] at hE
  have HE:=hid hE
  have hlt:=HPOS.out (by omega)
  have hc:(b:Int)=117:=by omega
  have hfd:=fun n=>zaX s R (p+1) ((w.drewN n).setCell ⟨R,1,none⟩ (.int .i64 ((p:Int)+1))) (HMV.out n) (by omega) hs
  have hg1:=fun n=>zf (zJ w (some R) n) (qg (w.drewN n) R 1 (.int .i64 ((p:Int)+1)))
  have HG1:=hid hg1
  clear hE c1 c4 c5 c6 hg1
  cases hf:Rd.Xp s.data.toList (p+1) with
  | ok u q=>
   rw [hf] at HE
   simp only [hf] at hfd
   clear hf
   go_enter Tryz.func228,Tryz.ntmps228
   go_wp2_with (first
    | (go_at_call 143;refine hpe.mono ?_;rintro e w1 ⟨rfl,n,rfl⟩)
    | (go_at_call 249;refine (hfd n).mono ?_;rintro e w2 ⟨⟨N,rfl,hN⟩,hrest⟩))
   go_ret2
   refine yt.of ?_ HE.out
   exact ⟨⟨N,rfl,hN⟩,zf (HG1.out n) hrest.1,hrest.2⟩
  | err x q=>
   rw [hf] at HE
   simp only [hf] at hfd
   clear hf
   go_enter Tryz.func228,Tryz.ntmps228
   go_wp2_with (first
    | (go_at_call 143;refine hpe.mono ?_;rintro e w1 ⟨rfl,n,rfl⟩)
    | (go_at_call 249;refine (hfd n).mono ?_;rintro e w2 ⟨⟨N,rfl,hN⟩,hrest⟩))
   go_ret2
   refine yt.of ?_ HE.out
   exact ⟨⟨N,rfl,hN⟩,zf (HG1.out n) hrest.1,hrest.2⟩
 ·rw [if_neg c6] at hE
  have HE:=hid hE
  have n6:((b:Int)==117)=false:=by rw [beq_eq_false_iff_ne];omega
  have sf:=fun n=>qR s R p (w.drewN n) (HR.out.drewN n)
  clear hE c1 c4 c5 c6
  go_enter Tryz.func228,Tryz.ntmps228
  go_wp2_with (first
   | (go_at_call 143;refine hpe.mono ?_;rintro e w1 ⟨rfl,n,rfl⟩)
   | (go_at_call 94;refine (sf n).mono ?_;rintro e w3 ⟨rfl,rfl⟩))
  go_ret2
  refine yt.of ?_ HE.out
  exact ⟨⟨0,rfl,by omega,by omega⟩,zJ w _ n,HR.out.drewN n,hp⟩
def yj:List Value:=[.int .u8 194, .int .u8 223, .int .i64 1, .int .u8 128, .int .u8 191, .int .u8 224, .int .u8 224, .int .i64 2, .int .u8 160, .int .u8 191, .int .u8 225, .int .u8 236, .int .i64 2, .int .u8 128, .int .u8 191, .int .u8 237, .int .u8 237, .int .i64 2, .int .u8 128, .int .u8 159, .int .u8 238, .int .u8 239, .int .i64 2, .int .u8 128, .int .u8 191, .int .u8 240, .int .u8 240, .int .i64 3, .int .u8 144, .int .u8 191, .int .u8 241, .int .u8 243, .int .i64 3, .int .u8 128, .int .u8 191, .int .u8 244, .int .u8 244, .int .i64 3, .int .u8 128, .int .u8 143]
theorem zi4 (W:World):(Instr.index 400 (.agg yj.toArray) (.int .i64 0)).run Tryz.prog W = .ok (.agg #[.int .u8 194, .int .u8 223, .int .i64 1, .int .u8 128, .int .u8 191]) W:=by kernel_rfl
theorem zjE (W:World):(Instr.index 400 (.agg yj.toArray) (.int .i64 1)).run Tryz.prog W = .ok (.agg #[.int .u8 224, .int .u8 224, .int .i64 2, .int .u8 160, .int .u8 191]) W:=by kernel_rfl
theorem zjB (W:World):(Instr.index 400 (.agg yj.toArray) (.int .i64 2)).run Tryz.prog W = .ok (.agg #[.int .u8 225, .int .u8 236, .int .i64 2, .int .u8 128, .int .u8 191]) W:=by kernel_rfl
theorem zjM (W:World):(Instr.index 400 (.agg yj.toArray) (.int .i64 3)).run Tryz.prog W = .ok (.agg #[.int .u8 237, .int .u8 237, .int .i64 2, .int .u8 128, .int .u8 159]) W:=by kernel_rfl
theorem zkj (W:World):(Instr.index 400 (.agg yj.toArray) (.int .i64 4)).run Tryz.prog W = .ok (.agg #[.int .u8 238, .int .u8 239, .int .i64 2, .int .u8 128, .int .u8 191]) W:=by kernel_rfl
theorem zjP (W:World):(Instr.index 400 (.agg yj.toArray) (.int .i64 5)).run Tryz.prog W = .ok (.agg #[.int .u8 240, .int .u8 240, .int .i64 3, .int .u8 144, .int .u8 191]) W:=by kernel_rfl
theorem zj4 (W:World):(Instr.index 400 (.agg yj.toArray) (.int .i64 6)).run Tryz.prog W = .ok (.agg #[.int .u8 241, .int .u8 243, .int .i64 3, .int .u8 128, .int .u8 191]) W:=by kernel_rfl
theorem zjK (W:World):(Instr.index 400 (.agg yj.toArray) (.int .i64 7)).run Tryz.prog W = .ok (.agg #[.int .u8 244, .int .u8 244, .int .i64 3, .int .u8 128, .int .u8 143]) W:=by kernel_rfl
theorem zu.same {w w':World} {R:Nat} {s:ByteArray} {p:Nat} (h:zu w R s p) (hh:w'.heap[R]?=w.heap[R]?):zu w' R s p:=by
 obtain ⟨h1,h2,h3⟩:=h
 refine ⟨?_,?_,?_⟩
 ·rw [← h1];simp only [World.cell?,hh]
 ·rw [← h2];simp only [World.cell?,hh]
 ·rw [← h3];simp only [World.frozen?,hh]
theorem zu.alloc {w:World} {R:Nat} {s:ByteArray} {p:Nat} (h:zu w R s p) (O:Obj):zu (w.alloc O) R s p:=h.same ((World.grownBy_alloc w O none).block R h.lt (by simp))
theorem zlA (W:World) (k:Nat) (hk:k<8):(Instr.index 400 (.agg yj.toArray) (.int .i64 (k:Int))).run Tryz.prog W = .ok (.agg #[.int .u8 (Rd.zdE k:Int), .int .u8 (Rd.zdZ k:Int), .int .i64 (Rd.zhg k:Int), .int .u8 (Rd.zab k:Int), .int .u8 (Rd.zba k:Int)]) W:=by
 rcases Rd.lt8 hk with rfl|rfl|rfl|rfl|rfl|rfl|rfl|rfl
 ·exact zi4 W
 ·exact zjE W
 ·exact zjB W
 ·exact zjM W
 ·exact zkj W
 ·exact zjP W
 ·exact zj4 W
 ·exact zjK W
theorem zjz:(Tryz.prog.info? 400).map (·.size)=some yj.toArray.size:=by kernel_rfl
def qo (w:World):Prop:=∃t fr,w.heap[(5:Nat)]?=some (.cells yj.toArray t fr)
theorem qo.same {w w':World} (h:qo w) (hh:w'.heap[(5:Nat)]?=w.heap[(5:Nat)]?):qo w':=by
 obtain ⟨t,fr,h⟩:=h
 exact ⟨t,fr,hh.trans h⟩
theorem qo.lt {w:World} (h:qo w):5<w.heap.size:=by
 obtain ⟨t,fr,h⟩:=h
 exact (Array.getElem?_eq_some_iff.1 h).1
theorem qo.grown {w w':World} {R:Nat} (h:qo w) (hg:w.grownBy w' (some R)) (hR:R≠5):qo w':=h.same (hg.block _ h.lt (by simp;omega))
def Zq (w:World) (R:Nat) (s:ByteArray) (p:Nat) (r:Rd.Res ByteArray) (e:Ending) (w':World):Prop:=match r with
 | .ok u q=>e = .returned .nilIface∧u=Rd.piece s.data.toList p q∧w.grownBy w' (some R)∧zu w' R s q∧q≤s.size∧p≤q
 | .err _ q=>e = .returned (.iface 140 (.agg #[.int .i64 (q:Int)]))∧w.grownBy w' (some R)∧zu w' R s q∧q≤s.size∧p≤q
theorem Zq.of {w w':World} {R:Nat} {s:ByteArray} {p:Nat} {r r':Rd.Res ByteArray} {e:Ending} (h:Zq w R s p r e w') (hr:r'=r):Zq w R s p r' e w':=hr ▸ h
theorem VZ (s:ByteArray) (R p:Nat) (w:World) (hr:zu w R s p) (hp:p≤s.size) :
  Calls Tryz.prog 143 #[.pointer (some ⟨R,0,none⟩)] w fun e w'=>e = .returned (.int .u8 ((Rd.peek s.data.toList p:Nat):Int))∧zu w' R s p∧w.grownBy w' (some R)∧(∀i:Nat,w'.heap[i]?=w.heap[i]?)∧w'.heap.size=w.heap.size:=by
 refine (VT s R p w hr hp).mono ?_
 rintro e w' ⟨rfl,n,rfl⟩
 have hn:∀n,(w.drewN n).heap=w.heap:=fun n=>by
  induction n with
  | zero=>rfl
  | succ n ih=>exact ih
 exact ⟨rfl,hr.drewN n,zJ w _ n,fun i=>by rw [hn],by rw [hn]⟩
theorem zfe (s:ByteArray) (R p:Nat) (w:World) (hr:zu w R s p) (hp:p≤s.size) (hs:s.size≤4000) (hq:qo w) :
  Calls Tryz.prog 230 #[.pointer (some ⟨R,0,none⟩)] w fun e w'=>Zq w R s p (Rd.zao s.data.toList p) e w':=by
 obtain ⟨tt,fr,hh⟩:=hq
 have hrowA:=zlA
 have hsz:=zjz
 obtain ⟨A,hA⟩:∃A,yj.toArray=A:=⟨_,rfl⟩
 rw [hA] at hh hsz
 simp only [hA] at hrowA
 clear hA
 have hpe:=VZ s R p w hr hp
 obtain ⟨b,hb⟩:∃b,Rd.peek s.data.toList p=b:=⟨_,rfl⟩
 rw [hb] at hpe
 have hblt:b<256:=by rw [← hb];exact Rd.vS _ _
 have hpe2:Calls Tryz.prog 143 #[.pointer (some ⟨R,0,none⟩)] w fun e w'=>e = .returned (.int .u8 (b:Int))∧zu w' R s p∧w.grownBy w' (some R)∧w'.heap[(5:Nat)]?=some (.cells A tt fr):=by
  refine hpe.mono ?_
  rintro e w' ⟨rfl,h1,h2,h3,_⟩
  exact ⟨rfl,h1,h2,(h3 _).trans hh⟩
 have HB:=hid hb
 clear hpe hb hr hh
 have hlt0:128≤b→p<s.size:=fun h=>by
  have:=Rd.zx s.data.toList p (by rw [HB.out];omega)
  rwa [Ref.zg] at this
 have HL0:=hid hlt0
 clear hlt0
 go_enter Tryz.func230,Tryz.ntmps230
 go_wp2_with (first
  | (go_at_call 143;refine hpe2.mono ?_;rintro e w1 ⟨rfl,hr1,hg1,hh1⟩)
  | (refine wpList_load_row rfl 400 _ rfl 5 rfl tt A fr _ hh1 Tryz.underlying400 rfl hsz ?_))
 have HR1:=hid hr1
 have HG1:=hid hg1
 clear hr1 hg1 hh1 hpe2 hsz
 go_loopw [11] (fun iv wr=>∃k:Nat,k≤8∧iv = .int .i64 k∧zu wr R s p∧w.grownBy wr (some R)∧(∀i,i<k→b<Rd.zdE i∨Rd.zdZ i<b)) (fun iv _=>8-(intOf iv).toNat)
 case atStart=>exact ⟨0,by omega,rfl,HR1.out,HG1.out,fun i hi=>by omega⟩
 case round=>
  obtain ⟨k,hk,rfl,hrq,hg,hno⟩:=hrel
  have HNO:=hid hno
  have HR:=hid hrq
  have HG:=hid hg
  clear hno hrq hg HR1 HG1
  by_cases hlt:k<8
  ·have hrow:=fun W=>hrowA W k hlt
   have hbd:=Rd.Qu k hlt
   have hFL:=fun (h1:Rd.zdE k≤b) (h2:b≤Rd.zdZ k)=>And.intro h1 h2
   have hsec:=Rd.zfV s.data.toList p k hlt
   have htl:=fun j=>Rd.zjo s.data.toList p k j hlt
   have hdn:=Rd.zjc s.data.toList p k hlt
   rw [HB.out] at hsec hdn
   simp only [HB.out] at htl
   have hnx:b<Rd.zdE k∨Rd.zdZ k<b→∀i,i<k+1→b<Rd.zdE i∨Rd.zdZ i<b:=fun h i hi=>by
    by_cases e:i=k
    ·subst e;exact h
    ·exact HNO.out i (by omega)
   obtain ⟨F,hF⟩:∃F,Rd.zdE k=F:=⟨_,rfl⟩
   obtain ⟨L,hL⟩:∃L,Rd.zdZ k=L:=⟨_,rfl⟩
   obtain ⟨N,hN⟩:∃N,Rd.zhg k=N:=⟨_,rfl⟩
   obtain ⟨lo,hlo⟩:∃N,Rd.zab k=N:=⟨_,rfl⟩
   obtain ⟨hi,hhi⟩:∃N,Rd.zba k=N:=⟨_,rfl⟩
   rw [hF,hL,hN,hlo,hhi] at hbd
   rw [hF,hL] at hnx
   simp only [hF,hL,hN,hlo,hhi] at hrow hsec htl hdn
   clear hFL hF hL hN hlo hhi
   have HNX:=hid hnx
   have HSEC:=hid hsec
   have HTL:=hid htl
   have HDN:=hid hdn
   clear hnx hsec htl hdn hrowA
   obtain ⟨b1,b2,b3,b4,b5,b6,b7,b8⟩:=hbd
   by_cases c1:b<F
   ·have d1:decide ((b:Int)<(F:Int))=true:=decide_eq_true (by omega)
    go_wp2
    go_roundw
    case rel=>exact ⟨k+1,by omega,by go_num,HR.out.alloc _,zf HG.out (World.grownBy_alloc _ _ _),HNX.out (.inl c1)⟩
    case measure=>simp [intOf];omega
   have d1:decide ((b:Int)<(F:Int))=false:=decide_eq_false (by omega)
   by_cases c2:L<b
   ·have d2:decide ((L:Int)<(b:Int))=true:=decide_eq_true (by omega)
    go_wp2
    go_roundw
    case rel=>exact ⟨k+1,by omega,by go_num,HR.out.alloc _,zf HG.out (World.grownBy_alloc _ _ _),HNX.out (.inr c2)⟩
    case measure=>simp [intOf];omega
   have d2:decide ((L:Int)<(b:Int))=false:=decide_eq_false (by omega)
   have hps:p<s.size:=HL0.out (by omega)
   have hmv:zu (wr.setCell ⟨R,1,none⟩ (.int .i64 ((p:Int)+1))) R s (p+1):=by
    have:=HR.out.move (p+1)
    rw [show ((p:Int)+1)=((p+1:Nat):Int) by omega]
    exact this
   have hRlt:=HR.out.lt
   have hg3:w.grownBy ((wr.setCell ⟨R,1,none⟩ (.int .i64 ((p:Int)+1))).alloc (.cells #[.int .u8 (F:Int), .int .u8 (L:Int), .int .i64 (N:Int), .int .u8 (lo:Int), .int .u8 (hi:Int)] 399)) (some R):=
    zf HG.out (zf (qg _ _ _ _) (World.grownBy_alloc _ _ _))
   have hc3:((wr.setCell ⟨R,1,none⟩ (.int .i64 ((p:Int)+1))).alloc (.cells #[.int .u8 (F:Int), .int .u8 (L:Int), .int .i64 (N:Int), .int .u8 (lo:Int), .int .u8 (hi:Int)] 399)).cell? ⟨wr.heap.size,2,none⟩=some (.int .i64 (N:Int)):=by
    have e:(wr.setCell ⟨R,1,none⟩ (.int .i64 ((p:Int)+1))).heap.size=wr.heap.size:=by simp [World.setCell]
    have:=heap_alloc_new (wr.setCell ⟨R,1,none⟩ (.int .i64 ((p:Int)+1))) (.cells #[.int .u8 (F:Int), .int .u8 (L:Int), .int .i64 (N:Int), .int .u8 (lo:Int), .int .u8 (hi:Int)] 399)
    rw [e] at this
    simp only [World.cell?,this]
    rfl
   have hw:=zep s R (p+1) lo hi _ (hmv.alloc (.cells #[.int .u8 (F:Int), .int .u8 (L:Int), .int .i64 (N:Int), .int .u8 (lo:Int), .int .u8 (hi:Int)] 399)) (by omega) hs b6 b7
   have g1:=fun O=>(HR.out.alloc O).1
   have g2:=fun O=>(HR.out.alloc O).2.1
   have g3:=fun O=>(HR.out.alloc O).2.2
   have HG3:=hid hg3
   have HC3:=hid hc3
   clear hg3 hc3 hmv
   cases hwt:Rd.within s.data.toList lo hi (p+1) with
   | false=>
    have HE:=hid (HSEC.out (by omega) (by omega) hwt)
    have hw1:=hw.mono (R':=fun e w'=>e = .returned (.iface 140 (.agg #[.int .i64 ((p+1:Nat):Int)]))∧w.grownBy w' (some R)∧zu w' R s (p+1)) (by
     rintro e w' ⟨_,h⟩
     obtain ⟨rfl,h2,h3⟩:=h hwt
     exact ⟨rfl,zf HG3.out h2,h3⟩)
    clear hw hwt
    go_wp2_with (go_at_call 251;refine hw1.mono ?_;rintro e w4 ⟨rfl,hg4,hr4⟩)
    go_ret
    refine Zq.of ?_ HE.out
    exact ⟨rfl,hg4,hr4,by omega,by omega⟩
   | true=>
    have HWT:=hid hwt
    have hw1:=hw.mono (R':=fun e w'=>e = .returned .nilIface∧w.grownBy w' (some R)∧zu w' R s (p+2)∧w'.cell? ⟨wr.heap.size,2,none⟩=some (.int .i64 (N:Int))∧p+1<s.size) (by
     rintro e w' ⟨h,_⟩
     obtain ⟨rfl,h2,h3,h4⟩:=h hwt
     exact ⟨rfl,zf HG3.out h2,h3,h2.cell HC3.out (by simp;omega),h4⟩)
    clear hw hwt
    have bn1:1≤(N:Int):=by omega
    have bn2:(N:Int)≤3:=by omega
    go_wp2_with (go_at_call 251;refine hw1.mono ?_;rintro e w4 ⟨rfl,hg4,hr4,hc4,hl4⟩)
    have HG4:=hid hg4
    have HR4:=hid hr4
    clear hg4 hr4 hw1 g1 g2 g3 HG3 HC3
    go_loopw [43] (fun iv wi=>∃j:Nat,j+1≤N∧iv = .int .i64 j∧zu wi R s (p+2+j)∧w.grownBy wi (some R)∧Rd.zem s.data.toList p j∧p+2+j≤s.size) (fun iv _=>N-(intOf iv).toNat)
    case atStart=>exact ⟨0,by omega,rfl,HR4.out,HG4.out,fun i hi=>by omega,by omega⟩
    case round=>
     obtain ⟨j,hjN,rfl,hrj,hgj,htj,hpj⟩:=hrel
     have HRJ:=hid hrj
     have HGJ:=hid hgj
     have HTJ:=hid htj
     clear hrj hgj htj HG4 HR4
     have hwj:=zep s R (p+2+j) 128 191 wr HRJ.out hpj hs (by omega) (by omega)
     by_cases hjl:j+1<N
     ·have hji:(j:Int)<(N:Int)-1:=by omega
      cases hwt:Rd.within s.data.toList 128 191 (p+2+j) with
      | false=>
       have HE:=hid (HTL.out j (by omega) (by omega) HWT.out HTJ.out hjl hwt)
       have hw1:=hwj.mono (R':=fun e w'=>e = .returned (.iface 140 (.agg #[.int .i64 ((p+2+j:Nat):Int)]))∧w.grownBy w' (some R)∧zu w' R s (p+2+j)) (by
        rintro e w' ⟨_,h⟩
        obtain ⟨rfl,h2,h3⟩:=h hwt
        exact ⟨rfl,zf HGJ.out h2,h3⟩)
       clear hwj hwt
       go_wp2_with (go_at_call 251;refine hw1.mono ?_;rintro e w5 ⟨rfl,hg5,hr5⟩)
       go_ret
       refine Zq.of ?_ HE.out
       exact ⟨rfl,hg5,hr5,by omega,by omega⟩
      | true=>
       have HT2:=hid (show Rd.zem s.data.toList p (j+1) from fun i hi=>by
        by_cases e:i=j
        ·subst e;exact hwt
        ·exact HTJ.out i (by omega))
       have hw1:=hwj.mono (R':=fun e w'=>e = .returned .nilIface∧w.grownBy w' (some R)∧zu w' R s (p+2+(j+1))∧p+2+j<s.size) (by
        rintro e w' ⟨h,_⟩
        obtain ⟨rfl,h2,h3,h4⟩:=h hwt
        exact ⟨rfl,zf HGJ.out h2,h3,h4⟩)
       clear hwj hwt
       go_wp2_with (go_at_call 251;refine hw1.mono ?_;rintro e w5 ⟨rfl,hg5,hr5,hl5⟩)
       go_roundw
       case rel=>exact ⟨j+1,by omega,by go_num,hr5,hg5,HT2.out,by omega⟩
       case measure=>simp [intOf];omega
     ·have hji:¬(j:Int)<(N:Int)-1:=by omega
      obtain rfl:N=j+1:=by omega
      have HE:=hid (HDN.out (by omega) (by omega) HWT.out HTJ.out)
      clear hwj
      go_wp2
      go_ret
      refine Zq.of ?_ HE.out
      exact ⟨rfl,rfl,HGJ.out,by have:=HRJ.out;rwa [show p+1+(j+1)=p+2+j by omega],by omega,by omega⟩
  ·have HE:=hid (Rd.zjm s.data.toList p (by rw [HB.out];exact Rd.zh9 b (fun i hi=>HNO.out i (by omega))))
   have sf:=qR s R p wr HR.out
   go_wp2_with (go_at_call 94;refine sf.mono ?_;rintro e w2 ⟨rfl,rfl⟩)
   go_ret
   refine Zq.of ?_ HE.out
   exact ⟨rfl,HG.out,HR.out,hp,Nat.le_refl _⟩
end Go.Proofs.YtdakgnaojakldaaGreatDoor
