/- P -/
import Derived.Test.YtdakgnaojakldaaGreatDoorP39
import Derived.Test.YtdakgnaojakldaaGreatDoorP25
set_option maxRecDepth 100000
set_option maxHeartbeats 1000000
namespace Go.Proofs.YtdakgnaojakldaaGreatDoor
open Go.RowKit
theorem YB (s:ByteArray) (w:World) (hs:s.size≤12000) :
  Calls Tryz.prog 64 #[.string s] w fun e w'=>e = .returned (.string (Ref.zy s))∧Below w.heap.size w w':=by
 obtain ⟨R,hR⟩:∃R,Ref.zy s=R:=⟨_,rfl⟩
 rw [hR]
 have HR:=hid hR
 clear hR
 go_enter Tryz.func64,Tryz.ntmps64
 go_wp2
 obtain ⟨O,hO⟩:∃O:Nat→ByteArray,Ref.xh s=O:=⟨_,rfl⟩
 have hsz:∀k,(O k).size≤1+6*k:=fun k=>by rw [← hO];exact Ref.jh s k
 have HO:=hid hO
 have HSZ:=hid hsz
 have O0:Hid (O 0=⟨#[34]⟩):=by rw [← hO];rfl
 clear hO hsz
 go_loopw [4,5] (fun ov iv wr=>∃k:Nat,k≤s.size∧iv = .int .i64 k∧ov = .string (O k)∧Below w.heap.size w wr) (fun _ iv _=>s.size-(intOf iv).toNat)
 case atStart=>exact ⟨0,Nat.zero_le _,rfl,by rw [O0.out],Below.refl _ _⟩
 case round=>
  obtain ⟨k,hk,rfl,rfl,hbel⟩:=hrel
  have z:=HSZ.out k
  obtain ⟨o,ho⟩:∃o,O k=o:=⟨_,rfl⟩
  rw [ho] at z ⊢
  by_cases hlt:k<s.size
  ·have nx:Hid (O (k+1)=Ref.zaZ s o k (s[k].toNat:Int)):=by rw [← ho,← HO.out];exact Ref.XU s k hlt
   have b0:(0:Int)≤(s[k].toNat:Int):=Ref.b0 _
   have b1:(s[k].toNat:Int)≤255:=Ref.zmM _
   clear ho HO HSZ O0 HR
   by_cases hc:32≤(s[k].toNat:Int)∨(s[k].toNat:Int)=10∨(s[k].toNat:Int)=9
   ·have HC:=hid hc
    clear hc
    go_wp2
    all_goals first
     | (exfalso;have hc:=HC.out;simp only [beq_iff_eq,beq_eq_false_iff_ne,ne_eq] at *;omega)
     | (go_roundw
        case rel=>
         refine ⟨k+1,by omega,by go_num,?_,hbel⟩
         rw [nx.out]
         try simp only [beq_iff_eq,beq_eq_false_iff_ne,ne_eq] at *
         unfold Ref.zaZ
         first
          | rw [if_pos (by omega)]
          | rw [if_neg (by omega),if_pos (by omega)]
          | rw [if_neg (by omega),if_neg (by omega),if_pos (by omega)]
          | rw [if_neg (by omega),if_neg (by omega),if_neg (by omega),if_neg (by omega)]
        case measure=>simp [intOf];omega)
   ·have e34:((s[k].toNat:Int)==34)=false:=by simp;omega
    have e92:((s[k].toNat:Int)==92)=false:=by simp;omega
    have e10:((s[k].toNat:Int)==10)=false:=by simp;omega
    have e9:((s[k].toNat:Int)==9)=false:=by simp;omega
    have e32:decide ((s[k].toNat:Int)<32)=true:=by simp;omega
    have nx2:Hid (O (k+1)=o++⟨#[92,117,48,48]⟩++Ref.hexDigits.extract ((s[k].toNat:Int) / 16).toNat (((s[k].toNat:Int) / 16).toNat+1)++Ref.hexDigits.extract ((s[k].toNat:Int) % 16).toNat (((s[k].toNat:Int) % 16).toNat+1)):=by
     rw [nx.out];unfold Ref.zaZ;rw [if_neg (by omega),if_neg (by omega),if_neg (by omega),if_pos (by omega)];rfl
    clear nx hc
    go_wp2_with fail
    go_region
    all_goals
     go_wp2
     go_roundw
     case rel=>
      have d1:((s[k].toNat:Int) / 16).toNat=s[k].toNat / 16:=by omega
      have d2:((s[k].toNat:Int) % 16).toNat=s[k].toNat % 16:=by omega
      have hx:=nx2.out
      rw [d1,d2] at hx
      exact ⟨k+1,by omega,by go_num,by rw [hx];rfl,hbel.drew⟩
     case measure=>simp [intOf];omega
  ·have e:R=o++⟨#[34]⟩:=by rw [← HR.out,← ho,← HO.out,Ref.zy,show k=s.size by omega]
   subst e
   clear HR HO ho
   go_wp2
   go_ret
   exact ⟨rfl,hbel⟩
theorem zaS (s q:ByteArray) (w:World) (hs:s.size≤12000) (hq:Ref.zy s=q) :
  Calls Tryz.prog 64 #[.string s] w fun e w'=>e = .returned (.string q)∧Below w.heap.size w w':=by
 subst hq;exact YB s w hs
theorem Uo (l:List ByteArray) (lv:Value) (base:Nat) (w:World) (h:w.ownsRow base 9 1 lv l.length (Ref.strCells l)) (hl:l.length≤10) (hsz:∀s ∈ l,s.size≤12000) :
  Calls Tryz.prog 119 #[lv] w fun e w'=>e = .returned (.string (Ref.xe l))∧Below w.heap.size w w':=by
 obtain ⟨R,hR⟩:∃R,Ref.xe l=R:=⟨_,rfl⟩
 rw [hR]
 obtain ⟨la,lc,rfl,cL⟩:=qh h
 have HR:=hid hR
 have CL:=hid cL
 have HSZ:=hid hsz
 clear hR cL hsz h
 obtain ⟨O,hO⟩:∃O:Nat→ByteArray,Ref.qP l=O:=⟨_,rfl⟩
 have hsz2:∀k,(O k).size≤1+80000*k:=fun k=>by rw [← hO];exact Ref.xW l HSZ.out k
 have HO:=hid hO
 have HZ:=hid hsz2
 have O0:Hid (O 0=⟨#[91]⟩):=by rw [← hO];rfl
 clear hO hsz2
 go_enter Tryz.func119,Tryz.ntmps119
 go_wp2
 go_loopw [3,4] (fun ov iv wr=>∃k:Nat,k≤l.length∧iv = .int .i64 k∧ov = .string (O k)∧Below w.heap.size w wr) (fun _ iv _=>l.length-(intOf iv).toNat)
 case atStart=>exact ⟨0,Nat.zero_le _,rfl,by rw [O0.out],Below.refl _ _⟩
 case round=>
  obtain ⟨k,hk,rfl,rfl,hbel⟩:=hrel
  have z:=HZ.out k
  obtain ⟨o,ho⟩:∃o,O k=o:=⟨_,rfl⟩
  rw [ho] at z ⊢
  by_cases hlt:k<l.length
  ·obtain ⟨g,rfl,q1⟩:=CL.out k hlt
   rw [Ref.xC l k hlt] at q1
   have q2:=cell_later hbel q1
   have hs12:=HSZ.out l[k] (List.getElem_mem hlt)
   have nx:O (k+1)=(if 0<k then o++⟨#[44]⟩ else o)++Ref.zy l[k]:=by rw [← ho,← HO.out];exact Ref.UW l k hlt
   have hqs:=Ref.zW l[k]
   obtain ⟨s,hs⟩:∃s,l[k]=s:=⟨_,rfl⟩
   rw [hs] at q2 hs12 nx hqs
   obtain ⟨q,hq⟩:∃q,Ref.zy s=q:=⟨_,rfl⟩
   rw [hq] at nx hqs
   have NX:=hid nx
   have HQ:=hid hq
   clear ho HO HZ O0 HR nx hq q1 hs
   by_cases hk0:0<k
   ·have hkb:decide (0<(k:Int))=true:=decide_eq_true (by omega)
    go_wp2_with (go_at_call 64;refine (zaS s q _ hs12 HQ.out).mono ?_;rintro e w2 ⟨rfl,hb2⟩)
    go_roundw
    case rel=>exact ⟨k+1,by omega,by go_num,by rw [NX.out,if_pos hk0],hbel.trans (hb2.mono hbel.size)⟩
    case measure=>simp [intOf];omega
   ·have hkb:decide (0<(k:Int))=false:=decide_eq_false (by omega)
    go_wp2_with (go_at_call 64;refine (zaS s q _ hs12 HQ.out).mono ?_;rintro e w2 ⟨rfl,hb2⟩)
    go_roundw
    case rel=>exact ⟨k+1,by omega,by go_num,by rw [NX.out,if_neg hk0],hbel.trans (hb2.mono hbel.size)⟩
    case measure=>simp [intOf];omega
  ·have e:R=o++⟨#[93]⟩:=by rw [← HR.out,← ho,← HO.out,Ref.xe,show k=l.length by omega]
   subst e
   clear HR HO ho
   go_wp2
   go_ret
   exact ⟨rfl,hbel⟩
def Ref.chosenB (nt:Bool) (l:List ByteArray):ByteArray:=if nt then ⟨#[123,34,110,111,116,34,58]⟩++Ref.xe l++⟨#[125]⟩ else Ref.xe l
theorem Ref.Y2 (l:List ByteArray) (hl:l.length≤10) (h:∀s ∈ l,s.size≤12000):(Ref.xe l).size≤900000:=by
 have:=Ref.xW l h l.length
 have z:(⟨#[93]⟩:ByteArray).size=1:=rfl
 rw [Ref.xe,ByteArray.size_append];omega
theorem Yf (nt:Bool) (l:List ByteArray) (lv:Value) (base:Nat) (w:World) (h:w.ownsRow base 9 1 lv l.length (Ref.strCells l)) (hl:l.length≤10) (hsz:∀s ∈ l,s.size≤12000) :
  Calls Tryz.prog 65 #[.agg #[.bool nt,lv]] w fun e w'=>e = .returned (.string (Ref.chosenB nt l))∧Below w.heap.size w w':=by
 have hz:=Ref.Y2 l hl hsz
 have bA:∀O:Obj,Below w.heap.size w (w.alloc O):=fun O=>(Below.refl _ _).alloc (Nat.le_refl _) O
 have HL:Hid (∀O:Obj,Calls Tryz.prog 119 #[lv] (w.alloc O) fun e w'=>e = .returned (.string (Ref.xe l))∧Below (w.alloc O).heap.size (w.alloc O) w'):=
  fun O=>Uo l lv base _ (ownsRow_below h (bA O)) hl hsz
 have BA:=hid bA
 obtain ⟨q,hq⟩:∃q,Ref.xe l=q:=⟨_,rfl⟩
 unfold Ref.chosenB
 rw [hq] at HL hz ⊢
 obtain ⟨la,lc,rfl,_⟩:=qh h
 clear h hq hsz bA
 cases nt with
 | true=>
  rw [if_pos rfl]
  go_enter Tryz.func65,Tryz.ntmps65
  go_wp2_with fail
  refine (HL.out _).mono ?_
  rintro e w2 ⟨rfl,hb2⟩
  have B2:=hid ((BA.out _).trans (hb2.mono (by simp)))
  clear hb2
  go_wp2
  go_ret
  exact ⟨rfl,B2.out⟩
 | false=>
  rw [if_neg (by simp)]
  go_enter Tryz.func65,Tryz.ntmps65
  go_wp2_with fail
  refine (HL.out _).mono ?_
  rintro e w2 ⟨rfl,hb2⟩
  have B2:=hid ((BA.out _).trans (hb2.mono (by simp)))
  clear hb2
  go_wp2
  go_ret
  exact ⟨rfl,B2.out⟩
end Go.Proofs.YtdakgnaojakldaaGreatDoor
