/- P -/
import Derived.Deep.AppendLies
import Derived.Test.YtdakgnaojakldaaGreatDoorP25
set_option maxRecDepth 100000
set_option maxHeartbeats 4000000
namespace Go.Proofs.YtdakgnaojakldaaGreatDoor
open Go.RowKit
def zlY (k:Nat):UInt8:=(#[48,49,50,51,52,53,54,55,56,57,97,98,99,100,101,102]:Array UInt8).getD k 0
def zmx (b:UInt8):ByteArray:=
 if b.toNat=34∨b.toNat=92 then ⟨#[92,b]⟩ else if b.toNat=10 then ⟨#[92,110]⟩ else if b.toNat=9 then ⟨#[92,116]⟩
 else if b.toNat<32 then ⟨#[92,117,48,48,zlY (b.toNat / 16),zlY (b.toNat % 16)]⟩ else ⟨#[b]⟩
theorem Zd {w:World} {B:Nat} {v':Value} {t u:ByteArray} {n:Nat} {news:List Value} (hn:u.size=n) (hu:Rd.vI u=news) (h:w.ownsRow B 5 1 v' (t.size+n) (Rd.vI t++news)):uU w B v' (t++u):=by
 unfold uU
 rw [Rd.uw,hu,show (t++u).size=t.size+n by simp [hn]]
 exact h
theorem qM (w:World) (cs:Array Value) (t:TypeId):∀(j:Nat) (u:Value),cs.toList[j]?=some u→(w.alloc (.cells cs t)).cell? ((⟨w.heap.size,0,none⟩:Addr).add j)=some u:=by
 intro j u hu
 have h:=(cells_of_block (heap_alloc_new w (.cells cs t)) j).1
 rw [addr_add]
 simp only [Nat.zero_add]
 rw [h]
 simpa using hu
theorem ze6 (w:World) (cs:Array Value) (t:TypeId):∀(j:Nat) (u:Value),cs.toList[j]?=some u→(w.alloc (.cells cs t)).drew.cell? ((⟨w.heap.size,0,none⟩:Addr).add j)=some u:=qM w cs t
theorem J3 (t:ByteArray) (v:Value) (B:Nat) (b:UInt8) (w:World) (h:uU w B v t) (hB:B≤w.heap.size) (ht:t.size≤1000000) :
  Calls Tryz.prog 170 #[v, .int .u8 (b.toNat:Int)] w fun e w'=>∃v',e = .returned v'∧uU w' B v' (t++zmx b)∧Below B w w':=by
 obtain ⟨a,c,rfl⟩:=zq h
 obtain ⟨i0,hi,hz0,hz1,hz2⟩:=info_parts Xu
 have HO:=hid h
 have hgo:∀k,(Value.slice a t.size c).ownBlock=some k→B≤k:=fun k hk=>(World.ownsRow.lt h k hk).1
 have HGO:=hid hgo
 obtain ⟨U,hU⟩:∃U,zmx b=U:=⟨_,rfl⟩
 rw [hU]
 unfold zmx at hU
 have hb255:b.toNat<256:=UInt8.toNat_lt b
 clear h hgo
 have fin:∀(w1:World) (O:Obj),Below B w (w.alloc O):=fun _ O=>(Below.refl _ w).alloc hB O
 by_cases c1:b.toNat=34∨b.toNat=92
 ·rw [if_pos c1] at hU
  subst hU
  rcases c1 with c1|c1
  ·have e1:((b.toNat:Int)==34)=true:=by simp;omega
   clear c1
   go_enter Tryz.func170,Tryz.ntmps170
   go_wp2_with (at_builtin;refine wpList_append_own _ rfl _ _ 256 rfl B 5 i0 (.int .u8 0) 1 1 Tryz.underlying256 hi hz0 hz1 hz2 rfl (by decide) _ t.size (Rd.vI t) rfl (World.ownsRow.alloc HO.out _) ⟨w.heap.size,0,none⟩ 2 2 [.int .u8 92, .int .u8 (b.toNat:Int)] rfl rfl ?_ ?_ ?_ ?_ ?_ ?_)
   ·exact qM _ _ _
   ·intro u hu;simp at hu;rcases hu with rfl|rfl<;>rfl
   ·unfold maxLen;omega
   ·omega
   ·simp;omega
   ·intro v' w3 hown' hgrow _
    go_wp2
    go_ret
    exact ⟨_,rfl,Zd (u:=⟨#[92,b]⟩) rfl rfl hown',(fin w _).grown hgrow (by simp;omega) HGO.out⟩
  ·have e0:((b.toNat:Int)==34)=false:=by simp;omega
   have e1:((b.toNat:Int)==92)=true:=by simp;omega
   clear c1
   go_enter Tryz.func170,Tryz.ntmps170
   go_wp2_with (at_builtin;refine wpList_append_own _ rfl _ _ 256 rfl B 5 i0 (.int .u8 0) 1 1 Tryz.underlying256 hi hz0 hz1 hz2 rfl (by decide) _ t.size (Rd.vI t) rfl (World.ownsRow.alloc HO.out _) ⟨w.heap.size,0,none⟩ 2 2 [.int .u8 92, .int .u8 (b.toNat:Int)] rfl rfl ?_ ?_ ?_ ?_ ?_ ?_)
   ·exact qM _ _ _
   ·intro u hu;simp at hu;rcases hu with rfl|rfl<;>rfl
   ·unfold maxLen;omega
   ·omega
   ·simp;omega
   ·intro v' w3 hown' hgrow _
    go_wp2
    go_ret
    exact ⟨_,rfl,Zd (u:=⟨#[92,b]⟩) rfl rfl hown',(fin w _).grown hgrow (by simp;omega) HGO.out⟩
 rw [if_neg c1] at hU
 have e1:((b.toNat:Int)==34)=false:=by simp;omega
 have e2:((b.toNat:Int)==92)=false:=by simp;omega
 by_cases c2:b.toNat=10
 ·rw [if_pos c2] at hU
  subst hU
  have e3:((b.toNat:Int)==10)=true:=by simp;omega
  clear c1 c2
  go_enter Tryz.func170,Tryz.ntmps170
  go_wp2_with (at_builtin;refine wpList_append_own _ rfl _ _ 256 rfl B 5 i0 (.int .u8 0) 1 1 Tryz.underlying256 hi hz0 hz1 hz2 rfl (by decide) _ t.size (Rd.vI t) rfl (World.ownsRow.alloc HO.out _) ⟨w.heap.size,0,none⟩ 2 2 [.int .u8 92, .int .u8 110] rfl rfl ?_ ?_ ?_ ?_ ?_ ?_)
  ·exact qM _ _ _
  ·intro u hu;simp at hu;rcases hu with rfl|rfl<;>rfl
  ·unfold maxLen;omega
  ·omega
  ·simp;omega
  ·intro v' w3 hown' hgrow _
   go_wp2
   go_ret
   exact ⟨_,rfl,Zd (u:=⟨#[92,110]⟩) rfl rfl hown',(fin w _).grown hgrow (by simp;omega) HGO.out⟩
 rw [if_neg c2] at hU
 have e3:((b.toNat:Int)==10)=false:=by simp;omega
 by_cases c3:b.toNat=9
 ·rw [if_pos c3] at hU
  subst hU
  have e4:((b.toNat:Int)==9)=true:=by simp;omega
  clear c1 c2 c3
  go_enter Tryz.func170,Tryz.ntmps170
  go_wp2_with (at_builtin;refine wpList_append_own _ rfl _ _ 256 rfl B 5 i0 (.int .u8 0) 1 1 Tryz.underlying256 hi hz0 hz1 hz2 rfl (by decide) _ t.size (Rd.vI t) rfl (World.ownsRow.alloc HO.out _) ⟨w.heap.size,0,none⟩ 2 2 [.int .u8 92, .int .u8 116] rfl rfl ?_ ?_ ?_ ?_ ?_ ?_)
  ·exact qM _ _ _
  ·intro u hu;simp at hu;rcases hu with rfl|rfl<;>rfl
  ·unfold maxLen;omega
  ·omega
  ·simp;omega
  ·intro v' w3 hown' hgrow _
   go_wp2
   go_ret
   exact ⟨_,rfl,Zd (u:=⟨#[92,116]⟩) rfl rfl hown',(fin w _).grown hgrow (by simp;omega) HGO.out⟩
 rw [if_neg c3] at hU
 have e4:((b.toNat:Int)==9)=false:=by simp;omega
 by_cases c4:b.toNat<32
 ·rw [if_pos c4] at hU
  subst hU
  have hall:∀k:Nat,k<32→k≠9→k≠10→b.toNat=k→Calls Tryz.prog 170 #[Value.slice a t.size c, .int .u8 (b.toNat:Int)] w fun e w'=>∃v',e = .returned v'∧uU w' B v' (t++⟨#[92,117,48,48,zlY (b.toNat / 16),zlY (b.toNat % 16)]⟩)∧Below B w w':=by
   intro k hk h9 h10 hbk
   rw [hbk]
   clear e1 e2 e3 e4 c1 c2 c3 c4 hbk
   have hk':k=0∨k=1∨k=2∨k=3∨k=4∨k=5∨k=6∨k=7∨k=8∨k=11∨k=12∨k=13∨k=14∨k=15∨k=16∨k=17∨k=18∨k=19∨k=20∨k=21∨k=22∨k=23∨k=24∨k=25∨k=26∨k=27∨k=28∨k=29∨k=30∨k=31:=by omega
   clear hk h9 h10
   have q0:bits BinOp.and IntKind.u8 0 15=0:=by decide +kernel
   have q1:bits BinOp.and IntKind.u8 1 15=1:=by decide +kernel
   have q2:bits BinOp.and IntKind.u8 2 15=2:=by decide +kernel
   have q3:bits BinOp.and IntKind.u8 3 15=3:=by decide +kernel
   have q4:bits BinOp.and IntKind.u8 4 15=4:=by decide +kernel
   have q5:bits BinOp.and IntKind.u8 5 15=5:=by decide +kernel
   have q6:bits BinOp.and IntKind.u8 6 15=6:=by decide +kernel
   have q7:bits BinOp.and IntKind.u8 7 15=7:=by decide +kernel
   have q8:bits BinOp.and IntKind.u8 8 15=8:=by decide +kernel
   have q11:bits BinOp.and IntKind.u8 11 15=11:=by decide +kernel
   have q12:bits BinOp.and IntKind.u8 12 15=12:=by decide +kernel
   have q13:bits BinOp.and IntKind.u8 13 15=13:=by decide +kernel
   have q14:bits BinOp.and IntKind.u8 14 15=14:=by decide +kernel
   have q15:bits BinOp.and IntKind.u8 15 15=15:=by decide +kernel
   have q16:bits BinOp.and IntKind.u8 16 15=0:=by decide +kernel
   have q17:bits BinOp.and IntKind.u8 17 15=1:=by decide +kernel
   have q18:bits BinOp.and IntKind.u8 18 15=2:=by decide +kernel
   have q19:bits BinOp.and IntKind.u8 19 15=3:=by decide +kernel
   have q20:bits BinOp.and IntKind.u8 20 15=4:=by decide +kernel
   have q21:bits BinOp.and IntKind.u8 21 15=5:=by decide +kernel
   have q22:bits BinOp.and IntKind.u8 22 15=6:=by decide +kernel
   have q23:bits BinOp.and IntKind.u8 23 15=7:=by decide +kernel
   have q24:bits BinOp.and IntKind.u8 24 15=8:=by decide +kernel
   have q25:bits BinOp.and IntKind.u8 25 15=9:=by decide +kernel
   have q26:bits BinOp.and IntKind.u8 26 15=10:=by decide +kernel
   have q27:bits BinOp.and IntKind.u8 27 15=11:=by decide +kernel
   have q28:bits BinOp.and IntKind.u8 28 15=12:=by decide +kernel
   have q29:bits BinOp.and IntKind.u8 29 15=13:=by decide +kernel
   have q30:bits BinOp.and IntKind.u8 30 15=14:=by decide +kernel
   have q31:bits BinOp.and IntKind.u8 31 15=15:=by decide +kernel
   rcases hk' with rfl|rfl|rfl|rfl|rfl|rfl|rfl|rfl|rfl|rfl|rfl|rfl|rfl|rfl|rfl|rfl|rfl|rfl|rfl|rfl|rfl|rfl|rfl|rfl|rfl|rfl|rfl|rfl|rfl|rfl
   all_goals
    go_enter Tryz.func170,Tryz.ntmps170
    go_wp2_with fail
    go_region_law ((refine step_append_lies _ (by rfl) _ _ _ (by rfl) B 5 i0 (.int .u8 0) 1 1 Tryz.underlying256 hi hz0 hz1 hz2 rfl (by omega) (.slice a t.size c) t.size (Rd.vI t) (by rfl) (World.ownsRow.drew (World.ownsRow.alloc HO.out _)) ⟨w.heap.size,0,none⟩ 6 6 _ (by rfl) ?_ (ze6 _ _ _) (by simp [Value.oneCell']) (by omega) (by unfold maxLen;omega) (by omega) (by simp;omega) (w.heap.size+1) (by simp) ?_;rfl;intro gg cap w3 hown' hgrow hat hlt))
    all_goals
     go_wp2_with fail
     go_ret
     exact ⟨_,rfl,Zd (u:=⟨#[92,117,48,48,_,_]⟩) rfl rfl hown',((fin w _).drew).grown hgrow (by simp;omega) HGO.out⟩
  exact hall b.toNat c4 c3 c2 rfl
 ·rw [if_neg c4] at hU
  subst hU
  have e5:decide ((b.toNat:Int)<32)=false:=by simp;omega
  go_enter Tryz.func170,Tryz.ntmps170
  go_wp2_with (at_builtin;refine wpList_append_own _ rfl _ _ 256 rfl B 5 i0 (.int .u8 0) 1 1 Tryz.underlying256 hi hz0 hz1 hz2 rfl (by decide) _ t.size (Rd.vI t) rfl (World.ownsRow.alloc HO.out _) ⟨w.heap.size,0,none⟩ 1 1 [.int .u8 (b.toNat:Int)] rfl rfl ?_ ?_ ?_ ?_ ?_ ?_)
  ·exact qM _ _ _
  ·intro u hu;simp at hu;rcases hu with rfl;rfl
  ·unfold maxLen;omega
  ·omega
  ·simp;omega
  ·intro v' w3 hown' hgrow _
   go_wp2
   go_ret
   exact ⟨_,rfl,Zd (u:=⟨#[b]⟩) rfl rfl hown',(fin w _).grown hgrow (by simp;omega) HGO.out⟩
theorem Jr (t:ByteArray) (k:Nat) (h:k<t.size):t.extract k (k+1)=⟨#[t[k]]⟩:=by
 apply ByteArray.ext
 apply Array.toList_inj.1
 have hl:k<t.data.toList.length:=by rw [Ref.zg];exact h
 simp only [ByteArray.data_extract,Array.toList_extract,List.extract_eq_take_drop]
 rw [show k+1-k=1 by omega,List.drop_eq_getElem_cons hl]
 rfl
theorem zha (k:Nat) (h:k<16):Ref.hexDigits.extract k (k+1)=⟨#[zlY k]⟩:=by
 rw [Jr _ _ h]
 have:∀k:Fin 16,(Ref.hexDigits[k.val]'k.isLt)=zlY k.val:=by decide +kernel
 rw [this ⟨k,h⟩]
theorem zaz (s:ByteArray) (k:Nat) (h:k<s.size):Ref.xh s (k+1)=Ref.xh s k++zmx s[k]:=by
 rw [Ref.XU s k h]
 generalize Ref.xh s k=o
 have he:=Jr s k h
 unfold Ref.zaZ zmx
 rw [he]
 generalize s[k]=b
 have asc:∀a b c:ByteArray,a++b++c=a++(b++c):=fun a b c=>by apply ByteArray.ext;simp [ByteArray.data_append]
 by_cases c1:b.toNat=34∨b.toNat=92
 ·rw [if_pos (by omega),if_pos c1,asc];rfl
 rw [if_neg (by omega),if_neg c1]
 by_cases c2:b.toNat=10
 ·rw [if_pos (by omega),if_pos c2]
 rw [if_neg (by omega),if_neg c2]
 by_cases c3:b.toNat=9
 ·rw [if_pos (by omega),if_pos c3]
 rw [if_neg (by omega),if_neg c3]
 by_cases c4:b.toNat<32
 ·rw [if_pos (by omega),if_pos c4]
  have e1:((b.toNat:Int) / 16).toNat=b.toNat / 16:=by omega
  have e2:((b.toNat:Int) % 16).toNat=b.toNat % 16:=by omega
  rw [e1,e2,zha _ (by omega),zha _ (by omega),asc,asc]
  rfl
 ·rw [if_neg (by omega),if_neg c4]
theorem zci (s:ByteArray) (w:World) (hs:s.size≤100000) :
  Calls Tryz.prog 115 #[.string s] w fun e w'=>e = .returned (.string (Ref.zy s))∧Below w.heap.size w w':=by
 obtain ⟨i0,hi,hz0,hz1,hz2⟩:=info_parts Xu
 have h1:uU (w.alloc (.cells #[.int .u8 34] 5)) w.heap.size (.slice (some ⟨w.heap.size,0,none⟩) 1 1) (Ref.xh s 0):=World.ownsRow_lit (base:=w.heap.size) (e:=5) (size:=1) w #[.int .u8 34] 1 (Nat.le_refl _) (by decide) rfl
 have H1:=hid h1
 clear h1
 go_enter Tryz.func115,Tryz.ntmps115
 go_wp2_with fail
 go_loopw [3,4,8] (fun ov iv kv wr=>∃(k:Nat),k≤s.size∧kv = .int .i64 k∧uU wr w.heap.size ov (Ref.xh s k)∧Below w.heap.size w wr) (fun _ _ kv _=>s.size-(intOf kv).toNat)
 case atStart=>exact ⟨0,Nat.zero_le _,rfl,H1.out,(Below.refl _ _).alloc (Nat.le_refl _) _⟩
 case round=>
  obtain ⟨k,hk,rfl,hb,hbel⟩:=hrel
  have HB:=hid hb
  have HBEL:=hid hbel
  clear hb hbel H1
  by_cases hlt:k<s.size
  ·have hq:=Ref.jh s k
   have cc:=J3 (Ref.xh s k) _ w.heap.size s[k] wr HB.out HBEL.out.size (by omega)
   rw [← zaz s k hlt] at cc
   have CC:=hid cc
   clear cc hq
   go_wp2_with (go_at_call 170;refine CC.out.mono ?_;rintro e w2 ⟨v',rfl,hb2,hbel2⟩;have HB2:=hid hb2;have HBEL2:=hid hbel2;clear hb2 hbel2)
   go_roundw
   case rel=>exact ⟨k+1,by omega,by go_num,HB2.out,HBEL.out.trans HBEL2.out⟩
   case measure=>simp [intOf];omega
  ·have hks:k=s.size:=by omega
   subst hks
   have hq:=Ref.jh s s.size
   have hz:=HBEL.out.size
   go_wp2_with (at_builtin;refine wpList_append_own _ rfl _ _ 256 rfl w.heap.size 5 i0 (.int .u8 0) 1 1 Tryz.underlying256 hi hz0 hz1 hz2 rfl (by decide) _ (Ref.xh s s.size).size (Rd.vI (Ref.xh s s.size)) rfl (World.ownsRow.alloc HB.out _) ⟨wr.heap.size,0,none⟩ 1 1 [.int .u8 34] rfl rfl ?_ ?_ ?_ ?_ ?_ ?_)
   ·exact qM _ _ _
   ·intro u hu;simp at hu;rcases hu with rfl;rfl
   ·unfold maxLen;omega
   ·omega
   ·simp;omega
   ·intro v' w3 hown' hgrow _
    have hb3:uU w3 w.heap.size v' (Ref.zy s):=Zd (u:=⟨#[34]⟩) rfl rfl hown'
    have hcv:=UF hb3
    have HF:Hid (Below w.heap.size w w3):=(HBEL.out.alloc hz _).grown hgrow (by simp;omega) (fun k hk=>(World.ownsRow.lt HB.out k hk).1)
    obtain ⟨a3,c3,rfl⟩:=zq hb3
    clear hb3 hown' hgrow
    go_wp2
    go_ret
    exact ⟨rfl,HF.out⟩
end Go.Proofs.YtdakgnaojakldaaGreatDoor
