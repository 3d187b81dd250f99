/- P -/
import Derived.WalkKit
import Derived.Test.YtdakgnaojakldaaGreatDoorProg
import Derived.WalkSpells
import Derived.WalkLawsBesides
set_option maxRecDepth 100000
set_option maxHeartbeats 1000000
namespace Go.Proofs.YtdakgnaojakldaaGreatDoor
theorem yK {a b:Bool} (h:a=b):Ending.returned (.bool a) = .returned (.bool b):=by rw [h]
theorem zlr {k:IntKind} {a b:Int} (h:a=b):Ending.returned (.int k a) = .returned (.int k b):=by rw [h]
theorem zfL {a b:ByteArray} (h:a=b):Ending.returned (.string a) = .returned (.string b):=by rw [h]
namespace Ref
def qE (b:Int):Int×Int×Int:=
 if 194≤b∧b≤223 then (1,128,191)
 else if b=224 then (2,160,191)
 else if b=237 then (2,128,159)
 else if 225≤b∧b≤239 then (2,128,191)
 else if b=240 then (3,144,191)
 else if 241≤b∧b≤243 then (3,128,191)
 else if b=244 then (3,128,143)
 else (0,0,0)
def letters (l:List UInt8):Bool:=l.all fun c=>decide (97≤c.toNat∧c.toNat≤122)
def zY (s:ByteArray):Bool:=decide (1≤s.size∧s.size≤12)&&letters s.data.toList
theorem take_snoc (s:ByteArray) (k:Nat) (h:k<s.size):s.data.toList.take (k+1)=s.data.toList.take k++[s[k]]:=by
 rw [List.take_succ_eq_append_getElem (by simpa using h)];rfl
theorem YZ (l:List UInt8) (c:UInt8):letters (l++[c])=(letters l&&decide (97≤c.toNat∧c.toNat≤122)):=by
 simp [letters]
theorem Y6 (s:ByteArray) (k:Nat) (h:k<s.size) (hb:¬(97≤s[k].toNat∧s[k].toNat≤122)):letters s.data.toList=false:=by
 have e:letters (s.data.toList.take (k+1))=false:=by rw [take_snoc s k h,YZ];simp [hb]
 have:=List.take_append_drop (k+1) s.data.toList
 rw [← this];unfold letters at *;rw [List.all_append,e];rfl
theorem zgu (s:ByteArray) (k:Nat) (h:k<s.size) (hb:(s[k].toNat:Int)<97∨122<(s[k].toNat:Int)):zY s=false:=by
 unfold zY;rw [Y6 s k h (by omega)];simp
theorem zbf (s:ByteArray) (k:Nat) (h:k<s.size) (hl:letters (s.data.toList.take k)=true) (ha:97≤(s[k].toNat:Int)) (hb:(s[k].toNat:Int)≤122) :
  letters (s.data.toList.take (k+1))=true:=by
 rw [take_snoc s k h,YZ,hl];simp;omega
theorem zdd (s:ByteArray) (k:Nat) (h:¬k<s.size) (hk:k≤s.size) (h1:1≤s.size) (h2:s.size≤12) (hl:letters (s.data.toList.take k)=true):zY s=true:=by
 unfold zY;rw [List.take_of_length_le (by simp;omega)] at hl;rw [hl];simp;omega
theorem ug (s:ByteArray) (h:¬(1≤s.size∧s.size≤12)):zY s=false:=by
 unfold zY;simp [h]
theorem Z7 (b:Int):0≤(qE b).1∧(qE b).1≤3∧0≤(qE b).2.1∧(qE b).2.1≤255∧0≤(qE b).2.2∧(qE b).2.2≤255:=by
 generalize hr:qE b=r
 unfold qE at hr
 (repeat' split at hr)<;>subst hr<;>simp
def yI (l:List UInt8) (lo hi:Int) (n:Nat):Bool:=
 (List.range n).all fun j=>if j=0 then decide (lo≤((l.getD 1 0).toNat:Int)∧((l.getD 1 0).toNat:Int)≤hi) else decide (128≤(l.getD (j+1) 0).toNat∧(l.getD (j+1) 0).toNat≤191)
def qi (l:List UInt8):Nat:=
 if l.length=0 then 0
 else if (l.getD 0 0).toNat<128 then 1
 else if (qE (l.getD 0 0).toNat).1=0 then 0
 else if (l.length:Int)<(qE (l.getD 0 0).toNat).1+1 then 0
 else if yI l (qE (l.getD 0 0).toNat).2.1 (qE (l.getD 0 0).toNat).2.2 (qE (l.getD 0 0).toNat).1.toNat then (qE (l.getD 0 0).toNat).1.toNat+1 else 0
theorem Zg (l:List UInt8) (lo hi:Int) (n:Nat) :
  yI l lo hi (n+1)=(yI l lo hi n&&if n=0 then decide (lo≤((l.getD 1 0).toNat:Int)∧((l.getD 1 0).toNat:Int)≤hi) else decide (128≤(l.getD (n+1) 0).toNat∧(l.getD (n+1) 0).toNat≤191)):=by
 unfold yI;rw [List.range_succ,List.all_append];simp
theorem zdN (l:List UInt8) (lo hi:Int) (n k:Nat) (h:yI l lo hi k=false):yI l lo hi (k+n)=false:=by
 induction n with
 | zero=>exact h
 | succ n ih=>rw [← Nat.add_assoc,Zg,ih];rfl
theorem zmM (c:UInt8):(c.toNat:Int)≤255:=by have:=c.toNat_lt;omega
theorem b0 (c:UInt8):(0:Int)≤c.toNat:=by omega
theorem zg (s:ByteArray):s.data.toList.length=s.size:=by simp
theorem getD_at (s:ByteArray) (k:Nat) (h:k<s.size):s.data.toList.getD k 0=s[k]:=by
 rw [List.getD_eq_getElem?_getD,List.getElem?_eq_getElem (by simpa using h)];rfl
def zL (s:ByteArray):ByteArray:=s.extract 0 (if qi s.data.toList=0 then 1 else qi s.data.toList)
def uy (s:ByteArray):Bool:=qi s.data.toList != 0
theorem zgO (s:ByteArray) (k:Nat) (h:qi s.data.toList=k):zL s=s.extract 0 (if k=0 then 1 else k)∧uy s=(k != 0):=by
 unfold zL uy;rw [h];exact ⟨rfl,rfl⟩
theorem zam (s:ByteArray) (hp:0<s.size) (h:(s[0].toNat:Int)<128):qi s.data.toList=1:=by
 unfold qi
 rw [if_neg (by rw [zg];omega),getD_at s 0 hp,if_pos (by omega)]
theorem KW (s:ByteArray) (hp:0<s.size) (lo hi:Int) (hr:qE (s[0].toNat:Int)=(0,lo,hi)) (h:¬(s[0].toNat:Int)<128):qi s.data.toList=0:=by
 unfold qi
 rw [if_neg (by rw [zg];omega),getD_at s 0 hp,if_neg (by omega),hr,if_pos rfl]
theorem UK (s:ByteArray) (hp:0<s.size) (n lo hi:Int) (hr:qE (s[0].toNat:Int)=(n,lo,hi)) (h:¬(s[0].toNat:Int)<128) (hn:n≠0) (hl:(s.size:Int)<n+1):qi s.data.toList=0:=by
 unfold qi
 rw [if_neg (by rw [zg];omega),getD_at s 0 hp,if_neg (by omega),hr,if_neg hn,if_pos (by simpa using hl)]
theorem Y0 (s:ByteArray) (hp:0<s.size) (n lo hi:Int) (hr:qE (s[0].toNat:Int)=(n,lo,hi)) (h:¬(s[0].toNat:Int)<128) (hn:n≠0) (hl:¬(s.size:Int)<n+1) :
  qi s.data.toList=if yI s.data.toList lo hi n.toNat then n.toNat+1 else 0:=by
 unfold qi
 rw [if_neg (by rw [zg];omega),getD_at s 0 hp,if_neg (by omega),hr,if_neg hn,if_neg (by simpa using hl)]
theorem uZ (s:ByteArray) (k:Nat) (h:qi s.data.toList=k) (t:ByteArray) (b:Bool) (ht:t=s.extract 0 (if k=0 then 1 else k)) (hb:b=(k != 0)) :
  Ending.returned (.tuple #[.string t, .bool b]) = .returned (.tuple #[.string (zL s), .bool (uy s)]):=by
 rw [(zgO s k h).1,(zgO s k h).2,ht,hb]
def zi0 (lo:Int) (k:Nat):Int:=if k=1 then lo else 128
def ziX (hi:Int) (k:Nat):Int:=if k=1 then hi else 191
theorem Vw (s:ByteArray) (lo hi:Int) (k:Nat) (h1:1≤k) (hk:k<s.size) (h:yI s.data.toList lo hi (k-1)=true) :
  yI s.data.toList lo hi k=decide (zi0 lo k≤(s[k].toNat:Int)∧(s[k].toNat:Int)≤ziX hi k):=by
 obtain ⟨j,rfl⟩:∃j,k=j+1:=⟨k-1,by omega⟩
 simp only [Nat.add_sub_cancel] at h
 rw [Zg,h,getD_at s (j+1) hk]
 unfold zi0 ziX
 by_cases hj:j=0
 ·subst hj;rw [getD_at s 1 hk];simp
 ·rw [if_neg hj,if_neg (by omega),if_neg (by omega),Bool.true_and,decide_eq_decide];omega
theorem JX (s:ByteArray) (hp:0<s.size) (n lo hi:Int) (hr:qE (s[0].toNat:Int)=(n,lo,hi)) (h:¬(s[0].toNat:Int)<128) (hn:n≠0) (hl:¬(s.size:Int)<n+1)
  (k:Nat) (h1:1≤k) (hk:k<s.size) (hkn:(k:Int)≤n) (hc:yI s.data.toList lo hi (k-1)=true) (hb:(s[k].toNat:Int)<zi0 lo k∨ziX hi k<(s[k].toNat:Int)):qi s.data.toList=0:=by
 have e:=Vw s lo hi k h1 hk hc
 have e2:yI s.data.toList lo hi k=false:=by rw [e,decide_eq_false_iff_not];omega
 have e3:=zdN s.data.toList lo hi (n.toNat-k) k e2
 rw [show k+(n.toNat-k)=n.toNat by omega] at e3
 rw [Y0 s hp n lo hi hr h hn hl,e3];rfl
theorem zcZ (s:ByteArray) (lo hi:Int) (k:Nat) (h1:1≤k) (hk:k<s.size) (h:yI s.data.toList lo hi (k-1)=true) (ha:zi0 lo k≤(s[k].toNat:Int)) (hb:(s[k].toNat:Int)≤ziX hi k) :
  yI s.data.toList lo hi (k+1-1)=true:=by
 rw [Nat.add_sub_cancel,Vw s lo hi k h1 hk h,decide_eq_true_eq];exact ⟨ha,hb⟩
theorem zaD (s:ByteArray) (hp:0<s.size) (n lo hi:Int) (hr:qE (s[0].toNat:Int)=(n,lo,hi)) (h:¬(s[0].toNat:Int)<128) (hn:n≠0) (hl:¬(s.size:Int)<n+1)
  (k:Nat) (h1:1≤k) (hkn:¬(k:Int)≤n) (hk1:(k:Int)≤n+1) (hc:yI s.data.toList lo hi (k-1)=true):qi s.data.toList=k:=by
 rw [show k-1=n.toNat by omega] at hc
 rw [Y0 s hp n lo hi hr h hn hl,if_pos hc];omega
theorem zgU (lo:Int) (k:Nat) (h:1≤k):zi0 lo (k+1)=128:=by unfold zi0;rw [if_neg (by omega)]
theorem zhE (hi:Int) (k:Nat) (h:1≤k):ziX hi (k+1)=191:=by unfold ziX;rw [if_neg (by omega)]
def qF (s:ByteArray):Nat:=2+(s.data.toList.drop 2).findIdx (fun c=>c.toNat==125)
theorem zas (s:ByteArray) (k:Nat) (h2:2≤k) (hk:k<s.size):∃h:k-2<(s.data.toList.drop 2).length,(s.data.toList.drop 2)[k-2]=s[k]:=by
 have h:k-2<(s.data.toList.drop 2).length:=by rw [List.length_drop,zg];omega
 refine ⟨h,?_⟩
 rw [List.getElem_drop]
 have e:2+(k-2)=k:=by omega
 simp only [e];rfl
theorem Jl (s:ByteArray) (k:Nat) (h2:2≤k) (hk:k<s.size) (hc:k≤qF s) (h:(s[k].toNat:Int)=125):qF s=k:=by
 obtain ⟨hl,e⟩:=zas s k h2 hk
 unfold qF at *
 have:(s.data.toList.drop 2).findIdx (fun c=>c.toNat==125)≤k-2:=by
  apply Nat.le_of_not_lt
  intro hh
  have:=List.not_of_lt_findIdx hh
  rw [e] at this
  simp at this;omega
 omega
theorem zbV (s:ByteArray) (k:Nat) (h2:2≤k) (hk:k<s.size) (hc:k≤qF s) (h:(s[k].toNat:Int)≠125):k+1≤qF s:=by
 obtain ⟨hl,e⟩:=zas s k h2 hk
 unfold qF at *
 have:(s.data.toList.drop 2).findIdx (fun c=>c.toNat==125)≠k-2:=by
  intro hh
  have hlt:(s.data.toList.drop 2).findIdx (fun c=>c.toNat==125)<(s.data.toList.drop 2).length:=by omega
  have:=List.findIdx_getElem (w:=hlt)
  simp only [hh,e] at this
  simp at this;omega
 omega
theorem zcw (s:ByteArray) (k:Nat) (h2:2≤k) (hk:¬k<s.size) (hks:k≤s.size) (hc:k≤qF s):qF s=s.size:=by
 unfold qF at *
 have:=List.findIdx_le_length (xs:=s.data.toList.drop 2) (p:=fun c=>c.toNat==125)
 rw [List.length_drop,zg] at this;omega
def qH (s:ByteArray):Int×ByteArray×Nat:=
 if s.size<2 then (0,⟨#[]⟩,0)
 else if (s.data.toList.getD 1 0).toNat=36∨(s.data.toList.getD 1 0).toNat=42∨(s.data.toList.getD 1 0).toNat=63 then (1,s.extract 1 2,2)
 else if (s.data.toList.getD 1 0).toNat=123 then
  if qF s<s.size then (if zY (s.extract 2 (qF s)) then (4,s.extract 2 (qF s),qF s+1) else (0,⟨#[]⟩,0)) else (0,⟨#[]⟩,0)
 else (0,⟨#[]⟩,0)
end Ref
end Go.Proofs.YtdakgnaojakldaaGreatDoor
namespace Go.Proofs.YtdakgnaojakldaaGreatDoor
open Go.RowKit
theorem lead_any (b:Int) (w:World) (h0:0≤b) (h1:b≤255) :
  Calls Tryz.prog 203 #[.int .u8 b] w fun e w'=>e = .returned (.tuple #[.int .i64 (Ref.qE b).1, .int .u8 (Ref.qE b).2.1, .int .u8 (Ref.qE b).2.2])∧w'=w:=by
 go_enter Tryz.func203,Tryz.ntmps203
 go_wp2
 all_goals
  go_ret3
  refine ⟨?_,rfl⟩
  simp only [beq_iff_eq,beq_eq_false_iff_ne,ne_eq] at *
  generalize hr:Ref.qE b=r
  unfold Ref.qE at hr
  (repeat' split at hr)<;>subst hr<;>first|rfl|(exfalso;omega)
theorem Yq (s:ByteArray) (w:World) (hs:s.size≤maxLen) :
  Calls Tryz.prog 180 #[.string s] w fun e w'=>e = .returned (.bool (Ref.zY s))∧w'=w:=by
 unfold maxLen at hs
 by_cases hsz:1≤s.size∧s.size≤12
 ·obtain ⟨hz1,hz2⟩:=hsz
  have hl1:decide ((s.size:Int)<1)=false:=by simp;omega
  have hl2:decide (12<(s.size:Int))=false:=by simp;omega
  go_enter Tryz.func180,Tryz.ntmps180
  go_wp2
  go_loop [3] (fun i=>∃k:Nat,k≤s.size∧i = .int .i64 k∧Ref.letters (s.data.toList.take k)=true) (fun i=>s.size-(intOf i).toNat)
  case atStart=>exact ⟨0,Nat.zero_le _,rfl,rfl⟩
  case round=>
   obtain ⟨k,hk,rfl,hl0⟩:=hrel
   have hl:Hid (Ref.letters (s.data.toList.take k)=true):=hl0
   clear hl0
   by_cases hlt:k<s.size
   ·go_wp2
    all_goals first
     | (go_ret;exact ⟨yK (Ref.zgu s k hlt (by omega)).symm,rfl⟩)
     | exact ⟨⟨k+1,by omega,by go_num,Ref.zbf s k hlt hl.out (by omega) (by omega)⟩,by simp [intOf];omega⟩
   ·go_wp2
    go_ret
    exact ⟨yK (Ref.zdd s k hlt hk hz1 hz2 hl.out).symm,rfl⟩
 ·go_enter Tryz.func180,Tryz.ntmps180
  go_wp2
  all_goals first
   | (exfalso;omega)
   | (go_ret;exact ⟨yK (Ref.ug s hsz).symm,rfl⟩)
theorem zcY (b n lo hi:Int) (w:World) (h0:0≤b) (h1:b≤255) (hr:Ref.qE b=(n,lo,hi)) :
  Calls Tryz.prog 203 #[.int .u8 b] w fun e w'=>e = .returned (.tuple #[.int .i64 n, .int .u8 lo, .int .u8 hi])∧w'=w:=by
 have h:=lead_any b w h0 h1
 rw [hr] at h;exact h
theorem UO (s:ByteArray) (w:World) (hs:s.size≤maxLen) (hp:0<s.size) :
  Calls Tryz.prog 217 #[.string s] w fun e w'=>
   e = .returned (.tuple #[.string (Ref.zL s), .bool (Ref.uy s)])∧w'=w:=by
 unfold maxLen at hs
 obtain ⟨n,lo,hi,hr⟩:∃n lo hi,Ref.qE (s[0].toNat:Int)=(n,lo,hi):=⟨_,_,_,rfl⟩
 have hbd:=Ref.Z7 (s[0].toNat:Int)
 rw [hr] at hbd
 simp only at hbd
 obtain ⟨n0,n3,l0,l1,g0,g1⟩:=hbd
 have HR:Hid (Ref.qE (s[0].toNat:Int)=(n,lo,hi)):=hr
 clear hr
 go_enter Tryz.func217,Tryz.ntmps217
 go_wp2_with (go_at_call 203;refine (zcY _ n lo hi _ (Ref.b0 _) (Ref.zmM _) HR.out).mono ?_;rintro e w' ⟨rfl,rfl⟩)
 all_goals try (go_loop [5,6,7] (fun low high i=>∃k:Nat,1≤k∧(k:Int)≤n+1∧i = .int .i64 k∧low = .int .u8 (Ref.zi0 lo k)∧high = .int .u8 (Ref.ziX hi k)∧Ref.yI s.data.toList lo hi (k-1)=true) (fun _ _ i=>(n+1).toNat-(intOf i).toNat))
 ·go_ret2
  exact ⟨Ref.uZ s 1 (Ref.zam s hp (by assumption)) _ _ rfl rfl,rfl⟩
 ·go_ret2
  have hn0:n=0:=by assumption
  subst hn0
  exact ⟨Ref.uZ s 0 (Ref.KW s hp lo hi HR.out (by omega)) _ _ rfl rfl,rfl⟩
 ·go_ret2
  have hor:(n==0)=true∨(s.size:Int)<n+1:=by assumption
  simp only [beq_iff_eq] at hor
  exact ⟨Ref.uZ s 0 (Ref.UK s hp n lo hi HR.out (by omega) (by omega) (by omega)) _ _ rfl rfl,rfl⟩
 case atStart=>exact ⟨1,by omega,by omega,rfl,rfl,rfl,rfl⟩
 case round=>
  obtain ⟨k,hk1,hkn,rfl,rfl,rfl,hc0⟩:=hrel
  have hc:Hid (Ref.yI s.data.toList lo hi (k-1)=true):=hc0
  clear hc0
  by_cases hlt:(k:Int)≤n
  ·have hks:k<s.size:=by omega
   have hlo:0≤Ref.zi0 lo k∧Ref.zi0 lo k≤255:=by unfold Ref.zi0;split<;>omega
   have hhi:0≤Ref.ziX hi k∧Ref.ziX hi k≤255:=by unfold Ref.ziX;split<;>omega
   go_wp2
   ·go_ret2
    exact ⟨Ref.uZ s 0 (Ref.JX s hp n lo hi HR.out (by omega) (by omega) (by omega) k hk1 hks hlt hc.out (by omega)) _ _ rfl rfl,rfl⟩
   ·go_round
    case rel=>exact ⟨_,_,_,_,_,⟨k+1,by omega,by omega,by go_num,by rw [Ref.zgU lo k hk1],by rw [Ref.zhE hi k hk1],Ref.zcZ s lo hi k hk1 hks hc.out (by omega) (by omega)⟩,rfl,rfl,rfl,rfl,rfl⟩
    case measure=>simp [intOf];omega
   ·go_ret2
    exact ⟨Ref.uZ s 0 (Ref.JX s hp n lo hi HR.out (by omega) (by omega) (by omega) k hk1 hks hlt hc.out (by omega)) _ _ rfl rfl,rfl⟩
  ·go_wp2
   go_ret2
   exact ⟨Ref.uZ s k (Ref.zaD s hp _ lo hi HR.out (by omega) (by omega) (by omega) k hk1 (by omega) (by omega) hc.out) _ _ (by rw [if_neg (by omega),show (n+1).toNat=k by omega]) (by rw [show (k != 0)=true by simp;omega]),rfl⟩
namespace Ref
theorem zdo (s:ByteArray) (h2:1<s.size) (h:(s[1].toNat:Int)=36∨(s[1].toNat:Int)=42∨(s[1].toNat:Int)=63):qH s=(1,s.extract 1 2,2):=by
 unfold qH
 rw [if_neg (by omega),getD_at s 1 h2,if_pos (by omega)]
theorem KA (s:ByteArray) (h2:s.size<2):qH s=(0,⟨#[]⟩,0):=by
 unfold qH;rw [if_pos h2]
theorem U3 (s:ByteArray) (h2:1<s.size) (h:(s[1].toNat:Int)≠36∧(s[1].toNat:Int)≠42∧(s[1].toNat:Int)≠63∧(s[1].toNat:Int)≠123):qH s=(0,⟨#[]⟩,0):=by
 unfold qH
 rw [if_neg (by omega),getD_at s 1 h2,if_neg (by omega),if_neg (by omega)]
theorem YU (s:ByteArray) (h2:1<s.size) (h:(s[1].toNat:Int)=123) (k:Nat) (hk:k<s.size) (hc:qF s=k) (b:Bool) (hb:zY (s.extract 2 k)=b) :
  qH s=if b then (4,s.extract 2 k,k+1) else (0,⟨#[]⟩,0):=by
 unfold qH
 rw [if_neg (by omega),getD_at s 1 h2,if_neg (by omega),if_pos (by omega),hc,if_pos hk,hb]
theorem za4 (s:ByteArray) (h2:1<s.size) (h:(s[1].toNat:Int)=123) (hc:qF s=s.size):qH s=(0,⟨#[]⟩,0):=by
 unfold qH
 rw [if_neg (by omega),getD_at s 1 h2,if_neg (by omega),if_pos (by omega),hc,if_neg (by omega)]
theorem kW (s:ByteArray) (k:Int) (t:ByteArray) (n:Nat) (v:Value) (h:qH s=(k,t,n)) (hv:v = .int .i64 (n:Int)) :
  Ending.returned (.tuple #[.agg #[.int .i64 k, .string t],v]) = .returned (.tuple #[.agg #[.int .i64 (qH s).1, .string (qH s).2.1], .int .i64 ((qH s).2.2:Nat)]):=by
 rw [h,hv]
end Ref
theorem ze4 (s:ByteArray) (w:World) (hs:s.size≤maxLen) :
  Calls Tryz.prog 218 #[.string s] w fun e w'=>
   e = .returned (.tuple #[.agg #[.int .i64 (Ref.qH s).1, .string (Ref.qH s).2.1], .int .i64 ((Ref.qH s).2.2:Nat)])∧Below w.heap.size w w':=by
 unfold maxLen at hs
 by_cases h2:2≤s.size
 ·have h2i:decide ((s.size:Int)<2)=false:=by simp;omega
  go_enter Tryz.func218,Tryz.ntmps218
  go_wp2
  rotate_left 3
  ·go_loop [4] (fun i=>∃k:Nat,2≤k∧k≤s.size∧i = .int .i64 k∧k≤Ref.qF s) (fun i=>s.size-(intOf i).toNat)
   case atStart=>exact ⟨2,by omega,by omega,rfl,by unfold Ref.qF;omega⟩
   case round=>
    obtain ⟨k,hk2,hks,rfl,hc0⟩:=hrel
    have hcl:Hid (k≤Ref.qF s):=hc0
    clear hc0
    by_cases hlt:k<s.size
    ·go_wp2_with (go_at_call 180;refine (Yq (s.extract 2 k) _ ?_).mono ?_;(simp [maxLen];omega);rintro e w' ⟨rfl,rfl⟩)
     ·have e1:((s[1]'(by omega)).toNat:Int)=123:=by apply eq_of_beq;assumption
      have e2:(s[k].toNat:Int)=125:=by apply eq_of_beq;assumption
      have hd:=Ref.YU s (by omega) e1 k hlt (Ref.Jl s k hk2 hlt hcl.out e2) true (by assumption)
      exact bodyPost_ret (v := .tuple #[.agg #[.int .i64 4, .string (s.extract 2 k)], .int .i64 ((k:Int)+1)]) (by simp [results,Tryz.results218,go_sem]) rfl ⟨Ref.kW s _ _ (k+1) _ hd (by go_num),(Below.refl _ _).alloc (Nat.le_refl _) _⟩
     ·have e1:((s[1]'(by omega)).toNat:Int)=123:=by apply eq_of_beq;assumption
      have e2:(s[k].toNat:Int)=125:=by apply eq_of_beq;assumption
      have hd:=Ref.YU s (by omega) e1 k hlt (Ref.Jl s k hk2 hlt hcl.out e2) false (by assumption)
      exact bodyPost_ret (v := .tuple #[.agg #[.int .i64 0, .string ⟨#[]⟩], .int .i64 0]) (by simp [results,Tryz.results218,go_sem]) rfl ⟨Ref.kW s _ _ 0 _ hd rfl,(Below.refl _ _).alloc (Nat.le_refl _) _⟩
     ·have e2:(s[k].toNat:Int)≠125:=by apply ne_of_beq_false;assumption
      exact ⟨⟨k+1,by omega,by omega,by go_num,Ref.zbV s k hk2 hlt hcl.out e2⟩,by simp [intOf];omega⟩
    ·have e1:((s[1]'(by omega)).toNat:Int)=123:=by apply eq_of_beq;assumption
     have hd:=Ref.za4 s (by omega) e1 (Ref.zcw s k hk2 hlt hks hcl.out)
     have HD:Hid (Ref.qH s=(0,⟨#[]⟩,0)):=hd
     clear hd e1
     go_wp2
     exact bodyPost_ret (v := .tuple #[.agg #[.int .i64 0, .string ⟨#[]⟩], .int .i64 0]) (by simp [results,Tryz.results218,go_sem]) rfl ⟨Ref.kW s _ _ 0 _ HD.out rfl,(Below.refl _ _).alloc (Nat.le_refl _) _⟩
  all_goals simp only [beq_iff_eq,beq_eq_false_iff_ne,ne_eq] at *
  ·exact bodyPost_ret (v := .tuple #[.agg #[.int .i64 0, .string ⟨#[]⟩], .int .i64 0]) (by simp [results,Tryz.results218,go_sem]) rfl ⟨Ref.kW s _ _ 0 _ (Ref.U3 s (by omega) (by omega)) rfl,(Below.refl _ _).alloc (Nat.le_refl _) _⟩
  all_goals
   exact bodyPost_ret (v := .tuple #[.agg #[.int .i64 1, .string (s.extract 1 2)], .int .i64 2]) (by simp [results,Tryz.results218,go_sem]) rfl ⟨Ref.kW s _ _ 2 _ (Ref.zdo s (by omega) (by omega)) rfl,(Below.refl _ _).alloc (Nat.le_refl _) _⟩
 ·go_enter Tryz.func218,Tryz.ntmps218
  go_wp2
  exact bodyPost_ret (v := .tuple #[.agg #[.int .i64 0, .string ⟨#[]⟩], .int .i64 0]) (by simp [results,Tryz.results218,go_sem]) rfl ⟨Ref.kW s _ _ 0 _ (Ref.KA s (by omega)) rfl,(Below.refl _ _).alloc (Nat.le_refl _) _⟩
namespace Ref
def zM (s:ByteArray):Option (Int×ByteArray×Nat):=
 if uy s=false then none
 else if (zL s).toList==[42] then some (3,zL s,(zL s).size)
 else if (zL s).toList==[63] then some (2,zL s,(zL s).size)
 else if (zL s).toList==[36] then (if (qH s).2.2=0 then none else some (qH s))
 else some (1,zL s,(zL s).size)
def vC:Nat→ByteArray→Option (List (Int×ByteArray))
 | 0,_=>none
 | f+1,s=>if s.size=0 then some [] else match zM s with
  | none=>none
  | some (k,t,n)=>(vC f (s.extract n s.size)).map fun r=>(k,t)::r
def parts (s:ByteArray):Option (List (Int×ByteArray)):=if 60<s.size then none else vC (s.size+1) s
def qG (l:List (Int×ByteArray)):List Value:=l.flatMap fun p=>[.int .i64 p.1, .string p.2]
theorem yg (l:List (Int×ByteArray)) (k:Int) (t:ByteArray):qG (l++[(k,t)])=qG l++[.int .i64 k, .string t]:=by
 simp [qG]
theorem zeU (s:ByteArray):qi s.data.toList≤s.size:=by
 unfold qi
 rw [zg]
 split
 ·omega
 split
 ·omega
 split
 ·omega
 split
 ·omega
 split
 ·have:=Z7 ((s.data.toList.getD 0 0).toNat:Int);omega
 ·omega
theorem ZQ (s:ByteArray) (hp:0<s.size):1≤(zL s).size∧(zL s).size≤s.size:=by
 have h:=zeU s
 unfold zL
 rw [ByteArray.size_extract]
 split<;>omega
theorem YX (s:ByteArray):(qH s).2.2≤s.size:=by
 unfold qH
 split
 ·simp
 split
 ·simp;omega
 split
 ·split
  ·split
   ·simp;omega
   ·simp
  ·simp
 ·simp
theorem Xz (s:ByteArray) (hp:0<s.size) (k:Int) (t:ByteArray) (n:Nat) (h:zM s=some (k,t,n)):1≤n∧n≤s.size:=by
 have hc:=ZQ s hp
 have hd:=YX s
 unfold zM at h
 split at h
 ·simp at h
 split at h
 ·simp at h;omega
 split at h
 ·simp at h;omega
 split at h
 ·split at h
  ·simp at h
  ·simp at h;rw [h] at hd;simp at hd;rename_i hn;rw [h] at hn;simp at hn;omega
 ·simp at h;omega
theorem kS (P:Option (List (Int×ByteArray))) (f:Nat) (t:ByteArray) (done:List (Int×ByteArray)) (hp:0<t.size) (hf:t.size<f) (h:P=(vC f t).map fun r=>done++r)
  (k:Int) (u:ByteArray) (n:Nat) (hs:zM t=some (k,u,n)) :
  ∃f',(t.extract n t.size).size<f'∧P=(vC f' (t.extract n t.size)).map fun r=>(done++[(k,u)])++r:=by
 obtain ⟨g,rfl⟩:∃g,f=g+1:=⟨f-1,by omega⟩
 have hn:=Xz t hp k u n hs
 refine ⟨g,by rw [ByteArray.size_extract];omega,?_⟩
 rw [h,vC,if_neg (by omega),hs]
 simp [Option.map_map,Function.comp_def]
theorem Yv (P:Option (List (Int×ByteArray))) (f:Nat) (t:ByteArray) (done:List (Int×ByteArray)) (hp:0<t.size) (hf:t.size<f) (h:P=(vC f t).map fun r=>done++r)
  (hs:zM t=none):P=none:=by
 obtain ⟨g,rfl⟩:∃g,f=g+1:=⟨f-1,by omega⟩
 rw [h,vC,if_neg (by omega),hs];rfl
theorem zaY (P:Option (List (Int×ByteArray))) (f:Nat) (t:ByteArray) (done:List (Int×ByteArray)) (hp:¬0<t.size) (hf:t.size<f) (h:P=(vC f t).map fun r=>done++r):P=some done:=by
 obtain ⟨g,rfl⟩:∃g,f=g+1:=⟨f-1,by omega⟩
 rw [h,vC,if_pos (by omega)];simp
def strLen:Value→Nat
 | .string b=>b.size
 | _=>0
end Ref
theorem hid {p:Prop} (h:p):Hid p:=h
theorem ownsRow_below {w w':World} {base:Nat} {e:TypeId} {size:Nat} {v:Value} {n:Nat} {xs:List Value} (h:w.ownsRow base e size v n xs) (hb:Below w.heap.size w w'):w'.ownsRow base e size v n xs:=by
 obtain ⟨h1,h2⟩:=h
 refine ⟨h1,?_⟩
 rcases h2 with h2|⟨g,cap,cur,hv,hg,hh,h3⟩
 ·exact .inl h2
 ·exact .inr ⟨g,cap,cur,hv,hg,by rw [hb.block g (lt_of_block hh)];exact hh,h3⟩
theorem zl {w:World} {base base':Nat} {e:TypeId} {size:Nat} {v:Value} {n:Nat} {xs:List Value} (h:w.ownsRow base e size v n xs) (hb:base'≤base):w.ownsRow base' e size v n xs:=by
 obtain ⟨h1,h2⟩:=h
 refine ⟨h1,?_⟩
 rcases h2 with h2|⟨g,cap,cur,hv,hg,hh⟩
 ·exact .inl h2
 ·exact .inr ⟨g,cap,cur,hv,by omega,hh⟩
theorem xG {w w':World} (h:Below w.drew.heap.size w.drew w'):Below w.heap.size w w':=⟨h.os,h.tape,h.output,h.size,h.block⟩
theorem qI (w:World) (a b:Obj):((w.alloc a).alloc b).heap[w.heap.size]?=some a∧((w.alloc a).alloc b).heap[w.heap.size+1]?=some b:=by
 refine ⟨?_,?_⟩
 ·rw [Below.heap_alloc (w.alloc a) b w.heap.size (by simp)];exact heap_alloc_new w a
 ·have:=heap_alloc_new (w.alloc a) b
  simpa using this
theorem cells_of_block {w:World} {b:Nat} {cs:Array Value} {t:TypeId} (h:w.heap[b]?=some (.cells cs t (0,0))) (o:Nat):w.cell? ⟨b,o,none⟩=cs[o]?∧w.frozen? ⟨b,o,none⟩=false:=by
 simp [World.cell?,World.frozen?,h]
theorem addr_add (b o j:Nat):(⟨b,o,none⟩:Addr).add j=⟨b,o+j,none⟩:=by
 by_cases h:j=0
 ·subst h;simp [Addr.add]
 ·simp [Addr.add,h]
theorem zc1 (w:World) (b o b' o':Nat) (u:Value) (h:¬(b=b'∧o=o')):(w.setCell ⟨b,o,none⟩ u).cell? ⟨b',o',none⟩=w.cell? ⟨b',o',none⟩:=by
 by_cases hb:b=b'
 ·subst hb
  unfold World.cell? World.setCell
  simp only [Array.getElem?_modify,if_true]
  cases w.heap[b]? with
  | none=>rfl
  | some ob=>
   cases ob with
   | cells c t f=>simp [Array.getElem?_setIfInBounds];intro h2;omega
   | _=>rfl
 ·exact World.cell?_of_block (w:=w) (a:=⟨b',o',none⟩) (Below.heap_setCell w ⟨b,o,none⟩ u b' (fun e=>hb e.symm))
theorem Uk (w:World) (p:Addr) (u:Value) (q:Addr):(w.setCell p u).frozen? q=w.frozen? q:=by
 unfold World.frozen? World.setCell
 by_cases hb:p.block=q.block
 ·rw [hb]
  simp only [Array.getElem?_modify,if_true]
  cases w.heap[q.block]? with
  | none=>rfl
  | some ob=>cases ob<;>rfl
 ·simp only [Array.getElem?_modify,if_neg hb]
theorem yY (s c:ByteArray) (b:Bool) (w:World) (hs:s.size≤maxLen) (hp:0<s.size) (hc:Ref.zL s=c) (hb:Ref.uy s=b) :
  Calls Tryz.prog 217 #[.string s] w fun e w'=>e = .returned (.tuple #[.string c, .bool b])∧w'=w:=by
 have h:=UO s w hs hp
 rw [hc,hb] at h;exact h
theorem zaT (s t:ByteArray) (k:Int) (n:Nat) (w:World) (hs:s.size≤maxLen) (hd:Ref.qH s=(k,t,n)) :
  Calls Tryz.prog 218 #[.string s] w fun e w'=>e = .returned (.tuple #[.agg #[.int .i64 k, .string t], .int .i64 (n:Nat)])∧Below w.heap.size w w':=by
 have h:=ze4 s w hs
 rw [hd] at h;exact h
theorem Tryz.infoPart:(Tryz.prog.info? 368).map (fun i=>(i.zero,i.size,i.bytes))=some (some (.agg #[.int .i64 0, .string ⟨#[]⟩]),2,24):=by kernel_rfl
theorem uH (k:Int) (c:ByteArray):∀u ∈ [Value.int .i64 k,Value.string c],u.oneCell'=true:=by
 intro u hu;simp at hu;rcases hu with rfl|rfl<;>rfl
theorem JD {W w1:World} (hb:Below W.heap.size W w1):(∀b o,b<W.heap.size→w1.cell? ⟨b,o,none⟩=W.cell? ⟨b,o,none⟩)∧(∀b o,b<W.heap.size→w1.frozen? ⟨b,o,none⟩=W.frozen? ⟨b,o,none⟩):=
 ⟨fun b o h=>hb.cell (p:=⟨b,o,none⟩) h,fun b o h=>hb.frozen (p:=⟨b,o,none⟩) h⟩
theorem xU (w:World) (o:Obj) (a b:Value) (t:TypeId) (k:Nat) (hk:k=(w.alloc o).heap.size) :
  ∀j u,[a,b][j]?=some u→((w.alloc o).alloc (.cells #[a,b] t)).cell? ((⟨k,0,none⟩:Addr).add j)=some u:=by
 subst hk;exact cell_two_new _ _ _ _
theorem zc0 (w:World) (a b:Value) (t:TypeId) (k:Nat) (hk:k=w.heap.size) :
  ∀j u,[a,b][j]?=some u→(w.alloc (.cells #[a,b] t)).cell? ((⟨k,0,none⟩:Addr).add j)=some u:=by
 subst hk;exact cell_two_new _ _ _ _
theorem XW {wr w2:World} (O:Obj) (hb2:Below (wr.alloc O).heap.size (wr.alloc O) w2) (x y:Value) :
  Below wr.heap.size wr ((w2.setCell ⟨wr.heap.size,0,none⟩ x).setCell ⟨wr.heap.size,1,none⟩ y):=
 ((((Below.refl _ wr).alloc (Nat.le_refl _) O).trans (hb2.mono (by simp))).setCell (Nat.le_refl _) x).setCell (Nat.le_refl _) y
theorem zgN {w wr w1:World} {e:TypeId} {size:Nat} {v:Value} {n:Nat} {xs:List Value} (hbel:Below w.heap.size w wr) (hown:wr.ownsRow w.heap.size e size v n xs) (a:Obj)
  (hg:(wr.alloc a).grownBy w1 v.ownBlock):Below w.heap.size w w1:=by
 have hsz:=hbel.size
 exact (hbel.alloc hsz a).grown hg (by simp;omega) (fun k hk=>(hown.lt k hk).1)
theorem Xe {w wr w1:World} {e:TypeId} {size:Nat} {v:Value} {n:Nat} {xs:List Value} (hbel:Below w.heap.size w wr) (hown:wr.ownsRow w.heap.size e size v n xs) (a b:Obj)
  (hg:((wr.alloc a).alloc b).grownBy w1 v.ownBlock):Below w.heap.size w w1:=by
 have hsz:=hbel.size
 exact ((hbel.alloc hsz a).alloc (by simp;omega) b).grown hg (by simp;omega) (fun k hk=>(hown.lt k hk).1)
theorem ziT (s:ByteArray) (w:World) (hs:s.size≤60) :
  Calls Tryz.prog 176 #[.string s] w fun e w'=>∃v,e = .returned (.tuple #[v, .bool (Ref.parts s).isSome])∧Below w.heap.size w w' ∧
   ((Ref.parts s).isSome=false→v = .slice none 0 0)∧w'.ownsRow w.heap.size 368 2 v ((Ref.parts s).getD []).length (Ref.qG ((Ref.parts s).getD [])):=by
 obtain ⟨i0,hi,hz0,hz1,hz2⟩:=info_parts Tryz.infoPart
 have hs6:decide (60<(s.size:Int))=false:=by simp;omega
 have hP:Ref.parts s=(Ref.vC (s.size+1) s).map fun r=>[]++r:=by unfold Ref.parts;rw [if_neg (by omega)];simp
 generalize hPP:Ref.parts s=P at *
 clear hPP
 have HP:Hid (P=(Ref.vC (s.size+1) s).map fun r=>[]++r):=hP
 clear hP
 go_enter Tryz.func176,Tryz.ntmps176
 go_wp2
 go_loopw [0,4] (fun sv lv wr=>∃(t:ByteArray) (f:Nat) (done:List (Int×ByteArray)),sv = .string t∧done.length+t.size≤s.size∧t.size<f∧P=((Ref.vC f t).map fun r=>done++r) ∧
   wr.ownsRow w.heap.size 368 2 lv done.length (Ref.qG done)∧Below w.heap.size w wr) (fun sv _ _=>Ref.strLen sv)
 case atStart=>exact ⟨s,s.size+1,[],rfl,by simp,by omega,HP.out,World.ownsRow_nil _ _ _ _,Below.refl _ _⟩
 case round=>
  obtain ⟨t,f,done,rfl,hdt,hf,hP0,hown,hbel⟩:=hrel
  have HP1:Hid (P=(Ref.vC f t).map fun r=>done++r):=hP0
  clear hP0 HP
  have hsz:=hbel.size
  by_cases hp:0<t.size
  ·have hcs:=Ref.ZQ t hp
   cases hok:Ref.uy t with
   | false=>
    have HO:Hid (Ref.uy t=false):=hok
    have hfin:=Ref.Yv P f t done hp hf HP1.out (by unfold Ref.zM;rw [if_pos hok])
    subst hfin
    clear hok
    go_wp2_with (go_at_call 217;refine (yY t _ false _ (by unfold maxLen;omega) hp rfl HO.out).mono ?_;rintro e w' ⟨rfl,rfl⟩)
    go_ret2
    exact ⟨_,rfl,hbel,fun _=>rfl,World.ownsRow_nil _ _ _ _⟩
   | true=>
    obtain ⟨c,hc⟩:∃c,Ref.zL t=c:=⟨_,rfl⟩
    rw [hc] at hcs
    by_cases c1:(c.toList==[42])=true
    ·have hst:Ref.zM t=some (3,c,c.size):=by unfold Ref.zM;rw [if_neg (by simp [hok]),hc,if_pos c1]
     obtain ⟨f',hf',hP'⟩:=Ref.kS P f t done hp hf HP1.out 3 c c.size hst
     have HP2:=hid hP'
     have HC:=hid hc
     have HO:=hid hok
     clear hP' hc hok hst HP1
     go_wp2_with (first
      | (go_at_call 217;refine (yY t c true _ (by unfold maxLen;omega) hp HC.out HO.out).mono ?_;rintro e w' ⟨rfl,rfl⟩)
      | (at_builtin;refine wpList_append_own _ rfl _ _ 314 rfl w.heap.size 368 i0 (.agg #[.int .i64 0, .string ⟨#[]⟩]) 2 24 Tryz.underlying314 hi hz0 hz1 hz2 rfl (by decide) _ _ _ rfl ((hown.alloc _).alloc _) ⟨w'.heap.size+1,0,none⟩ 1 1 [.int .i64 3, .string c] rfl rfl ?_ ?_ ?_ ?_ ?_ ?_))
     ·exact xU _ _ _ _ _ _ (by simp)
     ·exact uH _ _
     ·unfold maxLen;omega
     ·omega
     ·simp;omega
     ·intro v' w1 hown' hgrow _
      have hb1:=Xe hbel hown _ _ hgrow
      have hown2:w1.ownsRow w.heap.size 368 2 v' (done++[((3:Int),c)]).length (Ref.qG (done++[((3:Int),c)])):=by rw [Ref.yg,List.length_append];exact hown'
      clear hown' hgrow hown
      go_wp2
      go_roundw
      case rel=>exact ⟨_,f',_,rfl,by simp;omega,hf',HP2.out,hown2,hb1⟩
      case measure=>simp [Ref.strLen];omega
    rw [Bool.not_eq_true] at c1
    by_cases c2:(c.toList==[63])=true
    ·have hst:Ref.zM t=some (2,c,c.size):=by unfold Ref.zM;rw [if_neg (by simp [hok]),hc,if_neg (by simp [c1]),if_pos c2]
     obtain ⟨f',hf',hP'⟩:=Ref.kS P f t done hp hf HP1.out 2 c c.size hst
     have HP2:=hid hP'
     have HC:=hid hc
     have HO:=hid hok
     clear hP' hc hok hst HP1
     go_wp2_with (first
      | (go_at_call 217;refine (yY t c true _ (by unfold maxLen;omega) hp HC.out HO.out).mono ?_;rintro e w' ⟨rfl,rfl⟩)
      | (at_builtin;refine wpList_append_own _ rfl _ _ 314 rfl w.heap.size 368 i0 (.agg #[.int .i64 0, .string ⟨#[]⟩]) 2 24 Tryz.underlying314 hi hz0 hz1 hz2 rfl (by decide) _ _ _ rfl ((hown.alloc _).alloc _) ⟨w'.heap.size+1,0,none⟩ 1 1 [.int .i64 2, .string c] rfl rfl ?_ ?_ ?_ ?_ ?_ ?_))
     ·exact xU _ _ _ _ _ _ (by simp)
     ·exact uH _ _
     ·unfold maxLen;omega
     ·omega
     ·simp;omega
     ·intro v' w1 hown' hgrow _
      have hb1:=Xe hbel hown _ _ hgrow
      have hown2:w1.ownsRow w.heap.size 368 2 v' (done++[((2:Int),c)]).length (Ref.qG (done++[((2:Int),c)])):=by rw [Ref.yg,List.length_append];exact hown'
      clear hown' hgrow hown
      go_wp2
      go_roundw
      case rel=>exact ⟨_,f',_,rfl,by simp;omega,hf',HP2.out,hown2,hb1⟩
      case measure=>simp [Ref.strLen];omega
    rw [Bool.not_eq_true] at c2
    by_cases c3:(c.toList==[36])=true
    ·obtain ⟨k,u,n,hd⟩:∃k u n,Ref.qH t=(k,u,n):=⟨_,_,_,rfl⟩
     have hds:=Ref.YX t
     rw [hd] at hds
     simp only at hds
     by_cases hn0:n=0
     ·subst hn0
      have hst:Ref.zM t=none:=by unfold Ref.zM;rw [if_neg (by simp [hok]),hc,if_neg (by simp [c1]),if_neg (by simp [c2]),if_pos c3,hd,if_pos rfl]
      have hfin:=Ref.Yv P f t done hp hf HP1.out hst
      subst hfin
      have HC:=hid hc
      have HO:=hid hok
      have HD:=hid hd
      clear hc hok hst hd HP1
      go_wp2_with (first
       | (go_at_call 217;refine (yY t c true _ (by unfold maxLen;omega) hp HC.out HO.out).mono ?_;rintro e w' ⟨rfl,rfl⟩)
       | (go_at_call 218;refine (zaT t u k 0 _ (by unfold maxLen;omega) HD.out).mono ?_;rintro e w2 ⟨rfl,hb2⟩;obtain ⟨hcl,hfr⟩:=JD hb2;have hz:=hb2.size))
      go_ret2
      exact ⟨_,rfl,hbel.trans ((XW _ hb2 _ _).mono hsz),fun _=>rfl,World.ownsRow_nil _ _ _ _⟩
     ·have hst:Ref.zM t=some (k,u,n):=by unfold Ref.zM;rw [if_neg (by simp [hok]),hc,if_neg (by simp [c1]),if_neg (by simp [c2]),if_pos c3,hd,if_neg hn0]
      obtain ⟨f',hf',hP'⟩:=Ref.kS P f t done hp hf HP1.out k u n hst
      have HP2:=hid hP'
      have HC:=hid hc
      have HO:=hid hok
      have HD:=hid hd
      have hn1:((n:Int)==0)=false:=by simp;omega
      clear hP' hc hok hst hd HP1
      go_wp2_with (first
       | (go_at_call 217;refine (yY t c true _ (by unfold maxLen;omega) hp HC.out HO.out).mono ?_;rintro e w' ⟨rfl,rfl⟩)
       | (go_at_call 218;refine (zaT t u k n _ (by unfold maxLen;omega) HD.out).mono ?_;rintro e w2 ⟨rfl,hb2⟩;obtain ⟨hcl,hfr⟩:=JD hb2;have hz:=hb2.size)
       | (at_builtin;refine wpList_append_own _ rfl _ _ 314 rfl w.heap.size 368 i0 (.agg #[.int .i64 0, .string ⟨#[]⟩]) 2 24 Tryz.underlying314 hi hz0 hz1 hz2 rfl (by decide) _ done.length (Ref.qG done) rfl ?_ ⟨w2.heap.size,0,none⟩ 1 1 [.int .i64 k, .string u] rfl rfl ?_ ?_ ?_ ?_ ?_ ?_))
      ·exact (ownsRow_below hown (XW _ hb2 _ _)).alloc _
      ·exact zc0 _ _ _ _ _ (by simp [World.setCell])
      ·exact uH _ _
      ·unfold maxLen;omega
      ·omega
      ·have:=hb2.size;simp [World.setCell] at this ⊢;omega
      ·intro v' w1 hown' hgrow _
       have hb1:=zgN (hbel.trans ((XW _ hb2 _ _).mono hsz)) (ownsRow_below hown (XW _ hb2 _ _)) _ hgrow
       have hown2:w1.ownsRow w.heap.size 368 2 v' (done++[(k,u)]).length (Ref.qG (done++[(k,u)])):=by rw [Ref.yg,List.length_append];exact hown'
       clear hown' hgrow hown hb2 hcl hfr hz
       go_wp2
       go_roundw
       case rel=>exact ⟨_,f',_,rfl,by simp;omega,hf',HP2.out,hown2,hb1⟩
       case measure=>simp [Ref.strLen];omega
    ·rw [Bool.not_eq_true] at c3
     have hst:Ref.zM t=some (1,c,c.size):=by unfold Ref.zM;rw [if_neg (by simp [hok]),hc,if_neg (by simp [c1]),if_neg (by simp [c2]),if_neg (by simp [c3])]
     obtain ⟨f',hf',hP'⟩:=Ref.kS P f t done hp hf HP1.out 1 c c.size hst
     have HP2:=hid hP'
     have HC:=hid hc
     have HO:=hid hok
     clear hP' hc hok hst HP1
     go_wp2_with (first
      | (go_at_call 217;refine (yY t c true _ (by unfold maxLen;omega) hp HC.out HO.out).mono ?_;rintro e w' ⟨rfl,rfl⟩)
      | (at_builtin;refine wpList_append_own _ rfl _ _ 314 rfl w.heap.size 368 i0 (.agg #[.int .i64 0, .string ⟨#[]⟩]) 2 24 Tryz.underlying314 hi hz0 hz1 hz2 rfl (by decide) _ _ _ rfl ((hown.alloc _).alloc _) ⟨w'.heap.size+1,0,none⟩ 1 1 [.int .i64 1, .string c] rfl rfl ?_ ?_ ?_ ?_ ?_ ?_))
     ·exact xU _ _ _ _ _ _ (by simp)
     ·exact uH _ _
     ·unfold maxLen;omega
     ·omega
     ·simp;omega
     ·intro v' w1 hown' hgrow _
      have hb1:=Xe hbel hown _ _ hgrow
      have hown2:w1.ownsRow w.heap.size 368 2 v' (done++[((1:Int),c)]).length (Ref.qG (done++[((1:Int),c)])):=by rw [Ref.yg,List.length_append];exact hown'
      clear hown' hgrow hown
      go_wp2
      go_roundw
      case rel=>exact ⟨_,f',_,rfl,by simp;omega,hf',HP2.out,hown2,hb1⟩
      case measure=>simp [Ref.strLen];omega
  ·have hfin:=Ref.zaY P f t done hp hf HP1.out
   subst hfin
   clear HP1
   go_wp2
   go_ret2
   exact ⟨_,rfl,hbel,by simp,hown⟩
namespace Ref
def strCells (l:List ByteArray):List Value:=l.map Value.string
theorem U6 (l:List ByteArray) (c:ByteArray):strCells (l++[c])=strCells l++[.string c]:=by simp [strCells]
end Ref
end Go.Proofs.YtdakgnaojakldaaGreatDoor
