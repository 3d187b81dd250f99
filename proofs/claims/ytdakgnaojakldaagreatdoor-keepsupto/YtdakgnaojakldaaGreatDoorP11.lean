/- P -/
import Derived.Test.YtdakgnaojakldaaGreatDoorP01
import Derived.Deep.RegionWith
import Derived.Deep.Light
import Derived.Lib.DecodeN
import Derived.Lib.Strings
import Derived.Lib.CutLaws
import Derived.Lib.ValidAsc
set_option maxRecDepth 100000
set_option maxHeartbeats 4000000
namespace Go.Proofs.YtdakgnaojakldaaGreatDoor
open Go.RowKit
namespace Ref
end Ref
namespace Pg
open Ref
def zi1 (c:Nat):List Nat:=
 if c<128 then [c]
 else if c<2048 then [192+c / 64,128+c % 64]
 else if c<65536 then [224+c / 4096,128+c / 64 % 64,128+c % 64]
 else [240+c / 262144,128+c / 4096 % 64,128+c / 64 % 64,128+c % 64]
def zet (l:List Nat):Nat:=
 if l.length=1 then l.getD 0 0
 else if l.length=2 then (l.getD 0 0-192)*64+(l.getD 1 0-128)
 else if l.length=3 then (l.getD 0 0-224)*4096+(l.getD 1 0-128)*64+(l.getD 2 0-128)
 else (l.getD 0 0-240)*262144+(l.getD 1 0-128)*4096+(l.getD 2 0-128)*64+(l.getD 3 0-128)
theorem zmv (a:Nat):zet [a]=a:=by
 simp [zet]
theorem zma (a b:Nat):zet [a,b]=(a-192)*64+(b-128):=by
 simp [zet]
theorem zmw (a b c:Nat):zet [a,b,c]=(a-224)*4096+(b-128)*64+(c-128):=by
 simp [zet]
theorem zme (a b c d:Nat):zet [a,b,c,d]=(a-240)*262144+(b-128)*4096+(c-128)*64+(d-128):=by
 simp [zet]
theorem Jp (c:Nat):zet (zi1 c)=c:=by
 unfold zi1
 by_cases h1:c<128
 ·rw [if_pos h1,zmv]
 by_cases h2:c<2048
 ·rw [if_neg h1,if_pos h2,zma];omega
 by_cases h3:c<65536
 ·rw [if_neg h1,if_neg h2,if_pos h3,zmw];omega
 ·rw [if_neg h1,if_neg h2,if_neg h3,zme];omega
def nums (t:ByteArray):List Nat:=t.data.toList.map UInt8.toNat
def runeOf (t:ByteArray):Nat:=zet (nums t)
def zkL (t:ByteArray):Prop:=∃c,c≤1114111∧nums t=zi1 c
theorem rune_le (t:ByteArray) (h:zkL t):runeOf t≤1114111:=by
 obtain ⟨c,hc,e⟩:=h
 unfold runeOf;rw [e,Jp];exact hc
def zlF (n b0 b1 b2 b3:Nat):Nat:=
 if n=0 then 0
 else if b0<128 then 1
 else if 194≤b0∧b0≤223 then (if 2≤n∧128≤b1∧b1≤191 then 2 else 0)
 else if b0=224 then (if 3≤n∧160≤b1∧b1≤191∧128≤b2∧b2≤191 then 3 else 0)
 else if b0=237 then (if 3≤n∧128≤b1∧b1≤159∧128≤b2∧b2≤191 then 3 else 0)
 else if 225≤b0∧b0≤239 then (if 3≤n∧128≤b1∧b1≤191∧128≤b2∧b2≤191 then 3 else 0)
 else if b0=240 then (if 4≤n∧144≤b1∧b1≤191∧128≤b2∧b2≤191∧128≤b3∧b3≤191 then 4 else 0)
 else if 241≤b0∧b0≤243 then (if 4≤n∧128≤b1∧b1≤191∧128≤b2∧b2≤191∧128≤b3∧b3≤191 then 4 else 0)
 else if b0=244 then (if 4≤n∧128≤b1∧b1≤143∧128≤b2∧b2≤191∧128≤b3∧b3≤191 then 4 else 0)
 else 0
theorem Ur (l:List UInt8) (lo hi:Int):yI l lo hi 1=decide (lo≤((l.getD 1 0).toNat:Int)∧((l.getD 1 0).toNat:Int)≤hi):=by
 simp [yI,List.range_succ]
theorem Ua (l:List UInt8) (lo hi:Int):yI l lo hi 2=(decide (lo≤((l.getD 1 0).toNat:Int)∧((l.getD 1 0).toNat:Int)≤hi)&&decide (128≤(l.getD 2 0).toNat∧(l.getD 2 0).toNat≤191)):=by
 rw [Zg,Ur];simp
theorem zbO (l:List UInt8) (lo hi:Int):yI l lo hi 3=(decide (lo≤((l.getD 1 0).toNat:Int)∧((l.getD 1 0).toNat:Int)≤hi)&&decide (128≤(l.getD 2 0).toNat∧(l.getD 2 0).toNat≤191)&&decide (128≤(l.getD 3 0).toNat∧(l.getD 3 0).toNat≤191)):=by
 rw [Zg,Ua];simp
theorem X6 (l:List UInt8) (n lo hi:Int) (hl:l.length≠0) (h:¬(l.getD 0 0).toNat<128) (hr:qE ((l.getD 0 0).toNat:Int)=(n,lo,hi)) :
  qi l=if n=0 then 0 else if (l.length:Int)<n+1 then 0 else if yI l lo hi n.toNat then n.toNat+1 else 0:=by
 unfold qi;rw [if_neg hl,if_neg h,hr]
theorem ziK (l:List UInt8) (lo hi:Nat) (hl:l.length≠0) (h:¬(l.getD 0 0).toNat<128) (hr:qE ((l.getD 0 0).toNat:Int)=(1,(lo:Int),(hi:Int))) :
  qi l=if 2≤l.length∧lo≤(l.getD 1 0).toNat∧(l.getD 1 0).toNat≤hi then 2 else 0:=by
 rw [X6 l _ _ _ hl h hr,if_neg (by decide),show (1:Int).toNat=1 from rfl,Ur]
 generalize (l.getD 1 0).toNat=b1
 by_cases c:2≤l.length∧lo≤b1∧b1≤hi
 ·rw [if_pos c,if_neg (by omega),if_pos (by simp;omega)]
 ·rw [if_neg c]
  by_cases d:(l.length:Int)<1+1
  ·rw [if_pos d]
  ·rw [if_neg d,if_neg (by simp;omega)]
theorem JE (l:List UInt8) (lo hi:Nat) (hl:l.length≠0) (h:¬(l.getD 0 0).toNat<128) (hr:qE ((l.getD 0 0).toNat:Int)=(2,(lo:Int),(hi:Int))) :
  qi l=if 3≤l.length∧lo≤(l.getD 1 0).toNat∧(l.getD 1 0).toNat≤hi∧128≤(l.getD 2 0).toNat∧(l.getD 2 0).toNat≤191 then 3 else 0:=by
 rw [X6 l _ _ _ hl h hr,if_neg (by decide),show (2:Int).toNat=2 from rfl,Ua]
 generalize (l.getD 1 0).toNat=b1
 generalize (l.getD 2 0).toNat=b2
 by_cases c:3≤l.length∧lo≤b1∧b1≤hi∧128≤b2∧b2≤191
 ·rw [if_pos c,if_neg (by omega),if_pos (by simp;omega)]
 ·rw [if_neg c]
  by_cases d:(l.length:Int)<2+1
  ·rw [if_pos d]
  ·rw [if_neg d,if_neg (by simp;omega)]
theorem JJ (l:List UInt8) (lo hi:Nat) (hl:l.length≠0) (h:¬(l.getD 0 0).toNat<128) (hr:qE ((l.getD 0 0).toNat:Int)=(3,(lo:Int),(hi:Int))) :
  qi l=if 4≤l.length∧lo≤(l.getD 1 0).toNat∧(l.getD 1 0).toNat≤hi∧128≤(l.getD 2 0).toNat∧(l.getD 2 0).toNat≤191∧128≤(l.getD 3 0).toNat∧(l.getD 3 0).toNat≤191 then 4 else 0:=by
 rw [X6 l _ _ _ hl h hr,if_neg (by decide),show (3:Int).toNat=3 from rfl,zbO]
 generalize (l.getD 1 0).toNat=b1
 generalize (l.getD 2 0).toNat=b2
 generalize (l.getD 3 0).toNat=b3
 by_cases c:4≤l.length∧lo≤b1∧b1≤hi∧128≤b2∧b2≤191∧128≤b3∧b3≤191
 ·rw [if_pos c,if_neg (by omega),if_pos (by simp;omega)]
 ·rw [if_neg c]
  by_cases d:(l.length:Int)<3+1
  ·rw [if_pos d]
  ·rw [if_neg d,if_neg (by simp;omega)]
theorem zij (l:List UInt8):qi l=zlF l.length (l.getD 0 0).toNat (l.getD 1 0).toNat (l.getD 2 0).toNat (l.getD 3 0).toNat:=by
 unfold zlF
 by_cases hl:l.length=0
 ·rw [if_pos hl];unfold qi;rw [if_pos hl]
 rw [if_neg hl]
 by_cases h:(l.getD 0 0).toNat<128
 ·rw [if_pos h];unfold qi;rw [if_neg hl,if_pos h]
 rw [if_neg h]
 by_cases c1:194≤(l.getD 0 0).toNat∧(l.getD 0 0).toNat≤223
 ·rw [if_pos c1]
  exact ziK l 128 191 hl h (by unfold qE;rw [if_pos (by omega)];rfl)
 rw [if_neg c1]
 by_cases c2:(l.getD 0 0).toNat=224
 ·rw [if_pos c2]
  exact JE l 160 191 hl h (by unfold qE;rw [if_neg (by omega),if_pos (by omega)];rfl)
 rw [if_neg c2]
 by_cases c3:(l.getD 0 0).toNat=237
 ·rw [if_pos c3]
  exact JE l 128 159 hl h (by unfold qE;rw [if_neg (by omega),if_neg (by omega),if_pos (by omega)];rfl)
 rw [if_neg c3]
 by_cases c4:225≤(l.getD 0 0).toNat∧(l.getD 0 0).toNat≤239
 ·rw [if_pos c4]
  exact JE l 128 191 hl h (by unfold qE;rw [if_neg (by omega),if_neg (by omega),if_neg (by omega),if_pos (by omega)];rfl)
 rw [if_neg c4]
 by_cases c5:(l.getD 0 0).toNat=240
 ·rw [if_pos c5]
  exact JJ l 144 191 hl h (by unfold qE;rw [if_neg (by omega),if_neg (by omega),if_neg (by omega),if_neg (by omega),if_pos (by omega)];rfl)
 rw [if_neg c5]
 by_cases c6:241≤(l.getD 0 0).toNat∧(l.getD 0 0).toNat≤243
 ·rw [if_pos c6]
  exact JJ l 128 191 hl h (by unfold qE;rw [if_neg (by omega),if_neg (by omega),if_neg (by omega),if_neg (by omega),if_neg (by omega),if_pos (by omega)];rfl)
 rw [if_neg c6]
 by_cases c7:(l.getD 0 0).toNat=244
 ·rw [if_pos c7]
  exact JJ l 128 143 hl h (by unfold qE;rw [if_neg (by omega),if_neg (by omega),if_neg (by omega),if_neg (by omega),if_neg (by omega),if_neg (by omega),if_pos (by omega)];rfl)
 rw [if_neg c7]
 unfold qi
 rw [if_neg hl,if_neg h,if_pos]
 unfold qE
 rw [if_neg (by omega),if_neg (by omega),if_neg (by omega),if_neg (by omega),if_neg (by omega),if_neg (by omega),if_neg (by omega)]
theorem zlv (n b0 b1 b2 b3:Nat) (h:b0<128):Lib.decodeN n b0 b1 b2 b3=(b0,1):=by
 unfold Lib.decodeN;rw [if_pos h]
theorem zlG (n b0 b1 b2 b3:Nat) (h:194≤b0∧b0≤223) (hn:2≤n) (h1:128≤b1∧b1≤191):Lib.decodeN n b0 b1 b2 b3=(b0 % 32*64+b1 % 64,2):=by
 unfold Lib.decodeN;rw [if_neg (by omega),if_pos ⟨by omega,by omega,by omega⟩,if_pos (by omega)]
theorem zgY (n b0 b1 b2 b3:Nat) (h:224≤b0∧b0≤239) (hn:3≤n) (h1:128≤b1∧b1≤191) (h2:128≤b2∧b2≤191) (ha:b0=224→160≤b1) (hb:b0=237→b1≤159) :
  Lib.decodeN n b0 b1 b2 b3=(b0 % 16*4096+b1 % 64*64+b2 % 64,3):=by
 unfold Lib.decodeN;rw [if_neg (by omega),if_neg (by omega),if_pos ⟨by omega,⟨by omega,by omega⟩,by omega,by omega⟩,if_pos (by omega)]
theorem zjS (n b0 b1 b2 b3:Nat) (h:240≤b0∧b0≤244) (hn:4≤n) (h1:128≤b1∧b1≤191) (h2:128≤b2∧b2≤191) (h3:128≤b3∧b3≤191) (ha:b0=240→144≤b1) (hb:b0=244→b1≤143) :
  Lib.decodeN n b0 b1 b2 b3=(b0 % 8*262144+b1 % 64*4096+b2 % 64*64+b3 % 64,4):=by
 unfold Lib.decodeN;rw [if_neg (by omega),if_neg (by omega),if_neg (by omega),if_pos ⟨by omega,⟨by omega,by omega⟩,⟨by omega,by omega⟩,by omega,by omega⟩,if_pos (by omega)]
def Good (n b0 b1 b2 b3 k:Nat):Prop:=
 Lib.decodeN n b0 b1 b2 b3=(zet ([b0,b1,b2,b3].take k),k)∧k≤n∧k≤4∧∃c,c≤1114111∧[b0,b1,b2,b3].take k=zi1 c
theorem zji (n b0 b1 b2 b3:Nat) (hn:n≠0) (h:b0<128):Good n b0 b1 b2 b3 1:=by
 refine ⟨by rw [zlv _ _ _ _ _ h];rfl,by omega,by omega,b0,by omega,?_⟩
 unfold zi1;rw [if_pos h];rfl
theorem zkn (n b0 b1 b2 b3:Nat) (h:194≤b0∧b0≤223) (hn:2≤n) (h1:128≤b1∧b1≤191):Good n b0 b1 b2 b3 2:=by
 refine ⟨?_,by omega,by omega,b0 % 32*64+b1 % 64,by omega,?_⟩
 ·rw [zlG _ _ _ _ _ h hn h1]
  show _=(zet [b0,b1],2)
  rw [zma,Prod.mk.injEq]
  exact ⟨by omega,rfl⟩
 ·show [b0,b1]=_
  unfold zi1;rw [if_neg (by omega),if_pos (by omega)]
  congr 1
  ·omega
  ·congr 1;omega
theorem Yb (n b0 b1 b2 b3:Nat) (h:224≤b0∧b0≤239) (hn:3≤n) (h1:128≤b1∧b1≤191) (h2:128≤b2∧b2≤191) (ha:b0=224→160≤b1) (hb:b0=237→b1≤159):Good n b0 b1 b2 b3 3:=by
 refine ⟨?_,by omega,by omega,b0 % 16*4096+b1 % 64*64+b2 % 64,by omega,?_⟩
 ·rw [zgY _ _ _ _ _ h hn h1 h2 ha hb]
  show _=(zet [b0,b1,b2],3)
  rw [zmw,Prod.mk.injEq]
  exact ⟨by omega,rfl⟩
 ·show [b0,b1,b2]=_
  unfold zi1;rw [if_neg (by omega),if_neg (by omega),if_pos (by omega)]
  congr 1
  ·omega
  ·congr 1
   ·omega
   ·congr 1;omega
theorem Jv (n b0 b1 b2 b3:Nat) (h:240≤b0∧b0≤244) (hn:4≤n) (h1:128≤b1∧b1≤191) (h2:128≤b2∧b2≤191) (h3:128≤b3∧b3≤191) (ha:b0=240→144≤b1) (hb:b0=244→b1≤143):Good n b0 b1 b2 b3 4:=by
 refine ⟨?_,by omega,by omega,b0 % 8*262144+b1 % 64*4096+b2 % 64*64+b3 % 64,by omega,?_⟩
 ·rw [zjS _ _ _ _ _ h hn h1 h2 h3 ha hb]
  show _=(zet [b0,b1,b2,b3],4)
  rw [zme,Prod.mk.injEq]
  exact ⟨by omega,rfl⟩
 ·show [b0,b1,b2,b3]=_
  unfold zi1;rw [if_neg (by omega),if_neg (by omega),if_neg (by omega)]
  congr 1
  ·omega
  ·congr 1
   ·omega
   ·congr 1
    ·omega
    ·congr 1;omega
theorem zlQ (n b0 b1 b2 b3:Nat) (hn:n≠0) (h0:b0<256) (h:zlF n b0 b1 b2 b3=0):Lib.decodeN n b0 b1 b2 b3=(65533,1):=by
 unfold zlF at h
 rw [if_neg hn] at h
 unfold Lib.decodeN
 repeat' split at h
 all_goals first|(exfalso;omega)|skip
 all_goals repeat' split
 all_goals first|rfl|(exfalso;omega)
theorem zjg (n b0 b1 b2 b3:Nat) (hn:n≠0) (h:zlF n b0 b1 b2 b3≠0):Good n b0 b1 b2 b3 (zlF n b0 b1 b2 b3):=by
 unfold zlF at h ⊢
 rw [if_neg hn] at h ⊢
 split at h
 ·rename_i c;rw [if_pos c];exact zji _ _ _ _ _ hn c
 rename_i c0;rw [if_neg c0]
 split at h
 ·rename_i c;rw [if_pos c]
  split at h
  ·rename_i d;rw [if_pos d];exact zkn _ _ _ _ _ c d.1 d.2
  ·exact absurd rfl h
 rename_i c1;rw [if_neg c1]
 split at h
 ·rename_i c;rw [if_pos c]
  split at h
  ·rename_i d;rw [if_pos d];exact Yb _ _ _ _ _ (by omega) d.1 (by omega) (by omega) (by omega) (by omega)
  ·exact absurd rfl h
 rename_i c2;rw [if_neg c2]
 split at h
 ·rename_i c;rw [if_pos c]
  split at h
  ·rename_i d;rw [if_pos d];exact Yb _ _ _ _ _ (by omega) d.1 (by omega) (by omega) (by omega) (by omega)
  ·exact absurd rfl h
 rename_i c3;rw [if_neg c3]
 split at h
 ·rename_i c;rw [if_pos c]
  split at h
  ·rename_i d;rw [if_pos d];exact Yb _ _ _ _ _ (by omega) d.1 (by omega) (by omega) (by omega) (by omega)
  ·exact absurd rfl h
 rename_i c4;rw [if_neg c4]
 split at h
 ·rename_i c;rw [if_pos c]
  split at h
  ·rename_i d;rw [if_pos d];exact Jv _ _ _ _ _ (by omega) d.1 (by omega) (by omega) (by omega) (by omega) (by omega)
  ·exact absurd rfl h
 rename_i c5;rw [if_neg c5]
 split at h
 ·rename_i c;rw [if_pos c]
  split at h
  ·rename_i d;rw [if_pos d];exact Jv _ _ _ _ _ (by omega) d.1 (by omega) (by omega) (by omega) (by omega) (by omega)
  ·exact absurd rfl h
 rename_i c6;rw [if_neg c6]
 split at h
 ·rename_i c;rw [if_pos c]
  split at h
  ·rename_i d;rw [if_pos d];exact Jv _ _ _ _ _ (by omega) d.1 (by omega) (by omega) (by omega) (by omega) (by omega)
  ·exact absurd rfl h
 ·exact absurd rfl h
theorem zko (s:ByteArray) (k:Nat):s.get! k=s.data.toList.getD k 0:=by
 obtain ⟨⟨l⟩⟩:=s
 show (Array.mk l)[k]! = _
 by_cases h:k<l.length
 ·simp [List.getD,h]
 ·simp [List.getD,h];rfl
theorem ziz (l:List UInt8) (k:Nat) (hk:k≤4) (hl:k≤l.length):(l.take k).map UInt8.toNat=[(l.getD 0 0).toNat,(l.getD 1 0).toNat,(l.getD 2 0).toNat,(l.getD 3 0).toNat].take k:=by
 obtain rfl|rfl|rfl|rfl|rfl:k=0∨k=1∨k=2∨k=3∨k=4:=by omega
 all_goals rcases l with _|⟨a,_|⟨b,_|⟨c,_|⟨d,l⟩⟩⟩⟩
 all_goals first|rfl|(simp at hl)
theorem zju (s:ByteArray) (k:Nat):nums (s.extract 0 k)=(s.data.toList.take k).map UInt8.toNat:=by
 unfold nums;simp [ByteArray.data_extract]
theorem zj8 (s:ByteArray) (hp:0<s.size) :
  (uy s=false∧Utf8.decode s 0=(65533,1)) ∨
  (uy s=true∧zkL (zL s)∧Utf8.decode s 0=(runeOf (zL s),(zL s).size)∧¬(runeOf (zL s)=65533∧(zL s).size=1)):=by
 have hd:=Lib.decode_at s 0
 simp only [zko,Nat.sub_zero,Nat.zero_add] at hd
 have hc:=zij s.data.toList
 have hln:s.data.toList.length=s.size:=zg s
 rw [hln] at hc
 by_cases h:qi s.data.toList=0
 ·left
  refine ⟨by unfold uy;rw [h];rfl,?_⟩
  rw [hd]
  exact zlQ _ _ _ _ _ (by omega) (UInt8.toNat_lt _) (hc.symm.trans h)
 ·right
  have hs:zL s=s.extract 0 (qi s.data.toList):=by unfold zL;rw [if_neg h]
  have hg:=zjg _ _ _ _ _ (by omega) (fun e=>h (hc.trans e))
  rw [← hc] at hg
  obtain ⟨g1,g2,g3,c,g4,g5⟩:=hg
  have hn:nums (zL s)=zi1 c:=by
   rw [hs,zju,ziz _ _ g3 (by rw [hln];exact g2)];exact g5
  have hr:runeOf (zL s)=c:=by unfold runeOf;rw [hn,Jp]
  have hsz:(zL s).size=qi s.data.toList:=by rw [hs,ByteArray.size_extract];omega
  refine ⟨by unfold uy;simp [h],⟨c,g4,hn⟩,?_,?_⟩
  ·rw [hd,g1,hr,hsz,g5,Jp]
  ·rintro ⟨e1,e2⟩
   rw [hr] at e1
   have:(nums (zL s)).length=1:=by unfold nums;rw [List.length_map,zg];exact e2
   rw [hn,e1] at this
   simp [zi1] at this
def YJ (p:Int×ByteArray):Int:=if p.1=3 then -2 else if p.1=2 then -1 else if p.1=4 then 0 else (runeOf p.2:Int)
def nameOf (p:Int×ByteArray):ByteArray:=if p.1=4 then p.2 else ⟨#[]⟩
def zgh (u:ByteArray):Nat:=u.data.toList.findIdx fun c=>c.toNat==125
def QC (u:ByteArray):Bool:=decide (zgh u<u.size)
def uJ (u:ByteArray):ByteArray:=if QC u then u.extract 0 (zgh u) else u
theorem zcJ (l:List UInt8):Lib.index l [125]=if l.findIdx (fun c=>c.toNat==125)<l.length then ((l.findIdx fun c=>c.toNat==125:Nat):Int) else -1:=by
 induction l with
 | nil=>rfl
 | cons b l ih=>
  unfold Lib.index
  rw [ih,List.findIdx_cons]
  have e:([125].isPrefixOf (b::l))=(b.toNat==125):=by
   simp only [List.isPrefixOf,Bool.and_true]
   rw [Bool.eq_iff_iff,beq_iff_eq,beq_iff_eq]
   constructor
   ·intro h;rw [← h];rfl
   ·intro h;exact (UInt8.toNat_inj.1 (by rw [h];rfl)).symm
  rw [e]
  cases h:b.toNat==125 with
  | true=>simp
  | false=>
   simp only [Bool.false_eq_true,if_false,cond_false,List.length_cons]
   generalize l.findIdx (fun c=>c.toNat==125)=f
   generalize l.length=n
   by_cases hl:f<n
   ·have h1:f+1<n+1:=by omega
    have h2:((f:Int) == -1)=false:=by rw [beq_eq_false_iff_ne];omega
    simp [hl,h1,h2]
   ·have h1:¬f+1<n+1:=by omega
    simp [hl,h1]
theorem zgV (u:ByteArray):(⟨(Lib.cut u.data.toList [125]).1.toArray⟩:ByteArray)=uJ u∧(Lib.cut u.data.toList [125]).2.2=QC u:=by
 have hi:=zcJ u.data.toList
 rw [zg] at hi
 unfold uJ QC zgh
 by_cases h:u.data.toList.findIdx (fun c=>c.toNat==125)<u.size
 ·rw [if_pos h] at hi
  have hc:=Lib.cutB_hit u ⟨#[125]⟩ _ hi
  rw [decide_eq_true h,if_pos rfl]
  exact ⟨hc.1,hc.2.2⟩
 ·rw [if_neg h] at hi
  have hc:=Lib.cutB_miss u ⟨#[125]⟩ hi
  rw [decide_eq_false h,if_neg (by decide)]
  exact ⟨hc.1,hc.2.2⟩
def zin (t:ByteArray):Int×ByteArray×Nat:=
 if t.size=0 then (0,⟨#[]⟩,0)
 else if (t.data.toList.getD 0 0).toNat=36∨(t.data.toList.getD 0 0).toNat=42∨(t.data.toList.getD 0 0).toNat=63 then ((t.data.toList.getD 0 0).toNat,⟨#[]⟩,2)
 else if (t.data.toList.getD 0 0).toNat=123 then
  (if QC (t.extract 1 t.size) then (if zY (uJ (t.extract 1 t.size)) then (0,uJ (t.extract 1 t.size),2+(uJ (t.extract 1 t.size)).size+1) else (0,⟨#[]⟩,0)) else (0,⟨#[]⟩,0))
 else (0,⟨#[]⟩,0)
def zdl (p:Option (Int×ByteArray×Nat)):Int×ByteArray×Nat:=match p with
 | none=>(0,⟨#[]⟩,0)
 | some (k,t,n)=>(YJ (k,t),nameOf (k,t),n)
def zmz (s:ByteArray):Option (Int×ByteArray×Nat):=if (qH s).2.2=0 then none else some (qH s)
theorem ziD (s:ByteArray):(s.extract 1 s.size).data.toList=s.data.toList.drop 1:=Lib.ext_list s 1
theorem zkS (s:ByteArray) (k:Nat):(s.extract k s.size).extract 1 (s.extract k s.size).size=s.extract (k+1) s.size:=by
 rw [ByteArray.extract_extract,ByteArray.size_extract]
 have e:min (k+(min s.size s.size-k)) s.size=s.size∨s.size≤k:=by omega
 rcases e with e|e
 ·rw [e]
 ·have e1:min (k+(min s.size s.size-k)) s.size=s.size:=by omega
  rw [e1]
theorem zcu (s:ByteArray) (k:Nat) (hk:k<s.size):runeOf (s.extract k (k+1))=(s.data.toList.getD k 0).toNat:=by
 unfold runeOf nums
 have:(s.extract k (k+1)).data.toList=[s.data.toList.getD k 0]:=by
  have hk':k<s.data.toList.length:=by rw [zg];exact hk
  rw [ByteArray.data_extract,Array.toList_extract,List.getD_eq_getElem?_getD,List.getElem?_eq_getElem hk']
  simp only [List.extract_eq_take_drop,Option.getD_some]
  rw [List.drop_eq_getElem_cons hk']
  simp
 rw [this]
 simp only [List.map_cons,List.map_nil,zmv]
theorem zk4 (s:ByteArray) (hp:0<s.size):zin (s.extract 1 s.size)=zdl (zmz s):=by
 have hz:(s.extract 1 s.size).size=s.size-1:=by rw [ByteArray.size_extract];omega
 have h0:(s.extract 1 s.size).data.toList.getD 0 0=s.data.toList.getD 1 0:=by
  rw [ziD];simp
 unfold zin
 rw [h0,hz]
 unfold zmz qH
 by_cases h2:s.size<2
 ·rw [if_pos (by omega),if_pos h2];rfl
 rw [if_neg (by omega),if_neg h2]
 by_cases h3:(s.data.toList.getD 1 0).toNat=36∨(s.data.toList.getD 1 0).toNat=42∨(s.data.toList.getD 1 0).toNat=63
 ·rw [if_pos h3,if_pos h3]
  show _=(YJ (1,s.extract 1 2),nameOf (1,s.extract 1 2),2)
  have:YJ (1,s.extract 1 2)=((s.data.toList.getD 1 0).toNat:Int):=by
   show ((runeOf (s.extract 1 2):Nat):Int)=_
   rw [zcu s 1 (by omega)]
  rw [this];rfl
 rw [if_neg h3,if_neg h3]
 by_cases h4:(s.data.toList.getD 1 0).toNat=123
 ·rw [if_pos h4,if_pos h4]
  have hx:(s.extract 1 s.size).extract 1 (s.size-1)=s.extract 2 s.size:=by
   have:=zkS s 1;rw [hz] at this;exact this
  rw [hx]
  have hl:(s.extract 2 s.size).data.toList=s.data.toList.drop 2:=Lib.ext_list s 2
  have hb:qF s=2+zgh (s.extract 2 s.size):=by unfold qF zgh;rw [hl]
  have hs2:(s.extract 2 s.size).size=s.size-2:=by rw [ByteArray.size_extract];omega
  by_cases hc:qF s<s.size
  ·have hh:QC (s.extract 2 s.size)=true:=by unfold QC;rw [hs2];exact decide_eq_true (by omega)
   have hn:uJ (s.extract 2 s.size)=s.extract 2 (qF s):=by
    unfold uJ;rw [hh,if_pos rfl,ByteArray.extract_extract]
    have e2:min (2+zgh (s.extract 2 s.size)) s.size=qF s:=by rw [hb] at hc ⊢;omega
    rw [e2]
   have hsz:(s.extract 2 (qF s)).size=qF s-2:=by rw [ByteArray.size_extract];omega
   rw [hh,if_pos rfl,if_pos hc,hn]
   by_cases hi:zY (s.extract 2 (qF s))=true
   ·rw [if_pos hi,if_pos hi]
    show _=(YJ (4,_),nameOf (4,_),_)
    rw [hsz]
    have:2+(qF s-2)+1=qF s+1:=by omega
    rw [this];rfl
   ·rw [if_neg hi,if_neg hi];rfl
  ·have hh:QC (s.extract 2 s.size)=false:=by unfold QC;rw [hs2];exact decide_eq_false (by omega)
   rw [hh,if_neg (by decide),if_neg hc];rfl
 ·rw [if_neg h4,if_neg h4];rfl
theorem zd6 (s:ByteArray) (hp:0<s.size):(zL s).data.toList.getD 0 0=s.data.toList.getD 0 0:=by
 unfold zL
 generalize hk:(if qi s.data.toList=0 then 1 else qi s.data.toList)=k
 have h1:1≤k:=by rw [← hk];split<;>omega
 obtain ⟨⟨l⟩⟩:=s
 cases l with
 | nil=>exact absurd hp (by decide)
 | cons a l=>
  obtain ⟨j,rfl⟩:∃j,k=j+1:=⟨k-1,by omega⟩
  simp [ByteArray.data_extract]
theorem zdm (s:ByteArray) (hp:0<s.size) (c:UInt8) (h:(s.data.toList.getD 0 0).toNat≠c.toNat):((zL s).toList==[c])=false:=by
 rw [beq_eq_false_iff_ne]
 intro e
 rw [Lib.toList_data] at e
 have:=zd6 s hp
 rw [e] at this
 apply h
 rw [← this];rfl
theorem zgT (s:ByteArray) (hp:0<s.size) (c:UInt8) (hc:c.toNat<128) (h:(s.data.toList.getD 0 0).toNat=c.toNat):(zL s).toList=[c]∧uy s=true∧(zL s).size=1:=by
 have hl:qi s.data.toList=1:=by
  unfold qi
  rw [zg,if_neg (by omega),if_pos (by omega)]
 have hs:zL s=s.extract 0 1:=by unfold zL;rw [hl];rfl
 have hz:(zL s).size=1:=by rw [hs,ByteArray.size_extract];omega
 refine ⟨?_,by unfold uy;rw [hl];rfl,hz⟩
 rw [Lib.toList_data]
 have hh:=zd6 s hp
 have hlen:(zL s).data.toList.length=1:=by rw [zg];exact hz
 obtain ⟨a,ha⟩:=List.length_eq_one_iff.1 hlen
 rw [ha] at hh ⊢
 have:a=c:=UInt8.toNat_inj.1 (by rw [← h,← hh];rfl)
 rw [this]
theorem zii (s:ByteArray) (hp:0<s.size) (h:(s.data.toList.getD 0 0).toNat=42):zdl (zM s)=(-2,⟨#[]⟩,1):=by
 obtain ⟨h1,h2,h3⟩:=zgT s hp 42 (by decide) h
 have:zM s=some (3,zL s,1):=by
  unfold zM
  rw [h2,h1,h3];rfl
 rw [this];rfl
theorem zjr (s:ByteArray) (hp:0<s.size) (h:(s.data.toList.getD 0 0).toNat=63):zdl (zM s)=(-1,⟨#[]⟩,1):=by
 obtain ⟨h1,h2,h3⟩:=zgT s hp 63 (by decide) h
 have:zM s=some (2,zL s,1):=by
  unfold zM
  rw [h2,h1,h3];rfl
 rw [this];rfl
theorem zdf (s:ByteArray) (hp:0<s.size) (h:(s.data.toList.getD 0 0).toNat=36):zdl (zM s)=zin (s.extract 1 s.size):=by
 obtain ⟨h1,h2,h3⟩:=zgT s hp 36 (by decide) h
 have:zM s=zmz s:=by
  unfold zM zmz
  rw [h2,h1];rfl
 rw [this,zk4 s hp]
theorem Vj (s:ByteArray) (hp:0<s.size) (h1:(s.data.toList.getD 0 0).toNat≠42) (h2:(s.data.toList.getD 0 0).toNat≠63) (h3:(s.data.toList.getD 0 0).toNat≠36) :
  (Utf8.decode s 0=(65533,1)∧zdl (zM s)=(0,⟨#[]⟩,0)) ∨
  (∃c n,c≤1114111∧Utf8.decode s 0=(c,n)∧¬(c=65533∧n=1)∧n≤s.size∧zdl (zM s)=((c:Int),⟨#[]⟩,n)):=by
 have e1:=zdm s hp 42 h1
 have e2:=zdm s hp 63 h2
 have e3:=zdm s hp 36 h3
 rcases zj8 s hp with ⟨ho,hd⟩|⟨ho,hc,hd,hn⟩
 ·left
  refine ⟨hd,?_⟩
  have:zM s=none:=by unfold zM;rw [if_pos ho]
  rw [this];rfl
 ·right
  refine ⟨_,_,rune_le _ hc,hd,hn,(ZQ s hp).2,?_⟩
  have:zM s=some (1,zL s,(zL s).size):=by
   unfold zM;rw [ho,e1,e2,e3];rfl
  rw [this];rfl
end Pg
end Go.Proofs.YtdakgnaojakldaaGreatDoor
