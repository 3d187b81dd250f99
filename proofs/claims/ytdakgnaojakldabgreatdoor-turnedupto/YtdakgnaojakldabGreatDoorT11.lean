/- P -/
import Derived.Test.YtdakgnaojakldabGreatDoorT10
import Derived.Lib.DecodeN
import Derived.Lib.Strings
import Derived.Lib.CutLaws
import Derived.Lib.ValidAsc
import Derived.Shelf.Unicode.DecodeAny
import Derived.Shelf.Strings.Cut
open Go.Proofs.Tryz
set_option maxRecDepth 100000
set_option maxHeartbeats 4000000
namespace Go.Proofs.YtdakgnaojakldabGreatDoor
namespace Pg
open Ref
def ky(c:Nat):List Nat:=
 if c<128 then [c]
 else if c<2048 then [192+c / 64,128+c % 64]
 else if c<65536 then [224+c / 4096,128+c / 64 % 64,128+c % 64]
 else [240+c / 262144,128+c / 4096 % 64,128+c / 64 % 64,128+c % 64]
def yo(l:List Nat):Nat:=
 if l.length=1 then l.getD 0 0
 else if l.length=2 then (l.getD 0 0-192)*64+(l.getD 1 0-128)
 else if l.length=3 then (l.getD 0 0-224)*4096+(l.getD 1 0-128)*64+(l.getD 2 0-128)
 else (l.getD 0 0-240)*262144+(l.getD 1 0-128)*4096+(l.getD 2 0-128)*64+(l.getD 3 0-128)
theorem bN(a:Nat):yo [a]=a:=by
 simp[yo]
theorem bO(a b:Nat):yo [a,b]=(a-192)*64+(b-128):=by
 simp[yo]
theorem bP(a b c:Nat):yo [a,b,c]=(a-224)*4096+(b-128)*64+(c-128):=by
 simp[yo]
theorem bQ(a b c d:Nat):yo [a,b,c,d]=(a-240)*262144+(b-128)*4096+(c-128)*64+(d-128):=by
 simp[yo]
theorem Yr(c:Nat):yo (ky c)=c:=by
 unfold ky
 by_cases h1:c<128
 ·rw[if_pos h1,bN]
 by_cases h2:c<2048
 ·rw[if_neg h1,if_pos h2,bO];omega
 by_cases h3:c<65536
 ·rw[if_neg h1,if_neg h2,if_pos h3,bP];omega
 ·rw[if_neg h1,if_neg h2,if_neg h3,bQ];omega
def nums(t:BA):List Nat:=t.data.toList.map UInt8.toNat
def yM(t:BA):Nat:=yo (nums t)
def uX(t:BA):Prop:=∃c,c<=1114111/\nums t=ky c
theorem Hy(s t:BA)(h:nums s=nums t):s.toList=t.toList:=by
 rw[Lib.toList_data,Lib.toList_data];unfold nums at h;exact (List.map_inj_right (λa b e=>UInt8.toNat_inj.1 e)).1 h
theorem MV(s t:BA)(g:uX s)(i:uX t):(s.toList==t.toList)=decide (yM s=yM t):=by
 obtain⟨c,_,e⟩:=g;obtain⟨d,_,hd⟩:=i;have a:yM s=c:=by unfold yM;rw[e,Yr]
 have b:yM t=d:=by unfold yM;rw[hd,Yr]
 rw[a,b]
 by_cases h:c=d
 ·subst h
  have:=Hy s t (e.trans hd.symm)
  rw[this];simp
 ·have:s.toList≠t.toList:=by
   intro f;apply h;rw[<- a,<- b];unfold yM nums;rw[<- Lib.toList_data,<- Lib.toList_data,f]
  simp[this,h]
theorem rune_le(t:BA)(h:uX t):yM t<=1114111:=by
 obtain⟨c,a,e⟩:=h;unfold yM;rw[e,Yr];exact a
def Q5(n b0 a b c:Nat):Nat:=
 if n=0 then 0
 else if b0<128 then 1
 else if 194<=b0/\b0<=223 then (if 2<=n/\128<=a/\a<=191 then 2 else 0)
 else if b0=224 then (if 3<=n/\160<=a/\a<=191/\128<=b/\b<=191 then 3 else 0)
 else if b0=237 then (if 3<=n/\128<=a/\a<=159/\128<=b/\b<=191 then 3 else 0)
 else if 225<=b0/\b0<=239 then (if 3<=n/\128<=a/\a<=191/\128<=b/\b<=191 then 3 else 0)
 else if b0=240 then (if 4<=n/\144<=a/\a<=191/\128<=b/\b<=191/\128<=c/\c<=191 then 4 else 0)
 else if 241<=b0/\b0<=243 then (if 4<=n/\128<=a/\a<=191/\128<=b/\b<=191/\128<=c/\c<=191 then 4 else 0)
 else if b0=244 then (if 4<=n/\128<=a/\a<=143/\128<=b/\b<=191/\128<=c/\c<=191 then 4 else 0)
 else 0
theorem bK(l:List UInt8)(b a:Int):ZV l b a 1=decide (b<=((l.getD 1 0).toNat:Int)/\((l.getD 1 0).toNat:Int)<=a):=by
 simp[ZV,List.range_succ]
theorem bM(l:List UInt8)(b a:Int):ZV l b a 2=(decide (b<=((l.getD 1 0).toNat:Int)/\((l.getD 1 0).toNat:Int)<=a)&&decide (128<=(l.getD 2 0).toNat/\(l.getD 2 0).toNat<=191)):=by
 rw[bL,bK];simp
theorem wK(l:List UInt8)(b a:Int):ZV l b a 3=(decide (b<=((l.getD 1 0).toNat:Int)/\((l.getD 1 0).toNat:Int)<=a)&&decide (128<=(l.getD 2 0).toNat/\(l.getD 2 0).toNat<=191)&&decide (128<=(l.getD 3 0).toNat/\(l.getD 3 0).toNat<=191)):=by
 rw[bL,bM];simp
theorem VQ(l:List UInt8)(n b a:Int)(c:l.length≠0)(h:¬(l.getD 0 0).toNat<128)(d:qa ((l.getD 0 0).toNat:Int)=(n,b,a)) :
  xY l=if n=0 then 0 else if (l.length:Int)<n+1 then 0 else if ZV l b a n.toNat then n.toNat+1 else 0:=by
 unfold xY;rw[if_neg c,if_neg h,d]
theorem sD(l:List UInt8)(b a:Nat)(e:l.length≠0)(h:¬(l.getD 0 0).toNat<128)(f:qa ((l.getD 0 0).toNat:Int)=(1,(b:Int),(a:Int))) :
  xY l=if 2<=l.length/\b<=(l.getD 1 0).toNat/\(l.getD 1 0).toNat<=a then 2 else 0:=by
 rw[VQ l _ _ _ e h f,if_neg (by decide),show (1:Int).toNat=1 from rfl,bK]
 generalize (l.getD 1 0).toNat=b1
 by_cases c:2<=l.length/\b<=b1/\b1<=a
 ·rw[if_pos c,if_neg (by omega),if_pos (by simp;omega)]
 ·rw[if_neg c]
  by_cases d:(l.length:Int)<1+1
  ·rw[if_pos d]
  ·rw[if_neg d,if_neg (by simp;omega)]
theorem VO(l:List UInt8)(b a:Nat)(e:l.length≠0)(h:¬(l.getD 0 0).toNat<128)(f:qa ((l.getD 0 0).toNat:Int)=(2,(b:Int),(a:Int))) :
  xY l=if 3<=l.length/\b<=(l.getD 1 0).toNat/\(l.getD 1 0).toNat<=a/\128<=(l.getD 2 0).toNat/\(l.getD 2 0).toNat<=191 then 3 else 0:=by
 rw[VQ l _ _ _ e h f,if_neg (by decide),show (2:Int).toNat=2 from rfl,bM]
 generalize (l.getD 1 0).toNat=b1;generalize (l.getD 2 0).toNat=b2
 by_cases c:3<=l.length/\b<=b1/\b1<=a/\128<=b2/\b2<=191
 ·rw[if_pos c,if_neg (by omega),if_pos (by simp;omega)]
 ·rw[if_neg c]
  by_cases d:(l.length:Int)<2+1
  ·rw[if_pos d]
  ·rw[if_neg d,if_neg (by simp;omega)]
theorem VP(l:List UInt8)(b a:Nat)(e:l.length≠0)(h:¬(l.getD 0 0).toNat<128)(f:qa ((l.getD 0 0).toNat:Int)=(3,(b:Int),(a:Int))) :
  xY l=if 4<=l.length/\b<=(l.getD 1 0).toNat/\(l.getD 1 0).toNat<=a/\128<=(l.getD 2 0).toNat/\(l.getD 2 0).toNat<=191/\128<=(l.getD 3 0).toNat/\(l.getD 3 0).toNat<=191 then 4 else 0:=by
 rw[VQ l _ _ _ e h f,if_neg (by decide),show (3:Int).toNat=3 from rfl,wK]
 generalize (l.getD 1 0).toNat=b1;generalize (l.getD 2 0).toNat=b2;generalize (l.getD 3 0).toNat=b3
 by_cases c:4<=l.length/\b<=b1/\b1<=a/\128<=b2/\b2<=191/\128<=b3/\b3<=191
 ·rw[if_pos c,if_neg (by omega),if_pos (by simp;omega)]
 ·rw[if_neg c]
  by_cases d:(l.length:Int)<3+1
  ·rw[if_pos d]
  ·rw[if_neg d,if_neg (by simp;omega)]
theorem sF(l:List UInt8):xY l=Q5 l.length (l.getD 0 0).toNat (l.getD 1 0).toNat (l.getD 2 0).toNat (l.getD 3 0).toNat:=by
 unfold Q5
 by_cases hl:l.length=0
 ·rw[if_pos hl];unfold xY;rw[if_pos hl]
 rw[if_neg hl]
 by_cases h:(l.getD 0 0).toNat<128
 ·rw[if_pos h];unfold xY;rw[if_neg hl,if_pos h]
 rw[if_neg h]
 by_cases c1:194<=(l.getD 0 0).toNat/\(l.getD 0 0).toNat<=223
 ·rw[if_pos c1];exact sD l 128 191 hl h (by unfold qa;rw[if_pos (by omega)];rfl)
 rw[if_neg c1]
 by_cases c2:(l.getD 0 0).toNat=224
 ·rw[if_pos c2];exact VO l 160 191 hl h (by unfold qa;rw[if_neg (by omega),if_pos (by omega)];rfl)
 rw[if_neg c2]
 by_cases c3:(l.getD 0 0).toNat=237
 ·rw[if_pos c3];exact VO l 128 159 hl h (by unfold qa;rw[if_neg (by omega),if_neg (by omega),if_pos (by omega)];rfl)
 rw[if_neg c3]
 by_cases c4:225<=(l.getD 0 0).toNat/\(l.getD 0 0).toNat<=239
 ·rw[if_pos c4];exact VO l 128 191 hl h (by unfold qa;rw[if_neg (by omega),if_neg (by omega),if_neg (by omega),if_pos (by omega)];rfl)
 rw[if_neg c4]
 by_cases c5:(l.getD 0 0).toNat=240
 ·rw[if_pos c5];exact VP l 144 191 hl h (by unfold qa;rw[if_neg (by omega),if_neg (by omega),if_neg (by omega),if_neg (by omega),if_pos (by omega)];rfl)
 rw[if_neg c5]
 by_cases c6:241<=(l.getD 0 0).toNat/\(l.getD 0 0).toNat<=243
 ·rw[if_pos c6];exact VP l 128 191 hl h (by unfold qa;rw[if_neg (by omega),if_neg (by omega),if_neg (by omega),if_neg (by omega),if_neg (by omega),if_pos (by omega)];rfl)
 rw[if_neg c6]
 by_cases c7:(l.getD 0 0).toNat=244
 ·rw[if_pos c7];exact VP l 128 143 hl h (by unfold qa;rw[if_neg (by omega),if_neg (by omega),if_neg (by omega),if_neg (by omega),if_neg (by omega),if_neg (by omega),if_pos (by omega)];rfl)
 rw[if_neg c7];unfold xY;rw[if_neg hl,if_neg h,if_pos];unfold qa;rw[if_neg (by omega),if_neg (by omega),if_neg (by omega),if_neg (by omega),if_neg (by omega),if_neg (by omega),if_neg (by omega)]
theorem wX(n b0 a b c:Nat)(h:b0<128):Lib.decodeN n b0 a b c=(b0,1):=by
 unfold Lib.decodeN;rw[if_pos h]
theorem wZ(n b0 a b c:Nat)(h:194<=b0/\b0<=223)(e:2<=n)(d:128<=a/\a<=191):Lib.decodeN n b0 a b c=(b0 % 32*64+a % 64,2):=by
 unfold Lib.decodeN;rw[if_neg (by omega),if_pos ⟨by omega,by omega,by omega⟩,if_pos (by omega)]
theorem wY(n b0 a b c:Nat)(h:224<=b0/\b0<=239)(i:3<=n)(d:128<=a/\a<=191)(e:128<=b/\b<=191)(f:b0=224->160<=a)(g:b0=237->a<=159) :
  Lib.decodeN n b0 a b c=(b0 % 16*4096+a % 64*64+b % 64,3):=by
 unfold Lib.decodeN;rw[if_neg (by omega),if_neg (by omega),if_pos ⟨by omega,⟨by omega,by omega⟩,by omega,by omega⟩,if_pos (by omega)]
theorem wW(n b0 a b c:Nat)(h:240<=b0/\b0<=244)(j:4<=n)(d:128<=a/\a<=191)(e:128<=b/\b<=191)(f:128<=c/\c<=191)(g:b0=240->144<=a)(i:b0=244->a<=143) :
  Lib.decodeN n b0 a b c=(b0 % 8*262144+a % 64*4096+b % 64*64+c % 64,4):=by
 unfold Lib.decodeN;rw[if_neg (by omega),if_neg (by omega),if_neg (by omega),if_pos ⟨by omega,⟨by omega,by omega⟩,⟨by omega,by omega⟩,by omega,by omega⟩,if_pos (by omega)]
def Good(n b0 a b d k:Nat):Prop:=
 Lib.decodeN n b0 a b d=(yo ([b0,a,b,d].take k),k)/\k<=n/\k<=4/\∃c,c<=1114111/\[b0,a,b,d].take k=ky c
theorem Dp(n b0 a b c:Nat)(d:n≠0)(h:b0<128):Good n b0 a b c 1:=by
 refine⟨by rw[wX _ _ _ _ _ h];rfl,by omega,by omega,b0,by omega,?_⟩;unfold ky;rw[if_pos h];rfl
theorem Dq(n b0 a b c:Nat)(h:194<=b0/\b0<=223)(e:2<=n)(d:128<=a/\a<=191):Good n b0 a b c 2:=by
 refine⟨?_,by omega,by omega,b0 % 32*64+a % 64,by omega,?_⟩
 ·rw[wZ _ _ _ _ _ h e d];show _=(yo [b0,a],2);rw[bO,Prod.mk.injEq];exact⟨by omega,rfl⟩
 ·show [b0,a]=_;unfold ky;rw[if_neg (by omega),if_pos (by omega)];congr 1
  ·omega
  ·congr 1;omega
theorem Uq(n b0 a b c:Nat)(h:224<=b0/\b0<=239)(i:3<=n)(d:128<=a/\a<=191)(e:128<=b/\b<=191)(f:b0=224->160<=a)(g:b0=237->a<=159):Good n b0 a b c 3:=by
 refine⟨?_,by omega,by omega,b0 % 16*4096+a % 64*64+b % 64,by omega,?_⟩
 ·rw[wY _ _ _ _ _ h i d e f g];show _=(yo [b0,a,b],3);rw[bP,Prod.mk.injEq];exact⟨by omega,rfl⟩
 ·show [b0,a,b]=_;unfold ky;rw[if_neg (by omega),if_neg (by omega),if_pos (by omega)];congr 1
  ·omega
  ·congr 1
   ·omega
   ·congr 1;omega
theorem Uo(n b0 a b c:Nat)(h:240<=b0/\b0<=244)(j:4<=n)(d:128<=a/\a<=191)(e:128<=b/\b<=191)(f:128<=c/\c<=191)(g:b0=240->144<=a)(i:b0=244->a<=143):Good n b0 a b c 4:=by
 refine⟨?_,by omega,by omega,b0 % 8*262144+a % 64*4096+b % 64*64+c % 64,by omega,?_⟩
 ·rw[wW _ _ _ _ _ h j d e f g i];show _=(yo [b0,a,b,c],4);rw[bQ,Prod.mk.injEq];exact⟨by omega,rfl⟩
 ·show [b0,a,b,c]=_;unfold ky;rw[if_neg (by omega),if_neg (by omega),if_neg (by omega)];congr 1
  ·omega
  ·congr 1
   ·omega
   ·congr 1
    ·omega
    ·congr 1;omega
theorem wV(n b0 a b c:Nat)(d:n≠0)(e:b0<256)(h:Q5 n b0 a b c=0):Lib.decodeN n b0 a b c=(65533,1):=by
 unfold Q5 at h;rw[if_neg d] at h;unfold Lib.decodeN
 repeat' split at h
 all_goals first|(exfalso;omega)|skip
 all_goals repeat' split
 all_goals first|rfl|(exfalso;omega)
theorem FW(n b0 a b e:Nat)(f:n≠0)(h:Q5 n b0 a b e≠0):Good n b0 a b e (Q5 n b0 a b e):=by
 unfold Q5 at h |-;rw[if_neg f] at h |-
 split at h
 ·rename_i c;rw[if_pos c];exact Dp _ _ _ _ _ f c
 rename_i c0;rw[if_neg c0]
 split at h
 ·rename_i c;rw[if_pos c]
  split at h
  ·rename_i d;rw[if_pos d];exact Dq _ _ _ _ _ c d.1 d.2
  ·exact absurd rfl h
 rename_i c1;rw[if_neg c1]
 split at h
 ·rename_i c;rw[if_pos c]
  split at h
  ·rename_i d;rw[if_pos d];exact Uq _ _ _ _ _ (by omega) d.1 (by omega) (by omega) (by omega) (by omega)
  ·exact absurd rfl h
 rename_i c2;rw[if_neg c2]
 split at h
 ·rename_i c;rw[if_pos c]
  split at h
  ·rename_i d;rw[if_pos d];exact Uq _ _ _ _ _ (by omega) d.1 (by omega) (by omega) (by omega) (by omega)
  ·exact absurd rfl h
 rename_i c3;rw[if_neg c3]
 split at h
 ·rename_i c;rw[if_pos c]
  split at h
  ·rename_i d;rw[if_pos d];exact Uq _ _ _ _ _ (by omega) d.1 (by omega) (by omega) (by omega) (by omega)
  ·exact absurd rfl h
 rename_i c4;rw[if_neg c4]
 split at h
 ·rename_i c;rw[if_pos c]
  split at h
  ·rename_i d;rw[if_pos d];exact Uo _ _ _ _ _ (by omega) d.1 (by omega) (by omega) (by omega) (by omega) (by omega)
  ·exact absurd rfl h
 rename_i c5;rw[if_neg c5]
 split at h
 ·rename_i c;rw[if_pos c]
  split at h
  ·rename_i d;rw[if_pos d];exact Uo _ _ _ _ _ (by omega) d.1 (by omega) (by omega) (by omega) (by omega) (by omega)
  ·exact absurd rfl h
 rename_i g;rw[if_neg g]
 split at h
 ·rename_i c;rw[if_pos c]
  split at h
  ·rename_i d;rw[if_pos d];exact Uo _ _ _ _ _ (by omega) d.1 (by omega) (by omega) (by omega) (by omega) (by omega)
  ·exact absurd rfl h
 ·exact absurd rfl h
theorem dN(s:BA)(k:Nat):s.get! k=s.data.toList.getD k 0:=by
 obtain⟨⟨l⟩⟩:=s;show (Array.mk l)[k]! = _
 by_cases h:k<l.length
 ·simp[List.getD,h]
 ·simp[List.getD,h];rfl
theorem PN(l:List UInt8)(k:Nat)(f:k<=4)(e:k<=l.length):(l.take k).map UInt8.toNat=[(l.getD 0 0).toNat,(l.getD 1 0).toNat,(l.getD 2 0).toNat,(l.getD 3 0).toNat].take k:=by
 obtain rfl|rfl|rfl|rfl|rfl:k=0\/k=1\/k=2\/k=3\/k=4:=by omega
 all_goals rcases l with _|⟨a,_|⟨b,_|⟨c,_|⟨d,l⟩⟩⟩⟩
 all_goals first|rfl|(simp at e)
theorem Hw(s:BA)(k:Nat):nums (s.extract 0 k)=(s.data.toList.take k).map UInt8.toNat:=by
 unfold nums;simp[ByteArray.data_extract]
theorem Yt(s:BA)(r:0<s.size) :
  (Qk s=false/\Utf8.decode s 0=(65533,1)) \/
  (Qk s=true/\uX (qc s)/\Utf8.decode s 0=(yM (qc s),(qc s).size)/\¬(yM (qc s)=65533/\(qc s).size=1)):=by
 have hd:=Lib.decode_at s 0;simp only[dN,Nat.sub_zero,Nat.zero_add] at hd;have b:=sF s.data.toList;have a:s.data.toList.length=s.size:=zB s;rw[a] at b
 by_cases h:xY s.data.toList=0
 ·left
  refine⟨by unfold Qk;rw[h];rfl,?_⟩;rw[hd];exact wV _ _ _ _ _ (by omega) (UInt8.toNat_lt _) (b.symm.trans h)
 ·right
  have l:qc s=s.extract 0 (xY s.data.toList):=by unfold qc;rw[if_neg h]
  have j:=FW _ _ _ _ _ (by omega) (λe=>h (b.trans e));rw[<- b] at j;obtain⟨n,o,p,c,q,i⟩:=j
  have d:nums (qc s)=ky c:=by
   rw[l,Hw,PN _ _ p (by rw[a];exact o)];exact i
  have k:yM (qc s)=c:=by unfold yM;rw[d,Yr]
  have f:(qc s).size=xY s.data.toList:=by rw[l,ByteArray.size_extract];omega
  refine⟨by unfold Qk;simp[h],⟨c,q,d⟩,?_,?_⟩
  ·rw[hd,n,k,f,i,Yr]
  ·rintro ⟨g,m⟩;rw[k] at g
   have:(nums (qc s)).length=1:=by unfold nums;rw[List.length_map,zB];exact m
   rw[d,g] at this;simp[ky] at this
def qB(p:Int×BA):Int:=if p.1=3 then -2 else if p.1=2 then -1 else if p.1=4 then 0 else (yM p.2:Int)
def nameOf(p:Int×BA):BA:=if p.1=4 then p.2 else ⟨#[]⟩
def Xu(u:BA):Nat:=u.data.toList.findIdx λc=>c.toNat==125
def Zl(u:BA):Bool:=decide (Xu u<u.size)
def Zm(u:BA):BA:=if Zl u then u.extract 0 (Xu u) else u
theorem DZ(l:List UInt8):Lib.index l [125]=if l.findIdx (λc=>c.toNat==125)<l.length then ((l.findIdx λc=>c.toNat==125:Nat):Int) else -1:=by
 induction l with
 | nil=>rfl
 | cons b l g=>
  unfold Lib.index;rw[g,List.findIdx_cons]
  have e:([125].isPrefixOf (b::l))=(b.toNat==125):=by
   simp only[List.isPrefixOf,Bool.and_true];rw[Bool.eq_iff_iff,beq_iff_eq,beq_iff_eq]
   constructor
   ·intro h;rw[<- h];rfl
   ·intro h;exact (UInt8.toNat_inj.1 (by rw[h];rfl)).symm
  rw[e]
  cases h:b.toNat==125 with
  | true=>simp
  | false=>
   simp only[Bool.false_eq_true,if_false,cond_false,List.length_cons];generalize l.findIdx (λc=>c.toNat==125)=f;generalize l.length=n
   by_cases hl:f<n
   ·have a:f+1<n+1:=by omega
    have d:((f:Int) == -1)=false:=by rw[beq_eq_false_iff_ne];omega
    simp[hl,a,d]
   ·have a:¬f+1<n+1:=by omega
    simp[hl,a]
theorem wU(u:BA):(⟨(Lib.cut u.data.toList [125]).1.toArray⟩:BA)=Zm u/\(Lib.cut u.data.toList [125]).2.2=Zl u:=by
 have b:=DZ u.data.toList;rw[zB] at b;unfold Zm Zl Xu
 by_cases h:u.data.toList.findIdx (λc=>c.toNat==125)<u.size
 ·rw[if_pos h] at b;have a:=Lib.cutB_hit u ⟨#[125]⟩ _ b;rw[decide_eq_true h,if_pos rfl];exact⟨a.1,a.2.2⟩
 ·rw[if_neg h] at b;have a:=Lib.cutB_miss u ⟨#[125]⟩ b;rw[decide_eq_false h,if_neg (by decide)];exact⟨a.1,a.2.2⟩
def ku(t:BA):Int×BA×Nat:=
 if t.size=0 then (0,⟨#[]⟩,0)
 else if (t.data.toList.getD 0 0).toNat=36\/(t.data.toList.getD 0 0).toNat=42\/(t.data.toList.getD 0 0).toNat=63 then ((t.data.toList.getD 0 0).toNat,⟨#[]⟩,2)
 else if (t.data.toList.getD 0 0).toNat=123 then
  (if Zl (t.extract 1 t.size) then (if zM (Zm (t.extract 1 t.size)) then (0,Zm (t.extract 1 t.size),2+(Zm (t.extract 1 t.size)).size+1) else (0,⟨#[]⟩,0)) else (0,⟨#[]⟩,0))
 else (0,⟨#[]⟩,0)
def Xe(p:Option (Int×BA×Nat)):Int×BA×Nat:=match p with
 | none=>(0,⟨#[]⟩,0)
 | some (k,t,n)=>(qB (k,t),nameOf (k,t),n)
def Jn(s:BA):Option (Int×BA×Nat):=if (kw s).2.2=0 then none else some (kw s)
theorem BN(s:BA):(s.extract 1 s.size).data.toList=s.data.toList.drop 1:=Lib.ext_list s 1
theorem BO(s:BA)(k:Nat):(s.extract k s.size).extract 1 (s.extract k s.size).size=s.extract (k+1) s.size:=by
 rw[ByteArray.extract_extract,ByteArray.size_extract];have e:min (k+(min s.size s.size-k)) s.size=s.size\/s.size<=k:=by omega
 rcases e with e|e
 ·rw[e]
 ·have a:min (k+(min s.size s.size-k)) s.size=s.size:=by omega
  rw[a]
theorem MS(s:BA)(k:Nat)(b:k<s.size):yM (s.extract k (k+1))=(s.data.toList.getD k 0).toNat:=by
 unfold yM nums
 have:(s.extract k (k+1)).data.toList=[s.data.toList.getD k 0]:=by
  have a:k<s.data.toList.length:=by rw[zB];exact b
  rw[ByteArray.data_extract,Array.toList_extract,List.getD_eq_getElem?_getD,List.getElem?_eq_getElem a];simp only[List.extract_eq_take_drop,Option.getD_some];rw[List.drop_eq_getElem_cons a]
  simp
 rw[this];simp only[List.map_cons,List.map_nil,bN]
theorem Az(s:BA)(k:0<s.size):ku (s.extract 1 s.size)=Xe (Jn s):=by
 have d:(s.extract 1 s.size).size=s.size-1:=by rw[ByteArray.size_extract];omega
 have f:(s.extract 1 s.size).data.toList.getD 0 0=s.data.toList.getD 1 0:=by
  rw[BN];simp
 unfold ku;rw[f,d];unfold Jn kw
 by_cases h2:s.size<2
 ·rw[if_pos (by omega),if_pos h2];rfl
 rw[if_neg (by omega),if_neg h2]
 by_cases h3:(s.data.toList.getD 1 0).toNat=36\/(s.data.toList.getD 1 0).toNat=42\/(s.data.toList.getD 1 0).toNat=63
 ·rw[if_pos h3,if_pos h3];show _=(qB (1,s.extract 1 2),nameOf (1,s.extract 1 2),2)
  have:qB (1,s.extract 1 2)=((s.data.toList.getD 1 0).toNat:Int):=by
   show ((yM (s.extract 1 2):Nat):Int)=_;rw[MS s 1 (by omega)]
  rw[this];rfl
 rw[if_neg h3,if_neg h3]
 by_cases h4:(s.data.toList.getD 1 0).toNat=123
 ·rw[if_pos h4,if_pos h4]
  have j:(s.extract 1 s.size).extract 1 (s.size-1)=s.extract 2 s.size:=by
   have:=BO s 1;rw[d] at this;exact this
  rw[j];have h:(s.extract 2 s.size).data.toList=s.data.toList.drop 2:=Lib.ext_list s 2;have g:vD s=2+Xu (s.extract 2 s.size):=by unfold vD Xu;rw[h]
  have a:(s.extract 2 s.size).size=s.size-2:=by rw[ByteArray.size_extract];omega
  by_cases hc:vD s<s.size
  ·have b:Zl (s.extract 2 s.size)=true:=by unfold Zl;rw[a];exact decide_eq_true (by omega)
   have i:Zm (s.extract 2 s.size)=s.extract 2 (vD s):=by
    unfold Zm;rw[b,if_pos rfl,ByteArray.extract_extract];have e:min (2+Xu (s.extract 2 s.size)) s.size=vD s:=by rw[g] at hc |-;omega
    rw[e]
   have c:(s.extract 2 (vD s)).size=vD s-2:=by rw[ByteArray.size_extract];omega
   rw[b,if_pos rfl,if_pos hc,i]
   by_cases hi:zM (s.extract 2 (vD s))=true
   ·rw[if_pos hi,if_pos hi];show _=(qB (4,_),nameOf (4,_),_);rw[c]
    have:2+(vD s-2)+1=vD s+1:=by omega
    rw[this];rfl
   ·rw[if_neg hi,if_neg hi];rfl
  ·have b:Zl (s.extract 2 s.size)=false:=by unfold Zl;rw[a];exact decide_eq_false (by omega)
   rw[b,if_neg (by decide),if_neg hc];rfl
 ·rw[if_neg h4,if_neg h4];rfl
theorem aW(s:BA)(c:0<s.size):(qc s).data.toList.getD 0 0=s.data.toList.getD 0 0:=by
 unfold qc;generalize b:(if xY s.data.toList=0 then 1 else xY s.data.toList)=k
 have d:1<=k:=by rw[<- b];split<;>omega
 obtain⟨⟨l⟩⟩:=s
 cases l with
 | nil=>exact absurd c (by decide)
 | cons a l=>
  obtain⟨j,rfl⟩:∃j,k=j+1:=⟨k-1,by omega⟩;simp[ByteArray.data_extract]
theorem VR(s:BA)(a:0<s.size)(c:UInt8)(h:(s.data.toList.getD 0 0).toNat≠c.toNat):((qc s).toList==[c])=false:=by
 rw[beq_eq_false_iff_ne];intro e;rw[Lib.toList_data] at e
 have:=aW s a
 rw[e] at this;apply h;rw[<- this];rfl
theorem VN(s:BA)(g:0<s.size)(c:UInt8)(j:c.toNat<128)(h:(s.data.toList.getD 0 0).toNat=c.toNat):(qc s).toList=[c]/\Qk s=true/\(qc s).size=1:=by
 have d:xY s.data.toList=1:=by
  unfold xY;rw[zB,if_neg (by omega),if_pos (by omega)]
 have i:qc s=s.extract 0 1:=by unfold qc;rw[d];rfl
 have e:(qc s).size=1:=by rw[i,ByteArray.size_extract];omega
 refine⟨?_,by unfold Qk;rw[d];rfl,e⟩;rw[Lib.toList_data];have b:=aW s g;have hlen:(qc s).data.toList.length=1:=by rw[zB];exact e
 obtain⟨a,f⟩:=List.length_eq_one_iff.1 hlen;rw[f] at b |-
 have:a=c:=UInt8.toNat_inj.1 (by rw[<- h,<- b];rfl)
 rw[this]
theorem Ow(s:BA)(d:0<s.size)(h:(s.data.toList.getD 0 0).toNat=42):Xe (xA s)=(-2,⟨#[]⟩,1):=by
 obtain⟨a,b,c⟩:=VN s d 42 (by decide) h
 have:xA s=some (3,qc s,1):=by
  unfold xA;rw[b,a,c];rfl
 rw[this];rfl
theorem Ov(s:BA)(d:0<s.size)(h:(s.data.toList.getD 0 0).toNat=63):Xe (xA s)=(-1,⟨#[]⟩,1):=by
 obtain⟨a,b,c⟩:=VN s d 63 (by decide) h
 have:xA s=some (2,qc s,1):=by
  unfold xA;rw[b,a,c];rfl
 rw[this];rfl
theorem Oo(s:BA)(a:0<s.size)(h:(s.data.toList.getD 0 0).toNat=36):Xe (xA s)=ku (s.extract 1 s.size):=by
 obtain⟨b,c,d⟩:=VN s a 36 (by decide) h
 have:xA s=Jn s:=by
  unfold xA Jn;rw[c,b];rfl
 rw[this,Az s a]
theorem Om(s:BA)(a:0<s.size)(f:(s.data.toList.getD 0 0).toNat≠42)(g:(s.data.toList.getD 0 0).toNat≠63)(h:(s.data.toList.getD 0 0).toNat≠36) :
  (Utf8.decode s 0=(65533,1)/\Xe (xA s)=(0,⟨#[]⟩,0)) \/
  (∃c n,c<=1114111/\Utf8.decode s 0=(c,n)/\¬(c=65533/\n=1)/\n<=s.size/\Xe (xA s)=((c:Int),⟨#[]⟩,n)):=by
 have b:=VR s a 42 f;have d:=VR s a 63 g;have e:=VR s a 36 h
 rcases Yt s a with ⟨ho,hd⟩|⟨ho,hc,hd,hn⟩
 ·left
  refine⟨hd,?_⟩
  have:xA s=none:=by unfold xA;rw[if_pos ho]
  rw[this];rfl
 ·right
  refine⟨_,_,rune_le _ hc,hd,hn,(Yl s a).2,?_⟩
  have:xA s=some (1,qc s,(qc s).size):=by
   unfold xA;rw[ho,b,d,e];rfl
  rw[this];rfl
end Pg
end Go.Proofs.YtdakgnaojakldabGreatDoor
namespace Go.Proofs.YtdakgnaojakldabGreatDoor
open Go.Shelf
def Tryz.lays197_ren:Go.Shelf.Ren:=⟨λ|197=>137|260=>144|n=>n,λ|9=>9|21=>21|3=>3|4=>4|5=>5|105=>270|119=>176|0=>0|46=>180|139=>179|138=>178|n=>n,λ|3=>2|4=>3|n=>n⟩
theorem Tryz.lays197:Go.Proofs.Lays.n197 prog Tryz.lays197_ren:={
 mixed:=by kernel_rfl
 f197:=func137.trans (congrArg some (by kernel_rfl))
 f260:=func144.trans (congrArg some (by kernel_rfl))
 t0:=underlying0
 a0:=Tryz.isAgg0
 z0:=Tryz.sizeOf0
 v0:=Tryz.zeroValue0
 t3:=underlying3
 a3:=Tryz.isAgg3
 z3:=Tryz.sizeOf3
 v3:=Tryz.zeroValue3
 t4:=underlying4
 a4:=Tryz.isAgg4
 z4:=Tryz.sizeOf4
 v4:=Tryz.zeroValue4
 t5:=underlying5
 a5:=Tryz.isAgg5
 z5:=Tryz.sizeOf5
 v5:=Tryz.zeroValue5
 t9:=underlying9
 a9:=Tryz.isAgg9
 z9:=Tryz.sizeOf9
 v9:=Tryz.zeroValue9
 t21:=underlying21
 a21:=Tryz.isAgg21
 z21:=Tryz.sizeOf21
 v21:=Tryz.zeroValue21
 t46:=underlying180
 a46:=Tryz.isAgg180
 z46:=Tryz.sizeOf180
 v46:=Tryz.zeroValue180
 t105:=underlying270
 a105:=Tryz.isAgg270
 z105:=Tryz.sizeOf270
 v105:=Tryz.zeroValue270
 t119:=underlying176
 a119:=Tryz.isAgg176
 z119:=Tryz.sizeOf176
 t138:=underlying178
 a138:=Tryz.isAgg178
 z138:=Tryz.sizeOf178
 v138:=Tryz.zeroValue178
 t139:=underlying179
 a139:=Tryz.isAgg179
 z139:=Tryz.sizeOf179
 v139:=Tryz.zeroValue179
 g3:=by kernel_rfl
 g4:=by kernel_rfl }
def Tryz.lays145_ren:Go.Shelf.Ren:=⟨λ|145=>143|220=>146|219=>149|217=>153|225=>154|224=>155|267=>156|266=>159|314=>160|n=>n,λ|9=>9|4=>4|59=>277|3=>3|5=>5|46=>180|146=>288|51=>266|n=>n,λ|1=>4|n=>n⟩
theorem Tryz.lays145:Go.Proofs.Lays.n145 prog Tryz.lays145_ren:={
 mixed:=by kernel_rfl
 f145:=func143.trans (congrArg some (by kernel_rfl))
 f217:=func153.trans (congrArg some (by kernel_rfl))
 f219:=func149.trans (congrArg some (by kernel_rfl))
 f220:=func146.trans (congrArg some (by kernel_rfl))
 f224:=func155.trans (congrArg some (by kernel_rfl))
 f225:=func154.trans (congrArg some (by kernel_rfl))
 f266:=func159.trans (congrArg some (by kernel_rfl))
 f267:=func156.trans (congrArg some (by kernel_rfl))
 f314:=func160.trans (congrArg some (by kernel_rfl))
 t3:=underlying3
 a3:=Tryz.isAgg3
 z3:=Tryz.sizeOf3
 v3:=Tryz.zeroValue3
 t4:=underlying4
 a4:=Tryz.isAgg4
 z4:=Tryz.sizeOf4
 v4:=Tryz.zeroValue4
 t5:=underlying5
 a5:=Tryz.isAgg5
 z5:=Tryz.sizeOf5
 v5:=Tryz.zeroValue5
 t9:=underlying9
 a9:=Tryz.isAgg9
 z9:=Tryz.sizeOf9
 v9:=Tryz.zeroValue9
 t46:=underlying180
 a46:=Tryz.isAgg180
 z46:=Tryz.sizeOf180
 v46:=Tryz.zeroValue180
 t51:=underlying266
 a51:=Tryz.isAgg266
 z51:=Tryz.sizeOf266
 v51:=Tryz.zeroValue266
 t59:=underlying277
 a59:=Tryz.isAgg277
 z59:=Tryz.sizeOf277
 v59:=Tryz.zeroValue277
 t146:=underlying288
 a146:=Tryz.isAgg288
 z146:=Tryz.sizeOf288
 v146:=Tryz.zeroValue288
 g1:=by kernel_rfl }
def Tryz.lays196_ren:Go.Shelf.Ren:=⟨λ|196=>45|259=>77|n=>n,λ|9=>9|4=>4|3=>3|5=>5|12=>12|119=>176|0=>0|46=>180|139=>179|138=>178|53=>217|n=>n,λ|3=>2|4=>3|n=>n⟩
theorem Tryz.lays196:Go.Proofs.Lays.n196 prog Tryz.lays196_ren:={
 mixed:=by kernel_rfl
 f196:=func45.trans (congrArg some (by kernel_rfl))
 f259:=func77.trans (congrArg some (by kernel_rfl))
 t0:=underlying0
 a0:=Tryz.isAgg0
 z0:=Tryz.sizeOf0
 v0:=Tryz.zeroValue0
 t3:=underlying3
 a3:=Tryz.isAgg3
 z3:=Tryz.sizeOf3
 v3:=Tryz.zeroValue3
 t4:=underlying4
 a4:=Tryz.isAgg4
 z4:=Tryz.sizeOf4
 v4:=Tryz.zeroValue4
 t5:=underlying5
 a5:=Tryz.isAgg5
 z5:=Tryz.sizeOf5
 v5:=Tryz.zeroValue5
 t9:=underlying9
 a9:=Tryz.isAgg9
 z9:=Tryz.sizeOf9
 v9:=Tryz.zeroValue9
 t12:=underlying12
 a12:=Tryz.isAgg12
 z12:=Tryz.sizeOf12
 v12:=Tryz.zeroValue12
 t46:=underlying180
 a46:=Tryz.isAgg180
 z46:=Tryz.sizeOf180
 v46:=Tryz.zeroValue180
 t53:=underlying217
 a53:=Tryz.isAgg217
 z53:=Tryz.sizeOf217
 v53:=Tryz.zeroValue217
 t119:=underlying176
 a119:=Tryz.isAgg176
 z119:=Tryz.sizeOf176
 t138:=underlying178
 a138:=Tryz.isAgg178
 z138:=Tryz.sizeOf178
 v138:=Tryz.zeroValue178
 t139:=underlying179
 a139:=Tryz.isAgg179
 z139:=Tryz.sizeOf179
 v139:=Tryz.zeroValue179
 g3:=by kernel_rfl
 g4:=by kernel_rfl }
end Go.Proofs.YtdakgnaojakldabGreatDoor
