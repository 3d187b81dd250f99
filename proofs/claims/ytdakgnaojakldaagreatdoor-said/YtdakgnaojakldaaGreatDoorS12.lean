/- P -/
import Derived.Test.YtdakgnaojakldaaGreatDoorS11
import Derived.Lib.DecodeN
import Derived.Lib.Strings
import Derived.Lib.CutLaws
import Derived.Lib.ValidAsc
import Derived.Shelf.Unicode.DecodeAny
import Derived.Shelf.Strings.Cut
open Go.Proofs.Tryz
set_option maxRecDepth 100000
set_option maxHeartbeats 4000000
namespace Go.Proofs.YtdakgnaojakldaaGreatDoor
namespace Pg
open Ref
def uk(c:Nat):List Nat:=
 if c<128 then [c]
 else if c<2048 then [192+c / 64,128+c % 64]
 else if c<65536 then [224+c / 4096,128+c / 64 % 64,128+c % 64]
 else [240+c / 262144,128+c / 4096 % 64,128+c / 64 % 64,128+c % 64]
def xN(l:List Nat):Nat:=
 if l.length=1 then l.getD 0 0
 else if l.length=2 then (l.getD 0 0-192)*64+(l.getD 1 0-128)
 else if l.length=3 then (l.getD 0 0-224)*4096+(l.getD 1 0-128)*64+(l.getD 2 0-128)
 else (l.getD 0 0-240)*262144+(l.getD 1 0-128)*4096+(l.getD 2 0-128)*64+(l.getD 3 0-128)
theorem KP(a:Nat):xN [a]=a:=by
 simp[xN]
theorem KQ(a b:Nat):xN [a,b]=(a-192)*64+(b-128):=by
 simp[xN]
theorem KR(a b c:Nat):xN [a,b,c]=(a-224)*4096+(b-128)*64+(c-128):=by
 simp[xN]
theorem KT(a b c d:Nat):xN [a,b,c,d]=(a-240)*262144+(b-128)*4096+(c-128)*64+(d-128):=by
 simp[xN]
theorem XK(c:Nat):xN (uk c)=c:=by
 unfold uk
 by_cases h1:c<128
 ·rw[if_pos h1,KP]
 by_cases h2:c<2048
 ·rw[if_neg h1,if_pos h2,KQ];omega
 by_cases h3:c<65536
 ·rw[if_neg h1,if_neg h2,if_pos h3,KR];omega
 ·rw[if_neg h1,if_neg h2,if_neg h3,KT];omega
def nums(t:BY):List Nat:=t.data.toList.map UInt8.toNat
def yn(t:BY):Nat:=xN (nums t)
def vX(t:BY):Prop:=∃c,c<=1114111/\nums t=uk c
theorem Eg(s t:BY)(h:nums s=nums t):s.toList=t.toList:=by
 rw[Lib.toList_data,Lib.toList_data];unfold nums at h;exact (List.map_inj_right (λa b e=>UInt8.toNat_inj.1 e)).1 h
theorem GG(s t:BY)(g:vX s)(i:vX t):(s.toList==t.toList)=decide (yn s=yn t):=by
 obtain⟨c,_,e⟩:=g;obtain⟨d,_,hd⟩:=i;have a:yn s=c:=by unfold yn;rw[e,XK]
 have b:yn t=d:=by unfold yn;rw[hd,XK]
 rw[a,b]
 by_cases h:c=d
 ·subst h
  have:=Eg s t (e.trans hd.symm)
  rw[this];simp
 ·have:s.toList≠t.toList:=by
   intro f;apply h;rw[<- a,<- b];unfold yn nums;rw[<- Lib.toList_data,<- Lib.toList_data,f]
  simp[this,h]
theorem rune_le(t:BY)(h:vX t):yn t<=1114111:=by
 obtain⟨c,a,e⟩:=h;unfold yn;rw[e,XK];exact a
def Qs(n b0 a b c:Nat):Nat:=
 if n=0 then 0
 else if b0<128 then 1
 else if 194<=b0/\b0<=223 then (if 2<=n/\128<=a/\a<=191 then 2 else 0)
 else if b0=224 then (if 3<=n/\160<=a/\a<=191/\128<=b/\b<=191 then 3 else 0)
 else if b0=237 then (if 3<=n/\128<=a/\a<=159/\128<=b/\b<=191 then 3 else 0)
 else if 225<=b0/\b0<=239 then (if 3<=n/\128<=a/\a<=191/\128<=b/\b<=191 then 3 else 0)
 else if b0=240 then (if 4<=n/\144<=a/\a<=191/\128<=b/\b<=191/\128<=c/\c<=191 then 4 else 0)
 else if 241<=b0/\b0<=243 then (if 4<=n/\128<=a/\a<=191/\128<=b/\b<=191/\128<=c/\c<=191 then 4 else 0)
 else if b0=244 then (if 4<=n/\128<=a/\a<=143/\128<=b/\b<=191/\128<=c/\c<=191 then 4 else 0)
 else 0
theorem KM(l:List UInt8)(lo hi:Int):Zi l lo hi 1=decide (lo<=((l.getD 1 0).toNat:Int)/\((l.getD 1 0).toNat:Int)<=hi):=by
 simp[Zi,List.range_succ]
theorem KO(l:List UInt8)(lo hi:Int):Zi l lo hi 2=(decide (lo<=((l.getD 1 0).toNat:Int)/\((l.getD 1 0).toNat:Int)<=hi)&&decide (128<=(l.getD 2 0).toNat/\(l.getD 2 0).toNat<=191)):=by
 rw[KN,KM];simp
theorem ow(l:List UInt8)(lo hi:Int):Zi l lo hi 3=(decide (lo<=((l.getD 1 0).toNat:Int)/\((l.getD 1 0).toNat:Int)<=hi)&&decide (128<=(l.getD 2 0).toNat/\(l.getD 2 0).toNat<=191)&&decide (128<=(l.getD 3 0).toNat/\(l.getD 3 0).toNat<=191)):=by
 rw[KN,KO];simp
theorem JU(l:List UInt8)(n lo hi:Int)(a:l.length≠0)(h:¬(l.getD 0 0).toNat<128)(b:zR ((l.getD 0 0).toNat:Int)=(n,lo,hi)) :
  xM l=if n=0 then 0 else if (l.length:Int)<n+1 then 0 else if Zi l lo hi n.toNat then n.toNat+1 else 0:=by
 unfold xM;rw[if_neg a,if_neg h,b]
theorem nz(l:List UInt8)(lo hi:Nat)(a:l.length≠0)(h:¬(l.getD 0 0).toNat<128)(b:zR ((l.getD 0 0).toNat:Int)=(1,(lo:Int),(hi:Int))) :
  xM l=if 2<=l.length/\lo<=(l.getD 1 0).toNat/\(l.getD 1 0).toNat<=hi then 2 else 0:=by
 rw[JU l _ _ _ a h b,if_neg (by decide),show (1:Int).toNat=1 from rfl,KM]
 generalize (l.getD 1 0).toNat=b1
 by_cases c:2<=l.length/\lo<=b1/\b1<=hi
 ·rw[if_pos c,if_neg (by omega),if_pos (by simp;omega)]
 ·rw[if_neg c]
  by_cases d:(l.length:Int)<1+1
  ·rw[if_pos d]
  ·rw[if_neg d,if_neg (by simp;omega)]
theorem JR(l:List UInt8)(lo hi:Nat)(a:l.length≠0)(h:¬(l.getD 0 0).toNat<128)(b:zR ((l.getD 0 0).toNat:Int)=(2,(lo:Int),(hi:Int))) :
  xM l=if 3<=l.length/\lo<=(l.getD 1 0).toNat/\(l.getD 1 0).toNat<=hi/\128<=(l.getD 2 0).toNat/\(l.getD 2 0).toNat<=191 then 3 else 0:=by
 rw[JU l _ _ _ a h b,if_neg (by decide),show (2:Int).toNat=2 from rfl,KO]
 generalize (l.getD 1 0).toNat=b1;generalize (l.getD 2 0).toNat=b2
 by_cases c:3<=l.length/\lo<=b1/\b1<=hi/\128<=b2/\b2<=191
 ·rw[if_pos c,if_neg (by omega),if_pos (by simp;omega)]
 ·rw[if_neg c]
  by_cases d:(l.length:Int)<2+1
  ·rw[if_pos d]
  ·rw[if_neg d,if_neg (by simp;omega)]
theorem JS(l:List UInt8)(lo hi:Nat)(a:l.length≠0)(h:¬(l.getD 0 0).toNat<128)(b:zR ((l.getD 0 0).toNat:Int)=(3,(lo:Int),(hi:Int))) :
  xM l=if 4<=l.length/\lo<=(l.getD 1 0).toNat/\(l.getD 1 0).toNat<=hi/\128<=(l.getD 2 0).toNat/\(l.getD 2 0).toNat<=191/\128<=(l.getD 3 0).toNat/\(l.getD 3 0).toNat<=191 then 4 else 0:=by
 rw[JU l _ _ _ a h b,if_neg (by decide),show (3:Int).toNat=3 from rfl,ow]
 generalize (l.getD 1 0).toNat=b1;generalize (l.getD 2 0).toNat=b2;generalize (l.getD 3 0).toNat=b3
 by_cases c:4<=l.length/\lo<=b1/\b1<=hi/\128<=b2/\b2<=191/\128<=b3/\b3<=191
 ·rw[if_pos c,if_neg (by omega),if_pos (by simp;omega)]
 ·rw[if_neg c]
  by_cases d:(l.length:Int)<3+1
  ·rw[if_pos d]
  ·rw[if_neg d,if_neg (by simp;omega)]
theorem nA(l:List UInt8):xM l=Qs l.length (l.getD 0 0).toNat (l.getD 1 0).toNat (l.getD 2 0).toNat (l.getD 3 0).toNat:=by
 unfold Qs
 by_cases hl:l.length=0
 ·rw[if_pos hl];unfold xM;rw[if_pos hl]
 rw[if_neg hl]
 by_cases h:(l.getD 0 0).toNat<128
 ·rw[if_pos h];unfold xM;rw[if_neg hl,if_pos h]
 rw[if_neg h]
 by_cases c1:194<=(l.getD 0 0).toNat/\(l.getD 0 0).toNat<=223
 ·rw[if_pos c1];exact nz l 128 191 hl h (by unfold zR;rw[if_pos (by omega)];rfl)
 rw[if_neg c1]
 by_cases c2:(l.getD 0 0).toNat=224
 ·rw[if_pos c2];exact JR l 160 191 hl h (by unfold zR;rw[if_neg (by omega),if_pos (by omega)];rfl)
 rw[if_neg c2]
 by_cases c3:(l.getD 0 0).toNat=237
 ·rw[if_pos c3];exact JR l 128 159 hl h (by unfold zR;rw[if_neg (by omega),if_neg (by omega),if_pos (by omega)];rfl)
 rw[if_neg c3]
 by_cases c4:225<=(l.getD 0 0).toNat/\(l.getD 0 0).toNat<=239
 ·rw[if_pos c4];exact JR l 128 191 hl h (by unfold zR;rw[if_neg (by omega),if_neg (by omega),if_neg (by omega),if_pos (by omega)];rfl)
 rw[if_neg c4]
 by_cases c5:(l.getD 0 0).toNat=240
 ·rw[if_pos c5];exact JS l 144 191 hl h (by unfold zR;rw[if_neg (by omega),if_neg (by omega),if_neg (by omega),if_neg (by omega),if_pos (by omega)];rfl)
 rw[if_neg c5]
 by_cases c6:241<=(l.getD 0 0).toNat/\(l.getD 0 0).toNat<=243
 ·rw[if_pos c6];exact JS l 128 191 hl h (by unfold zR;rw[if_neg (by omega),if_neg (by omega),if_neg (by omega),if_neg (by omega),if_neg (by omega),if_pos (by omega)];rfl)
 rw[if_neg c6]
 by_cases c7:(l.getD 0 0).toNat=244
 ·rw[if_pos c7];exact JS l 128 143 hl h (by unfold zR;rw[if_neg (by omega),if_neg (by omega),if_neg (by omega),if_neg (by omega),if_neg (by omega),if_neg (by omega),if_pos (by omega)];rfl)
 rw[if_neg c7];unfold xM;rw[if_neg hl,if_neg h,if_pos];unfold zR;rw[if_neg (by omega),if_neg (by omega),if_neg (by omega),if_neg (by omega),if_neg (by omega),if_neg (by omega),if_neg (by omega)]
theorem J7(n b0 a b c:Nat)(h:b0<128):Lib.decodeN n b0 a b c=(b0,1):=by
 unfold Lib.decodeN;rw[if_pos h]
theorem J9(n b0 a b c:Nat)(h:194<=b0/\b0<=223)(e:2<=n)(d:128<=a/\a<=191):Lib.decodeN n b0 a b c=(b0 % 32*64+a % 64,2):=by
 unfold Lib.decodeN;rw[if_neg (by omega),if_pos ⟨by omega,by omega,by omega⟩,if_pos (by omega)]
theorem oO(n b0 a b c:Nat)(h:224<=b0/\b0<=239)(g:3<=n)(d:128<=a/\a<=191)(e:128<=b/\b<=191)(f:b0=224->160<=a)(hb:b0=237->a<=159) :
  Lib.decodeN n b0 a b c=(b0 % 16*4096+a % 64*64+b % 64,3):=by
 unfold Lib.decodeN;rw[if_neg (by omega),if_neg (by omega),if_pos ⟨by omega,⟨by omega,by omega⟩,by omega,by omega⟩,if_pos (by omega)]
theorem oN(n b0 a b c:Nat)(h:240<=b0/\b0<=244)(i:4<=n)(d:128<=a/\a<=191)(e:128<=b/\b<=191)(f:128<=c/\c<=191)(g:b0=240->144<=a)(hb:b0=244->a<=143) :
  Lib.decodeN n b0 a b c=(b0 % 8*262144+a % 64*4096+b % 64*64+c % 64,4):=by
 unfold Lib.decodeN;rw[if_neg (by omega),if_neg (by omega),if_neg (by omega),if_pos ⟨by omega,⟨by omega,by omega⟩,⟨by omega,by omega⟩,by omega,by omega⟩,if_pos (by omega)]
def Good(n b0 a b d k:Nat):Prop:=
 Lib.decodeN n b0 a b d=(xN ([b0,a,b,d].take k),k)/\k<=n/\k<=4/\∃c,c<=1114111/\[b0,a,b,d].take k=uk c
theorem wW(n b0 a b c:Nat)(d:n≠0)(h:b0<128):Good n b0 a b c 1:=by
 refine⟨by rw[J7 _ _ _ _ _ h];rfl,by omega,by omega,b0,by omega,?_⟩;unfold uk;rw[if_pos h];rfl
theorem wX(n b0 a b c:Nat)(h:194<=b0/\b0<=223)(e:2<=n)(d:128<=a/\a<=191):Good n b0 a b c 2:=by
 refine⟨?_,by omega,by omega,b0 % 32*64+a % 64,by omega,?_⟩
 ·rw[J9 _ _ _ _ _ h e d];show _=(xN [b0,a],2);rw[KQ,Prod.mk.injEq];exact⟨by omega,rfl⟩
 ·show [b0,a]=_;unfold uk;rw[if_neg (by omega),if_pos (by omega)];congr 1
  ·omega
  ·congr 1;omega
theorem Vs(n b0 a b c:Nat)(h:224<=b0/\b0<=239)(g:3<=n)(d:128<=a/\a<=191)(e:128<=b/\b<=191)(f:b0=224->160<=a)(hb:b0=237->a<=159):Good n b0 a b c 3:=by
 refine⟨?_,by omega,by omega,b0 % 16*4096+a % 64*64+b % 64,by omega,?_⟩
 ·rw[oO _ _ _ _ _ h g d e f hb];show _=(xN [b0,a,b],3);rw[KR,Prod.mk.injEq];exact⟨by omega,rfl⟩
 ·show [b0,a,b]=_;unfold uk;rw[if_neg (by omega),if_neg (by omega),if_pos (by omega)];congr 1
  ·omega
  ·congr 1
   ·omega
   ·congr 1;omega
theorem Vr(n b0 a b c:Nat)(h:240<=b0/\b0<=244)(i:4<=n)(d:128<=a/\a<=191)(e:128<=b/\b<=191)(f:128<=c/\c<=191)(g:b0=240->144<=a)(hb:b0=244->a<=143):Good n b0 a b c 4:=by
 refine⟨?_,by omega,by omega,b0 % 8*262144+a % 64*4096+b % 64*64+c % 64,by omega,?_⟩
 ·rw[oN _ _ _ _ _ h i d e f g hb];show _=(xN [b0,a,b,c],4);rw[KT,Prod.mk.injEq];exact⟨by omega,rfl⟩
 ·show [b0,a,b,c]=_;unfold uk;rw[if_neg (by omega),if_neg (by omega),if_neg (by omega)];congr 1
  ·omega
  ·congr 1
   ·omega
   ·congr 1
    ·omega
    ·congr 1;omega
theorem oM(n b0 a b c:Nat)(d:n≠0)(e:b0<256)(h:Qs n b0 a b c=0):Lib.decodeN n b0 a b c=(65533,1):=by
 unfold Qs at h;rw[if_neg d] at h;unfold Lib.decodeN
 repeat' split at h
 all_goals first|(exfalso;omega)|skip
 all_goals repeat' split
 all_goals first|rfl|(exfalso;omega)
theorem CB(n b0 a b e:Nat)(f:n≠0)(h:Qs n b0 a b e≠0):Good n b0 a b e (Qs n b0 a b e):=by
 unfold Qs at h |-;rw[if_neg f] at h |-
 split at h
 ·rename_i c;rw[if_pos c];exact wW _ _ _ _ _ f c
 rename_i c0;rw[if_neg c0]
 split at h
 ·rename_i c;rw[if_pos c]
  split at h
  ·rename_i d;rw[if_pos d];exact wX _ _ _ _ _ c d.1 d.2
  ·exact absurd rfl h
 rename_i c1;rw[if_neg c1]
 split at h
 ·rename_i c;rw[if_pos c]
  split at h
  ·rename_i d;rw[if_pos d];exact Vs _ _ _ _ _ (by omega) d.1 (by omega) (by omega) (by omega) (by omega)
  ·exact absurd rfl h
 rename_i c2;rw[if_neg c2]
 split at h
 ·rename_i c;rw[if_pos c]
  split at h
  ·rename_i d;rw[if_pos d];exact Vs _ _ _ _ _ (by omega) d.1 (by omega) (by omega) (by omega) (by omega)
  ·exact absurd rfl h
 rename_i c3;rw[if_neg c3]
 split at h
 ·rename_i c;rw[if_pos c]
  split at h
  ·rename_i d;rw[if_pos d];exact Vs _ _ _ _ _ (by omega) d.1 (by omega) (by omega) (by omega) (by omega)
  ·exact absurd rfl h
 rename_i c4;rw[if_neg c4]
 split at h
 ·rename_i c;rw[if_pos c]
  split at h
  ·rename_i d;rw[if_pos d];exact Vr _ _ _ _ _ (by omega) d.1 (by omega) (by omega) (by omega) (by omega) (by omega)
  ·exact absurd rfl h
 rename_i c5;rw[if_neg c5]
 split at h
 ·rename_i c;rw[if_pos c]
  split at h
  ·rename_i d;rw[if_pos d];exact Vr _ _ _ _ _ (by omega) d.1 (by omega) (by omega) (by omega) (by omega) (by omega)
  ·exact absurd rfl h
 rename_i g;rw[if_neg g]
 split at h
 ·rename_i c;rw[if_pos c]
  split at h
  ·rename_i d;rw[if_pos d];exact Vr _ _ _ _ _ (by omega) d.1 (by omega) (by omega) (by omega) (by omega) (by omega)
  ·exact absurd rfl h
 ·exact absurd rfl h
theorem aH(s:BY)(k:Nat):s.get! k=s.data.toList.getD k 0:=by
 obtain⟨⟨l⟩⟩:=s;show (Array.mk l)[k]! = _
 by_cases h:k<l.length
 ·simp[List.getD,h]
 ·simp[List.getD,h];rfl
theorem LM(l:List UInt8)(k:Nat)(f:k<=4)(e:k<=l.length):(l.take k).map UInt8.toNat=[(l.getD 0 0).toNat,(l.getD 1 0).toNat,(l.getD 2 0).toNat,(l.getD 3 0).toNat].take k:=by
 obtain rfl|rfl|rfl|rfl|rfl:k=0\/k=1\/k=2\/k=3\/k=4:=by omega
 all_goals rcases l with _|⟨a,_|⟨b,_|⟨c,_|⟨d,l⟩⟩⟩⟩
 all_goals first|rfl|(simp at e)
theorem Ef(s:BY)(k:Nat):nums (s.extract 0 k)=(s.data.toList.take k).map UInt8.toNat:=by
 unfold nums;simp[ByteArray.data_extract]
theorem XL(s:BY)(r:0<s.size) :
  (ZF s=false/\Utf8.decode s 0=(65533,1)) \/
  (ZF s=true/\vX (zW s)/\Utf8.decode s 0=(yn (zW s),(zW s).size)/\¬(yn (zW s)=65533/\(zW s).size=1)):=by
 have hd:=Lib.decode_at s 0;simp only[aH,Nat.sub_zero,Nat.zero_add] at hd;have b:=nA s.data.toList;have a:s.data.toList.length=s.size:=zx s;rw[a] at b
 by_cases h:xM s.data.toList=0
 ·left
  refine⟨by unfold ZF;rw[h];rfl,?_⟩;rw[hd];exact oM _ _ _ _ _ (by omega) (UInt8.toNat_lt _) (b.symm.trans h)
 ·right
  have l:zW s=s.extract 0 (xM s.data.toList):=by unfold zW;rw[if_neg h]
  have j:=CB _ _ _ _ _ (by omega) (λe=>h (b.trans e));rw[<- b] at j;obtain⟨n,o,p,c,q,i⟩:=j
  have d:nums (zW s)=uk c:=by
   rw[l,Ef,LM _ _ p (by rw[a];exact o)];exact i
  have k:yn (zW s)=c:=by unfold yn;rw[d,XK]
  have f:(zW s).size=xM s.data.toList:=by rw[l,ByteArray.size_extract];omega
  refine⟨by unfold ZF;simp[h],⟨c,q,d⟩,?_,?_⟩
  ·rw[hd,n,k,f,i,XK]
  ·rintro ⟨g,m⟩;rw[k] at g
   have:(nums (zW s)).length=1:=by unfold nums;rw[List.length_map,zx];exact m
   rw[d,g] at this;simp[uk] at this
def ql(p:Int×BY):Int:=if p.1=3 then -2 else if p.1=2 then -1 else if p.1=4 then 0 else (yn p.2:Int)
def nameOf(p:Int×BY):BY:=if p.1=4 then p.2 else ⟨#[]⟩
def QQ(u:BY):Nat:=u.data.toList.findIdx λc=>c.toNat==125
def kg(u:BY):Bool:=decide (QQ u<u.size)
def ko(u:BY):BY:=if kg u then u.extract 0 (QQ u) else u
theorem AC(l:List UInt8):Lib.index l [125]=if l.findIdx (λc=>c.toNat==125)<l.length then ((l.findIdx λc=>c.toNat==125:Nat):Int) else -1:=by
 induction l with
 | nil=>rfl
 | cons b l g=>
  unfold Lib.index;rw[g,List.findIdx_cons]
  have e:([125].isPrefixOf (b::l))=(b.toNat==125):=by
   simp only[List.isPrefixOf,Bool.and_true];rw[Bool.eq_iff_iff,beq_iff_eq,beq_iff_eq]
   constructor
   ·intro h;rw[<- h];rfl
   ·intro h;exact (UInt8.toNat_inj.1 (by rw[h];rfl)).symm
  rw[e]
  cases h:b.toNat==125 with
  | true=>simp
  | false=>
   simp only[Bool.false_eq_true,if_false,cond_false,List.length_cons];generalize l.findIdx (λc=>c.toNat==125)=f;generalize l.length=n
   by_cases hl:f<n
   ·have a:f+1<n+1:=by omega
    have d:((f:Int) == -1)=false:=by rw[beq_eq_false_iff_ne];omega
    simp[hl,a,d]
   ·have a:¬f+1<n+1:=by omega
    simp[hl,a]
theorem oK(u:BY):(⟨(Lib.cut u.data.toList [125]).1.toArray⟩:BY)=ko u/\(Lib.cut u.data.toList [125]).2.2=kg u:=by
 have hi:=AC u.data.toList;rw[zx] at hi;unfold ko kg QQ
 by_cases h:u.data.toList.findIdx (λc=>c.toNat==125)<u.size
 ·rw[if_pos h] at hi;have a:=Lib.cutB_hit u ⟨#[125]⟩ _ hi;rw[decide_eq_true h,if_pos rfl];exact⟨a.1,a.2.2⟩
 ·rw[if_neg h] at hi;have a:=Lib.cutB_miss u ⟨#[125]⟩ hi;rw[decide_eq_false h,if_neg (by decide)];exact⟨a.1,a.2.2⟩
def ui(t:BY):Int×BY×Nat:=
 if t.size=0 then (0,⟨#[]⟩,0)
 else if (t.data.toList.getD 0 0).toNat=36\/(t.data.toList.getD 0 0).toNat=42\/(t.data.toList.getD 0 0).toNat=63 then ((t.data.toList.getD 0 0).toNat,⟨#[]⟩,2)
 else if (t.data.toList.getD 0 0).toNat=123 then
  (if kg (t.extract 1 t.size) then (if zH (ko (t.extract 1 t.size)) then (0,ko (t.extract 1 t.size),2+(ko (t.extract 1 t.size)).size+1) else (0,⟨#[]⟩,0)) else (0,⟨#[]⟩,0))
 else (0,⟨#[]⟩,0)
def Qz(p:Option (Int×BY×Nat)):Int×BY×Nat:=match p with
 | none=>(0,⟨#[]⟩,0)
 | some (k,t,n)=>(ql (k,t),nameOf (k,t),n)
def YJ(s:BY):Option (Int×BY×Nat):=if (uj s).2.2=0 then none else some (uj s)
theorem sJ(s:BY):(s.extract 1 s.size).data.toList=s.data.toList.drop 1:=Lib.ext_list s 1
theorem sK(s:BY)(k:Nat):(s.extract k s.size).extract 1 (s.extract k s.size).size=s.extract (k+1) s.size:=by
 rw[ByteArray.extract_extract,ByteArray.size_extract];have e:min (k+(min s.size s.size-k)) s.size=s.size\/s.size<=k:=by omega
 rcases e with e|e
 ·rw[e]
 ·have a:min (k+(min s.size s.size-k)) s.size=s.size:=by omega
  rw[a]
theorem GA(s:BY)(k:Nat)(b:k<s.size):yn (s.extract k (k+1))=(s.data.toList.getD k 0).toNat:=by
 unfold yn nums
 have:(s.extract k (k+1)).data.toList=[s.data.toList.getD k 0]:=by
  have a:k<s.data.toList.length:=by rw[zx];exact b
  rw[ByteArray.data_extract,Array.toList_extract,List.getD_eq_getElem?_getD,List.getElem?_eq_getElem a];simp only[List.extract_eq_take_drop,Option.getD_some];rw[List.drop_eq_getElem_cons a]
  simp
 rw[this];simp only[List.map_cons,List.map_nil,KP]
theorem pV(s:BY)(j:0<s.size):ui (s.extract 1 s.size)=Qz (YJ s):=by
 have d:(s.extract 1 s.size).size=s.size-1:=by rw[ByteArray.size_extract];omega
 have f:(s.extract 1 s.size).data.toList.getD 0 0=s.data.toList.getD 1 0:=by
  rw[sJ];simp
 unfold ui;rw[f,d];unfold YJ uj
 by_cases h2:s.size<2
 ·rw[if_pos (by omega),if_pos h2];rfl
 rw[if_neg (by omega),if_neg h2]
 by_cases h3:(s.data.toList.getD 1 0).toNat=36\/(s.data.toList.getD 1 0).toNat=42\/(s.data.toList.getD 1 0).toNat=63
 ·rw[if_pos h3,if_pos h3];show _=(ql (1,s.extract 1 2),nameOf (1,s.extract 1 2),2)
  have:ql (1,s.extract 1 2)=((s.data.toList.getD 1 0).toNat:Int):=by
   show ((yn (s.extract 1 2):Nat):Int)=_;rw[GA s 1 (by omega)]
  rw[this];rfl
 rw[if_neg h3,if_neg h3]
 by_cases h4:(s.data.toList.getD 1 0).toNat=123
 ·rw[if_pos h4,if_pos h4]
  have i:(s.extract 1 s.size).extract 1 (s.size-1)=s.extract 2 s.size:=by
   have:=sK s 1;rw[d] at this;exact this
  rw[i];have g:(s.extract 2 s.size).data.toList=s.data.toList.drop 2:=Lib.ext_list s 2;have hb:jI s=2+QQ (s.extract 2 s.size):=by unfold jI QQ;rw[g]
  have a:(s.extract 2 s.size).size=s.size-2:=by rw[ByteArray.size_extract];omega
  by_cases hc:jI s<s.size
  ·have b:kg (s.extract 2 s.size)=true:=by unfold kg;rw[a];exact decide_eq_true (by omega)
   have h:ko (s.extract 2 s.size)=s.extract 2 (jI s):=by
    unfold ko;rw[b,if_pos rfl,ByteArray.extract_extract];have e:min (2+QQ (s.extract 2 s.size)) s.size=jI s:=by rw[hb] at hc |-;omega
    rw[e]
   have c:(s.extract 2 (jI s)).size=jI s-2:=by rw[ByteArray.size_extract];omega
   rw[b,if_pos rfl,if_pos hc,h]
   by_cases hi:zH (s.extract 2 (jI s))=true
   ·rw[if_pos hi,if_pos hi];show _=(ql (4,_),nameOf (4,_),_);rw[c]
    have:2+(jI s-2)+1=jI s+1:=by omega
    rw[this];rfl
   ·rw[if_neg hi,if_neg hi];rfl
  ·have b:kg (s.extract 2 s.size)=false:=by unfold kg;rw[a];exact decide_eq_false (by omega)
   rw[b,if_neg (by decide),if_neg hc];rfl
 ·rw[if_neg h4,if_neg h4];rfl
theorem Km(s:BY)(c:0<s.size):(zW s).data.toList.getD 0 0=s.data.toList.getD 0 0:=by
 unfold zW;generalize b:(if xM s.data.toList=0 then 1 else xM s.data.toList)=k
 have d:1<=k:=by rw[<- b];split<;>omega
 obtain⟨⟨l⟩⟩:=s
 cases l with
 | nil=>exact absurd c (by decide)
 | cons a l=>
  obtain⟨j,rfl⟩:∃j,k=j+1:=⟨k-1,by omega⟩;simp[ByteArray.data_extract]
theorem JV(s:BY)(a:0<s.size)(c:UInt8)(h:(s.data.toList.getD 0 0).toNat≠c.toNat):((zW s).toList==[c])=false:=by
 rw[beq_eq_false_iff_ne];intro e;rw[Lib.toList_data] at e
 have:=Km s a
 rw[e] at this;apply h;rw[<- this];rfl
theorem JQ(s:BY)(g:0<s.size)(c:UInt8)(j:c.toNat<128)(h:(s.data.toList.getD 0 0).toNat=c.toNat):(zW s).toList=[c]/\ZF s=true/\(zW s).size=1:=by
 have d:xM s.data.toList=1:=by
  unfold xM;rw[zx,if_neg (by omega),if_pos (by omega)]
 have i:zW s=s.extract 0 1:=by unfold zW;rw[d];rfl
 have e:(zW s).size=1:=by rw[i,ByteArray.size_extract];omega
 refine⟨?_,by unfold ZF;rw[d];rfl,e⟩;rw[Lib.toList_data];have b:=Km s g;have hlen:(zW s).data.toList.length=1:=by rw[zx];exact e
 obtain⟨a,f⟩:=List.length_eq_one_iff.1 hlen;rw[f] at b |-
 have:a=c:=UInt8.toNat_inj.1 (by rw[<- h,<- b];rfl)
 rw[this]
theorem IP(s:BY)(d:0<s.size)(h:(s.data.toList.getD 0 0).toNat=42):Qz (qY s)=(-2,⟨#[]⟩,1):=by
 obtain⟨a,b,c⟩:=JQ s d 42 (by decide) h
 have:qY s=some (3,zW s,1):=by
  unfold qY;rw[b,a,c];rfl
 rw[this];rfl
theorem IM(s:BY)(d:0<s.size)(h:(s.data.toList.getD 0 0).toNat=63):Qz (qY s)=(-1,⟨#[]⟩,1):=by
 obtain⟨a,b,c⟩:=JQ s d 63 (by decide) h
 have:qY s=some (2,zW s,1):=by
  unfold qY;rw[b,a,c];rfl
 rw[this];rfl
theorem IK(s:BY)(a:0<s.size)(h:(s.data.toList.getD 0 0).toNat=36):Qz (qY s)=ui (s.extract 1 s.size):=by
 obtain⟨b,c,d⟩:=JQ s a 36 (by decide) h
 have:qY s=YJ s:=by
  unfold qY YJ;rw[c,b];rfl
 rw[this,pV s a]
theorem gM(s:BY)(a:0<s.size)(f:(s.data.toList.getD 0 0).toNat≠42)(g:(s.data.toList.getD 0 0).toNat≠63)(h:(s.data.toList.getD 0 0).toNat≠36) :
  (Utf8.decode s 0=(65533,1)/\Qz (qY s)=(0,⟨#[]⟩,0)) \/
  (∃c n,c<=1114111/\Utf8.decode s 0=(c,n)/\¬(c=65533/\n=1)/\n<=s.size/\Qz (qY s)=((c:Int),⟨#[]⟩,n)):=by
 have b:=JV s a 42 f;have d:=JV s a 63 g;have e:=JV s a 36 h
 rcases XL s a with ⟨ho,hd⟩|⟨ho,hc,hd,hn⟩
 ·left
  refine⟨hd,?_⟩
  have:qY s=none:=by unfold qY;rw[if_pos ho]
  rw[this];rfl
 ·right
  refine⟨_,_,rune_le _ hc,hd,hn,(XE s a).2,?_⟩
  have:qY s=some (1,zW s,(zW s).size):=by
   unfold qY;rw[ho,b,d,e];rfl
  rw[this];rfl
end Pg
end Go.Proofs.YtdakgnaojakldaaGreatDoor
namespace Go.Proofs.YtdakgnaojakldaaGreatDoor
open Go.Shelf
def Tryz.lays197_ren:Go.Shelf.Ren:=⟨λ|197=>237|260=>253|n=>n,λ|9=>9|21=>21|3=>3|4=>4|5=>5|105=>388|119=>324|0=>0|46=>321|139=>327|138=>326|n=>n,λ|3=>2|4=>3|n=>n⟩
theorem Tryz.lays197:Go.Proofs.Lays.n197 prog Tryz.lays197_ren:={
 mixed:=by kernel_rfl
 f197:=func237.trans (congrArg some (by kernel_rfl))
 f260:=func253.trans (congrArg some (by kernel_rfl))
 t0:=underlying0
 a0:=Tryz.isAgg0
 z0:=Tryz.sizeOf0
 v0:=Tryz.zeroValue0
 t3:=underlying3
 a3:=Tryz.isAgg3
 z3:=Tryz.sizeOf3
 v3:=Tryz.zeroValue3
 t4:=underlying4
 a4:=Tryz.isAgg4
 z4:=Tryz.sizeOf4
 v4:=Tryz.zeroValue4
 t5:=underlying5
 a5:=Tryz.isAgg5
 z5:=Tryz.sizeOf5
 v5:=Tryz.zeroValue5
 t9:=underlying9
 a9:=Tryz.isAgg9
 z9:=Tryz.sizeOf9
 v9:=Tryz.zeroValue9
 t21:=underlying21
 a21:=Tryz.isAgg21
 z21:=Tryz.sizeOf21
 v21:=Tryz.zeroValue21
 t46:=underlying321
 a46:=Tryz.isAgg321
 z46:=Tryz.sizeOf321
 v46:=Tryz.zeroValue321
 t105:=underlying388
 a105:=Tryz.isAgg388
 z105:=Tryz.sizeOf388
 v105:=Tryz.zeroValue388
 t119:=underlying324
 a119:=Tryz.isAgg324
 z119:=Tryz.sizeOf324
 t138:=underlying326
 a138:=Tryz.isAgg326
 z138:=Tryz.sizeOf326
 v138:=Tryz.zeroValue326
 t139:=underlying327
 a139:=Tryz.isAgg327
 z139:=Tryz.sizeOf327
 v139:=Tryz.zeroValue327
 g3:=by kernel_rfl
 g4:=by kernel_rfl }
def Tryz.lays145_ren:Go.Shelf.Ren:=⟨λ|145=>252|220=>261|219=>267|217=>268|225=>269|224=>270|267=>271|266=>272|314=>273|n=>n,λ|9=>9|4=>4|59=>403|3=>3|5=>5|46=>321|146=>416|51=>398|n=>n,λ|1=>4|n=>n⟩
theorem Tryz.lays145:Go.Proofs.Lays.n145 prog Tryz.lays145_ren:={
 mixed:=by kernel_rfl
 f145:=func252.trans (congrArg some (by kernel_rfl))
 f217:=func268.trans (congrArg some (by kernel_rfl))
 f219:=func267.trans (congrArg some (by kernel_rfl))
 f220:=func261.trans (congrArg some (by kernel_rfl))
 f224:=func270.trans (congrArg some (by kernel_rfl))
 f225:=func269.trans (congrArg some (by kernel_rfl))
 f266:=func272.trans (congrArg some (by kernel_rfl))
 f267:=func271.trans (congrArg some (by kernel_rfl))
 f314:=func273.trans (congrArg some (by kernel_rfl))
 t3:=underlying3
 a3:=Tryz.isAgg3
 z3:=Tryz.sizeOf3
 v3:=Tryz.zeroValue3
 t4:=underlying4
 a4:=Tryz.isAgg4
 z4:=Tryz.sizeOf4
 v4:=Tryz.zeroValue4
 t5:=underlying5
 a5:=Tryz.isAgg5
 z5:=Tryz.sizeOf5
 v5:=Tryz.zeroValue5
 t9:=underlying9
 a9:=Tryz.isAgg9
 z9:=Tryz.sizeOf9
 v9:=Tryz.zeroValue9
 t46:=underlying321
 a46:=Tryz.isAgg321
 z46:=Tryz.sizeOf321
 v46:=Tryz.zeroValue321
 t51:=underlying398
 a51:=Tryz.isAgg398
 z51:=Tryz.sizeOf398
 v51:=Tryz.zeroValue398
 t59:=underlying403
 a59:=Tryz.isAgg403
 z59:=Tryz.sizeOf403
 v59:=Tryz.zeroValue403
 t146:=underlying416
 a146:=Tryz.isAgg416
 z146:=Tryz.sizeOf416
 v146:=Tryz.zeroValue416
 g1:=by kernel_rfl }
def Tryz.lays196_ren:Go.Shelf.Ren:=⟨λ|196=>139|259=>187|n=>n,λ|9=>9|4=>4|3=>3|5=>5|12=>12|119=>324|0=>0|46=>321|139=>327|138=>326|53=>376|n=>n,λ|3=>2|4=>3|n=>n⟩
theorem Tryz.lays196:Go.Proofs.Lays.n196 prog Tryz.lays196_ren:={
 mixed:=by kernel_rfl
 f196:=func139.trans (congrArg some (by kernel_rfl))
 f259:=func187.trans (congrArg some (by kernel_rfl))
 t0:=underlying0
 a0:=Tryz.isAgg0
 z0:=Tryz.sizeOf0
 v0:=Tryz.zeroValue0
 t3:=underlying3
 a3:=Tryz.isAgg3
 z3:=Tryz.sizeOf3
 v3:=Tryz.zeroValue3
 t4:=underlying4
 a4:=Tryz.isAgg4
 z4:=Tryz.sizeOf4
 v4:=Tryz.zeroValue4
 t5:=underlying5
 a5:=Tryz.isAgg5
 z5:=Tryz.sizeOf5
 v5:=Tryz.zeroValue5
 t9:=underlying9
 a9:=Tryz.isAgg9
 z9:=Tryz.sizeOf9
 v9:=Tryz.zeroValue9
 t12:=underlying12
 a12:=Tryz.isAgg12
 z12:=Tryz.sizeOf12
 v12:=Tryz.zeroValue12
 t46:=underlying321
 a46:=Tryz.isAgg321
 z46:=Tryz.sizeOf321
 v46:=Tryz.zeroValue321
 t53:=underlying376
 a53:=Tryz.isAgg376
 z53:=Tryz.sizeOf376
 v53:=Tryz.zeroValue376
 t119:=underlying324
 a119:=Tryz.isAgg324
 z119:=Tryz.sizeOf324
 t138:=underlying326
 a138:=Tryz.isAgg326
 z138:=Tryz.sizeOf326
 v138:=Tryz.zeroValue326
 t139:=underlying327
 a139:=Tryz.isAgg327
 z139:=Tryz.sizeOf327
 v139:=Tryz.zeroValue327
 g3:=by kernel_rfl
 g4:=by kernel_rfl }
end Go.Proofs.YtdakgnaojakldaaGreatDoor
