/- P -/
import Derived.Test.YtdakgnaojakldaaGreatDoorG09
import Derived.Lib.DecodeN
import Derived.Lib.Strings
import Derived.Lib.CutLaws
import Derived.Lib.ValidAsc
import Derived.Shelf.Unicode.DecodeAny
import Derived.Shelf.Strings.Cut
open Go.Proofs.Tryz
set_option maxRecDepth 100000
set_option maxHeartbeats 4000000
namespace Go.Proofs.YtdakgnaojakldaaGreatDoor
namespace Pg
open Ref
def kQ(c:Nat):List Nat:=
 if c<128 then [c]
 else if c<2048 then [192+c / 64,128+c % 64]
 else if c<65536 then [224+c / 4096,128+c / 64 % 64,128+c % 64]
 else [240+c / 262144,128+c / 4096 % 64,128+c / 64 % 64,128+c % 64]
def yK(l:List Nat):Nat:=
 if l.length=1 then l.getD 0 0
 else if l.length=2 then (l.getD 0 0-192)*64+(l.getD 1 0-128)
 else if l.length=3 then (l.getD 0 0-224)*4096+(l.getD 1 0-128)*64+(l.getD 2 0-128)
 else (l.getD 0 0-240)*262144+(l.getD 1 0-128)*4096+(l.getD 2 0-128)*64+(l.getD 3 0-128)
theorem fK(a:Nat):yK [a]=a:=by
 simp[yK]
theorem fM(a b:Nat):yK [a,b]=(a-192)*64+(b-128):=by
 simp[yK]
theorem fO(a b c:Nat):yK [a,b,c]=(a-224)*4096+(b-128)*64+(c-128):=by
 simp[yK]
theorem fP(a b c d:Nat):yK [a,b,c,d]=(a-240)*262144+(b-128)*4096+(c-128)*64+(d-128):=by
 simp[yK]
theorem Y2(c:Nat):yK (kQ c)=c:=by
 unfold kQ
 by_cases h1:c<128
 ·rw[if_pos h1,fK]
 by_cases h2:c<2048
 ·rw[if_neg h1,if_pos h2,fM];omega
 by_cases h3:c<65536
 ·rw[if_neg h1,if_neg h2,if_pos h3,fO];omega
 ·rw[if_neg h1,if_neg h2,if_neg h3,fP];omega
def nums(t:BA):List Nat:=t.data.toList.map UInt8.toNat
def ja(t:BA):Nat:=yK (nums t)
def kG(t:BA):Prop:=∃c,c<=1114111/\nums t=kQ c
theorem Mw(s t:BA)(h:nums s=nums t):s.toList=t.toList:=by
 rw[Lib.toList_data,Lib.toList_data];unfold nums at h;exact (List.map_inj_right (λa b e=>UInt8.toNat_inj.1 e)).1 h
theorem Pp(s t:BA)(g:kG s)(i:kG t):(s.toList==t.toList)=decide (ja s=ja t):=by
 obtain⟨c,_,e⟩:=g;obtain⟨d,_,hd⟩:=i;have a:ja s=c:=by unfold ja;rw[e,Y2]
 have b:ja t=d:=by unfold ja;rw[hd,Y2]
 rw[a,b]
 by_cases h:c=d
 ·subst h
  have:=Mw s t (e.trans hd.symm)
  rw[this];simp
 ·have:s.toList≠t.toList:=by
   intro f;apply h;rw[<- a,<- b];unfold ja nums;rw[<- Lib.toList_data,<- Lib.toList_data,f]
  simp[this,h]
theorem rune_le(t:BA)(h:kG t):ja t<=1114111:=by
 obtain⟨c,a,e⟩:=h;unfold ja;rw[e,Y2];exact a
def Xr(n b0 a b c:Nat):Nat:=
 if n=0 then 0
 else if b0<128 then 1
 else if 194<=b0/\b0<=223 then (if 2<=n/\128<=a/\a<=191 then 2 else 0)
 else if b0=224 then (if 3<=n/\160<=a/\a<=191/\128<=b/\b<=191 then 3 else 0)
 else if b0=237 then (if 3<=n/\128<=a/\a<=159/\128<=b/\b<=191 then 3 else 0)
 else if 225<=b0/\b0<=239 then (if 3<=n/\128<=a/\a<=191/\128<=b/\b<=191 then 3 else 0)
 else if b0=240 then (if 4<=n/\144<=a/\a<=191/\128<=b/\b<=191/\128<=c/\c<=191 then 4 else 0)
 else if 241<=b0/\b0<=243 then (if 4<=n/\128<=a/\a<=191/\128<=b/\b<=191/\128<=c/\c<=191 then 4 else 0)
 else if b0=244 then (if 4<=n/\128<=a/\a<=143/\128<=b/\b<=191/\128<=c/\c<=191 then 4 else 0)
 else 0
theorem fG(l:List UInt8)(lo hi:Int):Qe l lo hi 1=decide (lo<=((l.getD 1 0).toNat:Int)/\((l.getD 1 0).toNat:Int)<=hi):=by
 simp[Qe,List.range_succ]
theorem fI(l:List UInt8)(lo hi:Int):Qe l lo hi 2=(decide (lo<=((l.getD 1 0).toNat:Int)/\((l.getD 1 0).toNat:Int)<=hi)&&decide (128<=(l.getD 2 0).toNat/\(l.getD 2 0).toNat<=191)):=by
 rw[fH,fG];simp
theorem BZ(l:List UInt8)(lo hi:Int):Qe l lo hi 3=(decide (lo<=((l.getD 1 0).toNat:Int)/\((l.getD 1 0).toNat:Int)<=hi)&&decide (128<=(l.getD 2 0).toNat/\(l.getD 2 0).toNat<=191)&&decide (128<=(l.getD 3 0).toNat/\(l.getD 3 0).toNat<=191)):=by
 rw[fH,fI];simp
theorem UG(l:List UInt8)(n lo hi:Int)(a:l.length≠0)(h:¬(l.getD 0 0).toNat<128)(b:zZ ((l.getD 0 0).toNat:Int)=(n,lo,hi)) :
  yu l=if n=0 then 0 else if (l.length:Int)<n+1 then 0 else if Qe l lo hi n.toNat then n.toNat+1 else 0:=by
 unfold yu;rw[if_neg a,if_neg h,b]
theorem AX(l:List UInt8)(lo hi:Nat)(a:l.length≠0)(h:¬(l.getD 0 0).toNat<128)(b:zZ ((l.getD 0 0).toNat:Int)=(1,(lo:Int),(hi:Int))) :
  yu l=if 2<=l.length/\lo<=(l.getD 1 0).toNat/\(l.getD 1 0).toNat<=hi then 2 else 0:=by
 rw[UG l _ _ _ a h b,if_neg (by decide),show (1:Int).toNat=1 from rfl,fG]
 generalize (l.getD 1 0).toNat=b1
 by_cases c:2<=l.length/\lo<=b1/\b1<=hi
 ·rw[if_pos c,if_neg (by omega),if_pos (by simp;omega)]
 ·rw[if_neg c]
  by_cases d:(l.length:Int)<1+1
  ·rw[if_pos d]
  ·rw[if_neg d,if_neg (by simp;omega)]
theorem UE(l:List UInt8)(lo hi:Nat)(a:l.length≠0)(h:¬(l.getD 0 0).toNat<128)(b:zZ ((l.getD 0 0).toNat:Int)=(2,(lo:Int),(hi:Int))) :
  yu l=if 3<=l.length/\lo<=(l.getD 1 0).toNat/\(l.getD 1 0).toNat<=hi/\128<=(l.getD 2 0).toNat/\(l.getD 2 0).toNat<=191 then 3 else 0:=by
 rw[UG l _ _ _ a h b,if_neg (by decide),show (2:Int).toNat=2 from rfl,fI]
 generalize (l.getD 1 0).toNat=b1;generalize (l.getD 2 0).toNat=b2
 by_cases c:3<=l.length/\lo<=b1/\b1<=hi/\128<=b2/\b2<=191
 ·rw[if_pos c,if_neg (by omega),if_pos (by simp;omega)]
 ·rw[if_neg c]
  by_cases d:(l.length:Int)<2+1
  ·rw[if_pos d]
  ·rw[if_neg d,if_neg (by simp;omega)]
theorem UF(l:List UInt8)(lo hi:Nat)(a:l.length≠0)(h:¬(l.getD 0 0).toNat<128)(b:zZ ((l.getD 0 0).toNat:Int)=(3,(lo:Int),(hi:Int))) :
  yu l=if 4<=l.length/\lo<=(l.getD 1 0).toNat/\(l.getD 1 0).toNat<=hi/\128<=(l.getD 2 0).toNat/\(l.getD 2 0).toNat<=191/\128<=(l.getD 3 0).toNat/\(l.getD 3 0).toNat<=191 then 4 else 0:=by
 rw[UG l _ _ _ a h b,if_neg (by decide),show (3:Int).toNat=3 from rfl,BZ]
 generalize (l.getD 1 0).toNat=b1;generalize (l.getD 2 0).toNat=b2;generalize (l.getD 3 0).toNat=b3
 by_cases c:4<=l.length/\lo<=b1/\b1<=hi/\128<=b2/\b2<=191/\128<=b3/\b3<=191
 ·rw[if_pos c,if_neg (by omega),if_pos (by simp;omega)]
 ·rw[if_neg c]
  by_cases d:(l.length:Int)<3+1
  ·rw[if_pos d]
  ·rw[if_neg d,if_neg (by simp;omega)]
theorem AY(l:List UInt8):yu l=Xr l.length (l.getD 0 0).toNat (l.getD 1 0).toNat (l.getD 2 0).toNat (l.getD 3 0).toNat:=by
 unfold Xr
 by_cases hl:l.length=0
 ·rw[if_pos hl];unfold yu;rw[if_pos hl]
 rw[if_neg hl]
 by_cases h:(l.getD 0 0).toNat<128
 ·rw[if_pos h];unfold yu;rw[if_neg hl,if_pos h]
 rw[if_neg h]
 by_cases c1:194<=(l.getD 0 0).toNat/\(l.getD 0 0).toNat<=223
 ·rw[if_pos c1];exact AX l 128 191 hl h (by unfold zZ;rw[if_pos (by omega)];rfl)
 rw[if_neg c1]
 by_cases c2:(l.getD 0 0).toNat=224
 ·rw[if_pos c2];exact UE l 160 191 hl h (by unfold zZ;rw[if_neg (by omega),if_pos (by omega)];rfl)
 rw[if_neg c2]
 by_cases c3:(l.getD 0 0).toNat=237
 ·rw[if_pos c3];exact UE l 128 159 hl h (by unfold zZ;rw[if_neg (by omega),if_neg (by omega),if_pos (by omega)];rfl)
 rw[if_neg c3]
 by_cases c4:225<=(l.getD 0 0).toNat/\(l.getD 0 0).toNat<=239
 ·rw[if_pos c4];exact UE l 128 191 hl h (by unfold zZ;rw[if_neg (by omega),if_neg (by omega),if_neg (by omega),if_pos (by omega)];rfl)
 rw[if_neg c4]
 by_cases c5:(l.getD 0 0).toNat=240
 ·rw[if_pos c5];exact UF l 144 191 hl h (by unfold zZ;rw[if_neg (by omega),if_neg (by omega),if_neg (by omega),if_neg (by omega),if_pos (by omega)];rfl)
 rw[if_neg c5]
 by_cases c6:241<=(l.getD 0 0).toNat/\(l.getD 0 0).toNat<=243
 ·rw[if_pos c6];exact UF l 128 191 hl h (by unfold zZ;rw[if_neg (by omega),if_neg (by omega),if_neg (by omega),if_neg (by omega),if_neg (by omega),if_pos (by omega)];rfl)
 rw[if_neg c6]
 by_cases c7:(l.getD 0 0).toNat=244
 ·rw[if_pos c7];exact UF l 128 143 hl h (by unfold zZ;rw[if_neg (by omega),if_neg (by omega),if_neg (by omega),if_neg (by omega),if_neg (by omega),if_neg (by omega),if_pos (by omega)];rfl)
 rw[if_neg c7];unfold yu;rw[if_neg hl,if_neg h,if_pos];unfold zZ;rw[if_neg (by omega),if_neg (by omega),if_neg (by omega),if_neg (by omega),if_neg (by omega),if_neg (by omega),if_neg (by omega)]
theorem Cr(n b0 a b c:Nat)(h:b0<128):Lib.decodeN n b0 a b c=(b0,1):=by
 unfold Lib.decodeN;rw[if_pos h]
theorem Ct(n b0 a b c:Nat)(h:194<=b0/\b0<=223)(e:2<=n)(d:128<=a/\a<=191):Lib.decodeN n b0 a b c=(b0 % 32*64+a % 64,2):=by
 unfold Lib.decodeN;rw[if_neg (by omega),if_pos ⟨by omega,by omega,by omega⟩,if_pos (by omega)]
theorem Cs(n b0 a b c:Nat)(h:224<=b0/\b0<=239)(g:3<=n)(d:128<=a/\a<=191)(e:128<=b/\b<=191)(f:b0=224->160<=a)(hb:b0=237->a<=159) :
  Lib.decodeN n b0 a b c=(b0 % 16*4096+a % 64*64+b % 64,3):=by
 unfold Lib.decodeN;rw[if_neg (by omega),if_neg (by omega),if_pos ⟨by omega,⟨by omega,by omega⟩,by omega,by omega⟩,if_pos (by omega)]
theorem Cq(n b0 a b c:Nat)(h:240<=b0/\b0<=244)(i:4<=n)(d:128<=a/\a<=191)(e:128<=b/\b<=191)(f:128<=c/\c<=191)(g:b0=240->144<=a)(hb:b0=244->a<=143) :
  Lib.decodeN n b0 a b c=(b0 % 8*262144+a % 64*4096+b % 64*64+c % 64,4):=by
 unfold Lib.decodeN;rw[if_neg (by omega),if_neg (by omega),if_neg (by omega),if_pos ⟨by omega,⟨by omega,by omega⟩,⟨by omega,by omega⟩,by omega,by omega⟩,if_pos (by omega)]
def Good(n b0 a b d k:Nat):Prop:=
 Lib.decodeN n b0 a b d=(yK ([b0,a,b,d].take k),k)/\k<=n/\k<=4/\∃c,c<=1114111/\[b0,a,b,d].take k=kQ c
theorem FH(n b0 a b c:Nat)(d:n≠0)(h:b0<128):Good n b0 a b c 1:=by
 refine⟨by rw[Cr _ _ _ _ _ h];rfl,by omega,by omega,b0,by omega,?_⟩;unfold kQ;rw[if_pos h];rfl
theorem FI(n b0 a b c:Nat)(h:194<=b0/\b0<=223)(e:2<=n)(d:128<=a/\a<=191):Good n b0 a b c 2:=by
 refine⟨?_,by omega,by omega,b0 % 32*64+a % 64,by omega,?_⟩
 ·rw[Ct _ _ _ _ _ h e d];show _=(yK [b0,a],2);rw[fM,Prod.mk.injEq];exact⟨by omega,rfl⟩
 ·show [b0,a]=_;unfold kQ;rw[if_neg (by omega),if_pos (by omega)];congr 1
  ·omega
  ·congr 1;omega
theorem Kn(n b0 a b c:Nat)(h:224<=b0/\b0<=239)(g:3<=n)(d:128<=a/\a<=191)(e:128<=b/\b<=191)(f:b0=224->160<=a)(hb:b0=237->a<=159):Good n b0 a b c 3:=by
 refine⟨?_,by omega,by omega,b0 % 16*4096+a % 64*64+b % 64,by omega,?_⟩
 ·rw[Cs _ _ _ _ _ h g d e f hb];show _=(yK [b0,a,b],3);rw[fO,Prod.mk.injEq];exact⟨by omega,rfl⟩
 ·show [b0,a,b]=_;unfold kQ;rw[if_neg (by omega),if_neg (by omega),if_pos (by omega)];congr 1
  ·omega
  ·congr 1
   ·omega
   ·congr 1;omega
theorem Km(n b0 a b c:Nat)(h:240<=b0/\b0<=244)(i:4<=n)(d:128<=a/\a<=191)(e:128<=b/\b<=191)(f:128<=c/\c<=191)(g:b0=240->144<=a)(hb:b0=244->a<=143):Good n b0 a b c 4:=by
 refine⟨?_,by omega,by omega,b0 % 8*262144+a % 64*4096+b % 64*64+c % 64,by omega,?_⟩
 ·rw[Cq _ _ _ _ _ h i d e f g hb];show _=(yK [b0,a,b,c],4);rw[fP,Prod.mk.injEq];exact⟨by omega,rfl⟩
 ·show [b0,a,b,c]=_;unfold kQ;rw[if_neg (by omega),if_neg (by omega),if_neg (by omega)];congr 1
  ·omega
  ·congr 1
   ·omega
   ·congr 1
    ·omega
    ·congr 1;omega
theorem Co(n b0 a b c:Nat)(d:n≠0)(e:b0<256)(h:Xr n b0 a b c=0):Lib.decodeN n b0 a b c=(65533,1):=by
 unfold Xr at h;rw[if_neg d] at h;unfold Lib.decodeN
 repeat' split at h
 all_goals first|(exfalso;omega)|skip
 all_goals repeat' split
 all_goals first|rfl|(exfalso;omega)
theorem IU(n b0 a b e:Nat)(f:n≠0)(h:Xr n b0 a b e≠0):Good n b0 a b e (Xr n b0 a b e):=by
 unfold Xr at h |-;rw[if_neg f] at h |-
 split at h
 ·rename_i c;rw[if_pos c];exact FH _ _ _ _ _ f c
 rename_i c0;rw[if_neg c0]
 split at h
 ·rename_i c;rw[if_pos c]
  split at h
  ·rename_i d;rw[if_pos d];exact FI _ _ _ _ _ c d.1 d.2
  ·exact absurd rfl h
 rename_i c1;rw[if_neg c1]
 split at h
 ·rename_i c;rw[if_pos c]
  split at h
  ·rename_i d;rw[if_pos d];exact Kn _ _ _ _ _ (by omega) d.1 (by omega) (by omega) (by omega) (by omega)
  ·exact absurd rfl h
 rename_i c2;rw[if_neg c2]
 split at h
 ·rename_i c;rw[if_pos c]
  split at h
  ·rename_i d;rw[if_pos d];exact Kn _ _ _ _ _ (by omega) d.1 (by omega) (by omega) (by omega) (by omega)
  ·exact absurd rfl h
 rename_i c3;rw[if_neg c3]
 split at h
 ·rename_i c;rw[if_pos c]
  split at h
  ·rename_i d;rw[if_pos d];exact Kn _ _ _ _ _ (by omega) d.1 (by omega) (by omega) (by omega) (by omega)
  ·exact absurd rfl h
 rename_i c4;rw[if_neg c4]
 split at h
 ·rename_i c;rw[if_pos c]
  split at h
  ·rename_i d;rw[if_pos d];exact Km _ _ _ _ _ (by omega) d.1 (by omega) (by omega) (by omega) (by omega) (by omega)
  ·exact absurd rfl h
 rename_i c5;rw[if_neg c5]
 split at h
 ·rename_i c;rw[if_pos c]
  split at h
  ·rename_i d;rw[if_pos d];exact Km _ _ _ _ _ (by omega) d.1 (by omega) (by omega) (by omega) (by omega) (by omega)
  ·exact absurd rfl h
 rename_i g;rw[if_neg g]
 split at h
 ·rename_i c;rw[if_pos c]
  split at h
  ·rename_i d;rw[if_pos d];exact Km _ _ _ _ _ (by omega) d.1 (by omega) (by omega) (by omega) (by omega) (by omega)
  ·exact absurd rfl h
 ·exact absurd rfl h
theorem ic(s:BA)(k:Nat):s.get! k=s.data.toList.getD k 0:=by
 obtain⟨⟨l⟩⟩:=s;show (Array.mk l)[k]! = _
 by_cases h:k<l.length
 ·simp[List.getD,h]
 ·simp[List.getD,h];rfl
theorem Tk(l:List UInt8)(k:Nat)(f:k<=4)(e:k<=l.length):(l.take k).map UInt8.toNat=[(l.getD 0 0).toNat,(l.getD 1 0).toNat,(l.getD 2 0).toNat,(l.getD 3 0).toNat].take k:=by
 obtain rfl|rfl|rfl|rfl|rfl:k=0\/k=1\/k=2\/k=3\/k=4:=by omega
 all_goals rcases l with _|⟨a,_|⟨b,_|⟨c,_|⟨d,l⟩⟩⟩⟩
 all_goals first|rfl|(simp at e)
theorem Mt(s:BA)(k:Nat):nums (s.extract 0 k)=(s.data.toList.take k).map UInt8.toNat:=by
 unfold nums;simp[ByteArray.data_extract]
theorem Y3(s:BA)(r:0<s.size) :
  (QE s=false/\Utf8.decode s 0=(65533,1)) \/
  (QE s=true/\kG (qf s)/\Utf8.decode s 0=(ja (qf s),(qf s).size)/\¬(ja (qf s)=65533/\(qf s).size=1)):=by
 have hd:=Lib.decode_at s 0;simp only[ic,Nat.sub_zero,Nat.zero_add] at hd;have b:=AY s.data.toList;have a:s.data.toList.length=s.size:=zz s;rw[a] at b
 by_cases h:yu s.data.toList=0
 ·left
  refine⟨by unfold QE;rw[h];rfl,?_⟩;rw[hd];exact Co _ _ _ _ _ (by omega) (UInt8.toNat_lt _) (b.symm.trans h)
 ·right
  have l:qf s=s.extract 0 (yu s.data.toList):=by unfold qf;rw[if_neg h]
  have j:=IU _ _ _ _ _ (by omega) (λe=>h (b.trans e));rw[<- b] at j;obtain⟨n,o,p,c,q,i⟩:=j
  have d:nums (qf s)=kQ c:=by
   rw[l,Mt,Tk _ _ p (by rw[a];exact o)];exact i
  have k:ja (qf s)=c:=by unfold ja;rw[d,Y2]
  have f:(qf s).size=yu s.data.toList:=by rw[l,ByteArray.size_extract];omega
  refine⟨by unfold QE;simp[h],⟨c,q,d⟩,?_,?_⟩
  ·rw[hd,n,k,f,i,Y2]
  ·rintro ⟨g,m⟩;rw[k] at g
   have:(nums (qf s)).length=1:=by unfold nums;rw[List.length_map,zz];exact m
   rw[d,g] at this;simp[kQ] at this
def qE(p:Int×BA):Int:=if p.1=3 then -2 else if p.1=2 then -1 else if p.1=4 then 0 else (ja p.2:Int)
def nameOf(p:Int×BA):BA:=if p.1=4 then p.2 else ⟨#[]⟩
def XX(u:BA):Nat:=u.data.toList.findIdx λc=>c.toNat==125
def ZF(u:BA):Bool:=decide (XX u<u.size)
def ZG(u:BA):BA:=if ZF u then u.extract 0 (XX u) else u
theorem Gi(l:List UInt8):Lib.index l [125]=if l.findIdx (λc=>c.toNat==125)<l.length then ((l.findIdx λc=>c.toNat==125:Nat):Int) else -1:=by
 induction l with
 | nil=>rfl
 | cons b l g=>
  unfold Lib.index;rw[g,List.findIdx_cons]
  have e:([125].isPrefixOf (b::l))=(b.toNat==125):=by
   simp only[List.isPrefixOf,Bool.and_true];rw[Bool.eq_iff_iff,beq_iff_eq,beq_iff_eq]
   constructor
   ·intro h;rw[<- h];rfl
   ·intro h;exact (UInt8.toNat_inj.1 (by rw[h];rfl)).symm
  rw[e]
  cases h:b.toNat==125 with
  | true=>simp
  | false=>
   simp only[Bool.false_eq_true,if_false,cond_false,List.length_cons];generalize l.findIdx (λc=>c.toNat==125)=f;generalize l.length=n
   by_cases hl:f<n
   ·have a:f+1<n+1:=by omega
    have d:((f:Int) == -1)=false:=by rw[beq_eq_false_iff_ne];omega
    simp[hl,a,d]
   ·have a:¬f+1<n+1:=by omega
    simp[hl,a]
theorem Cj(u:BA):(⟨(Lib.cut u.data.toList [125]).1.toArray⟩:BA)=ZG u/\(Lib.cut u.data.toList [125]).2.2=ZF u:=by
 have hi:=Gi u.data.toList;rw[zz] at hi;unfold ZG ZF XX
 by_cases h:u.data.toList.findIdx (λc=>c.toNat==125)<u.size
 ·rw[if_pos h] at hi;have a:=Lib.cutB_hit u ⟨#[125]⟩ _ hi;rw[decide_eq_true h,if_pos rfl];exact⟨a.1,a.2.2⟩
 ·rw[if_neg h] at hi;have a:=Lib.cutB_miss u ⟨#[125]⟩ hi;rw[decide_eq_false h,if_neg (by decide)];exact⟨a.1,a.2.2⟩
def kL(t:BA):Int×BA×Nat:=
 if t.size=0 then (0,⟨#[]⟩,0)
 else if (t.data.toList.getD 0 0).toNat=36\/(t.data.toList.getD 0 0).toNat=42\/(t.data.toList.getD 0 0).toNat=63 then ((t.data.toList.getD 0 0).toNat,⟨#[]⟩,2)
 else if (t.data.toList.getD 0 0).toNat=123 then
  (if ZF (t.extract 1 t.size) then (if zO (ZG (t.extract 1 t.size)) then (0,ZG (t.extract 1 t.size),2+(ZG (t.extract 1 t.size)).size+1) else (0,⟨#[]⟩,0)) else (0,⟨#[]⟩,0))
 else (0,⟨#[]⟩,0)
def XE(p:Option (Int×BA×Nat)):Int×BA×Nat:=match p with
 | none=>(0,⟨#[]⟩,0)
 | some (k,t,n)=>(qE (k,t),nameOf (k,t),n)
def Vj(s:BA):Option (Int×BA×Nat):=if (kM s).2.2=0 then none else some (kM s)
theorem Es(s:BA):(s.extract 1 s.size).data.toList=s.data.toList.drop 1:=Lib.ext_list s 1
theorem Et(s:BA)(k:Nat):(s.extract k s.size).extract 1 (s.extract k s.size).size=s.extract (k+1) s.size:=by
 rw[ByteArray.extract_extract,ByteArray.size_extract];have e:min (k+(min s.size s.size-k)) s.size=s.size\/s.size<=k:=by omega
 rcases e with e|e
 ·rw[e]
 ·have a:min (k+(min s.size s.size-k)) s.size=s.size:=by omega
  rw[a]
theorem Pn(s:BA)(k:Nat)(b:k<s.size):ja (s.extract k (k+1))=(s.data.toList.getD k 0).toNat:=by
 unfold ja nums
 have:(s.extract k (k+1)).data.toList=[s.data.toList.getD k 0]:=by
  have a:k<s.data.toList.length:=by rw[zz];exact b
  rw[ByteArray.data_extract,Array.toList_extract,List.getD_eq_getElem?_getD,List.getElem?_eq_getElem a];simp only[List.extract_eq_take_drop,Option.getD_some];rw[List.drop_eq_getElem_cons a]
  simp
 rw[this];simp only[List.map_cons,List.map_nil,fK]
theorem Dp(s:BA)(j:0<s.size):kL (s.extract 1 s.size)=XE (Vj s):=by
 have d:(s.extract 1 s.size).size=s.size-1:=by rw[ByteArray.size_extract];omega
 have f:(s.extract 1 s.size).data.toList.getD 0 0=s.data.toList.getD 1 0:=by
  rw[Es];simp
 unfold kL;rw[f,d];unfold Vj kM
 by_cases h2:s.size<2
 ·rw[if_pos (by omega),if_pos h2];rfl
 rw[if_neg (by omega),if_neg h2]
 by_cases h3:(s.data.toList.getD 1 0).toNat=36\/(s.data.toList.getD 1 0).toNat=42\/(s.data.toList.getD 1 0).toNat=63
 ·rw[if_pos h3,if_pos h3];show _=(qE (1,s.extract 1 2),nameOf (1,s.extract 1 2),2)
  have:qE (1,s.extract 1 2)=((s.data.toList.getD 1 0).toNat:Int):=by
   show ((ja (s.extract 1 2):Nat):Int)=_;rw[Pn s 1 (by omega)]
  rw[this];rfl
 rw[if_neg h3,if_neg h3]
 by_cases h4:(s.data.toList.getD 1 0).toNat=123
 ·rw[if_pos h4,if_pos h4]
  have i:(s.extract 1 s.size).extract 1 (s.size-1)=s.extract 2 s.size:=by
   have:=Et s 1;rw[d] at this;exact this
  rw[i];have g:(s.extract 2 s.size).data.toList=s.data.toList.drop 2:=Lib.ext_list s 2;have hb:vS s=2+XX (s.extract 2 s.size):=by unfold vS XX;rw[g]
  have a:(s.extract 2 s.size).size=s.size-2:=by rw[ByteArray.size_extract];omega
  by_cases hc:vS s<s.size
  ·have b:ZF (s.extract 2 s.size)=true:=by unfold ZF;rw[a];exact decide_eq_true (by omega)
   have h:ZG (s.extract 2 s.size)=s.extract 2 (vS s):=by
    unfold ZG;rw[b,if_pos rfl,ByteArray.extract_extract];have e:min (2+XX (s.extract 2 s.size)) s.size=vS s:=by rw[hb] at hc |-;omega
    rw[e]
   have c:(s.extract 2 (vS s)).size=vS s-2:=by rw[ByteArray.size_extract];omega
   rw[b,if_pos rfl,if_pos hc,h]
   by_cases hi:zO (s.extract 2 (vS s))=true
   ·rw[if_pos hi,if_pos hi];show _=(qE (4,_),nameOf (4,_),_);rw[c]
    have:2+(vS s-2)+1=vS s+1:=by omega
    rw[this];rfl
   ·rw[if_neg hi,if_neg hi];rfl
  ·have b:ZF (s.extract 2 s.size)=false:=by unfold ZF;rw[a];exact decide_eq_false (by omega)
   rw[b,if_neg (by decide),if_neg hc];rfl
 ·rw[if_neg h4,if_neg h4];rfl
theorem eD(s:BA)(c:0<s.size):(qf s).data.toList.getD 0 0=s.data.toList.getD 0 0:=by
 unfold qf;generalize b:(if yu s.data.toList=0 then 1 else yu s.data.toList)=k
 have d:1<=k:=by rw[<- b];split<;>omega
 obtain⟨⟨l⟩⟩:=s
 cases l with
 | nil=>exact absurd c (by decide)
 | cons a l=>
  obtain⟨j,rfl⟩:∃j,k=j+1:=⟨k-1,by omega⟩;simp[ByteArray.data_extract]
theorem UH(s:BA)(a:0<s.size)(c:UInt8)(h:(s.data.toList.getD 0 0).toNat≠c.toNat):((qf s).toList==[c])=false:=by
 rw[beq_eq_false_iff_ne];intro e;rw[Lib.toList_data] at e
 have:=eD s a
 rw[e] at this;apply h;rw[<- this];rfl
theorem UD(s:BA)(g:0<s.size)(c:UInt8)(j:c.toNat<128)(h:(s.data.toList.getD 0 0).toNat=c.toNat):(qf s).toList=[c]/\QE s=true/\(qf s).size=1:=by
 have d:yu s.data.toList=1:=by
  unfold yu;rw[zz,if_neg (by omega),if_pos (by omega)]
 have i:qf s=s.extract 0 1:=by unfold qf;rw[d];rfl
 have e:(qf s).size=1:=by rw[i,ByteArray.size_extract];omega
 refine⟨?_,by unfold QE;rw[d];rfl,e⟩;rw[Lib.toList_data];have b:=eD s g;have hlen:(qf s).data.toList.length=1:=by rw[zz];exact e
 obtain⟨a,f⟩:=List.length_eq_one_iff.1 hlen;rw[f] at b |-
 have:a=c:=UInt8.toNat_inj.1 (by rw[<- h,<- b];rfl)
 rw[this]
theorem RX(s:BA)(d:0<s.size)(h:(s.data.toList.getD 0 0).toNat=42):XE (xO s)=(-2,⟨#[]⟩,1):=by
 obtain⟨a,b,c⟩:=UD s d 42 (by decide) h
 have:xO s=some (3,qf s,1):=by
  unfold xO;rw[b,a,c];rfl
 rw[this];rfl
theorem RV(s:BA)(d:0<s.size)(h:(s.data.toList.getD 0 0).toNat=63):XE (xO s)=(-1,⟨#[]⟩,1):=by
 obtain⟨a,b,c⟩:=UD s d 63 (by decide) h
 have:xO s=some (2,qf s,1):=by
  unfold xO;rw[b,a,c];rfl
 rw[this];rfl
theorem RP(s:BA)(a:0<s.size)(h:(s.data.toList.getD 0 0).toNat=36):XE (xO s)=kL (s.extract 1 s.size):=by
 obtain⟨b,c,d⟩:=UD s a 36 (by decide) h
 have:xO s=Vj s:=by
  unfold xO Vj;rw[c,b];rfl
 rw[this,Dp s a]
theorem pU(s:BA)(a:0<s.size)(f:(s.data.toList.getD 0 0).toNat≠42)(g:(s.data.toList.getD 0 0).toNat≠63)(h:(s.data.toList.getD 0 0).toNat≠36) :
  (Utf8.decode s 0=(65533,1)/\XE (xO s)=(0,⟨#[]⟩,0)) \/
  (∃c n,c<=1114111/\Utf8.decode s 0=(c,n)/\¬(c=65533/\n=1)/\n<=s.size/\XE (xO s)=((c:Int),⟨#[]⟩,n)):=by
 have b:=UH s a 42 f;have d:=UH s a 63 g;have e:=UH s a 36 h
 rcases Y3 s a with ⟨ho,hd⟩|⟨ho,hc,hd,hn⟩
 ·left
  refine⟨hd,?_⟩
  have:xO s=none:=by unfold xO;rw[if_pos ho]
  rw[this];rfl
 ·right
  refine⟨_,_,rune_le _ hc,hd,hn,(YX s a).2,?_⟩
  have:xO s=some (1,qf s,(qf s).size):=by
   unfold xO;rw[ho,b,d,e];rfl
  rw[this];rfl
end Pg
end Go.Proofs.YtdakgnaojakldaaGreatDoor
namespace Go.Proofs.YtdakgnaojakldaaGreatDoor
open Go.Shelf
def Tryz.lays197_ren:Go.Shelf.Ren:=⟨λ|197=>237|260=>253|n=>n,λ|9=>9|21=>21|3=>3|4=>4|5=>5|105=>388|119=>324|0=>0|46=>321|139=>327|138=>326|n=>n,λ|3=>2|4=>3|n=>n⟩
theorem Tryz.lays197:Go.Proofs.Lays.n197 prog Tryz.lays197_ren:={
 mixed:=by kernel_rfl
 f197:=func237.trans (congrArg some (by kernel_rfl))
 f260:=func253.trans (congrArg some (by kernel_rfl))
 t0:=underlying0
 a0:=Tryz.isAgg0
 z0:=Tryz.sizeOf0
 v0:=Tryz.zeroValue0
 t3:=underlying3
 a3:=Tryz.isAgg3
 z3:=Tryz.sizeOf3
 v3:=Tryz.zeroValue3
 t4:=underlying4
 a4:=Tryz.isAgg4
 z4:=Tryz.sizeOf4
 v4:=Tryz.zeroValue4
 t5:=underlying5
 a5:=Tryz.isAgg5
 z5:=Tryz.sizeOf5
 v5:=Tryz.zeroValue5
 t9:=underlying9
 a9:=Tryz.isAgg9
 z9:=Tryz.sizeOf9
 v9:=Tryz.zeroValue9
 t21:=underlying21
 a21:=Tryz.isAgg21
 z21:=Tryz.sizeOf21
 v21:=Tryz.zeroValue21
 t46:=underlying321
 a46:=Tryz.isAgg321
 z46:=Tryz.sizeOf321
 v46:=Tryz.zeroValue321
 t105:=underlying388
 a105:=Tryz.isAgg388
 z105:=Tryz.sizeOf388
 v105:=Tryz.zeroValue388
 t119:=underlying324
 a119:=Tryz.isAgg324
 z119:=Tryz.sizeOf324
 t138:=underlying326
 a138:=Tryz.isAgg326
 z138:=Tryz.sizeOf326
 v138:=Tryz.zeroValue326
 t139:=underlying327
 a139:=Tryz.isAgg327
 z139:=Tryz.sizeOf327
 v139:=Tryz.zeroValue327
 g3:=by kernel_rfl
 g4:=by kernel_rfl }
def Tryz.lays145_ren:Go.Shelf.Ren:=⟨λ|145=>252|220=>261|219=>267|217=>268|225=>269|224=>270|267=>271|266=>272|314=>273|n=>n,λ|9=>9|4=>4|59=>403|3=>3|5=>5|46=>321|146=>416|51=>398|n=>n,λ|1=>4|n=>n⟩
theorem Tryz.lays145:Go.Proofs.Lays.n145 prog Tryz.lays145_ren:={
 mixed:=by kernel_rfl
 f145:=func252.trans (congrArg some (by kernel_rfl))
 f217:=func268.trans (congrArg some (by kernel_rfl))
 f219:=func267.trans (congrArg some (by kernel_rfl))
 f220:=func261.trans (congrArg some (by kernel_rfl))
 f224:=func270.trans (congrArg some (by kernel_rfl))
 f225:=func269.trans (congrArg some (by kernel_rfl))
 f266:=func272.trans (congrArg some (by kernel_rfl))
 f267:=func271.trans (congrArg some (by kernel_rfl))
 f314:=func273.trans (congrArg some (by kernel_rfl))
 t3:=underlying3
 a3:=Tryz.isAgg3
 z3:=Tryz.sizeOf3
 v3:=Tryz.zeroValue3
 t4:=underlying4
 a4:=Tryz.isAgg4
 z4:=Tryz.sizeOf4
 v4:=Tryz.zeroValue4
 t5:=underlying5
 a5:=Tryz.isAgg5
 z5:=Tryz.sizeOf5
 v5:=Tryz.zeroValue5
 t9:=underlying9
 a9:=Tryz.isAgg9
 z9:=Tryz.sizeOf9
 v9:=Tryz.zeroValue9
 t46:=underlying321
 a46:=Tryz.isAgg321
 z46:=Tryz.sizeOf321
 v46:=Tryz.zeroValue321
 t51:=underlying398
 a51:=Tryz.isAgg398
 z51:=Tryz.sizeOf398
 v51:=Tryz.zeroValue398
 t59:=underlying403
 a59:=Tryz.isAgg403
 z59:=Tryz.sizeOf403
 v59:=Tryz.zeroValue403
 t146:=underlying416
 a146:=Tryz.isAgg416
 z146:=Tryz.sizeOf416
 v146:=Tryz.zeroValue416
 g1:=by kernel_rfl }
def Tryz.lays196_ren:Go.Shelf.Ren:=⟨λ|196=>139|259=>187|n=>n,λ|9=>9|4=>4|3=>3|5=>5|12=>12|119=>324|0=>0|46=>321|139=>327|138=>326|53=>376|n=>n,λ|3=>2|4=>3|n=>n⟩
theorem Tryz.lays196:Go.Proofs.Lays.n196 prog Tryz.lays196_ren:={
 mixed:=by kernel_rfl
 f196:=func139.trans (congrArg some (by kernel_rfl))
 f259:=func187.trans (congrArg some (by kernel_rfl))
 t0:=underlying0
 a0:=Tryz.isAgg0
 z0:=Tryz.sizeOf0
 v0:=Tryz.zeroValue0
 t3:=underlying3
 a3:=Tryz.isAgg3
 z3:=Tryz.sizeOf3
 v3:=Tryz.zeroValue3
 t4:=underlying4
 a4:=Tryz.isAgg4
 z4:=Tryz.sizeOf4
 v4:=Tryz.zeroValue4
 t5:=underlying5
 a5:=Tryz.isAgg5
 z5:=Tryz.sizeOf5
 v5:=Tryz.zeroValue5
 t9:=underlying9
 a9:=Tryz.isAgg9
 z9:=Tryz.sizeOf9
 v9:=Tryz.zeroValue9
 t12:=underlying12
 a12:=Tryz.isAgg12
 z12:=Tryz.sizeOf12
 v12:=Tryz.zeroValue12
 t46:=underlying321
 a46:=Tryz.isAgg321
 z46:=Tryz.sizeOf321
 v46:=Tryz.zeroValue321
 t53:=underlying376
 a53:=Tryz.isAgg376
 z53:=Tryz.sizeOf376
 v53:=Tryz.zeroValue376
 t119:=underlying324
 a119:=Tryz.isAgg324
 z119:=Tryz.sizeOf324
 t138:=underlying326
 a138:=Tryz.isAgg326
 z138:=Tryz.sizeOf326
 v138:=Tryz.zeroValue326
 t139:=underlying327
 a139:=Tryz.isAgg327
 z139:=Tryz.sizeOf327
 v139:=Tryz.zeroValue327
 g3:=by kernel_rfl
 g4:=by kernel_rfl }
end Go.Proofs.YtdakgnaojakldaaGreatDoor
