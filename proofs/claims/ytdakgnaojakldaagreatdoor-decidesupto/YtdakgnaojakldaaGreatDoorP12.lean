/- P -/
import Derived.Test.YtdakgnaojakldaaGreatDoorP11
import Derived.Lib.DecodeN
import Derived.Lib.Strings
import Derived.Lib.CutLaws
import Derived.Lib.ValidAsc
import Derived.Shelf.Unicode.DecodeAny
import Derived.Shelf.Strings.Cut
open Go.Proofs.Tryz
set_option maxRecDepth 100000
set_option maxHeartbeats 4000000
namespace Go.Proofs.YtdakgnaojakldaaGreatDoor
namespace Pg
open Ref
def QL(c:Nat):List Nat:=
 if c<128 then [c]
 else if c<2048 then [192+c / 64,128+c % 64]
 else if c<65536 then [224+c / 4096,128+c / 64 % 64,128+c % 64]
 else [240+c / 262144,128+c / 4096 % 64,128+c / 64 % 64,128+c % 64]
def jL(l:List Nat):Nat:=
 if l.length=1 then l.getD 0 0
 else if l.length=2 then (l.getD 0 0-192)*64+(l.getD 1 0-128)
 else if l.length=3 then (l.getD 0 0-224)*4096+(l.getD 1 0-128)*64+(l.getD 2 0-128)
 else (l.getD 0 0-240)*262144+(l.getD 1 0-128)*4096+(l.getD 2 0-128)*64+(l.getD 3 0-128)
theorem oQ(a:Nat):jL [a]=a:=by
 simp[jL]
theorem oU(a b:Nat):jL [a,b]=(a-192)*64+(b-128):=by
 simp[jL]
theorem oW(a b c:Nat):jL [a,b,c]=(a-224)*4096+(b-128)*64+(c-128):=by
 simp[jL]
theorem oZ(a b c d:Nat):jL [a,b,c,d]=(a-240)*262144+(b-128)*4096+(c-128)*64+(d-128):=by
 simp[jL]
theorem Ui(c:Nat):jL (QL c)=c:=by
 unfold QL
 by_cases h1:c<128
 ·rw[zb h1,oQ]
 by_cases h2:c<2048
 ·rw[za h1,zb h2,oU];omega
 by_cases h3:c<65536
 ·rw[za h1,za h2,zb h3,oW];omega
 ·rw[za h1,za h2,za h3,oZ];omega
def nums(t:BY):List Nat:=t.data.toList.map UInt8.toNat
def vO(t:BY):Nat:=jL (nums t)
def Qx(t:BY):Prop:=∃c,c<=1114111/\nums t=QL c
theorem Tx(s t:BY)(h:nums s=nums t):s.toList=t.toList:=by
 rw[Lib.toList_data,Lib.toList_data];unfold nums at h;exact (List.map_inj_right (λa b e=>Kn.1 e)).1 h
theorem zaM(s t:BY)(i:Qx s)(j:Qx t):(s.toList==t.toList)=decide (vO s=vO t):=by
 obtain⟨c,_,e⟩:=i;obtain⟨d,_,f⟩:=j;have a:vO s=c:=by unfold vO;rw[e,Ui]
 have b:vO t=d:=by unfold vO;rw[f,Ui]
 rw[a,b]
 by_cases h:c=d
 ·subst h
  have:=Tx s t (e.trans f.symm)
  rw[this];simp
 ·have:s.toList≠t.toList:=by
   intro g;apply h;rw[<- a,<- b];unfold vO nums;rw[<- Lib.toList_data,<- Lib.toList_data,g]
  simp[this,h]
theorem rune_le(t:BY)(h:Qx t):vO t<=1114111:=by
 obtain⟨c,a,e⟩:=h;unfold vO;rw[e,Ui];exact a
def Jt(n b0 a b c:Nat):Nat:=
 if n=0 then 0
 else if b0<128 then 1
 else if 194<=b0/\b0<=223 then (if 2<=n/\128<=a/\a<=191 then 2 else 0)
 else if b0=224 then (if 3<=n/\160<=a/\a<=191/\128<=b/\b<=191 then 3 else 0)
 else if b0=237 then (if 3<=n/\128<=a/\a<=159/\128<=b/\b<=191 then 3 else 0)
 else if 225<=b0/\b0<=239 then (if 3<=n/\128<=a/\a<=191/\128<=b/\b<=191 then 3 else 0)
 else if b0=240 then (if 4<=n/\144<=a/\a<=191/\128<=b/\b<=191/\128<=c/\c<=191 then 4 else 0)
 else if 241<=b0/\b0<=243 then (if 4<=n/\128<=a/\a<=191/\128<=b/\b<=191/\128<=c/\c<=191 then 4 else 0)
 else if b0=244 then (if 4<=n/\128<=a/\a<=143/\128<=b/\b<=191/\128<=c/\c<=191 then 4 else 0)
 else 0
theorem oL(l:List UInt8)(lo hi:Int):jK l lo hi 1=decide (lo<=((l.getD 1 0).toNat:Int)/\((l.getD 1 0).toNat:Int)<=hi):=by
 simp[jK,List.range_succ]
theorem oM(l:List UInt8)(lo hi:Int):jK l lo hi 2=(decide (lo<=((l.getD 1 0).toNat:Int)/\((l.getD 1 0).toNat:Int)<=hi)&&decide (128<=(l.getD 2 0).toNat/\(l.getD 2 0).toNat<=191)):=by
 rw[Kz,oL];simp
theorem Hy(l:List UInt8)(lo hi:Int):jK l lo hi 3=(decide (lo<=((l.getD 1 0).toNat:Int)/\((l.getD 1 0).toNat:Int)<=hi)&&decide (128<=(l.getD 2 0).toNat/\(l.getD 2 0).toNat<=191)&&decide (128<=(l.getD 3 0).toNat/\(l.getD 3 0).toNat<=191)):=by
 rw[Kz,oM];simp
theorem dN(l:List UInt8)(n lo hi:Int)(a:l.length≠0)(h:¬(l.getD 0 0).toNat<128)(b:zU ((l.getD 0 0).toNat:Int)=(n,lo,hi)) :
  xh l=if n=0 then 0 else if (l.length:Int)<n+1 then 0 else if jK l lo hi n.toNat then n.toNat+1 else 0:=by
 unfold xh;rw[za a,za h,b]
theorem FZ(l:List UInt8)(lo hi:Nat)(a:l.length≠0)(h:¬(l.getD 0 0).toNat<128)(b:zU ((l.getD 0 0).toNat:Int)=(1,(lo:Int),(hi:Int))) :
  xh l=if 2<=l.length/\lo<=(l.getD 1 0).toNat/\(l.getD 1 0).toNat<=hi then 2 else 0:=by
 rw[dN l _ _ _ a h b,za (by decide),show (1:Int).toNat=1 from rfl,oL]
 generalize (l.getD 1 0).toNat=b1
 by_cases c:2<=l.length/\lo<=b1/\b1<=hi
 ·rw[zb c,za (by omega),zb (by simp;omega)]
 ·rw[za c]
  by_cases d:(l.length:Int)<1+1
  ·rw[zb d]
  ·rw[za d,za (by simp;omega)]
theorem dL(l:List UInt8)(lo hi:Nat)(a:l.length≠0)(h:¬(l.getD 0 0).toNat<128)(b:zU ((l.getD 0 0).toNat:Int)=(2,(lo:Int),(hi:Int))) :
  xh l=if 3<=l.length/\lo<=(l.getD 1 0).toNat/\(l.getD 1 0).toNat<=hi/\128<=(l.getD 2 0).toNat/\(l.getD 2 0).toNat<=191 then 3 else 0:=by
 rw[dN l _ _ _ a h b,za (by decide),show (2:Int).toNat=2 from rfl,oM]
 generalize (l.getD 1 0).toNat=b1;generalize (l.getD 2 0).toNat=b2
 by_cases c:3<=l.length/\lo<=b1/\b1<=hi/\128<=b2/\b2<=191
 ·rw[zb c,za (by omega),zb (by simp;omega)]
 ·rw[za c]
  by_cases d:(l.length:Int)<2+1
  ·rw[zb d]
  ·rw[za d,za (by simp;omega)]
theorem dM(l:List UInt8)(lo hi:Nat)(a:l.length≠0)(h:¬(l.getD 0 0).toNat<128)(b:zU ((l.getD 0 0).toNat:Int)=(3,(lo:Int),(hi:Int))) :
  xh l=if 4<=l.length/\lo<=(l.getD 1 0).toNat/\(l.getD 1 0).toNat<=hi/\128<=(l.getD 2 0).toNat/\(l.getD 2 0).toNat<=191/\128<=(l.getD 3 0).toNat/\(l.getD 3 0).toNat<=191 then 4 else 0:=by
 rw[dN l _ _ _ a h b,za (by decide),show (3:Int).toNat=3 from rfl,Hy]
 generalize (l.getD 1 0).toNat=b1;generalize (l.getD 2 0).toNat=b2;generalize (l.getD 3 0).toNat=b3
 by_cases c:4<=l.length/\lo<=b1/\b1<=hi/\128<=b2/\b2<=191/\128<=b3/\b3<=191
 ·rw[zb c,za (by omega),zb (by simp;omega)]
 ·rw[za c]
  by_cases d:(l.length:Int)<3+1
  ·rw[zb d]
  ·rw[za d,za (by simp;omega)]
theorem Ga(l:List UInt8):xh l=Jt l.length (l.getD 0 0).toNat (l.getD 1 0).toNat (l.getD 2 0).toNat (l.getD 3 0).toNat:=by
 unfold Jt
 by_cases hl:l.length=0
 ·rw[zb hl];unfold xh;rw[zb hl]
 rw[za hl]
 by_cases h:(l.getD 0 0).toNat<128
 ·rw[zb h];unfold xh;rw[za hl,zb h]
 rw[za h]
 by_cases c1:194<=(l.getD 0 0).toNat/\(l.getD 0 0).toNat<=223
 ·rw[zb c1];exact FZ l 128 191 hl h (by unfold zU;rw[zb (by omega)];rfl)
 rw[za c1]
 by_cases c2:(l.getD 0 0).toNat=224
 ·rw[zb c2];exact dL l 160 191 hl h (by unfold zU;rw[za (by omega),zb (by omega)];rfl)
 rw[za c2]
 by_cases c3:(l.getD 0 0).toNat=237
 ·rw[zb c3];exact dL l 128 159 hl h (by unfold zU;rw[za (by omega),za (by omega),zb (by omega)];rfl)
 rw[za c3]
 by_cases c4:225<=(l.getD 0 0).toNat/\(l.getD 0 0).toNat<=239
 ·rw[zb c4];exact dL l 128 191 hl h (by unfold zU;rw[za (by omega),za (by omega),za (by omega),zb (by omega)];rfl)
 rw[za c4]
 by_cases c5:(l.getD 0 0).toNat=240
 ·rw[zb c5];exact dM l 144 191 hl h (by unfold zU;rw[za (by omega),za (by omega),za (by omega),za (by omega),zb (by omega)];rfl)
 rw[za c5]
 by_cases c6:241<=(l.getD 0 0).toNat/\(l.getD 0 0).toNat<=243
 ·rw[zb c6];exact dM l 128 191 hl h (by unfold zU;rw[za (by omega),za (by omega),za (by omega),za (by omega),za (by omega),zb (by omega)];rfl)
 rw[za c6]
 by_cases c7:(l.getD 0 0).toNat=244
 ·rw[zb c7];exact dM l 128 143 hl h (by unfold zU;rw[za (by omega),za (by omega),za (by omega),za (by omega),za (by omega),za (by omega),zb (by omega)];rfl)
 rw[za c7];unfold xh;rw[za hl,za h,zb];unfold zU;rw[za (by omega),za (by omega),za (by omega),za (by omega),za (by omega),za (by omega),za (by omega)]
theorem Iu(n b0 a b c:Nat)(h:b0<128):Lib.decodeN n b0 a b c=(b0,1):=by
 unfold Lib.decodeN;rw[zb h]
theorem Iy(n b0 a b c:Nat)(h:194<=b0/\b0<=223)(e:2<=n)(d:128<=a/\a<=191):Lib.decodeN n b0 a b c=(b0 % 32*64+a % 64,2):=by
 unfold Lib.decodeN;rw[za (by omega),zb ⟨by omega,by omega,by omega⟩,zb (by omega)]
theorem Iw(n b0 a b c:Nat)(h:224<=b0/\b0<=239)(g:3<=n)(d:128<=a/\a<=191)(e:128<=b/\b<=191)(f:b0=224->160<=a)(hb:b0=237->a<=159) :
  Lib.decodeN n b0 a b c=(b0 % 16*4096+a % 64*64+b % 64,3):=by
 unfold Lib.decodeN;rw[za (by omega),za (by omega),zb ⟨by omega,⟨by omega,by omega⟩,by omega,by omega⟩,zb (by omega)]
theorem Ir(n b0 a b c:Nat)(h:240<=b0/\b0<=244)(i:4<=n)(d:128<=a/\a<=191)(e:128<=b/\b<=191)(f:128<=c/\c<=191)(g:b0=240->144<=a)(hb:b0=244->a<=143) :
  Lib.decodeN n b0 a b c=(b0 % 8*262144+a % 64*4096+b % 64*64+c % 64,4):=by
 unfold Lib.decodeN;rw[za (by omega),za (by omega),za (by omega),zb ⟨by omega,⟨by omega,by omega⟩,⟨by omega,by omega⟩,by omega,by omega⟩,zb (by omega)]
def Good(n b0 a b d k:Nat):Prop:=
 Lib.decodeN n b0 a b d=(jL ([b0,a,b,d].take k),k)/\k<=n/\k<=4/\∃c,c<=1114111/\[b0,a,b,d].take k=QL c
theorem NJ(n b0 a b c:Nat)(d:n≠0)(h:b0<128):Good n b0 a b c 1:=by
 refine⟨by rw[Iu _ _ _ _ _ h];rfl,by omega,by omega,b0,by omega,?_⟩;unfold QL;rw[zb h];rfl
theorem NK(n b0 a b c:Nat)(h:194<=b0/\b0<=223)(e:2<=n)(d:128<=a/\a<=191):Good n b0 a b c 2:=by
 refine⟨?_,by omega,by omega,b0 % 32*64+a % 64,by omega,?_⟩
 ·rw[Iy _ _ _ _ _ h e d];show _=(jL [b0,a],2);rw[oU,Prod.mk.injEq];exact⟨by omega,rfl⟩
 ·show [b0,a]=_;unfold QL;rw[za (by omega),zb (by omega)];congr 1
  ·omega
  ·congr 1;omega
theorem fF(n b0 a b c:Nat)(h:224<=b0/\b0<=239)(g:3<=n)(d:128<=a/\a<=191)(e:128<=b/\b<=191)(f:b0=224->160<=a)(hb:b0=237->a<=159):Good n b0 a b c 3:=by
 refine⟨?_,by omega,by omega,b0 % 16*4096+a % 64*64+b % 64,by omega,?_⟩
 ·rw[Iw _ _ _ _ _ h g d e f hb];show _=(jL [b0,a,b],3);rw[oW,Prod.mk.injEq];exact⟨by omega,rfl⟩
 ·show [b0,a,b]=_;unfold QL;rw[za (by omega),za (by omega),zb (by omega)];congr 1
  ·omega
  ·congr 1
   ·omega
   ·congr 1;omega
theorem fE(n b0 a b c:Nat)(h:240<=b0/\b0<=244)(i:4<=n)(d:128<=a/\a<=191)(e:128<=b/\b<=191)(f:128<=c/\c<=191)(g:b0=240->144<=a)(hb:b0=244->a<=143):Good n b0 a b c 4:=by
 refine⟨?_,by omega,by omega,b0 % 8*262144+a % 64*4096+b % 64*64+c % 64,by omega,?_⟩
 ·rw[Ir _ _ _ _ _ h i d e f g hb];show _=(jL [b0,a,b,c],4);rw[oZ,Prod.mk.injEq];exact⟨by omega,rfl⟩
 ·show [b0,a,b,c]=_;unfold QL;rw[za (by omega),za (by omega),za (by omega)];congr 1
  ·omega
  ·congr 1
   ·omega
   ·congr 1
    ·omega
    ·congr 1;omega
theorem Iq(n b0 a b c:Nat)(d:n≠0)(e:b0<256)(h:Jt n b0 a b c=0):Lib.decodeN n b0 a b c=(65533,1):=by
 unfold Jt at h;rw[za d] at h;unfold Lib.decodeN
 repeat' split at h
 all_goals first|(exfalso;omega)|skip
 all_goals repeat' split
 all_goals first|rfl|(exfalso;omega)
theorem RP(n b0 a b e:Nat)(f:n≠0)(h:Jt n b0 a b e≠0):Good n b0 a b e (Jt n b0 a b e):=by
 unfold Jt at h |-;rw[za f] at h |-
 split at h
 ·rename_i c;rw[zb c];exact NJ _ _ _ _ _ f c
 rename_i c0;rw[za c0]
 split at h
 ·rename_i c;rw[zb c]
  split at h
  ·rename_i d;rw[zb d];exact NK _ _ _ _ _ c d.1 d.2
  ·exact absurd rfl h
 rename_i c1;rw[za c1]
 split at h
 ·rename_i c;rw[zb c]
  split at h
  ·rename_i d;rw[zb d];exact fF _ _ _ _ _ (by omega) d.1 (by omega) (by omega) (by omega) (by omega)
  ·exact absurd rfl h
 rename_i c2;rw[za c2]
 split at h
 ·rename_i c;rw[zb c]
  split at h
  ·rename_i d;rw[zb d];exact fF _ _ _ _ _ (by omega) d.1 (by omega) (by omega) (by omega) (by omega)
  ·exact absurd rfl h
 rename_i c3;rw[za c3]
 split at h
 ·rename_i c;rw[zb c]
  split at h
  ·rename_i d;rw[zb d];exact fF _ _ _ _ _ (by omega) d.1 (by omega) (by omega) (by omega) (by omega)
  ·exact absurd rfl h
 rename_i c4;rw[za c4]
 split at h
 ·rename_i c;rw[zb c]
  split at h
  ·rename_i d;rw[zb d];exact fE _ _ _ _ _ (by omega) d.1 (by omega) (by omega) (by omega) (by omega) (by omega)
  ·exact absurd rfl h
 rename_i c5;rw[za c5]
 split at h
 ·rename_i c;rw[zb c]
  split at h
  ·rename_i d;rw[zb d];exact fE _ _ _ _ _ (by omega) d.1 (by omega) (by omega) (by omega) (by omega) (by omega)
  ·exact absurd rfl h
 rename_i g;rw[za g]
 split at h
 ·rename_i c;rw[zb c]
  split at h
  ·rename_i d;rw[zb d];exact fE _ _ _ _ _ (by omega) d.1 (by omega) (by omega) (by omega) (by omega) (by omega)
  ·exact absurd rfl h
 ·exact absurd rfl h
theorem rX(s:BY)(k:Nat):s.get! k=s.data.toList.getD k 0:=by
 obtain⟨⟨l⟩⟩:=s;show (Array.mk l)[k]! = _
 by_cases h:k<l.length
 ·simp[List.getD,h]
 ·simp[List.getD,h];rfl
theorem zcw(l:List UInt8)(k:Nat)(f:k<=4)(e:k<=l.length):(l.take k).map UInt8.toNat=[(l.getD 0 0).toNat,(l.getD 1 0).toNat,(l.getD 2 0).toNat,(l.getD 3 0).toNat].take k:=by
 obtain rfl|rfl|rfl|rfl|rfl:k=0\/k=1\/k=2\/k=3\/k=4:=by omega
 all_goals rcases l with _|⟨a,_|⟨b,_|⟨c,_|⟨d,l⟩⟩⟩⟩
 all_goals first|rfl|(simp at e)
theorem Tw(s:BY)(k:Nat):nums (s.extract 0 k)=(s.data.toList.take k).map UInt8.toNat:=by
 unfold nums;simp[ByteArray.data_extract]
theorem Uk(s:BY)(t:0<s.size) :
  (vY s=false/\Utf8.decode s 0=(65533,1)) \/
  (vY s=true/\Qx (zZ s)/\Utf8.decode s 0=(vO (zZ s),(zZ s).size)/\¬(vO (zZ s)=65533/\(zZ s).size=1)):=by
 have d:=Lib.decode_at s 0;simp only[rX,Nat.sub_zero,qN] at d;have b:=Ga s.data.toList;have a:s.data.toList.length=s.size:=zD s;rw[a] at b
 by_cases h:xh s.data.toList=0
 ·left
  refine⟨by unfold vY;rw[h];rfl,?_⟩;rw[d];exact Iq _ _ _ _ _ (by omega) (UInt8.toNat_lt _) (b.symm.trans h)
 ·right
  have m:zZ s=s.extract 0 (xh s.data.toList):=by unfold zZ;rw[za h]
  have k:=RP _ _ _ _ _ (by omega) (λe=>h (b.trans e));rw[<- b] at k;obtain⟨o,p,q,c,r,j⟩:=k
  have f:nums (zZ s)=QL c:=by
   rw[m,Tw,zcw _ _ q (by rw[a];exact p)];exact j
  have l:vO (zZ s)=c:=by unfold vO;rw[f,Ui]
  have g:(zZ s).size=xh s.data.toList:=by rw[m,yz];omega
  refine⟨by unfold vY;simp[h],⟨c,r,f⟩,?_,?_⟩
  ·rw[d,o,l,g,j,Ui]
  ·rintro ⟨i,n⟩;rw[l] at i
   have:(nums (zZ s)).length=1:=by unfold nums;rw[qH,zD];exact n
   rw[f,i] at this;simp[QL] at this
def xq(p:Int×BY):Int:=if p.1=3 then -2 else if p.1=2 then -1 else if p.1=4 then 0 else (vO p.2:Int)
def nameOf(p:Int×BY):BY:=if p.1=4 then p.2 else ⟨#[]⟩
def J6(u:BY):Nat:=u.data.toList.findIdx λc=>c.toNat==125
def Xn(u:BY):Bool:=decide (J6 u<u.size)
def Xo(u:BY):BY:=if Xn u then u.extract 0 (J6 u) else u
theorem OC(l:List UInt8):Lib.index l [125]=if l.findIdx (λc=>c.toNat==125)<l.length then ((l.findIdx λc=>c.toNat==125:Nat):Int) else -1:=by
 induction l with
 | nil=>rfl
 | cons b l g=>
  unfold Lib.index;rw[g,List.findIdx_cons]
  have e:([125].isPrefixOf (b::l))=(b.toNat==125):=by
   simp only[List.isPrefixOf,Y0];rw[kL,vJ,vJ]
   constructor
   ·intro h;rw[<- h];rfl
   ·intro h;exact (Kn.1 (by rw[h];rfl)).symm
  rw[e]
  cases h:b.toNat==125 with
  | true=>simp
  | false=>
   simp only[yu,xV,cond_false,QC];generalize l.findIdx (λc=>c.toNat==125)=f;generalize l.length=n
   by_cases hl:f<n
   ·have a:f+1<n+1:=by omega
    have d:((f:Int) == -1)=false:=by rw[qP];omega
    simp[hl,a,d]
   ·have a:¬f+1<n+1:=by omega
    simp[hl,a]
theorem Ip(u:BY):(⟨(Lib.cut u.data.toList [125]).1.toArray⟩:BY)=Xo u/\(Lib.cut u.data.toList [125]).2.2=Xn u:=by
 have hi:=OC u.data.toList;rw[zD] at hi;unfold Xo Xn J6
 by_cases h:u.data.toList.findIdx (λc=>c.toNat==125)<u.size
 ·rw[zb h] at hi;have a:=Lib.cutB_hit u ⟨#[125]⟩ _ hi;rw[zy h,zb rfl];exact⟨a.1,a.2.2⟩
 ·rw[za h] at hi;have a:=Lib.cutB_miss u ⟨#[125]⟩ hi;rw[zJ h,za (by decide)];exact⟨a.1,a.2.2⟩
def QJ(t:BY):Int×BY×Nat:=
 if t.size=0 then (0,⟨#[]⟩,0)
 else if (t.data.toList.getD 0 0).toNat=36\/(t.data.toList.getD 0 0).toNat=42\/(t.data.toList.getD 0 0).toNat=63 then ((t.data.toList.getD 0 0).toNat,⟨#[]⟩,2)
 else if (t.data.toList.getD 0 0).toNat=123 then
  (if Xn (t.extract 1 t.size) then (if zX (Xo (t.extract 1 t.size)) then (0,Xo (t.extract 1 t.size),2+(Xo (t.extract 1 t.size)).size+1) else (0,⟨#[]⟩,0)) else (0,⟨#[]⟩,0))
 else (0,⟨#[]⟩,0)
def JC(p:Option (Int×BY×Nat)):Int×BY×Nat:=match p with
 | none=>(0,⟨#[]⟩,0)
 | some (k,t,n)=>(xq (k,t),nameOf (k,t),n)
def KH(s:BY):Option (Int×BY×Nat):=if (xH s).2.2=0 then none else some (xH s)
theorem MJ(s:BY):(s.extract 1 s.size).data.toList=s.data.toList.drop 1:=Lib.ext_list s 1
theorem MK(s:BY)(k:Nat):(s.extract k s.size).extract 1 (s.extract k s.size).size=s.extract (k+1) s.size:=by
 rw[bG,yz];have e:min (k+(min s.size s.size-k)) s.size=s.size\/s.size<=k:=by omega
 rcases e with e|e
 ·rw[e]
 ·have a:min (k+(min s.size s.size-k)) s.size=s.size:=by omega
  rw[a]
theorem zaK(s:BY)(k:Nat)(b:k<s.size):vO (s.extract k (k+1))=(s.data.toList.getD k 0).toNat:=by
 unfold vO nums
 have:(s.extract k (k+1)).data.toList=[s.data.toList.getD k 0]:=by
  have a:k<s.data.toList.length:=by rw[zD];exact b
  rw[VK,bu,zQ,zm a];simp only[lT,yB];rw[jf a]
  simp
 rw[this];simp only[yK,kQ,oQ]
theorem Ll(s:BY)(j:0<s.size):QJ (s.extract 1 s.size)=JC (KH s):=by
 have d:(s.extract 1 s.size).size=s.size-1:=by rw[yz];omega
 have f:(s.extract 1 s.size).data.toList.getD 0 0=s.data.toList.getD 1 0:=by
  rw[MJ];simp
 unfold QJ;rw[f,d];unfold KH xH
 by_cases h2:s.size<2
 ·rw[zb (by omega),zb h2];rfl
 rw[za (by omega),za h2]
 by_cases h3:(s.data.toList.getD 1 0).toNat=36\/(s.data.toList.getD 1 0).toNat=42\/(s.data.toList.getD 1 0).toNat=63
 ·rw[zb h3,zb h3];show _=(xq (1,s.extract 1 2),nameOf (1,s.extract 1 2),2)
  have:xq (1,s.extract 1 2)=((s.data.toList.getD 1 0).toNat:Int):=by
   show ((vO (s.extract 1 2):Nat):Int)=_;rw[zaK s 1 (by omega)]
  rw[this];rfl
 rw[za h3,za h3]
 by_cases h4:(s.data.toList.getD 1 0).toNat=123
 ·rw[zb h4,zb h4]
  have i:(s.extract 1 s.size).extract 1 (s.size-1)=s.extract 2 s.size:=by
   have:=MK s 1;rw[d] at this;exact this
  rw[i];have g:(s.extract 2 s.size).data.toList=s.data.toList.drop 2:=Lib.ext_list s 2;have hb:xZ s=2+J6 (s.extract 2 s.size):=by unfold xZ J6;rw[g]
  have a:(s.extract 2 s.size).size=s.size-2:=by rw[yz];omega
  by_cases hc:xZ s<s.size
  ·have b:Xn (s.extract 2 s.size)=true:=by unfold Xn;rw[a];exact zy (by omega)
   have h:Xo (s.extract 2 s.size)=s.extract 2 (xZ s):=by
    unfold Xo;rw[b,zb rfl,bG];have e:min (2+J6 (s.extract 2 s.size)) s.size=xZ s:=by rw[hb] at hc |-;omega
    rw[e]
   have c:(s.extract 2 (xZ s)).size=xZ s-2:=by rw[yz];omega
   rw[b,zb rfl,zb hc,h]
   by_cases hi:zX (s.extract 2 (xZ s))=true
   ·rw[zb hi,zb hi];show _=(xq (4,_),nameOf (4,_),_);rw[c]
    have:2+(xZ s-2)+1=xZ s+1:=by omega
    rw[this];rfl
   ·rw[za hi,za hi];rfl
  ·have b:Xn (s.extract 2 s.size)=false:=by unfold Xn;rw[a];exact zJ (by omega)
   rw[b,za (by decide),za hc];rfl
 ·rw[za h4,za h4];rfl
theorem nU(s:BY)(c:0<s.size):(zZ s).data.toList.getD 0 0=s.data.toList.getD 0 0:=by
 unfold zZ;generalize b:(if xh s.data.toList=0 then 1 else xh s.data.toList)=k
 have d:1<=k:=by rw[<- b];split<;>omega
 obtain⟨⟨l⟩⟩:=s
 cases l with
 | nil=>exact absurd c (by decide)
 | cons a l=>
  obtain⟨j,rfl⟩:∃j,k=j+1:=⟨k-1,by omega⟩;simp[ByteArray.data_extract]
theorem dO(s:BY)(a:0<s.size)(c:UInt8)(h:(s.data.toList.getD 0 0).toNat≠c.toNat):((zZ s).toList==[c])=false:=by
 rw[qP];intro e;rw[Lib.toList_data] at e
 have:=nU s a
 rw[e] at this;apply h;rw[<- this];rfl
theorem dK(s:BY)(g:0<s.size)(c:UInt8)(j:c.toNat<128)(h:(s.data.toList.getD 0 0).toNat=c.toNat):(zZ s).toList=[c]/\vY s=true/\(zZ s).size=1:=by
 have d:xh s.data.toList=1:=by
  unfold xh;rw[zD,za (by omega),zb (by omega)]
 have i:zZ s=s.extract 0 1:=by unfold zZ;rw[d];rfl
 have e:(zZ s).size=1:=by rw[i,yz];omega
 refine⟨?_,by unfold vY;rw[d];rfl,e⟩;rw[Lib.toList_data];have b:=nU s g;have hlen:(zZ s).data.toList.length=1:=by rw[zD];exact e
 obtain⟨a,f⟩:=List.length_eq_one_iff.1 hlen;rw[f] at b |-
 have:a=c:=Kn.1 (by rw[<- h,<- b];rfl)
 rw[this]
theorem zbJ(s:BY)(d:0<s.size)(h:(s.data.toList.getD 0 0).toNat=42):JC (qZ s)=(-2,⟨#[]⟩,1):=by
 obtain⟨a,b,c⟩:=dK s d 42 (by decide) h
 have:qZ s=some (3,zZ s,1):=by
  unfold qZ;rw[b,a,c];rfl
 rw[this];rfl
theorem zbI(s:BY)(d:0<s.size)(h:(s.data.toList.getD 0 0).toNat=63):JC (qZ s)=(-1,⟨#[]⟩,1):=by
 obtain⟨a,b,c⟩:=dK s d 63 (by decide) h
 have:qZ s=some (2,zZ s,1):=by
  unfold qZ;rw[b,a,c];rfl
 rw[this];rfl
theorem zbE(s:BY)(a:0<s.size)(h:(s.data.toList.getD 0 0).toNat=36):JC (qZ s)=QJ (s.extract 1 s.size):=by
 obtain⟨b,c,d⟩:=dK s a 36 (by decide) h
 have:qZ s=KH s:=by
  unfold qZ KH;rw[c,b];rfl
 rw[this,Ll s a]
theorem iL(s:BY)(a:0<s.size)(f:(s.data.toList.getD 0 0).toNat≠42)(g:(s.data.toList.getD 0 0).toNat≠63)(h:(s.data.toList.getD 0 0).toNat≠36) :
  (Utf8.decode s 0=(65533,1)/\JC (qZ s)=(0,⟨#[]⟩,0)) \/
  (∃c n,c<=1114111/\Utf8.decode s 0=(c,n)/\¬(c=65533/\n=1)/\n<=s.size/\JC (qZ s)=((c:Int),⟨#[]⟩,n)):=by
 have b:=dO s a 42 f;have d:=dO s a 63 g;have e:=dO s a 36 h
 rcases Uk s a with ⟨ho,hd⟩|⟨ho,hc,hd,hn⟩
 ·left
  refine⟨hd,?_⟩
  have:qZ s=none:=by unfold qZ;rw[zb ho]
  rw[this];rfl
 ·right
  refine⟨_,_,rune_le _ hc,hd,hn,(YF s a).2,?_⟩
  have:qZ s=some (1,zZ s,(zZ s).size):=by
   unfold qZ;rw[ho,b,d,e];rfl
  rw[this];rfl
end Pg
end Go.Proofs.YtdakgnaojakldaaGreatDoor
namespace Go.Proofs.YtdakgnaojakldaaGreatDoor
open Go.Shelf
def Tryz.lays197_ren:Go.Shelf.Ren:=⟨λ|197=>237|260=>253|n=>n,λ|9=>9|21=>21|3=>3|4=>4|5=>5|105=>388|119=>324|0=>0|46=>321|139=>327|138=>326|n=>n,λ|3=>2|4=>3|n=>n⟩
theorem Tryz.lays197:Go.Proofs.Lays.n197 prog Tryz.lays197_ren:={
 mixed:=by kernel_rfl
 f197:=func237.trans (congrArg some (by kernel_rfl))
 f260:=func253.trans (congrArg some (by kernel_rfl))
 t0:=underlying0
 a0:=Tryz.isAgg0
 z0:=Tryz.sizeOf0
 v0:=Tryz.zeroValue0
 t3:=underlying3
 a3:=Tryz.isAgg3
 z3:=Tryz.sizeOf3
 v3:=Tryz.zeroValue3
 t4:=underlying4
 a4:=Tryz.isAgg4
 z4:=Tryz.sizeOf4
 v4:=Tryz.zeroValue4
 t5:=underlying5
 a5:=Tryz.isAgg5
 z5:=Tryz.sizeOf5
 v5:=Tryz.zeroValue5
 t9:=underlying9
 a9:=Tryz.isAgg9
 z9:=Tryz.sizeOf9
 v9:=Tryz.zeroValue9
 t21:=underlying21
 a21:=Tryz.isAgg21
 z21:=Tryz.sizeOf21
 v21:=Tryz.zeroValue21
 t46:=underlying321
 a46:=Tryz.isAgg321
 z46:=Tryz.sizeOf321
 v46:=Tryz.zeroValue321
 t105:=underlying388
 a105:=Tryz.isAgg388
 z105:=Tryz.sizeOf388
 v105:=Tryz.zeroValue388
 t119:=underlying324
 a119:=Tryz.isAgg324
 z119:=Tryz.sizeOf324
 t138:=underlying326
 a138:=Tryz.isAgg326
 z138:=Tryz.sizeOf326
 v138:=Tryz.zeroValue326
 t139:=underlying327
 a139:=Tryz.isAgg327
 z139:=Tryz.sizeOf327
 v139:=Tryz.zeroValue327
 g3:=by kernel_rfl
 g4:=by kernel_rfl }
def Tryz.lays145_ren:Go.Shelf.Ren:=⟨λ|145=>252|220=>261|219=>267|217=>268|225=>269|224=>270|267=>271|266=>272|314=>273|n=>n,λ|9=>9|4=>4|59=>403|3=>3|5=>5|46=>321|146=>416|51=>398|n=>n,λ|1=>4|n=>n⟩
theorem Tryz.lays145:Go.Proofs.Lays.n145 prog Tryz.lays145_ren:={
 mixed:=by kernel_rfl
 f145:=func252.trans (congrArg some (by kernel_rfl))
 f217:=func268.trans (congrArg some (by kernel_rfl))
 f219:=func267.trans (congrArg some (by kernel_rfl))
 f220:=func261.trans (congrArg some (by kernel_rfl))
 f224:=func270.trans (congrArg some (by kernel_rfl))
 f225:=func269.trans (congrArg some (by kernel_rfl))
 f266:=func272.trans (congrArg some (by kernel_rfl))
 f267:=func271.trans (congrArg some (by kernel_rfl))
 f314:=func273.trans (congrArg some (by kernel_rfl))
 t3:=underlying3
 a3:=Tryz.isAgg3
 z3:=Tryz.sizeOf3
 v3:=Tryz.zeroValue3
 t4:=underlying4
 a4:=Tryz.isAgg4
 z4:=Tryz.sizeOf4
 v4:=Tryz.zeroValue4
 t5:=underlying5
 a5:=Tryz.isAgg5
 z5:=Tryz.sizeOf5
 v5:=Tryz.zeroValue5
 t9:=underlying9
 a9:=Tryz.isAgg9
 z9:=Tryz.sizeOf9
 v9:=Tryz.zeroValue9
 t46:=underlying321
 a46:=Tryz.isAgg321
 z46:=Tryz.sizeOf321
 v46:=Tryz.zeroValue321
 t51:=underlying398
 a51:=Tryz.isAgg398
 z51:=Tryz.sizeOf398
 v51:=Tryz.zeroValue398
 t59:=underlying403
 a59:=Tryz.isAgg403
 z59:=Tryz.sizeOf403
 v59:=Tryz.zeroValue403
 t146:=underlying416
 a146:=Tryz.isAgg416
 z146:=Tryz.sizeOf416
 v146:=Tryz.zeroValue416
 g1:=by kernel_rfl }
def Tryz.lays196_ren:Go.Shelf.Ren:=⟨λ|196=>139|259=>187|n=>n,λ|9=>9|4=>4|3=>3|5=>5|12=>12|119=>324|0=>0|46=>321|139=>327|138=>326|53=>376|n=>n,λ|3=>2|4=>3|n=>n⟩
theorem Tryz.lays196:Go.Proofs.Lays.n196 prog Tryz.lays196_ren:={
 mixed:=by kernel_rfl
 f196:=func139.trans (congrArg some (by kernel_rfl))
 f259:=func187.trans (congrArg some (by kernel_rfl))
 t0:=underlying0
 a0:=Tryz.isAgg0
 z0:=Tryz.sizeOf0
 v0:=Tryz.zeroValue0
 t3:=underlying3
 a3:=Tryz.isAgg3
 z3:=Tryz.sizeOf3
 v3:=Tryz.zeroValue3
 t4:=underlying4
 a4:=Tryz.isAgg4
 z4:=Tryz.sizeOf4
 v4:=Tryz.zeroValue4
 t5:=underlying5
 a5:=Tryz.isAgg5
 z5:=Tryz.sizeOf5
 v5:=Tryz.zeroValue5
 t9:=underlying9
 a9:=Tryz.isAgg9
 z9:=Tryz.sizeOf9
 v9:=Tryz.zeroValue9
 t12:=underlying12
 a12:=Tryz.isAgg12
 z12:=Tryz.sizeOf12
 v12:=Tryz.zeroValue12
 t46:=underlying321
 a46:=Tryz.isAgg321
 z46:=Tryz.sizeOf321
 v46:=Tryz.zeroValue321
 t53:=underlying376
 a53:=Tryz.isAgg376
 z53:=Tryz.sizeOf376
 v53:=Tryz.zeroValue376
 t119:=underlying324
 a119:=Tryz.isAgg324
 z119:=Tryz.sizeOf324
 t138:=underlying326
 a138:=Tryz.isAgg326
 z138:=Tryz.sizeOf326
 v138:=Tryz.zeroValue326
 t139:=underlying327
 a139:=Tryz.isAgg327
 z139:=Tryz.sizeOf327
 v139:=Tryz.zeroValue327
 g3:=by kernel_rfl
 g4:=by kernel_rfl }
end Go.Proofs.YtdakgnaojakldaaGreatDoor
