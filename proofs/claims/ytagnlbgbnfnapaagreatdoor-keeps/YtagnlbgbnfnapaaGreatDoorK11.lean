/- P -/
import Derived.Test.YtagnlbgbnfnapaaGreatDoorK01
set_option maxRecDepth 100000
set_option maxHeartbeats 4000000
namespace Go.Proofs.YtagnlbgbnfnapaaGreatDoor
open Go.RowKit
namespace Ref
end Ref
namespace Pg
open Ref
def Qp(c:Nat):List Nat:=
 if c<128 then [c]
 else if c<2048 then [192+c / 64,128+c % 64]
 else if c<65536 then [224+c / 4096,128+c / 64 % 64,128+c % 64]
 else [240+c / 262144,128+c / 4096 % 64,128+c / 64 % 64,128+c % 64]
def uM(l:List Nat):Nat:=
 if l.length=1 then l.getD 0 0
 else if l.length=2 then (l.getD 0 0-192)*64+(l.getD 1 0-128)
 else if l.length=3 then (l.getD 0 0-224)*4096+(l.getD 1 0-128)*64+(l.getD 2 0-128)
 else (l.getD 0 0-240)*262144+(l.getD 1 0-128)*4096+(l.getD 2 0-128)*64+(l.getD 3 0-128)
theorem iM(a:Nat):uM [a]=a:=by
 simp[uM]
theorem iN(a b:Nat):uM [a,b]=(a-192)*64+(b-128):=by
 simp[uM]
theorem iO(a b c:Nat):uM [a,b,c]=(a-224)*4096+(b-128)*64+(c-128):=by
 simp[uM]
theorem iP(a b c d:Nat):uM [a,b,c,d]=(a-240)*262144+(b-128)*4096+(c-128)*64+(d-128):=by
 simp[uM]
theorem ae(c:Nat):uM (Qp c)=c:=by
 unfold Qp
 by_cases h1:c<128
 ·rw[zb h1,iM]
 by_cases h2:c<2048
 ·rw[za h1,zb h2,iN];omega
 by_cases h3:c<65536
 ·rw[za h1,za h2,zb h3,iO];omega
 ·rw[za h1,za h2,za h3,iP];omega
def nums(t:BY):List Nat:=t.data.toList.map UInt8.toNat
def Qu(t:BY):Nat:=uM (nums t)
def eY(t:BY):Prop:=∃c,c<=1114111/\nums t=Qp c
theorem rune_le(t:BY)(h:eY t):Qu t<=1114111:=by
 obtain⟨c,a,e⟩:=h;unfold Qu;rw[e,ae];exact a
def Ya(n b0 a b c:Nat):Nat:=
 if n=0 then 0
 else if b0<128 then 1
 else if 194<=b0/\b0<=223 then (if 2<=n/\128<=a/\a<=191 then 2 else 0)
 else if b0=224 then (if 3<=n/\160<=a/\a<=191/\128<=b/\b<=191 then 3 else 0)
 else if b0=237 then (if 3<=n/\128<=a/\a<=159/\128<=b/\b<=191 then 3 else 0)
 else if 225<=b0/\b0<=239 then (if 3<=n/\128<=a/\a<=191/\128<=b/\b<=191 then 3 else 0)
 else if b0=240 then (if 4<=n/\144<=a/\a<=191/\128<=b/\b<=191/\128<=c/\c<=191 then 4 else 0)
 else if 241<=b0/\b0<=243 then (if 4<=n/\128<=a/\a<=191/\128<=b/\b<=191/\128<=c/\c<=191 then 4 else 0)
 else if b0=244 then (if 4<=n/\128<=a/\a<=143/\128<=b/\b<=191/\128<=c/\c<=191 then 4 else 0)
 else 0
theorem iK(l:List UInt8)(lo hi:Int):jg l lo hi 1=decide (lo<=((l.getD 1 0).toNat:Int)/\((l.getD 1 0).toNat:Int)<=hi):=by
 simp[jg,List.range_succ]
theorem iL(l:List UInt8)(lo hi:Int):jg l lo hi 2=(decide (lo<=((l.getD 1 0).toNat:Int)/\((l.getD 1 0).toNat:Int)<=hi)&&decide (128<=(l.getD 2 0).toNat/\(l.getD 2 0).toNat<=191)):=by
 rw[V4,iK];simp
theorem Cs(l:List UInt8)(lo hi:Int):jg l lo hi 3=(decide (lo<=((l.getD 1 0).toNat:Int)/\((l.getD 1 0).toNat:Int)<=hi)&&decide (128<=(l.getD 2 0).toNat/\(l.getD 2 0).toNat<=191)&&decide (128<=(l.getD 3 0).toNat/\(l.getD 3 0).toNat<=191)):=by
 rw[V4,iL];simp
theorem KX(l:List UInt8)(n lo hi:Int)(a:l.length≠0)(h:¬(l.getD 0 0).toNat<128)(b:zT ((l.getD 0 0).toNat:Int)=(n,lo,hi)) :
  qW l=if n=0 then 0 else if (l.length:Int)<n+1 then 0 else if jg l lo hi n.toNat then n.toNat+1 else 0:=by
 unfold qW;rw[za a,za h,b]
theorem Bi(l:List UInt8)(lo hi:Nat)(a:l.length≠0)(h:¬(l.getD 0 0).toNat<128)(b:zT ((l.getD 0 0).toNat:Int)=(1,(lo:Int),(hi:Int))) :
  qW l=if 2<=l.length/\lo<=(l.getD 1 0).toNat/\(l.getD 1 0).toNat<=hi then 2 else 0:=by
 rw[KX l _ _ _ a h b,za (by decide),show (1:Int).toNat=1 from rfl,iK]
 generalize (l.getD 1 0).toNat=b1
 by_cases c:2<=l.length/\lo<=b1/\b1<=hi
 ·rw[zb c,za (by omega),zb (by simp;omega)]
 ·rw[za c]
  by_cases d:(l.length:Int)<1+1
  ·rw[zb d]
  ·rw[za d,za (by simp;omega)]
theorem KV(l:List UInt8)(lo hi:Nat)(a:l.length≠0)(h:¬(l.getD 0 0).toNat<128)(b:zT ((l.getD 0 0).toNat:Int)=(2,(lo:Int),(hi:Int))) :
  qW l=if 3<=l.length/\lo<=(l.getD 1 0).toNat/\(l.getD 1 0).toNat<=hi/\128<=(l.getD 2 0).toNat/\(l.getD 2 0).toNat<=191 then 3 else 0:=by
 rw[KX l _ _ _ a h b,za (by decide),show (2:Int).toNat=2 from rfl,iL]
 generalize (l.getD 1 0).toNat=b1;generalize (l.getD 2 0).toNat=b2
 by_cases c:3<=l.length/\lo<=b1/\b1<=hi/\128<=b2/\b2<=191
 ·rw[zb c,za (by omega),zb (by simp;omega)]
 ·rw[za c]
  by_cases d:(l.length:Int)<2+1
  ·rw[zb d]
  ·rw[za d,za (by simp;omega)]
theorem KW(l:List UInt8)(lo hi:Nat)(a:l.length≠0)(h:¬(l.getD 0 0).toNat<128)(b:zT ((l.getD 0 0).toNat:Int)=(3,(lo:Int),(hi:Int))) :
  qW l=if 4<=l.length/\lo<=(l.getD 1 0).toNat/\(l.getD 1 0).toNat<=hi/\128<=(l.getD 2 0).toNat/\(l.getD 2 0).toNat<=191/\128<=(l.getD 3 0).toNat/\(l.getD 3 0).toNat<=191 then 4 else 0:=by
 rw[KX l _ _ _ a h b,za (by decide),show (3:Int).toNat=3 from rfl,Cs]
 generalize (l.getD 1 0).toNat=b1;generalize (l.getD 2 0).toNat=b2;generalize (l.getD 3 0).toNat=b3
 by_cases c:4<=l.length/\lo<=b1/\b1<=hi/\128<=b2/\b2<=191/\128<=b3/\b3<=191
 ·rw[zb c,za (by omega),zb (by simp;omega)]
 ·rw[za c]
  by_cases d:(l.length:Int)<3+1
  ·rw[zb d]
  ·rw[za d,za (by simp;omega)]
theorem Bj(l:List UInt8):qW l=Ya l.length (l.getD 0 0).toNat (l.getD 1 0).toNat (l.getD 2 0).toNat (l.getD 3 0).toNat:=by
 unfold Ya
 by_cases hl:l.length=0
 ·rw[zb hl];unfold qW;rw[zb hl]
 rw[za hl]
 by_cases h:(l.getD 0 0).toNat<128
 ·rw[zb h];unfold qW;rw[za hl,zb h]
 rw[za h]
 by_cases c1:194<=(l.getD 0 0).toNat/\(l.getD 0 0).toNat<=223
 ·rw[zb c1];exact Bi l 128 191 hl h (by unfold zT;rw[zb (by omega)];rfl)
 rw[za c1]
 by_cases c2:(l.getD 0 0).toNat=224
 ·rw[zb c2];exact KV l 160 191 hl h (by unfold zT;rw[za (by omega),zb (by omega)];rfl)
 rw[za c2]
 by_cases c3:(l.getD 0 0).toNat=237
 ·rw[zb c3];exact KV l 128 159 hl h (by unfold zT;rw[za (by omega),za (by omega),zb (by omega)];rfl)
 rw[za c3]
 by_cases c4:225<=(l.getD 0 0).toNat/\(l.getD 0 0).toNat<=239
 ·rw[zb c4];exact KV l 128 191 hl h (by unfold zT;rw[za (by omega),za (by omega),za (by omega),zb (by omega)];rfl)
 rw[za c4]
 by_cases c5:(l.getD 0 0).toNat=240
 ·rw[zb c5];exact KW l 144 191 hl h (by unfold zT;rw[za (by omega),za (by omega),za (by omega),za (by omega),zb (by omega)];rfl)
 rw[za c5]
 by_cases c6:241<=(l.getD 0 0).toNat/\(l.getD 0 0).toNat<=243
 ·rw[zb c6];exact KW l 128 191 hl h (by unfold zT;rw[za (by omega),za (by omega),za (by omega),za (by omega),za (by omega),zb (by omega)];rfl)
 rw[za c6]
 by_cases c7:(l.getD 0 0).toNat=244
 ·rw[zb c7];exact KW l 128 143 hl h (by unfold zT;rw[za (by omega),za (by omega),za (by omega),za (by omega),za (by omega),za (by omega),zb (by omega)];rfl)
 rw[za c7];unfold qW;rw[za hl,za h,zb];unfold zT;rw[za (by omega),za (by omega),za (by omega),za (by omega),za (by omega),za (by omega),za (by omega)]
theorem CX(n b0 a b c:Nat)(h:b0<128):Lib.decodeN n b0 a b c=(b0,1):=by
 unfold Lib.decodeN;rw[zb h]
theorem CZ(n b0 a b c:Nat)(h:194<=b0/\b0<=223)(e:2<=n)(d:128<=a/\a<=191):Lib.decodeN n b0 a b c=(b0 % 32*64+a % 64,2):=by
 unfold Lib.decodeN;rw[za (by omega),zb ⟨by omega,by omega,by omega⟩,zb (by omega)]
theorem CY(n b0 a b c:Nat)(h:224<=b0/\b0<=239)(g:3<=n)(d:128<=a/\a<=191)(e:128<=b/\b<=191)(f:b0=224->160<=a)(hb:b0=237->a<=159) :
  Lib.decodeN n b0 a b c=(b0 % 16*4096+a % 64*64+b % 64,3):=by
 unfold Lib.decodeN;rw[za (by omega),za (by omega),zb ⟨by omega,⟨by omega,by omega⟩,by omega,by omega⟩,zb (by omega)]
theorem CW(n b0 a b c:Nat)(h:240<=b0/\b0<=244)(i:4<=n)(d:128<=a/\a<=191)(e:128<=b/\b<=191)(f:128<=c/\c<=191)(g:b0=240->144<=a)(hb:b0=244->a<=143) :
  Lib.decodeN n b0 a b c=(b0 % 8*262144+a % 64*4096+b % 64*64+c % 64,4):=by
 unfold Lib.decodeN;rw[za (by omega),za (by omega),za (by omega),zb ⟨by omega,⟨by omega,by omega⟩,⟨by omega,by omega⟩,by omega,by omega⟩,zb (by omega)]
def Good(n b0 a b d k:Nat):Prop:=
 Lib.decodeN n b0 a b d=(uM ([b0,a,b,d].take k),k)/\k<=n/\k<=4/\∃c,c<=1114111/\[b0,a,b,d].take k=Qp c
theorem FC(n b0 a b c:Nat)(d:n≠0)(h:b0<128):Good n b0 a b c 1:=by
 refine⟨by rw[CX _ _ _ _ _ h];rfl,by omega,by omega,b0,by omega,?_⟩;unfold Qp;rw[zb h];rfl
theorem FD(n b0 a b c:Nat)(h:194<=b0/\b0<=223)(e:2<=n)(d:128<=a/\a<=191):Good n b0 a b c 2:=by
 refine⟨?_,by omega,by omega,b0 % 32*64+a % 64,by omega,?_⟩
 ·rw[CZ _ _ _ _ _ h e d];show _=(uM [b0,a],2);rw[iN,Prod.mk.injEq];exact⟨by omega,rfl⟩
 ·show [b0,a]=_;unfold Qp;rw[za (by omega),zb (by omega)];congr 1
  ·omega
  ·congr 1;omega
theorem aI(n b0 a b c:Nat)(h:224<=b0/\b0<=239)(g:3<=n)(d:128<=a/\a<=191)(e:128<=b/\b<=191)(f:b0=224->160<=a)(hb:b0=237->a<=159):Good n b0 a b c 3:=by
 refine⟨?_,by omega,by omega,b0 % 16*4096+a % 64*64+b % 64,by omega,?_⟩
 ·rw[CY _ _ _ _ _ h g d e f hb];show _=(uM [b0,a,b],3);rw[iO,Prod.mk.injEq];exact⟨by omega,rfl⟩
 ·show [b0,a,b]=_;unfold Qp;rw[za (by omega),za (by omega),zb (by omega)];congr 1
  ·omega
  ·congr 1
   ·omega
   ·congr 1;omega
theorem aH(n b0 a b c:Nat)(h:240<=b0/\b0<=244)(i:4<=n)(d:128<=a/\a<=191)(e:128<=b/\b<=191)(f:128<=c/\c<=191)(g:b0=240->144<=a)(hb:b0=244->a<=143):Good n b0 a b c 4:=by
 refine⟨?_,by omega,by omega,b0 % 8*262144+a % 64*4096+b % 64*64+c % 64,by omega,?_⟩
 ·rw[CW _ _ _ _ _ h i d e f g hb];show _=(uM [b0,a,b,c],4);rw[iP,Prod.mk.injEq];exact⟨by omega,rfl⟩
 ·show [b0,a,b,c]=_;unfold Qp;rw[za (by omega),za (by omega),za (by omega)];congr 1
  ·omega
  ·congr 1
   ·omega
   ·congr 1
    ·omega
    ·congr 1;omega
theorem CJ(n b0 a b c:Nat)(d:n≠0)(e:b0<256)(h:Ya n b0 a b c=0):Lib.decodeN n b0 a b c=(65533,1):=by
 unfold Ya at h;rw[za d] at h;unfold Lib.decodeN
 repeat' split at h
 all_goals first|(exfalso;omega)|skip
 all_goals repeat' split
 all_goals first|rfl|(exfalso;omega)
theorem IU(n b0 a b e:Nat)(f:n≠0)(h:Ya n b0 a b e≠0):Good n b0 a b e (Ya n b0 a b e):=by
 unfold Ya at h |-;rw[za f] at h |-
 split at h
 ·rename_i c;rw[zb c];exact FC _ _ _ _ _ f c
 rename_i g;rw[za g]
 split at h
 ·rename_i c;rw[zb c]
  split at h
  ·rename_i d;rw[zb d];exact FD _ _ _ _ _ c d.1 d.2
  ·exact absurd rfl h
 rename_i c1;rw[za c1]
 split at h
 ·rename_i c;rw[zb c]
  split at h
  ·rename_i d;rw[zb d];exact aI _ _ _ _ _ (by omega) d.1 (by omega) (by omega) (by omega) (by omega)
  ·exact absurd rfl h
 rename_i c2;rw[za c2]
 split at h
 ·rename_i c;rw[zb c]
  split at h
  ·rename_i d;rw[zb d];exact aI _ _ _ _ _ (by omega) d.1 (by omega) (by omega) (by omega) (by omega)
  ·exact absurd rfl h
 rename_i c3;rw[za c3]
 split at h
 ·rename_i c;rw[zb c]
  split at h
  ·rename_i d;rw[zb d];exact aI _ _ _ _ _ (by omega) d.1 (by omega) (by omega) (by omega) (by omega)
  ·exact absurd rfl h
 rename_i c4;rw[za c4]
 split at h
 ·rename_i c;rw[zb c]
  split at h
  ·rename_i d;rw[zb d];exact aH _ _ _ _ _ (by omega) d.1 (by omega) (by omega) (by omega) (by omega) (by omega)
  ·exact absurd rfl h
 rename_i c5;rw[za c5]
 split at h
 ·rename_i c;rw[zb c]
  split at h
  ·rename_i d;rw[zb d];exact aH _ _ _ _ _ (by omega) d.1 (by omega) (by omega) (by omega) (by omega) (by omega)
  ·exact absurd rfl h
 rename_i i;rw[za i]
 split at h
 ·rename_i c;rw[zb c]
  split at h
  ·rename_i d;rw[zb d];exact aH _ _ _ _ _ (by omega) d.1 (by omega) (by omega) (by omega) (by omega) (by omega)
  ·exact absurd rfl h
 ·exact absurd rfl h
theorem Fz(s:BY)(k:Nat):s.get! k=s.data.toList.getD k 0:=by
 obtain⟨⟨l⟩⟩:=s;show (Array.mk l)[k]! = _
 by_cases h:k<l.length
 ·simp[List.getD,h]
 ·simp[List.getD,h];rfl
theorem Sl(l:List UInt8)(k:Nat)(f:k<=4)(e:k<=l.length):(l.take k).map UInt8.toNat=[(l.getD 0 0).toNat,(l.getD 1 0).toNat,(l.getD 2 0).toNat,(l.getD 3 0).toNat].take k:=by
 obtain rfl|rfl|rfl|rfl|rfl:k=0\/k=1\/k=2\/k=3\/k=4:=by omega
 all_goals rcases l with _|⟨a,_|⟨b,_|⟨c,_|⟨d,l⟩⟩⟩⟩
 all_goals first|rfl|(simp at e)
theorem Mo(s:BY)(k:Nat):nums (s.extract 0 k)=(s.data.toList.take k).map UInt8.toNat:=by
 unfold nums;simp[ByteArray.data_extract]
theorem CU(s:BY)(t:0<s.size) :
  (uL s=false/\Utf8.decode s 0=(65533,1)) \/
  (uL s=true/\eY (qy s)/\Utf8.decode s 0=(Qu (qy s),(qy s).size)/\¬(Qu (qy s)=65533/\(qy s).size=1)):=by
 have d:=Lib.decode_at s 0;simp only[Fz,Nat.sub_zero,yO] at d;have b:=Bj s.data.toList;have a:s.data.toList.length=s.size:=zA s;rw[a] at b
 by_cases h:qW s.data.toList=0
 ·left
  refine⟨by unfold uL;rw[h];rfl,?_⟩;rw[d];exact CJ _ _ _ _ _ (by omega) (VO _) (b.symm.trans h)
 ·right
  have m:qy s=s.extract 0 (qW s.data.toList):=by unfold qy;rw[za h]
  have k:=IU _ _ _ _ _ (by omega) (λe=>h (b.trans e));rw[<- b] at k;obtain⟨o,p,q,c,r,j⟩:=k
  have f:nums (qy s)=Qp c:=by
   rw[m,Mo,Sl _ _ q (by rw[a];exact p)];exact j
  have l:Qu (qy s)=c:=by unfold Qu;rw[f,ae]
  have g:(qy s).size=qW s.data.toList:=by rw[m,jI];omega
  refine⟨by unfold uL;simp[h],⟨c,r,f⟩,?_,?_⟩
  ·rw[d,o,l,g,j,ae]
  ·rintro ⟨i,n⟩;rw[l] at i
   have:(nums (qy s)).length=1:=by unfold nums;rw[qB,zA];exact n
   rw[f,i] at this;simp[Qp] at this
def XA(p:Int×BY):Int:=if p.1=3 then -2 else if p.1=2 then -1 else if p.1=4 then 0 else (Qu p.2:Int)
def nameOf(p:Int×BY):BY:=if p.1=4 then p.2 else ⟨#[]⟩
def YJ(u:BY):Nat:=u.data.toList.findIdx λc=>c.toNat==125
def Qn(u:BY):Bool:=decide (YJ u<u.size)
def Qo(u:BY):BY:=if Qn u then u.extract 0 (YJ u) else u
theorem Gl(l:List UInt8):Lib.index l [125]=if l.findIdx (λc=>c.toNat==125)<l.length then ((l.findIdx λc=>c.toNat==125:Nat):Int) else -1:=by
 induction l with
 | nil=>rfl
 | cons b l g=>
  unfold Lib.index;rw[g,List.findIdx_cons]
  have e:([125].isPrefixOf (b::l))=(b.toNat==125):=by
   simp only[List.isPrefixOf,Yr];rw[XH,kH,kH]
   constructor
   ·intro h;rw[<- h];rfl
   ·intro h;exact (UInt8.toNat_inj.1 (by rw[h];rfl)).symm
  rw[e]
  cases h:b.toNat==125 with
  | true=>simp
  | false=>
   simp only[vo,jN,cond_false,ZB];generalize l.findIdx (λc=>c.toNat==125)=f;generalize l.length=n
   by_cases hl:f<n
   ·have a:f+1<n+1:=by omega
    have d:((f:Int) == -1)=false:=by rw[qI];omega
    simp[hl,a,d]
   ·have a:¬f+1<n+1:=by omega
    simp[hl,a]
theorem Cz(u:BY):(⟨(Lib.cut u.data.toList [125]).1.toArray⟩:BY)=Qo u/\(Lib.cut u.data.toList [125]).2.2=Qn u:=by
 have hi:=Gl u.data.toList;rw[zA] at hi;unfold Qo Qn YJ
 by_cases h:u.data.toList.findIdx (λc=>c.toNat==125)<u.size
 ·rw[zb h] at hi;have a:=Lib.cutB_hit u ⟨#[125]⟩ _ hi;rw[zC h,zb rfl];exact⟨a.1,a.2.2⟩
 ·rw[za h] at hi;have a:=Lib.cutB_miss u ⟨#[125]⟩ hi;rw[zO h,za (by decide)];exact⟨a.1,a.2.2⟩
def ZJ(t:BY):Int×BY×Nat:=
 if t.size=0 then (0,⟨#[]⟩,0)
 else if (t.data.toList.getD 0 0).toNat=36\/(t.data.toList.getD 0 0).toNat=42\/(t.data.toList.getD 0 0).toNat=63 then ((t.data.toList.getD 0 0).toNat,⟨#[]⟩,2)
 else if (t.data.toList.getD 0 0).toNat=123 then
  (if Qn (t.extract 1 t.size) then (if qh (Qo (t.extract 1 t.size)) then (0,Qo (t.extract 1 t.size),2+(Qo (t.extract 1 t.size)).size+1) else (0,⟨#[]⟩,0)) else (0,⟨#[]⟩,0))
 else (0,⟨#[]⟩,0)
def Yk(p:Option (Int×BY×Nat)):Int×BY×Nat:=match p with
 | none=>(0,⟨#[]⟩,0)
 | some (k,t,n)=>(XA (k,t),nameOf (k,t),n)
def V7(s:BY):Option (Int×BY×Nat):=if (xW s).2.2=0 then none else some (xW s)
theorem EN(s:BY):(s.extract 1 s.size).data.toList=s.data.toList.drop 1:=Lib.ext_list s 1
theorem EO(s:BY)(k:Nat):(s.extract k s.size).extract 1 (s.extract k s.size).size=s.extract (k+1) s.size:=by
 rw[eT,jI];have e:min (k+(min s.size s.size-k)) s.size=s.size\/s.size<=k:=by omega
 rcases e with e|e
 ·rw[e]
 ·have a:min (k+(min s.size s.size-k)) s.size=s.size:=by omega
  rw[a]
theorem OE(s:BY)(k:Nat)(b:k<s.size):Qu (s.extract k (k+1))=(s.data.toList.getD k 0).toNat:=by
 unfold Qu nums
 have:(s.extract k (k+1)).data.toList=[s.data.toList.getD k 0]:=by
  have a:k<s.data.toList.length:=by rw[zA];exact b
  rw[Jj,U1,zY,zn a];simp only[fw,QD];rw[vw a]
  simp
 rw[this];simp only[yh,Zc,iM]
theorem Dy(s:BY)(j:0<s.size):ZJ (s.extract 1 s.size)=Yk (V7 s):=by
 have d:(s.extract 1 s.size).size=s.size-1:=by rw[jI];omega
 have f:(s.extract 1 s.size).data.toList.getD 0 0=s.data.toList.getD 1 0:=by
  rw[EN];simp
 unfold ZJ;rw[f,d];unfold V7 xW
 by_cases h2:s.size<2
 ·rw[zb (by omega),zb h2];rfl
 rw[za (by omega),za h2]
 by_cases h3:(s.data.toList.getD 1 0).toNat=36\/(s.data.toList.getD 1 0).toNat=42\/(s.data.toList.getD 1 0).toNat=63
 ·rw[zb h3,zb h3];show _=(XA (1,s.extract 1 2),nameOf (1,s.extract 1 2),2)
  have:XA (1,s.extract 1 2)=((s.data.toList.getD 1 0).toNat:Int):=by
   show ((Qu (s.extract 1 2):Nat):Int)=_;rw[OE s 1 (by omega)]
  rw[this];rfl
 rw[za h3,za h3]
 by_cases h4:(s.data.toList.getD 1 0).toNat=123
 ·rw[zb h4,zb h4]
  have i:(s.extract 1 s.size).extract 1 (s.size-1)=s.extract 2 s.size:=by
   have:=EO s 1;rw[d] at this;exact this
  rw[i];have g:(s.extract 2 s.size).data.toList=s.data.toList.drop 2:=Lib.ext_list s 2;have hb:xN s=2+YJ (s.extract 2 s.size):=by unfold xN YJ;rw[g]
  have a:(s.extract 2 s.size).size=s.size-2:=by rw[jI];omega
  by_cases hc:xN s<s.size
  ·have b:Qn (s.extract 2 s.size)=true:=by unfold Qn;rw[a];exact zC (by omega)
   have h:Qo (s.extract 2 s.size)=s.extract 2 (xN s):=by
    unfold Qo;rw[b,zb rfl,eT];have e:min (2+YJ (s.extract 2 s.size)) s.size=xN s:=by rw[hb] at hc |-;omega
    rw[e]
   have c:(s.extract 2 (xN s)).size=xN s-2:=by rw[jI];omega
   rw[b,zb rfl,zb hc,h]
   by_cases hi:qh (s.extract 2 (xN s))=true
   ·rw[zb hi,zb hi];show _=(XA (4,_),nameOf (4,_),_);rw[c]
    have:2+(xN s-2)+1=xN s+1:=by omega
    rw[this];rfl
   ·rw[za hi,za hi];rfl
  ·have b:Qn (s.extract 2 s.size)=false:=by unfold Qn;rw[a];exact zO (by omega)
   rw[b,za (by decide),za hc];rfl
 ·rw[za h4,za h4];rfl
theorem ic(s:BY)(c:0<s.size):(qy s).data.toList.getD 0 0=s.data.toList.getD 0 0:=by
 unfold qy;generalize b:(if qW s.data.toList=0 then 1 else qW s.data.toList)=k
 have d:1<=k:=by rw[<- b];split<;>omega
 obtain⟨⟨l⟩⟩:=s
 cases l with
 | nil=>exact absurd c (by decide)
 | cons a l=>
  obtain⟨j,rfl⟩:∃j,k=j+1:=⟨k-1,by omega⟩;simp[ByteArray.data_extract]
theorem KY(s:BY)(a:0<s.size)(c:UInt8)(h:(s.data.toList.getD 0 0).toNat≠c.toNat):((qy s).toList==[c])=false:=by
 rw[qI];intro e;rw[Lib.toList_data] at e
 have:=ic s a
 rw[e] at this;apply h;rw[<- this];rfl
theorem KU(s:BY)(g:0<s.size)(c:UInt8)(j:c.toNat<128)(h:(s.data.toList.getD 0 0).toNat=c.toNat):(qy s).toList=[c]/\uL s=true/\(qy s).size=1:=by
 have d:qW s.data.toList=1:=by
  unfold qW;rw[zA,za (by omega),zb (by omega)]
 have i:qy s=s.extract 0 1:=by unfold qy;rw[d];rfl
 have e:(qy s).size=1:=by rw[i,jI];omega
 refine⟨?_,by unfold uL;rw[d];rfl,e⟩;rw[Lib.toList_data];have b:=ic s g;have hlen:(qy s).data.toList.length=1:=by rw[zA];exact e
 obtain⟨a,f⟩:=List.length_eq_one_iff.1 hlen;rw[f] at b |-
 have:a=c:=UInt8.toNat_inj.1 (by rw[<- h,<- b];rfl)
 rw[this]
theorem PW(s:BY)(d:0<s.size)(h:(s.data.toList.getD 0 0).toNat=42):Yk (qY s)=(-2,⟨#[]⟩,1):=by
 obtain⟨a,b,c⟩:=KU s d 42 (by decide) h
 have:qY s=some (3,qy s,1):=by
  unfold qY;rw[b,a,c];rfl
 rw[this];rfl
theorem PU(s:BY)(d:0<s.size)(h:(s.data.toList.getD 0 0).toNat=63):Yk (qY s)=(-1,⟨#[]⟩,1):=by
 obtain⟨a,b,c⟩:=KU s d 63 (by decide) h
 have:qY s=some (2,qy s,1):=by
  unfold qY;rw[b,a,c];rfl
 rw[this];rfl
theorem PO(s:BY)(a:0<s.size)(h:(s.data.toList.getD 0 0).toNat=36):Yk (qY s)=ZJ (s.extract 1 s.size):=by
 obtain⟨b,c,d⟩:=KU s a 36 (by decide) h
 have:qY s=V7 s:=by
  unfold qY V7;rw[c,b];rfl
 rw[this,Dy s a]
theorem dH(s:BY)(a:0<s.size)(f:(s.data.toList.getD 0 0).toNat≠42)(g:(s.data.toList.getD 0 0).toNat≠63)(h:(s.data.toList.getD 0 0).toNat≠36) :
  (Utf8.decode s 0=(65533,1)/\Yk (qY s)=(0,⟨#[]⟩,0)) \/
  (∃c n,c<=1114111/\Utf8.decode s 0=(c,n)/\¬(c=65533/\n=1)/\n<=s.size/\Yk (qY s)=((c:Int),⟨#[]⟩,n)):=by
 have b:=KY s a 42 f;have d:=KY s a 63 g;have e:=KY s a 36 h
 rcases CU s a with ⟨ho,hd⟩|⟨ho,hc,hd,hn⟩
 ·left
  refine⟨hd,?_⟩
  have:qY s=none:=by unfold qY;rw[zb ho]
  rw[this];rfl
 ·right
  refine⟨_,_,rune_le _ hc,hd,hn,(KZ s a).2,?_⟩
  have:qY s=some (1,qy s,(qy s).size):=by
   unfold qY;rw[ho,b,d,e];rfl
  rw[this];rfl
end Pg
end Go.Proofs.YtagnlbgbnfnapaaGreatDoor
