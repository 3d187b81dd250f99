/- P -/
import Derived.Test.YtagnlbgbnfnapaaGreatDoorZ10
open Go.Proofs.Tryz
set_option maxRecDepth 100000
set_option maxHeartbeats 4000000
namespace Go.Proofs.YtagnlbgbnfnapaaGreatDoor
namespace Pg
open Ref
def Qy(c:Nat):List Nat:=
 if c<128 then [c]
 else if c<2048 then [192+c / 64,128+c % 64]
 else if c<65536 then [224+c / 4096,128+c / 64 % 64,128+c % 64]
 else [240+c / 262144,128+c / 4096 % 64,128+c / 64 % 64,128+c % 64]
def jE(l:List Nat):Nat:=
 if l.length=1 then l.getD 0 0
 else if l.length=2 then (l.getD 0 0-192)*64+(l.getD 1 0-128)
 else if l.length=3 then (l.getD 0 0-224)*4096+(l.getD 1 0-128)*64+(l.getD 2 0-128)
 else (l.getD 0 0-240)*262144+(l.getD 1 0-128)*4096+(l.getD 2 0-128)*64+(l.getD 3 0-128)
theorem oo(a:Nat):jE [a]=a:=by
 simp[jE]
theorem oq(a b:Nat):jE [a,b]=(a-192)*64+(b-128):=by
 simp[jE]
theorem ou(a b c:Nat):jE [a,b,c]=(a-224)*4096+(b-128)*64+(c-128):=by
 simp[jE]
theorem oz(a b c d:Nat):jE [a,b,c,d]=(a-240)*262144+(b-128)*4096+(c-128)*64+(d-128):=by
 simp[jE]
theorem VO(c:Nat):jE (Qy c)=c:=by
 unfold Qy
 by_cases h1:c<128
 ·rw[zb h1,oo]
 by_cases h2:c<2048
 ·rw[za h1,zb h2,oq];omega
 by_cases h3:c<65536
 ·rw[za h1,za h2,zb h3,ou];omega
 ·rw[za h1,za h2,za h3,oz];omega
def nums(t:BA):List Nat:=t.data.toList.map UInt8.toNat
def jX(t:BA):Nat:=jE (nums t)
def Qj(t:BA):Prop:=∃c,c<=1114111/\nums t=Qy c
theorem OP(s t:BA)(h:nums s=nums t):s.toList=t.toList:=by
 rw[YP,YP];unfold nums at h;exact (List.map_inj_right (λa b e=>Ye.1 e)).1 h
theorem SV(s t:BA)(g:Qj s)(i:Qj t):(s.toList==t.toList)=decide (jX s=jX t):=by
 obtain⟨c,_,e⟩:=g;obtain⟨d,_,hd⟩:=i;have a:jX s=c:=by unfold jX;rw[e,VO]
 have b:jX t=d:=by unfold jX;rw[hd,VO]
 rw[a,b]
 by_cases h:c=d
 ·subst h
  have:=OP s t (e.trans hd.symm)
  rw[this];simp
 ·have:s.toList≠t.toList:=by
   intro f;apply h;rw[<- a,<- b];unfold jX nums;rw[<- YP,<- YP,f]
  simp[this,h]
theorem rune_le(t:BA)(h:Qj t):jX t<=1114111:=by
 obtain⟨c,a,e⟩:=h;unfold jX;rw[e,VO];exact a
def Y8(n c a b d:Nat):Nat:=
 if n=0 then 0
 else if c<128 then 1
 else if 194<=c/\c<=223 then (if 2<=n/\128<=a/\a<=191 then 2 else 0)
 else if c=224 then (if 3<=n/\160<=a/\a<=191/\128<=b/\b<=191 then 3 else 0)
 else if c=237 then (if 3<=n/\128<=a/\a<=159/\128<=b/\b<=191 then 3 else 0)
 else if 225<=c/\c<=239 then (if 3<=n/\128<=a/\a<=191/\128<=b/\b<=191 then 3 else 0)
 else if c=240 then (if 4<=n/\144<=a/\a<=191/\128<=b/\b<=191/\128<=d/\d<=191 then 4 else 0)
 else if 241<=c/\c<=243 then (if 4<=n/\128<=a/\a<=191/\128<=b/\b<=191/\128<=d/\d<=191 then 4 else 0)
 else if c=244 then (if 4<=n/\128<=a/\a<=143/\128<=b/\b<=191/\128<=d/\d<=191 then 4 else 0)
 else 0
theorem oh(l:List UInt8)(lo hi:Int):XO l lo hi 1=decide (lo<=((l.getD 1 0).toNat:Int)/\((l.getD 1 0).toNat:Int)<=hi):=by
 simp[XO,List.range_succ]
theorem om(l:List UInt8)(lo hi:Int):XO l lo hi 2=(decide (lo<=((l.getD 1 0).toNat:Int)/\((l.getD 1 0).toNat:Int)<=hi)&&decide (128<=(l.getD 2 0).toNat/\(l.getD 2 0).toNat<=191)):=by
 rw[ol,oh];simp
theorem FM(l:List UInt8)(lo hi:Int):XO l lo hi 3=(decide (lo<=((l.getD 1 0).toNat:Int)/\((l.getD 1 0).toNat:Int)<=hi)&&decide (128<=(l.getD 2 0).toNat/\(l.getD 2 0).toNat<=191)&&decide (128<=(l.getD 3 0).toNat/\(l.getD 3 0).toNat<=191)):=by
 rw[ol,om];simp
theorem bn(l:List UInt8)(n lo hi:Int)(a:l.length≠0)(h:¬(l.getD 0 0).toNat<128)(b:qE ((l.getD 0 0).toNat:Int)=(n,lo,hi)) :
  jh l=if n=0 then 0 else if (l.length:Int)<n+1 then 0 else if XO l lo hi n.toNat then n.toNat+1 else 0:=by
 unfold jh;rw[za a,za h,b]
theorem EN(l:List UInt8)(lo hi:Nat)(a:l.length≠0)(h:¬(l.getD 0 0).toNat<128)(b:qE ((l.getD 0 0).toNat:Int)=(1,(lo:Int),(hi:Int))) :
  jh l=if 2<=l.length/\lo<=(l.getD 1 0).toNat/\(l.getD 1 0).toNat<=hi then 2 else 0:=by
 rw[bn l _ _ _ a h b,za (by decide),show (1:Int).toNat=1 from rfl,oh]
 generalize (l.getD 1 0).toNat=b1
 by_cases c:2<=l.length/\lo<=b1/\b1<=hi
 ·rw[zb c,za (by omega),zb (by simp;omega)]
 ·rw[za c]
  by_cases d:(l.length:Int)<1+1
  ·rw[zb d]
  ·rw[za d,za (by simp;omega)]
theorem bg(l:List UInt8)(lo hi:Nat)(a:l.length≠0)(h:¬(l.getD 0 0).toNat<128)(b:qE ((l.getD 0 0).toNat:Int)=(2,(lo:Int),(hi:Int))) :
  jh l=if 3<=l.length/\lo<=(l.getD 1 0).toNat/\(l.getD 1 0).toNat<=hi/\128<=(l.getD 2 0).toNat/\(l.getD 2 0).toNat<=191 then 3 else 0:=by
 rw[bn l _ _ _ a h b,za (by decide),show (2:Int).toNat=2 from rfl,om]
 generalize (l.getD 1 0).toNat=b1;generalize (l.getD 2 0).toNat=b2
 by_cases c:3<=l.length/\lo<=b1/\b1<=hi/\128<=b2/\b2<=191
 ·rw[zb c,za (by omega),zb (by simp;omega)]
 ·rw[za c]
  by_cases d:(l.length:Int)<2+1
  ·rw[zb d]
  ·rw[za d,za (by simp;omega)]
theorem bi(l:List UInt8)(lo hi:Nat)(a:l.length≠0)(h:¬(l.getD 0 0).toNat<128)(b:qE ((l.getD 0 0).toNat:Int)=(3,(lo:Int),(hi:Int))) :
  jh l=if 4<=l.length/\lo<=(l.getD 1 0).toNat/\(l.getD 1 0).toNat<=hi/\128<=(l.getD 2 0).toNat/\(l.getD 2 0).toNat<=191/\128<=(l.getD 3 0).toNat/\(l.getD 3 0).toNat<=191 then 4 else 0:=by
 rw[bn l _ _ _ a h b,za (by decide),show (3:Int).toNat=3 from rfl,FM]
 generalize (l.getD 1 0).toNat=b1;generalize (l.getD 2 0).toNat=b2;generalize (l.getD 3 0).toNat=b3
 by_cases c:4<=l.length/\lo<=b1/\b1<=hi/\128<=b2/\b2<=191/\128<=b3/\b3<=191
 ·rw[zb c,za (by omega),zb (by simp;omega)]
 ·rw[za c]
  by_cases d:(l.length:Int)<3+1
  ·rw[zb d]
  ·rw[za d,za (by simp;omega)]
theorem EO(l:List UInt8):jh l=Y8 l.length (l.getD 0 0).toNat (l.getD 1 0).toNat (l.getD 2 0).toNat (l.getD 3 0).toNat:=by
 unfold Y8
 by_cases hl:l.length=0
 ·rw[zb hl];unfold jh;rw[zb hl]
 rw[za hl]
 by_cases h:(l.getD 0 0).toNat<128
 ·rw[zb h];unfold jh;rw[za hl,zb h]
 rw[za h]
 by_cases c1:194<=(l.getD 0 0).toNat/\(l.getD 0 0).toNat<=223
 ·rw[zb c1];exact EN l 128 191 hl h (by unfold qE;rw[zb (by omega)];rfl)
 rw[za c1]
 by_cases c2:(l.getD 0 0).toNat=224
 ·rw[zb c2];exact bg l 160 191 hl h (by unfold qE;rw[za (by omega),zb (by omega)];rfl)
 rw[za c2]
 by_cases c3:(l.getD 0 0).toNat=237
 ·rw[zb c3];exact bg l 128 159 hl h (by unfold qE;rw[za (by omega),za (by omega),zb (by omega)];rfl)
 rw[za c3]
 by_cases c4:225<=(l.getD 0 0).toNat/\(l.getD 0 0).toNat<=239
 ·rw[zb c4];exact bg l 128 191 hl h (by unfold qE;rw[za (by omega),za (by omega),za (by omega),zb (by omega)];rfl)
 rw[za c4]
 by_cases c5:(l.getD 0 0).toNat=240
 ·rw[zb c5];exact bi l 144 191 hl h (by unfold qE;rw[za (by omega),za (by omega),za (by omega),za (by omega),zb (by omega)];rfl)
 rw[za c5]
 by_cases c6:241<=(l.getD 0 0).toNat/\(l.getD 0 0).toNat<=243
 ·rw[zb c6];exact bi l 128 191 hl h (by unfold qE;rw[za (by omega),za (by omega),za (by omega),za (by omega),za (by omega),zb (by omega)];rfl)
 rw[za c6]
 by_cases c7:(l.getD 0 0).toNat=244
 ·rw[zb c7];exact bi l 128 143 hl h (by unfold qE;rw[za (by omega),za (by omega),za (by omega),za (by omega),za (by omega),za (by omega),zb (by omega)];rfl)
 rw[za c7];unfold jh;rw[za hl,za h,zb];unfold qE;rw[za (by omega),za (by omega),za (by omega),za (by omega),za (by omega),za (by omega),za (by omega)]
theorem Gb(n a b c d:Nat)(h:a<128):Lib.decodeN n a b c d=(a,1):=by
 unfold Lib.decodeN;rw[zb h]
theorem Gd(n a b c d:Nat)(h:194<=a/\a<=223)(f:2<=n)(e:128<=b/\b<=191):Lib.decodeN n a b c d=(a % 32*64+b % 64,2):=by
 unfold Lib.decodeN;rw[za (by omega),zb ⟨by omega,by omega,by omega⟩,zb (by omega)]
theorem Gc(n a b c d:Nat)(h:224<=a/\a<=239)(i:3<=n)(e:128<=b/\b<=191)(f:128<=c/\c<=191)(g:a=224->160<=b)(hb:a=237->b<=159) :
  Lib.decodeN n a b c d=(a % 16*4096+b % 64*64+c % 64,3):=by
 unfold Lib.decodeN;rw[za (by omega),za (by omega),zb ⟨by omega,⟨by omega,by omega⟩,by omega,by omega⟩,zb (by omega)]
theorem Ga(n a b c d:Nat)(h:240<=a/\a<=244)(j:4<=n)(e:128<=b/\b<=191)(f:128<=c/\c<=191)(g:128<=d/\d<=191)(i:a=240->144<=b)(hb:a=244->b<=143) :
  Lib.decodeN n a b c d=(a % 8*262144+b % 64*4096+c % 64*64+d % 64,4):=by
 unfold Lib.decodeN;rw[za (by omega),za (by omega),za (by omega),zb ⟨by omega,⟨by omega,by omega⟩,⟨by omega,by omega⟩,by omega,by omega⟩,zb (by omega)]
def Good(n a b d e k:Nat):Prop:=
 Lib.decodeN n a b d e=(jE ([a,b,d,e].take k),k)/\k<=n/\k<=4/\∃c,c<=1114111/\[a,b,d,e].take k=Qy c
theorem LJ(n a b c d:Nat)(e:n≠0)(h:a<128):Good n a b c d 1:=by
 refine⟨by rw[Gb _ _ _ _ _ h];rfl,by omega,by omega,a,by omega,?_⟩;unfold Qy;rw[zb h];rfl
theorem LK(n a b c d:Nat)(h:194<=a/\a<=223)(f:2<=n)(e:128<=b/\b<=191):Good n a b c d 2:=by
 refine⟨?_,by omega,by omega,a % 32*64+b % 64,by omega,?_⟩
 ·rw[Gd _ _ _ _ _ h f e];show _=(jE [a,b],2);rw[oq,Prod.mk.injEq];exact⟨by omega,rfl⟩
 ·show [a,b]=_;unfold Qy;rw[za (by omega),zb (by omega)];congr 1
  ·omega
  ·congr 1;omega
theorem dG(n a b c d:Nat)(h:224<=a/\a<=239)(i:3<=n)(e:128<=b/\b<=191)(f:128<=c/\c<=191)(g:a=224->160<=b)(hb:a=237->b<=159):Good n a b c d 3:=by
 refine⟨?_,by omega,by omega,a % 16*4096+b % 64*64+c % 64,by omega,?_⟩
 ·rw[Gc _ _ _ _ _ h i e f g hb];show _=(jE [a,b,c],3);rw[ou,Prod.mk.injEq];exact⟨by omega,rfl⟩
 ·show [a,b,c]=_;unfold Qy;rw[za (by omega),za (by omega),zb (by omega)];congr 1
  ·omega
  ·congr 1
   ·omega
   ·congr 1;omega
theorem dF(n a b c d:Nat)(h:240<=a/\a<=244)(j:4<=n)(e:128<=b/\b<=191)(f:128<=c/\c<=191)(g:128<=d/\d<=191)(i:a=240->144<=b)(hb:a=244->b<=143):Good n a b c d 4:=by
 refine⟨?_,by omega,by omega,a % 8*262144+b % 64*4096+c % 64*64+d % 64,by omega,?_⟩
 ·rw[Ga _ _ _ _ _ h j e f g i hb];show _=(jE [a,b,c,d],4);rw[oz,Prod.mk.injEq];exact⟨by omega,rfl⟩
 ·show [a,b,c,d]=_;unfold Qy;rw[za (by omega),za (by omega),za (by omega)];congr 1
  ·omega
  ·congr 1
   ·omega
   ·congr 1
    ·omega
    ·congr 1;omega
theorem FZ(n a b c d:Nat)(e:n≠0)(f:a<256)(h:Y8 n a b c d=0):Lib.decodeN n a b c d=(65533,1):=by
 unfold Y8 at h;rw[za e] at h;unfold Lib.decodeN
 repeat' split at h
 all_goals first|(exfalso;omega)|skip
 all_goals repeat' split
 all_goals first|rfl|(exfalso;omega)
theorem Np(n a b e f:Nat)(g:n≠0)(h:Y8 n a b e f≠0):Good n a b e f (Y8 n a b e f):=by
 unfold Y8 at h |-;rw[za g] at h |-
 split at h
 ·rename_i c;rw[zb c];exact LJ _ _ _ _ _ g c
 rename_i c0;rw[za c0]
 split at h
 ·rename_i c;rw[zb c]
  split at h
  ·rename_i d;rw[zb d];exact LK _ _ _ _ _ c d.1 d.2
  ·exact absurd rfl h
 rename_i c1;rw[za c1]
 split at h
 ·rename_i c;rw[zb c]
  split at h
  ·rename_i d;rw[zb d];exact dG _ _ _ _ _ (by omega) d.1 (by omega) (by omega) (by omega) (by omega)
  ·exact absurd rfl h
 rename_i c2;rw[za c2]
 split at h
 ·rename_i c;rw[zb c]
  split at h
  ·rename_i d;rw[zb d];exact dG _ _ _ _ _ (by omega) d.1 (by omega) (by omega) (by omega) (by omega)
  ·exact absurd rfl h
 rename_i c3;rw[za c3]
 split at h
 ·rename_i c;rw[zb c]
  split at h
  ·rename_i d;rw[zb d];exact dG _ _ _ _ _ (by omega) d.1 (by omega) (by omega) (by omega) (by omega)
  ·exact absurd rfl h
 rename_i c4;rw[za c4]
 split at h
 ·rename_i c;rw[zb c]
  split at h
  ·rename_i d;rw[zb d];exact dF _ _ _ _ _ (by omega) d.1 (by omega) (by omega) (by omega) (by omega) (by omega)
  ·exact absurd rfl h
 rename_i c5;rw[za c5]
 split at h
 ·rename_i c;rw[zb c]
  split at h
  ·rename_i d;rw[zb d];exact dF _ _ _ _ _ (by omega) d.1 (by omega) (by omega) (by omega) (by omega) (by omega)
  ·exact absurd rfl h
 rename_i i;rw[za i]
 split at h
 ·rename_i c;rw[zb c]
  split at h
  ·rename_i d;rw[zb d];exact dF _ _ _ _ _ (by omega) d.1 (by omega) (by omega) (by omega) (by omega) (by omega)
  ·exact absurd rfl h
 ·exact absurd rfl h
theorem pR(s:BA)(k:Nat):s.get! k=s.data.toList.getD k 0:=by
 obtain⟨⟨l⟩⟩:=s;show (Array.mk l)[k]! = _
 by_cases h:k<l.length
 ·simp[List.getD,h]
 ·simp[List.getD,h];rfl
theorem zaw(l:List UInt8)(k:Nat)(f:k<=4)(e:k<=l.length):(l.take k).map UInt8.toNat=[(l.getD 0 0).toNat,(l.getD 1 0).toNat,(l.getD 2 0).toNat,(l.getD 3 0).toNat].take k:=by
 obtain rfl|rfl|rfl|rfl|rfl:k=0\/k=1\/k=2\/k=3\/k=4:=by omega
 all_goals rcases l with _|⟨a,_|⟨b,_|⟨c,_|⟨d,l⟩⟩⟩⟩
 all_goals first|rfl|(simp at e)
theorem OO(s:BA)(k:Nat):nums (s.extract 0 k)=(s.data.toList.take k).map UInt8.toNat:=by
 unfold nums;simp[ByteArray.data_extract]
theorem VQ(s:BA)(r:0<s.size) :
  (Yi s=false/\Utf8.decode s 0=(65533,1)) \/
  (Yi s=true/\Qj (qJ s)/\Utf8.decode s 0=(jX (qJ s),(qJ s).size)/\¬(jX (qJ s)=65533/\(qJ s).size=1)):=by
 have hd:=Lib.decode_at s 0;simp only[pR,Nat.sub_zero,qM] at hd;have b:=EO s.data.toList;have a:s.data.toList.length=s.size:=zP s;rw[a] at b
 by_cases h:jh s.data.toList=0
 ·left
  refine⟨by unfold Yi;rw[h];rfl,?_⟩;rw[hd];exact FZ _ _ _ _ _ (by omega) (aM _) (b.symm.trans h)
 ·right
  have l:qJ s=s.extract 0 (jh s.data.toList):=by unfold qJ;rw[za h]
  have j:=Np _ _ _ _ _ (by omega) (λe=>h (b.trans e));rw[<- b] at j;obtain⟨n,o,p,c,q,i⟩:=j
  have d:nums (qJ s)=Qy c:=by
   rw[l,OO,zaw _ _ p (by rw[a];exact o)];exact i
  have k:jX (qJ s)=c:=by unfold jX;rw[d,VO]
  have f:(qJ s).size=jh s.data.toList:=by rw[l,jK];omega
  refine⟨by unfold Yi;simp[h],⟨c,q,d⟩,?_,?_⟩
  ·rw[hd,n,k,f,i,VO]
  ·rintro ⟨g,m⟩;rw[k] at g
   have:(nums (qJ s)).length=1:=by unfold nums;rw[qg,zP];exact m
   rw[d,g] at this;simp[Qy] at this
def xz(p:Int×BA):Int:=if p.1=3 then -2 else if p.1=2 then -1 else if p.1=4 then 0 else (jX p.2:Int)
def nameOf(p:Int×BA):BA:=if p.1=4 then p.2 else ⟨#[]⟩
def JK(u:BA):Nat:=u.data.toList.findIdx λc=>c.toNat==125
def Q9(u:BA):Bool:=decide (JK u<u.size)
def Xa(u:BA):BA:=if Q9 u then u.extract 0 (JK u) else u
theorem Mq(l:List UInt8):Lib.index l [125]=if l.findIdx (λc=>c.toNat==125)<l.length then ((l.findIdx λc=>c.toNat==125:Nat):Int) else -1:=by
 induction l with
 | nil=>rfl
 | cons b l g=>
  unfold Lib.index;rw[g,List.findIdx_cons]
  have e:([125].isPrefixOf (b::l))=(b.toNat==125):=by
   simp only[List.isPrefixOf,YJ];rw[vk,Zz,Zz]
   constructor
   ·intro h;rw[<- h];rfl
   ·intro h;exact (Ye.1 (by rw[h];rfl)).symm
  rw[e]
  cases h:b.toNat==125 with
  | true=>simp
  | false=>
   simp only[yB,yu,cond_false,uU];generalize l.findIdx (λc=>c.toNat==125)=f;generalize l.length=n
   by_cases hl:f<n
   ·have a:f+1<n+1:=by omega
    have d:((f:Int) == -1)=false:=by rw[xh];omega
    simp[hl,a,d]
   ·have a:¬f+1<n+1:=by omega
    simp[hl,a]
theorem FY(u:BA):(⟨(Lib.cut u.data.toList [125]).1.toArray⟩:BA)=Xa u/\(Lib.cut u.data.toList [125]).2.2=Q9 u:=by
 have hi:=Mq u.data.toList;rw[zP] at hi;unfold Xa Q9 JK
 by_cases h:u.data.toList.findIdx (λc=>c.toNat==125)<u.size
 ·rw[zb h] at hi;have a:=Lib.cutB_hit u ⟨#[125]⟩ _ hi;rw[zF h,zb rfl];exact⟨a.1,a.2.2⟩
 ·rw[za h] at hi;have a:=Lib.cutB_miss u ⟨#[125]⟩ hi;rw[zH h,za (by decide)];exact⟨a.1,a.2.2⟩
def Qv(t:BA):Int×BA×Nat:=
 if t.size=0 then (0,⟨#[]⟩,0)
 else if (t.data.toList.getD 0 0).toNat=36\/(t.data.toList.getD 0 0).toNat=42\/(t.data.toList.getD 0 0).toNat=63 then ((t.data.toList.getD 0 0).toNat,⟨#[]⟩,2)
 else if (t.data.toList.getD 0 0).toNat=123 then
  (if Q9 (t.extract 1 t.size) then (if qm (Xa (t.extract 1 t.size)) then (0,Xa (t.extract 1 t.size),2+(Xa (t.extract 1 t.size)).size+1) else (0,⟨#[]⟩,0)) else (0,⟨#[]⟩,0))
 else (0,⟨#[]⟩,0)
def Jh(p:Option (Int×BA×Nat)):Int×BA×Nat:=match p with
 | none=>(0,⟨#[]⟩,0)
 | some (k,t,n)=>(xz (k,t),nameOf (k,t),n)
def U1(s:BA):Option (Int×BA×Nat):=if (Qw s).2.2=0 then none else some (Qw s)
theorem Iy(s:BA):(s.extract 1 s.size).data.toList=s.data.toList.drop 1:=Lib.ext_list s 1
theorem Iz(s:BA)(k:Nat):(s.extract k s.size).extract 1 (s.extract k s.size).size=s.extract (k+1) s.size:=by
 rw[aa,jK];have e:min (k+(min s.size s.size-k)) s.size=s.size\/s.size<=k:=by omega
 rcases e with e|e
 ·rw[e]
 ·have a:min (k+(min s.size s.size-k)) s.size=s.size:=by omega
  rw[a]
theorem SQ(s:BA)(k:Nat)(b:k<s.size):jX (s.extract k (k+1))=(s.data.toList.getD k 0).toNat:=by
 unfold jX nums
 have:(s.extract k (k+1)).data.toList=[s.data.toList.getD k 0]:=by
  have a:k<s.data.toList.length:=by rw[zP];exact b
  rw[Jn,Uu,zQ,zt a];simp only[ai,yO];rw[ZQ a]
  simp
 rw[this];simp only[vw,Zv,oo]
theorem GL(s:BA)(j:0<s.size):Qv (s.extract 1 s.size)=Jh (U1 s):=by
 have d:(s.extract 1 s.size).size=s.size-1:=by rw[jK];omega
 have f:(s.extract 1 s.size).data.toList.getD 0 0=s.data.toList.getD 1 0:=by
  rw[Iy];simp
 unfold Qv;rw[f,d];unfold U1 Qw
 by_cases h2:s.size<2
 ·rw[zb (by omega),zb h2];rfl
 rw[za (by omega),za h2]
 by_cases h3:(s.data.toList.getD 1 0).toNat=36\/(s.data.toList.getD 1 0).toNat=42\/(s.data.toList.getD 1 0).toNat=63
 ·rw[zb h3,zb h3];show _=(xz (1,s.extract 1 2),nameOf (1,s.extract 1 2),2)
  have:xz (1,s.extract 1 2)=((s.data.toList.getD 1 0).toNat:Int):=by
   show ((jX (s.extract 1 2):Nat):Int)=_;rw[SQ s 1 (by omega)]
  rw[this];rfl
 rw[za h3,za h3]
 by_cases h4:(s.data.toList.getD 1 0).toNat=123
 ·rw[zb h4,zb h4]
  have i:(s.extract 1 s.size).extract 1 (s.size-1)=s.extract 2 s.size:=by
   have:=Iz s 1;rw[d] at this;exact this
  rw[i];have g:(s.extract 2 s.size).data.toList=s.data.toList.drop 2:=Lib.ext_list s 2;have hb:kZ s=2+JK (s.extract 2 s.size):=by unfold kZ JK;rw[g]
  have a:(s.extract 2 s.size).size=s.size-2:=by rw[jK];omega
  by_cases hc:kZ s<s.size
  ·have b:Q9 (s.extract 2 s.size)=true:=by unfold Q9;rw[a];exact zF (by omega)
   have h:Xa (s.extract 2 s.size)=s.extract 2 (kZ s):=by
    unfold Xa;rw[b,zb rfl,aa];have e:min (2+JK (s.extract 2 s.size)) s.size=kZ s:=by rw[hb] at hc |-;omega
    rw[e]
   have c:(s.extract 2 (kZ s)).size=kZ s-2:=by rw[jK];omega
   rw[b,zb rfl,zb hc,h]
   by_cases hi:qm (s.extract 2 (kZ s))=true
   ·rw[zb hi,zb hi];show _=(xz (4,_),nameOf (4,_),_);rw[c]
    have:2+(kZ s-2)+1=kZ s+1:=by omega
    rw[this];rfl
   ·rw[za hi,za hi];rfl
  ·have b:Q9 (s.extract 2 s.size)=false:=by unfold Q9;rw[a];exact zH (by omega)
   rw[b,za (by decide),za hc];rfl
 ·rw[za h4,za h4];rfl
theorem nK(s:BA)(c:0<s.size):(qJ s).data.toList.getD 0 0=s.data.toList.getD 0 0:=by
 unfold qJ;generalize b:(if jh s.data.toList=0 then 1 else jh s.data.toList)=k
 have d:1<=k:=by rw[<- b];split<;>omega
 obtain⟨⟨l⟩⟩:=s
 cases l with
 | nil=>exact absurd c (by decide)
 | cons a l=>
  obtain⟨j,rfl⟩:∃j,k=j+1:=⟨k-1,by omega⟩;simp[ByteArray.data_extract]
theorem bq(s:BA)(a:0<s.size)(c:UInt8)(h:(s.data.toList.getD 0 0).toNat≠c.toNat):((qJ s).toList==[c])=false:=by
 rw[xh];intro e;rw[YP] at e
 have:=nK s a
 rw[e] at this;apply h;rw[<- this];rfl
theorem aZ(s:BA)(g:0<s.size)(c:UInt8)(j:c.toNat<128)(h:(s.data.toList.getD 0 0).toNat=c.toNat):(qJ s).toList=[c]/\Yi s=true/\(qJ s).size=1:=by
 have d:jh s.data.toList=1:=by
  unfold jh;rw[zP,za (by omega),zb (by omega)]
 have i:qJ s=s.extract 0 1:=by unfold qJ;rw[d];rfl
 have e:(qJ s).size=1:=by rw[i,jK];omega
 refine⟨?_,by unfold Yi;rw[d];rfl,e⟩;rw[YP];have b:=nK s g;have hlen:(qJ s).data.toList.length=1:=by rw[zP];exact e
 obtain⟨a,f⟩:=List.length_eq_one_iff.1 hlen;rw[f] at b |-
 have:a=c:=Ye.1 (by rw[<- h,<- b];rfl)
 rw[this]
theorem Wv(s:BA)(d:0<s.size)(h:(s.data.toList.getD 0 0).toNat=42):Jh (yK s)=(-2,⟨#[]⟩,1):=by
 obtain⟨a,b,c⟩:=aZ s d 42 (by decide) h
 have:yK s=some (3,qJ s,1):=by
  unfold yK;rw[b,a,c];rfl
 rw[this];rfl
theorem Wu(s:BA)(d:0<s.size)(h:(s.data.toList.getD 0 0).toNat=63):Jh (yK s)=(-1,⟨#[]⟩,1):=by
 obtain⟨a,b,c⟩:=aZ s d 63 (by decide) h
 have:yK s=some (2,qJ s,1):=by
  unfold yK;rw[b,a,c];rfl
 rw[this];rfl
theorem Wp(s:BA)(a:0<s.size)(h:(s.data.toList.getD 0 0).toNat=36):Jh (yK s)=Qv (s.extract 1 s.size):=by
 obtain⟨b,c,d⟩:=aZ s a 36 (by decide) h
 have:yK s=U1 s:=by
  unfold yK U1;rw[c,b];rfl
 rw[this,GL s a]
theorem BG(s:BA)(a:0<s.size)(f:(s.data.toList.getD 0 0).toNat≠42)(g:(s.data.toList.getD 0 0).toNat≠63)(h:(s.data.toList.getD 0 0).toNat≠36) :
  (Utf8.decode s 0=(65533,1)/\Jh (yK s)=(0,⟨#[]⟩,0)) \/
  (∃c n,c<=1114111/\Utf8.decode s 0=(c,n)/\¬(c=65533/\n=1)/\n<=s.size/\Jh (yK s)=((c:Int),⟨#[]⟩,n)):=by
 have b:=bq s a 42 f;have d:=bq s a 63 g;have e:=bq s a 36 h
 rcases VQ s a with ⟨ho,hd⟩|⟨ho,hc,hd,hn⟩
 ·left
  refine⟨hd,?_⟩
  have:yK s=none:=by unfold yK;rw[zb ho]
  rw[this];rfl
 ·right
  refine⟨_,_,rune_le _ hc,hd,hn,(VM s a).2,?_⟩
  have:yK s=some (1,qJ s,(qJ s).size):=by
   unfold yK;rw[ho,b,d,e];rfl
  rw[this];rfl
end Pg
end Go.Proofs.YtagnlbgbnfnapaaGreatDoor
namespace Go.Proofs.YtagnlbgbnfnapaaGreatDoor
open Go.Shelf
def Tryz.lays197_ren:Go.Shelf.Ren:=⟨λ|197=>197|260=>231|n=>n,λ|9=>9|21=>21|3=>3|4=>4|5=>5|105=>356|119=>262|0=>0|46=>266|139=>265|138=>264|n=>n,λ|3=>2|4=>3|n=>n⟩
theorem Tryz.lays197:Go.Proofs.Lays.n197 prog Tryz.lays197_ren:={
 mixed:=by kernel_rfl
 f197:=func197.trans (congrArg some (by kernel_rfl))
 f260:=func231.trans (congrArg some (by kernel_rfl))
 t0:=underlying0
 a0:=Tryz.isAgg0
 z0:=Tryz.sizeOf0
 v0:=Tryz.zeroValue0
 t3:=underlying3
 a3:=Tryz.isAgg3
 z3:=Tryz.sizeOf3
 v3:=Tryz.zeroValue3
 t4:=underlying4
 a4:=Tryz.isAgg4
 z4:=Tryz.sizeOf4
 v4:=Tryz.zeroValue4
 t5:=underlying5
 a5:=Tryz.isAgg5
 z5:=Tryz.sizeOf5
 v5:=Tryz.zeroValue5
 t9:=underlying9
 a9:=Tryz.isAgg9
 z9:=Tryz.sizeOf9
 v9:=Tryz.zeroValue9
 t21:=underlying21
 a21:=Tryz.isAgg21
 z21:=Tryz.sizeOf21
 v21:=Tryz.zeroValue21
 t46:=underlying266
 a46:=Tryz.isAgg266
 z46:=Tryz.sizeOf266
 v46:=Tryz.zeroValue266
 t105:=underlying356
 a105:=Tryz.isAgg356
 z105:=Tryz.sizeOf356
 v105:=Tryz.zeroValue356
 t119:=underlying262
 a119:=Tryz.isAgg262
 z119:=Tryz.sizeOf262
 t138:=underlying264
 a138:=Tryz.isAgg264
 z138:=Tryz.sizeOf264
 v138:=Tryz.zeroValue264
 t139:=underlying265
 a139:=Tryz.isAgg265
 z139:=Tryz.sizeOf265
 v139:=Tryz.zeroValue265
 g3:=by kernel_rfl
 g4:=by kernel_rfl }
def Tryz.lays145_ren:Go.Shelf.Ren:=⟨λ|145=>230|220=>250|219=>260|217=>261|225=>262|224=>263|267=>264|266=>265|314=>266|n=>n,λ|9=>9|4=>4|59=>386|3=>3|5=>5|46=>266|146=>412|51=>398|n=>n,λ|1=>4|n=>n⟩
theorem Tryz.lays145:Go.Proofs.Lays.n145 prog Tryz.lays145_ren:={
 mixed:=by kernel_rfl
 f145:=func230.trans (congrArg some (by kernel_rfl))
 f217:=func261.trans (congrArg some (by kernel_rfl))
 f219:=func260.trans (congrArg some (by kernel_rfl))
 f220:=func250.trans (congrArg some (by kernel_rfl))
 f224:=func263.trans (congrArg some (by kernel_rfl))
 f225:=func262.trans (congrArg some (by kernel_rfl))
 f266:=func265.trans (congrArg some (by kernel_rfl))
 f267:=func264.trans (congrArg some (by kernel_rfl))
 f314:=func266.trans (congrArg some (by kernel_rfl))
 t3:=underlying3
 a3:=Tryz.isAgg3
 z3:=Tryz.sizeOf3
 v3:=Tryz.zeroValue3
 t4:=underlying4
 a4:=Tryz.isAgg4
 z4:=Tryz.sizeOf4
 v4:=Tryz.zeroValue4
 t5:=underlying5
 a5:=Tryz.isAgg5
 z5:=Tryz.sizeOf5
 v5:=Tryz.zeroValue5
 t9:=underlying9
 a9:=Tryz.isAgg9
 z9:=Tryz.sizeOf9
 v9:=Tryz.zeroValue9
 t46:=underlying266
 a46:=Tryz.isAgg266
 z46:=Tryz.sizeOf266
 v46:=Tryz.zeroValue266
 t51:=underlying398
 a51:=Tryz.isAgg398
 z51:=Tryz.sizeOf398
 v51:=Tryz.zeroValue398
 t59:=underlying386
 a59:=Tryz.isAgg386
 z59:=Tryz.sizeOf386
 v59:=Tryz.zeroValue386
 t146:=underlying412
 a146:=Tryz.isAgg412
 z146:=Tryz.sizeOf412
 v146:=Tryz.zeroValue412
 g1:=by kernel_rfl }
def Tryz.lays196_ren:Go.Shelf.Ren:=⟨λ|196=>85|259=>135|n=>n,λ|9=>9|4=>4|3=>3|5=>5|12=>12|119=>262|0=>0|46=>266|139=>265|138=>264|53=>334|n=>n,λ|3=>2|4=>3|n=>n⟩
theorem Tryz.lays196:Go.Proofs.Lays.n196 prog Tryz.lays196_ren:={
 mixed:=by kernel_rfl
 f196:=func85.trans (congrArg some (by kernel_rfl))
 f259:=func135.trans (congrArg some (by kernel_rfl))
 t0:=underlying0
 a0:=Tryz.isAgg0
 z0:=Tryz.sizeOf0
 v0:=Tryz.zeroValue0
 t3:=underlying3
 a3:=Tryz.isAgg3
 z3:=Tryz.sizeOf3
 v3:=Tryz.zeroValue3
 t4:=underlying4
 a4:=Tryz.isAgg4
 z4:=Tryz.sizeOf4
 v4:=Tryz.zeroValue4
 t5:=underlying5
 a5:=Tryz.isAgg5
 z5:=Tryz.sizeOf5
 v5:=Tryz.zeroValue5
 t9:=underlying9
 a9:=Tryz.isAgg9
 z9:=Tryz.sizeOf9
 v9:=Tryz.zeroValue9
 t12:=underlying12
 a12:=Tryz.isAgg12
 z12:=Tryz.sizeOf12
 v12:=Tryz.zeroValue12
 t46:=underlying266
 a46:=Tryz.isAgg266
 z46:=Tryz.sizeOf266
 v46:=Tryz.zeroValue266
 t53:=underlying334
 a53:=Tryz.isAgg334
 z53:=Tryz.sizeOf334
 v53:=Tryz.zeroValue334
 t119:=underlying262
 a119:=Tryz.isAgg262
 z119:=Tryz.sizeOf262
 t138:=underlying264
 a138:=Tryz.isAgg264
 z138:=Tryz.sizeOf264
 v138:=Tryz.zeroValue264
 t139:=underlying265
 a139:=Tryz.isAgg265
 z139:=Tryz.sizeOf265
 v139:=Tryz.zeroValue265
 g3:=by kernel_rfl
 g4:=by kernel_rfl }
end Go.Proofs.YtagnlbgbnfnapaaGreatDoor
