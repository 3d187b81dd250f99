/- P -/
import Derived.Test.YtdakgnaojakldaaGreatDoorQ11
import Derived.Lib.DecodeN
import Derived.Lib.Strings
import Derived.Lib.CutLaws
import Derived.Lib.ValidAsc
import Derived.Shelf.Unicode.DecodeAny
import Derived.Shelf.Strings.Cut
open Go.Proofs.Tryz
set_option maxRecDepth 100000
set_option maxHeartbeats 4000000
namespace Go.Proofs.YtdakgnaojakldaaGreatDoor
namespace Pg
open Ref
def ZW(c:Nat):List Nat:=
 if c<128 then [c]
 else if c<2048 then [192+c / 64,128+c % 64]
 else if c<65536 then [224+c / 4096,128+c / 64 % 64,128+c % 64]
 else [240+c / 262144,128+c / 4096 % 64,128+c / 64 % 64,128+c % 64]
def jq(l:List Nat):Nat:=
 if l.length=1 then l.getD 0 0
 else if l.length=2 then (l.getD 0 0-192)*64+(l.getD 1 0-128)
 else if l.length=3 then (l.getD 0 0-224)*4096+(l.getD 1 0-128)*64+(l.getD 2 0-128)
 else (l.getD 0 0-240)*262144+(l.getD 1 0-128)*4096+(l.getD 2 0-128)*64+(l.getD 3 0-128)
theorem mf(a:Nat):jq [a]=a:=by
 simp[jq]
theorem mg(a b:Nat):jq [a,b]=(a-192)*64+(b-128):=by
 simp[jq]
theorem mh(a b c:Nat):jq [a,b,c]=(a-224)*4096+(b-128)*64+(c-128):=by
 simp[jq]
theorem mi(a b c d:Nat):jq [a,b,c,d]=(a-240)*262144+(b-128)*4096+(c-128)*64+(d-128):=by
 simp[jq]
theorem Vm(c:Nat):jq (ZW c)=c:=by
 unfold ZW
 by_cases h1:c<128
 ·rw[zb h1,mf]
 by_cases h2:c<2048
 ·rw[za h1,zb h2,mg];omega
 by_cases h3:c<65536
 ·rw[za h1,za h2,zb h3,mh];omega
 ·rw[za h1,za h2,za h3,mi];omega
def nums(t:BA):List Nat:=t.data.toList.map UInt8.toNat
def jI(t:BA):Nat:=jq (nums t)
def ZI(t:BA):Prop:=∃c,c<=1114111/\nums t=ZW c
theorem Oh(s t:BA)(h:nums s=nums t):s.toList=t.toList:=by
 rw[Lib.toList_data,Lib.toList_data];unfold nums at h;exact (List.map_inj_right (λa b e=>XJ.1 e)).1 h
theorem Sj(s t:BA)(g:ZI s)(i:ZI t):(s.toList==t.toList)=decide (jI s=jI t):=by
 obtain⟨c,_,e⟩:=g;obtain⟨d,_,hd⟩:=i;have a:jI s=c:=by unfold jI;rw[e,Vm]
 have b:jI t=d:=by unfold jI;rw[hd,Vm]
 rw[a,b]
 by_cases h:c=d
 ·subst h
  have:=Oh s t (e.trans hd.symm)
  rw[this];simp
 ·have:s.toList≠t.toList:=by
   intro f;apply h;rw[<- a,<- b];unfold jI nums;rw[<- Lib.toList_data,<- Lib.toList_data,f]
  simp[this,h]
theorem rune_le(t:BA)(h:ZI t):jI t<=1114111:=by
 obtain⟨c,a,e⟩:=h;unfold jI;rw[e,Vm];exact a
def YF(n c a b d:Nat):Nat:=
 if n=0 then 0
 else if c<128 then 1
 else if 194<=c/\c<=223 then (if 2<=n/\128<=a/\a<=191 then 2 else 0)
 else if c=224 then (if 3<=n/\160<=a/\a<=191/\128<=b/\b<=191 then 3 else 0)
 else if c=237 then (if 3<=n/\128<=a/\a<=159/\128<=b/\b<=191 then 3 else 0)
 else if 225<=c/\c<=239 then (if 3<=n/\128<=a/\a<=191/\128<=b/\b<=191 then 3 else 0)
 else if c=240 then (if 4<=n/\144<=a/\a<=191/\128<=b/\b<=191/\128<=d/\d<=191 then 4 else 0)
 else if 241<=c/\c<=243 then (if 4<=n/\128<=a/\a<=191/\128<=b/\b<=191/\128<=d/\d<=191 then 4 else 0)
 else if c=244 then (if 4<=n/\128<=a/\a<=143/\128<=b/\b<=191/\128<=d/\d<=191 then 4 else 0)
 else 0
theorem lV(l:List UInt8)(lo hi:Int):Xh l lo hi 1=decide (lo<=((l.getD 1 0).toNat:Int)/\((l.getD 1 0).toNat:Int)<=hi):=by
 simp[Xh,List.range_succ]
theorem lX(l:List UInt8)(lo hi:Int):Xh l lo hi 2=(decide (lo<=((l.getD 1 0).toNat:Int)/\((l.getD 1 0).toNat:Int)<=hi)&&decide (128<=(l.getD 2 0).toNat/\(l.getD 2 0).toNat<=191)):=by
 rw[lW,lV];simp
theorem Et(l:List UInt8)(lo hi:Int):Xh l lo hi 3=(decide (lo<=((l.getD 1 0).toNat:Int)/\((l.getD 1 0).toNat:Int)<=hi)&&decide (128<=(l.getD 2 0).toNat/\(l.getD 2 0).toNat<=191)&&decide (128<=(l.getD 3 0).toNat/\(l.getD 3 0).toNat<=191)):=by
 rw[lW,lX];simp
theorem ax(l:List UInt8)(n lo hi:Int)(a:l.length≠0)(h:¬(l.getD 0 0).toNat<128)(b:qz ((l.getD 0 0).toNat:Int)=(n,lo,hi)) :
  ja l=if n=0 then 0 else if (l.length:Int)<n+1 then 0 else if Xh l lo hi n.toNat then n.toNat+1 else 0:=by
 unfold ja;rw[za a,za h,b]
theorem Dv(l:List UInt8)(lo hi:Nat)(a:l.length≠0)(h:¬(l.getD 0 0).toNat<128)(b:qz ((l.getD 0 0).toNat:Int)=(1,(lo:Int),(hi:Int))) :
  ja l=if 2<=l.length/\lo<=(l.getD 1 0).toNat/\(l.getD 1 0).toNat<=hi then 2 else 0:=by
 rw[ax l _ _ _ a h b,za (by decide),show (1:Int).toNat=1 from rfl,lV]
 generalize (l.getD 1 0).toNat=b1
 by_cases c:2<=l.length/\lo<=b1/\b1<=hi
 ·rw[zb c,za (by omega),zb (by simp;omega)]
 ·rw[za c]
  by_cases d:(l.length:Int)<1+1
  ·rw[zb d]
  ·rw[za d,za (by simp;omega)]
theorem ak(l:List UInt8)(lo hi:Nat)(a:l.length≠0)(h:¬(l.getD 0 0).toNat<128)(b:qz ((l.getD 0 0).toNat:Int)=(2,(lo:Int),(hi:Int))) :
  ja l=if 3<=l.length/\lo<=(l.getD 1 0).toNat/\(l.getD 1 0).toNat<=hi/\128<=(l.getD 2 0).toNat/\(l.getD 2 0).toNat<=191 then 3 else 0:=by
 rw[ax l _ _ _ a h b,za (by decide),show (2:Int).toNat=2 from rfl,lX]
 generalize (l.getD 1 0).toNat=b1;generalize (l.getD 2 0).toNat=b2
 by_cases c:3<=l.length/\lo<=b1/\b1<=hi/\128<=b2/\b2<=191
 ·rw[zb c,za (by omega),zb (by simp;omega)]
 ·rw[za c]
  by_cases d:(l.length:Int)<2+1
  ·rw[zb d]
  ·rw[za d,za (by simp;omega)]
theorem au(l:List UInt8)(lo hi:Nat)(a:l.length≠0)(h:¬(l.getD 0 0).toNat<128)(b:qz ((l.getD 0 0).toNat:Int)=(3,(lo:Int),(hi:Int))) :
  ja l=if 4<=l.length/\lo<=(l.getD 1 0).toNat/\(l.getD 1 0).toNat<=hi/\128<=(l.getD 2 0).toNat/\(l.getD 2 0).toNat<=191/\128<=(l.getD 3 0).toNat/\(l.getD 3 0).toNat<=191 then 4 else 0:=by
 rw[ax l _ _ _ a h b,za (by decide),show (3:Int).toNat=3 from rfl,Et]
 generalize (l.getD 1 0).toNat=b1;generalize (l.getD 2 0).toNat=b2;generalize (l.getD 3 0).toNat=b3
 by_cases c:4<=l.length/\lo<=b1/\b1<=hi/\128<=b2/\b2<=191/\128<=b3/\b3<=191
 ·rw[zb c,za (by omega),zb (by simp;omega)]
 ·rw[za c]
  by_cases d:(l.length:Int)<3+1
  ·rw[zb d]
  ·rw[za d,za (by simp;omega)]
theorem Dw(l:List UInt8):ja l=YF l.length (l.getD 0 0).toNat (l.getD 1 0).toNat (l.getD 2 0).toNat (l.getD 3 0).toNat:=by
 unfold YF
 by_cases hl:l.length=0
 ·rw[zb hl];unfold ja;rw[zb hl]
 rw[za hl]
 by_cases h:(l.getD 0 0).toNat<128
 ·rw[zb h];unfold ja;rw[za hl,zb h]
 rw[za h]
 by_cases c1:194<=(l.getD 0 0).toNat/\(l.getD 0 0).toNat<=223
 ·rw[zb c1];exact Dv l 128 191 hl h (by unfold qz;rw[zb (by omega)];rfl)
 rw[za c1]
 by_cases c2:(l.getD 0 0).toNat=224
 ·rw[zb c2];exact ak l 160 191 hl h (by unfold qz;rw[za (by omega),zb (by omega)];rfl)
 rw[za c2]
 by_cases c3:(l.getD 0 0).toNat=237
 ·rw[zb c3];exact ak l 128 159 hl h (by unfold qz;rw[za (by omega),za (by omega),zb (by omega)];rfl)
 rw[za c3]
 by_cases c4:225<=(l.getD 0 0).toNat/\(l.getD 0 0).toNat<=239
 ·rw[zb c4];exact ak l 128 191 hl h (by unfold qz;rw[za (by omega),za (by omega),za (by omega),zb (by omega)];rfl)
 rw[za c4]
 by_cases c5:(l.getD 0 0).toNat=240
 ·rw[zb c5];exact au l 144 191 hl h (by unfold qz;rw[za (by omega),za (by omega),za (by omega),za (by omega),zb (by omega)];rfl)
 rw[za c5]
 by_cases c6:241<=(l.getD 0 0).toNat/\(l.getD 0 0).toNat<=243
 ·rw[zb c6];exact au l 128 191 hl h (by unfold qz;rw[za (by omega),za (by omega),za (by omega),za (by omega),za (by omega),zb (by omega)];rfl)
 rw[za c6]
 by_cases c7:(l.getD 0 0).toNat=244
 ·rw[zb c7];exact au l 128 143 hl h (by unfold qz;rw[za (by omega),za (by omega),za (by omega),za (by omega),za (by omega),za (by omega),zb (by omega)];rfl)
 rw[za c7];unfold ja;rw[za hl,za h,zb];unfold qz;rw[za (by omega),za (by omega),za (by omega),za (by omega),za (by omega),za (by omega),za (by omega)]
theorem EI(n a b c d:Nat)(h:a<128):Lib.decodeN n a b c d=(a,1):=by
 unfold Lib.decodeN;rw[zb h]
theorem EM(n a b c d:Nat)(h:194<=a/\a<=223)(f:2<=n)(e:128<=b/\b<=191):Lib.decodeN n a b c d=(a % 32*64+b % 64,2):=by
 unfold Lib.decodeN;rw[za (by omega),zb ⟨by omega,by omega,by omega⟩,zb (by omega)]
theorem EK(n a b c d:Nat)(h:224<=a/\a<=239)(i:3<=n)(e:128<=b/\b<=191)(f:128<=c/\c<=191)(g:a=224->160<=b)(hb:a=237->b<=159) :
  Lib.decodeN n a b c d=(a % 16*4096+b % 64*64+c % 64,3):=by
 unfold Lib.decodeN;rw[za (by omega),za (by omega),zb ⟨by omega,⟨by omega,by omega⟩,by omega,by omega⟩,zb (by omega)]
theorem EH(n a b c d:Nat)(h:240<=a/\a<=244)(j:4<=n)(e:128<=b/\b<=191)(f:128<=c/\c<=191)(g:128<=d/\d<=191)(i:a=240->144<=b)(hb:a=244->b<=143) :
  Lib.decodeN n a b c d=(a % 8*262144+b % 64*4096+c % 64*64+d % 64,4):=by
 unfold Lib.decodeN;rw[za (by omega),za (by omega),za (by omega),zb ⟨by omega,⟨by omega,by omega⟩,⟨by omega,by omega⟩,by omega,by omega⟩,zb (by omega)]
def Good(n a b d e k:Nat):Prop:=
 Lib.decodeN n a b d e=(jq ([a,b,d,e].take k),k)/\k<=n/\k<=4/\∃c,c<=1114111/\[a,b,d,e].take k=ZW c
theorem HY(n a b c d:Nat)(e:n≠0)(h:a<128):Good n a b c d 1:=by
 refine⟨by rw[EI _ _ _ _ _ h];rfl,by omega,by omega,a,by omega,?_⟩;unfold ZW;rw[zb h];rfl
theorem Ia(n a b c d:Nat)(h:194<=a/\a<=223)(f:2<=n)(e:128<=b/\b<=191):Good n a b c d 2:=by
 refine⟨?_,by omega,by omega,a % 32*64+b % 64,by omega,?_⟩
 ·rw[EM _ _ _ _ _ h f e];show _=(jq [a,b],2);rw[mg,Prod.mk.injEq];exact⟨by omega,rfl⟩
 ·show [a,b]=_;unfold ZW;rw[za (by omega),zb (by omega)];congr 1
  ·omega
  ·congr 1;omega
theorem bI(n a b c d:Nat)(h:224<=a/\a<=239)(i:3<=n)(e:128<=b/\b<=191)(f:128<=c/\c<=191)(g:a=224->160<=b)(hb:a=237->b<=159):Good n a b c d 3:=by
 refine⟨?_,by omega,by omega,a % 16*4096+b % 64*64+c % 64,by omega,?_⟩
 ·rw[EK _ _ _ _ _ h i e f g hb];show _=(jq [a,b,c],3);rw[mh,Prod.mk.injEq];exact⟨by omega,rfl⟩
 ·show [a,b,c]=_;unfold ZW;rw[za (by omega),za (by omega),zb (by omega)];congr 1
  ·omega
  ·congr 1
   ·omega
   ·congr 1;omega
theorem bH(n a b c d:Nat)(h:240<=a/\a<=244)(j:4<=n)(e:128<=b/\b<=191)(f:128<=c/\c<=191)(g:128<=d/\d<=191)(i:a=240->144<=b)(hb:a=244->b<=143):Good n a b c d 4:=by
 refine⟨?_,by omega,by omega,a % 8*262144+b % 64*4096+c % 64*64+d % 64,by omega,?_⟩
 ·rw[EH _ _ _ _ _ h j e f g i hb];show _=(jq [a,b,c,d],4);rw[mi,Prod.mk.injEq];exact⟨by omega,rfl⟩
 ·show [a,b,c,d]=_;unfold ZW;rw[za (by omega),za (by omega),za (by omega)];congr 1
  ·omega
  ·congr 1
   ·omega
   ·congr 1
    ·omega
    ·congr 1;omega
theorem EG(n a b c d:Nat)(e:n≠0)(f:a<256)(h:YF n a b c d=0):Lib.decodeN n a b c d=(65533,1):=by
 unfold YF at h;rw[za e] at h;unfold Lib.decodeN
 repeat' split at h
 all_goals first|(exfalso;omega)|skip
 all_goals repeat' split
 all_goals first|rfl|(exfalso;omega)
theorem MK(n a b e f:Nat)(g:n≠0)(h:YF n a b e f≠0):Good n a b e f (YF n a b e f):=by
 unfold YF at h |-;rw[za g] at h |-
 split at h
 ·rename_i c;rw[zb c];exact HY _ _ _ _ _ g c
 rename_i c0;rw[za c0]
 split at h
 ·rename_i c;rw[zb c]
  split at h
  ·rename_i d;rw[zb d];exact Ia _ _ _ _ _ c d.1 d.2
  ·exact absurd rfl h
 rename_i c1;rw[za c1]
 split at h
 ·rename_i c;rw[zb c]
  split at h
  ·rename_i d;rw[zb d];exact bI _ _ _ _ _ (by omega) d.1 (by omega) (by omega) (by omega) (by omega)
  ·exact absurd rfl h
 rename_i c2;rw[za c2]
 split at h
 ·rename_i c;rw[zb c]
  split at h
  ·rename_i d;rw[zb d];exact bI _ _ _ _ _ (by omega) d.1 (by omega) (by omega) (by omega) (by omega)
  ·exact absurd rfl h
 rename_i c3;rw[za c3]
 split at h
 ·rename_i c;rw[zb c]
  split at h
  ·rename_i d;rw[zb d];exact bI _ _ _ _ _ (by omega) d.1 (by omega) (by omega) (by omega) (by omega)
  ·exact absurd rfl h
 rename_i c4;rw[za c4]
 split at h
 ·rename_i c;rw[zb c]
  split at h
  ·rename_i d;rw[zb d];exact bH _ _ _ _ _ (by omega) d.1 (by omega) (by omega) (by omega) (by omega) (by omega)
  ·exact absurd rfl h
 rename_i c5;rw[za c5]
 split at h
 ·rename_i c;rw[zb c]
  split at h
  ·rename_i d;rw[zb d];exact bH _ _ _ _ _ (by omega) d.1 (by omega) (by omega) (by omega) (by omega) (by omega)
  ·exact absurd rfl h
 rename_i i;rw[za i]
 split at h
 ·rename_i c;rw[zb c]
  split at h
  ·rename_i d;rw[zb d];exact bH _ _ _ _ _ (by omega) d.1 (by omega) (by omega) (by omega) (by omega) (by omega)
  ·exact absurd rfl h
 ·exact absurd rfl h
theorem nK(s:BA)(k:Nat):s.get! k=s.data.toList.getD k 0:=by
 obtain⟨⟨l⟩⟩:=s;show (Array.mk l)[k]! = _
 by_cases h:k<l.length
 ·simp[List.getD,h]
 ·simp[List.getD,h];rfl
theorem WR(l:List UInt8)(k:Nat)(f:k<=4)(e:k<=l.length):(l.take k).map UInt8.toNat=[(l.getD 0 0).toNat,(l.getD 1 0).toNat,(l.getD 2 0).toNat,(l.getD 3 0).toNat].take k:=by
 obtain rfl|rfl|rfl|rfl|rfl:k=0\/k=1\/k=2\/k=3\/k=4:=by omega
 all_goals rcases l with _|⟨a,_|⟨b,_|⟨c,_|⟨d,l⟩⟩⟩⟩
 all_goals first|rfl|(simp at e)
theorem Og(s:BA)(k:Nat):nums (s.extract 0 k)=(s.data.toList.take k).map UInt8.toNat:=by
 unfold nums;simp[ByteArray.data_extract]
theorem Vn(s:BA)(r:0<s.size) :
  (XO s=false/\Utf8.decode s 0=(65533,1)) \/
  (XO s=true/\ZI (qD s)/\Utf8.decode s 0=(jI (qD s),(qD s).size)/\¬(jI (qD s)=65533/\(qD s).size=1)):=by
 have hd:=Lib.decode_at s 0;simp only[nK,Nat.sub_zero,qO] at hd;have b:=Dw s.data.toList;have a:s.data.toList.length=s.size:=zG s;rw[a] at b
 by_cases h:ja s.data.toList=0
 ·left
  refine⟨by unfold XO;rw[h];rfl,?_⟩;rw[hd];exact EG _ _ _ _ _ (by omega) (UInt8.toNat_lt _) (b.symm.trans h)
 ·right
  have l:qD s=s.extract 0 (ja s.data.toList):=by unfold qD;rw[za h]
  have j:=MK _ _ _ _ _ (by omega) (λe=>h (b.trans e));rw[<- b] at j;obtain⟨n,o,p,c,q,i⟩:=j
  have d:nums (qD s)=ZW c:=by
   rw[l,Og,WR _ _ p (by rw[a];exact o)];exact i
  have k:jI (qD s)=c:=by unfold jI;rw[d,Vm]
  have f:(qD s).size=ja s.data.toList:=by rw[l,jB];omega
  refine⟨by unfold XO;simp[h],⟨c,q,d⟩,?_,?_⟩
  ·rw[hd,n,k,f,i,Vm]
  ·rintro ⟨g,m⟩;rw[k] at g
   have:(nums (qD s)).length=1:=by unfold nums;rw[zN,zG];exact m
   rw[d,g] at this;simp[ZW] at this
def qX(p:Int×BA):Int:=if p.1=3 then -2 else if p.1=2 then -1 else if p.1=4 then 0 else (jI p.2:Int)
def nameOf(p:Int×BA):BA:=if p.1=4 then p.2 else ⟨#[]⟩
def Jc(u:BA):Nat:=u.data.toList.findIdx λc=>c.toNat==125
def QC(u:BA):Bool:=decide (Jc u<u.size)
def QD(u:BA):BA:=if QC u then u.extract 0 (Jc u) else u
theorem IE(l:List UInt8):Lib.index l [125]=if l.findIdx (λc=>c.toNat==125)<l.length then ((l.findIdx λc=>c.toNat==125:Nat):Int) else -1:=by
 induction l with
 | nil=>rfl
 | cons b l g=>
  unfold Lib.index;rw[g,List.findIdx_cons]
  have e:([125].isPrefixOf (b::l))=(b.toNat==125):=by
   simp only[List.isPrefixOf,Yc];rw[vN,kX,kX]
   constructor
   ·intro h;rw[<- h];rfl
   ·intro h;exact (XJ.1 (by rw[h];rfl)).symm
  rw[e]
  cases h:b.toNat==125 with
  | true=>simp
  | false=>
   simp only[xz,qW,cond_false,jl];generalize l.findIdx (λc=>c.toNat==125)=f;generalize l.length=n
   by_cases hl:f<n
   ·have a:f+1<n+1:=by omega
    have d:((f:Int) == -1)=false:=by rw[qQ];omega
    simp[hl,a,d]
   ·have a:¬f+1<n+1:=by omega
    simp[hl,a]
theorem EE(u:BA):(⟨(Lib.cut u.data.toList [125]).1.toArray⟩:BA)=QD u/\(Lib.cut u.data.toList [125]).2.2=QC u:=by
 have hi:=IE u.data.toList;rw[zG] at hi;unfold QD QC Jc
 by_cases h:u.data.toList.findIdx (λc=>c.toNat==125)<u.size
 ·rw[zb h] at hi;have a:=Lib.cutB_hit u ⟨#[125]⟩ _ hi;rw[zF h,zb rfl];exact⟨a.1,a.2.2⟩
 ·rw[za h] at hi;have a:=Lib.cutB_miss u ⟨#[125]⟩ hi;rw[zH h,za (by decide)];exact⟨a.1,a.2.2⟩
def ZU(t:BA):Int×BA×Nat:=
 if t.size=0 then (0,⟨#[]⟩,0)
 else if (t.data.toList.getD 0 0).toNat=36\/(t.data.toList.getD 0 0).toNat=42\/(t.data.toList.getD 0 0).toNat=63 then ((t.data.toList.getD 0 0).toNat,⟨#[]⟩,2)
 else if (t.data.toList.getD 0 0).toNat=123 then
  (if QC (t.extract 1 t.size) then (if qj (QD (t.extract 1 t.size)) then (0,QD (t.extract 1 t.size),2+(QD (t.extract 1 t.size)).size+1) else (0,⟨#[]⟩,0)) else (0,⟨#[]⟩,0))
 else (0,⟨#[]⟩,0)
def YP(p:Option (Int×BA×Nat)):Int×BA×Nat:=match p with
 | none=>(0,⟨#[]⟩,0)
 | some (k,t,n)=>(qX (k,t),nameOf (k,t),n)
def UD(s:BA):Option (Int×BA×Nat):=if (ZV s).2.2=0 then none else some (ZV s)
theorem Gp(s:BA):(s.extract 1 s.size).data.toList=s.data.toList.drop 1:=Lib.ext_list s 1
theorem Gq(s:BA)(k:Nat):(s.extract k s.size).extract 1 (s.extract k s.size).size=s.extract (k+1) s.size:=by
 rw[KL,jB];have e:min (k+(min s.size s.size-k)) s.size=s.size\/s.size<=k:=by omega
 rcases e with e|e
 ·rw[e]
 ·have a:min (k+(min s.size s.size-k)) s.size=s.size:=by omega
  rw[a]
theorem Sg(s:BA)(k:Nat)(b:k<s.size):jI (s.extract k (k+1))=(s.data.toList.getD k 0).toNat:=by
 unfold jI nums
 have:(s.extract k (k+1)).data.toList=[s.data.toList.getD k 0]:=by
  have a:k<s.data.toList.length:=by rw[zG];exact b
  rw[XB,YV,zL,zl a];simp only[J8,yE];rw[uS a]
  simp
 rw[this];simp only[yn,vg,mf]
theorem Fs(s:BA)(j:0<s.size):ZU (s.extract 1 s.size)=YP (UD s):=by
 have d:(s.extract 1 s.size).size=s.size-1:=by rw[jB];omega
 have f:(s.extract 1 s.size).data.toList.getD 0 0=s.data.toList.getD 1 0:=by
  rw[Gp];simp
 unfold ZU;rw[f,d];unfold UD ZV
 by_cases h2:s.size<2
 ·rw[zb (by omega),zb h2];rfl
 rw[za (by omega),za h2]
 by_cases h3:(s.data.toList.getD 1 0).toNat=36\/(s.data.toList.getD 1 0).toNat=42\/(s.data.toList.getD 1 0).toNat=63
 ·rw[zb h3,zb h3];show _=(qX (1,s.extract 1 2),nameOf (1,s.extract 1 2),2)
  have:qX (1,s.extract 1 2)=((s.data.toList.getD 1 0).toNat:Int):=by
   show ((jI (s.extract 1 2):Nat):Int)=_;rw[Sg s 1 (by omega)]
  rw[this];rfl
 rw[za h3,za h3]
 by_cases h4:(s.data.toList.getD 1 0).toNat=123
 ·rw[zb h4,zb h4]
  have i:(s.extract 1 s.size).extract 1 (s.size-1)=s.extract 2 s.size:=by
   have:=Gq s 1;rw[d] at this;exact this
  rw[i];have g:(s.extract 2 s.size).data.toList=s.data.toList.drop 2:=Lib.ext_list s 2;have hb:kg s=2+Jc (s.extract 2 s.size):=by unfold kg Jc;rw[g]
  have a:(s.extract 2 s.size).size=s.size-2:=by rw[jB];omega
  by_cases hc:kg s<s.size
  ·have b:QC (s.extract 2 s.size)=true:=by unfold QC;rw[a];exact zF (by omega)
   have h:QD (s.extract 2 s.size)=s.extract 2 (kg s):=by
    unfold QD;rw[b,zb rfl,KL];have e:min (2+Jc (s.extract 2 s.size)) s.size=kg s:=by rw[hb] at hc |-;omega
    rw[e]
   have c:(s.extract 2 (kg s)).size=kg s-2:=by rw[jB];omega
   rw[b,zb rfl,zb hc,h]
   by_cases hi:qj (s.extract 2 (kg s))=true
   ·rw[zb hi,zb hi];show _=(qX (4,_),nameOf (4,_),_);rw[c]
    have:2+(kg s-2)+1=kg s+1:=by omega
    rw[this];rfl
   ·rw[za hi,za hi];rfl
  ·have b:QC (s.extract 2 s.size)=false:=by unfold QC;rw[a];exact zH (by omega)
   rw[b,za (by decide),za hc];rfl
 ·rw[za h4,za h4];rfl
theorem ll(s:BA)(c:0<s.size):(qD s).data.toList.getD 0 0=s.data.toList.getD 0 0:=by
 unfold qD;generalize b:(if ja s.data.toList=0 then 1 else ja s.data.toList)=k
 have d:1<=k:=by rw[<- b];split<;>omega
 obtain⟨⟨l⟩⟩:=s
 cases l with
 | nil=>exact absurd c (by decide)
 | cons a l=>
  obtain⟨j,rfl⟩:∃j,k=j+1:=⟨k-1,by omega⟩;simp[ByteArray.data_extract]
theorem ay(s:BA)(a:0<s.size)(c:UInt8)(h:(s.data.toList.getD 0 0).toNat≠c.toNat):((qD s).toList==[c])=false:=by
 rw[qQ];intro e;rw[Lib.toList_data] at e
 have:=ll s a
 rw[e] at this;apply h;rw[<- this];rfl
theorem aj(s:BA)(g:0<s.size)(c:UInt8)(j:c.toNat<128)(h:(s.data.toList.getD 0 0).toNat=c.toNat):(qD s).toList=[c]/\XO s=true/\(qD s).size=1:=by
 have d:ja s.data.toList=1:=by
  unfold ja;rw[zG,za (by omega),zb (by omega)]
 have i:qD s=s.extract 0 1:=by unfold qD;rw[d];rfl
 have e:(qD s).size=1:=by rw[i,jB];omega
 refine⟨?_,by unfold XO;rw[d];rfl,e⟩;rw[Lib.toList_data];have b:=ll s g;have hlen:(qD s).data.toList.length=1:=by rw[zG];exact e
 obtain⟨a,f⟩:=List.length_eq_one_iff.1 hlen;rw[f] at b |-
 have:a=c:=XJ.1 (by rw[<- h,<- b];rfl)
 rw[this]
theorem TM(s:BA)(d:0<s.size)(h:(s.data.toList.getD 0 0).toNat=42):YP (yC s)=(-2,⟨#[]⟩,1):=by
 obtain⟨a,b,c⟩:=aj s d 42 (by decide) h
 have:yC s=some (3,qD s,1):=by
  unfold yC;rw[b,a,c];rfl
 rw[this];rfl
theorem TK(s:BA)(d:0<s.size)(h:(s.data.toList.getD 0 0).toNat=63):YP (yC s)=(-1,⟨#[]⟩,1):=by
 obtain⟨a,b,c⟩:=aj s d 63 (by decide) h
 have:yC s=some (2,qD s,1):=by
  unfold yC;rw[b,a,c];rfl
 rw[this];rfl
theorem TF(s:BA)(a:0<s.size)(h:(s.data.toList.getD 0 0).toNat=36):YP (yC s)=ZU (s.extract 1 s.size):=by
 obtain⟨b,c,d⟩:=aj s a 36 (by decide) h
 have:yC s=UD s:=by
  unfold yC UD;rw[c,b];rfl
 rw[this,Fs s a]
theorem wV(s:BA)(a:0<s.size)(f:(s.data.toList.getD 0 0).toNat≠42)(g:(s.data.toList.getD 0 0).toNat≠63)(h:(s.data.toList.getD 0 0).toNat≠36) :
  (Utf8.decode s 0=(65533,1)/\YP (yC s)=(0,⟨#[]⟩,0)) \/
  (∃c n,c<=1114111/\Utf8.decode s 0=(c,n)/\¬(c=65533/\n=1)/\n<=s.size/\YP (yC s)=((c:Int),⟨#[]⟩,n)):=by
 have b:=ay s a 42 f;have d:=ay s a 63 g;have e:=ay s a 36 h
 rcases Vn s a with ⟨ho,hd⟩|⟨ho,hc,hd,hn⟩
 ·left
  refine⟨hd,?_⟩
  have:yC s=none:=by unfold yC;rw[zb ho]
  rw[this];rfl
 ·right
  refine⟨_,_,rune_le _ hc,hd,hn,(Vl s a).2,?_⟩
  have:yC s=some (1,qD s,(qD s).size):=by
   unfold yC;rw[ho,b,d,e];rfl
  rw[this];rfl
end Pg
end Go.Proofs.YtdakgnaojakldaaGreatDoor
namespace Go.Proofs.YtdakgnaojakldaaGreatDoor
open Go.Shelf
def Tryz.lays197_ren:Go.Shelf.Ren:=⟨λ|197=>237|260=>253|n=>n,λ|9=>9|21=>21|3=>3|4=>4|5=>5|105=>388|119=>324|0=>0|46=>321|139=>327|138=>326|n=>n,λ|3=>2|4=>3|n=>n⟩
theorem Tryz.lays197:Go.Proofs.Lays.n197 prog Tryz.lays197_ren:={
 mixed:=by kernel_rfl
 f197:=func237.trans (congrArg some (by kernel_rfl))
 f260:=func253.trans (congrArg some (by kernel_rfl))
 t0:=underlying0
 a0:=Tryz.isAgg0
 z0:=Tryz.sizeOf0
 v0:=Tryz.zeroValue0
 t3:=underlying3
 a3:=Tryz.isAgg3
 z3:=Tryz.sizeOf3
 v3:=Tryz.zeroValue3
 t4:=underlying4
 a4:=Tryz.isAgg4
 z4:=Tryz.sizeOf4
 v4:=Tryz.zeroValue4
 t5:=underlying5
 a5:=Tryz.isAgg5
 z5:=Tryz.sizeOf5
 v5:=Tryz.zeroValue5
 t9:=underlying9
 a9:=Tryz.isAgg9
 z9:=Tryz.sizeOf9
 v9:=Tryz.zeroValue9
 t21:=underlying21
 a21:=Tryz.isAgg21
 z21:=Tryz.sizeOf21
 v21:=Tryz.zeroValue21
 t46:=underlying321
 a46:=Tryz.isAgg321
 z46:=Tryz.sizeOf321
 v46:=Tryz.zeroValue321
 t105:=underlying388
 a105:=Tryz.isAgg388
 z105:=Tryz.sizeOf388
 v105:=Tryz.zeroValue388
 t119:=underlying324
 a119:=Tryz.isAgg324
 z119:=Tryz.sizeOf324
 t138:=underlying326
 a138:=Tryz.isAgg326
 z138:=Tryz.sizeOf326
 v138:=Tryz.zeroValue326
 t139:=underlying327
 a139:=Tryz.isAgg327
 z139:=Tryz.sizeOf327
 v139:=Tryz.zeroValue327
 g3:=by kernel_rfl
 g4:=by kernel_rfl }
def Tryz.lays145_ren:Go.Shelf.Ren:=⟨λ|145=>252|220=>261|219=>267|217=>268|225=>269|224=>270|267=>271|266=>272|314=>273|n=>n,λ|9=>9|4=>4|59=>403|3=>3|5=>5|46=>321|146=>416|51=>398|n=>n,λ|1=>4|n=>n⟩
theorem Tryz.lays145:Go.Proofs.Lays.n145 prog Tryz.lays145_ren:={
 mixed:=by kernel_rfl
 f145:=func252.trans (congrArg some (by kernel_rfl))
 f217:=func268.trans (congrArg some (by kernel_rfl))
 f219:=func267.trans (congrArg some (by kernel_rfl))
 f220:=func261.trans (congrArg some (by kernel_rfl))
 f224:=func270.trans (congrArg some (by kernel_rfl))
 f225:=func269.trans (congrArg some (by kernel_rfl))
 f266:=func272.trans (congrArg some (by kernel_rfl))
 f267:=func271.trans (congrArg some (by kernel_rfl))
 f314:=func273.trans (congrArg some (by kernel_rfl))
 t3:=underlying3
 a3:=Tryz.isAgg3
 z3:=Tryz.sizeOf3
 v3:=Tryz.zeroValue3
 t4:=underlying4
 a4:=Tryz.isAgg4
 z4:=Tryz.sizeOf4
 v4:=Tryz.zeroValue4
 t5:=underlying5
 a5:=Tryz.isAgg5
 z5:=Tryz.sizeOf5
 v5:=Tryz.zeroValue5
 t9:=underlying9
 a9:=Tryz.isAgg9
 z9:=Tryz.sizeOf9
 v9:=Tryz.zeroValue9
 t46:=underlying321
 a46:=Tryz.isAgg321
 z46:=Tryz.sizeOf321
 v46:=Tryz.zeroValue321
 t51:=underlying398
 a51:=Tryz.isAgg398
 z51:=Tryz.sizeOf398
 v51:=Tryz.zeroValue398
 t59:=underlying403
 a59:=Tryz.isAgg403
 z59:=Tryz.sizeOf403
 v59:=Tryz.zeroValue403
 t146:=underlying416
 a146:=Tryz.isAgg416
 z146:=Tryz.sizeOf416
 v146:=Tryz.zeroValue416
 g1:=by kernel_rfl }
def Tryz.lays196_ren:Go.Shelf.Ren:=⟨λ|196=>139|259=>187|n=>n,λ|9=>9|4=>4|3=>3|5=>5|12=>12|119=>324|0=>0|46=>321|139=>327|138=>326|53=>376|n=>n,λ|3=>2|4=>3|n=>n⟩
theorem Tryz.lays196:Go.Proofs.Lays.n196 prog Tryz.lays196_ren:={
 mixed:=by kernel_rfl
 f196:=func139.trans (congrArg some (by kernel_rfl))
 f259:=func187.trans (congrArg some (by kernel_rfl))
 t0:=underlying0
 a0:=Tryz.isAgg0
 z0:=Tryz.sizeOf0
 v0:=Tryz.zeroValue0
 t3:=underlying3
 a3:=Tryz.isAgg3
 z3:=Tryz.sizeOf3
 v3:=Tryz.zeroValue3
 t4:=underlying4
 a4:=Tryz.isAgg4
 z4:=Tryz.sizeOf4
 v4:=Tryz.zeroValue4
 t5:=underlying5
 a5:=Tryz.isAgg5
 z5:=Tryz.sizeOf5
 v5:=Tryz.zeroValue5
 t9:=underlying9
 a9:=Tryz.isAgg9
 z9:=Tryz.sizeOf9
 v9:=Tryz.zeroValue9
 t12:=underlying12
 a12:=Tryz.isAgg12
 z12:=Tryz.sizeOf12
 v12:=Tryz.zeroValue12
 t46:=underlying321
 a46:=Tryz.isAgg321
 z46:=Tryz.sizeOf321
 v46:=Tryz.zeroValue321
 t53:=underlying376
 a53:=Tryz.isAgg376
 z53:=Tryz.sizeOf376
 v53:=Tryz.zeroValue376
 t119:=underlying324
 a119:=Tryz.isAgg324
 z119:=Tryz.sizeOf324
 t138:=underlying326
 a138:=Tryz.isAgg326
 z138:=Tryz.sizeOf326
 v138:=Tryz.zeroValue326
 t139:=underlying327
 a139:=Tryz.isAgg327
 z139:=Tryz.sizeOf327
 v139:=Tryz.zeroValue327
 g3:=by kernel_rfl
 g4:=by kernel_rfl }
end Go.Proofs.YtdakgnaojakldaaGreatDoor
