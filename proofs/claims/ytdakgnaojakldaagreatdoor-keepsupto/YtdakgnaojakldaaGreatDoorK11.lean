/- P -/
import Derived.Test.YtdakgnaojakldaaGreatDoorK01
import Derived.Deep.RegionWith
import Derived.Deep.Light
import Derived.Lib.DecodeN
import Derived.Lib.Strings
import Derived.Lib.CutLaws
import Derived.Lib.ValidAsc
set_option maxRecDepth 100000
set_option maxHeartbeats 4000000
namespace Go.Proofs.YtdakgnaojakldaaGreatDoor
open Go.RowKit
namespace Ref
structure Req where
 who:BY
 act:BY
 on:BY
 marks:List (BY×BY)
def IZ(ms:List (BY×BY))(name:BY):Option BY:=(ms.find? λm=>m.1.toList==name.toList).map Prod.snd
def says(r:Req)(name:BY):Option BY:=
 if name.toList==[119,104,111] then some r.who else if name.toList==[100,111] then some r.act else if name.toList==[111,110] then some r.on else IZ r.marks name
def Ic(r:Req)(p:Int×BY):Option (List (Int×BY)):=
 if p.1=4 then (says r p.2).map λv=>((chars v).getD []).map λc=>((1:Int),c) else some [p]
def laid(r:Req):List (Int×BY)->Option (List (Int×BY))
 | []=>some []
 | p::ps=>match Ic r p with
  | none=>none
  | some a=>(laid r ps).map λb=>a++b
end Ref
namespace Pg
open Ref
def Qk(c:Nat):List Nat:=
 if c<128 then [c]
 else if c<2048 then [192+c / 64,128+c % 64]
 else if c<65536 then [224+c / 4096,128+c / 64 % 64,128+c % 64]
 else [240+c / 262144,128+c / 4096 % 64,128+c / 64 % 64,128+c % 64]
def uJ(l:List Nat):Nat:=
 if l.length=1 then l.getD 0 0
 else if l.length=2 then (l.getD 0 0-192)*64+(l.getD 1 0-128)
 else if l.length=3 then (l.getD 0 0-224)*4096+(l.getD 1 0-128)*64+(l.getD 2 0-128)
 else (l.getD 0 0-240)*262144+(l.getD 1 0-128)*4096+(l.getD 2 0-128)*64+(l.getD 3 0-128)
theorem ig(a:Nat):uJ [a]=a:=by
 simp[uJ]
theorem ik(a b:Nat):uJ [a,b]=(a-192)*64+(b-128):=by
 simp[uJ]
theorem il(a b c:Nat):uJ [a,b,c]=(a-224)*4096+(b-128)*64+(c-128):=by
 simp[uJ]
theorem iq(a b c d:Nat):uJ [a,b,c,d]=(a-240)*262144+(b-128)*4096+(c-128)*64+(d-128):=by
 simp[uJ]
theorem KV(c:Nat):uJ (Qk c)=c:=by
 unfold Qk
 by_cases h1:c<128
 ·rw[zb h1,ig]
 by_cases h2:c<2048
 ·rw[za h1,zb h2,ik];omega
 by_cases h3:c<65536
 ·rw[za h1,za h2,zb h3,il];omega
 ·rw[za h1,za h2,za h3,iq];omega
def nums(t:BY):List Nat:=t.data.toList.map UInt8.toNat
def Qq(t:BY):Nat:=uJ (nums t)
def dZ(t:BY):Prop:=∃c,c<=1114111/\nums t=Qk c
theorem rune_le(t:BY)(h:dZ t):Qq t<=1114111:=by
 obtain⟨c,a,e⟩:=h;unfold Qq;rw[e,KV];exact a
def X6(n b0 a b c:Nat):Nat:=
 if n=0 then 0
 else if b0<128 then 1
 else if 194<=b0/\b0<=223 then (if 2<=n/\128<=a/\a<=191 then 2 else 0)
 else if b0=224 then (if 3<=n/\160<=a/\a<=191/\128<=b/\b<=191 then 3 else 0)
 else if b0=237 then (if 3<=n/\128<=a/\a<=159/\128<=b/\b<=191 then 3 else 0)
 else if 225<=b0/\b0<=239 then (if 3<=n/\128<=a/\a<=191/\128<=b/\b<=191 then 3 else 0)
 else if b0=240 then (if 4<=n/\144<=a/\a<=191/\128<=b/\b<=191/\128<=c/\c<=191 then 4 else 0)
 else if 241<=b0/\b0<=243 then (if 4<=n/\128<=a/\a<=191/\128<=b/\b<=191/\128<=c/\c<=191 then 4 else 0)
 else if b0=244 then (if 4<=n/\128<=a/\a<=143/\128<=b/\b<=191/\128<=c/\c<=191 then 4 else 0)
 else 0
theorem ib(l:List UInt8)(lo hi:Int):jb l lo hi 1=decide (lo<=((l.getD 1 0).toNat:Int)/\((l.getD 1 0).toNat:Int)<=hi):=by
 simp[jb,List.range_succ]
theorem ic(l:List UInt8)(lo hi:Int):jb l lo hi 2=(decide (lo<=((l.getD 1 0).toNat:Int)/\((l.getD 1 0).toNat:Int)<=hi)&&decide (128<=(l.getD 2 0).toNat/\(l.getD 2 0).toNat<=191)):=by
 rw[VT,ib];simp
theorem BV(l:List UInt8)(lo hi:Int):jb l lo hi 3=(decide (lo<=((l.getD 1 0).toNat:Int)/\((l.getD 1 0).toNat:Int)<=hi)&&decide (128<=(l.getD 2 0).toNat/\(l.getD 2 0).toNat<=191)&&decide (128<=(l.getD 3 0).toNat/\(l.getD 3 0).toNat<=191)):=by
 rw[VT,ic];simp
theorem KI(l:List UInt8)(n lo hi:Int)(a:l.length≠0)(h:¬(l.getD 0 0).toNat<128)(b:zT ((l.getD 0 0).toNat:Int)=(n,lo,hi)) :
  qU l=if n=0 then 0 else if (l.length:Int)<n+1 then 0 else if jb l lo hi n.toNat then n.toNat+1 else 0:=by
 unfold qU;rw[za a,za h,b]
theorem AA(l:List UInt8)(lo hi:Nat)(a:l.length≠0)(h:¬(l.getD 0 0).toNat<128)(b:zT ((l.getD 0 0).toNat:Int)=(1,(lo:Int),(hi:Int))) :
  qU l=if 2<=l.length/\lo<=(l.getD 1 0).toNat/\(l.getD 1 0).toNat<=hi then 2 else 0:=by
 rw[KI l _ _ _ a h b,za (by decide),show (1:Int).toNat=1 from rfl,ib]
 generalize (l.getD 1 0).toNat=b1
 by_cases c:2<=l.length/\lo<=b1/\b1<=hi
 ·rw[zb c,za (by omega),zb (by simp;omega)]
 ·rw[za c]
  by_cases d:(l.length:Int)<1+1
  ·rw[zb d]
  ·rw[za d,za (by simp;omega)]
theorem KG(l:List UInt8)(lo hi:Nat)(a:l.length≠0)(h:¬(l.getD 0 0).toNat<128)(b:zT ((l.getD 0 0).toNat:Int)=(2,(lo:Int),(hi:Int))) :
  qU l=if 3<=l.length/\lo<=(l.getD 1 0).toNat/\(l.getD 1 0).toNat<=hi/\128<=(l.getD 2 0).toNat/\(l.getD 2 0).toNat<=191 then 3 else 0:=by
 rw[KI l _ _ _ a h b,za (by decide),show (2:Int).toNat=2 from rfl,ic]
 generalize (l.getD 1 0).toNat=b1;generalize (l.getD 2 0).toNat=b2
 by_cases c:3<=l.length/\lo<=b1/\b1<=hi/\128<=b2/\b2<=191
 ·rw[zb c,za (by omega),zb (by simp;omega)]
 ·rw[za c]
  by_cases d:(l.length:Int)<2+1
  ·rw[zb d]
  ·rw[za d,za (by simp;omega)]
theorem KH(l:List UInt8)(lo hi:Nat)(a:l.length≠0)(h:¬(l.getD 0 0).toNat<128)(b:zT ((l.getD 0 0).toNat:Int)=(3,(lo:Int),(hi:Int))) :
  qU l=if 4<=l.length/\lo<=(l.getD 1 0).toNat/\(l.getD 1 0).toNat<=hi/\128<=(l.getD 2 0).toNat/\(l.getD 2 0).toNat<=191/\128<=(l.getD 3 0).toNat/\(l.getD 3 0).toNat<=191 then 4 else 0:=by
 rw[KI l _ _ _ a h b,za (by decide),show (3:Int).toNat=3 from rfl,BV]
 generalize (l.getD 1 0).toNat=b1;generalize (l.getD 2 0).toNat=b2;generalize (l.getD 3 0).toNat=b3
 by_cases c:4<=l.length/\lo<=b1/\b1<=hi/\128<=b2/\b2<=191/\128<=b3/\b3<=191
 ·rw[zb c,za (by omega),zb (by simp;omega)]
 ·rw[za c]
  by_cases d:(l.length:Int)<3+1
  ·rw[zb d]
  ·rw[za d,za (by simp;omega)]
theorem AC(l:List UInt8):qU l=X6 l.length (l.getD 0 0).toNat (l.getD 1 0).toNat (l.getD 2 0).toNat (l.getD 3 0).toNat:=by
 unfold X6
 by_cases hl:l.length=0
 ·rw[zb hl];unfold qU;rw[zb hl]
 rw[za hl]
 by_cases h:(l.getD 0 0).toNat<128
 ·rw[zb h];unfold qU;rw[za hl,zb h]
 rw[za h]
 by_cases c1:194<=(l.getD 0 0).toNat/\(l.getD 0 0).toNat<=223
 ·rw[zb c1];exact AA l 128 191 hl h (by unfold zT;rw[zb (by omega)];rfl)
 rw[za c1]
 by_cases c2:(l.getD 0 0).toNat=224
 ·rw[zb c2];exact KG l 160 191 hl h (by unfold zT;rw[za (by omega),zb (by omega)];rfl)
 rw[za c2]
 by_cases c3:(l.getD 0 0).toNat=237
 ·rw[zb c3];exact KG l 128 159 hl h (by unfold zT;rw[za (by omega),za (by omega),zb (by omega)];rfl)
 rw[za c3]
 by_cases c4:225<=(l.getD 0 0).toNat/\(l.getD 0 0).toNat<=239
 ·rw[zb c4];exact KG l 128 191 hl h (by unfold zT;rw[za (by omega),za (by omega),za (by omega),zb (by omega)];rfl)
 rw[za c4]
 by_cases c5:(l.getD 0 0).toNat=240
 ·rw[zb c5];exact KH l 144 191 hl h (by unfold zT;rw[za (by omega),za (by omega),za (by omega),za (by omega),zb (by omega)];rfl)
 rw[za c5]
 by_cases c6:241<=(l.getD 0 0).toNat/\(l.getD 0 0).toNat<=243
 ·rw[zb c6];exact KH l 128 191 hl h (by unfold zT;rw[za (by omega),za (by omega),za (by omega),za (by omega),za (by omega),zb (by omega)];rfl)
 rw[za c6]
 by_cases c7:(l.getD 0 0).toNat=244
 ·rw[zb c7];exact KH l 128 143 hl h (by unfold zT;rw[za (by omega),za (by omega),za (by omega),za (by omega),za (by omega),za (by omega),zb (by omega)];rfl)
 rw[za c7];unfold qU;rw[za hl,za h,zb];unfold zT;rw[za (by omega),za (by omega),za (by omega),za (by omega),za (by omega),za (by omega),za (by omega)]
theorem Cj(n b0 a b c:Nat)(h:b0<128):Lib.decodeN n b0 a b c=(b0,1):=by
 unfold Lib.decodeN;rw[zb h]
theorem Cm(n b0 a b c:Nat)(h:194<=b0/\b0<=223)(e:2<=n)(d:128<=a/\a<=191):Lib.decodeN n b0 a b c=(b0 % 32*64+a % 64,2):=by
 unfold Lib.decodeN;rw[za (by omega),zb ⟨by omega,by omega,by omega⟩,zb (by omega)]
theorem Ck(n b0 a b c:Nat)(h:224<=b0/\b0<=239)(g:3<=n)(d:128<=a/\a<=191)(e:128<=b/\b<=191)(f:b0=224->160<=a)(hb:b0=237->a<=159) :
  Lib.decodeN n b0 a b c=(b0 % 16*4096+a % 64*64+b % 64,3):=by
 unfold Lib.decodeN;rw[za (by omega),za (by omega),zb ⟨by omega,⟨by omega,by omega⟩,by omega,by omega⟩,zb (by omega)]
theorem Ci(n b0 a b c:Nat)(h:240<=b0/\b0<=244)(i:4<=n)(d:128<=a/\a<=191)(e:128<=b/\b<=191)(f:128<=c/\c<=191)(g:b0=240->144<=a)(hb:b0=244->a<=143) :
  Lib.decodeN n b0 a b c=(b0 % 8*262144+a % 64*4096+b % 64*64+c % 64,4):=by
 unfold Lib.decodeN;rw[za (by omega),za (by omega),za (by omega),zb ⟨by omega,⟨by omega,by omega⟩,⟨by omega,by omega⟩,by omega,by omega⟩,zb (by omega)]
def Good(n b0 a b d k:Nat):Prop:=
 Lib.decodeN n b0 a b d=(uJ ([b0,a,b,d].take k),k)/\k<=n/\k<=4/\∃c,c<=1114111/\[b0,a,b,d].take k=Qk c
theorem EX(n b0 a b c:Nat)(d:n≠0)(h:b0<128):Good n b0 a b c 1:=by
 refine⟨by rw[Cj _ _ _ _ _ h];rfl,by omega,by omega,b0,by omega,?_⟩;unfold Qk;rw[zb h];rfl
theorem EY(n b0 a b c:Nat)(h:194<=b0/\b0<=223)(e:2<=n)(d:128<=a/\a<=191):Good n b0 a b c 2:=by
 refine⟨?_,by omega,by omega,b0 % 32*64+a % 64,by omega,?_⟩
 ·rw[Cm _ _ _ _ _ h e d];show _=(uJ [b0,a],2);rw[ik,Prod.mk.injEq];exact⟨by omega,rfl⟩
 ·show [b0,a]=_;unfold Qk;rw[za (by omega),zb (by omega)];congr 1
  ·omega
  ·congr 1;omega
theorem ak(n b0 a b c:Nat)(h:224<=b0/\b0<=239)(g:3<=n)(d:128<=a/\a<=191)(e:128<=b/\b<=191)(f:b0=224->160<=a)(hb:b0=237->a<=159):Good n b0 a b c 3:=by
 refine⟨?_,by omega,by omega,b0 % 16*4096+a % 64*64+b % 64,by omega,?_⟩
 ·rw[Ck _ _ _ _ _ h g d e f hb];show _=(uJ [b0,a,b],3);rw[il,Prod.mk.injEq];exact⟨by omega,rfl⟩
 ·show [b0,a,b]=_;unfold Qk;rw[za (by omega),za (by omega),zb (by omega)];congr 1
  ·omega
  ·congr 1
   ·omega
   ·congr 1;omega
theorem aj(n b0 a b c:Nat)(h:240<=b0/\b0<=244)(i:4<=n)(d:128<=a/\a<=191)(e:128<=b/\b<=191)(f:128<=c/\c<=191)(g:b0=240->144<=a)(hb:b0=244->a<=143):Good n b0 a b c 4:=by
 refine⟨?_,by omega,by omega,b0 % 8*262144+a % 64*4096+b % 64*64+c % 64,by omega,?_⟩
 ·rw[Ci _ _ _ _ _ h i d e f g hb];show _=(uJ [b0,a,b,c],4);rw[iq,Prod.mk.injEq];exact⟨by omega,rfl⟩
 ·show [b0,a,b,c]=_;unfold Qk;rw[za (by omega),za (by omega),za (by omega)];congr 1
  ·omega
  ·congr 1
   ·omega
   ·congr 1
    ·omega
    ·congr 1;omega
theorem Cg(n b0 a b c:Nat)(d:n≠0)(e:b0<256)(h:X6 n b0 a b c=0):Lib.decodeN n b0 a b c=(65533,1):=by
 unfold X6 at h;rw[za d] at h;unfold Lib.decodeN
 repeat' split at h
 all_goals first|(exfalso;omega)|skip
 all_goals repeat' split
 all_goals first|rfl|(exfalso;omega)
theorem Ir(n b0 a b e:Nat)(f:n≠0)(h:X6 n b0 a b e≠0):Good n b0 a b e (X6 n b0 a b e):=by
 unfold X6 at h |-;rw[za f] at h |-
 split at h
 ·rename_i c;rw[zb c];exact EX _ _ _ _ _ f c
 rename_i g;rw[za g]
 split at h
 ·rename_i c;rw[zb c]
  split at h
  ·rename_i d;rw[zb d];exact EY _ _ _ _ _ c d.1 d.2
  ·exact absurd rfl h
 rename_i c1;rw[za c1]
 split at h
 ·rename_i c;rw[zb c]
  split at h
  ·rename_i d;rw[zb d];exact ak _ _ _ _ _ (by omega) d.1 (by omega) (by omega) (by omega) (by omega)
  ·exact absurd rfl h
 rename_i c2;rw[za c2]
 split at h
 ·rename_i c;rw[zb c]
  split at h
  ·rename_i d;rw[zb d];exact ak _ _ _ _ _ (by omega) d.1 (by omega) (by omega) (by omega) (by omega)
  ·exact absurd rfl h
 rename_i c3;rw[za c3]
 split at h
 ·rename_i c;rw[zb c]
  split at h
  ·rename_i d;rw[zb d];exact ak _ _ _ _ _ (by omega) d.1 (by omega) (by omega) (by omega) (by omega)
  ·exact absurd rfl h
 rename_i c4;rw[za c4]
 split at h
 ·rename_i c;rw[zb c]
  split at h
  ·rename_i d;rw[zb d];exact aj _ _ _ _ _ (by omega) d.1 (by omega) (by omega) (by omega) (by omega) (by omega)
  ·exact absurd rfl h
 rename_i c5;rw[za c5]
 split at h
 ·rename_i c;rw[zb c]
  split at h
  ·rename_i d;rw[zb d];exact aj _ _ _ _ _ (by omega) d.1 (by omega) (by omega) (by omega) (by omega) (by omega)
  ·exact absurd rfl h
 rename_i i;rw[za i]
 split at h
 ·rename_i c;rw[zb c]
  split at h
  ·rename_i d;rw[zb d];exact aj _ _ _ _ _ (by omega) d.1 (by omega) (by omega) (by omega) (by omega) (by omega)
  ·exact absurd rfl h
 ·exact absurd rfl h
theorem EW(s:BY)(k:Nat):s.get! k=s.data.toList.getD k 0:=by
 obtain⟨⟨l⟩⟩:=s;show (Array.mk l)[k]! = _
 by_cases h:k<l.length
 ·simp[List.getD,h]
 ·simp[List.getD,h];rfl
theorem RJ(l:List UInt8)(k:Nat)(f:k<=4)(e:k<=l.length):(l.take k).map UInt8.toNat=[(l.getD 0 0).toNat,(l.getD 1 0).toNat,(l.getD 2 0).toNat,(l.getD 3 0).toNat].take k:=by
 obtain rfl|rfl|rfl|rfl|rfl:k=0\/k=1\/k=2\/k=3\/k=4:=by omega
 all_goals rcases l with _|⟨a,_|⟨b,_|⟨c,_|⟨d,l⟩⟩⟩⟩
 all_goals first|rfl|(simp at e)
theorem LU(s:BY)(k:Nat):nums (s.extract 0 k)=(s.data.toList.take k).map UInt8.toNat:=by
 unfold nums;simp[ByteArray.data_extract]
theorem Ch(s:BY)(t:0<s.size) :
  (uh s=false/\Utf8.decode s 0=(65533,1)) \/
  (uh s=true/\dZ (qj s)/\Utf8.decode s 0=(Qq (qj s),(qj s).size)/\¬(Qq (qj s)=65533/\(qj s).size=1)):=by
 have d:=Lib.decode_at s 0;simp only[EW,Nat.sub_zero,yJ] at d;have b:=AC s.data.toList;have a:s.data.toList.length=s.size:=zz s;rw[a] at b
 by_cases h:qU s.data.toList=0
 ·left
  refine⟨by unfold uh;rw[h];rfl,?_⟩;rw[d];exact Cg _ _ _ _ _ (by omega) (UInt8.toNat_lt _) (b.symm.trans h)
 ·right
  have m:qj s=s.extract 0 (qU s.data.toList):=by unfold qj;rw[za h]
  have k:=Ir _ _ _ _ _ (by omega) (λe=>h (b.trans e));rw[<- b] at k;obtain⟨o,p,q,c,r,j⟩:=k
  have f:nums (qj s)=Qk c:=by
   rw[m,LU,RJ _ _ q (by rw[a];exact p)];exact j
  have l:Qq (qj s)=c:=by unfold Qq;rw[f,KV]
  have g:(qj s).size=qU s.data.toList:=by rw[m,jF];omega
  refine⟨by unfold uh;simp[h],⟨c,r,f⟩,?_,?_⟩
  ·rw[d,o,l,g,j,KV]
  ·rintro ⟨i,n⟩;rw[l] at i
   have:(nums (qj s)).length=1:=by unfold nums;rw[qB,zz];exact n
   rw[f,i] at this;simp[Qk] at this
def Xu(p:Int×BY):Int:=if p.1=3 then -2 else if p.1=2 then -1 else if p.1=4 then 0 else (Qq p.2:Int)
def nameOf(p:Int×BY):BY:=if p.1=4 then p.2 else ⟨#[]⟩
def YG(u:BY):Nat:=u.data.toList.findIdx λc=>c.toNat==125
def Qi(u:BY):Bool:=decide (YG u<u.size)
def Qj(u:BY):BY:=if Qi u then u.extract 0 (YG u) else u
theorem FO(l:List UInt8):Lib.index l [125]=if l.findIdx (λc=>c.toNat==125)<l.length then ((l.findIdx λc=>c.toNat==125:Nat):Int) else -1:=by
 induction l with
 | nil=>rfl
 | cons b l g=>
  unfold Lib.index;rw[g,List.findIdx_cons]
  have e:([125].isPrefixOf (b::l))=(b.toNat==125):=by
   simp only[List.isPrefixOf,Yo];rw[XA,ku,ku]
   constructor
   ·intro h;rw[<- h];rfl
   ·intro h;exact (UInt8.toNat_inj.1 (by rw[h];rfl)).symm
  rw[e]
  cases h:b.toNat==125 with
  | true=>simp
  | false=>
   simp only[vg,jK,cond_false,Zz];generalize l.findIdx (λc=>c.toNat==125)=f;generalize l.length=n
   by_cases hl:f<n
   ·have a:f+1<n+1:=by omega
    have d:((f:Int) == -1)=false:=by rw[qG];omega
    simp[hl,a,d]
   ·have a:¬f+1<n+1:=by omega
    simp[hl,a]
theorem Cf(u:BY):(⟨(Lib.cut u.data.toList [125]).1.toArray⟩:BY)=Qj u/\(Lib.cut u.data.toList [125]).2.2=Qi u:=by
 have hi:=FO u.data.toList;rw[zz] at hi;unfold Qj Qi YG
 by_cases h:u.data.toList.findIdx (λc=>c.toNat==125)<u.size
 ·rw[zb h] at hi;have a:=Lib.cutB_hit u ⟨#[125]⟩ _ hi;rw[zB h,zb rfl];exact⟨a.1,a.2.2⟩
 ·rw[za h] at hi;have a:=Lib.cutB_miss u ⟨#[125]⟩ hi;rw[zM h,za (by decide)];exact⟨a.1,a.2.2⟩
def ZH(t:BY):Int×BY×Nat:=
 if t.size=0 then (0,⟨#[]⟩,0)
 else if (t.data.toList.getD 0 0).toNat=36\/(t.data.toList.getD 0 0).toNat=42\/(t.data.toList.getD 0 0).toNat=63 then ((t.data.toList.getD 0 0).toNat,⟨#[]⟩,2)
 else if (t.data.toList.getD 0 0).toNat=123 then
  (if Qi (t.extract 1 t.size) then (if qg (Qj (t.extract 1 t.size)) then (0,Qj (t.extract 1 t.size),2+(Qj (t.extract 1 t.size)).size+1) else (0,⟨#[]⟩,0)) else (0,⟨#[]⟩,0))
 else (0,⟨#[]⟩,0)
def Yg(p:Option (Int×BY×Nat)):Int×BY×Nat:=match p with
 | none=>(0,⟨#[]⟩,0)
 | some (k,t,n)=>(Xu (k,t),nameOf (k,t),n)
def VW(s:BY):Option (Int×BY×Nat):=if (xV s).2.2=0 then none else some (xV s)
theorem Ep(s:BY):(s.extract 1 s.size).data.toList=s.data.toList.drop 1:=Lib.ext_list s 1
theorem Er(s:BY)(k:Nat):(s.extract k s.size).extract 1 (s.extract k s.size).size=s.extract (k+1) s.size:=by
 rw[dW,jF];have e:min (k+(min s.size s.size-k)) s.size=s.size\/s.size<=k:=by omega
 rcases e with e|e
 ·rw[e]
 ·have a:min (k+(min s.size s.size-k)) s.size=s.size:=by omega
  rw[a]
theorem Oh(s:BY)(k:Nat)(b:k<s.size):Qq (s.extract k (k+1))=(s.data.toList.getD k 0).toNat:=by
 unfold Qq nums
 have:(s.extract k (k+1)).data.toList=[s.data.toList.getD k 0]:=by
  have a:k<s.data.toList.length:=by rw[zz];exact b
  rw[Je,UR,zX,zm a];simp only[eD,QA];rw[vo a]
  simp
 rw[this];simp only[yf,Za,ig]
theorem Dc(s:BY)(j:0<s.size):ZH (s.extract 1 s.size)=Yg (VW s):=by
 have d:(s.extract 1 s.size).size=s.size-1:=by rw[jF];omega
 have f:(s.extract 1 s.size).data.toList.getD 0 0=s.data.toList.getD 1 0:=by
  rw[Ep];simp
 unfold ZH;rw[f,d];unfold VW xV
 by_cases h2:s.size<2
 ·rw[zb (by omega),zb h2];rfl
 rw[za (by omega),za h2]
 by_cases h3:(s.data.toList.getD 1 0).toNat=36\/(s.data.toList.getD 1 0).toNat=42\/(s.data.toList.getD 1 0).toNat=63
 ·rw[zb h3,zb h3];show _=(Xu (1,s.extract 1 2),nameOf (1,s.extract 1 2),2)
  have:Xu (1,s.extract 1 2)=((s.data.toList.getD 1 0).toNat:Int):=by
   show ((Qq (s.extract 1 2):Nat):Int)=_;rw[Oh s 1 (by omega)]
  rw[this];rfl
 rw[za h3,za h3]
 by_cases h4:(s.data.toList.getD 1 0).toNat=123
 ·rw[zb h4,zb h4]
  have i:(s.extract 1 s.size).extract 1 (s.size-1)=s.extract 2 s.size:=by
   have:=Er s 1;rw[d] at this;exact this
  rw[i];have g:(s.extract 2 s.size).data.toList=s.data.toList.drop 2:=Lib.ext_list s 2;have hb:xM s=2+YG (s.extract 2 s.size):=by unfold xM YG;rw[g]
  have a:(s.extract 2 s.size).size=s.size-2:=by rw[jF];omega
  by_cases hc:xM s<s.size
  ·have b:Qi (s.extract 2 s.size)=true:=by unfold Qi;rw[a];exact zB (by omega)
   have h:Qj (s.extract 2 s.size)=s.extract 2 (xM s):=by
    unfold Qj;rw[b,zb rfl,dW];have e:min (2+YG (s.extract 2 s.size)) s.size=xM s:=by rw[hb] at hc |-;omega
    rw[e]
   have c:(s.extract 2 (xM s)).size=xM s-2:=by rw[jF];omega
   rw[b,zb rfl,zb hc,h]
   by_cases hi:qg (s.extract 2 (xM s))=true
   ·rw[zb hi,zb hi];show _=(Xu (4,_),nameOf (4,_),_);rw[c]
    have:2+(xM s-2)+1=xM s+1:=by omega
    rw[this];rfl
   ·rw[za hi,za hi];rfl
  ·have b:Qi (s.extract 2 s.size)=false:=by unfold Qi;rw[a];exact zM (by omega)
   rw[b,za (by decide),za hc];rfl
 ·rw[za h4,za h4];rfl
theorem gF(s:BY)(c:0<s.size):(qj s).data.toList.getD 0 0=s.data.toList.getD 0 0:=by
 unfold qj;generalize b:(if qU s.data.toList=0 then 1 else qU s.data.toList)=k
 have d:1<=k:=by rw[<- b];split<;>omega
 obtain⟨⟨l⟩⟩:=s
 cases l with
 | nil=>exact absurd c (by decide)
 | cons a l=>
  obtain⟨j,rfl⟩:∃j,k=j+1:=⟨k-1,by omega⟩;simp[ByteArray.data_extract]
theorem KJ(s:BY)(a:0<s.size)(c:UInt8)(h:(s.data.toList.getD 0 0).toNat≠c.toNat):((qj s).toList==[c])=false:=by
 rw[qG];intro e;rw[Lib.toList_data] at e
 have:=gF s a
 rw[e] at this;apply h;rw[<- this];rfl
theorem KF(s:BY)(g:0<s.size)(c:UInt8)(j:c.toNat<128)(h:(s.data.toList.getD 0 0).toNat=c.toNat):(qj s).toList=[c]/\uh s=true/\(qj s).size=1:=by
 have d:qU s.data.toList=1:=by
  unfold qU;rw[zz,za (by omega),zb (by omega)]
 have i:qj s=s.extract 0 1:=by unfold qj;rw[d];rfl
 have e:(qj s).size=1:=by rw[i,jF];omega
 refine⟨?_,by unfold uh;rw[d];rfl,e⟩;rw[Lib.toList_data];have b:=gF s g;have hlen:(qj s).data.toList.length=1:=by rw[zz];exact e
 obtain⟨a,f⟩:=List.length_eq_one_iff.1 hlen;rw[f] at b |-
 have:a=c:=UInt8.toNat_inj.1 (by rw[<- h,<- b];rfl)
 rw[this]
theorem Py(s:BY)(d:0<s.size)(h:(s.data.toList.getD 0 0).toNat=42):Yg (qW s)=(-2,⟨#[]⟩,1):=by
 obtain⟨a,b,c⟩:=KF s d 42 (by decide) h
 have:qW s=some (3,qj s,1):=by
  unfold qW;rw[b,a,c];rfl
 rw[this];rfl
theorem Pw(s:BY)(d:0<s.size)(h:(s.data.toList.getD 0 0).toNat=63):Yg (qW s)=(-1,⟨#[]⟩,1):=by
 obtain⟨a,b,c⟩:=KF s d 63 (by decide) h
 have:qW s=some (2,qj s,1):=by
  unfold qW;rw[b,a,c];rfl
 rw[this];rfl
theorem Pp(s:BY)(a:0<s.size)(h:(s.data.toList.getD 0 0).toNat=36):Yg (qW s)=ZH (s.extract 1 s.size):=by
 obtain⟨b,c,d⟩:=KF s a 36 (by decide) h
 have:qW s=VW s:=by
  unfold qW VW;rw[c,b];rfl
 rw[this,Dc s a]
theorem di(s:BY)(a:0<s.size)(f:(s.data.toList.getD 0 0).toNat≠42)(g:(s.data.toList.getD 0 0).toNat≠63)(h:(s.data.toList.getD 0 0).toNat≠36) :
  (Utf8.decode s 0=(65533,1)/\Yg (qW s)=(0,⟨#[]⟩,0)) \/
  (∃c n,c<=1114111/\Utf8.decode s 0=(c,n)/\¬(c=65533/\n=1)/\n<=s.size/\Yg (qW s)=((c:Int),⟨#[]⟩,n)):=by
 have b:=KJ s a 42 f;have d:=KJ s a 63 g;have e:=KJ s a 36 h
 rcases Ch s a with ⟨ho,hd⟩|⟨ho,hc,hd,hn⟩
 ·left
  refine⟨hd,?_⟩
  have:qW s=none:=by unfold qW;rw[zb ho]
  rw[this];rfl
 ·right
  refine⟨_,_,rune_le _ hc,hd,hn,(KL s a).2,?_⟩
  have:qW s=some (1,qj s,(qj s).size):=by
   unfold qW;rw[ho,b,d,e];rfl
  rw[this];rfl
end Pg
end Go.Proofs.YtdakgnaojakldaaGreatDoor
