/- P -/
import Derived.Test.YtdakgnaojakldaaGreatDoorF09
import Derived.Lib.DecodeN
import Derived.Lib.Strings
import Derived.Lib.CutLaws
import Derived.Lib.ValidAsc
import Derived.Shelf.Unicode.DecodeAny
import Derived.Shelf.Strings.Cut
open Go.Proofs.Tryz
set_option maxRecDepth 100000
set_option maxHeartbeats 4000000
namespace Go.Proofs.YtdakgnaojakldaaGreatDoor
namespace Pg
open Ref
def kR(c:Nat):List Nat:=
 if c<128 then [c]
 else if c<2048 then [192+c / 64,128+c % 64]
 else if c<65536 then [224+c / 4096,128+c / 64 % 64,128+c % 64]
 else [240+c / 262144,128+c / 4096 % 64,128+c / 64 % 64,128+c % 64]
def yB(l:List Nat):Nat:=
 if l.length=1 then l.getD 0 0
 else if l.length=2 then (l.getD 0 0-192)*64+(l.getD 1 0-128)
 else if l.length=3 then (l.getD 0 0-224)*4096+(l.getD 1 0-128)*64+(l.getD 2 0-128)
 else (l.getD 0 0-240)*262144+(l.getD 1 0-128)*4096+(l.getD 2 0-128)*64+(l.getD 3 0-128)
theorem dX(a:Nat):yB [a]=a:=by
 simp[yB]
theorem dY(a b:Nat):yB [a,b]=(a-192)*64+(b-128):=by
 simp[yB]
theorem dZ(a b c:Nat):yB [a,b,c]=(a-224)*4096+(b-128)*64+(c-128):=by
 simp[yB]
theorem ed(a b c d:Nat):yB [a,b,c,d]=(a-240)*262144+(b-128)*4096+(c-128)*64+(d-128):=by
 simp[yB]
theorem YQ(c:Nat):yB (kR c)=c:=by
 unfold kR
 by_cases h1:c<128
 ·rw[if_pos h1,dX]
 by_cases h2:c<2048
 ·rw[if_neg h1,if_pos h2,dY];omega
 by_cases h3:c<65536
 ·rw[if_neg h1,if_neg h2,if_pos h3,dZ];omega
 ·rw[if_neg h1,if_neg h2,if_neg h3,ed];omega
def nums(t:BA):List Nat:=t.data.toList.map UInt8.toNat
def yS(t:BA):Nat:=yB (nums t)
def ky(t:BA):Prop:=∃c,c<=1114111/\nums t=kR c
theorem Lr(s t:BA)(h:nums s=nums t):s.toList=t.toList:=by
 rw[Lib.toList_data,Lib.toList_data];unfold nums at h;exact (List.map_inj_right (λa b e=>UInt8.toNat_inj.1 e)).1 h
theorem Oh(s t:BA)(g:ky s)(i:ky t):(s.toList==t.toList)=decide (yS s=yS t):=by
 obtain⟨c,_,e⟩:=g;obtain⟨d,_,hd⟩:=i;have a:yS s=c:=by unfold yS;rw[e,YQ]
 have b:yS t=d:=by unfold yS;rw[hd,YQ]
 rw[a,b]
 by_cases h:c=d
 ·subst h
  have:=Lr s t (e.trans hd.symm)
  rw[this];simp
 ·have:s.toList≠t.toList:=by
   intro f;apply h;rw[<- a,<- b];unfold yS nums;rw[<- Lib.toList_data,<- Lib.toList_data,f]
  simp[this,h]
theorem rune_le(t:BA)(h:ky t):yS t<=1114111:=by
 obtain⟨c,a,e⟩:=h;unfold yS;rw[e,YQ];exact a
def Xo(n b0 a b c:Nat):Nat:=
 if n=0 then 0
 else if b0<128 then 1
 else if 194<=b0/\b0<=223 then (if 2<=n/\128<=a/\a<=191 then 2 else 0)
 else if b0=224 then (if 3<=n/\160<=a/\a<=191/\128<=b/\b<=191 then 3 else 0)
 else if b0=237 then (if 3<=n/\128<=a/\a<=159/\128<=b/\b<=191 then 3 else 0)
 else if 225<=b0/\b0<=239 then (if 3<=n/\128<=a/\a<=191/\128<=b/\b<=191 then 3 else 0)
 else if b0=240 then (if 4<=n/\144<=a/\a<=191/\128<=b/\b<=191/\128<=c/\c<=191 then 4 else 0)
 else if 241<=b0/\b0<=243 then (if 4<=n/\128<=a/\a<=191/\128<=b/\b<=191/\128<=c/\c<=191 then 4 else 0)
 else if b0=244 then (if 4<=n/\128<=a/\a<=143/\128<=b/\b<=191/\128<=c/\c<=191 then 4 else 0)
 else 0
theorem dU(l:List UInt8)(lo hi:Int):Qc l lo hi 1=decide (lo<=((l.getD 1 0).toNat:Int)/\((l.getD 1 0).toNat:Int)<=hi):=by
 simp[Qc,List.range_succ]
theorem dW(l:List UInt8)(lo hi:Int):Qc l lo hi 2=(decide (lo<=((l.getD 1 0).toNat:Int)/\((l.getD 1 0).toNat:Int)<=hi)&&decide (128<=(l.getD 2 0).toNat/\(l.getD 2 0).toNat<=191)):=by
 rw[dV,dU];simp
theorem AR(l:List UInt8)(lo hi:Int):Qc l lo hi 3=(decide (lo<=((l.getD 1 0).toNat:Int)/\((l.getD 1 0).toNat:Int)<=hi)&&decide (128<=(l.getD 2 0).toNat/\(l.getD 2 0).toNat<=191)&&decide (128<=(l.getD 3 0).toNat/\(l.getD 3 0).toNat<=191)):=by
 rw[dV,dW];simp
theorem Un(l:List UInt8)(n lo hi:Int)(a:l.length≠0)(h:¬(l.getD 0 0).toNat<128)(b:zY ((l.getD 0 0).toNat:Int)=(n,lo,hi)) :
  yl l=if n=0 then 0 else if (l.length:Int)<n+1 then 0 else if Qc l lo hi n.toNat then n.toNat+1 else 0:=by
 unfold yl;rw[if_neg a,if_neg h,b]
theorem wN(l:List UInt8)(lo hi:Nat)(a:l.length≠0)(h:¬(l.getD 0 0).toNat<128)(b:zY ((l.getD 0 0).toNat:Int)=(1,(lo:Int),(hi:Int))) :
  yl l=if 2<=l.length/\lo<=(l.getD 1 0).toNat/\(l.getD 1 0).toNat<=hi then 2 else 0:=by
 rw[Un l _ _ _ a h b,if_neg (by decide),show (1:Int).toNat=1 from rfl,dU]
 generalize (l.getD 1 0).toNat=b1
 by_cases c:2<=l.length/\lo<=b1/\b1<=hi
 ·rw[if_pos c,if_neg (by omega),if_pos (by simp;omega)]
 ·rw[if_neg c]
  by_cases d:(l.length:Int)<1+1
  ·rw[if_pos d]
  ·rw[if_neg d,if_neg (by simp;omega)]
theorem Ul(l:List UInt8)(lo hi:Nat)(a:l.length≠0)(h:¬(l.getD 0 0).toNat<128)(b:zY ((l.getD 0 0).toNat:Int)=(2,(lo:Int),(hi:Int))) :
  yl l=if 3<=l.length/\lo<=(l.getD 1 0).toNat/\(l.getD 1 0).toNat<=hi/\128<=(l.getD 2 0).toNat/\(l.getD 2 0).toNat<=191 then 3 else 0:=by
 rw[Un l _ _ _ a h b,if_neg (by decide),show (2:Int).toNat=2 from rfl,dW]
 generalize (l.getD 1 0).toNat=b1;generalize (l.getD 2 0).toNat=b2
 by_cases c:3<=l.length/\lo<=b1/\b1<=hi/\128<=b2/\b2<=191
 ·rw[if_pos c,if_neg (by omega),if_pos (by simp;omega)]
 ·rw[if_neg c]
  by_cases d:(l.length:Int)<2+1
  ·rw[if_pos d]
  ·rw[if_neg d,if_neg (by simp;omega)]
theorem Um(l:List UInt8)(lo hi:Nat)(a:l.length≠0)(h:¬(l.getD 0 0).toNat<128)(b:zY ((l.getD 0 0).toNat:Int)=(3,(lo:Int),(hi:Int))) :
  yl l=if 4<=l.length/\lo<=(l.getD 1 0).toNat/\(l.getD 1 0).toNat<=hi/\128<=(l.getD 2 0).toNat/\(l.getD 2 0).toNat<=191/\128<=(l.getD 3 0).toNat/\(l.getD 3 0).toNat<=191 then 4 else 0:=by
 rw[Un l _ _ _ a h b,if_neg (by decide),show (3:Int).toNat=3 from rfl,AR]
 generalize (l.getD 1 0).toNat=b1;generalize (l.getD 2 0).toNat=b2;generalize (l.getD 3 0).toNat=b3
 by_cases c:4<=l.length/\lo<=b1/\b1<=hi/\128<=b2/\b2<=191/\128<=b3/\b3<=191
 ·rw[if_pos c,if_neg (by omega),if_pos (by simp;omega)]
 ·rw[if_neg c]
  by_cases d:(l.length:Int)<3+1
  ·rw[if_pos d]
  ·rw[if_neg d,if_neg (by simp;omega)]
theorem wO(l:List UInt8):yl l=Xo l.length (l.getD 0 0).toNat (l.getD 1 0).toNat (l.getD 2 0).toNat (l.getD 3 0).toNat:=by
 unfold Xo
 by_cases hl:l.length=0
 ·rw[if_pos hl];unfold yl;rw[if_pos hl]
 rw[if_neg hl]
 by_cases h:(l.getD 0 0).toNat<128
 ·rw[if_pos h];unfold yl;rw[if_neg hl,if_pos h]
 rw[if_neg h]
 by_cases c1:194<=(l.getD 0 0).toNat/\(l.getD 0 0).toNat<=223
 ·rw[if_pos c1];exact wN l 128 191 hl h (by unfold zY;rw[if_pos (by omega)];rfl)
 rw[if_neg c1]
 by_cases c2:(l.getD 0 0).toNat=224
 ·rw[if_pos c2];exact Ul l 160 191 hl h (by unfold zY;rw[if_neg (by omega),if_pos (by omega)];rfl)
 rw[if_neg c2]
 by_cases c3:(l.getD 0 0).toNat=237
 ·rw[if_pos c3];exact Ul l 128 159 hl h (by unfold zY;rw[if_neg (by omega),if_neg (by omega),if_pos (by omega)];rfl)
 rw[if_neg c3]
 by_cases c4:225<=(l.getD 0 0).toNat/\(l.getD 0 0).toNat<=239
 ·rw[if_pos c4];exact Ul l 128 191 hl h (by unfold zY;rw[if_neg (by omega),if_neg (by omega),if_neg (by omega),if_pos (by omega)];rfl)
 rw[if_neg c4]
 by_cases c5:(l.getD 0 0).toNat=240
 ·rw[if_pos c5];exact Um l 144 191 hl h (by unfold zY;rw[if_neg (by omega),if_neg (by omega),if_neg (by omega),if_neg (by omega),if_pos (by omega)];rfl)
 rw[if_neg c5]
 by_cases c6:241<=(l.getD 0 0).toNat/\(l.getD 0 0).toNat<=243
 ·rw[if_pos c6];exact Um l 128 191 hl h (by unfold zY;rw[if_neg (by omega),if_neg (by omega),if_neg (by omega),if_neg (by omega),if_neg (by omega),if_pos (by omega)];rfl)
 rw[if_neg c6]
 by_cases c7:(l.getD 0 0).toNat=244
 ·rw[if_pos c7];exact Um l 128 143 hl h (by unfold zY;rw[if_neg (by omega),if_neg (by omega),if_neg (by omega),if_neg (by omega),if_neg (by omega),if_neg (by omega),if_pos (by omega)];rfl)
 rw[if_neg c7];unfold yl;rw[if_neg hl,if_neg h,if_pos];unfold zY;rw[if_neg (by omega),if_neg (by omega),if_neg (by omega),if_neg (by omega),if_neg (by omega),if_neg (by omega),if_neg (by omega)]
theorem Bi(n b0 a b c:Nat)(h:b0<128):Lib.decodeN n b0 a b c=(b0,1):=by
 unfold Lib.decodeN;rw[if_pos h]
theorem Bl(n b0 a b c:Nat)(h:194<=b0/\b0<=223)(e:2<=n)(d:128<=a/\a<=191):Lib.decodeN n b0 a b c=(b0 % 32*64+a % 64,2):=by
 unfold Lib.decodeN;rw[if_neg (by omega),if_pos ⟨by omega,by omega,by omega⟩,if_pos (by omega)]
theorem Bj(n b0 a b c:Nat)(h:224<=b0/\b0<=239)(g:3<=n)(d:128<=a/\a<=191)(e:128<=b/\b<=191)(f:b0=224->160<=a)(hb:b0=237->a<=159) :
  Lib.decodeN n b0 a b c=(b0 % 16*4096+a % 64*64+b % 64,3):=by
 unfold Lib.decodeN;rw[if_neg (by omega),if_neg (by omega),if_pos ⟨by omega,⟨by omega,by omega⟩,by omega,by omega⟩,if_pos (by omega)]
theorem Bh(n b0 a b c:Nat)(h:240<=b0/\b0<=244)(i:4<=n)(d:128<=a/\a<=191)(e:128<=b/\b<=191)(f:128<=c/\c<=191)(g:b0=240->144<=a)(hb:b0=244->a<=143) :
  Lib.decodeN n b0 a b c=(b0 % 8*262144+a % 64*4096+b % 64*64+c % 64,4):=by
 unfold Lib.decodeN;rw[if_neg (by omega),if_neg (by omega),if_neg (by omega),if_pos ⟨by omega,⟨by omega,by omega⟩,⟨by omega,by omega⟩,by omega,by omega⟩,if_pos (by omega)]
def Good(n b0 a b d k:Nat):Prop:=
 Lib.decodeN n b0 a b d=(yB ([b0,a,b,d].take k),k)/\k<=n/\k<=4/\∃c,c<=1114111/\[b0,a,b,d].take k=kR c
theorem EA(n b0 a b c:Nat)(d:n≠0)(h:b0<128):Good n b0 a b c 1:=by
 refine⟨by rw[Bi _ _ _ _ _ h];rfl,by omega,by omega,b0,by omega,?_⟩;unfold kR;rw[if_pos h];rfl
theorem EB(n b0 a b c:Nat)(h:194<=b0/\b0<=223)(e:2<=n)(d:128<=a/\a<=191):Good n b0 a b c 2:=by
 refine⟨?_,by omega,by omega,b0 % 32*64+a % 64,by omega,?_⟩
 ·rw[Bl _ _ _ _ _ h e d];show _=(yB [b0,a],2);rw[dY,Prod.mk.injEq];exact⟨by omega,rfl⟩
 ·show [b0,a]=_;unfold kR;rw[if_neg (by omega),if_pos (by omega)];congr 1
  ·omega
  ·congr 1;omega
theorem U3(n b0 a b c:Nat)(h:224<=b0/\b0<=239)(g:3<=n)(d:128<=a/\a<=191)(e:128<=b/\b<=191)(f:b0=224->160<=a)(hb:b0=237->a<=159):Good n b0 a b c 3:=by
 refine⟨?_,by omega,by omega,b0 % 16*4096+a % 64*64+b % 64,by omega,?_⟩
 ·rw[Bj _ _ _ _ _ h g d e f hb];show _=(yB [b0,a,b],3);rw[dZ,Prod.mk.injEq];exact⟨by omega,rfl⟩
 ·show [b0,a,b]=_;unfold kR;rw[if_neg (by omega),if_neg (by omega),if_pos (by omega)];congr 1
  ·omega
  ·congr 1
   ·omega
   ·congr 1;omega
theorem U2(n b0 a b c:Nat)(h:240<=b0/\b0<=244)(i:4<=n)(d:128<=a/\a<=191)(e:128<=b/\b<=191)(f:128<=c/\c<=191)(g:b0=240->144<=a)(hb:b0=244->a<=143):Good n b0 a b c 4:=by
 refine⟨?_,by omega,by omega,b0 % 8*262144+a % 64*4096+b % 64*64+c % 64,by omega,?_⟩
 ·rw[Bh _ _ _ _ _ h i d e f g hb];show _=(yB [b0,a,b,c],4);rw[ed,Prod.mk.injEq];exact⟨by omega,rfl⟩
 ·show [b0,a,b,c]=_;unfold kR;rw[if_neg (by omega),if_neg (by omega),if_neg (by omega)];congr 1
  ·omega
  ·congr 1
   ·omega
   ·congr 1
    ·omega
    ·congr 1;omega
theorem Bg(n b0 a b c:Nat)(d:n≠0)(e:b0<256)(h:Xo n b0 a b c=0):Lib.decodeN n b0 a b c=(65533,1):=by
 unfold Xo at h;rw[if_neg d] at h;unfold Lib.decodeN
 repeat' split at h
 all_goals first|(exfalso;omega)|skip
 all_goals repeat' split
 all_goals first|rfl|(exfalso;omega)
theorem Ho(n b0 a b e:Nat)(f:n≠0)(h:Xo n b0 a b e≠0):Good n b0 a b e (Xo n b0 a b e):=by
 unfold Xo at h |-;rw[if_neg f] at h |-
 split at h
 ·rename_i c;rw[if_pos c];exact EA _ _ _ _ _ f c
 rename_i c0;rw[if_neg c0]
 split at h
 ·rename_i c;rw[if_pos c]
  split at h
  ·rename_i d;rw[if_pos d];exact EB _ _ _ _ _ c d.1 d.2
  ·exact absurd rfl h
 rename_i c1;rw[if_neg c1]
 split at h
 ·rename_i c;rw[if_pos c]
  split at h
  ·rename_i d;rw[if_pos d];exact U3 _ _ _ _ _ (by omega) d.1 (by omega) (by omega) (by omega) (by omega)
  ·exact absurd rfl h
 rename_i c2;rw[if_neg c2]
 split at h
 ·rename_i c;rw[if_pos c]
  split at h
  ·rename_i d;rw[if_pos d];exact U3 _ _ _ _ _ (by omega) d.1 (by omega) (by omega) (by omega) (by omega)
  ·exact absurd rfl h
 rename_i c3;rw[if_neg c3]
 split at h
 ·rename_i c;rw[if_pos c]
  split at h
  ·rename_i d;rw[if_pos d];exact U3 _ _ _ _ _ (by omega) d.1 (by omega) (by omega) (by omega) (by omega)
  ·exact absurd rfl h
 rename_i c4;rw[if_neg c4]
 split at h
 ·rename_i c;rw[if_pos c]
  split at h
  ·rename_i d;rw[if_pos d];exact U2 _ _ _ _ _ (by omega) d.1 (by omega) (by omega) (by omega) (by omega) (by omega)
  ·exact absurd rfl h
 rename_i c5;rw[if_neg c5]
 split at h
 ·rename_i c;rw[if_pos c]
  split at h
  ·rename_i d;rw[if_pos d];exact U2 _ _ _ _ _ (by omega) d.1 (by omega) (by omega) (by omega) (by omega) (by omega)
  ·exact absurd rfl h
 rename_i g;rw[if_neg g]
 split at h
 ·rename_i c;rw[if_pos c]
  split at h
  ·rename_i d;rw[if_pos d];exact U2 _ _ _ _ _ (by omega) d.1 (by omega) (by omega) (by omega) (by omega) (by omega)
  ·exact absurd rfl h
 ·exact absurd rfl h
theorem fQ(s:BA)(k:Nat):s.get! k=s.data.toList.getD k 0:=by
 obtain⟨⟨l⟩⟩:=s;show (Array.mk l)[k]! = _
 by_cases h:k<l.length
 ·simp[List.getD,h]
 ·simp[List.getD,h];rfl
theorem RX(l:List UInt8)(k:Nat)(f:k<=4)(e:k<=l.length):(l.take k).map UInt8.toNat=[(l.getD 0 0).toNat,(l.getD 1 0).toNat,(l.getD 2 0).toNat,(l.getD 3 0).toNat].take k:=by
 obtain rfl|rfl|rfl|rfl|rfl:k=0\/k=1\/k=2\/k=3\/k=4:=by omega
 all_goals rcases l with _|⟨a,_|⟨b,_|⟨c,_|⟨d,l⟩⟩⟩⟩
 all_goals first|rfl|(simp at e)
theorem Lp(s:BA)(k:Nat):nums (s.extract 0 k)=(s.data.toList.take k).map UInt8.toNat:=by
 unfold nums;simp[ByteArray.data_extract]
theorem YR(s:BA)(r:0<s.size) :
  (Qx s=false/\Utf8.decode s 0=(65533,1)) \/
  (Qx s=true/\ky (qa s)/\Utf8.decode s 0=(yS (qa s),(qa s).size)/\¬(yS (qa s)=65533/\(qa s).size=1)):=by
 have hd:=Lib.decode_at s 0;simp only[fQ,Nat.sub_zero,Nat.zero_add] at hd;have b:=wO s.data.toList;have a:s.data.toList.length=s.size:=zy s;rw[a] at b
 by_cases h:yl s.data.toList=0
 ·left
  refine⟨by unfold Qx;rw[h];rfl,?_⟩;rw[hd];exact Bg _ _ _ _ _ (by omega) (UInt8.toNat_lt _) (b.symm.trans h)
 ·right
  have l:qa s=s.extract 0 (yl s.data.toList):=by unfold qa;rw[if_neg h]
  have j:=Ho _ _ _ _ _ (by omega) (λe=>h (b.trans e));rw[<- b] at j;obtain⟨n,o,p,c,q,i⟩:=j
  have d:nums (qa s)=kR c:=by
   rw[l,Lp,RX _ _ p (by rw[a];exact o)];exact i
  have k:yS (qa s)=c:=by unfold yS;rw[d,YQ]
  have f:(qa s).size=yl s.data.toList:=by rw[l,ByteArray.size_extract];omega
  refine⟨by unfold Qx;simp[h],⟨c,q,d⟩,?_,?_⟩
  ·rw[hd,n,k,f,i,YQ]
  ·rintro ⟨g,m⟩;rw[k] at g
   have:(nums (qa s)).length=1:=by unfold nums;rw[List.length_map,zy];exact m
   rw[d,g] at this;simp[kR] at this
def qC(p:Int×BA):Int:=if p.1=3 then -2 else if p.1=2 then -1 else if p.1=4 then 0 else (yS p.2:Int)
def nameOf(p:Int×BA):BA:=if p.1=4 then p.2 else ⟨#[]⟩
def XO(u:BA):Nat:=u.data.toList.findIdx λc=>c.toNat==125
def Zz(u:BA):Bool:=decide (XO u<u.size)
def ZA(u:BA):BA:=if Zz u then u.extract 0 (XO u) else u
theorem Fe(l:List UInt8):Lib.index l [125]=if l.findIdx (λc=>c.toNat==125)<l.length then ((l.findIdx λc=>c.toNat==125:Nat):Int) else -1:=by
 induction l with
 | nil=>rfl
 | cons b l g=>
  unfold Lib.index;rw[g,List.findIdx_cons]
  have e:([125].isPrefixOf (b::l))=(b.toNat==125):=by
   simp only[List.isPrefixOf,Bool.and_true];rw[Bool.eq_iff_iff,beq_iff_eq,beq_iff_eq]
   constructor
   ·intro h;rw[<- h];rfl
   ·intro h;exact (UInt8.toNat_inj.1 (by rw[h];rfl)).symm
  rw[e]
  cases h:b.toNat==125 with
  | true=>simp
  | false=>
   simp only[Bool.false_eq_true,if_false,cond_false,List.length_cons];generalize l.findIdx (λc=>c.toNat==125)=f;generalize l.length=n
   by_cases hl:f<n
   ·have a:f+1<n+1:=by omega
    have d:((f:Int) == -1)=false:=by rw[beq_eq_false_iff_ne];omega
    simp[hl,a,d]
   ·have a:¬f+1<n+1:=by omega
    simp[hl,a]
theorem Be(u:BA):(⟨(Lib.cut u.data.toList [125]).1.toArray⟩:BA)=ZA u/\(Lib.cut u.data.toList [125]).2.2=Zz u:=by
 have hi:=Fe u.data.toList;rw[zy] at hi;unfold ZA Zz XO
 by_cases h:u.data.toList.findIdx (λc=>c.toNat==125)<u.size
 ·rw[if_pos h] at hi;have a:=Lib.cutB_hit u ⟨#[125]⟩ _ hi;rw[decide_eq_true h,if_pos rfl];exact⟨a.1,a.2.2⟩
 ·rw[if_neg h] at hi;have a:=Lib.cutB_miss u ⟨#[125]⟩ hi;rw[decide_eq_false h,if_neg (by decide)];exact⟨a.1,a.2.2⟩
def kL(t:BA):Int×BA×Nat:=
 if t.size=0 then (0,⟨#[]⟩,0)
 else if (t.data.toList.getD 0 0).toNat=36\/(t.data.toList.getD 0 0).toNat=42\/(t.data.toList.getD 0 0).toNat=63 then ((t.data.toList.getD 0 0).toNat,⟨#[]⟩,2)
 else if (t.data.toList.getD 0 0).toNat=123 then
  (if Zz (t.extract 1 t.size) then (if zI (ZA (t.extract 1 t.size)) then (0,ZA (t.extract 1 t.size),2+(ZA (t.extract 1 t.size)).size+1) else (0,⟨#[]⟩,0)) else (0,⟨#[]⟩,0))
 else (0,⟨#[]⟩,0)
def Xw(p:Option (Int×BA×Nat)):Int×BA×Nat:=match p with
 | none=>(0,⟨#[]⟩,0)
 | some (k,t,n)=>(qC (k,t),nameOf (k,t),n)
def JV(s:BA):Option (Int×BA×Nat):=if (kM s).2.2=0 then none else some (kM s)
theorem Dn(s:BA):(s.extract 1 s.size).data.toList=s.data.toList.drop 1:=Lib.ext_list s 1
theorem Dp(s:BA)(k:Nat):(s.extract k s.size).extract 1 (s.extract k s.size).size=s.extract (k+1) s.size:=by
 rw[ByteArray.extract_extract,ByteArray.size_extract];have e:min (k+(min s.size s.size-k)) s.size=s.size\/s.size<=k:=by omega
 rcases e with e|e
 ·rw[e]
 ·have a:min (k+(min s.size s.size-k)) s.size=s.size:=by omega
  rw[a]
theorem Oe(s:BA)(k:Nat)(b:k<s.size):yS (s.extract k (k+1))=(s.data.toList.getD k 0).toNat:=by
 unfold yS nums
 have:(s.extract k (k+1)).data.toList=[s.data.toList.getD k 0]:=by
  have a:k<s.data.toList.length:=by rw[zy];exact b
  rw[ByteArray.data_extract,Array.toList_extract,List.getD_eq_getElem?_getD,List.getElem?_eq_getElem a];simp only[List.extract_eq_take_drop,Option.getD_some];rw[List.drop_eq_getElem_cons a]
  simp
 rw[this];simp only[List.map_cons,List.map_nil,dX]
theorem BQ(s:BA)(j:0<s.size):kL (s.extract 1 s.size)=Xw (JV s):=by
 have d:(s.extract 1 s.size).size=s.size-1:=by rw[ByteArray.size_extract];omega
 have f:(s.extract 1 s.size).data.toList.getD 0 0=s.data.toList.getD 1 0:=by
  rw[Dn];simp
 unfold kL;rw[f,d];unfold JV kM
 by_cases h2:s.size<2
 ·rw[if_pos (by omega),if_pos h2];rfl
 rw[if_neg (by omega),if_neg h2]
 by_cases h3:(s.data.toList.getD 1 0).toNat=36\/(s.data.toList.getD 1 0).toNat=42\/(s.data.toList.getD 1 0).toNat=63
 ·rw[if_pos h3,if_pos h3];show _=(qC (1,s.extract 1 2),nameOf (1,s.extract 1 2),2)
  have:qC (1,s.extract 1 2)=((s.data.toList.getD 1 0).toNat:Int):=by
   show ((yS (s.extract 1 2):Nat):Int)=_;rw[Oe s 1 (by omega)]
  rw[this];rfl
 rw[if_neg h3,if_neg h3]
 by_cases h4:(s.data.toList.getD 1 0).toNat=123
 ·rw[if_pos h4,if_pos h4]
  have i:(s.extract 1 s.size).extract 1 (s.size-1)=s.extract 2 s.size:=by
   have:=Dp s 1;rw[d] at this;exact this
  rw[i];have g:(s.extract 2 s.size).data.toList=s.data.toList.drop 2:=Lib.ext_list s 2;have hb:vS s=2+XO (s.extract 2 s.size):=by unfold vS XO;rw[g]
  have a:(s.extract 2 s.size).size=s.size-2:=by rw[ByteArray.size_extract];omega
  by_cases hc:vS s<s.size
  ·have b:Zz (s.extract 2 s.size)=true:=by unfold Zz;rw[a];exact decide_eq_true (by omega)
   have h:ZA (s.extract 2 s.size)=s.extract 2 (vS s):=by
    unfold ZA;rw[b,if_pos rfl,ByteArray.extract_extract];have e:min (2+XO (s.extract 2 s.size)) s.size=vS s:=by rw[hb] at hc |-;omega
    rw[e]
   have c:(s.extract 2 (vS s)).size=vS s-2:=by rw[ByteArray.size_extract];omega
   rw[b,if_pos rfl,if_pos hc,h]
   by_cases hi:zI (s.extract 2 (vS s))=true
   ·rw[if_pos hi,if_pos hi];show _=(qC (4,_),nameOf (4,_),_);rw[c]
    have:2+(vS s-2)+1=vS s+1:=by omega
    rw[this];rfl
   ·rw[if_neg hi,if_neg hi];rfl
  ·have b:Zz (s.extract 2 s.size)=false:=by unfold Zz;rw[a];exact decide_eq_false (by omega)
   rw[b,if_neg (by decide),if_neg hc];rfl
 ·rw[if_neg h4,if_neg h4];rfl
theorem dx(s:BA)(c:0<s.size):(qa s).data.toList.getD 0 0=s.data.toList.getD 0 0:=by
 unfold qa;generalize b:(if yl s.data.toList=0 then 1 else yl s.data.toList)=k
 have d:1<=k:=by rw[<- b];split<;>omega
 obtain⟨⟨l⟩⟩:=s
 cases l with
 | nil=>exact absurd c (by decide)
 | cons a l=>
  obtain⟨j,rfl⟩:∃j,k=j+1:=⟨k-1,by omega⟩;simp[ByteArray.data_extract]
theorem Uo(s:BA)(a:0<s.size)(c:UInt8)(h:(s.data.toList.getD 0 0).toNat≠c.toNat):((qa s).toList==[c])=false:=by
 rw[beq_eq_false_iff_ne];intro e;rw[Lib.toList_data] at e
 have:=dx s a
 rw[e] at this;apply h;rw[<- this];rfl
theorem Uk(s:BA)(g:0<s.size)(c:UInt8)(j:c.toNat<128)(h:(s.data.toList.getD 0 0).toNat=c.toNat):(qa s).toList=[c]/\Qx s=true/\(qa s).size=1:=by
 have d:yl s.data.toList=1:=by
  unfold yl;rw[zy,if_neg (by omega),if_pos (by omega)]
 have i:qa s=s.extract 0 1:=by unfold qa;rw[d];rfl
 have e:(qa s).size=1:=by rw[i,ByteArray.size_extract];omega
 refine⟨?_,by unfold Qx;rw[d];rfl,e⟩;rw[Lib.toList_data];have b:=dx s g;have hlen:(qa s).data.toList.length=1:=by rw[zy];exact e
 obtain⟨a,f⟩:=List.length_eq_one_iff.1 hlen;rw[f] at b |-
 have:a=c:=UInt8.toNat_inj.1 (by rw[<- h,<- b];rfl)
 rw[this]
theorem PQ(s:BA)(d:0<s.size)(h:(s.data.toList.getD 0 0).toNat=42):Xw (xC s)=(-2,⟨#[]⟩,1):=by
 obtain⟨a,b,c⟩:=Uk s d 42 (by decide) h
 have:xC s=some (3,qa s,1):=by
  unfold xC;rw[b,a,c];rfl
 rw[this];rfl
theorem PP(s:BA)(d:0<s.size)(h:(s.data.toList.getD 0 0).toNat=63):Xw (xC s)=(-1,⟨#[]⟩,1):=by
 obtain⟨a,b,c⟩:=Uk s d 63 (by decide) h
 have:xC s=some (2,qa s,1):=by
  unfold xC;rw[b,a,c];rfl
 rw[this];rfl
theorem PI(s:BA)(a:0<s.size)(h:(s.data.toList.getD 0 0).toNat=36):Xw (xC s)=kL (s.extract 1 s.size):=by
 obtain⟨b,c,d⟩:=Uk s a 36 (by decide) h
 have:xC s=JV s:=by
  unfold xC JV;rw[c,b];rfl
 rw[this,BQ s a]
theorem oq(s:BA)(a:0<s.size)(f:(s.data.toList.getD 0 0).toNat≠42)(g:(s.data.toList.getD 0 0).toNat≠63)(h:(s.data.toList.getD 0 0).toNat≠36) :
  (Utf8.decode s 0=(65533,1)/\Xw (xC s)=(0,⟨#[]⟩,0)) \/
  (∃c n,c<=1114111/\Utf8.decode s 0=(c,n)/\¬(c=65533/\n=1)/\n<=s.size/\Xw (xC s)=((c:Int),⟨#[]⟩,n)):=by
 have b:=Uo s a 42 f;have d:=Uo s a 63 g;have e:=Uo s a 36 h
 rcases YR s a with ⟨ho,hd⟩|⟨ho,hc,hd,hn⟩
 ·left
  refine⟨hd,?_⟩
  have:xC s=none:=by unfold xC;rw[if_pos ho]
  rw[this];rfl
 ·right
  refine⟨_,_,rune_le _ hc,hd,hn,(YJ s a).2,?_⟩
  have:xC s=some (1,qa s,(qa s).size):=by
   unfold xC;rw[ho,b,d,e];rfl
  rw[this];rfl
end Pg
end Go.Proofs.YtdakgnaojakldaaGreatDoor
namespace Go.Proofs.YtdakgnaojakldaaGreatDoor
open Go.Shelf
def Tryz.lays197_ren:Go.Shelf.Ren:=⟨λ|197=>237|260=>253|n=>n,λ|9=>9|21=>21|3=>3|4=>4|5=>5|105=>388|119=>324|0=>0|46=>321|139=>327|138=>326|n=>n,λ|3=>2|4=>3|n=>n⟩
theorem Tryz.lays197:Go.Proofs.Lays.n197 prog Tryz.lays197_ren:={
 mixed:=by kernel_rfl
 f197:=func237.trans (congrArg some (by kernel_rfl))
 f260:=func253.trans (congrArg some (by kernel_rfl))
 t0:=underlying0
 a0:=Tryz.isAgg0
 z0:=Tryz.sizeOf0
 v0:=Tryz.zeroValue0
 t3:=underlying3
 a3:=Tryz.isAgg3
 z3:=Tryz.sizeOf3
 v3:=Tryz.zeroValue3
 t4:=underlying4
 a4:=Tryz.isAgg4
 z4:=Tryz.sizeOf4
 v4:=Tryz.zeroValue4
 t5:=underlying5
 a5:=Tryz.isAgg5
 z5:=Tryz.sizeOf5
 v5:=Tryz.zeroValue5
 t9:=underlying9
 a9:=Tryz.isAgg9
 z9:=Tryz.sizeOf9
 v9:=Tryz.zeroValue9
 t21:=underlying21
 a21:=Tryz.isAgg21
 z21:=Tryz.sizeOf21
 v21:=Tryz.zeroValue21
 t46:=underlying321
 a46:=Tryz.isAgg321
 z46:=Tryz.sizeOf321
 v46:=Tryz.zeroValue321
 t105:=underlying388
 a105:=Tryz.isAgg388
 z105:=Tryz.sizeOf388
 v105:=Tryz.zeroValue388
 t119:=underlying324
 a119:=Tryz.isAgg324
 z119:=Tryz.sizeOf324
 t138:=underlying326
 a138:=Tryz.isAgg326
 z138:=Tryz.sizeOf326
 v138:=Tryz.zeroValue326
 t139:=underlying327
 a139:=Tryz.isAgg327
 z139:=Tryz.sizeOf327
 v139:=Tryz.zeroValue327
 g3:=by kernel_rfl
 g4:=by kernel_rfl }
def Tryz.lays145_ren:Go.Shelf.Ren:=⟨λ|145=>252|220=>261|219=>267|217=>268|225=>269|224=>270|267=>271|266=>272|314=>273|n=>n,λ|9=>9|4=>4|59=>403|3=>3|5=>5|46=>321|146=>416|51=>398|n=>n,λ|1=>4|n=>n⟩
theorem Tryz.lays145:Go.Proofs.Lays.n145 prog Tryz.lays145_ren:={
 mixed:=by kernel_rfl
 f145:=func252.trans (congrArg some (by kernel_rfl))
 f217:=func268.trans (congrArg some (by kernel_rfl))
 f219:=func267.trans (congrArg some (by kernel_rfl))
 f220:=func261.trans (congrArg some (by kernel_rfl))
 f224:=func270.trans (congrArg some (by kernel_rfl))
 f225:=func269.trans (congrArg some (by kernel_rfl))
 f266:=func272.trans (congrArg some (by kernel_rfl))
 f267:=func271.trans (congrArg some (by kernel_rfl))
 f314:=func273.trans (congrArg some (by kernel_rfl))
 t3:=underlying3
 a3:=Tryz.isAgg3
 z3:=Tryz.sizeOf3
 v3:=Tryz.zeroValue3
 t4:=underlying4
 a4:=Tryz.isAgg4
 z4:=Tryz.sizeOf4
 v4:=Tryz.zeroValue4
 t5:=underlying5
 a5:=Tryz.isAgg5
 z5:=Tryz.sizeOf5
 v5:=Tryz.zeroValue5
 t9:=underlying9
 a9:=Tryz.isAgg9
 z9:=Tryz.sizeOf9
 v9:=Tryz.zeroValue9
 t46:=underlying321
 a46:=Tryz.isAgg321
 z46:=Tryz.sizeOf321
 v46:=Tryz.zeroValue321
 t51:=underlying398
 a51:=Tryz.isAgg398
 z51:=Tryz.sizeOf398
 v51:=Tryz.zeroValue398
 t59:=underlying403
 a59:=Tryz.isAgg403
 z59:=Tryz.sizeOf403
 v59:=Tryz.zeroValue403
 t146:=underlying416
 a146:=Tryz.isAgg416
 z146:=Tryz.sizeOf416
 v146:=Tryz.zeroValue416
 g1:=by kernel_rfl }
def Tryz.lays196_ren:Go.Shelf.Ren:=⟨λ|196=>139|259=>187|n=>n,λ|9=>9|4=>4|3=>3|5=>5|12=>12|119=>324|0=>0|46=>321|139=>327|138=>326|53=>376|n=>n,λ|3=>2|4=>3|n=>n⟩
theorem Tryz.lays196:Go.Proofs.Lays.n196 prog Tryz.lays196_ren:={
 mixed:=by kernel_rfl
 f196:=func139.trans (congrArg some (by kernel_rfl))
 f259:=func187.trans (congrArg some (by kernel_rfl))
 t0:=underlying0
 a0:=Tryz.isAgg0
 z0:=Tryz.sizeOf0
 v0:=Tryz.zeroValue0
 t3:=underlying3
 a3:=Tryz.isAgg3
 z3:=Tryz.sizeOf3
 v3:=Tryz.zeroValue3
 t4:=underlying4
 a4:=Tryz.isAgg4
 z4:=Tryz.sizeOf4
 v4:=Tryz.zeroValue4
 t5:=underlying5
 a5:=Tryz.isAgg5
 z5:=Tryz.sizeOf5
 v5:=Tryz.zeroValue5
 t9:=underlying9
 a9:=Tryz.isAgg9
 z9:=Tryz.sizeOf9
 v9:=Tryz.zeroValue9
 t12:=underlying12
 a12:=Tryz.isAgg12
 z12:=Tryz.sizeOf12
 v12:=Tryz.zeroValue12
 t46:=underlying321
 a46:=Tryz.isAgg321
 z46:=Tryz.sizeOf321
 v46:=Tryz.zeroValue321
 t53:=underlying376
 a53:=Tryz.isAgg376
 z53:=Tryz.sizeOf376
 v53:=Tryz.zeroValue376
 t119:=underlying324
 a119:=Tryz.isAgg324
 z119:=Tryz.sizeOf324
 t138:=underlying326
 a138:=Tryz.isAgg326
 z138:=Tryz.sizeOf326
 v138:=Tryz.zeroValue326
 t139:=underlying327
 a139:=Tryz.isAgg327
 z139:=Tryz.sizeOf327
 v139:=Tryz.zeroValue327
 g3:=by kernel_rfl
 g4:=by kernel_rfl }
end Go.Proofs.YtdakgnaojakldaaGreatDoor
