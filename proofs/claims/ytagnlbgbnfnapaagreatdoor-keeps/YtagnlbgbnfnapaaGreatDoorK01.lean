/- P -/
import Derived.Test.YtagnlbgbnfnapaaGreatDoorK00
import Derived.Test.YtagnlbgbnfnapaaGreatDoorProg
open Go.Proofs.Tryz hiding parts
set_option maxRecDepth 100000
set_option maxHeartbeats 1000000
namespace Go.Proofs.YtagnlbgbnfnapaaGreatDoor
theorem Zu{a b:Bool}(h:a=b):Ending.returned (.bool a) = .returned (.bool b):=by rw[h]
theorem Oy{k:IntKind}{a b:Int}(h:a=b):Ending.returned (.int k a) = .returned (.int k b):=by rw[h]
theorem OA{a b:BY}(h:a=b):Ending.returned (.string a) = .returned (.string b):=by rw[h]
namespace Ref
def zT(b:Int):Int×Int×Int:=
 if 194<=b/\b<=223 then (1,128,191)
 else if b=224 then (2,160,191)
 else if b=237 then (2,128,159)
 else if 225<=b/\b<=239 then (2,128,191)
 else if b=240 then (3,144,191)
 else if 241<=b/\b<=243 then (3,128,191)
 else if b=244 then (3,128,143)
 else (0,0,0)
def letters(l:List UInt8):Bool:=l.all λc=>decide (97<=c.toNat/\c.toNat<=122)
def qh(s:BY):Bool:=decide (1<=s.size/\s.size<=12)&&letters s.data.toList
theorem Vl(s:BY)(k:Nat)(h:k<s.size):s.data.toList.take (k+1)=s.data.toList.take k++[s[k]]:=by
 rw[Js (by simpa using h)];rfl
theorem nz(l:List UInt8)(c:UInt8):letters (l++[c])=(letters l&&decide (97<=c.toNat/\c.toNat<=122)):=by
 simp[letters]
theorem Lb(s:BY)(k:Nat)(h:k<s.size)(hb:¬(97<=s[k].toNat/\s[k].toNat<=122)):letters s.data.toList=false:=by
 have e:letters (s.data.toList.take (k+1))=false:=by rw[Vl s k h,nz];simp[hb]
 have:=VH (k+1) s.data.toList
 rw[<- this];unfold letters at *;rw[Vx,e];rfl
theorem GA(s:BY)(k:Nat)(h:k<s.size)(hb:(s[k].toNat:Int)<97\/122<(s[k].toNat:Int)):qh s=false:=by
 unfold qh;rw[Lb s k h (by omega)];simp
theorem La(s:BY)(k:Nat)(h:k<s.size)(a:letters (s.data.toList.take k)=true)(b:97<=(s[k].toNat:Int))(hb:(s[k].toNat:Int)<=122) :
  letters (s.data.toList.take (k+1))=true:=by
 rw[Vl s k h,nz,a];simp;omega
theorem GD(s:BY)(k:Nat)(h:¬k<s.size)(d:k<=s.size)(b:1<=s.size)(c:s.size<=12)(a:letters (s.data.toList.take k)=true):qh s=true:=by
 unfold qh;rw[Zd (by simp;omega)] at a;rw[a];simp;omega
theorem JW(s:BY)(h:¬(1<=s.size/\s.size<=12)):qh s=false:=by
 unfold qh;simp[h]
theorem bu(b:Int):0<=(zT b).1/\(zT b).1<=3/\0<=(zT b).2.1/\(zT b).2.1<=255/\0<=(zT b).2.2/\(zT b).2.2<=255:=by
 generalize a:zT b=r;unfold zT at a
 (repeat' split at a)<;>subst a<;>simp
def jg(l:List UInt8)(lo hi:Int)(n:Nat):Bool:=
 (List.range n).all λj=>if j=0 then decide (lo<=((l.getD 1 0).toNat:Int)/\((l.getD 1 0).toNat:Int)<=hi) else decide (128<=(l.getD (j+1) 0).toNat/\(l.getD (j+1) 0).toNat<=191)
def qW(l:List UInt8):Nat:=
 if l.length=0 then 0
 else if (l.getD 0 0).toNat<128 then 1
 else if (zT (l.getD 0 0).toNat).1=0 then 0
 else if (l.length:Int)<(zT (l.getD 0 0).toNat).1+1 then 0
 else if jg l (zT (l.getD 0 0).toNat).2.1 (zT (l.getD 0 0).toNat).2.2 (zT (l.getD 0 0).toNat).1.toNat then (zT (l.getD 0 0).toNat).1.toNat+1 else 0
theorem V4(l:List UInt8)(lo hi:Int)(n:Nat) :
  jg l lo hi (n+1)=(jg l lo hi n&&if n=0 then decide (lo<=((l.getD 1 0).toNat:Int)/\((l.getD 1 0).toNat:Int)<=hi) else decide (128<=(l.getD (n+1) 0).toNat/\(l.getD (n+1) 0).toNat<=191)):=by
 unfold jg;rw[Jr,Vx];simp
theorem Cr(l:List UInt8)(lo hi:Int)(n k:Nat)(h:jg l lo hi k=false):jg l lo hi (k+n)=false:=by
 induction n with
 | zero=>exact h
 | succ n a=>rw[<- Nat.add_assoc,V4,a];rfl
theorem KI(c:UInt8):(c.toNat:Int)<=255:=by have:=c.toNat_lt;omega
theorem b0(c:UInt8):(0:Int)<=c.toNat:=by omega
theorem zA(s:BY):s.data.toList.length=s.size:=by simp
theorem getD_at(s:BY)(k:Nat)(h:k<s.size):s.data.toList.getD k 0=s[k]:=by
 rw[zY,zn (by simpa using h)];rfl
def qy(s:BY):BY:=s.extract 0 (if qW s.data.toList=0 then 1 else qW s.data.toList)
def uL(s:BY):Bool:=qW s.data.toList != 0
theorem iq(s:BY)(k:Nat)(h:qW s.data.toList=k):qy s=s.extract 0 (if k=0 then 1 else k)/\uL s=(k != 0):=by
 unfold qy uL;rw[h];exact⟨rfl,rfl⟩
theorem Bl(s:BY)(a:0<s.size)(h:(s[0].toNat:Int)<128):qW s.data.toList=1:=by
 unfold qW;rw[za (by rw[zA];omega),getD_at s 0 a,zb (by omega)]
theorem Bp(s:BY)(a:0<s.size)(lo hi:Int)(b:zT (s[0].toNat:Int)=(0,lo,hi))(h:¬(s[0].toNat:Int)<128):qW s.data.toList=0:=by
 unfold qW;rw[za (by rw[zA];omega),getD_at s 0 a,za (by omega),b,zb rfl]
theorem Bq(s:BY)(c:0<s.size)(n lo hi:Int)(d:zT (s[0].toNat:Int)=(n,lo,hi))(h:¬(s[0].toNat:Int)<128)(b:n≠0)(a:(s.size:Int)<n+1):qW s.data.toList=0:=by
 unfold qW;rw[za (by rw[zA];omega),getD_at s 0 c,za (by omega),d,za b,zb (by simpa using a)]
theorem ik(s:BY)(c:0<s.size)(n lo hi:Int)(d:zT (s[0].toNat:Int)=(n,lo,hi))(h:¬(s[0].toNat:Int)<128)(b:n≠0)(a:¬(s.size:Int)<n+1) :
  qW s.data.toList=if jg s.data.toList lo hi n.toNat then n.toNat+1 else 0:=by
 unfold qW;rw[za (by rw[zA];omega),getD_at s 0 c,za (by omega),d,za b,za (by simpa using a)]
theorem YL(s:BY)(k:Nat)(h:qW s.data.toList=k)(t:BY)(b:Bool)(a:t=s.extract 0 (if k=0 then 1 else k))(hb:b=(k != 0)) :
  Ending.returned (.tuple #[.string t,.bool b]) = .returned (.tuple #[.string (qy s),.bool (uL s)]):=by
 rw[(iq s k h).1,(iq s k h).2,a,hb]
def Qr(lo:Int)(k:Nat):Int:=if k=1 then lo else 128
def Qq(hi:Int)(k:Nat):Int:=if k=1 then hi else 191
theorem iJ(s:BY)(lo hi:Int)(k:Nat)(b:1<=k)(a:k<s.size)(h:jg s.data.toList lo hi (k-1)=true) :
  jg s.data.toList lo hi k=decide (Qr lo k<=(s[k].toNat:Int)/\(s[k].toNat:Int)<=Qq hi k):=by
 obtain⟨j,rfl⟩:∃j,k=j+1:=⟨k-1,by omega⟩;simp only[fJ] at h;rw[V4,h,getD_at s (j+1) a];unfold Qr Qq
 by_cases hj:j=0
 ·subst hj;rw[getD_at s 1 a];simp
 ·rw[za hj,za (by omega),za (by omega),Z0,decide_eq_decide];omega
theorem ig(s:BY)(l:0<s.size)(n lo hi:Int)(m:zT (s[0].toNat:Int)=(n,lo,hi))(h:¬(s[0].toNat:Int)<128)(j:n≠0)(i:¬(s.size:Int)<n+1)
  (k:Nat)(c:1<=k)(f:k<s.size)(g:(k:Int)<=n)(d:jg s.data.toList lo hi (k-1)=true)(hb:(s[k].toNat:Int)<Qr lo k\/Qq hi k<(s[k].toNat:Int)):qW s.data.toList=0:=by
 have e:=iJ s lo hi k c f d;have b:jg s.data.toList lo hi k=false:=by rw[e,af];omega
 have a:=Cr s.data.toList lo hi (n.toNat-k) k b;rw[show k+(n.toNat-k)=n.toNat by omega] at a;rw[ik s l n lo hi m h j i,a];rfl
theorem Cq(s:BY)(lo hi:Int)(k:Nat)(a:1<=k)(c:k<s.size)(h:jg s.data.toList lo hi (k-1)=true)(b:Qr lo k<=(s[k].toNat:Int))(hb:(s[k].toNat:Int)<=Qq hi k) :
  jg s.data.toList lo hi (k+1-1)=true:=by
 rw[fJ,iJ s lo hi k a c h,Zj];exact⟨b,hb⟩
theorem Bn(s:BY)(f:0<s.size)(n lo hi:Int)(g:zT (s[0].toNat:Int)=(n,lo,hi))(h:¬(s[0].toNat:Int)<128)(e:n≠0)(d:¬(s.size:Int)<n+1)
  (k:Nat)(i:1<=k)(c:¬(k:Int)<=n)(b:(k:Int)<=n+1)(a:jg s.data.toList lo hi (k-1)=true):qW s.data.toList=k:=by
 rw[show k-1=n.toNat by omega] at a;rw[ik s f n lo hi g h e d,zb a];omega
theorem Lp(lo:Int)(k:Nat)(h:1<=k):Qr lo (k+1)=128:=by unfold Qr;rw[za (by omega)]
theorem Gc(hi:Int)(k:Nat)(h:1<=k):Qq hi (k+1)=191:=by unfold Qq;rw[za (by omega)]
def xN(s:BY):Nat:=2+(s.data.toList.drop 2).findIdx (λc=>c.toNat==125)
theorem iY(s:BY)(k:Nat)(a:2<=k)(b:k<s.size):∃h:k-2<(s.data.toList.drop 2).length,(s.data.toList.drop 2)[k-2]=s[k]:=by
 have h:k-2<(s.data.toList.drop 2).length:=by rw[jw,zA];omega
 refine⟨h,?_⟩;rw[List.getElem_drop];have e:2+(k-2)=k:=by omega
 simp only[e];rfl
theorem iy(s:BY)(k:Nat)(a:2<=k)(d:k<s.size)(f:k<=xN s)(h:(s[k].toNat:Int)=125):xN s=k:=by
 obtain⟨g,e⟩:=iY s k a d;unfold xN at *
 have:(s.data.toList.drop 2).findIdx (λc=>c.toNat==125)<=k-2:=by
  apply Nat.le_of_not_lt;intro b
  have:=List.not_of_lt_findIdx b
  rw[e] at this;simp at this;omega
 omega
theorem BG(s:BY)(k:Nat)(b:2<=k)(f:k<s.size)(g:k<=xN s)(h:(s[k].toNat:Int)≠125):k+1<=xN s:=by
 obtain⟨i,e⟩:=iY s k b f;unfold xN at *
 have:(s.data.toList.drop 2).findIdx (λc=>c.toNat==125)≠k-2:=by
  intro d;have a:(s.data.toList.drop 2).findIdx (λc=>c.toNat==125)<(s.data.toList.drop 2).length:=by omega
  have:=List.findIdx_getElem (w:=a)
  simp only[d,e] at this;simp at this;omega
 omega
theorem BF(s:BY)(k:Nat)(b:2<=k)(e:¬k<s.size)(a:k<=s.size)(d:k<=xN s):xN s=s.size:=by
 unfold xN at *
 have:=List.findIdx_le_length (xs:=s.data.toList.drop 2) (p:=λc=>c.toNat==125)
 rw[jw,zA] at this;omega
def xW(s:BY):Int×BY×Nat:=
 if s.size<2 then (0,⟨#[]⟩,0)
 else if (s.data.toList.getD 1 0).toNat=36\/(s.data.toList.getD 1 0).toNat=42\/(s.data.toList.getD 1 0).toNat=63 then (1,s.extract 1 2,2)
 else if (s.data.toList.getD 1 0).toNat=123 then
  if xN s<s.size then (if qh (s.extract 2 (xN s)) then (4,s.extract 2 (xN s),xN s+1) else (0,⟨#[]⟩,0)) else (0,⟨#[]⟩,0)
 else (0,⟨#[]⟩,0)
end Ref
end Go.Proofs.YtagnlbgbnfnapaaGreatDoor
namespace Go.Proofs.YtagnlbgbnfnapaaGreatDoor
open Go.RowKit
theorem IQ(b:Int)(w:World)(c:0<=b)(d:b<=255) :
  Calls prog 202 #[.int .u8 b] w λe w'=>e = .returned (.tuple #[.int .i64 (Ref.zT b).1,.int .u8 (Ref.zT b).2.1,.int .u8 (Ref.zT b).2.2])/\w'=w:=by
 go_enter func202,ntmps202
 go_wp2
 all_goals
  go_ret3;refine⟨?_,rfl⟩;simp only[kH,qI,ne_eq] at *;generalize a:Ref.zT b=r;unfold Ref.zT at a
  (repeat' split at a)<;>subst a<;>first|rfl|(exfalso;omega)
theorem aV(s:BY)(w:World)(j:s.size<=maxLen) :
  Calls prog 124 #[.string s] w λe w'=>e = .returned (.bool (Ref.qh s))/\w'=w:=by
 unfold maxLen at j
 by_cases hsz:1<=s.size/\s.size<=12
 ·obtain⟨b,c⟩:=hsz;have g:decide ((s.size:Int)<1)=false:=by simp;omega
  have h:decide (12<(s.size:Int))=false:=by simp;omega
  go_enter func124,ntmps124
  go_wp2
  go_loop [3] (λi=>∃k:Nat,k<=s.size/\i = .int .i64 k/\Ref.letters (s.data.toList.take k)=true) (λi=>s.size-(intOf i).toNat)
  case atStart=>exact⟨0,zG _,rfl,rfl⟩
  case round=>
   obtain⟨k,f,rfl,a⟩:=hrel;have d:Hid (Ref.letters (s.data.toList.take k)=true):=a;clear a
   by_cases hlt:k<s.size
   ·go_wp2
    all_goals first
     | (go_ret;exact⟨Zu (Ref.GA s k hlt (by omega)).symm,rfl⟩)
     | exact⟨⟨k+1,by omega,by go_num,Ref.La s k hlt d.out (by omega) (by omega)⟩,by simp[intOf];omega⟩
   ·go_wp2
    go_ret;exact⟨Zu (Ref.GD s k hlt f b c d.out).symm,rfl⟩
 ·go_enter func124,ntmps124
  go_wp2
  all_goals first
   | (exfalso;omega)
   | (go_ret;exact⟨Zu (Ref.JW s hsz).symm,rfl⟩)
theorem bz(b n lo hi:Int)(w:World)(a:0<=b)(c:b<=255)(d:Ref.zT b=(n,lo,hi)) :
  Calls prog 202 #[.int .u8 b] w λe w'=>e = .returned (.tuple #[.int .i64 n,.int .u8 lo,.int .u8 hi])/\w'=w:=by
 have h:=IQ b w a c;rw[d] at h;exact h
theorem Bu(s:BY)(w:World)(r:s.size<=maxLen)(f:0<s.size) :
  Calls prog 162 #[.string s] w λe w'=>
   e = .returned (.tuple #[.string (Ref.qy s),.bool (Ref.uL s)])/\w'=w:=by
 unfold maxLen at r;obtain⟨n,lo,hi,m⟩:∃n lo hi,Ref.zT (s[0].toNat:Int)=(n,lo,hi):=⟨_,_,_,rfl⟩;have b:=Ref.bu (s[0].toNat:Int);rw[m] at b;simp only at b;obtain⟨y,z,v,x,t,u⟩:=b;have d:Hid (Ref.zT (s[0].toNat:Int)=(n,lo,hi)):=m;clear m;go_enter func162,ntmps162
 go_wp2_with (go_at_call 202;refine (bz _ n lo hi _ (Ref.b0 _) (Ref.KI _) d.out).mono ?_;rintro e w' ⟨rfl,rfl⟩)
 all_goals try (go_loop [5,6,7] (λlow high i=>∃k:Nat,1<=k/\(k:Int)<=n+1/\i = .int .i64 k/\low = .int .u8 (Ref.Qr lo k)/\high = .int .u8 (Ref.Qq hi k)/\Ref.jg s.data.toList lo hi (k-1)=true) (λ_ _ i=>(n+1).toNat-(intOf i).toNat))
 ·go_ret2;exact⟨Ref.YL s 1 (Ref.Bl s f (by assumption)) _ _ rfl rfl,rfl⟩
 ·go_ret2;have j:n=0:=by assumption
  subst j;exact⟨Ref.YL s 0 (Ref.Bp s f lo hi d.out (by omega)) _ _ rfl rfl,rfl⟩
 ·go_ret2;have l:(n==0)=true\/(s.size:Int)<n+1:=by assumption
  simp only[kH] at l;exact⟨Ref.YL s 0 (Ref.Bq s f n lo hi d.out (by omega) (by omega) (by omega)) _ _ rfl rfl,rfl⟩
 case atStart=>exact⟨1,by omega,by omega,rfl,rfl,rfl,rfl⟩
 case round=>
  obtain⟨k,a,p,rfl,rfl,rfl,g⟩:=hrel;have h:Hid (Ref.jg s.data.toList lo hi (k-1)=true):=g;clear g
  by_cases hlt:(k:Int)<=n
  ·have c:k<s.size:=by omega
   have q:0<=Ref.Qr lo k/\Ref.Qr lo k<=255:=by unfold Ref.Qr;split<;>omega
   have o:0<=Ref.Qq hi k/\Ref.Qq hi k<=255:=by unfold Ref.Qq;split<;>omega
   go_wp2
   ·go_ret2;exact⟨Ref.YL s 0 (Ref.ig s f n lo hi d.out (by omega) (by omega) (by omega) k a c hlt h.out (by omega)) _ _ rfl rfl,rfl⟩
   ·go_round
    case rel=>exact⟨_,_,_,_,_,⟨k+1,by omega,by omega,by go_num,by rw[Ref.Lp lo k a],by rw[Ref.Gc hi k a],Ref.Cq s lo hi k a c h.out (by omega) (by omega)⟩,rfl,rfl,rfl,rfl,rfl⟩
    case measure=>simp[intOf];omega
   ·go_ret2;exact⟨Ref.YL s 0 (Ref.ig s f n lo hi d.out (by omega) (by omega) (by omega) k a c hlt h.out (by omega)) _ _ rfl rfl,rfl⟩
  ·go_wp2
   go_ret2;exact⟨Ref.YL s k (Ref.Bn s f _ lo hi d.out (by omega) (by omega) (by omega) k a (by omega) (by omega) h.out) _ _ (by rw[za (by omega),show (n+1).toNat=k by omega]) (by rw[show (k != 0)=true by simp;omega]),rfl⟩
namespace Ref
theorem Dz(s:BY)(a:1<s.size)(h:(s[1].toNat:Int)=36\/(s[1].toNat:Int)=42\/(s[1].toNat:Int)=63):xW s=(1,s.extract 1 2,2):=by
 unfold xW;rw[za (by omega),getD_at s 1 a,zb (by omega)]
theorem DF(s:BY)(a:s.size<2):xW s=(0,⟨#[]⟩,0):=by
 unfold xW;rw[zb a]
theorem DD(s:BY)(a:1<s.size)(h:(s[1].toNat:Int)≠36/\(s[1].toNat:Int)≠42/\(s[1].toNat:Int)≠63/\(s[1].toNat:Int)≠123):xW s=(0,⟨#[]⟩,0):=by
 unfold xW;rw[za (by omega),getD_at s 1 a,za (by omega),za (by omega)]
theorem iV(s:BY)(a:1<s.size)(h:(s[1].toNat:Int)=123)(k:Nat)(d:k<s.size)(c:xN s=k)(b:Bool)(hb:qh (s.extract 2 k)=b) :
  xW s=if b then (4,s.extract 2 k,k+1) else (0,⟨#[]⟩,0):=by
 unfold xW;rw[za (by omega),getD_at s 1 a,za (by omega),zb (by omega),c,zb d,hb]
theorem DC(s:BY)(a:1<s.size)(h:(s[1].toNat:Int)=123)(b:xN s=s.size):xW s=(0,⟨#[]⟩,0):=by
 unfold xW;rw[za (by omega),getD_at s 1 a,za (by omega),zb (by omega),b,za (by omega)]
theorem Y4(s:BY)(k:Int)(t:BY)(n:Nat)(v:Value)(h:xW s=(k,t,n))(a:v = .int .i64 (n:Int)) :
  Ending.returned (.tuple #[.agg #[.int .i64 k,.string t],v]) = .returned (.tuple #[.agg #[.int .i64 (xW s).1,.string (xW s).2.1],.int .i64 ((xW s).2.2:Nat)]):=by
 rw[h,a]
end Ref
theorem DI(s:BY)(w:World)(m:s.size<=maxLen) :
  Calls prog 163 #[.string s] w λe w'=>
   e = .returned (.tuple #[.agg #[.int .i64 (Ref.xW s).1,.string (Ref.xW s).2.1],.int .i64 ((Ref.xW s).2.2:Nat)])/\Below w.heap.size w w':=by
 unfold maxLen at m
 by_cases h2:2<=s.size
 ·have l:decide ((s.size:Int)<2)=false:=by simp;omega
  go_enter func163,ntmps163
  go_wp2
  rotate_left 3
  ·go_loop [4] (λi=>∃k:Nat,2<=k/\k<=s.size/\i = .int .i64 k/\k<=Ref.xN s) (λi=>s.size-(intOf i).toNat)
   case atStart=>exact⟨2,by omega,by omega,rfl,by unfold Ref.xN;omega⟩
   case round=>
    obtain⟨k,b,h,rfl,g⟩:=hrel;have a:Hid (k<=Ref.xN s):=g;clear g
    by_cases hlt:k<s.size
    ·go_wp2_with (go_at_call 124;refine (aV (s.extract 2 k) _ ?_).mono ?_;(simp[maxLen];omega);rintro e w' ⟨rfl,rfl⟩)
     ·have c:((s[1]'(by omega)).toNat:Int)=123:=by apply eq_of_beq;assumption
      have f:(s[k].toNat:Int)=125:=by apply eq_of_beq;assumption
      have d:=Ref.iV s (by omega) c k hlt (Ref.iy s k b hlt a.out f) true (by assumption);exact zN (v := .tuple #[.agg #[.int .i64 4,.string (s.extract 2 k)],.int .i64 ((k:Int)+1)]) (by simp[results,results163,go_sem]) rfl ⟨Ref.Y4 s _ _ (k+1) _ d (by go_num),nbl _ _⟩
     ·have c:((s[1]'(by omega)).toNat:Int)=123:=by apply eq_of_beq;assumption
      have f:(s[k].toNat:Int)=125:=by apply eq_of_beq;assumption
      have d:=Ref.iV s (by omega) c k hlt (Ref.iy s k b hlt a.out f) false (by assumption);exact zN (v := .tuple #[.agg #[.int .i64 0,.string ⟨#[]⟩],.int .i64 0]) (by simp[results,results163,go_sem]) rfl ⟨Ref.Y4 s _ _ 0 _ d rfl,nbl _ _⟩
     ·have f:(s[k].toNat:Int)≠125:=by apply ne_of_beq_false;assumption
      exact⟨⟨k+1,by omega,by omega,by go_num,Ref.BG s k b hlt a.out f⟩,by simp[intOf];omega⟩
    ·have c:((s[1]'(by omega)).toNat:Int)=123:=by apply eq_of_beq;assumption
     have d:=Ref.DC s (by omega) c (Ref.BF s k b hlt h a.out);have j:Hid (Ref.xW s=(0,⟨#[]⟩,0)):=d;clear d c
     go_wp2
     exact zN (v := .tuple #[.agg #[.int .i64 0,.string ⟨#[]⟩],.int .i64 0]) (by simp[results,results163,go_sem]) rfl ⟨Ref.Y4 s _ _ 0 _ j.out rfl,nbl _ _⟩
  all_goals simp only[kH,qI,ne_eq] at *
  ·exact zN (v := .tuple #[.agg #[.int .i64 0,.string ⟨#[]⟩],.int .i64 0]) (by simp[results,results163,go_sem]) rfl ⟨Ref.Y4 s _ _ 0 _ (Ref.DD s (by omega) (by omega)) rfl,nbl _ _⟩
  all_goals
   exact zN (v := .tuple #[.agg #[.int .i64 1,.string (s.extract 1 2)],.int .i64 2]) (by simp[results,results163,go_sem]) rfl ⟨Ref.Y4 s _ _ 2 _ (Ref.Dz s (by omega) (by omega)) rfl,nbl _ _⟩
 ·go_enter func163,ntmps163
  go_wp2
  exact zN (v := .tuple #[.agg #[.int .i64 0,.string ⟨#[]⟩],.int .i64 0]) (by simp[results,results163,go_sem]) rfl ⟨Ref.Y4 s _ _ 0 _ (Ref.DF s (by omega)) rfl,nbl _ _⟩
namespace Ref
def qY(s:BY):Option (Int×BY×Nat):=
 if uL s=false then none
 else if (qy s).toList==[42] then some (3,qy s,(qy s).size)
 else if (qy s).toList==[63] then some (2,qy s,(qy s).size)
 else if (qy s).toList==[36] then (if (xW s).2.2=0 then none else some (xW s))
 else some (1,qy s,(qy s).size)
def vX:Nat->BY->Option (List (Int×BY))
 | 0,_=>none
 | f+1,s=>if s.size=0 then some [] else match qY s with
  | none=>none
  | some (k,t,n)=>(vX f (s.extract n s.size)).map λr=>(k,t)::r
def parts(s:BY):Option (List (Int×BY)):=if 60<s.size then none else vX (s.size+1) s
def j4(l:List (Int×BY)):List Value:=l.flatMap λp=>[.int .i64 p.1,.string p.2]
theorem Y3(l:List (Int×BY))(k:Int)(t:BY):j4 (l++[(k,t)])=j4 l++[.int .i64 k,.string t]:=by
 simp[j4]
theorem Bo(s:BY):qW s.data.toList<=s.size:=by
 unfold qW;rw[zA]
 split
 ·omega
 split
 ·omega
 split
 ·omega
 split
 ·omega
 split
 ·have:=bu ((s.data.toList.getD 0 0).toNat:Int);omega
 ·omega
theorem KZ(s:BY)(a:0<s.size):1<=(qy s).size/\(qy s).size<=s.size:=by
 have h:=Bo s;unfold qy;rw[jI]
 split<;>omega
theorem iW(s:BY):(xW s).2.2<=s.size:=by
 unfold xW
 split
 ·simp
 split
 ·simp;omega
 split
 ·split
  ·split
   ·simp;omega
   ·simp
  ·simp
 ·simp
theorem oU(s:BY)(c:0<s.size)(k:Int)(t:BY)(n:Nat)(h:qY s=some (k,t,n)):1<=n/\n<=s.size:=by
 have d:=KZ s c;have a:=iW s;unfold qY at h
 split at h
 ·simp at h
 split at h
 ·simp at h;omega
 split at h
 ·simp at h;omega
 split at h
 ·split at h
  ·simp at h
  ·simp at h;rw[h] at a;simp at a;rename_i b;rw[h] at b;simp at b;omega
 ·simp at h;omega
theorem Vb(P:Option (List (Int×BY)))(f:Nat)(t:BY)(done:List (Int×BY))(c:0<t.size)(d:t.size<f)(h:P=(vX f t).map λr=>done++r)
  (k:Int)(u:BY)(n:Nat)(b:qY t=some (k,u,n)) :
  ∃a,(t.extract n t.size).size<a/\P=(vX a (t.extract n t.size)).map λr=>(done++[(k,u)])++r:=by
 obtain⟨g,rfl⟩:∃g,f=g+1:=⟨f-1,by omega⟩;have e:=oU t c k u n b;refine⟨g,by rw[jI];omega,?_⟩;rw[h,vX,za (by omega),b];simp[Option.map_map,Function.comp_def]
theorem bS(P:Option (List (Int×BY)))(f:Nat)(t:BY)(done:List (Int×BY))(c:0<t.size)(b:t.size<f)(h:P=(vX f t).map λr=>done++r)
  (a:qY t=none):P=none:=by
 obtain⟨g,rfl⟩:∃g,f=g+1:=⟨f-1,by omega⟩;rw[h,vX,za (by omega),a];rfl
theorem pF(P:Option (List (Int×BY)))(f:Nat)(t:BY)(done:List (Int×BY))(b:¬0<t.size)(a:t.size<f)(h:P=(vX f t).map λr=>done++r):P=some done:=by
 obtain⟨g,rfl⟩:∃g,f=g+1:=⟨f-1,by omega⟩;rw[h,vX,zb (by omega)];simp
def Vh:Value->Nat
 | .string b=>b.size
 | _=>0
end Ref
theorem hid{p:Prop}(h:p):Hid p:=h
theorem ownsRow_below{w w':World}{base:Nat}{e:TypeId}{size:Nat}{v:Value}{n:Nat}{xs:List Value}(h:w.ownsRow base e size v n xs)(hb:Below w.heap.size w w'):w'.ownsRow base e size v n xs:=by
 obtain⟨b,a⟩:=h;refine⟨b,?_⟩
 rcases a with a|⟨g,cap,cur,hv,hg,hh,h3⟩
 ·exact .inl a
 ·exact .inr ⟨g,cap,cur,hv,hg,by rw[hb.block g (zy hh)];exact hh,h3⟩
theorem xA{w:World}{base a:Nat}{e:TypeId}{size:Nat}{v:Value}{n:Nat}{xs:List Value}(h:w.ownsRow base e size v n xs)(hb:a<=base):w.ownsRow a e size v n xs:=by
 obtain⟨c,b⟩:=h;refine⟨c,?_⟩
 rcases b with b|⟨g,cap,cur,hv,hg,hh⟩
 ·exact .inl b
 ·exact .inr ⟨g,cap,cur,hv,by omega,hh⟩
theorem QL{w w':World}(h:Below w.drew.heap.size w.drew w'):Below w.heap.size w w':=⟨h.os,h.tape,h.output,h.size,h.block⟩
theorem uy(w:World)(a b:Obj):((w.alloc a).alloc b).heap[w.heap.size]?=some a/\((w.alloc a).alloc b).heap[w.heap.size+1]?=some b:=by
 refine⟨?_,?_⟩
 ·rw[Za (w.alloc a) b w.heap.size (by simp)];exact zQ w a
 ·have:=zQ (w.alloc a) b
  simpa using this
theorem zg{w:World}{b:Nat}{cs:Array Value}{t:TypeId}(h:w.heap[b]?=some (.cells cs t (0,0)))(o:Nat):w.cell? ⟨b,o,none⟩=cs[o]?/\w.frozen? ⟨b,o,none⟩=false:=by
 simp[World.cell?,World.frozen?,h]
theorem addr_add(b o j:Nat):(⟨b,o,none⟩:Addr).add j=⟨b,o+j,none⟩:=by
 by_cases h:j=0
 ·subst h;simp[Addr.add]
 ·simp[Addr.add,h]
theorem Bf(w:World)(b o d g:Nat)(u:Value)(h:¬(b=d/\o=g)):(w.setCell ⟨b,o,none⟩ u).cell? ⟨d,g,none⟩=w.cell? ⟨d,g,none⟩:=by
 by_cases hb:b=d
 ·subst hb;unfold World.cell? World.setCell;simp only[Vr,xy]
  cases w.heap[b]? with
  | none=>rfl
  | some ob=>
   cases ob with
   | cells c t f=>simp[Array.getElem?_setIfInBounds];intro i;omega
   | _=>rfl
 ·exact QJ (w:=w) (a:=⟨d,g,none⟩) (qc w ⟨b,o,none⟩ u d (λe=>hb e.symm))
theorem lW(w:World)(p:Addr)(u:Value)(q:Addr):(w.setCell p u).frozen? q=w.frozen? q:=by
 unfold World.frozen? World.setCell
 by_cases hb:p.block=q.block
 ·rw[hb];simp only[Vr,xy]
  cases w.heap[q.block]? with
  | none=>rfl
  | some ob=>cases ob<;>rfl
 ·simp only[Vr,za hb]
theorem YM(s c:BY)(b:Bool)(w:World)(f:s.size<=maxLen)(d:0<s.size)(a:Ref.qy s=c)(hb:Ref.uL s=b) :
  Calls prog 162 #[.string s] w λe w'=>e = .returned (.tuple #[.string c,.bool b])/\w'=w:=by
 have h:=Bu s w f d;rw[a,hb] at h;exact h
theorem iX(s t:BY)(k:Int)(n:Nat)(w:World)(b:s.size<=maxLen)(a:Ref.xW s=(k,t,n)) :
  Calls prog 163 #[.string s] w λe w'=>e = .returned (.tuple #[.agg #[.int .i64 k,.string t],.int .i64 (n:Nat)])/\Below w.heap.size w w':=by
 have h:=DI s w b;rw[a] at h;exact h
theorem Tryz.infoPart:(prog.info? 314).map (λi=>(i.zero,i.size,i.bytes))=some (some (.agg #[.int .i64 0,.string ⟨#[]⟩]),2,24):=by kernel_rfl
theorem Uu(k:Int)(c:BY):∀u ∈ [Value.int .i64 k,Value.string c],u.oneCell'=true:=by
 intro u a;simp at a;rcases a with rfl|rfl<;>rfl
theorem ZF{W w1:World}(hb:Below W.heap.size W w1):(∀b o,b<W.heap.size->w1.cell? ⟨b,o,none⟩=W.cell? ⟨b,o,none⟩)/\(∀b o,b<W.heap.size->w1.frozen? ⟨b,o,none⟩=W.frozen? ⟨b,o,none⟩):=
 ⟨λb o h=>hb.cell (p:=⟨b,o,none⟩) h,λb o h=>hb.frozen (p:=⟨b,o,none⟩) h⟩
theorem X0(w:World)(o:Obj)(a b:Value)(t:TypeId)(k:Nat)(c:k=(w.alloc o).heap.size) :
  ∀j u,[a,b][j]?=some u->((w.alloc o).alloc (.cells #[a,b] t)).cell? ((⟨k,0,none⟩:Addr).add j)=some u:=by
 subst c;exact cell_two_new _ _ _ _
theorem Bg(w:World)(a b:Value)(t:TypeId)(k:Nat)(c:k=w.heap.size) :
  ∀j u,[a,b][j]?=some u->(w.alloc (.cells #[a,b] t)).cell? ((⟨k,0,none⟩:Addr).add j)=some u:=by
 subst c;exact cell_two_new _ _ _ _
theorem VT{wr b:World}(O:Obj)(a:Below (wr.alloc O).heap.size (wr.alloc O) b)(x y:Value) :
  Below wr.heap.size wr ((b.setCell ⟨wr.heap.size,0,none⟩ x).setCell ⟨wr.heap.size,1,none⟩ y):=
 (((nbl wr O).trans (a.mono (by simp))).setCell (ze _) x).setCell (ze _) y
theorem AP{w wr w1:World}{e:TypeId}{size:Nat}{v:Value}{n:Nat}{xs:List Value}(b:Below w.heap.size w wr)(c:wr.ownsRow w.heap.size e size v n xs)(a:Obj)
  (f:(wr.alloc a).grownBy w1 v.ownBlock):Below w.heap.size w w1:=by
 have d:=b.size;exact (b.alloc d a).grown f (by simp;omega) (λk g=>(c.lt k g).1)
theorem VU{w wr w1:World}{e:TypeId}{size:Nat}{v:Value}{n:Nat}{xs:List Value}(c:Below w.heap.size w wr)(d:wr.ownsRow w.heap.size e size v n xs)(a b:Obj)
  (g:((wr.alloc a).alloc b).grownBy w1 v.ownBlock):Below w.heap.size w w1:=by
 have f:=c.size;exact ((c.alloc f a).alloc (by simp;omega) b).grown g (by simp;omega) (λk h=>(d.lt k h).1)
theorem Nn(s:BY)(w:World)(hs:s.size<=60) :
  Calls prog 120 #[.string s] w λe w'=>∃v,e = .returned (.tuple #[v,.bool (Ref.parts s).isSome])/\Below w.heap.size w w' /\
   ((Ref.parts s).isSome=false->v = .slice none 0 0)/\w'.ownsRow w.heap.size 314 2 v ((Ref.parts s).getD []).length (Ref.j4 ((Ref.parts s).getD [])):=by
 obtain⟨N,hi,B,C,D⟩:=qP Tryz.infoPart;have Z:decide (60<(s.size:Int))=false:=by simp;omega
 have U:Ref.parts s=(Ref.vX (s.size+1) s).map λr=>[]++r:=by unfold Ref.parts;rw[za (by omega)];simp
 generalize Q:Ref.parts s=P at *;clear Q;have T:Hid (P=(Ref.vX (s.size+1) s).map λr=>[]++r):=U;clear U;go_enter func120,ntmps120
 go_wp2
 go_loopw [0,4] (λS lv wr=>∃(t:BY) (f:Nat) (done:List (Int×BY)),S = .string t/\done.length+t.size<=s.size/\t.size<f/\P=((Ref.vX f t).map λr=>done++r) /\
   wr.ownsRow w.heap.size 314 2 lv done.length (Ref.j4 done)/\Below w.heap.size w wr) (λS _ _=>Ref.Vh S)
 case atStart=>exact⟨s,s.size+1,[],rfl,by simp,by omega,T.out,qD _ _ _ _,zf _ _⟩
 case round=>
  obtain⟨t,f,done,rfl,X,G,I,d,j⟩:=hrel;have i:Hid (P=(Ref.vX f t).map λr=>done++r):=I;clear I T;have M:=j.size
  by_cases hp:0<t.size
  ·have R:=Ref.KZ t hp
   cases hok:Ref.uL t with
   | false=>
    have z:Hid (Ref.uL t=false):=hok;have o:=Ref.bS P f t done hp G i.out (by unfold Ref.qY;rw[zb hok]);subst o;clear hok
    go_wp2_with (go_at_call 162;refine (YM t _ false _ (by unfold maxLen;omega) hp rfl z.out).mono ?_;rintro e w' ⟨rfl,rfl⟩)
    go_ret2;exact⟨_,rfl,j,λ_=>rfl,qD _ _ _ _⟩
   | true=>
    obtain⟨c,p⟩:=Nm (Ref.qy t);rw[p] at R
    by_cases c1:(c.toList==[42])=true
    ·have h:Ref.qY t=some (3,c,c.size):=by unfold Ref.qY;rw[za (by simp[hok]),p,zb c1]
     obtain⟨E,y,l⟩:=Ref.Vb P f t done hp G i.out 3 c c.size h;have q:=hid l;have A:=hid p;have z:=hid hok;clear l p hok h i
     go_wp2_with (first
      | (go_at_call 162;refine (YM t c true _ (by unfold maxLen;omega) hp A.out z.out).mono ?_;rintro e w' ⟨rfl,rfl⟩)
      | (at_builtin;refine yK _ rfl _ _ 234 rfl w.heap.size 314 N (.agg #[.int .i64 0,.string ⟨#[]⟩]) 2 24 underlying234 hi B C D rfl (by decide) _ _ _ rfl ((d.alloc _).alloc _) ⟨w'.heap.size+1,0,none⟩ 1 1 [.int .i64 3,.string c] rfl rfl ?_ ?_ ?_ ?_ ?_ ?_))
     ·exact X0 _ _ _ _ _ _ (by simp)
     ·exact Uu _ _
     ·unfold maxLen;omega
     ·omega
     ·simp;omega
     ·intro H w1 b a _;have x:=VU j d _ _ a;have g:w1.ownsRow w.heap.size 314 2 H (done++[((3:Int),c)]).length (Ref.j4 (done++[((3:Int),c)])):=by rw[Ref.Y3,qA];exact b
      clear b a d
      go_wp2
      go_roundw
      case rel=>exact⟨_,E,_,rfl,by simp;omega,y,q.out,g,x⟩
      case measure=>simp[Ref.Vh];omega
    rw[U4] at c1
    by_cases c2:(c.toList==[63])=true
    ·have h:Ref.qY t=some (2,c,c.size):=by unfold Ref.qY;rw[za (by simp[hok]),p,za (by simp[c1]),zb c2]
     obtain⟨E,y,l⟩:=Ref.Vb P f t done hp G i.out 2 c c.size h;have q:=hid l;have A:=hid p;have z:=hid hok;clear l p hok h i
     go_wp2_with (first
      | (go_at_call 162;refine (YM t c true _ (by unfold maxLen;omega) hp A.out z.out).mono ?_;rintro e w' ⟨rfl,rfl⟩)
      | (at_builtin;refine yK _ rfl _ _ 234 rfl w.heap.size 314 N (.agg #[.int .i64 0,.string ⟨#[]⟩]) 2 24 underlying234 hi B C D rfl (by decide) _ _ _ rfl ((d.alloc _).alloc _) ⟨w'.heap.size+1,0,none⟩ 1 1 [.int .i64 2,.string c] rfl rfl ?_ ?_ ?_ ?_ ?_ ?_))
     ·exact X0 _ _ _ _ _ _ (by simp)
     ·exact Uu _ _
     ·unfold maxLen;omega
     ·omega
     ·simp;omega
     ·intro H w1 b a _;have x:=VU j d _ _ a;have g:w1.ownsRow w.heap.size 314 2 H (done++[((2:Int),c)]).length (Ref.j4 (done++[((2:Int),c)])):=by rw[Ref.Y3,qA];exact b
      clear b a d
      go_wp2
      go_roundw
      case rel=>exact⟨_,E,_,rfl,by simp;omega,y,q.out,g,x⟩
      case measure=>simp[Ref.Vh];omega
    rw[U4] at c2
    by_cases c3:(c.toList==[36])=true
    ·obtain⟨k,u,n,F⟩:∃k u n,Ref.xW t=(k,u,n):=⟨_,_,_,rfl⟩;have K:=Ref.iW t;rw[F] at K;simp only at K
     by_cases hn0:n=0
     ·subst hn0;have h:Ref.qY t=none:=by unfold Ref.qY;rw[za (by simp[hok]),p,za (by simp[c1]),za (by simp[c2]),zb c3,F,zb rfl]
      have o:=Ref.bS P f t done hp G i.out h;subst o;have A:=hid p;have z:=hid hok;have O:=hid F;clear p hok h F i
      go_wp2_with (first
       | (go_at_call 162;refine (YM t c true _ (by unfold maxLen;omega) hp A.out z.out).mono ?_;rintro e w' ⟨rfl,rfl⟩)
       | (go_at_call 163;refine (iX t u k 0 _ (by unfold maxLen;omega) O.out).mono ?_;rintro e W ⟨rfl,m⟩;obtain⟨J,L⟩:=ZF m;have V:=m.size))
      go_ret2;exact⟨_,rfl,j.trans ((VT _ m _ _).mono M),λ_=>rfl,qD _ _ _ _⟩
     ·have h:Ref.qY t=some (k,u,n):=by unfold Ref.qY;rw[za (by simp[hok]),p,za (by simp[c1]),za (by simp[c2]),zb c3,F,za hn0]
      obtain⟨E,y,l⟩:=Ref.Vb P f t done hp G i.out k u n h;have q:=hid l;have A:=hid p;have z:=hid hok;have O:=hid F;have Y:((n:Int)==0)=false:=by simp;omega
      clear l p hok h F i
      go_wp2_with (first
       | (go_at_call 162;refine (YM t c true _ (by unfold maxLen;omega) hp A.out z.out).mono ?_;rintro e w' ⟨rfl,rfl⟩)
       | (go_at_call 163;refine (iX t u k n _ (by unfold maxLen;omega) O.out).mono ?_;rintro e W ⟨rfl,m⟩;obtain⟨J,L⟩:=ZF m;have V:=m.size)
       | (at_builtin;refine yK _ rfl _ _ 234 rfl w.heap.size 314 N (.agg #[.int .i64 0,.string ⟨#[]⟩]) 2 24 underlying234 hi B C D rfl (by decide) _ done.length (Ref.j4 done) rfl ?_ ⟨W.heap.size,0,none⟩ 1 1 [.int .i64 k,.string u] rfl rfl ?_ ?_ ?_ ?_ ?_ ?_))
      ·exact (ownsRow_below d (VT _ m _ _)).alloc _
      ·exact Bg _ _ _ _ _ (by simp[World.setCell])
      ·exact Uu _ _
      ·unfold maxLen;omega
      ·omega
      ·have:=m.size;simp[World.setCell] at this |-;omega
      ·intro H w1 b a _;have x:=AP (j.trans ((VT _ m _ _).mono M)) (ownsRow_below d (VT _ m _ _)) _ a;have g:w1.ownsRow w.heap.size 314 2 H (done++[(k,u)]).length (Ref.j4 (done++[(k,u)])):=by rw[Ref.Y3,qA];exact b
       clear b a d m J L V
       go_wp2
       go_roundw
       case rel=>exact⟨_,E,_,rfl,by simp;omega,y,q.out,g,x⟩
       case measure=>simp[Ref.Vh];omega
    ·rw[U4] at c3;have h:Ref.qY t=some (1,c,c.size):=by unfold Ref.qY;rw[za (by simp[hok]),p,za (by simp[c1]),za (by simp[c2]),za (by simp[c3])]
     obtain⟨E,y,l⟩:=Ref.Vb P f t done hp G i.out 1 c c.size h;have q:=hid l;have A:=hid p;have z:=hid hok;clear l p hok h i
     go_wp2_with (first
      | (go_at_call 162;refine (YM t c true _ (by unfold maxLen;omega) hp A.out z.out).mono ?_;rintro e w' ⟨rfl,rfl⟩)
      | (at_builtin;refine yK _ rfl _ _ 234 rfl w.heap.size 314 N (.agg #[.int .i64 0,.string ⟨#[]⟩]) 2 24 underlying234 hi B C D rfl (by decide) _ _ _ rfl ((d.alloc _).alloc _) ⟨w'.heap.size+1,0,none⟩ 1 1 [.int .i64 1,.string c] rfl rfl ?_ ?_ ?_ ?_ ?_ ?_))
     ·exact X0 _ _ _ _ _ _ (by simp)
     ·exact Uu _ _
     ·unfold maxLen;omega
     ·omega
     ·simp;omega
     ·intro H w1 b a _;have x:=VU j d _ _ a;have g:w1.ownsRow w.heap.size 314 2 H (done++[((1:Int),c)]).length (Ref.j4 (done++[((1:Int),c)])):=by rw[Ref.Y3,qA];exact b
      clear b a d
      go_wp2
      go_roundw
      case rel=>exact⟨_,E,_,rfl,by simp;omega,y,q.out,g,x⟩
      case measure=>simp[Ref.Vh];omega
  ·have o:=Ref.pF P f t done hp G i.out;subst o;clear i
   go_wp2
   go_ret2;exact⟨_,rfl,j,by simp,d⟩
namespace Ref
def strCells(l:List BY):List Value:=l.map Value.string
theorem Rt(l:List BY)(c:BY):strCells (l++[c])=strCells l++[.string c]:=by simp[strCells]
end Ref
end Go.Proofs.YtagnlbgbnfnapaaGreatDoor
