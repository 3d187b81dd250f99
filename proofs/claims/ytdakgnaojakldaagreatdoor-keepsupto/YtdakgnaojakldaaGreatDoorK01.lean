/- P -/
import Derived.Test.YtdakgnaojakldaaGreatDoorK00
import Derived.WalkKit
import Derived.Test.YtdakgnaojakldaaGreatDoorProg
import Derived.WalkSpells
import Derived.WalkLawsBesides
open Go.Proofs.Tryz
set_option maxRecDepth 100000
set_option maxHeartbeats 1000000
namespace Go.Proofs.YtdakgnaojakldaaGreatDoor
theorem Zr{a b:Bool}(h:a=b):Ending.returned (.bool a) = .returned (.bool b):=by rw[h]
theorem Oa{k:IntKind}{a b:Int}(h:a=b):Ending.returned (.int k a) = .returned (.int k b):=by rw[h]
theorem Oc{a b:BY}(h:a=b):Ending.returned (.string a) = .returned (.string b):=by rw[h]
namespace Ref
def zT(b:Int):Int×Int×Int:=
 if 194<=b/\b<=223 then (1,128,191)
 else if b=224 then (2,160,191)
 else if b=237 then (2,128,159)
 else if 225<=b/\b<=239 then (2,128,191)
 else if b=240 then (3,144,191)
 else if 241<=b/\b<=243 then (3,128,191)
 else if b=244 then (3,128,143)
 else (0,0,0)
def letters(l:List UInt8):Bool:=l.all λc=>decide (97<=c.toNat/\c.toNat<=122)
def qg(s:BY):Bool:=decide (1<=s.size/\s.size<=12)&&letters s.data.toList
theorem Ve(s:BY)(k:Nat)(h:k<s.size):s.data.toList.take (k+1)=s.data.toList.take k++[s[k]]:=by
 rw[Jo (by simpa using h)];rfl
theorem mG(l:List UInt8)(c:UInt8):letters (l++[c])=(letters l&&decide (97<=c.toNat/\c.toNat<=122)):=by
 simp[letters]
theorem IB(s:BY)(k:Nat)(h:k<s.size)(hb:¬(97<=s[k].toNat/\s[k].toNat<=122)):letters s.data.toList=false:=by
 have e:letters (s.data.toList.take (k+1))=false:=by rw[Ve s k h,mG];simp[hb]
 have:=Vy (k+1) s.data.toList
 rw[<- this];unfold letters at *;rw[Vp,e];rfl
theorem Gf(s:BY)(k:Nat)(h:k<s.size)(hb:(s[k].toNat:Int)<97\/122<(s[k].toNat:Int)):qg s=false:=by
 unfold qg;rw[IB s k h (by omega)];simp
theorem IA(s:BY)(k:Nat)(h:k<s.size)(a:letters (s.data.toList.take k)=true)(b:97<=(s[k].toNat:Int))(hb:(s[k].toNat:Int)<=122) :
  letters (s.data.toList.take (k+1))=true:=by
 rw[Ve s k h,mG,a];simp;omega
theorem Gg(s:BY)(k:Nat)(h:¬k<s.size)(d:k<=s.size)(b:1<=s.size)(c:s.size<=12)(a:letters (s.data.toList.take k)=true):qg s=true:=by
 unfold qg;rw[Zb (by simp;omega)] at a;rw[a];simp;omega
theorem JO(s:BY)(h:¬(1<=s.size/\s.size<=12)):qg s=false:=by
 unfold qg;simp[h]
theorem aR(b:Int):0<=(zT b).1/\(zT b).1<=3/\0<=(zT b).2.1/\(zT b).2.1<=255/\0<=(zT b).2.2/\(zT b).2.2<=255:=by
 generalize a:zT b=r;unfold zT at a
 (repeat' split at a)<;>subst a<;>simp
def jb(l:List UInt8)(lo hi:Int)(n:Nat):Bool:=
 (List.range n).all λj=>if j=0 then decide (lo<=((l.getD 1 0).toNat:Int)/\((l.getD 1 0).toNat:Int)<=hi) else decide (128<=(l.getD (j+1) 0).toNat/\(l.getD (j+1) 0).toNat<=191)
def qU(l:List UInt8):Nat:=
 if l.length=0 then 0
 else if (l.getD 0 0).toNat<128 then 1
 else if (zT (l.getD 0 0).toNat).1=0 then 0
 else if (l.length:Int)<(zT (l.getD 0 0).toNat).1+1 then 0
 else if jb l (zT (l.getD 0 0).toNat).2.1 (zT (l.getD 0 0).toNat).2.2 (zT (l.getD 0 0).toNat).1.toNat then (zT (l.getD 0 0).toNat).1.toNat+1 else 0
theorem VT(l:List UInt8)(lo hi:Int)(n:Nat) :
  jb l lo hi (n+1)=(jb l lo hi n&&if n=0 then decide (lo<=((l.getD 1 0).toNat:Int)/\((l.getD 1 0).toNat:Int)<=hi) else decide (128<=(l.getD (n+1) 0).toNat/\(l.getD (n+1) 0).toNat<=191)):=by
 unfold jb;rw[Jn,Vp];simp
theorem BU(l:List UInt8)(lo hi:Int)(n k:Nat)(h:jb l lo hi k=false):jb l lo hi (k+n)=false:=by
 induction n with
 | zero=>exact h
 | succ n a=>rw[<- Nat.add_assoc,VT,a];rfl
theorem Kt(c:UInt8):(c.toNat:Int)<=255:=by have:=c.toNat_lt;omega
theorem b0(c:UInt8):(0:Int)<=c.toNat:=by omega
theorem zz(s:BY):s.data.toList.length=s.size:=by simp
theorem getD_at(s:BY)(k:Nat)(h:k<s.size):s.data.toList.getD k 0=s[k]:=by
 rw[zX,zm (by simpa using h)];rfl
def qj(s:BY):BY:=s.extract 0 (if qU s.data.toList=0 then 1 else qU s.data.toList)
def uh(s:BY):Bool:=qU s.data.toList != 0
theorem gJ(s:BY)(k:Nat)(h:qU s.data.toList=k):qj s=s.extract 0 (if k=0 then 1 else k)/\uh s=(k != 0):=by
 unfold qj uh;rw[h];exact⟨rfl,rfl⟩
theorem AJ(s:BY)(a:0<s.size)(h:(s[0].toNat:Int)<128):qU s.data.toList=1:=by
 unfold qU;rw[za (by rw[zz];omega),getD_at s 0 a,zb (by omega)]
theorem AR(s:BY)(a:0<s.size)(lo hi:Int)(b:zT (s[0].toNat:Int)=(0,lo,hi))(h:¬(s[0].toNat:Int)<128):qU s.data.toList=0:=by
 unfold qU;rw[za (by rw[zz];omega),getD_at s 0 a,za (by omega),b,zb rfl]
theorem AU(s:BY)(c:0<s.size)(n lo hi:Int)(d:zT (s[0].toNat:Int)=(n,lo,hi))(h:¬(s[0].toNat:Int)<128)(b:n≠0)(a:(s.size:Int)<n+1):qU s.data.toList=0:=by
 unfold qU;rw[za (by rw[zz];omega),getD_at s 0 c,za (by omega),d,za b,zb (by simpa using a)]
theorem gH(s:BY)(c:0<s.size)(n lo hi:Int)(d:zT (s[0].toNat:Int)=(n,lo,hi))(h:¬(s[0].toNat:Int)<128)(b:n≠0)(a:¬(s.size:Int)<n+1) :
  qU s.data.toList=if jb s.data.toList lo hi n.toNat then n.toNat+1 else 0:=by
 unfold qU;rw[za (by rw[zz];omega),getD_at s 0 c,za (by omega),d,za b,za (by simpa using a)]
theorem YI(s:BY)(k:Nat)(h:qU s.data.toList=k)(t:BY)(b:Bool)(a:t=s.extract 0 (if k=0 then 1 else k))(hb:b=(k != 0)) :
  Ending.returned (.tuple #[.string t,.bool b]) = .returned (.tuple #[.string (qj s),.bool (uh s)]):=by
 rw[(gJ s k h).1,(gJ s k h).2,a,hb]
def Qm(lo:Int)(k:Nat):Int:=if k=1 then lo else 128
def Ql(hi:Int)(k:Nat):Int:=if k=1 then hi else 191
theorem gZ(s:BY)(lo hi:Int)(k:Nat)(b:1<=k)(a:k<s.size)(h:jb s.data.toList lo hi (k-1)=true) :
  jb s.data.toList lo hi k=decide (Qm lo k<=(s[k].toNat:Int)/\(s[k].toNat:Int)<=Ql hi k):=by
 obtain⟨j,rfl⟩:∃j,k=j+1:=⟨k-1,by omega⟩;simp only[eQ] at h;rw[VT,h,getD_at s (j+1) a];unfold Qm Ql
 by_cases hj:j=0
 ·subst hj;rw[getD_at s 1 a];simp
 ·rw[za hj,za (by omega),za (by omega),ZX,decide_eq_decide];omega
theorem gG(s:BY)(l:0<s.size)(n lo hi:Int)(m:zT (s[0].toNat:Int)=(n,lo,hi))(h:¬(s[0].toNat:Int)<128)(j:n≠0)(i:¬(s.size:Int)<n+1)
  (k:Nat)(c:1<=k)(f:k<s.size)(g:(k:Int)<=n)(d:jb s.data.toList lo hi (k-1)=true)(hb:(s[k].toNat:Int)<Qm lo k\/Ql hi k<(s[k].toNat:Int)):qU s.data.toList=0:=by
 have e:=gZ s lo hi k c f d;have b:jb s.data.toList lo hi k=false:=by rw[e,KW];omega
 have a:=BU s.data.toList lo hi (n.toNat-k) k b;rw[show k+(n.toNat-k)=n.toNat by omega] at a;rw[gH s l n lo hi m h j i,a];rfl
theorem BS(s:BY)(lo hi:Int)(k:Nat)(a:1<=k)(c:k<s.size)(h:jb s.data.toList lo hi (k-1)=true)(b:Qm lo k<=(s[k].toNat:Int))(hb:(s[k].toNat:Int)<=Ql hi k) :
  jb s.data.toList lo hi (k+1-1)=true:=by
 rw[eQ,gZ s lo hi k a c h,Zh];exact⟨b,hb⟩
theorem AP(s:BY)(f:0<s.size)(n lo hi:Int)(g:zT (s[0].toNat:Int)=(n,lo,hi))(h:¬(s[0].toNat:Int)<128)(e:n≠0)(d:¬(s.size:Int)<n+1)
  (k:Nat)(i:1<=k)(c:¬(k:Int)<=n)(b:(k:Int)<=n+1)(a:jb s.data.toList lo hi (k-1)=true):qU s.data.toList=k:=by
 rw[show k-1=n.toNat by omega] at a;rw[gH s f n lo hi g h e d,zb a];omega
theorem IQ(lo:Int)(k:Nat)(h:1<=k):Qm lo (k+1)=128:=by unfold Qm;rw[za (by omega)]
theorem FE(hi:Int)(k:Nat)(h:1<=k):Ql hi (k+1)=191:=by unfold Ql;rw[za (by omega)]
def xM(s:BY):Nat:=2+(s.data.toList.drop 2).findIdx (λc=>c.toNat==125)
theorem iE(s:BY)(k:Nat)(a:2<=k)(b:k<s.size):∃h:k-2<(s.data.toList.drop 2).length,(s.data.toList.drop 2)[k-2]=s[k]:=by
 have h:k-2<(s.data.toList.drop 2).length:=by rw[jm,zz];omega
 refine⟨h,?_⟩;rw[List.getElem_drop];have e:2+(k-2)=k:=by omega
 simp only[e];rfl
theorem gM(s:BY)(k:Nat)(a:2<=k)(d:k<s.size)(f:k<=xM s)(h:(s[k].toNat:Int)=125):xM s=k:=by
 obtain⟨g,e⟩:=iE s k a d;unfold xM at *
 have:(s.data.toList.drop 2).findIdx (λc=>c.toNat==125)<=k-2:=by
  apply Nat.le_of_not_lt;intro b
  have:=List.not_of_lt_findIdx b
  rw[e] at this;simp at this;omega
 omega
theorem Bh(s:BY)(k:Nat)(b:2<=k)(f:k<s.size)(g:k<=xM s)(h:(s[k].toNat:Int)≠125):k+1<=xM s:=by
 obtain⟨i,e⟩:=iE s k b f;unfold xM at *
 have:(s.data.toList.drop 2).findIdx (λc=>c.toNat==125)≠k-2:=by
  intro d;have a:(s.data.toList.drop 2).findIdx (λc=>c.toNat==125)<(s.data.toList.drop 2).length:=by omega
  have:=List.findIdx_getElem (w:=a)
  simp only[d,e] at this;simp at this;omega
 omega
theorem Bg(s:BY)(k:Nat)(b:2<=k)(e:¬k<s.size)(a:k<=s.size)(d:k<=xM s):xM s=s.size:=by
 unfold xM at *
 have:=List.findIdx_le_length (xs:=s.data.toList.drop 2) (p:=λc=>c.toNat==125)
 rw[jm,zz] at this;omega
def xV(s:BY):Int×BY×Nat:=
 if s.size<2 then (0,⟨#[]⟩,0)
 else if (s.data.toList.getD 1 0).toNat=36\/(s.data.toList.getD 1 0).toNat=42\/(s.data.toList.getD 1 0).toNat=63 then (1,s.extract 1 2,2)
 else if (s.data.toList.getD 1 0).toNat=123 then
  if xM s<s.size then (if qg (s.extract 2 (xM s)) then (4,s.extract 2 (xM s),xM s+1) else (0,⟨#[]⟩,0)) else (0,⟨#[]⟩,0)
 else (0,⟨#[]⟩,0)
end Ref
end Go.Proofs.YtdakgnaojakldaaGreatDoor
namespace Go.Proofs.YtdakgnaojakldaaGreatDoor
open Go.RowKit
theorem Ip(b:Int)(w:World)(c:0<=b)(d:b<=255) :
  Calls prog 203 #[.int .u8 b] w λe w'=>e = .returned (.tuple #[.int .i64 (Ref.zT b).1,.int .u8 (Ref.zT b).2.1,.int .u8 (Ref.zT b).2.2])/\w'=w:=by
 go_enter func203,ntmps203
 go_wp2
 all_goals
  go_ret3;refine⟨?_,rfl⟩;simp only[ku,qG,ne_eq] at *;generalize a:Ref.zT b=r;unfold Ref.zT at a
  (repeat' split at a)<;>subst a<;>first|rfl|(exfalso;omega)
theorem aH(s:BY)(w:World)(j:s.size<=maxLen) :
  Calls prog 180 #[.string s] w λe w'=>e = .returned (.bool (Ref.qg s))/\w'=w:=by
 unfold maxLen at j
 by_cases hsz:1<=s.size/\s.size<=12
 ·obtain⟨b,c⟩:=hsz;have g:decide ((s.size:Int)<1)=false:=by simp;omega
  have h:decide (12<(s.size:Int))=false:=by simp;omega
  go_enter func180,ntmps180
  go_wp2
  go_loop [3] (λi=>∃k:Nat,k<=s.size/\i = .int .i64 k/\Ref.letters (s.data.toList.take k)=true) (λi=>s.size-(intOf i).toNat)
  case atStart=>exact⟨0,zD _,rfl,rfl⟩
  case round=>
   obtain⟨k,f,rfl,a⟩:=hrel;have d:Hid (Ref.letters (s.data.toList.take k)=true):=a;clear a
   by_cases hlt:k<s.size
   ·go_wp2
    all_goals first
     | (go_ret;exact⟨Zr (Ref.Gf s k hlt (by omega)).symm,rfl⟩)
     | exact⟨⟨k+1,by omega,by go_num,Ref.IA s k hlt d.out (by omega) (by omega)⟩,by simp[intOf];omega⟩
   ·go_wp2
    go_ret;exact⟨Zr (Ref.Gg s k hlt f b c d.out).symm,rfl⟩
 ·go_enter func180,ntmps180
  go_wp2
  all_goals first
   | (exfalso;omega)
   | (go_ret;exact⟨Zr (Ref.JO s hsz).symm,rfl⟩)
theorem aU(b n lo hi:Int)(w:World)(a:0<=b)(c:b<=255)(d:Ref.zT b=(n,lo,hi)) :
  Calls prog 203 #[.int .u8 b] w λe w'=>e = .returned (.tuple #[.int .i64 n,.int .u8 lo,.int .u8 hi])/\w'=w:=by
 have h:=Ip b w a c;rw[d] at h;exact h
theorem AZ(s:BY)(w:World)(r:s.size<=maxLen)(f:0<s.size) :
  Calls prog 217 #[.string s] w λe w'=>
   e = .returned (.tuple #[.string (Ref.qj s),.bool (Ref.uh s)])/\w'=w:=by
 unfold maxLen at r;obtain⟨n,lo,hi,m⟩:∃n lo hi,Ref.zT (s[0].toNat:Int)=(n,lo,hi):=⟨_,_,_,rfl⟩;have b:=Ref.aR (s[0].toNat:Int);rw[m] at b;simp only at b;obtain⟨y,z,v,x,t,u⟩:=b;have d:Hid (Ref.zT (s[0].toNat:Int)=(n,lo,hi)):=m;clear m;go_enter func217,ntmps217
 go_wp2_with (go_at_call 203;refine (aU _ n lo hi _ (Ref.b0 _) (Ref.Kt _) d.out).mono ?_;rintro e w' ⟨rfl,rfl⟩)
 all_goals try (go_loop [5,6,7] (λlow high i=>∃k:Nat,1<=k/\(k:Int)<=n+1/\i = .int .i64 k/\low = .int .u8 (Ref.Qm lo k)/\high = .int .u8 (Ref.Ql hi k)/\Ref.jb s.data.toList lo hi (k-1)=true) (λ_ _ i=>(n+1).toNat-(intOf i).toNat))
 ·go_ret2;exact⟨Ref.YI s 1 (Ref.AJ s f (by assumption)) _ _ rfl rfl,rfl⟩
 ·go_ret2;have j:n=0:=by assumption
  subst j;exact⟨Ref.YI s 0 (Ref.AR s f lo hi d.out (by omega)) _ _ rfl rfl,rfl⟩
 ·go_ret2;have l:(n==0)=true\/(s.size:Int)<n+1:=by assumption
  simp only[ku] at l;exact⟨Ref.YI s 0 (Ref.AU s f n lo hi d.out (by omega) (by omega) (by omega)) _ _ rfl rfl,rfl⟩
 case atStart=>exact⟨1,by omega,by omega,rfl,rfl,rfl,rfl⟩
 case round=>
  obtain⟨k,a,p,rfl,rfl,rfl,g⟩:=hrel;have h:Hid (Ref.jb s.data.toList lo hi (k-1)=true):=g;clear g
  by_cases hlt:(k:Int)<=n
  ·have c:k<s.size:=by omega
   have q:0<=Ref.Qm lo k/\Ref.Qm lo k<=255:=by unfold Ref.Qm;split<;>omega
   have o:0<=Ref.Ql hi k/\Ref.Ql hi k<=255:=by unfold Ref.Ql;split<;>omega
   go_wp2
   ·go_ret2;exact⟨Ref.YI s 0 (Ref.gG s f n lo hi d.out (by omega) (by omega) (by omega) k a c hlt h.out (by omega)) _ _ rfl rfl,rfl⟩
   ·go_round
    case rel=>exact⟨_,_,_,_,_,⟨k+1,by omega,by omega,by go_num,by rw[Ref.IQ lo k a],by rw[Ref.FE hi k a],Ref.BS s lo hi k a c h.out (by omega) (by omega)⟩,rfl,rfl,rfl,rfl,rfl⟩
    case measure=>simp[intOf];omega
   ·go_ret2;exact⟨Ref.YI s 0 (Ref.gG s f n lo hi d.out (by omega) (by omega) (by omega) k a c hlt h.out (by omega)) _ _ rfl rfl,rfl⟩
  ·go_wp2
   go_ret2;exact⟨Ref.YI s k (Ref.AP s f _ lo hi d.out (by omega) (by omega) (by omega) k a (by omega) (by omega) h.out) _ _ (by rw[za (by omega),show (n+1).toNat=k by omega]) (by rw[show (k != 0)=true by simp;omega]),rfl⟩
namespace Ref
theorem De(s:BY)(a:1<s.size)(h:(s[1].toNat:Int)=36\/(s[1].toNat:Int)=42\/(s[1].toNat:Int)=63):xV s=(1,s.extract 1 2,2):=by
 unfold xV;rw[za (by omega),getD_at s 1 a,zb (by omega)]
theorem Di(s:BY)(a:s.size<2):xV s=(0,⟨#[]⟩,0):=by
 unfold xV;rw[zb a]
theorem Dh(s:BY)(a:1<s.size)(h:(s[1].toNat:Int)≠36/\(s[1].toNat:Int)≠42/\(s[1].toNat:Int)≠63/\(s[1].toNat:Int)≠123):xV s=(0,⟨#[]⟩,0):=by
 unfold xV;rw[za (by omega),getD_at s 1 a,za (by omega),za (by omega)]
theorem iB(s:BY)(a:1<s.size)(h:(s[1].toNat:Int)=123)(k:Nat)(d:k<s.size)(c:xM s=k)(b:Bool)(hb:qg (s.extract 2 k)=b) :
  xV s=if b then (4,s.extract 2 k,k+1) else (0,⟨#[]⟩,0):=by
 unfold xV;rw[za (by omega),getD_at s 1 a,za (by omega),zb (by omega),c,zb d,hb]
theorem Df(s:BY)(a:1<s.size)(h:(s[1].toNat:Int)=123)(b:xM s=s.size):xV s=(0,⟨#[]⟩,0):=by
 unfold xV;rw[za (by omega),getD_at s 1 a,za (by omega),zb (by omega),b,za (by omega)]
theorem YZ(s:BY)(k:Int)(t:BY)(n:Nat)(v:Value)(h:xV s=(k,t,n))(a:v = .int .i64 (n:Int)) :
  Ending.returned (.tuple #[.agg #[.int .i64 k,.string t],v]) = .returned (.tuple #[.agg #[.int .i64 (xV s).1,.string (xV s).2.1],.int .i64 ((xV s).2.2:Nat)]):=by
 rw[h,a]
end Ref
theorem Dj(s:BY)(w:World)(m:s.size<=maxLen) :
  Calls prog 218 #[.string s] w λe w'=>
   e = .returned (.tuple #[.agg #[.int .i64 (Ref.xV s).1,.string (Ref.xV s).2.1],.int .i64 ((Ref.xV s).2.2:Nat)])/\Below w.heap.size w w':=by
 unfold maxLen at m
 by_cases h2:2<=s.size
 ·have l:decide ((s.size:Int)<2)=false:=by simp;omega
  go_enter func218,ntmps218
  go_wp2
  rotate_left 3
  ·go_loop [4] (λi=>∃k:Nat,2<=k/\k<=s.size/\i = .int .i64 k/\k<=Ref.xM s) (λi=>s.size-(intOf i).toNat)
   case atStart=>exact⟨2,by omega,by omega,rfl,by unfold Ref.xM;omega⟩
   case round=>
    obtain⟨k,b,h,rfl,g⟩:=hrel;have a:Hid (k<=Ref.xM s):=g;clear g
    by_cases hlt:k<s.size
    ·go_wp2_with (go_at_call 180;refine (aH (s.extract 2 k) _ ?_).mono ?_;(simp[maxLen];omega);rintro e w' ⟨rfl,rfl⟩)
     ·have c:((s[1]'(by omega)).toNat:Int)=123:=by apply eq_of_beq;assumption
      have f:(s[k].toNat:Int)=125:=by apply eq_of_beq;assumption
      have d:=Ref.iB s (by omega) c k hlt (Ref.gM s k b hlt a.out f) true (by assumption);exact zL (v := .tuple #[.agg #[.int .i64 4,.string (s.extract 2 k)],.int .i64 ((k:Int)+1)]) (by simp[results,results218,go_sem]) rfl ⟨Ref.YZ s _ _ (k+1) _ d (by go_num),nbl _ _⟩
     ·have c:((s[1]'(by omega)).toNat:Int)=123:=by apply eq_of_beq;assumption
      have f:(s[k].toNat:Int)=125:=by apply eq_of_beq;assumption
      have d:=Ref.iB s (by omega) c k hlt (Ref.gM s k b hlt a.out f) false (by assumption);exact zL (v := .tuple #[.agg #[.int .i64 0,.string ⟨#[]⟩],.int .i64 0]) (by simp[results,results218,go_sem]) rfl ⟨Ref.YZ s _ _ 0 _ d rfl,nbl _ _⟩
     ·have f:(s[k].toNat:Int)≠125:=by apply ne_of_beq_false;assumption
      exact⟨⟨k+1,by omega,by omega,by go_num,Ref.Bh s k b hlt a.out f⟩,by simp[intOf];omega⟩
    ·have c:((s[1]'(by omega)).toNat:Int)=123:=by apply eq_of_beq;assumption
     have d:=Ref.Df s (by omega) c (Ref.Bg s k b hlt h a.out);have j:Hid (Ref.xV s=(0,⟨#[]⟩,0)):=d;clear d c
     go_wp2
     exact zL (v := .tuple #[.agg #[.int .i64 0,.string ⟨#[]⟩],.int .i64 0]) (by simp[results,results218,go_sem]) rfl ⟨Ref.YZ s _ _ 0 _ j.out rfl,nbl _ _⟩
  all_goals simp only[ku,qG,ne_eq] at *
  ·exact zL (v := .tuple #[.agg #[.int .i64 0,.string ⟨#[]⟩],.int .i64 0]) (by simp[results,results218,go_sem]) rfl ⟨Ref.YZ s _ _ 0 _ (Ref.Dh s (by omega) (by omega)) rfl,nbl _ _⟩
  all_goals
   exact zL (v := .tuple #[.agg #[.int .i64 1,.string (s.extract 1 2)],.int .i64 2]) (by simp[results,results218,go_sem]) rfl ⟨Ref.YZ s _ _ 2 _ (Ref.De s (by omega) (by omega)) rfl,nbl _ _⟩
 ·go_enter func218,ntmps218
  go_wp2
  exact zL (v := .tuple #[.agg #[.int .i64 0,.string ⟨#[]⟩],.int .i64 0]) (by simp[results,results218,go_sem]) rfl ⟨Ref.YZ s _ _ 0 _ (Ref.Di s (by omega)) rfl,nbl _ _⟩
namespace Ref
def qW(s:BY):Option (Int×BY×Nat):=
 if uh s=false then none
 else if (qj s).toList==[42] then some (3,qj s,(qj s).size)
 else if (qj s).toList==[63] then some (2,qj s,(qj s).size)
 else if (qj s).toList==[36] then (if (xV s).2.2=0 then none else some (xV s))
 else some (1,qj s,(qj s).size)
def vV:Nat->BY->Option (List (Int×BY))
 | 0,_=>none
 | f+1,s=>if s.size=0 then some [] else match qW s with
  | none=>none
  | some (k,t,n)=>(vV f (s.extract n s.size)).map λr=>(k,t)::r
def parts(s:BY):Option (List (Int×BY)):=if 60<s.size then none else vV (s.size+1) s
def jZ(l:List (Int×BY)):List Value:=l.flatMap λp=>[.int .i64 p.1,.string p.2]
theorem YY(l:List (Int×BY))(k:Int)(t:BY):jZ (l++[(k,t)])=jZ l++[.int .i64 k,.string t]:=by
 simp[jZ]
theorem AQ(s:BY):qU s.data.toList<=s.size:=by
 unfold qU;rw[zz]
 split
 ·omega
 split
 ·omega
 split
 ·omega
 split
 ·omega
 split
 ·have:=aR ((s.data.toList.getD 0 0).toNat:Int);omega
 ·omega
theorem KL(s:BY)(a:0<s.size):1<=(qj s).size/\(qj s).size<=s.size:=by
 have h:=AQ s;unfold qj;rw[jF]
 split<;>omega
theorem iC(s:BY):(xV s).2.2<=s.size:=by
 unfold xV
 split
 ·simp
 split
 ·simp;omega
 split
 ·split
  ·split
   ·simp;omega
   ·simp
  ·simp
 ·simp
theorem oq(s:BY)(c:0<s.size)(k:Int)(t:BY)(n:Nat)(h:qW s=some (k,t,n)):1<=n/\n<=s.size:=by
 have d:=KL s c;have a:=iC s;unfold qW at h
 split at h
 ·simp at h
 split at h
 ·simp at h;omega
 split at h
 ·simp at h;omega
 split at h
 ·split at h
  ·simp at h
  ·simp at h;rw[h] at a;simp at a;rename_i b;rw[h] at b;simp at b;omega
 ·simp at h;omega
theorem J4(P:Option (List (Int×BY)))(f:Nat)(t:BY)(done:List (Int×BY))(c:0<t.size)(d:t.size<f)(h:P=(vV f t).map λr=>done++r)
  (k:Int)(u:BY)(n:Nat)(b:qW t=some (k,u,n)) :
  ∃a,(t.extract n t.size).size<a/\P=(vV a (t.extract n t.size)).map λr=>(done++[(k,u)])++r:=by
 obtain⟨g,rfl⟩:∃g,f=g+1:=⟨f-1,by omega⟩;have e:=oq t c k u n b;refine⟨g,by rw[jF];omega,?_⟩;rw[h,vV,za (by omega),b];simp[Option.map_map,Function.comp_def]
theorem bG(P:Option (List (Int×BY)))(f:Nat)(t:BY)(done:List (Int×BY))(c:0<t.size)(b:t.size<f)(h:P=(vV f t).map λr=>done++r)
  (a:qW t=none):P=none:=by
 obtain⟨g,rfl⟩:∃g,f=g+1:=⟨f-1,by omega⟩;rw[h,vV,za (by omega),a];rfl
theorem oG(P:Option (List (Int×BY)))(f:Nat)(t:BY)(done:List (Int×BY))(b:¬0<t.size)(a:t.size<f)(h:P=(vV f t).map λr=>done++r):P=some done:=by
 obtain⟨g,rfl⟩:∃g,f=g+1:=⟨f-1,by omega⟩;rw[h,vV,zb (by omega)];simp
def J9:Value->Nat
 | .string b=>b.size
 | _=>0
end Ref
theorem hid{p:Prop}(h:p):Hid p:=h
theorem ownsRow_below{w w':World}{base:Nat}{e:TypeId}{size:Nat}{v:Value}{n:Nat}{xs:List Value}(h:w.ownsRow base e size v n xs)(hb:Below w.heap.size w w'):w'.ownsRow base e size v n xs:=by
 obtain⟨b,a⟩:=h;refine⟨b,?_⟩
 rcases a with a|⟨g,cap,cur,hv,hg,hh,h3⟩
 ·exact .inl a
 ·exact .inr ⟨g,cap,cur,hv,hg,by rw[hb.block g (zx hh)];exact hh,h3⟩
theorem xx{w:World}{base a:Nat}{e:TypeId}{size:Nat}{v:Value}{n:Nat}{xs:List Value}(h:w.ownsRow base e size v n xs)(hb:a<=base):w.ownsRow a e size v n xs:=by
 obtain⟨c,b⟩:=h;refine⟨c,?_⟩
 rcases b with b|⟨g,cap,cur,hv,hg,hh⟩
 ·exact .inl b
 ·exact .inr ⟨g,cap,cur,hv,by omega,hh⟩
theorem QI{w w':World}(h:Below w.drew.heap.size w.drew w'):Below w.heap.size w w':=⟨h.os,h.tape,h.output,h.size,h.block⟩
theorem uu(w:World)(a b:Obj):((w.alloc a).alloc b).heap[w.heap.size]?=some a/\((w.alloc a).alloc b).heap[w.heap.size+1]?=some b:=by
 refine⟨?_,?_⟩
 ·rw[kX (w.alloc a) b w.heap.size (by simp)];exact zO w a
 ·have:=zO (w.alloc a) b
  simpa using this
theorem zg{w:World}{b:Nat}{cs:Array Value}{t:TypeId}(h:w.heap[b]?=some (.cells cs t (0,0)))(o:Nat):w.cell? ⟨b,o,none⟩=cs[o]?/\w.frozen? ⟨b,o,none⟩=false:=by
 simp[World.cell?,World.frozen?,h]
theorem addr_add(b o j:Nat):(⟨b,o,none⟩:Addr).add j=⟨b,o+j,none⟩:=by
 by_cases h:j=0
 ·subst h;simp[Addr.add]
 ·simp[Addr.add,h]
theorem Aw(w:World)(b o d g:Nat)(u:Value)(h:¬(b=d/\o=g)):(w.setCell ⟨b,o,none⟩ u).cell? ⟨d,g,none⟩=w.cell? ⟨d,g,none⟩:=by
 by_cases hb:b=d
 ·subst hb;unfold World.cell? World.setCell;simp only[Vj,xu]
  cases w.heap[b]? with
  | none=>rfl
  | some ob=>
   cases ob with
   | cells c t f=>simp[Array.getElem?_setIfInBounds];intro i;omega
   | _=>rfl
 ·exact QG (w:=w) (a:=⟨d,g,none⟩) (qb w ⟨b,o,none⟩ u d (λe=>hb e.symm))
theorem lu(w:World)(p:Addr)(u:Value)(q:Addr):(w.setCell p u).frozen? q=w.frozen? q:=by
 unfold World.frozen? World.setCell
 by_cases hb:p.block=q.block
 ·rw[hb];simp only[Vj,xu]
  cases w.heap[q.block]? with
  | none=>rfl
  | some ob=>cases ob<;>rfl
 ·simp only[Vj,za hb]
theorem YJ(s c:BY)(b:Bool)(w:World)(f:s.size<=maxLen)(d:0<s.size)(a:Ref.qj s=c)(hb:Ref.uh s=b) :
  Calls prog 217 #[.string s] w λe w'=>e = .returned (.tuple #[.string c,.bool b])/\w'=w:=by
 have h:=AZ s w f d;rw[a,hb] at h;exact h
theorem iD(s t:BY)(k:Int)(n:Nat)(w:World)(b:s.size<=maxLen)(a:Ref.xV s=(k,t,n)) :
  Calls prog 218 #[.string s] w λe w'=>e = .returned (.tuple #[.agg #[.int .i64 k,.string t],.int .i64 (n:Nat)])/\Below w.heap.size w w':=by
 have h:=Dj s w b;rw[a] at h;exact h
theorem Tryz.infoPart:(prog.info? 368).map (λi=>(i.zero,i.size,i.bytes))=some (some (.agg #[.int .i64 0,.string ⟨#[]⟩]),2,24):=by kernel_rfl
theorem Ul(k:Int)(c:BY):∀u ∈ [Value.int .i64 k,Value.string c],u.oneCell'=true:=by
 intro u a;simp at a;rcases a with rfl|rfl<;>rfl
theorem ZC{W w1:World}(hb:Below W.heap.size W w1):(∀b o,b<W.heap.size->w1.cell? ⟨b,o,none⟩=W.cell? ⟨b,o,none⟩)/\(∀b o,b<W.heap.size->w1.frozen? ⟨b,o,none⟩=W.frozen? ⟨b,o,none⟩):=
 ⟨λb o h=>hb.cell (p:=⟨b,o,none⟩) h,λb o h=>hb.frozen (p:=⟨b,o,none⟩) h⟩
theorem XT(w:World)(o:Obj)(a b:Value)(t:TypeId)(k:Nat)(c:k=(w.alloc o).heap.size) :
  ∀j u,[a,b][j]?=some u->((w.alloc o).alloc (.cells #[a,b] t)).cell? ((⟨k,0,none⟩:Addr).add j)=some u:=by
 subst c;exact cell_two_new _ _ _ _
theorem Ay(w:World)(a b:Value)(t:TypeId)(k:Nat)(c:k=w.heap.size) :
  ∀j u,[a,b][j]?=some u->(w.alloc (.cells #[a,b] t)).cell? ((⟨k,0,none⟩:Addr).add j)=some u:=by
 subst c;exact cell_two_new _ _ _ _
theorem VL{wr b:World}(O:Obj)(a:Below (wr.alloc O).heap.size (wr.alloc O) b)(x y:Value) :
  Below wr.heap.size wr ((b.setCell ⟨wr.heap.size,0,none⟩ x).setCell ⟨wr.heap.size,1,none⟩ y):=
 (((nbl wr O).trans (a.mono (by simp))).setCell (ze _) x).setCell (ze _) y
theorem Ah{w wr w1:World}{e:TypeId}{size:Nat}{v:Value}{n:Nat}{xs:List Value}(b:Below w.heap.size w wr)(c:wr.ownsRow w.heap.size e size v n xs)(a:Obj)
  (f:(wr.alloc a).grownBy w1 v.ownBlock):Below w.heap.size w w1:=by
 have d:=b.size;exact (b.alloc d a).grown f (by simp;omega) (λk g=>(c.lt k g).1)
theorem VM{w wr w1:World}{e:TypeId}{size:Nat}{v:Value}{n:Nat}{xs:List Value}(c:Below w.heap.size w wr)(d:wr.ownsRow w.heap.size e size v n xs)(a b:Obj)
  (g:((wr.alloc a).alloc b).grownBy w1 v.ownBlock):Below w.heap.size w w1:=by
 have f:=c.size;exact ((c.alloc f a).alloc (by simp;omega) b).grown g (by simp;omega) (λk h=>(d.lt k h).1)
theorem MQ(s:BY)(w:World)(hs:s.size<=60) :
  Calls prog 176 #[.string s] w λe w'=>∃v,e = .returned (.tuple #[v,.bool (Ref.parts s).isSome])/\Below w.heap.size w w' /\
   ((Ref.parts s).isSome=false->v = .slice none 0 0)/\w'.ownsRow w.heap.size 368 2 v ((Ref.parts s).getD []).length (Ref.jZ ((Ref.parts s).getD [])):=by
 obtain⟨N,hi,B,C,D⟩:=qO Tryz.infoPart;have Z:decide (60<(s.size:Int))=false:=by simp;omega
 have U:Ref.parts s=(Ref.vV (s.size+1) s).map λr=>[]++r:=by unfold Ref.parts;rw[za (by omega)];simp
 generalize Q:Ref.parts s=P at *;clear Q;have T:Hid (P=(Ref.vV (s.size+1) s).map λr=>[]++r):=U;clear U;go_enter func176,ntmps176
 go_wp2
 go_loopw [0,4] (λS lv wr=>∃(t:BY) (f:Nat) (done:List (Int×BY)),S = .string t/\done.length+t.size<=s.size/\t.size<f/\P=((Ref.vV f t).map λr=>done++r) /\
   wr.ownsRow w.heap.size 368 2 lv done.length (Ref.jZ done)/\Below w.heap.size w wr) (λS _ _=>Ref.J9 S)
 case atStart=>exact⟨s,s.size+1,[],rfl,by simp,by omega,T.out,qC _ _ _ _,zf _ _⟩
 case round=>
  obtain⟨t,f,done,rfl,X,G,I,d,j⟩:=hrel;have i:Hid (P=(Ref.vV f t).map λr=>done++r):=I;clear I T;have M:=j.size
  by_cases hp:0<t.size
  ·have R:=Ref.KL t hp
   cases hok:Ref.uh t with
   | false=>
    have z:Hid (Ref.uh t=false):=hok;have o:=Ref.bG P f t done hp G i.out (by unfold Ref.qW;rw[zb hok]);subst o;clear hok
    go_wp2_with (go_at_call 217;refine (YJ t _ false _ (by unfold maxLen;omega) hp rfl z.out).mono ?_;rintro e w' ⟨rfl,rfl⟩)
    go_ret2;exact⟨_,rfl,j,λ_=>rfl,qC _ _ _ _⟩
   | true=>
    obtain⟨c,p⟩:=Nm (Ref.qj t);rw[p] at R
    by_cases c1:(c.toList==[42])=true
    ·have h:Ref.qW t=some (3,c,c.size):=by unfold Ref.qW;rw[za (by simp[hok]),p,zb c1]
     obtain⟨E,y,l⟩:=Ref.J4 P f t done hp G i.out 3 c c.size h;have q:=hid l;have A:=hid p;have z:=hid hok;clear l p hok h i
     go_wp2_with (first
      | (go_at_call 217;refine (YJ t c true _ (by unfold maxLen;omega) hp A.out z.out).mono ?_;rintro e w' ⟨rfl,rfl⟩)
      | (at_builtin;refine yH _ rfl _ _ 314 rfl w.heap.size 368 N (.agg #[.int .i64 0,.string ⟨#[]⟩]) 2 24 underlying314 hi B C D rfl (by decide) _ _ _ rfl ((d.alloc _).alloc _) ⟨w'.heap.size+1,0,none⟩ 1 1 [.int .i64 3,.string c] rfl rfl ?_ ?_ ?_ ?_ ?_ ?_))
     ·exact XT _ _ _ _ _ _ (by simp)
     ·exact Ul _ _
     ·unfold maxLen;omega
     ·omega
     ·simp;omega
     ·intro H w1 b a _;have x:=VM j d _ _ a;have g:w1.ownsRow w.heap.size 368 2 H (done++[((3:Int),c)]).length (Ref.jZ (done++[((3:Int),c)])):=by rw[Ref.YY,qz];exact b
      clear b a d
      go_wp2
      go_roundw
      case rel=>exact⟨_,E,_,rfl,by simp;omega,y,q.out,g,x⟩
      case measure=>simp[Ref.J9];omega
    rw[UU] at c1
    by_cases c2:(c.toList==[63])=true
    ·have h:Ref.qW t=some (2,c,c.size):=by unfold Ref.qW;rw[za (by simp[hok]),p,za (by simp[c1]),zb c2]
     obtain⟨E,y,l⟩:=Ref.J4 P f t done hp G i.out 2 c c.size h;have q:=hid l;have A:=hid p;have z:=hid hok;clear l p hok h i
     go_wp2_with (first
      | (go_at_call 217;refine (YJ t c true _ (by unfold maxLen;omega) hp A.out z.out).mono ?_;rintro e w' ⟨rfl,rfl⟩)
      | (at_builtin;refine yH _ rfl _ _ 314 rfl w.heap.size 368 N (.agg #[.int .i64 0,.string ⟨#[]⟩]) 2 24 underlying314 hi B C D rfl (by decide) _ _ _ rfl ((d.alloc _).alloc _) ⟨w'.heap.size+1,0,none⟩ 1 1 [.int .i64 2,.string c] rfl rfl ?_ ?_ ?_ ?_ ?_ ?_))
     ·exact XT _ _ _ _ _ _ (by simp)
     ·exact Ul _ _
     ·unfold maxLen;omega
     ·omega
     ·simp;omega
     ·intro H w1 b a _;have x:=VM j d _ _ a;have g:w1.ownsRow w.heap.size 368 2 H (done++[((2:Int),c)]).length (Ref.jZ (done++[((2:Int),c)])):=by rw[Ref.YY,qz];exact b
      clear b a d
      go_wp2
      go_roundw
      case rel=>exact⟨_,E,_,rfl,by simp;omega,y,q.out,g,x⟩
      case measure=>simp[Ref.J9];omega
    rw[UU] at c2
    by_cases c3:(c.toList==[36])=true
    ·obtain⟨k,u,n,F⟩:∃k u n,Ref.xV t=(k,u,n):=⟨_,_,_,rfl⟩;have K:=Ref.iC t;rw[F] at K;simp only at K
     by_cases hn0:n=0
     ·subst hn0;have h:Ref.qW t=none:=by unfold Ref.qW;rw[za (by simp[hok]),p,za (by simp[c1]),za (by simp[c2]),zb c3,F,zb rfl]
      have o:=Ref.bG P f t done hp G i.out h;subst o;have A:=hid p;have z:=hid hok;have O:=hid F;clear p hok h F i
      go_wp2_with (first
       | (go_at_call 217;refine (YJ t c true _ (by unfold maxLen;omega) hp A.out z.out).mono ?_;rintro e w' ⟨rfl,rfl⟩)
       | (go_at_call 218;refine (iD t u k 0 _ (by unfold maxLen;omega) O.out).mono ?_;rintro e W ⟨rfl,m⟩;obtain⟨J,L⟩:=ZC m;have V:=m.size))
      go_ret2;exact⟨_,rfl,j.trans ((VL _ m _ _).mono M),λ_=>rfl,qC _ _ _ _⟩
     ·have h:Ref.qW t=some (k,u,n):=by unfold Ref.qW;rw[za (by simp[hok]),p,za (by simp[c1]),za (by simp[c2]),zb c3,F,za hn0]
      obtain⟨E,y,l⟩:=Ref.J4 P f t done hp G i.out k u n h;have q:=hid l;have A:=hid p;have z:=hid hok;have O:=hid F;have Y:((n:Int)==0)=false:=by simp;omega
      clear l p hok h F i
      go_wp2_with (first
       | (go_at_call 217;refine (YJ t c true _ (by unfold maxLen;omega) hp A.out z.out).mono ?_;rintro e w' ⟨rfl,rfl⟩)
       | (go_at_call 218;refine (iD t u k n _ (by unfold maxLen;omega) O.out).mono ?_;rintro e W ⟨rfl,m⟩;obtain⟨J,L⟩:=ZC m;have V:=m.size)
       | (at_builtin;refine yH _ rfl _ _ 314 rfl w.heap.size 368 N (.agg #[.int .i64 0,.string ⟨#[]⟩]) 2 24 underlying314 hi B C D rfl (by decide) _ done.length (Ref.jZ done) rfl ?_ ⟨W.heap.size,0,none⟩ 1 1 [.int .i64 k,.string u] rfl rfl ?_ ?_ ?_ ?_ ?_ ?_))
      ·exact (ownsRow_below d (VL _ m _ _)).alloc _
      ·exact Ay _ _ _ _ _ (by simp[World.setCell])
      ·exact Ul _ _
      ·unfold maxLen;omega
      ·omega
      ·have:=m.size;simp[World.setCell] at this |-;omega
      ·intro H w1 b a _;have x:=Ah (j.trans ((VL _ m _ _).mono M)) (ownsRow_below d (VL _ m _ _)) _ a;have g:w1.ownsRow w.heap.size 368 2 H (done++[(k,u)]).length (Ref.jZ (done++[(k,u)])):=by rw[Ref.YY,qz];exact b
       clear b a d m J L V
       go_wp2
       go_roundw
       case rel=>exact⟨_,E,_,rfl,by simp;omega,y,q.out,g,x⟩
       case measure=>simp[Ref.J9];omega
    ·rw[UU] at c3;have h:Ref.qW t=some (1,c,c.size):=by unfold Ref.qW;rw[za (by simp[hok]),p,za (by simp[c1]),za (by simp[c2]),za (by simp[c3])]
     obtain⟨E,y,l⟩:=Ref.J4 P f t done hp G i.out 1 c c.size h;have q:=hid l;have A:=hid p;have z:=hid hok;clear l p hok h i
     go_wp2_with (first
      | (go_at_call 217;refine (YJ t c true _ (by unfold maxLen;omega) hp A.out z.out).mono ?_;rintro e w' ⟨rfl,rfl⟩)
      | (at_builtin;refine yH _ rfl _ _ 314 rfl w.heap.size 368 N (.agg #[.int .i64 0,.string ⟨#[]⟩]) 2 24 underlying314 hi B C D rfl (by decide) _ _ _ rfl ((d.alloc _).alloc _) ⟨w'.heap.size+1,0,none⟩ 1 1 [.int .i64 1,.string c] rfl rfl ?_ ?_ ?_ ?_ ?_ ?_))
     ·exact XT _ _ _ _ _ _ (by simp)
     ·exact Ul _ _
     ·unfold maxLen;omega
     ·omega
     ·simp;omega
     ·intro H w1 b a _;have x:=VM j d _ _ a;have g:w1.ownsRow w.heap.size 368 2 H (done++[((1:Int),c)]).length (Ref.jZ (done++[((1:Int),c)])):=by rw[Ref.YY,qz];exact b
      clear b a d
      go_wp2
      go_roundw
      case rel=>exact⟨_,E,_,rfl,by simp;omega,y,q.out,g,x⟩
      case measure=>simp[Ref.J9];omega
  ·have o:=Ref.oG P f t done hp G i.out;subst o;clear i
   go_wp2
   go_ret2;exact⟨_,rfl,j,by simp,d⟩
namespace Ref
def gL:Nat->BY->Option (List BY)
 | 0,_=>none
 | f+1,s=>if s.size=0 then some [] else if uh s=false then none else (gL f (s.extract (qj s).size s.size)).map λr=>qj s::r
def chars(s:BY):Option (List BY):=gL (s.size+1) s
def strCells(l:List BY):List Value:=l.map Value.string
theorem PY(l:List BY)(c:BY):strCells (l++[c])=strCells l++[.string c]:=by simp[strCells]
end Ref
end Go.Proofs.YtdakgnaojakldaaGreatDoor
