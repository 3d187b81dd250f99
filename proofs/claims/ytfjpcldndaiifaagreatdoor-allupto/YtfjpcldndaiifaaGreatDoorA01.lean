/- P -/
import Derived.Test.YtfjpcldndaiifaaGreatDoorA00
import Derived.Test.YtfjpcldndaiifaaGreatDoorProg
open Go.Proofs.Tryz hiding parts
set_option maxRecDepth 100000
set_option maxHeartbeats 1000000
namespace Go.Proofs.YtfjpcldndaiifaaGreatDoor
theorem Z4{a b:Bool}(h:a=b):Ending.returned (.bool a)=.returned (.bool b):=by rw[h]
theorem zcY{k:IntKind}{a b:Int}(h:a=b):Ending.returned (.int k a)=.returned (.int k b):=by rw[h]
theorem zc0{a b:BY}(h:a=b):Ending.returned (S9 a)=.returned (S9 b):=by rw[h]
namespace U
def zZ(b:Int):Int×Int×Int:=
 if 194<=b/\b<=223 then (1,128,191)
 else if b=224 then (2,160,191)
 else if b=237 then (2,128,159)
 else if 225<=b/\b<=239 then (2,128,191)
 else if b=240 then (3,144,191)
 else if 241<=b/\b<=243 then (3,128,191)
 else if b=244 then (3,128,143)
 else (0,0,0)
def letters(l:List UInt8):Bool:=l.all λc=>decide (97<=c.toNat/\c.toNat<=122)
def ql(s:BY):Bool:=decide (1<=s.size/\s.size<=12)&&letters s.data.toList
theorem aa(s:BY)(k:Nat)(h:k<s.size):s.data.toList.take (k+1)=s.data.toList.take k++[s[k]]:=by
 rw[Q9 (by simpa using h)];rfl
theorem Ci(l:List UInt8)(c:UInt8):letters (l++[c])=(letters l&&decide (97<=c.toNat/\c.toNat<=122)):=by
 simp[letters]
theorem zan(s:BY)(k:Nat)(h:k<s.size)(a:¬(97<=s[k].toNat/\s[k].toNat<=122)):letters s.data.toList=false:=by
 have e:letters (s.data.toList.take (k+1))=false:=by rw[aa s k h,Ci];simp[a]
 have:=VK (k+1) s.data.toList
 rw[<- this];unfold letters at *;rw[VE,e];rfl
theorem TB(s:BY)(k:Nat)(h:k<s.size)(a:(s[k].toNat:Int)<97\/122<(s[k].toNat:Int)):ql s=false:=by
 unfold ql;rw[zan s k h (by omega)];simp
theorem zam(s:BY)(k:Nat)(h:k<s.size)(a:letters (s.data.toList.take k)=true)(b:97<=(s[k].toNat:Int))(c:(s[k].toNat:Int)<=122):letters (s.data.toList.take (k+1))=true:=by
 rw[aa s k h,Ci,a];simp;omega
theorem TC(s:BY)(k:Nat)(h:¬k<s.size)(d:k<=s.size)(b:1<=s.size)(c:s.size<=12)(a:letters (s.data.toList.take k)=true):ql s=true:=by
 unfold ql;rw[uA (by simp;omega)]at a;rw[a];simp;omega
theorem Kw(s:BY)(h:¬(1<=s.size/\s.size<=12)):ql s=false:=by
 unfold ql;simp[h]
theorem mF(b:Int):0<=(zZ b).1/\(zZ b).1<=3/\0<=(zZ b).2.1/\(zZ b).2.1<=255/\0<=(zZ b).2.2/\(zZ b).2.2<=255:=by
 generalize a:zZ b=r;unfold zZ at a
 (repeat' split at a)<;>subst a<;>simp
def vD(l:List UInt8)(b a:Int)(n:Nat):Bool:=
 (List.range n).all λj=>if j=0 then decide (b<=((l.getD 1 0).toNat:Int)/\((l.getD 1 0).toNat:Int)<=a) else decide (128<=(l.getD (j+1) 0).toNat/\(l.getD (j+1) 0).toNat<=191)
def xP(l:List UInt8):Nat:=
 if l.length=0 then 0
 else if (l.getD 0 0).toNat<128 then 1
 else if (zZ (l.getD 0 0).toNat).1=0 then 0
 else if (l.length:Int)<(zZ (l.getD 0 0).toNat).1+1 then 0
 else if vD l (zZ (l.getD 0 0).toNat).2.1 (zZ (l.getD 0 0).toNat).2.2 (zZ (l.getD 0 0).toNat).1.toNat then (zZ (l.getD 0 0).toNat).1.toNat+1 else 0
theorem bQ(l:List UInt8)(b a:Int)(n:Nat):vD l b a (n+1)=(vD l b a n&&if n=0 then decide (b<=((l.getD 1 0).toNat:Int)/\((l.getD 1 0).toNat:Int)<=a) else decide (128<=(l.getD (n+1) 0).toNat/\(l.getD (n+1) 0).toNat<=191)):=by
 unfold vD;rw[VJ,VE];simp
theorem Nq(l:List UInt8)(b a:Int)(n k:Nat)(h:vD l b a k=false):vD l b a (k+n)=false:=by
 induction n with
 | zero=>exact h
 | succ n c=>rw[<- JV,bQ,c];rfl
theorem ig(c:UInt8):(c.toNat:Int)<=255:=by have:=c.toNat_lt;omega
theorem b0(c:UInt8):(0:Int)<=c.toNat:=by omega
theorem zF(s:BY):s.data.toList.length=s.size:=by simp
theorem getD_at(s:BY)(k:Nat)(h:k<s.size):s.data.toList.getD k 0=s[k]:=by
 rw[zT,zn (by simpa using h)];rfl
def qp(s:BY):BY:=s.extract 0 (if xP s.data.toList=0 then 1 else xP s.data.toList)
def uJ(s:BY):Bool:=xP s.data.toList != 0
theorem wu(s:BY)(k:Nat)(h:xP s.data.toList=k):qp s=s.extract 0 (if k=0 then 1 else k)/\uJ s=(k != 0):=by
 unfold qp uJ;rw[h];exact⟨rfl,rfl⟩
theorem LZ(s:BY)(a:0<s.size)(h:(s[0].toNat:Int)<128):xP s.data.toList=1:=by
 unfold xP;rw[za (by rw[zF];omega),getD_at s 0 a,N9]
theorem Md(s:BY)(b:0<s.size)(d a:Int)(c:zZ (s[0].toNat:Int)=(0,d,a))(h:¬(s[0].toNat:Int)<128):xP s.data.toList=0:=by
 unfold xP;rw[za (by rw[zF];omega),getD_at s 0 b,N8,c,zb rfl]
theorem Me(s:BY)(d:0<s.size)(n f a:Int)(e:zZ (s[0].toNat:Int)=(n,f,a))(h:¬(s[0].toNat:Int)<128)(c:n≠0)(b:(s.size:Int)<n+1):xP s.data.toList=0:=by
 unfold xP;rw[za (by rw[zF];omega),getD_at s 0 d,N8,e,za c,zb (by simpa using b)]
theorem tY(s:BY)(e:0<s.size)(n b a:Int)(f:zZ (s[0].toNat:Int)=(n,b,a))(h:¬(s[0].toNat:Int)<128)(d:n≠0)(c:¬(s.size:Int)<n+1):xP s.data.toList=if vD s.data.toList b a n.toNat then n.toNat+1 else 0:=by
 unfold xP;rw[za (by rw[zF];omega),getD_at s 0 e,N8,f,za d,za (by simpa using c)]
theorem VY(s:BY)(k:Nat)(h:xP s.data.toList=k)(t:BY)(b:Bool)(c:t=s.extract 0 (if k=0 then 1 else k))(a:b=(k != 0)):Ending.returned (.tuple #[S9 t,.bool b])=.returned (.tuple #[S9 (qp s),.bool (uJ s)]):=by
 rw[(wu s k h).1,(wu s k h).2,c,a]
def Yb(a:Int)(k:Nat):Int:=if k=1 then a else 128
def X9(a:Int)(k:Nat):Int:=if k=1 then a else 191
theorem wU(s:BY)(b a:Int)(k:Nat)(d:1<=k)(c:k<s.size)(h:vD s.data.toList b a (k-1)=true):vD s.data.toList b a k=decide (Yb b k<=(s[k].toNat:Int)/\(s[k].toNat:Int)<=X9 a k):=by
 obtain⟨j,rfl⟩:∃j,k=j+1:=⟨k-1,by omega⟩;simp only[VM]at h;rw[bQ,h,getD_at s (j+1) c];unfold Yb X9
 by_cases hj:j=0
 ·subst hj;rw[getD_at s 1 c];simp
 rw[za hj,N8,N8,jY,Ki];omega
theorem tX(s:BY)(o:0<s.size)(n b a:Int)(p:zZ (s[0].toNat:Int)=(n,b,a))(h:¬(s[0].toNat:Int)<128)(m:n≠0)(l:¬(s.size:Int)<n+1)
  (k:Nat)(f:1<=k)(i:k<s.size)(j:(k:Int)<=n)(g:vD s.data.toList b a (k-1)=true)(q:(s[k].toNat:Int)<Yb b k\/X9 a k<(s[k].toNat:Int)):xP s.data.toList=0:=by
 have e:=wU s b a k f i g;have d:vD s.data.toList b a k=false:=by rw[e,iU];omega
 have c:=Nq s.data.toList b a (n.toNat-k) k d;rw[show k+(n.toNat-k)=n.toNat by omega]at c;rw[tY s o n b a p h m l,c];rfl
theorem Np(s:BY)(b a:Int)(k:Nat)(c:1<=k)(f:k<s.size)(h:vD s.data.toList b a (k-1)=true)(d:Yb b k<=(s[k].toNat:Int))(e:(s[k].toNat:Int)<=X9 a k):vD s.data.toList b a (k+1-1)=true:=by
 rw[VM,wU s b a k c f h,vJ];exact⟨d,e⟩
theorem Ma(s:BY)(i:0<s.size)(n b a:Int)(j:zZ (s[0].toNat:Int)=(n,b,a))(h:¬(s[0].toNat:Int)<128)(g:n≠0)(f:¬(s.size:Int)<n+1)
  (k:Nat)(l:1<=k)(e:¬(k:Int)<=n)(d:(k:Int)<=n+1)(c:vD s.data.toList b a (k-1)=true):xP s.data.toList=k:=by
 rw[show k-1=n.toNat by omega]at c;rw[tY s i n b a j h g f,zb c];omega
theorem zay(a:Int)(k:Nat)(h:1<=k):Yb a (k+1)=128:=by unfold Yb;rw[N8]
theorem Sy(a:Int)(k:Nat)(h:1<=k):X9 a (k+1)=191:=by unfold X9;rw[N8]
def yB(s:BY):Nat:=2+(s.data.toList.drop 2).findIdx (λc=>c.toNat==125)
theorem Al(s:BY)(k:Nat)(a:2<=k)(b:k<s.size):∃h:k-2<(s.data.toList.drop 2).length,(s.data.toList.drop 2)[k-2]=s[k]:=by
 have h:k-2<(s.data.toList.drop 2).length:=by rw[ve,zF];omega
 refine⟨h,?_⟩;rw[gz];have e:2+(k-2)=k:=by omega
 simp only[e];rfl
theorem wC(s:BY)(k:Nat)(a:2<=k)(d:k<s.size)(f:k<=yB s)(h:(s[k].toNat:Int)=125):yB s=k:=by
 obtain⟨g,e⟩:=Al s k a d;unfold yB at *
 have:(s.data.toList.drop 2).findIdx (λc=>c.toNat==125)<=k-2:=by
  apply Nat.le_of_not_lt;intro b
  have:=List.not_of_lt_findIdx b
  rw[e]at this;simp at this;omega
 omega
theorem ME(s:BY)(k:Nat)(b:2<=k)(f:k<s.size)(g:k<=yB s)(h:(s[k].toNat:Int)≠125):k+1<=yB s:=by
 obtain⟨i,e⟩:=Al s k b f;unfold yB at *
 have:(s.data.toList.drop 2).findIdx (λc=>c.toNat==125)≠k-2:=by
  intro d;have a:(s.data.toList.drop 2).findIdx (λc=>c.toNat==125)<(s.data.toList.drop 2).length:=by omega
  have:=List.findIdx_getElem (w:=a)
  simp only[d,e]at this;simp at this;omega
 omega
theorem MC(s:BY)(k:Nat)(b:2<=k)(e:¬k<s.size)(a:k<=s.size)(d:k<=yB s):yB s=s.size:=by
 unfold yB at *
 have:=List.findIdx_le_length (xs:=s.data.toList.drop 2) (p:=λc=>c.toNat==125)
 rw[ve,zF]at this;omega
def x9(s:BY):Int×BY×Nat:=
 if s.size<2 then (0,⟨#[]⟩,0)
 else if (s.data.toList.getD 1 0).toNat=36\/(s.data.toList.getD 1 0).toNat=42\/(s.data.toList.getD 1 0).toNat=63 then (1,s.extract 1 2,2)
 else if (s.data.toList.getD 1 0).toNat=123 then
  if yB s<s.size then (if ql (s.extract 2 (yB s)) then (4,s.extract 2 (yB s),yB s+1) else (0,⟨#[]⟩,0)) else (0,⟨#[]⟩,0)
 else (0,⟨#[]⟩,0)
end U
end Go.Proofs.YtfjpcldndaiifaaGreatDoor
namespace Go.Proofs.YtfjpcldndaiifaaGreatDoor
open Go.RowKit
theorem zac(b:Int)(w:J)(d:0<=b)(f:b<=255):R8 145 #[.int .u8 b] w λe c=>e=.returned (.tuple #[R9 (U.zZ b).1,.int .u8 (U.zZ b).2.1,.int .u8 (U.zZ b).2.2])/\c=w:=by
 go_enter func145,ntmps145;go_wp2
 all_goals
  go_ret3;refine⟨?_,rfl⟩;simp only[vC,qY,ne_eq]at *;generalize a:U.zZ b=r;unfold U.zZ at a
  (repeat' split at a)<;>subst a<;>first|rfl|(exfalso;omega)
theorem dx(s:BY)(w:J)(j:s.size<=maxLen):R8 70 #[S9 s] w λe l=>e=.returned (.bool (U.ql s))/\l=w:=by
 unfold maxLen at j
 by_cases hsz:1<=s.size/\s.size<=12
 ·obtain⟨b,c⟩:=hsz;have g:decide ((s.size:Int)<1)=false:=by simp;omega
  have h:decide (12<(s.size:Int))=false:=by simp;omega
  go_enter func70,ntmps70;go_wp2
  go_loop [3] (λi=>∃k:Nat,k<=s.size/\i=R9 k/\U.letters (s.data.toList.take k)=true) (λi=>s.size-(intOf i).toNat)
  case atStart=>exact⟨0,zD _,rfl,rfl⟩
  case round=>
   obtain⟨k,f,rfl,a⟩:=hrel;have d:G6 (U.letters (s.data.toList.take k)=true):=a;clear a
   by_cases hlt:k<s.size
   ·go_wp2
    all_goals first
     | (go_ret;exact⟨Z4 (U.TB s k hlt (by omega)).symm,rfl⟩)
     | exact⟨⟨k+1,by omega,by go_num,U.zam s k hlt d (by omega) (by omega)⟩,by simp[intOf];omega⟩
   go_wp2;go_ret;exact⟨Z4 (U.TC s k hlt f b c d).symm,rfl⟩
 go_enter func70,ntmps70;go_wp2
 all_goals first
  | (exfalso;omega)
  | (go_ret;exact⟨Z4 (U.Kw s hsz).symm,rfl⟩)
theorem mG(b n c a:Int)(w:J)(d:0<=b)(f:b<=255)(g:U.zZ b=(n,c,a)):R8 145 #[.int .u8 b] w λe i=>e=.returned (.tuple #[R9 n,.int .u8 c,.int .u8 a])/\i=w:=by
 have h:=zac b w d f;rw[g]at h;exact h
theorem Mh(s:BY)(w:J)(x:s.size<=maxLen)(h:0<s.size):R8 92 #[S9 s] w λe r=>
   e=.returned (.tuple #[S9 (U.qp s),.bool (U.uJ s)])/\r=w:=by
 unfold maxLen at x;obtain⟨n,b,a,q⟩:∃n b a,U.zZ (s[0].toNat:Int)=(n,b,a):=⟨_,_,_,rfl⟩;have d:=U.mF (s[0].toNat:Int);rw[q]at d;simp only at d;obtain⟨C,D,A,B,y,z⟩:=d;have g:G6 (U.zZ (s[0].toNat:Int)=(n,b,a)):=q;clear q;go_enter func92,ntmps92;go_wp2_with(go_at_call 145;apply(mG _ n b a _ (U.b0 _) (U.ig _) g).mono;rintro e r⟨rfl,rfl⟩)
 all_goals try (go_loop [5,6,7] (λlow l i=>∃k:Nat,1<=k/\(k:Int)<=n+1/\i=R9 k/\low=.int .u8 (U.Yb b k)/\l=.int .u8 (U.X9 a k)/\U.vD s.data.toList b a (k-1)=true) (λ_ _ i=>(n+1).toNat-(intOf i).toNat))
 ·go_ret2;exact⟨U.VY s 1 (U.LZ s h (by assumption)) _ _ rfl rfl,rfl⟩
 ·go_ret2;have o:n=0:=by assumption
  subst o;exact⟨U.VY s 0 (U.Md s h b a g (by omega)) _ _ rfl rfl,rfl⟩
 ·go_ret2;have p:(n==0)=true\/(s.size:Int)<n+1:=by assumption
  simp only[vC]at p;exact⟨U.VY s 0 (U.Me s h n b a g (by omega) (by omega) (by omega)) _ _ rfl rfl,rfl⟩
 case atStart=>exact⟨1,by omega,by omega,rfl,rfl,rfl,rfl⟩
 case round=>
  obtain⟨k,c,u,rfl,rfl,rfl,j⟩:=hrel;have m:G6 (U.vD s.data.toList b a (k-1)=true):=j;clear j
  by_cases hlt:(k:Int)<=n
  ·have f:k<s.size:=by omega
   have v:0<=U.Yb b k/\U.Yb b k<=255:=by unfold U.Yb;split<;>omega
   have t:0<=U.X9 a k/\U.X9 a k<=255:=by unfold U.X9;split<;>omega
   go_wp2
   ·go_ret2;exact⟨U.VY s 0 (U.tX s h n b a g (by omega) (by omega) (by omega) k c f hlt m (by omega)) _ _ rfl rfl,rfl⟩
   ·go_round
    case rel=>exact⟨_,_,_,_,_,⟨k+1,by omega,by omega,by go_num,by rw[U.zay b k c],by rw[U.Sy a k c],U.Np s b a k c f m (by omega) (by omega)⟩,rfl,rfl,rfl,rfl,rfl⟩
    case measure=>simp[intOf];omega
   go_ret2;exact⟨U.VY s 0 (U.tX s h n b a g (by omega) (by omega) (by omega) k c f hlt m (by omega)) _ _ rfl rfl,rfl⟩
  go_wp2;go_ret2;exact⟨U.VY s k (U.Ma s h _ b a g (by omega) (by omega) (by omega) k c (by omega) (by omega) m) _ _ (by rw[N8,show (n+1).toNat=k by omega]) (by rw[show (k != 0)=true by simp;omega]),rfl⟩
namespace U
theorem OA(s:BY)(a:1<s.size)(h:(s[1].toNat:Int)=36\/(s[1].toNat:Int)=42\/(s[1].toNat:Int)=63):x9 s=(1,s.extract 1 2,2):=by
 unfold x9;rw[N8,getD_at s 1 a,N9]
theorem OE(s:BY)(a:s.size<2):x9 s=(0,⟨#[]⟩,0):=by
 unfold x9;rw[zb a]
theorem OD(s:BY)(a:1<s.size)(h:(s[1].toNat:Int)≠36/\(s[1].toNat:Int)≠42/\(s[1].toNat:Int)≠63/\(s[1].toNat:Int)≠123):x9 s=(0,⟨#[]⟩,0):=by
 unfold x9;rw[N8,getD_at s 1 a,N8,N8]
theorem Ai(s:BY)(a:1<s.size)(h:(s[1].toNat:Int)=123)(k:Nat)(e:k<s.size)(d:yB s=k)(b:Bool)(c:ql (s.extract 2 k)=b):x9 s=if b then (4,s.extract 2 k,k+1) else (0,⟨#[]⟩,0):=by
 unfold x9;rw[N8,getD_at s 1 a,N8,N9,d,zb e,c]
theorem OC(s:BY)(a:1<s.size)(h:(s[1].toNat:Int)=123)(b:yB s=s.size):x9 s=(0,⟨#[]⟩,0):=by
 unfold x9;rw[N8,getD_at s 1 a,N8,N9,b,N8]
theorem Us(s:BY)(k:Int)(t:BY)(n:Nat)(v:Y)(h:x9 s=(k,t,n))(a:v=R9 (n:Int)):Ending.returned (.tuple #[.agg #[R9 k,S9 t],v])=.returned (.tuple #[.agg #[R9 (x9 s).1,S9 (x9 s).2.1],R9 ((x9 s).2.2:Nat)]):=by
 rw[h,a]
end U
theorem OG(s:BY)(w:J)(n:s.size<=maxLen):R8 93 #[S9 s] w λe j=>
   e=.returned (.tuple #[.agg #[R9 (U.x9 s).1,S9 (U.x9 s).2.1],R9 ((U.x9 s).2.2:Nat)])/\BQ w j:=by
 unfold maxLen at n
 by_cases h2:2<=s.size
 ·have m:decide ((s.size:Int)<2)=false:=by simp;omega
  go_enter func93,ntmps93;go_wp2
  rotate_left 3
  ·go_loop [4] (λi=>∃k:Nat,2<=k/\k<=s.size/\i=R9 k/\k<=U.yB s) (λi=>s.size-(intOf i).toNat)
   case atStart=>exact⟨2,by omega,by omega,rfl,by unfold U.yB;omega⟩
   case round=>
    obtain⟨k,b,h,rfl,g⟩:=hrel;have a:G6 (k<=U.yB s):=g;clear g
    by_cases hlt:k<s.size
    ·go_wp2_with(go_at_call 70;refine(dx (s.extract 2 k) _ ?_).mono ?_;(simp[maxLen];omega);rintro e j⟨rfl,rfl⟩)
     ·have c:((s[1]'(by omega)).toNat:Int)=123:=by apply Xn;assumption
      have f:(s[k].toNat:Int)=125:=by apply Xn;assumption
      have d:=U.Ai s (by omega) c k hlt (U.wC s k b hlt a f) true (by assumption);exact zG (v := .tuple #[.agg #[R9 4,S9 (s.extract 2 k)],R9 ((k:Int)+1)]) (by simp[results,results93,go_sem]) rfl ⟨U.Us s _ _ (k+1) _ d (by go_num),nbl _ _⟩
     ·have c:((s[1]'(by omega)).toNat:Int)=123:=by apply Xn;assumption
      have f:(s[k].toNat:Int)=125:=by apply Xn;assumption
      have d:=U.Ai s (by omega) c k hlt (U.wC s k b hlt a f) false (by assumption);exact zG (v := .tuple #[.agg #[R9 0,R5],R9 0]) (by simp[results,results93,go_sem]) rfl ⟨U.Us s _ _ 0 _ d rfl,nbl _ _⟩
     have f:(s[k].toNat:Int)≠125:=by apply ne_of_beq_false;assumption
     exact⟨⟨k+1,by omega,by omega,by go_num,U.ME s k b hlt a f⟩,by simp[intOf];omega⟩
    have c:((s[1]'(by omega)).toNat:Int)=123:=by apply Xn;assumption
    have d:=U.OC s (by omega) c (U.MC s k b hlt h a);have l:G6 (U.x9 s=(0,⟨#[]⟩,0)):=d;clear d c;go_wp2;exact zG (v := .tuple #[.agg #[R9 0,R5],R9 0]) (by simp[results,results93,go_sem]) rfl ⟨U.Us s _ _ 0 _ l rfl,nbl _ _⟩
  all_goals simp only[vC,qY,ne_eq]at *
  ·exact zG (v := .tuple #[.agg #[R9 0,R5],R9 0]) (by simp[results,results93,go_sem]) rfl ⟨U.Us s _ _ 0 _ (U.OD s (by omega) (by omega)) rfl,nbl _ _⟩
  all_goals
   exact zG (v := .tuple #[.agg #[R9 1,S9 (s.extract 1 2)],R9 2]) (by simp[results,results93,go_sem]) rfl ⟨U.Us s _ _ 2 _ (U.OA s (by omega) (by omega)) rfl,nbl _ _⟩
 go_enter func93,ntmps93;go_wp2;exact zG (v := .tuple #[.agg #[R9 0,R5],R9 0]) (by simp[results,results93,go_sem]) rfl ⟨U.Us s _ _ 0 _ (U.OE s (by omega)) rfl,nbl _ _⟩
namespace U
def xG(s:BY):Option (Int×BY×Nat):=
 if uJ s=false then none
 else if (qp s).toList==[42] then some (3,qp s,(qp s).size)
 else if (qp s).toList==[63] then some (2,qp s,(qp s).size)
 else if (qp s).toList==[36] then (if (x9 s).2.2=0 then none else some (x9 s))
 else some (1,qp s,(qp s).size)
def jT:Nat->BY->Option (List (Int×BY))
 | 0,_=>none
 | f+1,s=>if s.size=0 then some [] else match xG s with
  | none=>none
  | some (k,t,n)=>(jT f (s.extract n s.size)).map λr=>(k,t)::r
def parts(s:BY):Option (List (Int×BY)):=if 60<s.size then none else jT (s.size+1) s
def xg(l:List (Int×BY)):List Y:=l.flatMap λp=>[R9 p.1,S9 p.2]
theorem Jz(l:List (Int×BY))(k:Int)(t:BY):xg (l++[(k,t)])=xg l++[R9 k,S9 t]:=by
 simp[xg]
theorem Mc(s:BY):xP s.data.toList<=s.size:=by
 unfold xP;rw[zF];split
 ·omega
 split
 ·omega
 split
 ·omega
 split
 ·omega
 split
 ·have:=mF ((s.data.toList.getD 0 0).toNat:Int);omega
 omega
theorem Jg(s:BY)(a:0<s.size):1<=(qp s).size/\(qp s).size<=s.size:=by
 have h:=Mc s;unfold qp;rw[yM];split<;>omega
theorem Aj(s:BY):(x9 s).2.2<=s.size:=by
 unfold x9;split
 ·simp
 split
 ·simp;omega
 split
 ·split
  ·split
   ·simp;omega
   simp
  simp
 simp
theorem nD(s:BY)(c:0<s.size)(k:Int)(t:BY)(n:Nat)(h:xG s=some (k,t,n)):1<=n/\n<=s.size:=by
 have d:=Jg s c;have a:=Aj s;unfold xG at h;split at h
 ·simp at h
 split at h
 ·simp at h;omega
 split at h
 ·simp at h;omega
 split at h
 ·split at h
  ·simp at h
  simp at h;rw[h]at a;simp at a;rename_i b;rw[h]at b;simp at b;omega
 simp at h;omega
theorem KU(P:Option (List (Int×BY)))(f:Nat)(t:BY)(done:List (Int×BY))(c:0<t.size)(d:t.size<f)(h:P=(jT f t).map λr=>done++r)
  (k:Int)(u:BY)(n:Nat)(b:xG t=some (k,u,n)):∃a,(t.extract n t.size).size<a/\P=(jT a (t.extract n t.size)).map λr=>(done++[(k,u)])++r:=by
 obtain⟨g,rfl⟩:∃g,f=g+1:=⟨f-1,by omega⟩;have e:=nD t c k u n b;refine⟨g,by rw[yM];omega,?_⟩;rw[h,jT,N8,b];simp[Option.map_map,Function.comp_def]
theorem nI(P:Option (List (Int×BY)))(f:Nat)(t:BY)(done:List (Int×BY))(c:0<t.size)(b:t.size<f)(h:P=(jT f t).map λr=>done++r)
  (a:xG t=none):P=none:=by
 obtain⟨g,rfl⟩:∃g,f=g+1:=⟨f-1,by omega⟩;rw[h,jT,N8,a];rfl
theorem El(P:Option (List (Int×BY)))(f:Nat)(t:BY)(done:List (Int×BY))(b:¬0<t.size)(a:t.size<f)(h:P=(jT f t).map λr=>done++r):P=some done:=by
 obtain⟨g,rfl⟩:∃g,f=g+1:=⟨f-1,by omega⟩;rw[h,jT,N9];simp
def Vu:Y->Nat
 | .string b=>b.size
 | _=>0
end U
theorem ownsRow_below{w w':J}{base:Nat}{e:TypeId}{size:Nat}{v:Y}{n:Nat}{xs:List Y}(h:w.ownsRow base e size v n xs)(c:BQ w w'):w'.ownsRow base e size v n xs:=by
 obtain⟨b,a⟩:=h;refine⟨b,?_⟩
 rcases a with a|⟨g,cap,cur,hv,hg,hh,h3⟩
 ·exact .inl a
 exact .inr ⟨g,cap,cur,hv,hg,by rw[c.block g (zt hh)];exact hh,h3⟩
theorem YF(g j:Nat):((G8 g 0):Addr).add j=G8 g j:=by
 by_cases h:j=0
 ·subst h;simp[Addr.add]
 simp[Addr.add,h]
theorem xS{w:J}{base a:Nat}{e:TypeId}{size:Nat}{v:Y}{n:Nat}{xs:List Y}(h:w.ownsRow base e size v n xs)(d:a<=base):w.ownsRow a e size v n xs:=by
 obtain⟨c,b⟩:=h;refine⟨c,?_⟩
 rcases b with b|⟨g,cap,cur,hv,hg,hh⟩
 ·exact .inl b
 exact .inr ⟨g,cap,cur,hv,by omega,hh⟩
theorem Xe{w w':J}(h:Below w.drew.heap.size w.drew w'):BQ w w':=⟨h.os,h.tape,h.output,h.size,h.block⟩
theorem sW{w wr w1:J}{B:Nat}{e:TypeId}{size:Nat}{v:Y}{n:Nat}{xs:List Y}(b:BQ w wr)(c:wr.ownsRow B e size v n xs)(f:w.heap.size<=B)(a:Obj)
  (g:(wr.alloc a).grownBy w1 v.ownBlock):BQ w w1:=by
 have d:=b.size;exact(b.alloc d a).grown g (by simp;omega) (λk h=>xD f (c.lt k h).1)
theorem Zn(w:J)(a b:Obj):((w.alloc a).alloc b).heap[w.heap.size]?=some a/\((w.alloc a).alloc b).heap[w.heap.size+1]?=some b:=by
 refine⟨?_,?_⟩
 ·rw[Qz (w.alloc a) b w.heap.size (by simp)];exact zA w a
 have:=zA (w.alloc a) b
 simpa using this
theorem zg{w:J}{b:Nat}{cs:Array Y}{t:TypeId}(h:w.heap[b]?=some (.cells cs t (0,0)))(o:Nat):w.cell? (G8 b o)=cs[o]?/\w.frozen? (G8 b o)=false:=by
 simp[World.cell?,World.frozen?,h]
theorem LP(w:J)(a b c d:Y)(t:TypeId):∀j u,[a,b,c,d][j]?=some u->(w.alloc (L8 #[a,b,c,d] t)).cell? (((R6 w 0):Addr).add j)=some u:=by
 intro j u h;rw[YF]
 match j,h with
 | 0,h=>simp at h;subst h;simp
 | 1,h=>simp at h;subst h;simp
 | 2,h=>simp at h;subst h;simp
 | 3,h=>simp at h;subst h;simp
theorem addr_add(b o j:Nat):((G8 b o):Addr).add j=(G8 b (o+j)):=by
 by_cases h:j=0
 ·subst h;simp[Addr.add]
 simp[Addr.add,h]
theorem Ql(w:J)(b o d g:Nat)(u:Y)(h:¬(b=d/\o=g)):(w.setCell (G8 b o) u).cell? (G8 d g)=w.cell? (G8 d g):=by
 by_cases hb:b=d
 ·subst hb;unfold World.cell? World.setCell;simp only[ax,qJ]
  cases w.heap[b]? with
  | none=>rfl
  | some i=>
   cases i with
   | cells c t f=>simp[Array.getElem?_setIfInBounds];intro j;omega
   | _=>rfl
 exact Xd (w:=w) (a:=G8 d g) (qy w (G8 b o) u d (λe=>hb e.symm))
theorem V8(w:J)(p:Addr)(u:Y)(q:Addr):(w.setCell p u).frozen? q=w.frozen? q:=by
 unfold World.frozen? World.setCell
 by_cases hb:p.block=q.block
 ·rw[hb];simp only[ax,qJ]
  cases w.heap[q.block]? with
  | none=>rfl
  | some a=>cases a<;>rfl
 simp only[ax,za hb]
theorem Jh(s c:BY)(b:Bool)(w:J)(g:s.size<=maxLen)(f:0<s.size)(d:U.qp s=c)(a:U.uJ s=b):R8 92 #[S9 s] w λe i=>e=.returned (.tuple #[S9 c,.bool b])/\i=w:=by
 have h:=Mh s w g f;rw[d,a]at h;exact h
theorem Ak(s t:BY)(k:Int)(n:Nat)(w:J)(b:s.size<=maxLen)(a:U.x9 s=(k,t,n)):R8 93 #[S9 s] w (G5 (.tuple #[.agg #[R9 k,S9 t],R9 (n:Nat)]) w):=by
 have h:=OG s w b;rw[a]at h;exact h
theorem Tryz.infoPart:(prog.info? 202).map (λi=>(i.zero,i.size,i.bytes))=some (some (.agg #[R9 0,R5]),2,24):=by kernel_rfl
theorem Uq(k:Int)(c:BY):∀u ∈ [Value.int .i64 k,Value.string c],u.oneCell'=true:=by
 intro u a;simp at a;rcases a with rfl|rfl<;>rfl
theorem qP{W w1:J}(a:BQ W w1):(∀b o,b<W.heap.size->w1.cell? (G8 b o)=W.cell? (G8 b o))/\(∀b o,b<W.heap.size->w1.frozen? (G8 b o)=W.frozen? (G8 b o)):=
 ⟨λb o h=>a.cell (p:=G8 b o) h,λb o h=>a.frozen (p:=G8 b o) h⟩
theorem J7(w:J)(o:Obj)(a b:Y)(t:TypeId)(k:Nat)(c:k=(w.alloc o).heap.size):∀j u,[a,b][j]?=some u->((w.alloc o).alloc (L8 #[a,b] t)).cell? (((G8 k 0):Addr).add j)=some u:=by
 subst c;exact cell_two_new _ _ _ _
theorem LV(w:J)(a b:Y)(t:TypeId)(k:Nat)(c:k=w.heap.size):∀j u,[a,b][j]?=some u->(w.alloc (L8 #[a,b] t)).cell? (((G8 k 0):Addr).add j)=some u:=by
 subst c;exact cell_two_new _ _ _ _
theorem bI{wr b:J}(O:Obj)(a:Below (wr.alloc O).heap.size (wr.alloc O) b)(x y:Y):BQ wr ((b.setCell (R6 wr 0) x).setCell (R6 wr 1) y):=
 (((nbl wr O).trans (a.mono (by simp))).setCell F7 x).setCell F7 y
theorem sV{w wr w1:J}{e:TypeId}{size:Nat}{v:Y}{n:Nat}{xs:List Y}(b:BQ w wr)(c:wr.ownsRow w.heap.size e size v n xs)(a:Obj)
  (f:(wr.alloc a).grownBy w1 v.ownBlock):BQ w w1:=by
 have d:=b.size;exact(b.alloc d a).grown f (by simp;omega) (λk g=>(c.lt k g).1)
theorem U6{w wr w1:J}{e:TypeId}{size:Nat}{v:Y}{n:Nat}{xs:List Y}(c:BQ w wr)(d:wr.ownsRow w.heap.size e size v n xs)(a b:Obj)
  (g:((wr.alloc a).alloc b).grownBy w1 v.ownBlock):BQ w w1:=by
 have f:=c.size;exact((c.alloc f a).alloc (by simp;omega) b).grown g (by simp;omega) (λk h=>(d.lt k h).1)
theorem dU(s:BY)(w:J)(hs:s.size<=60):R8 53 #[S9 s] w λe A=>∃v,e=.returned (.tuple #[v,.bool (U.parts s).isSome])/\BQ w A /\
   ((U.parts s).isSome=false->v=TL none 0 0)/\A.ownsRow w.heap.size 202 2 v ((U.parts s).getD []).length (U.xg ((U.parts s).getD [])):=by
 obtain⟨S,R,C,D,E⟩:=qU Tryz.infoPart;have a6:decide (60<(s.size:Int))=false:=by simp;omega
 have hP:U.parts s=(U.jT (s.size+1) s).map λr=>[]++r:=by unfold U.parts;rw[N8];simp
 generalize V:U.parts s=P at *;clear V;have HP:G6 (P=(U.jT (s.size+1) s).map λr=>[]++r):=hP;clear hP;go_enter func53,ntmps53;go_wp2
 go_loopw [0,4] (λX lv wr=>∃(t:BY) (f:Nat) (done:List (Int×BY)),X=S9 t/\done.length+t.size<=s.size/\t.size<f/\P=((U.jT f t).map λr=>done++r) /\
   wr.ownsRow w.heap.size 202 2 lv done.length (U.xg done)/\BQ w wr) (λX _ _=>U.Vu X)
 case atStart=>exact⟨s,s.size+1,[],rfl,by simp,by omega,HP,qF _ _ _ _,zf _ _⟩
 case round=>
  obtain⟨t,f,done,rfl,a4,H,L,d,j⟩:=hrel;have i:G6 (P=(U.jT f t).map λr=>done++r):=L;clear L HP;have Q:=j.size
  by_cases hp:0<t.size
  ·have W:=U.Jg t hp
   cases hok:U.uJ t with
   | false=>
    have z:G6 (U.uJ t=false):=hok;have o:=U.nI P f t done hp H i (by unfold U.xG;rw[zb hok]);subst o;clear hok;go_wp2_with(go_at_call 92;apply(Jh t _ false _ (by unfold maxLen;omega) hp rfl z).mono;rintro e A⟨rfl,rfl⟩);go_ret2;exact⟨_,rfl,j,λ_=>rfl,qF _ _ _ _⟩
   | true=>
    obtain⟨c,p⟩:=Nm (U.qp t);rw[p]at W
    by_cases c1:(c.toList==[42])=true
    ·have h:U.xG t=some (3,c,c.size):=by unfold U.xG;rw[za (by simp[hok]),p,zb c1]
     obtain⟨F,y,l⟩:=U.KU P f t done hp H i 3 c c.size h;have⟨q,B,z⟩:=M4 l p hok;clear l p hok h i
     go_wp2_with(first
      |(go_at_call 92;apply(Jh t c true _ (by unfold maxLen;omega) hp B z).mono;rintro e A⟨rfl,rfl⟩)
      | (at_builtin;refine yh _ rfl _ _ 117 rfl w.heap.size 202 S (.agg #[R9 0,R5]) 2 24 underlying117 R C D E rfl (by decide) _ _ _ rfl ((d.alloc _).alloc _) (G8 (A.heap.size+1) 0) 1 1 [R9 3,S9 c] rfl rfl ?_ ?_ ?_ ?_ ?_ ?_))
     ·exact J7 _ _ _ _ _ _ (by simp)
     ·exact Uq _ _
     ·unfold maxLen;omega
     ·omega
     ·simp;omega
     intro I K b a _;have x:=U6 j d _ _ a;have g:K.ownsRow w.heap.size 202 2 I (done++[((3:Int),c)]).length (U.xg (done++[((3:Int),c)])):=by rw[U.Jz,qE];exact b
     clear b a d;go_wp2;go_roundw
     case rel=>exact⟨_,F,_,rfl,by simp;omega,y,q,g,x⟩
     case measure=>simp[U.Vu];omega
    rw[fK]at c1
    by_cases c2:(c.toList==[63])=true
    ·have h:U.xG t=some (2,c,c.size):=by unfold U.xG;rw[za (by simp[hok]),p,za (by simp[c1]),zb c2]
     obtain⟨F,y,l⟩:=U.KU P f t done hp H i 2 c c.size h;have⟨q,B,z⟩:=M4 l p hok;clear l p hok h i
     go_wp2_with(first
      |(go_at_call 92;apply(Jh t c true _ (by unfold maxLen;omega) hp B z).mono;rintro e A⟨rfl,rfl⟩)
      | (at_builtin;refine yh _ rfl _ _ 117 rfl w.heap.size 202 S (.agg #[R9 0,R5]) 2 24 underlying117 R C D E rfl (by decide) _ _ _ rfl ((d.alloc _).alloc _) (G8 (A.heap.size+1) 0) 1 1 [R9 2,S9 c] rfl rfl ?_ ?_ ?_ ?_ ?_ ?_))
     ·exact J7 _ _ _ _ _ _ (by simp)
     ·exact Uq _ _
     ·unfold maxLen;omega
     ·omega
     ·simp;omega
     intro I K b a _;have x:=U6 j d _ _ a;have g:K.ownsRow w.heap.size 202 2 I (done++[((2:Int),c)]).length (U.xg (done++[((2:Int),c)])):=by rw[U.Jz,qE];exact b
     clear b a d;go_wp2;go_roundw
     case rel=>exact⟨_,F,_,rfl,by simp;omega,y,q,g,x⟩
     case measure=>simp[U.Vu];omega
    rw[fK]at c2
    by_cases c3:(c.toList==[36])=true
    ·obtain⟨k,u,n,G⟩:∃k u n,U.x9 t=(k,u,n):=⟨_,_,_,rfl⟩;have N:=U.Aj t;rw[G]at N;simp only at N
     by_cases hn0:n=0
     ·subst hn0;have h:U.xG t=none:=by unfold U.xG;rw[za (by simp[hok]),p,za (by simp[c1]),za (by simp[c2]),zb c3,G,zb rfl]
      have o:=U.nI P f t done hp H i h;subst o;have⟨B,z,T⟩:=M4 p hok G;clear p hok h G i
      go_wp2_with(first
       |(go_at_call 92;apply(Jh t c true _ (by unfold maxLen;omega) hp B z).mono;rintro e A⟨rfl,rfl⟩)
       |(go_at_call 93;apply(Ak t u k 0 _ (by unfold maxLen;omega) T).mono;rintro e w2⟨rfl,m⟩;obtain⟨M,O⟩:=qP m;have hz:=m.size))
      go_ret2;exact⟨_,rfl,j.trans ((bI _ m _ _).mono Q),λ_=>rfl,qF _ _ _ _⟩
     have h:U.xG t=some (k,u,n):=by unfold U.xG;rw[za (by simp[hok]),p,za (by simp[c1]),za (by simp[c2]),zb c3,G,za hn0]
     obtain⟨F,y,l⟩:=U.KU P f t done hp H i k u n h;have⟨q,B,z,T⟩:=M5 l p hok G;have a5:((n:Int)==0)=false:=by simp;omega
     clear l p hok h G i
     go_wp2_with(first
      |(go_at_call 92;apply(Jh t c true _ (by unfold maxLen;omega) hp B z).mono;rintro e A⟨rfl,rfl⟩)
      |(go_at_call 93;apply(Ak t u k n _ (by unfold maxLen;omega) T).mono;rintro e w2⟨rfl,m⟩;obtain⟨M,O⟩:=qP m;have hz:=m.size)
      | (at_builtin;refine yh _ rfl _ _ 117 rfl w.heap.size 202 S (.agg #[R9 0,R5]) 2 24 underlying117 R C D E rfl (by decide) _ done.length (U.xg done) rfl ?_ (R6 w2 0) 1 1 [R9 k,S9 u] rfl rfl ?_ ?_ ?_ ?_ ?_ ?_))
     ·exact(ownsRow_below d (bI _ m _ _)).alloc _
     ·exact LV _ _ _ _ _ (by simp[World.setCell])
     ·exact Uq _ _
     ·unfold maxLen;omega
     ·omega
     ·have:=m.size;simp[World.setCell]at this |-;omega
     intro I K b a _;have x:=sV (j.trans ((bI _ m _ _).mono Q)) (ownsRow_below d (bI _ m _ _)) _ a;have g:K.ownsRow w.heap.size 202 2 I (done++[(k,u)]).length (U.xg (done++[(k,u)])):=by rw[U.Jz,qE];exact b
     clear b a d m M O hz;go_wp2;go_roundw
     case rel=>exact⟨_,F,_,rfl,by simp;omega,y,q,g,x⟩
     case measure=>simp[U.Vu];omega
    rw[fK]at c3;have h:U.xG t=some (1,c,c.size):=by unfold U.xG;rw[za (by simp[hok]),p,za (by simp[c1]),za (by simp[c2]),za (by simp[c3])]
    obtain⟨F,y,l⟩:=U.KU P f t done hp H i 1 c c.size h;have⟨q,B,z⟩:=M4 l p hok;clear l p hok h i
    go_wp2_with(first
     |(go_at_call 92;apply(Jh t c true _ (by unfold maxLen;omega) hp B z).mono;rintro e A⟨rfl,rfl⟩)
     | (at_builtin;refine yh _ rfl _ _ 117 rfl w.heap.size 202 S (.agg #[R9 0,R5]) 2 24 underlying117 R C D E rfl (by decide) _ _ _ rfl ((d.alloc _).alloc _) (G8 (A.heap.size+1) 0) 1 1 [R9 1,S9 c] rfl rfl ?_ ?_ ?_ ?_ ?_ ?_))
    ·exact J7 _ _ _ _ _ _ (by simp)
    ·exact Uq _ _
    ·unfold maxLen;omega
    ·omega
    ·simp;omega
    intro I K b a _;have x:=U6 j d _ _ a;have g:K.ownsRow w.heap.size 202 2 I (done++[((1:Int),c)]).length (U.xg (done++[((1:Int),c)])):=by rw[U.Jz,qE];exact b
    clear b a d;go_wp2;go_roundw
    case rel=>exact⟨_,F,_,rfl,by simp;omega,y,q,g,x⟩
    case measure=>simp[U.Vu];omega
  have o:=U.El P f t done hp H i;subst o;clear i;go_wp2;go_ret2;exact⟨_,rfl,j,by simp,d⟩
namespace U
def jP:Nat->BY->Option (List BY)
 | 0,_=>none
 | f+1,s=>if s.size=0 then some [] else if uJ s=false then none else (jP f (s.extract (qp s).size s.size)).map λr=>qp s::r
def chars(s:BY):Option (List BY):=jP (s.size+1) s
def strCells(l:List BY):List Y:=l.map Value.string
theorem Ga(l:List BY)(c:BY):strCells (l++[c])=strCells l++[S9 c]:=by simp[strCells]
theorem Mm(P:Option (List BY))(f:Nat)(t:BY)(done:List BY)(i:0<t.size)(j:t.size<f)(h:P=(jP f t).map λr=>done++r)
  (c:BY)(b:qp t=c)(e:uJ t=true):∃a,(t.extract c.size t.size).size<a/\P=(jP a (t.extract c.size t.size)).map λr=>(done++[c])++r:=by
 obtain⟨g,rfl⟩:∃g,f=g+1:=⟨f-1,by omega⟩;have d:=Jg t i;rw[b]at d;refine⟨g,by rw[yM];omega,?_⟩;rw[h,jP,N8,za (by simp[e]),b];simp[Option.map_map,Function.comp_def]
theorem Mo(P:Option (List BY))(f:Nat)(t:BY)(done:List BY)(c:0<t.size)(b:t.size<f)(h:P=(jP f t).map λr=>done++r)(a:uJ t=false):P=none:=by
 obtain⟨g,rfl⟩:∃g,f=g+1:=⟨f-1,by omega⟩;rw[h,jP,N8,zb a];rfl
theorem Ml(P:Option (List BY))(f:Nat)(t:BY)(done:List BY)(b:¬0<t.size)(a:t.size<f)(h:P=(jP f t).map λr=>done++r):P=some done:=by
 obtain⟨g,rfl⟩:∃g,f=g+1:=⟨f-1,by omega⟩;rw[h,jP,N9];simp
def xH(s:BY):Bool:=(chars s).isSome&&decide (s.size<=100)
end U
end Go.Proofs.YtfjpcldndaiifaaGreatDoor
