/- P -/
import Derived.Test.YtfjpcldndaiifaaGreatDoorA33
open Go.Proofs.Tryz
set_option maxRecDepth 100000
set_option maxHeartbeats 4000000
namespace Go.Proofs.YtfjpcldndaiifaaGreatDoor
open Go.RowKit
theorem zcU(d:BY)(w:J)(i:d.size<=maxLen):R8 25 #[S9 d] w (G5 (.tuple #[.int .i64 (Z.qC d).1,.int .i64 ((Z.qC d).2:Int)]) w):=by
 have c:=iX d w i;obtain⟨A,f⟩:=Nm (Z.qC d);obtain⟨S,h⟩:=Nm (Uy d);rw[f,h]at c;rw[f];obtain⟨a,b⟩:=A;simp only at c |-;have C:=G7 c;clear c f h;go_enter func25,ntmps25;go_wp2_with(go_at_call 37;apply C.o.mono;rintro e l⟨k,rfl,g,_⟩);go_ret2;exact⟨rfl,g⟩
theorem Ms(s:BY)(f:Addr)(w:J)(j:jL w f)(k:s.size<=maxLen):R8 8 #[S9 s] w (G5 (.bool true) w):=by
 have c1:=Mr s f w j;have c2:=λW=>zcU s W k;obtain⟨A,g⟩:=Nm (Z.qC s);simp only[g]at c1 c2;obtain⟨a,b⟩:=A;simp only at c1 c2;have⟨h,i⟩:=D5 c1 c2;have d1:(a==a)=true:=by simp
 have d2:((b:Int)==(b:Int))=true:=by simp
 clear c1 c2 g;go_enter func8,ntmps8
 go_wp2_with(first
  |(go_at_call 25;apply(i.o m).mono;rintro e n⟨rfl,d⟩)
  |(go_at_call 24;apply h.o.mono;rintro e m⟨rfl,c⟩))
 go_ret;exact⟨by simp,c.trans (d.mono c.size)⟩
theorem zea(z:J)(C:Addr)(H:jL z C)(L:Nat->Nat)(w:J)(A:Nat)(y r:Y)(k:List xK)(m:Nat)(h:xL z L w A y r k m)(j:vR k)(t:0<k.length)(a l:Int)(name b g d on:BY)(u:Option Addr)(x v:Nat)(I:b.size<=maxLen):R8 5 #[RG A 0,ut 7 a l name b g d on u x v] w (Xb z L w A k.length m):=by
 unfold ut;obtain⟨p,c⟩:=Nm (w.alloc (L8 #[R9 7,R9 a,R9 l,S9 name,S9 b,S9 g,S9 d,S9 on,TL u x v] 37));have q:BQ w p:=by rw[<- c];exact nbl w _
 have f:p.heap[w.heap.size]?=some (L8 #[R9 7,R9 a,R9 l,S9 name,S9 b,S9 g,S9 d,S9 on,TL u x v] 37):=by rw[<- c];exact zA w _
 have s:=h.below q;have K:=(zg f 0).1;have M:=(zg f 4).1;simp at K M;have E:=Ms b C p (H.below s.low) I;have⟨F,G,o,i,n⟩:=M6 E s q c j;clear E s q c j f h;go_enter func5,ntmps5
 go_upto_region 1 with fail
 rw[i.o];clear i;go_wp2_with(go_at_call 8;apply F.o.mono;rintro e N⟨rfl,D⟩;have B:=G7 D;clear D);go_ret;exact⟨L,_,_,_,m,rfl,(xw.of o.o).trans (xw.of B.o),G.o.below B.o,n.o,ze _,by omega,by omega,t⟩
theorem zej(z:J)(C:Addr)(H:jL z C)(L:Nat->Nat)(w:J)(A:Nat)(y r:Y)(k:List xK)(m:Nat)(h:xL z L w A y r k m)(j:vR k)(t:0<k.length)(a l:Int)(name b g d on:BY)(u:Option Addr)(x v:Nat)(I:b.size<=maxLen):R8 5 #[RG A 0,ut 8 a l name b g d on u x v] w (Xb z L w A k.length m):=by
 unfold ut;obtain⟨p,c⟩:=Nm (w.alloc (L8 #[R9 8,R9 a,R9 l,S9 name,S9 b,S9 g,S9 d,S9 on,TL u x v] 37));have q:BQ w p:=by rw[<- c];exact nbl w _
 have f:p.heap[w.heap.size]?=some (L8 #[R9 8,R9 a,R9 l,S9 name,S9 b,S9 g,S9 d,S9 on,TL u x v] 37):=by rw[<- c];exact zA w _
 have s:=h.below q;have K:=(zg f 0).1;have M:=(zg f 4).1;simp at K M;have E:=zcr b C p (H.below s.low) I;have⟨F,G,o,i,n⟩:=M6 E s q c j;clear E s q c j f h;go_enter func5,ntmps5
 go_upto_region 1 with fail
 rw[i.o];clear i;go_wp2_with(go_at_call 9;apply F.o.mono;rintro e N⟨rfl,D⟩;have B:=G7 D;clear D);go_ret;exact⟨L,_,_,_,m,rfl,(xw.of o.o).trans (xw.of B.o),G.o.below B.o,n.o,ze _,by omega,by omega,t⟩
namespace De
def ZW(c:UInt8):Prop:=48<=c.toNat/\c.toNat<=57
def rQ(n:Nat)(c:UInt8):Nat:=10*n+(c.toNat-48)
def ZY(n:Nat)(l:List UInt8):Nat:=l.foldl rQ n
def vZ(l:List UInt8):Nat:=ZY 0 l
theorem Uk(n:Nat)(c:UInt8)(l:List UInt8):ZY n (c::l)=ZY (10*n+(c.toNat-48)) l:=by simp only[ZY,List.foldl_cons,rQ]
theorem Dl:∀(a b:List UInt8) (n m:Nat),a.length=b.length->(∀c ∈ a,ZW c)->(∀c ∈ b,ZW c)->(ZY n a<ZY m b↔n<m\/(n=m/\Lib.compareBytes a b<0))
 | [],[],n,m,_,_,_=>by simp[ZY,Lib.compareBytes]
 | [],_::_,_,_,h,_,_=>by simp at h
 | _::_,[],_,_,h,_,_=>by simp at h
 | x::a,y::b,n,m,h,ha,hb=>by
  have i:=ha x (by simp);have j:=hb y (by simp);unfold ZW at i j;rw[Uk,Uk,Dl a b _ _ (by simpa using h) (λc f=>ha c (by simp[f])) (λc f=>hb c (by simp[f])),Lib.compareBytes]
  by_cases c1:x<y
  ·have d:x.toNat<y.toNat:=c1;rw[zb c1]
   constructor
   ·intro h;omega
   intro h;omega
  have d:¬x.toNat<y.toNat:=c1;rw[za c1]
  by_cases c2:y<x
  ·have e:y.toNat<x.toNat:=c2;rw[zb c2]
   constructor
   ·intro h;omega
   intro h;omega
  have e:¬y.toNat<x.toNat:=c2;rw[za c2]
  constructor
  ·rintro (h|⟨h,g⟩)
   ·left;omega
   right;exact⟨by omega,g⟩
  rintro (h|⟨h,g⟩)
  ·left;omega
  right;exact⟨by omega,g⟩
theorem mQ:∀(l:List UInt8) (n:Nat),(∀c ∈ l,ZW c)->ZY n l<(n+1)*10 ^ l.length
 | [],n,_=>by simp[ZY]
 | x::l,n,h=>by
  have b:=h x (by simp);unfold ZW at b
  have:=mQ l (10*n+(x.toNat-48)) (λc a=>h c (by simp[a]))
  rw[Uk];refine xO this ?_;rw[Qf,Nat.pow_succ,Nat.mul_comm (10 ^ l.length) 10,<- Nat.mul_assoc];exact Yy _ (by omega)
theorem mR:∀(l:List UInt8) (n:Nat),n*10 ^ l.length<=ZY n l
 | [],n=>by simp[ZY]
 | x::l,n=>by
  have:=mR l (10*n+(x.toNat-48))
  rw[Uk];refine xD ?_ this;rw[Qf,Nat.pow_succ,Nat.mul_comm (10 ^ l.length) 10,<- Nat.mul_assoc];exact Yy _ (by omega)
theorem Dm{a b:List UInt8}(h:∀c ∈ a,ZW c)(i:∀c ∈ b,ZW c)(e:a.length<b.length)(d:(b.getD 0 0).toNat≠48):vZ a<vZ b:=by
 match b,e,d with
 | y::b,e,d=>
  have j:=i y (by simp);unfold ZW at j;have f:y.toNat≠48:=d;have k:=mQ a 0 h;have l:=mR b (10*0+(y.toNat-48));have g:vZ (y::b)=ZY (10*0+(y.toNat-48)) b:=Uk 0 y b;have m:10 ^ a.length<=10 ^ b.length:=Nat.pow_le_pow_right (by omega) (by simp at e;omega);have n:1*10 ^ b.length<=(10*0+(y.toNat-48))*10 ^ b.length:=Yy _ (by omega);rw[g];unfold vZ;omega
def QV(t:BY):Bool:=(t.toList==[48])||U.uT t
def Uw(a b:BY):Bool:=if a.size=b.size then decide (Lib.compareBytes a.data.toList b.data.toList<0) else decide (a.size<b.size)
theorem YR{t:BY}(h:QV t=true):(∀c ∈ t.data.toList,ZW c)/\1<=t.size/\t.size<=18/\(1<t.size->(t.data.toList.getD 0 0).toNat≠48)/\(t.data.toList.getD 0 0).toNat≠45:=by
 have b:t.data.toList.length=t.size:=by simp
 unfold QV at h
 rcases Bool.or_eq_true_iff.1 h with h|h
 ·have e:t.data.toList=[48]:=by
   have:=Xn h
   rwa [ko]at this
  rw[e]at b |-;simp at b;refine⟨λc a=>?_,by omega,by omega,by omega,by simp⟩;simp at a;subst a;exact⟨by decide,by decide⟩
 unfold U.uT at h;simp only[jX,vJ,bne_iff_ne]at h;obtain⟨⟨⟨f,g⟩,i⟩,j⟩:=h
 have d:∀c ∈ t.data.toList,ZW c:=λc a=>by
  have:=Zq.1 j c a
  simp only[vJ]at this;exact this
 refine⟨d,f,g,λ_=>i,?_⟩
 match hx:t.data.toList with
 | []=>rw[hx]at b;simp at b;omega
 | x::r=>
  have:=d x (by rw[hx];simp)
  unfold ZW at this
  simp
  omega
theorem Ez{a b:BY}(d:QV a=true)(f:QV b=true):Uw a b=decide (vZ a.data.toList<vZ b.data.toList):=by
 obtain⟨d1,k,_,g,_⟩:=YR d;obtain⟨d2,l,_,h,_⟩:=YR f;have i:a.data.toList.length=a.size:=by simp
 have j:b.data.toList.length=b.size:=by simp
 unfold Uw
 by_cases e:a.size=b.size
 ·rw[zb e]
  have:=Dl a.data.toList b.data.toList 0 0 (by omega) d1 d2
  simp only[Nat.lt_irrefl,false_or,QW]at this;unfold vZ;exact Ki.2 this.symm
 rw[za e]
 by_cases c:a.size<b.size
 ·rw[zB c,zB (Dm d1 d2 (by omega) (h (by omega)))]
 have:=Dm d2 d1 (by omega) (g (by omega))
 rw[zI c,P6]
def yJ(s:BY):Bool:=decide (0<s.size)&&((s.data.toList.getD 0 0).toNat==45)
def kH(s:BY):BY:=if yJ s then s.extract 1 s.size else s
def XA(s:BY):Int:=if yJ s then -((vZ (kH s).data.toList:Nat):Int) else ((vZ (kH s).data.toList:Nat):Int)
def Yj(a b:BY):Bool:=if yJ a=yJ b then (if yJ a then Uw (kH b) (kH a) else Uw (kH a) (kH b)) else yJ a
theorem Ue{s:BY}(h:U.qW s=true):QV (kH s)=true/\(yJ s=true->U.uT (kH s)=true):=by
 unfold U.qW at h
 rcases Bool.or_eq_true_iff.1 h with h|h
 ·have e:s.data.toList=[48]:=by
   have:=Xn h
   rwa [ko]at this
  have b:yJ s=false:=by unfold yJ;rw[e];simp
  unfold kH;rw[b];refine⟨?_,λh=>by cases h⟩;unfold QV;simp[h]
 cases b:yJ s with
 | true=>
  have a:=b;unfold yJ at a;simp only[jX,vJ,vC]at a;rw[zb a]at h;unfold kH QV;rw[b,zb rfl,h]
  simp
 | false=>
  have a:=b;unfold yJ at a
  rw[za (by
   rintro⟨c,d⟩;rw[zB c,d]at a;simp at a)]at h
  unfold kH QV;rw[b];simp[h]
theorem zbg{t:BY}(h:U.uT t=true):0<vZ t.data.toList:=by
 have g:=YR (t:=t) (by unfold QV;simp[h]);obtain⟨f,i,_,_,_⟩:=g;unfold U.uT at h;simp only[jX,vJ,bne_iff_ne]at h;have c:t.data.toList.length=t.size:=by simp
 match hx:t.data.toList with
 | []=>rw[hx]at c;simp at c;omega
 | x::r=>
  have b:=h.1.2;rw[hx]at b;have d:x.toNat≠48:=b;have a:=f x (by rw[hx];simp);unfold ZW at a;have j:=mR r (10*0+(x.toNat-48));have e:vZ (x::r)=ZY (10*0+(x.toNat-48)) r:=Uk 0 x r;have k:1*10 ^ r.length<=(10*0+(x.toNat-48))*10 ^ r.length:=Yy _ (by omega);have l:0<10 ^ r.length:=Nat.pow_pos (by omega);rw[e];omega
theorem zdX{a b:BY}(e:U.qW a=true)(f:U.qW b=true):Yj a b=decide (XA a<XA b):=by
 obtain⟨c,g⟩:=Ue e;obtain⟨d,h⟩:=Ue f;unfold Yj XA
 cases ea:yJ a with
 | true=>
  have i:=zbg (g ea)
  cases eb:yJ b with
  | true=>
   simp only[qJ];rw[Ez d c];exact Ki.2 (by omega)
  | false=>
   simp only[pQ,xX,qJ,yu];rw[P5]
 | false=>
  cases eb:yJ b with
  | true=>
   simp only[yu,xX,qJ];rw[P6]
  | false=>
   simp only[qJ,yu,xX];rw[Ez c d];exact Ki.2 (by omega)
def vM(op:BY):Bool:=op.toList==[115,97,109,101]
def vK(op:BY):Bool:=op.toList==[98,101,108,111,119]
def Qw(c:Bool×List BY)(word:BY)(r:U.Req):Bool:=(c.2.any λp=>U.yQ p word r) != c.1
def ZG(x v:BY):Bool:=(x.toList==v.toList)||(decide (v.size<x.size)&&((x.data.toList.take v.size==v.data.toList)&&((x.data.toList.getD v.size 0).toNat==47)))
def Yf(op x v:BY)(r:U.Req):Bool:=
 if U.xE op then U.yQ v x r
 else if vM op then x.toList==v.toList
 else if vK op then U.qW x&&Yj x v
 else ZG x v
def Jd(op:BY)(a:List BY)(r:U.Req):Option BY->Bool
 | none=>false
 | some x=>a.any λv=>Yf op x v r
end De
theorem eu{r:U.Req}(h:U.qR r=true):r.marks.length<=10:=by
 unfold U.qR at h;simp only[jX,vJ]at h;exact h.1.2
theorem Yo{s:BY}(h:U.xH s=true):s.size<=100/\(U.chars s).isSome=true:=by
 unfold U.xH at h;simp at h;exact⟨h.2,h.1⟩
theorem nV{r:U.Req}(h:U.qR r=true):U.xH r.who=true/\U.xH r.act=true/\U.xH r.on=true:=by
 unfold U.qR at h;simp only[jX,vJ]at h;exact⟨h.1.1.1.1,h.1.1.1.2,h.1.1.2⟩
theorem K5{r:U.Req}(h:U.qR r=true)(n v:BY)(a:U.says r n=some v):v.size<=100/\(U.chars v).isSome=true:=by
 obtain⟨b,c,d⟩:=nV h
 have e:r.marks.all U.jw=true:=by
  unfold U.qR at h;simp only[jX]at h;exact h.2
 refine Yo ?_;unfold U.says at a;split at a
 ·simp at a;subst a;exact b
 split at a
 ·simp at a;subst a;exact c
 split at a
 ·simp at a;subst a;exact d
 unfold U.Ju at a;obtain⟨m,f,rfl⟩:=vT.1 a
 have:=Zq.1 e m (aO f)
 unfold U.jw at this;simp only[jX]at this;exact this.1.1.1.2
namespace Pg
open U
inductive Gl:List Int->List Int->Prop
 | nil:Gl [] []
 | skip {ss w:List Int}:Gl ss w->Gl (-2::ss) w
 | more {ss w:List Int} {c:Int}:Gl (-2::ss) w->Gl (-2::ss) (c::w)
 | one {s c:Int} {ss w:List Int}:s ≠ -2->(s = -1\/s=c)->Gl ss w->Gl (s::ss) (c::w)
theorem Kq(w:List Int):Gl [] w↔w=[]:=by
 constructor
 ·intro h;cases h;rfl
 rintro rfl;exact .nil
theorem Vd(s:Int)(f w:List Int)(d:s ≠ -2):Gl (s::f) w↔∃c e,w=c::e/\(s = -1\/s=c)/\Gl f e:=by
 constructor
 ·intro h
  cases h with
  | skip h=>exact absurd rfl d
  | more h=>exact absurd rfl d
  | one g a b=>exact⟨_,_,rfl,a,b⟩
 rintro⟨c,e,rfl,a,b⟩;exact .one d a b
theorem RU{S w:List Int}(h:Gl S w):∀a,S = -2::a->∃i,i<=w.length/\Gl a (w.drop i):=by
 induction h with
 | nil=>intro a e;cases e
 | skip h _=>intro a e;cases e;exact⟨0,by omega,by simpa using h⟩
 | more h d=>
  intro a e
  cases e
  obtain⟨i,f,c⟩:=d _ rfl;exact⟨i+1,by simp;omega,by simpa using c⟩
 | one b _ _ _=>intro a e;cases e;exact absurd rfl b
theorem X8(a w:List Int):Gl (-2::a) w↔∃i,i<=w.length/\Gl a (w.drop i):=by
 constructor
 ·intro h;exact RU h a rfl
 rintro⟨i,d,b⟩
 induction i generalizing w with
 | zero=>exact .skip (by simpa using b)
 | succ i e=>
  cases w with
  | nil=>simp at d
  | cons c w=>exact .more (e w (by simpa using d) (by simpa using b))
inductive Seg:List Int->List Int->Prop
 | nil:Seg [] []
 | cons {s c:Int} {ss w:List Int}:s ≠ -2->(s = -1\/s=c)->Seg ss w->Seg (s::ss) (c::w)
theorem zdo{a w:List Int}(h:Seg a w)(s c:Int)(f:s ≠ -2)(e:s = -1\/s=c):Seg (a++[s]) (w++[c]):=by
 induction h with
 | nil=>exact .cons f e .nil
 | cons b d _ g=>exact .cons b d g
def Du(a:List Int):Prop:=∀s ∈ a,s ≠ -2
theorem zdn{a w:List Int}(h:Seg a w):Du a:=by
 induction h with
 | nil=>intro s b;cases b
 | cons c _ _ d=>
  intro s b
  rcases Zt.1 b with rfl|b
  ·exact c
  exact d s b
theorem zdm{a w:List Int}(h:Seg a w)(r v:List Int)(d:Gl r v):Gl (a++r) (w++v):=by
 induction h with
 | nil=>exact d
 | cons b c _ e=>exact .one b c e
theorem RL(a r w:List Int)(b:Du a)(h:Gl (a++r) w):a.length<=w.length/\Gl r (w.drop a.length):=by
 induction a generalizing w with
 | nil=>exact⟨by simp,by simpa using h⟩
 | cons s a g=>
  obtain⟨c,i,rfl,_,d⟩:=(Vd s (a++r) w (b s (by simp))).1 h;obtain⟨j,e⟩:=g i (λs f=>b s (by simp[f])) d;exact⟨by simp;omega,by simpa using e⟩
def St(S W:List Int)(a c d b:Nat):Prop:=
 a<=S.length/\b<=W.length/\d<=b/\c<=a /\
 ((c=0/\d=0/\(Gl S W↔Gl (S.drop a) (W.drop b))) \/
  (0<c/\b=d+(a-c)/\(Gl S W↔Gl (-2::S.drop c) (W.drop d))/\Seg ((S.drop c).take (a-c)) ((W.drop d).take (a-c))))
theorem zd1(S W:List Int):St S W 0 0 0 0:=⟨by omega,by omega,by omega,by omega,.inl ⟨rfl,rfl,by simp⟩⟩
theorem drop_at(S:List Int)(a:Nat)(h:a<S.length):S.drop a=S.getD a 0::S.drop (a+1):=by
 rw[jD h,zT,zn h];rfl
theorem Am(S:List Int)(b a:Nat)(h:b<=a):S.drop b=(S.drop b).take (a-b)++S.drop a:=by
 have e:=VK (a-b) (S.drop b);rw[Y4,show b+(a-b)=a by omega]at e;exact e.symm
theorem ow(S W:List Int)(a b d c:Nat)(l:b<=a)(v:c=d+(a-b))(u:c<=W.length)(f:Seg ((S.drop b).take (a-b)) ((W.drop d).take (a-b)))(o:a<=S.length):(Gl (-2::S.drop b) (W.drop d)↔∃j,c<=j/\j<=W.length/\(∃i,d<=i/\j=i+(a-b)/\Gl (S.drop b) (W.drop i))/\Gl (S.drop a) (W.drop j)):=by
 have r:=zdn f;have q:((S.drop b).take (a-b)).length=a-b:=by simp;omega
 constructor
 ·intro h;obtain⟨i,p,m⟩:=(X8 _ _).1 h;rw[Y4]at m;have e:=m;rw[Am S b a l]at e;obtain⟨k,g⟩:=RL _ _ _ r e;rw[q]at k g;rw[Y4]at g;simp at p k;exact⟨d+i+(a-b),by omega,by omega,⟨d+i,by omega,rfl,m⟩,g⟩
 rintro⟨j,k,g,⟨i,s,t,n⟩,_⟩;refine(X8 _ _).2 ⟨i-d,by simp;omega,?_⟩;rw[Y4,show d+(i-d)=i by omega];exact n
theorem FR(b W:List Int)(j h:Nat)(e:h<=j)(d:j<=W.length)(a:Gl (-2::b) (W.drop j)):Gl (-2::b) (W.drop h):=by
 obtain⟨i,c,a⟩:=(X8 _ _).1 a;refine(X8 _ _).2 ⟨i+(j-h),by simp at c |-;omega,?_⟩;rw[Y4]at a |-;rw[show h+(i+(j-h))=j+i by omega];exact a
theorem Fx(S W:List Int)(a c d b:Nat)(g:c<=a)(j:b=d+(a-c))(f:Seg ((S.drop c).take (a-c)) ((W.drop d).take (a-c)))
  (i:Gl (S.drop a) (W.drop b)):Gl (S.drop c) (W.drop d):=by
 have h:=zdm f _ _ i;rw[<- Am S c a g]at h
 have e:(W.drop d).take (a-c)++W.drop b=W.drop d:=by
  have e:=VK (a-c) (W.drop d);rw[Y4,<- j]at e;exact e
 rwa [e]at h
theorem zd2(S W:List Int)(a d c b:Nat)(h:St S W a d c b)(q:a<S.length)(e:S.getD a 0 = -2):St S W (a+1) (a+1) b b:=by
 obtain⟨o,f,r,k,p⟩:=h;refine⟨by omega,f,ze _,ze _,.inr ⟨by omega,by omega,?_,by simp;exact .nil⟩⟩;have g:=drop_at S a q;rw[e]at g;rw[<- g]
 rcases p with⟨_,_,h6⟩|⟨_,hh,h6,hseg⟩
 ·exact h6
 rw[h6,ow S W a d c b k hh f hseg o]
 constructor
 ·rintro⟨j,m,n,_,i⟩;rw[g]at i |-;exact FR _ W j b m n i
 intro l;exact⟨b,ze _,f,⟨c,ze _,hh,Fx S W a d c b k hh hseg l⟩,l⟩
theorem zd3(S W:List Int)(a d f b:Nat)(h:St S W a d f b)(j:a<S.length)(k:b<W.length)(e:S.getD a 0 ≠ -2)(i:S.getD a 0 = -1\/S.getD a 0=W.getD b 0):St S W (a+1) d f (b+1):=by
 obtain⟨p,q,r,s,n⟩:=h;refine⟨by omega,by omega,by omega,by omega,?_⟩
 rcases n with⟨h6,h7,h8⟩|⟨h6,h7,h8,hseg⟩
 ·refine .inl ⟨h6,h7,?_⟩;rw[h8,drop_at S a j,drop_at W b k,Vd _ _ _ e]
  constructor
  ·rintro⟨c,t,o,_,g⟩;cases o;exact g
  intro g;exact⟨_,_,rfl,i,g⟩
 refine .inr ⟨h6,by omega,h8,?_⟩
 have l:(S.drop d).take (a+1-d)=(S.drop d).take (a-d)++[S.getD a 0]:=by
  rw[show a+1-d=a-d+1 by omega,Q9 (by simp;omega)];congr 1;rw[gz,zT,zn j];simp[show d+(a-d)=a by omega]
 have m:(W.drop f).take (a+1-d)=(W.drop f).take (a-d)++[W.getD b 0]:=by
  rw[show a+1-d=a-d+1 by omega,Q9 (by simp;omega)];congr 1;rw[gz,zT,zn k];simp[show f+(a-d)=b by omega]
 rw[l,m];exact zdo hseg _ _ e i
def Bad(S W:List Int)(a b:Nat):Prop:=a<S.length->S.getD a 0 ≠ -2/\¬(S.getD a 0 = -1\/S.getD a 0=W.getD b 0)
theorem sU(S W:List Int)(a b:Nat)(f:Bad S W a b)(i:b<W.length):¬Gl (S.drop a) (W.drop b):=by
 intro h
 by_cases ha:a<S.length
 ·obtain⟨d,e⟩:=f ha;rw[drop_at S a ha,drop_at W b i,Vd _ _ _ d]at h;obtain⟨c,k,j,g,_⟩:=h
  cases j
  exact e g
 rw[Yw (by omega),Kq]at h
 have:=congrArg List.length h
 simp at this;omega
theorem FO(S W:List Int)(a d c b:Nat)(h:St S W a d c b)(p:Bad S W a b)(q:b<W.length)(k:0<d):St S W d d (c+1) (c+1):=by
 obtain⟨l,m,v,n,o⟩:=h;refine⟨by omega,by omega,ze _,ze _,.inr ⟨k,by omega,?_,by simp;exact .nil⟩⟩
 rcases o with⟨h6,_⟩|⟨_,h7,h8,hseg⟩
 ·omega
 rw[h8]
 constructor
 ·intro e;rw[ow S W a d c b n h7 m hseg l]at e;obtain⟨j,r,s,⟨i,t,u,f⟩,g⟩:=e
  have:i≠c:=by
   rintro rfl
   have:j=b:=by omega
   subst this;exact sU S W a j p q g
  refine(X8 _ _).2 ⟨i-(c+1),by simp;omega,?_⟩;rw[Y4,show c+1+(i-(c+1))=i by omega];exact f
 intro e;exact FR _ W (c+1) c (by omega) (by omega) e
theorem FP(S W:List Int)(a f b:Nat)(h:St S W a 0 f b)(d:Bad S W a b)(e:b<W.length):¬Gl S W:=by
 obtain⟨g,i,j,k,c⟩:=h
 rcases c with⟨_,_,h8⟩|⟨h6,_⟩
 ·rw[h8];exact sU S W a b d e
 omega
theorem RV(S:List Int):Gl S []↔∀s ∈ S,s = -2:=by
 induction S with
 | nil=>simp[Kq]
 | cons s S b=>
  by_cases hs:s = -2
  ·subst hs;rw[X8];simp only[List.drop_nil,JQ,Zt,forall_eq_or_imp,QW];rw[<- b]
   constructor
   ·rintro⟨_,_,h⟩;exact h
   intro h;exact⟨0,ze _,h⟩
  rw[Vd _ _ _ hs]
  constructor
  ·rintro⟨c,d,a,_⟩;cases a
  intro h;exact absurd (h s (by simp)) hs
theorem zd0(S W:List Int)(a e d b:Nat)(h:St S W a e d b)(r:¬b<W.length):Gl S W↔∀s ∈ S.drop a,s = -2:=by
 obtain⟨l,g,q,i,m⟩:=h;have k:b=W.length:=by omega
 rw[<- RV]
 rcases m with⟨_,_,h8⟩|⟨_,h7,h8,hseg⟩
 ·rw[h8,k,JP]
 rw[h8,ow S W a e d b i h7 g hseg l]
 constructor
 ·rintro⟨j,o,p,_,f⟩
  have:j=W.length:=by omega
  rw[this,JP]at f;exact f
 intro n;have c:Gl (S.drop a) (W.drop b):=by rw[k,JP];exact n
 exact⟨b,ze _,g,⟨d,ze _,h7,Fx S W a e d b i h7 hseg c⟩,c⟩
def meas(n m a b:Nat):Nat:=(m+1-b)*(n+1)+(n+1-a)
theorem Cy(n m a c b:Nat)(d:a<n)(e:c<=b):meas n m (a+1) b<meas n m a c:=by
 unfold meas
 have:(m+1-b)*(n+1)<=(m+1-c)*(n+1):=Yy _ (by omega)
 omega
theorem Cz(n m a c b:Nat)(e:b<m)(d:a<=n):meas n m c (b+1)<meas n m a b:=by
 unfold meas
 have:(m+1-b)=(m+1-(b+1))+1:=by omega
 rw[this,Nat.succ_mul];omega
end Pg
def YM(s:Int):Bool:=s == -2
def ae(s c:Int):Bool:=s == -1||s==c
theorem lY(s:Int)(w:J):R8 140 #[.int .i32 s] w λe a=>e=.returned (.bool (YM s))/\a=w:=by
 unfold YM;go_enter func140,ntmps140;go_wp2;go_ret;exact⟨rfl,rfl⟩
theorem zff(s c:Int)(w:J):R8 141 #[.int .i32 s,.int .i32 c] w λe a=>e=.returned (.bool (ae s c))/\a=w:=by
 unfold ae
 cases h:s == -1 with
 | true=>
  go_enter func141,ntmps141;go_wp2;go_ret;exact⟨rfl,rfl⟩
 | false=>
  go_enter func141,ntmps141;go_wp2;go_ret;exact⟨by simp,rfl⟩
theorem Hq(S:List Int)(a:Nat):Zc (λj=>YM (S.getD (a+j) 0)) (S.length-a)=true↔∀s ∈ S.drop a,s = -2:=by
 unfold Zc YM;rw[Zq]
 constructor
 ·intro h s d;obtain⟨j,b,rfl⟩:=gD.1 d;simp at b
  have:=h j (vk.2 (by omega))
  rw[zT,P7]at this
  simpa [List.getElem_drop] using this
 intro h j b;have c:=vk.1 b;rw[zT,P7]
 have:=h (S[a+j]'(by omega)) (by rw[gD];exact⟨j,by simp;omega,by simp⟩)
 simpa using this
theorem zaN(S W:List Int)(ao N:Option Addr)(c1 c2:Nat)(w:J)(O:rowAt w ao S.length λj=>S.getD j 0)(X:rowAt w N W.length λj=>W.getD j 0)
  (V:S.length<=1000000)(a0:W.length<=1000000)(a4:S.length<=c1)(A:Bool)(B:A=true↔Pg.Gl S W):R8 89 #[TL ao S.length c1,TL N W.length c2] w (G5 (.bool A) w):=by
 have H:=G7 B;clear B;go_enter func89,ntmps89;go_wp2
 go_loopw [5,6,7,8] (λI T M hv wr=>∃a b t h:Nat,I=R9 a/\T=R9 b/\M=R9 t/\hv=R9 h/\Pg.St S W a b t h/\BQ w wr)
  (λI _ M _ _=>Pg.meas S.length W.length (intOf I).toNat (intOf M).toNat)
 case atStart=>exact⟨0,0,0,0,rfl,rfl,rfl,rfl,Pg.zd1 S W,zf _ _⟩
 case round=>
  obtain⟨a,b,t,h,rfl,rfl,rfl,rfl,f,k⟩:=hrel;have y:=G7 f;have L:a<=S.length/\h<=W.length/\t<=h/\b<=a:=⟨f.1,f.2.1,f.2.2.1,f.2.2.2.1⟩;obtain⟨D,a2,K,a3⟩:=L;clear f
  by_cases hlt:h<W.length
  ·have R:(h:Int)<(W.length:Int):=by omega
   rcases X with h0|⟨wb,wo,rfl,hwc⟩
   ·omega
   have qw:=zi k (hwc h hlt);obtain⟨c,p⟩:=Nm (W.getD h 0);simp only[p]at qw
   by_cases ha:a<S.length
   ·have a1:(a:Int)<(S.length:Int):=by omega
    rcases O with h0|⟨sb,so,rfl,hsc⟩
    ·omega
    have qs:=zi k (hsc a ha);obtain⟨s,u⟩:=Nm (S.getD a 0);simp only[u]at qs;clear hsc hwc
    cases hm:YM s with
    | true=>
     have g:S.getD a 0 = -2:=by rw[u];simpa [YM] using hm
     have f:=G7 (Pg.zd2 S W a b t h y.o ha g);have i:=λW'=>lY s W';rw[hm]at i;have HC:=G7 p;clear u g hm p;go_wp2_with(go_at_call 140;apply(i _).mono;rintro e q⟨rfl,rfl⟩);go_roundw
     case rel=>exact⟨a+1,a+1,h,h,by go_num,by go_num,rfl,rfl,f.o,k⟩
     case measure=>simp[intOf];exact Pg.Cy _ _ _ _ _ ha K
    | false=>
     have g:S.getD a 0 ≠ -2:=by rw[u];simpa [YM] using hm
     have i:=λW'=>lY s W';rw[hm]at i;have m:=λW'=>zff s c W'
     cases hk:ae s c with
     | true=>
      have F:S.getD a 0 = -1\/S.getD a 0=W.getD h 0:=by rw[u,p];simpa [ae] using hk
      have f:=G7 (Pg.zd3 S W a b t h y.o ha hlt g F);rw[hk]at m;clear u g F hm p hk;go_wp2_with(go_at_call 140;apply(i _).mono;rintro e q⟨rfl,rfl⟩)
      go_quiet ((go_at_call 141;exact pU (m _)))
      go_wp2;exact⟨⟨a+1,b,t,h+1,by go_num,rfl,rfl,by go_num,f.o,below_drewN k nq⟩,by simp[intOf];exact Pg.Cy _ _ _ _ _ ha F7⟩
     | false=>
      have d:Pg.Bad S W a h:=λ_=>⟨g,by rw[u,p];simpa [ae] using hk⟩;rw[hk]at m
      by_cases hb0:0<b
      ·have f:=G7 (Pg.FO S W a b t h y.o d hlt hb0);have C:(0:Int)<(b:Int):=by omega
       clear u g hm p hk d;go_wp2_with(go_at_call 140;apply(i _).mono;rintro e q⟨rfl,rfl⟩)
       go_quiet ((go_at_call 141;exact pU (m _)))
       go_wp2;exact⟨⟨b,b,t+1,t+1,rfl,rfl,by go_num,by go_num,f.o,below_drewN k nq⟩,by simp[intOf];exact Pg.Cz _ _ _ _ _ (by omega) D⟩
      obtain rfl:b=0:=by omega
      have E:=Pg.FP S W a t h y.o d hlt
      have B:A=false:=by
       cases A with
       | false=>rfl
       | true=>exact absurd (H.o.1 rfl) E
      subst B;clear u g hm p hk d E;go_wp2_with(go_at_call 140;apply(i _).mono;rintro e q⟨rfl,rfl⟩)
      go_quiet ((go_at_call 141;exact pU (m _)))
      go_wp2;go_ret;exact⟨rfl,below_drewN k nq⟩
   have d:Pg.Bad S W a h:=λh=>absurd h ha;have da:decide ((a:Int)<(S.length:Int))=false:=P6
   by_cases hb0:0<b
   ·have f:=G7 (Pg.FO S W a b t h y.o d hlt hb0);have C:(0:Int)<(b:Int):=by omega
    clear d p;go_wp2_with fail
    go_quiet (fail)
    go_wp2;exact⟨⟨b,b,t+1,t+1,rfl,rfl,by go_num,by go_num,f.o,below_drewN k nq⟩,by simp[intOf];exact Pg.Cz _ _ _ _ _ (by omega) D⟩
   obtain rfl:b=0:=by omega
   have E:=Pg.FP S W a t h y.o d hlt
   have B:A=false:=by
    cases A with
    | false=>rfl
    | true=>exact absurd (H.o.1 rfl) E
   subst B;clear d E p;go_wp2_with fail
   go_quiet (fail)
   go_wp2;go_ret;exact⟨rfl,below_drewN k nq⟩
  have G:=Pg.zd0 S W a b t h y.o hlt;have P:(a:Int)<=(S.length:Int):=by omega
  have Q:(a:Int)<=(c1:Int):=by omega
  have v:Zc (λj=>YM (S.getD (a+j) 0)) (S.length-a)=A:=by
   rw[Zp,Hq S a,<- G];exact H.o.symm
  have o:=nW O k
  have l:∀(r:Option Addr) (n:Nat),rowAt wr r (S.length-a) (λj=>S.getD (a+j) 0)->R8 142 #[TL r ((S.length-a:Nat)) n,.func (.func 140) #[] #[]] wr (G5 (.bool A) wr):=by
   intro r n hr
   have c:=Ii (S.length-a) r n 140 #[] (λj=>S.getD (a+j) 0) (λj=>YM (S.getD (a+j) 0)) wr (by omega)
    (qo func140 (by kernel_rfl) rfl) hr
    (λW' j _ _=>(lY _ W').mono λe q ⟨G,k⟩=>⟨G,k ▸ zf _ _⟩)
   rw[v]at c;exact c
  clear G v
  by_cases hca:c1=a
  ·have c:=l ao 0 (.inl (by omega));clear l o;go_wp2_with(go_at_call 142;apply c.mono;rintro e q⟨rfl,z⟩);go_ret;exact⟨rfl,k.trans (z.mono k.size)⟩
  have c:=l (ao.map λx=>x.add a) (c1-a) (by
   rcases o with h0|⟨sb,so,rfl,hsc⟩
   ·exact .inl (by omega)
   refine .inr ⟨sb,so+a,by simp[addr_add],λj hj=>?_⟩
   have:=hsc (a+j) (by omega)
   rw[JV];exact this)
  clear l o;go_wp2_with(go_at_call 142;apply c.mono;rintro e q⟨rfl,z⟩);go_ret;exact⟨rfl,k.trans (z.mono k.size)⟩
namespace Pg
open U
theorem zfy(f:Nat)(s:BY)(h:s.size<f):(jP f s).isSome=Lib.validD s.data.toList:=by
 induction f generalizing s with
 | zero=>omega
 | succ f c=>
  rw[jP]
  by_cases h0:s.size=0
  ·rw[zb h0]
   have:s.data.toList=[]:=Yx (by rw[zF];exact h0)
   rw[this];rfl
  rw[za h0];have a:s.data.toList≠[]:=λe=>h0 (by rw[<- zF,e];rfl);rw[Lib.validD_step _ a];have b:Lib.decodeL s.data.toList=Utf8.decode s 0:=rfl;rw[b]
  rcases Kh s (by omega) with⟨ho,e⟩|⟨ho,hc,e,hn⟩
  ·rw[zb ho,e];simp
  rw[e,za hn,za (by rw[ho];decide),Option.isSome_map];have d:=Jg s (by omega);rw[c _ (by rw[yM];omega),Lib.ext_list]
theorem Mq(s:BY):Lib.validD s.data.toList=(chars s).isSome:=(zfy _ s (by omega)).symm
theorem Mj(f:Nat)(s:BY)(l:List BY)(h:jP f s=some l):∀c ∈ l,Q0 c:=by
 induction f generalizing s l with
 | zero=>simp[jP]at h
 | succ f d=>
  rw[jP]at h
  by_cases h0:s.size=0
  ·rw[zb h0]at h;simp at h;subst h;simp
  rw[za h0]at h
  rcases Kh s (by omega) with⟨ho,e⟩|⟨ho,hc,e,hn⟩
  ·rw[zb ho]at h;simp at h
  rw[za (by rw[ho];decide)]at h;obtain⟨r,b,rfl⟩:=vT.1 h;intro c a
  rcases Zt.1 a with rfl|a
  ·exact hc
  exact d _ _ b c a
theorem wz(s:BY):∀c ∈ (chars s).getD [],Q0 c:=by
 cases h:chars s with
 | none=>simp
 | some l=>exact Mj _ _ _ h
theorem NV(s:BY)(i:Nat):Utf8.decode s i=Utf8.decode (s.extract i s.size) 0:=by
 rw[Lib.decode_at,Lib.decode_at];simp only[Bn,Lib.ext_list,Nat.sub_zero,qV,yM,Nat.min_self]
 have e:∀j,(s.data.toList.drop i).getD j 0=s.data.toList.getD (i+j) 0:=by
  intro j;simp[List.getD]
 simp only[e,Qh]
def Yh(c:BY):Y := .int .i32 ((uw c:Nat):Int)
theorem zde(f a i:Nat)(s:BY)(acc:Array Y)(l:List BY)(c:jP f (s.extract i s.size)=some l)(m:s.size-i<=a):Conv.runesFrom s a i acc=acc++(l.map Yh).toArray:=by
 induction f generalizing a i acc l with
 | zero=>simp[jP]at c
 | succ f k=>
  rw[jP]at c;have d:(s.extract i s.size).size=s.size-i:=by rw[yM];omega
  by_cases h0:s.size-i=0
  ·rw[zb (by rw[d];exact h0)]at c;simp at c;subst c
   cases a with
   | zero=>simp[Conv.runesFrom]
   | succ b=>unfold Conv.runesFrom;rw[N8];simp
  rw[za (by rw[d];exact h0)]at c
  rcases Kh (s.extract i s.size) (by omega) with⟨ho,e⟩|⟨ho,hc,e,hn⟩
  ·rw[zb ho]at c;simp at c
  rw[za (by rw[ho];decide)]at c;obtain⟨r,g,rfl⟩:=vT.1 c;have h:=Jg (s.extract i s.size) (by omega);obtain⟨b,rfl⟩:∃b,a=b+1:=⟨a-1,by omega⟩;unfold Conv.runesFrom;rw[N9,NV,e]
  have j:(s.extract i s.size).extract (qp (s.extract i s.size)).size (s.extract i s.size).size=s.extract (i+(qp (s.extract i s.size)).size) s.size:=by
   rw[fO,d];have e:min (i+(s.size-i)) s.size=s.size:=by omega
   rw[e]
  rw[j]at g;simp only;rw[k b (i+(qp (s.extract i s.size)).size) _ r g (by omega)];rw[Array.push_eq_append,Array.append_assoc];congr 1;simp[Yh]
theorem zdd(s:BY)(h:(chars s).isSome=true):Conv.runesFrom s s.size 0 #[]=(((chars s).getD []).map Yh).toArray:=by
 obtain⟨l,a⟩:=gK.1 h;rw[a];have e:s.extract 0 s.size=s:=by simp
 have:=zde (s.size+1) s.size 0 s #[] l (by rw[e];exact a) (by omega)
 rw[this];simp
end Pg
theorem zfx(s:BY)(w:J)(b:s.size<=maxLen)(a:uG w):R8 87 #[S9 s] w (G5 (.bool (U.chars s).isSome) w):=by
 have c:=Any.utf8_ValidString Tryz.lays196 s w (by unfold maxLen at b;omega) a;rw[Pg.Mq]at c;exact c
theorem BJ(s:BY)(w:J)(b:s.size<=maxLen)(g:uG w):R8 50 #[S9 s] w (G5 (.bool (U.xH s)) w):=by
 have c:=zfx s w b g;unfold U.xH;generalize (U.chars s).isSome=V at c |-;unfold maxLen at b
 by_cases h:s.size<=100
 ·have d:decide ((s.size:Int)<=100)=true:=P5;rw[zB h];go_enter func50,ntmps50;go_wp2_with(go_at_call 87;apply c.mono;rintro e f⟨rfl,a⟩);go_ret;exact⟨by simp,a⟩
 have d:decide ((s.size:Int)<=100)=false:=P6;rw[zI h];go_enter func50,ntmps50;go_wp2;go_ret;exact⟨by simp,zf _ _⟩
theorem Vh(s:BY)(b:Bool)(c:U.xH s=b)(d:s.size<=maxLen):∀w,uG w ->
  R8 50 #[S9 s] w (G5 (.bool b) w):=by
 subst c;exact λw a=>BJ s w d a
theorem Tz(m:BY×BY)(w:J)(j:m.1.size<=maxLen)(k:m.2.size<=maxLen)(l:uG w):R8 86 #[Xv m] w (G5 (.bool (U.jw m)) w):=by
 obtain⟨a,v⟩:=m;unfold Xv;simp only at j k |-;generalize b:U.jw (a,v)=M;unfold U.jw at b;simp only at b;have b0:=λO=>nbl w O
 cases d1:a.toList==[119,104,111] with
 | true=>
  have e:M=false:=by rw[<- b,d1];simp
  subst e;clear b;go_enter func86,ntmps86;go_wp2;go_ret;exact⟨rfl,b0 _⟩
 | false=>
 cases d2:a.toList==[100,111] with
 | true=>
  have e:M=false:=by rw[<- b,d2];simp
  subst e;clear b;go_enter func86,ntmps86;go_wp2;go_ret;exact⟨rfl,b0 _⟩
 | false=>
 cases d3:a.toList==[111,110] with
 | true=>
  have e:M=false:=by rw[<- b,d3];simp
  subst e;clear b;go_enter func86,ntmps86;go_wp2;go_ret;exact⟨rfl,b0 _⟩
 | false=>
 rw[d1,d2,d3]at b;have f:=λW=>dw a W j
 cases hn:U.ql a with
 | false=>
  have e:M=false:=by rw[<- b,hn];simp
  subst e;rw[hn]at f;clear b hn;go_enter func86,ntmps86;go_wp2_with(go_at_call 57;apply(f _).mono;rintro e d⟨rfl,c⟩);go_ret;exact⟨rfl,(b0 _).trans (c.mono (by simp))⟩
 | true=>
  have i:=Vh v _ rfl k;have e:M=U.xH v:=by rw[<- b,hn];simp
  rw[<- e]at i;rw[hn]at f;clear b hn e;go_enter func86,ntmps86
  go_wp2_with(first
   |(go_at_call 57;apply(f _).mono;rintro e d⟨rfl,c⟩;obtain⟨n,o⟩:=qP c;have p:w.heap.size<d.heap.size:=by (have:=c.size;simp at this;omega))
   |(go_at_call 50;apply(i _ (l.below ((b0 _).trans (c.mono (by simp))))).mono;rintro e q⟨rfl,g⟩))
  have h:BQ w d:=(b0 _).trans (c.mono (by simp));go_ret;exact⟨rfl,h.trans (g.mono h.size)⟩
end Go.Proofs.YtfjpcldndaiifaaGreatDoor
