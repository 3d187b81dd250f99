/- P -/
import Derived.Lib.Bytealg
import Derived.Test.YtdakgnaojakldaaGreatDoorF11
open Go.Proofs.Tryz
set_option maxRecDepth 100000
set_option maxHeartbeats 1000000
namespace Go.Proofs.YtdakgnaojakldaaGreatDoor
namespace De
def vV(c:UInt8):Prop:=48<=c.toNat/\c.toNat<=57
def bz(n:Nat)(c:UInt8):Nat:=10*n+(c.toNat-48)
def vW(n:Nat)(l:List UInt8):Nat:=l.foldl bz n
def yE(l:List UInt8):Nat:=vW 0 l
theorem X8(n:Nat)(c:UInt8)(l:List UInt8):vW n (c::l)=vW (10*n+(c.toNat-48)) l:=by simp only[vW,List.foldl_cons,bz]
theorem iO:∀(a b:List UInt8) (n m:Nat),a.length=b.length->(∀c ∈ a,vV c)->(∀c ∈ b,vV c)->(vW n a<vW m b↔n<m\/(n=m/\Lib.compareBytes a b<0))
 | [],[],n,m,_,_,_=>by simp[vW,Lib.compareBytes]
 | [],_::_,_,_,h,_,_=>by simp at h
 | _::_,[],_,_,h,_,_=>by simp at h
 | x::a,y::b,n,m,h,ha,hb=>by
  have i:=ha x (by simp);have j:=hb y (by simp);unfold vV at i j;rw[X8,X8,iO a b _ _ (by simpa using h) (λc f=>ha c (by simp[f])) (λc f=>hb c (by simp[f])),Lib.compareBytes]
  by_cases c1:x<y
  ·have d:x.toNat<y.toNat:=c1;rw[if_pos c1]
   constructor
   ·intro h;omega
   ·intro h;omega
  ·have d:¬x.toNat<y.toNat:=c1;rw[if_neg c1]
   by_cases c2:y<x
   ·have e:y.toNat<x.toNat:=c2;rw[if_pos c2]
    constructor
    ·intro h;omega
    ·intro h;omega
   ·have e:¬y.toNat<x.toNat:=c2;rw[if_neg c2]
    constructor
    ·rintro (h|⟨h,g⟩)
     ·left;omega
     ·right;exact⟨by omega,g⟩
    ·rintro (h|⟨h,g⟩)
     ·left;omega
     ·right;exact⟨by omega,g⟩
theorem Kn:∀(l:List UInt8) (n:Nat),(∀c ∈ l,vV c)->vW n l<(n+1)*10 ^ l.length
 | [],n,_=>by simp[vW]
 | x::l,n,h=>by
  have b:=h x (by simp);unfold vV at b
  have:=Kn l (10*n+(x.toNat-48)) (λc a=>h c (by simp[a]))
  rw[X8];refine Nat.lt_of_lt_of_le this ?_;rw[List.length_cons,Nat.pow_succ,Nat.mul_comm (10 ^ l.length) 10,<- Nat.mul_assoc];exact Nat.mul_le_mul_right _ (by omega)
theorem Ko:∀(l:List UInt8) (n:Nat),n*10 ^ l.length<=vW n l
 | [],n=>by simp[vW]
 | x::l,n=>by
  have:=Ko l (10*n+(x.toNat-48))
  rw[X8];refine Nat.le_trans ?_ this;rw[List.length_cons,Nat.pow_succ,Nat.mul_comm (10 ^ l.length) 10,<- Nat.mul_assoc];exact Nat.mul_le_mul_right _ (by omega)
theorem iP{a b:List UInt8}(h:∀c ∈ a,vV c)(hb:∀c ∈ b,vV c)(e:a.length<b.length)(d:(b.getD 0 0).toNat≠48):yE a<yE b:=by
 match b,e,d with
 | y::b,e,d=>
  have i:=hb y (by simp);unfold vV at i;have f:y.toNat≠48:=d;have j:=Kn a 0 h;have k:=Ko b (10*0+(y.toNat-48));have g:yE (y::b)=vW (10*0+(y.toNat-48)) b:=X8 0 y b;have l:10 ^ a.length<=10 ^ b.length:=Nat.pow_le_pow_right (by omega) (by simp at e;omega);have m:1*10 ^ b.length<=(10*0+(y.toNat-48))*10 ^ b.length:=Nat.mul_le_mul_right _ (by omega);rw[g];unfold yE;omega
def Qn(t:BA):Bool:=(t.toList==[48])||Ref.vX t
def Vw(a b:BA):Bool:=if a.size=b.size then decide (Lib.compareBytes a.data.toList b.data.toList<0) else decide (a.size<b.size)
theorem Vx{t:BA}(h:Qn t=true):(∀c ∈ t.data.toList,vV c)/\1<=t.size/\t.size<=18/\(1<t.size->(t.data.toList.getD 0 0).toNat≠48)/\(t.data.toList.getD 0 0).toNat≠45:=by
 have b:t.data.toList.length=t.size:=by simp
 unfold Qn at h
 rcases Bool.or_eq_true_iff.1 h with h|h
 ·have e:t.data.toList=[48]:=by
   have:=eq_of_beq h
   rwa [ByteArray.toList_eq] at this
  rw[e] at b |-;simp at b;refine⟨λc a=>?_,by omega,by omega,by omega,by simp⟩;simp at a;subst a;exact⟨by decide,by decide⟩
 ·unfold Ref.vX at h;simp only[Bool.and_eq_true,decide_eq_true_eq,bne_iff_ne] at h;obtain⟨⟨⟨d,f⟩,g⟩,i⟩:=h
  have hd:∀c ∈ t.data.toList,vV c:=λc a=>by
   have:=List.all_eq_true.1 i c a
   simp only[decide_eq_true_eq] at this;exact this
  refine⟨hd,d,f,λ_=>g,?_⟩
  match hx:t.data.toList with
  | []=>rw[hx] at b;simp at b;omega
  | x::r=>
   have:=hd x (by rw[hx];simp)
   unfold vV at this
   simp
   omega
theorem mQ{a b:BA}(g:Qn a=true)(hb:Qn b=true):Vw a b=decide (yE a.data.toList<yE b.data.toList):=by
 obtain⟨d,l,_,h,_⟩:=Vx g;obtain⟨f,m,_,i,_⟩:=Vx hb;have j:a.data.toList.length=a.size:=by simp
 have k:b.data.toList.length=b.size:=by simp
 unfold Vw
 by_cases e:a.size=b.size
 ·rw[if_pos e]
  have:=iO a.data.toList b.data.toList 0 0 (by omega) d f
  simp only[Nat.lt_irrefl,false_or,true_and] at this;unfold yE;exact decide_eq_decide.2 this.symm
 ·rw[if_neg e]
  by_cases c:a.size<b.size
  ·rw[decide_eq_true c,decide_eq_true (iP d f (by omega) (i (by omega)))]
  ·have:=iP f d (by omega) (h (by omega))
   rw[decide_eq_false c,decide_eq_false (by omega)]
def yn(s:BA):Bool:=decide (0<s.size)&&((s.data.toList.getD 0 0).toNat==45)
def vo(s:BA):BA:=if yn s then s.extract 1 s.size else s
def Zd(s:BA):Int:=if yn s then -((yE (vo s).data.toList:Nat):Int) else ((yE (vo s).data.toList:Nat):Int)
def QS(a b:BA):Bool:=if yn a=yn b then (if yn a then Vw (vo b) (vo a) else Vw (vo a) (vo b)) else yn a
theorem Ka{s:BA}(h:Ref.qF s=true):Qn (vo s)=true/\(yn s=true->Ref.vX (vo s)=true):=by
 unfold Ref.qF at h
 rcases Bool.or_eq_true_iff.1 h with h|h
 ·have e:s.data.toList=[48]:=by
   have:=eq_of_beq h
   rwa [ByteArray.toList_eq] at this
  have b:yn s=false:=by unfold yn;rw[e];simp
  unfold vo;rw[b];refine⟨?_,λh=>by cases h⟩;unfold Qn;simp[h]
 ·cases b:yn s with
  | true=>
   have a:=b;unfold yn at a;simp only[Bool.and_eq_true,decide_eq_true_eq,beq_iff_eq] at a;rw[if_pos a] at h;unfold vo Qn;rw[b,if_pos rfl,h]
   simp
  | false=>
   have a:=b;unfold yn at a
   rw[if_neg (by
    rintro ⟨c,d⟩;rw[decide_eq_true c,d] at a;simp at a)] at h
   unfold vo Qn;rw[b];simp[h]
theorem Ld{t:BA}(h:Ref.vX t=true):0<yE t.data.toList:=by
 have f:=Vx (t:=t) (by unfold Qn;simp[h]);obtain⟨hd,g,_,_,_⟩:=f;unfold Ref.vX at h;simp only[Bool.and_eq_true,decide_eq_true_eq,bne_iff_ne] at h;have c:t.data.toList.length=t.size:=by simp
 match hx:t.data.toList with
 | []=>rw[hx] at c;simp at c;omega
 | x::r=>
  have b:=h.1.2;rw[hx] at b;have d:x.toNat≠48:=b;have a:=hd x (by rw[hx];simp);unfold vV at a;have i:=Ko r (10*0+(x.toNat-48));have e:yE (x::r)=vW (10*0+(x.toNat-48)) r:=X8 0 x r;have j:1*10 ^ r.length<=(10*0+(x.toNat-48))*10 ^ r.length:=Nat.mul_le_mul_right _ (by omega);have k:0<10 ^ r.length:=Nat.pow_pos (by omega);rw[e];omega
theorem Pn{a b:BA}(e:Ref.qF a=true)(hb:Ref.qF b=true):QS a b=decide (Zd a<Zd b):=by
 obtain⟨c,f⟩:=Ka e;obtain⟨d,g⟩:=Ka hb;unfold QS Zd
 cases ea:yn a with
 | true=>
  have h:=Ld (f ea)
  cases eb:yn b with
  | true=>
   simp only[if_true];rw[mQ d c];exact decide_eq_decide.2 (by omega)
  | false=>
   simp only[Bool.true_eq_false,if_false,if_true,Bool.false_eq_true];rw[decide_eq_true (by omega)]
 | false=>
  cases eb:yn b with
  | true=>
   simp only[Bool.false_eq_true,if_false,if_true];rw[decide_eq_false (by omega)]
  | false=>
   simp only[if_true,Bool.false_eq_true,if_false];rw[mQ c d];exact decide_eq_decide.2 (by omega)
def xL(op:BA):Bool:=op.toList==[115,97,109,101]
def yD(op:BA):Bool:=op.toList==[98,101,108,111,119]
def QW(c:Bool×List BA)(word:BA)(r:Ref.Req):Bool:=(c.2.any λp=>Ref.jr p word r) != c.1
def Zj(x v:BA):Bool:=(x.toList==v.toList)||(decide (v.size<x.size)&&((x.data.toList.take v.size==v.data.toList)&&((x.data.toList.getD v.size 0).toNat==47)))
def Xr(op x v:BA)(r:Ref.Req):Bool:=
 if Ref.qE op then Ref.jr v x r
 else if xL op then x.toList==v.toList
 else if yD op then Ref.qF x&&QS x v
 else Zj x v
def Xa(op:BA)(vals:List BA)(r:Ref.Req):Option BA->Bool
 | none=>false
 | some x=>vals.any λv=>Xr op x v r
end De
theorem NQ{r:Ref.Req}(h:Ref.xP r=true):r.marks.length<=10:=by
 unfold Ref.xP at h;simp only[Bool.and_eq_true,decide_eq_true_eq] at h;exact h.1.2
theorem Xz{s:BA}(h:Ref.yX s=true):s.size<=100/\(Ref.chars s).isSome=true:=by
 unfold Ref.yX at h;simp at h;exact⟨h.2,h.1⟩
theorem nH{r:Ref.Req}(h:Ref.xP r=true):Ref.yX r.who=true/\Ref.yX r.act=true/\Ref.yX r.on=true:=by
 unfold Ref.xP at h;simp only[Bool.and_eq_true,decide_eq_true_eq] at h;exact⟨h.1.1.1.1,h.1.1.1.2,h.1.1.2⟩
theorem nQ{r:Ref.Req}(h:Ref.xP r=true)(n v:BA)(a:Ref.says r n=some v):v.size<=100/\(Ref.chars v).isSome=true:=by
 obtain⟨b,c,d⟩:=nH h
 have e:r.marks.all Ref.kg=true:=by
  unfold Ref.xP at h;simp only[Bool.and_eq_true] at h;exact h.2
 refine Xz ?_;unfold Ref.says at a
 split at a
 ·simp at a;subst a;exact b
 split at a
 ·simp at a;subst a;exact c
 split at a
 ·simp at a;subst a;exact d
 ·unfold Ref.X5 at a;obtain⟨m,f,rfl⟩:=Option.map_eq_some_iff.1 a
  have:=List.all_eq_true.1 e m (List.mem_of_find?_eq_some f)
  unfold Ref.kg at this;simp only[Bool.and_eq_true] at this;exact this.1.1.1.2
namespace Pg
open Ref
inductive Gl:List Int->List Int->Prop
 | nil:Gl [] []
 | skip {ss w:List Int}:Gl ss w->Gl (-2::ss) w
 | more {ss w:List Int} {c:Int}:Gl (-2::ss) w->Gl (-2::ss) (c::w)
 | one {s c:Int} {ss w:List Int}:s ≠ -2->(s = -1\/s=c)->Gl ss w->Gl (s::ss) (c::w)
theorem YU(w:List Int):Gl [] w↔w=[]:=by
 constructor
 ·intro h;cases h;rfl
 ·rintro rfl;exact .nil
theorem Xk(s:Int)(f w:List Int)(d:s ≠ -2):Gl (s::f) w↔∃c e,w=c::e/\(s = -1\/s=c)/\Gl f e:=by
 constructor
 ·intro h
  cases h with
  | skip h=>exact absurd rfl d
  | more h=>exact absurd rfl d
  | one g a b=>exact⟨_,_,rfl,a,b⟩
 ·rintro ⟨c,e,rfl,a,b⟩;exact .one d a b
theorem Ey{S w:List Int}(h:Gl S w):∀a,S = -2::a->∃i,i<=w.length/\Gl a (w.drop i):=by
 induction h with
 | nil=>intro a e;cases e
 | skip h _=>intro a e;cases e;exact⟨0,by omega,by simpa using h⟩
 | more h d=>
  intro a e
  cases e
  obtain⟨i,hi,c⟩:=d _ rfl;exact⟨i+1,by simp;omega,by simpa using c⟩
 | one b _ _ _=>intro a e;cases e;exact absurd rfl b
theorem ZC(a w:List Int):Gl (-2::a) w↔∃i,i<=w.length/\Gl a (w.drop i):=by
 constructor
 ·intro h;exact Ey h a rfl
 ·rintro ⟨i,hi,b⟩
  induction i generalizing w with
  | zero=>exact .skip (by simpa using b)
  | succ i d=>
   cases w with
   | nil=>simp at hi
   | cons c w=>exact .more (d w (by simpa using hi) (by simpa using b))
inductive Seg:List Int->List Int->Prop
 | nil:Seg [] []
 | cons {s c:Int} {ss w:List Int}:s ≠ -2->(s = -1\/s=c)->Seg ss w->Seg (s::ss) (c::w)
theorem Ow{a w:List Int}(h:Seg a w)(s c:Int)(f:s ≠ -2)(e:s = -1\/s=c):Seg (a++[s]) (w++[c]):=by
 induction h with
 | nil=>exact .cons f e .nil
 | cons b d _ g=>exact .cons b d g
def iY(a:List Int):Prop:=∀s ∈ a,s ≠ -2
theorem Ov{a w:List Int}(h:Seg a w):iY a:=by
 induction h with
 | nil=>intro s b;cases b
 | cons c _ _ d=>
  intro s b
  rcases List.mem_cons.1 b with rfl|b
  ·exact c
  ·exact d s b
theorem Ou{a w:List Int}(h:Seg a w)(r v:List Int)(d:Gl r v):Gl (a++r) (w++v):=by
 induction h with
 | nil=>exact d
 | cons b c _ e=>exact .one b c e
theorem Et(a r w:List Int)(b:iY a)(h:Gl (a++r) w):a.length<=w.length/\Gl r (w.drop a.length):=by
 induction a generalizing w with
 | nil=>exact⟨by simp,by simpa using h⟩
 | cons s a g=>
  obtain⟨c,i,rfl,_,d⟩:=(Xk s (a++r) w (b s (by simp))).1 h;obtain⟨j,e⟩:=g i (λs f=>b s (by simp[f])) d;exact⟨by simp;omega,by simpa using e⟩
def St(S W:List Int)(a b c here:Nat):Prop:=
 a<=S.length/\here<=W.length/\c<=here/\b<=a /\
 ((b=0/\c=0/\(Gl S W↔Gl (S.drop a) (W.drop here))) \/
  (0<b/\here=c+(a-b)/\(Gl S W↔Gl (-2::S.drop b) (W.drop c))/\Seg ((S.drop b).take (a-b)) ((W.drop c).take (a-b))))
theorem Pw(S W:List Int):St S W 0 0 0 0:=⟨by omega,by omega,by omega,by omega,.inl ⟨rfl,rfl,by simp⟩⟩
theorem drop_at(S:List Int)(a:Nat)(h:a<S.length):S.drop a=S.getD a 0::S.drop (a+1):=by
 rw[List.drop_eq_getElem_cons h,List.getD_eq_getElem?_getD,List.getElem?_eq_getElem h];rfl
theorem eH(S:List Int)(b a:Nat)(h:b<=a):S.drop b=(S.drop b).take (a-b)++S.drop a:=by
 have e:=List.take_append_drop (a-b) (S.drop b);rw[List.drop_drop,show b+(a-b)=a by omega] at e;exact e.symm
theorem K8(S W:List Int)(a b c here:Nat)(k:b<=a)(t:here=c+(a-b))(s:here<=W.length)(e:Seg ((S.drop b).take (a-b)) ((W.drop c).take (a-b)))(n:a<=S.length) :
  (Gl (-2::S.drop b) (W.drop c)↔∃j,here<=j/\j<=W.length/\(∃i,c<=i/\j=i+(a-b)/\Gl (S.drop b) (W.drop i))/\Gl (S.drop a) (W.drop j)):=by
 have p:=Ov e;have o:((S.drop b).take (a-b)).length=a-b:=by simp;omega
 constructor
 ·intro h;obtain⟨i,hi,l⟩:=(ZC _ _).1 h;rw[List.drop_drop] at l;have d:=l;rw[eH S b a k] at d;obtain⟨g,f⟩:=Et _ _ _ p d;rw[o] at g f;rw[List.drop_drop] at f;simp at hi g;exact⟨c+i+(a-b),by omega,by omega,⟨c+i,by omega,rfl,l⟩,f⟩
 ·rintro ⟨j,g,f,⟨i,q,r,m⟩,_⟩;refine (ZC _ _).2 ⟨i-c,by simp;omega,?_⟩;rw[List.drop_drop,show c+(i-c)=i by omega];exact m
theorem om(b W:List Int)(j h:Nat)(d:h<=j)(c:j<=W.length)(a:Gl (-2::b) (W.drop j)):Gl (-2::b) (W.drop h):=by
 obtain⟨i,hi,a⟩:=(ZC _ _).1 a;refine (ZC _ _).2 ⟨i+(j-h),by simp at hi |-;omega,?_⟩;rw[List.drop_drop] at a |-;rw[show h+(i+(j-h))=j+i by omega];exact a
theorem nR(S W:List Int)(a b c here:Nat)(f:b<=a)(i:here=c+(a-b))(d:Seg ((S.drop b).take (a-b)) ((W.drop c).take (a-b)))
  (h:Gl (S.drop a) (W.drop here)):Gl (S.drop b) (W.drop c):=by
 have g:=Ou d _ _ h;rw[<- eH S b a f] at g
 have e:(W.drop c).take (a-b)++W.drop here=W.drop c:=by
  have e:=List.take_append_drop (a-b) (W.drop c);rw[List.drop_drop,<- i] at e;exact e
 rwa [e] at g
theorem Px(S W:List Int)(a c b here:Nat)(h:St S W a c b here)(o:a<S.length)(e:S.getD a 0 = -2):St S W (a+1) (a+1) here here:=by
 obtain⟨m,d,p,g,n⟩:=h;refine⟨by omega,d,Nat.le_refl _,Nat.le_refl _,.inr ⟨by omega,by omega,?_,by simp;exact .nil⟩⟩;have hd:=drop_at S a o;rw[e] at hd;rw[<- hd]
 rcases n with ⟨_,_,h6⟩|⟨_,hh,h6,hseg⟩
 ·exact h6
 ·rw[h6,K8 S W a c b here g hh d hseg m]
  constructor
  ·rintro ⟨j,k,l,_,f⟩;rw[hd] at f |-;exact om _ W j here k l f
  ·intro i;exact⟨here,Nat.le_refl _,d,⟨b,Nat.le_refl _,hh,nR S W a c b here g hh hseg i⟩,i⟩
theorem Py(S W:List Int)(a b d here:Nat)(h:St S W a b d here)(i:a<S.length)(j:here<W.length)(e:S.getD a 0 ≠ -2)(g:S.getD a 0 = -1\/S.getD a 0=W.getD here 0) :
  St S W (a+1) b d (here+1):=by
 obtain⟨o,p,q,r,m⟩:=h;refine⟨by omega,by omega,by omega,by omega,?_⟩
 rcases m with ⟨h6,h7,h8⟩|⟨h6,h7,h8,hseg⟩
 ·refine .inl ⟨h6,h7,?_⟩;rw[h8,drop_at S a i,drop_at W here j,Xk _ _ _ e]
  constructor
  ·rintro ⟨c,s,n,_,f⟩;cases n;exact f
  ·intro f;exact⟨_,_,rfl,g,f⟩
 ·refine .inr ⟨h6,by omega,h8,?_⟩
  have k:(S.drop b).take (a+1-b)=(S.drop b).take (a-b)++[S.getD a 0]:=by
   rw[show a+1-b=a-b+1 by omega,List.take_succ_eq_append_getElem (by simp;omega)];congr 1;rw[List.getElem_drop,List.getD_eq_getElem?_getD,List.getElem?_eq_getElem i];simp[show b+(a-b)=a by omega]
  have l:(W.drop d).take (a+1-b)=(W.drop d).take (a-b)++[W.getD here 0]:=by
   rw[show a+1-b=a-b+1 by omega,List.take_succ_eq_append_getElem (by simp;omega)];congr 1;rw[List.getElem_drop,List.getD_eq_getElem?_getD,List.getElem?_eq_getElem j];simp[show d+(a-b)=here by omega]
  rw[k,l];exact Ow hseg _ _ e g
def Bad(S W:List Int)(a here:Nat):Prop:=a<S.length->S.getD a 0 ≠ -2/\¬(S.getD a 0 = -1\/S.getD a 0=W.getD here 0)
theorem bX(S W:List Int)(a here:Nat)(hb:Bad S W a here)(f:here<W.length):¬Gl (S.drop a) (W.drop here):=by
 intro h
 by_cases ha:a<S.length
 ·obtain⟨b,d⟩:=hb ha;rw[drop_at S a ha,drop_at W here f,Xk _ _ _ b] at h;obtain⟨c,i,g,e,_⟩:=h
  cases g
  exact d e
 ·rw[List.drop_of_length_le (by omega),YU] at h
  have:=congrArg List.length h
  simp at this;omega
theorem og(S W:List Int)(a c b here:Nat)(h:St S W a c b here)(hb:Bad S W a here)(o:here<W.length)(g:0<c):St S W c c (b+1) (b+1):=by
 obtain⟨k,l,t,m,n⟩:=h;refine⟨by omega,by omega,Nat.le_refl _,Nat.le_refl _,.inr ⟨g,by omega,?_,by simp;exact .nil⟩⟩
 rcases n with ⟨h6,_⟩|⟨_,h7,h8,hseg⟩
 ·omega
 ·rw[h8]
  constructor
  ·intro d;rw[K8 S W a c b here m h7 l hseg k] at d;obtain⟨j,p,q,⟨i,r,s,e⟩,f⟩:=d
   have:i≠b:=by
    rintro rfl
    have:j=here:=by omega
    subst this;exact bX S W a j hb o f
   refine (ZC _ _).2 ⟨i-(b+1),by simp;omega,?_⟩;rw[List.drop_drop,show b+1+(i-(b+1))=i by omega];exact e
  ·intro d;exact om _ W (b+1) b (by omega) (by omega) d
theorem oh(S W:List Int)(a d here:Nat)(h:St S W a 0 d here)(hb:Bad S W a here)(c:here<W.length):¬Gl S W:=by
 obtain⟨e,f,g,i,b⟩:=h
 rcases b with ⟨_,_,h8⟩|⟨h6,_⟩
 ·rw[h8];exact bX S W a here hb c
 ·omega
theorem Ez(S:List Int):Gl S []↔∀s ∈ S,s = -2:=by
 induction S with
 | nil=>simp[YU]
 | cons s S b=>
  by_cases hs:s = -2
  ·subst hs;rw[ZC];simp only[List.drop_nil,List.length_nil,List.mem_cons,forall_eq_or_imp,true_and];rw[<- b]
   constructor
   ·rintro ⟨_,_,h⟩;exact h
   ·intro h;exact⟨0,Nat.le_refl _,h⟩
  ·rw[Xk _ _ _ hs]
   constructor
   ·rintro ⟨c,d,a,_⟩;cases a
   ·intro h;exact absurd (h s (by simp)) hs
theorem Pv(S W:List Int)(a d c here:Nat)(h:St S W a d c here)(q:¬here<W.length):Gl S W↔∀s ∈ S.drop a,s = -2:=by
 obtain⟨k,f,p,g,l⟩:=h;have i:here=W.length:=by omega
 rw[<- Ez]
 rcases l with ⟨_,_,h8⟩|⟨_,h7,h8,hseg⟩
 ·rw[h8,i,List.drop_length]
 ·rw[h8,K8 S W a d c here g h7 f hseg k]
  constructor
  ·rintro ⟨j,n,o,_,e⟩
   have:j=W.length:=by omega
   rw[this,List.drop_length] at e;exact e
  ·intro m;have b:Gl (S.drop a) (W.drop here):=by rw[i,List.drop_length];exact m
   exact⟨here,Nat.le_refl _,f,⟨c,Nat.le_refl _,h7,nR S W a d c here g h7 hseg b⟩,b⟩
def meas(n m a b:Nat):Nat:=(m+1-b)*(n+1)+(n+1-a)
theorem iB(n m a c b:Nat)(d:a<n)(e:c<=b):meas n m (a+1) b<meas n m a c:=by
 unfold meas
 have:(m+1-b)*(n+1)<=(m+1-c)*(n+1):=Nat.mul_le_mul_right _ (by omega)
 omega
theorem iC(n m a c b:Nat)(e:b<m)(d:a<=n):meas n m c (b+1)<meas n m a b:=by
 unfold meas
 have:(m+1-b)=(m+1-(b+1))+1:=by omega
 rw[this,Nat.succ_mul];omega
end Pg
end Go.Proofs.YtdakgnaojakldaaGreatDoor
namespace Go.Proofs.YtdakgnaojakldaaGreatDoor
open Go.RowKit
def Qj(s:Int):Bool:=s == -2
def Jp(s c:Int):Bool:=s == -1||s==c
theorem U8(s:Int)(w:World):Calls prog 238 #[.int .i32 s] w λe a=>e = .returned (.bool (Qj s))/\a=w:=by
 unfold Qj;go_enter func238,ntmps238
 go_wp2
 go_ret;exact⟨rfl,rfl⟩
theorem Sa(s c:Int)(w:World):Calls prog 239 #[.int .i32 s,.int .i32 c] w λe a=>e = .returned (.bool (Jp s c))/\a=w:=by
 unfold Jp
 cases h:s == -1 with
 | true=>
  go_enter func239,ntmps239
  go_wp2
  go_ret;exact⟨rfl,rfl⟩
 | false=>
  go_enter func239,ntmps239
  go_wp2
  go_ret;exact⟨by simp,rfl⟩
theorem rM(S:List Int)(a:Nat):jK (λj=>Qj (S.getD (a+j) 0)) (S.length-a)=true↔∀s ∈ S.drop a,s = -2:=by
 unfold jK Qj;rw[List.all_eq_true]
 constructor
 ·intro h s d;obtain⟨j,b,rfl⟩:=List.mem_iff_getElem.1 d;simp at b
  have:=h j (List.mem_range.2 (by omega))
  rw[List.getD_eq_getElem?_getD,List.getElem?_eq_getElem (by omega)] at this
  simpa [List.getElem_drop] using this
 ·intro h j b;have c:=List.mem_range.1 b;rw[List.getD_eq_getElem?_getD,List.getElem?_eq_getElem (by omega)]
  have:=h (S[a+j]'(by omega)) (by rw[List.mem_iff_getElem];exact⟨j,by simp;omega,by simp⟩)
  simpa using this
theorem Iy(S W:List Int)(ao N:Option Addr)(c1 c2:Nat)(w:World)(O:rowAt w ao S.length λj=>S.getD j 0)(V:rowAt w N W.length λj=>W.getD j 0)
  (U:S.length<=1000000)(X:W.length<=1000000)(a1:S.length<=c1)(A:Bool)(C:A=true↔Pg.Gl S W) :
  Calls prog 214 #[.slice ao S.length c1,.slice N W.length c2] w λe q=>e = .returned (.bool A)/\Below w.heap.size w q:=by
 have I:=hid C;clear C;go_enter func214,ntmps214
 go_wp2
 go_loopw [5,6,7,8] (λJ T M hv wr=>∃a b t h:Nat,J = .int .i64 a/\T = .int .i64 b/\M = .int .i64 t/\hv = .int .i64 h/\Pg.St S W a b t h/\Below w.heap.size w wr)
  (λJ _ M _ _=>Pg.meas S.length W.length (intOf J).toNat (intOf M).toNat)
 case atStart=>exact⟨0,0,0,0,rfl,rfl,rfl,rfl,Pg.Pw S W,Below.refl _ _⟩
 case round=>
  obtain⟨a,b,t,h,rfl,rfl,rfl,rfl,f,k⟩:=hrel;have y:=hid f;have L:a<=S.length/\h<=W.length/\t<=h/\b<=a:=⟨f.1,f.2.1,f.2.2.1,f.2.2.2.1⟩;obtain⟨E,Z,K,a0⟩:=L;clear f
  by_cases hlt:h<W.length
  ·have R:(h:Int)<(W.length:Int):=by omega
   rcases V with h0|⟨wb,wo,rfl,hwc⟩
   ·omega
   have qw:=zb k (hwc h hlt);obtain⟨c,p⟩:=Nm (W.getD h 0);simp only[p] at qw
   by_cases ha:a<S.length
   ·have Y:(a:Int)<(S.length:Int):=by omega
    rcases O with h0|⟨sb,so,rfl,hsc⟩
    ·omega
    have qs:=zb k (hsc a ha);obtain⟨s,u⟩:=Nm (S.getD a 0);simp only[u] at qs;clear hsc hwc
    cases hm:Qj s with
    | true=>
     have g:S.getD a 0 = -2:=by rw[u];simpa [Qj] using hm
     have f:=hid (Pg.Px S W a b t h y.out ha g);have i:=λz=>U8 s z;rw[hm] at i;have HC:=hid p;clear u g hm p
     go_wp2_with (go_at_call 238;refine (i _).mono ?_;rintro e q ⟨rfl,rfl⟩)
     go_roundw
     case rel=>exact⟨a+1,a+1,h,h,by go_num,by go_num,rfl,rfl,f.out,k⟩
     case measure=>simp[intOf];exact Pg.iB _ _ _ _ _ ha K
    | false=>
     have g:S.getD a 0 ≠ -2:=by rw[u];simpa [Qj] using hm
     have i:=λz=>U8 s z;rw[hm] at i;have m:=λz=>Sa s c z
     cases hk:Jp s c with
     | true=>
      have G:S.getD a 0 = -1\/S.getD a 0=W.getD h 0:=by rw[u,p];simpa [Jp] using hk
      have f:=hid (Pg.Py S W a b t h y.out ha hlt g G);rw[hk] at m;clear u g G hm p hk
      go_wp2_with (go_at_call 238;refine (i _).mono ?_;rintro e q ⟨rfl,rfl⟩)
      go_quiet ((go_at_call 239;exact Calls.quiet_of_same (m _)))
      go_wp2
      exact⟨⟨a+1,b,t,h+1,by go_num,rfl,rfl,by go_num,f.out,below_drewN k nq⟩,by simp[intOf];exact Pg.iB _ _ _ _ _ ha (Nat.le_refl _)⟩
     | false=>
      have d:Pg.Bad S W a h:=λ_=>⟨g,by rw[u,p];simpa [Jp] using hk⟩;rw[hk] at m
      by_cases hb0:0<b
      ·have f:=hid (Pg.og S W a b t h y.out d hlt hb0);have D:(0:Int)<(b:Int):=by omega
       clear u g hm p hk d
       go_wp2_with (go_at_call 238;refine (i _).mono ?_;rintro e q ⟨rfl,rfl⟩)
       go_quiet ((go_at_call 239;exact Calls.quiet_of_same (m _)))
       go_wp2
       exact⟨⟨b,b,t+1,t+1,rfl,rfl,by go_num,by go_num,f.out,below_drewN k nq⟩,by simp[intOf];exact Pg.iC _ _ _ _ _ (by omega) E⟩
      ·obtain rfl:b=0:=by omega
       have F:=Pg.oh S W a t h y.out d hlt
       have C:A=false:=by
        cases A with
        | false=>rfl
        | true=>exact absurd (I.out.1 rfl) F
       subst C;clear u g hm p hk d F
       go_wp2_with (go_at_call 238;refine (i _).mono ?_;rintro e q ⟨rfl,rfl⟩)
       go_quiet ((go_at_call 239;exact Calls.quiet_of_same (m _)))
       go_wp2
       go_ret;exact⟨rfl,below_drewN k nq⟩
   ·have d:Pg.Bad S W a h:=λh=>absurd h ha;have da:decide ((a:Int)<(S.length:Int))=false:=decide_eq_false (by omega)
    by_cases hb0:0<b
    ·have f:=hid (Pg.og S W a b t h y.out d hlt hb0);have D:(0:Int)<(b:Int):=by omega
     clear d p;go_wp2_with fail
     go_quiet (fail)
     go_wp2
     exact⟨⟨b,b,t+1,t+1,rfl,rfl,by go_num,by go_num,f.out,below_drewN k nq⟩,by simp[intOf];exact Pg.iC _ _ _ _ _ (by omega) E⟩
    ·obtain rfl:b=0:=by omega
     have F:=Pg.oh S W a t h y.out d hlt
     have C:A=false:=by
      cases A with
      | false=>rfl
      | true=>exact absurd (I.out.1 rfl) F
     subst C;clear d F p;go_wp2_with fail
     go_quiet (fail)
     go_wp2
     go_ret;exact⟨rfl,below_drewN k nq⟩
  ·have H:=Pg.Pv S W a b t h y.out hlt;have P:(a:Int)<=(S.length:Int):=by omega
   have Q:(a:Int)<=(c1:Int):=by omega
   have v:jK (λj=>Qj (S.getD (a+j) 0)) (S.length-a)=A:=by
    rw[Bool.eq_iff_iff,rM S a,<- H];exact I.out.symm
   have o:=KZ O k
   have l:∀(r:Option Addr) (n:Nat),rowAt wr r (S.length-a) (λj=>S.getD (a+j) 0)->Calls prog 240 #[.slice r ((S.length-a:Nat)) n,.func (.func 238) #[] #[]] wr λe q=>e = .returned (.bool A)/\Below wr.heap.size wr q:=by
    intro r n hr
    have c:=sj (S.length-a) r n 238 #[] (λj=>S.getD (a+j) 0) (λj=>Qj (S.getD (a+j) 0)) wr (by omega)
     (enters_of func238 (by kernel_rfl) rfl) hr
     (λz j _ _=>(U8 _ z).mono λe q ⟨H,k⟩=>⟨H,k ▸ Below.refl _ _⟩)
    rw[v] at c;exact c
   clear H v
   by_cases hca:c1=a
   ·have c:=l ao 0 (.inl (by omega));clear l o
    go_wp2_with (go_at_call 240;refine c.mono ?_;rintro e q ⟨rfl,B⟩)
    go_ret;exact⟨rfl,k.trans (B.mono k.size)⟩
   ·have c:=l (ao.map λx=>x.add a) (c1-a) (by
     rcases o with h0|⟨sb,so,rfl,hsc⟩
     ·exact .inl (by omega)
     ·refine .inr ⟨sb,so+a,by simp[addr_add],λj hj=>?_⟩
      have:=hsc (a+j) (by omega)
      rw[Nat.add_assoc];exact this)
    clear l o
    go_wp2_with (go_at_call 240;refine c.mono ?_;rintro e q ⟨rfl,B⟩)
    go_ret;exact⟨rfl,k.trans (B.mono k.size)⟩
end Go.Proofs.YtdakgnaojakldaaGreatDoor
