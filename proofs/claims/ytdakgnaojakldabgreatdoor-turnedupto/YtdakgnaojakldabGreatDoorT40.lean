/- P -/
import Derived.Test.YtdakgnaojakldabGreatDoorT12
import Derived.Deep.QuietTactic
import Derived.BigQuiet
open Go.Proofs.Tryz
set_option maxRecDepth 100000
set_option maxHeartbeats 1000000
namespace Go.Proofs.YtdakgnaojakldabGreatDoor
namespace Pg
open Ref
inductive Gl:List Int->List Int->Prop
 | nil:Gl [] []
 | skip {ss w:List Int}:Gl ss w->Gl (-2::ss) w
 | more {ss w:List Int} {c:Int}:Gl (-2::ss) w->Gl (-2::ss) (c::w)
 | one {s c:Int} {ss w:List Int}:s ≠ -2->(s = -1\/s=c)->Gl ss w->Gl (s::ss) (c::w)
theorem Yw(w:List Int):Gl [] w↔w=[]:=by
 constructor
 ·intro h;cases h;rfl
 ·rintro rfl;exact .nil
theorem QZ(s:Int)(f w:List Int)(d:s ≠ -2):Gl (s::f) w↔∃c e,w=c::e/\(s = -1\/s=c)/\Gl f e:=by
 constructor
 ·intro h
  cases h with
  | skip h=>exact absurd rfl d
  | more h=>exact absurd rfl d
  | one g a b=>exact⟨_,_,rfl,a,b⟩
 ·rintro ⟨c,e,rfl,a,b⟩;exact .one d a b
theorem Dm{S w:List Int}(h:Gl S w):∀a,S = -2::a->∃i,i<=w.length/\Gl a (w.drop i):=by
 induction h with
 | nil=>intro a e;cases e
 | skip h _=>intro a e;cases e;exact⟨0,by omega,by simpa using h⟩
 | more h d=>
  intro a e
  cases e
  obtain⟨i,f,c⟩:=d _ rfl;exact⟨i+1,by simp;omega,by simpa using c⟩
 | one b _ _ _=>intro a e;cases e;exact absurd rfl b
theorem Zn(a w:List Int):Gl (-2::a) w↔∃i,i<=w.length/\Gl a (w.drop i):=by
 constructor
 ·intro h;exact Dm h a rfl
 ·rintro ⟨i,d,b⟩
  induction i generalizing w with
  | zero=>exact .skip (by simpa using b)
  | succ i e=>
   cases w with
   | nil=>simp at d
   | cons c w=>exact .more (e w (by simpa using d) (by simpa using b))
inductive Seg:List Int->List Int->Prop
 | nil:Seg [] []
 | cons {s c:Int} {ss w:List Int}:s ≠ -2->(s = -1\/s=c)->Seg ss w->Seg (s::ss) (c::w)
theorem Ni{a w:List Int}(h:Seg a w)(s c:Int)(f:s ≠ -2)(e:s = -1\/s=c):Seg (a++[s]) (w++[c]):=by
 induction h with
 | nil=>exact .cons f e .nil
 | cons b d _ g=>exact .cons b d g
def gF(a:List Int):Prop:=∀s ∈ a,s ≠ -2
theorem Nh{a w:List Int}(h:Seg a w):gF a:=by
 induction h with
 | nil=>intro s b;cases b
 | cons c _ _ d=>
  intro s b
  rcases List.mem_cons.1 b with rfl|b
  ·exact c
  ·exact d s b
theorem Ng{a w:List Int}(h:Seg a w)(r v:List Int)(d:Gl r v):Gl (a++r) (w++v):=by
 induction h with
 | nil=>exact d
 | cons b c _ e=>exact .one b c e
theorem Di(a r w:List Int)(b:gF a)(h:Gl (a++r) w):a.length<=w.length/\Gl r (w.drop a.length):=by
 induction a generalizing w with
 | nil=>exact⟨by simp,by simpa using h⟩
 | cons s a g=>
  obtain⟨c,i,rfl,_,d⟩:=(QZ s (a++r) w (b s (by simp))).1 h;obtain⟨j,e⟩:=g i (λs f=>b s (by simp[f])) d;exact⟨by simp;omega,by simpa using e⟩
def St(S W:List Int)(a b c here:Nat):Prop:=
 a<=S.length/\here<=W.length/\c<=here/\b<=a /\
 ((b=0/\c=0/\(Gl S W↔Gl (S.drop a) (W.drop here))) \/
  (0<b/\here=c+(a-b)/\(Gl S W↔Gl (-2::S.drop b) (W.drop c))/\Seg ((S.drop b).take (a-b)) ((W.drop c).take (a-b))))
theorem Oc(S W:List Int):St S W 0 0 0 0:=⟨by omega,by omega,by omega,by omega,.inl ⟨rfl,rfl,by simp⟩⟩
theorem drop_at(S:List Int)(a:Nat)(h:a<S.length):S.drop a=S.getD a 0::S.drop (a+1):=by
 rw[List.drop_eq_getElem_cons h,List.getD_eq_getElem?_getD,List.getElem?_eq_getElem h];rfl
theorem bU(S:List Int)(b a:Nat)(h:b<=a):S.drop b=(S.drop b).take (a-b)++S.drop a:=by
 have e:=List.take_append_drop (a-b) (S.drop b);rw[List.drop_drop,show b+(a-b)=a by omega] at e;exact e.symm
theorem Kl(S W:List Int)(a b c here:Nat)(k:b<=a)(u:here=c+(a-b))(t:here<=W.length)(e:Seg ((S.drop b).take (a-b)) ((W.drop c).take (a-b)))(n:a<=S.length) :
  (Gl (-2::S.drop b) (W.drop c)↔∃j,here<=j/\j<=W.length/\(∃i,c<=i/\j=i+(a-b)/\Gl (S.drop b) (W.drop i))/\Gl (S.drop a) (W.drop j)):=by
 have q:=Nh e;have p:((S.drop b).take (a-b)).length=a-b:=by simp;omega
 constructor
 ·intro h;obtain⟨i,o,l⟩:=(Zn _ _).1 h;rw[List.drop_drop] at l;have d:=l;rw[bU S b a k] at d;obtain⟨g,f⟩:=Di _ _ _ q d;rw[p] at g f;rw[List.drop_drop] at f;simp at o g;exact⟨c+i+(a-b),by omega,by omega,⟨c+i,by omega,rfl,l⟩,f⟩
 ·rintro ⟨j,g,f,⟨i,r,s,m⟩,_⟩;refine (Zn _ _).2 ⟨i-c,by simp;omega,?_⟩;rw[List.drop_drop,show c+(i-c)=i by omega];exact m
theorem mf(b W:List Int)(j h:Nat)(e:h<=j)(d:j<=W.length)(a:Gl (-2::b) (W.drop j)):Gl (-2::b) (W.drop h):=by
 obtain⟨i,c,a⟩:=(Zn _ _).1 a;refine (Zn _ _).2 ⟨i+(j-h),by simp at c |-;omega,?_⟩;rw[List.drop_drop] at a |-;rw[show h+(i+(j-h))=j+i by omega];exact a
theorem lL(S W:List Int)(a b c here:Nat)(f:b<=a)(i:here=c+(a-b))(d:Seg ((S.drop b).take (a-b)) ((W.drop c).take (a-b)))
  (h:Gl (S.drop a) (W.drop here)):Gl (S.drop b) (W.drop c):=by
 have g:=Ng d _ _ h;rw[<- bU S b a f] at g
 have e:(W.drop c).take (a-b)++W.drop here=W.drop c:=by
  have e:=List.take_append_drop (a-b) (W.drop c);rw[List.drop_drop,<- i] at e;exact e
 rwa [e] at g
theorem Od(S W:List Int)(a c b here:Nat)(h:St S W a c b here)(o:a<S.length)(e:S.getD a 0 = -2):St S W (a+1) (a+1) here here:=by
 obtain⟨m,d,p,g,n⟩:=h;refine⟨by omega,d,Nat.le_refl _,Nat.le_refl _,.inr ⟨by omega,by omega,?_,by simp;exact .nil⟩⟩;have hd:=drop_at S a o;rw[e] at hd;rw[<- hd]
 rcases n with ⟨_,_,h6⟩|⟨_,hh,h6,hseg⟩
 ·exact h6
 ·rw[h6,Kl S W a c b here g hh d hseg m]
  constructor
  ·rintro ⟨j,k,l,_,f⟩;rw[hd] at f |-;exact mf _ W j here k l f
  ·intro i;exact⟨here,Nat.le_refl _,d,⟨b,Nat.le_refl _,hh,lL S W a c b here g hh hseg i⟩,i⟩
theorem Oe(S W:List Int)(a b d here:Nat)(h:St S W a b d here)(i:a<S.length)(j:here<W.length)(e:S.getD a 0 ≠ -2)(g:S.getD a 0 = -1\/S.getD a 0=W.getD here 0) :
  St S W (a+1) b d (here+1):=by
 obtain⟨o,p,q,r,m⟩:=h;refine⟨by omega,by omega,by omega,by omega,?_⟩
 rcases m with ⟨h6,h7,h8⟩|⟨h6,h7,h8,hseg⟩
 ·refine .inl ⟨h6,h7,?_⟩;rw[h8,drop_at S a i,drop_at W here j,QZ _ _ _ e]
  constructor
  ·rintro ⟨c,s,n,_,f⟩;cases n;exact f
  ·intro f;exact⟨_,_,rfl,g,f⟩
 ·refine .inr ⟨h6,by omega,h8,?_⟩
  have k:(S.drop b).take (a+1-b)=(S.drop b).take (a-b)++[S.getD a 0]:=by
   rw[show a+1-b=a-b+1 by omega,List.take_succ_eq_append_getElem (by simp;omega)];congr 1;rw[List.getElem_drop,List.getD_eq_getElem?_getD,List.getElem?_eq_getElem i];simp[show b+(a-b)=a by omega]
  have l:(W.drop d).take (a+1-b)=(W.drop d).take (a-b)++[W.getD here 0]:=by
   rw[show a+1-b=a-b+1 by omega,List.take_succ_eq_append_getElem (by simp;omega)];congr 1;rw[List.getElem_drop,List.getD_eq_getElem?_getD,List.getElem?_eq_getElem j];simp[show d+(a-b)=here by omega]
  rw[k,l];exact Ni hseg _ _ e g
def Bad(S W:List Int)(a here:Nat):Prop:=a<S.length->S.getD a 0 ≠ -2/\¬(S.getD a 0 = -1\/S.getD a 0=W.getD here 0)
theorem aH(S W:List Int)(a here:Nat)(e:Bad S W a here)(g:here<W.length):¬Gl (S.drop a) (W.drop here):=by
 intro h
 by_cases ha:a<S.length
 ·obtain⟨b,d⟩:=e ha;rw[drop_at S a ha,drop_at W here g,QZ _ _ _ b] at h;obtain⟨c,j,i,f,_⟩:=h
  cases i
  exact d f
 ·rw[List.drop_of_length_le (by omega),Yw] at h
  have:=congrArg List.length h
  simp at this;omega
theorem lW(S W:List Int)(a c b here:Nat)(h:St S W a c b here)(o:Bad S W a here)(p:here<W.length)(g:0<c):St S W c c (b+1) (b+1):=by
 obtain⟨k,l,u,m,n⟩:=h;refine⟨by omega,by omega,Nat.le_refl _,Nat.le_refl _,.inr ⟨g,by omega,?_,by simp;exact .nil⟩⟩
 rcases n with ⟨h6,_⟩|⟨_,h7,h8,hseg⟩
 ·omega
 ·rw[h8]
  constructor
  ·intro d;rw[Kl S W a c b here m h7 l hseg k] at d;obtain⟨j,q,r,⟨i,s,t,e⟩,f⟩:=d
   have:i≠b:=by
    rintro rfl
    have:j=here:=by omega
    subst this;exact aH S W a j o p f
   refine (Zn _ _).2 ⟨i-(b+1),by simp;omega,?_⟩;rw[List.drop_drop,show b+1+(i-(b+1))=i by omega];exact e
  ·intro d;exact mf _ W (b+1) b (by omega) (by omega) d
theorem lX(S W:List Int)(a e here:Nat)(h:St S W a 0 e here)(c:Bad S W a here)(d:here<W.length):¬Gl S W:=by
 obtain⟨f,g,i,j,b⟩:=h
 rcases b with ⟨_,_,h8⟩|⟨h6,_⟩
 ·rw[h8];exact aH S W a here c d
 ·omega
theorem Dn(S:List Int):Gl S []↔∀s ∈ S,s = -2:=by
 induction S with
 | nil=>simp[Yw]
 | cons s S b=>
  by_cases hs:s = -2
  ·subst hs;rw[Zn];simp only[List.drop_nil,List.length_nil,List.mem_cons,forall_eq_or_imp,true_and];rw[<- b]
   constructor
   ·rintro ⟨_,_,h⟩;exact h
   ·intro h;exact⟨0,Nat.le_refl _,h⟩
  ·rw[QZ _ _ _ hs]
   constructor
   ·rintro ⟨c,d,a,_⟩;cases a
   ·intro h;exact absurd (h s (by simp)) hs
theorem Ob(S W:List Int)(a d c here:Nat)(h:St S W a d c here)(q:¬here<W.length):Gl S W↔∀s ∈ S.drop a,s = -2:=by
 obtain⟨k,f,p,g,l⟩:=h;have i:here=W.length:=by omega
 rw[<- Dn]
 rcases l with ⟨_,_,h8⟩|⟨_,h7,h8,hseg⟩
 ·rw[h8,i,List.drop_length]
 ·rw[h8,Kl S W a d c here g h7 f hseg k]
  constructor
  ·rintro ⟨j,n,o,_,e⟩
   have:j=W.length:=by omega
   rw[this,List.drop_length] at e;exact e
  ·intro m;have b:Gl (S.drop a) (W.drop here):=by rw[i,List.drop_length];exact m
   exact⟨here,Nat.le_refl _,f,⟨c,Nat.le_refl _,h7,lL S W a d c here g h7 hseg b⟩,b⟩
def meas(n m a b:Nat):Nat:=(m+1-b)*(n+1)+(n+1-a)
theorem fO(n m a c b:Nat)(d:a<n)(e:c<=b):meas n m (a+1) b<meas n m a c:=by
 unfold meas
 have:(m+1-b)*(n+1)<=(m+1-c)*(n+1):=Nat.mul_le_mul_right _ (by omega)
 omega
theorem fP(n m a c b:Nat)(e:b<m)(d:a<=n):meas n m c (b+1)<meas n m a b:=by
 unfold meas
 have:(m+1-b)=(m+1-(b+1))+1:=by omega
 rw[this,Nat.succ_mul];omega
end Pg
end Go.Proofs.YtdakgnaojakldabGreatDoor
namespace Go.Proofs.YtdakgnaojakldabGreatDoor
open Go.RowKit
def Z5(s:Int):Bool:=s == -2
def YV(s c:Int):Bool:=s == -1||s==c
theorem Uw(s:Int)(w:World):Calls prog 150 #[.int .i32 s] w λe a=>e = .returned (.bool (Z5 s))/\a=w:=by
 unfold Z5;go_enter func150,ntmps150
 go_wp2
 go_ret;exact⟨rfl,rfl⟩
theorem PR(s c:Int)(w:World):Calls prog 151 #[.int .i32 s,.int .i32 c] w λe a=>e = .returned (.bool (YV s c))/\a=w:=by
 unfold YV
 cases h:s == -1 with
 | true=>
  go_enter func151,ntmps151
  go_wp2
  go_ret;exact⟨rfl,rfl⟩
 | false=>
  go_enter func151,ntmps151
  go_wp2
  go_ret;exact⟨by simp,rfl⟩
theorem oq(S:List Int)(a:Nat):jD (λj=>Z5 (S.getD (a+j) 0)) (S.length-a)=true↔∀s ∈ S.drop a,s = -2:=by
 unfold jD Z5;rw[List.all_eq_true]
 constructor
 ·intro h s d;obtain⟨j,b,rfl⟩:=List.mem_iff_getElem.1 d;simp at b
  have:=h j (List.mem_range.2 (by omega))
  rw[List.getD_eq_getElem?_getD,List.getElem?_eq_getElem (by omega)] at this
  simpa [List.getElem_drop] using this
 ·intro h j b;have c:=List.mem_range.1 b;rw[List.getD_eq_getElem?_getD,List.getElem?_eq_getElem (by omega)]
  have:=h (S[a+j]'(by omega)) (by rw[List.mem_iff_getElem];exact⟨j,by simp;omega,by simp⟩)
  simpa using this
theorem Gw(S W:List Int)(ao N:Option Addr)(c1 c2:Nat)(w:World)(O:rowAt w ao S.length λj=>S.getD j 0)(V:rowAt w N W.length λj=>W.getD j 0)
  (U:S.length<=1000000)(X:W.length<=1000000)(a1:S.length<=c1)(A:Bool)(C:A=true↔Pg.Gl S W) :
  Calls prog 148 #[.slice ao S.length c1,.slice N W.length c2] w λe q=>e = .returned (.bool A)/\Below w.heap.size w q:=by
 have I:=hid C;clear C;go_enter func148,ntmps148
 go_wp2
 go_loopw [5,6,7,8] (λJ T M hv wr=>∃a b t h:Nat,J = .int .i64 a/\T = .int .i64 b/\M = .int .i64 t/\hv = .int .i64 h/\Pg.St S W a b t h/\Below w.heap.size w wr)
  (λJ _ M _ _=>Pg.meas S.length W.length (intOf J).toNat (intOf M).toNat)
 case atStart=>exact⟨0,0,0,0,rfl,rfl,rfl,rfl,Pg.Oc S W,Below.refl _ _⟩
 case round=>
  obtain⟨a,b,t,h,rfl,rfl,rfl,rfl,f,k⟩:=hrel;have y:=hid f;have L:a<=S.length/\h<=W.length/\t<=h/\b<=a:=⟨f.1,f.2.1,f.2.2.1,f.2.2.2.1⟩;obtain⟨E,Z,K,a0⟩:=L;clear f
  by_cases hlt:h<W.length
  ·have R:(h:Int)<(W.length:Int):=by omega
   rcases V with h0|⟨wb,wo,rfl,hwc⟩
   ·omega
   have qw:=zb k (hwc h hlt);obtain⟨c,p⟩:=Nm (W.getD h 0);simp only[p] at qw
   by_cases ha:a<S.length
   ·have Y:(a:Int)<(S.length:Int):=by omega
    rcases O with h0|⟨sb,so,rfl,hsc⟩
    ·omega
    have qs:=zb k (hsc a ha);obtain⟨s,u⟩:=Nm (S.getD a 0);simp only[u] at qs;clear hsc hwc
    cases hm:Z5 s with
    | true=>
     have g:S.getD a 0 = -2:=by rw[u];simpa [Z5] using hm
     have f:=hid (Pg.Od S W a b t h y.out ha g);have i:=λz=>Uw s z;rw[hm] at i;have HC:=hid p;clear u g hm p
     go_wp2_with (go_at_call 150;refine (i _).mono ?_;rintro e q ⟨rfl,rfl⟩)
     go_roundw
     case rel=>exact⟨a+1,a+1,h,h,by go_num,by go_num,rfl,rfl,f.out,k⟩
     case measure=>simp[intOf];exact Pg.fO _ _ _ _ _ ha K
    | false=>
     have g:S.getD a 0 ≠ -2:=by rw[u];simpa [Z5] using hm
     have i:=λz=>Uw s z;rw[hm] at i;have m:=λz=>PR s c z
     cases hk:YV s c with
     | true=>
      have G:S.getD a 0 = -1\/S.getD a 0=W.getD h 0:=by rw[u,p];simpa [YV] using hk
      have f:=hid (Pg.Oe S W a b t h y.out ha hlt g G);rw[hk] at m;clear u g G hm p hk
      go_wp2_with (go_at_call 150;refine (i _).mono ?_;rintro e q ⟨rfl,rfl⟩)
      go_quiet ((go_at_call 151;exact Calls.quiet_of_same (m _)))
      go_wp2
      exact⟨⟨a+1,b,t,h+1,by go_num,rfl,rfl,by go_num,f.out,below_drewN k nq⟩,by simp[intOf];exact Pg.fO _ _ _ _ _ ha (Nat.le_refl _)⟩
     | false=>
      have d:Pg.Bad S W a h:=λ_=>⟨g,by rw[u,p];simpa [YV] using hk⟩;rw[hk] at m
      by_cases hb0:0<b
      ·have f:=hid (Pg.lW S W a b t h y.out d hlt hb0);have D:(0:Int)<(b:Int):=by omega
       clear u g hm p hk d
       go_wp2_with (go_at_call 150;refine (i _).mono ?_;rintro e q ⟨rfl,rfl⟩)
       go_quiet ((go_at_call 151;exact Calls.quiet_of_same (m _)))
       go_wp2
       exact⟨⟨b,b,t+1,t+1,rfl,rfl,by go_num,by go_num,f.out,below_drewN k nq⟩,by simp[intOf];exact Pg.fP _ _ _ _ _ (by omega) E⟩
      ·obtain rfl:b=0:=by omega
       have F:=Pg.lX S W a t h y.out d hlt
       have C:A=false:=by
        cases A with
        | false=>rfl
        | true=>exact absurd (I.out.1 rfl) F
       subst C;clear u g hm p hk d F
       go_wp2_with (go_at_call 150;refine (i _).mono ?_;rintro e q ⟨rfl,rfl⟩)
       go_quiet ((go_at_call 151;exact Calls.quiet_of_same (m _)))
       go_wp2
       go_ret;exact⟨rfl,below_drewN k nq⟩
   ·have d:Pg.Bad S W a h:=λh=>absurd h ha;have da:decide ((a:Int)<(S.length:Int))=false:=decide_eq_false (by omega)
    by_cases hb0:0<b
    ·have f:=hid (Pg.lW S W a b t h y.out d hlt hb0);have D:(0:Int)<(b:Int):=by omega
     clear d p;go_wp2_with fail
     go_quiet (fail)
     go_wp2
     exact⟨⟨b,b,t+1,t+1,rfl,rfl,by go_num,by go_num,f.out,below_drewN k nq⟩,by simp[intOf];exact Pg.fP _ _ _ _ _ (by omega) E⟩
    ·obtain rfl:b=0:=by omega
     have F:=Pg.lX S W a t h y.out d hlt
     have C:A=false:=by
      cases A with
      | false=>rfl
      | true=>exact absurd (I.out.1 rfl) F
     subst C;clear d F p;go_wp2_with fail
     go_quiet (fail)
     go_wp2
     go_ret;exact⟨rfl,below_drewN k nq⟩
  ·have H:=Pg.Ob S W a b t h y.out hlt;have P:(a:Int)<=(S.length:Int):=by omega
   have Q:(a:Int)<=(c1:Int):=by omega
   have v:jD (λj=>Z5 (S.getD (a+j) 0)) (S.length-a)=A:=by
    rw[Bool.eq_iff_iff,oq S a,<- H];exact I.out.symm
   have o:=Ke O k
   have l:∀(r:Option Addr) (n:Nat),rowAt wr r (S.length-a) (λj=>S.getD (a+j) 0)->Calls prog 152 #[.slice r ((S.length-a:Nat)) n,.func (.func 150) #[] #[]] wr λe q=>e = .returned (.bool A)/\Below wr.heap.size wr q:=by
    intro r n hr
    have c:=oN (S.length-a) r n 150 #[] (λj=>S.getD (a+j) 0) (λj=>Z5 (S.getD (a+j) 0)) wr (by omega)
     (enters_of func150 (by kernel_rfl) rfl) hr
     (λz j _ _=>(Uw _ z).mono λe q ⟨H,k⟩=>⟨H,k ▸ Below.refl _ _⟩)
    rw[v] at c;exact c
   clear H v
   by_cases hca:c1=a
   ·have c:=l ao 0 (.inl (by omega));clear l o
    go_wp2_with (go_at_call 152;refine c.mono ?_;rintro e q ⟨rfl,B⟩)
    go_ret;exact⟨rfl,k.trans (B.mono k.size)⟩
   ·have c:=l (ao.map λx=>x.add a) (c1-a) (by
     rcases o with h0|⟨sb,so,rfl,hsc⟩
     ·exact .inl (by omega)
     ·refine .inr ⟨sb,so+a,by simp[addr_add],λj hj=>?_⟩
      have:=hsc (a+j) (by omega)
      rw[Nat.add_assoc];exact this)
    clear l o
    go_wp2_with (go_at_call 152;refine c.mono ?_;rintro e q ⟨rfl,B⟩)
    go_ret;exact⟨rfl,k.trans (B.mono k.size)⟩
end Go.Proofs.YtdakgnaojakldabGreatDoor
