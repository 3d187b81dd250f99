/- P -/
import Derived.Test.YtdakgnaojakldaaGreatDoorQ13
import Derived.Deep.QuietTactic
import Derived.BigQuiet
import Derived.Lib.ValidLaws
import Derived.Shelf.Unicode.ValidAny
import Derived.Maps.AppendAt
open Go.Proofs.Tryz
set_option maxRecDepth 100000
set_option maxHeartbeats 1000000
namespace Go.Proofs.YtdakgnaojakldaaGreatDoor
namespace Pg
open Ref
inductive Gl:List Int->List Int->Prop
 | nil:Gl [] []
 | skip {ss w:List Int}:Gl ss w->Gl (-2::ss) w
 | more {ss w:List Int} {c:Int}:Gl (-2::ss) w->Gl (-2::ss) (c::w)
 | one {s c:Int} {ss w:List Int}:s ≠ -2->(s = -1\/s=c)->Gl ss w->Gl (s::ss) (c::w)
theorem Vs(w:List Int):Gl [] w↔w=[]:=by
 constructor
 ·intro h;cases h;rfl
 ·rintro rfl;exact .nil
theorem YA(s:Int)(f w:List Int)(d:s ≠ -2):Gl (s::f) w↔∃c e,w=c::e/\(s = -1\/s=c)/\Gl f e:=by
 constructor
 ·intro h
  cases h with
  | skip h=>exact absurd rfl d
  | more h=>exact absurd rfl d
  | one g a b=>exact⟨_,_,rfl,a,b⟩
 ·rintro ⟨c,e,rfl,a,b⟩;exact .one d a b
theorem Hy{S w:List Int}(h:Gl S w):∀a,S = -2::a->∃i,i<=w.length/\Gl a (w.drop i):=by
 induction h with
 | nil=>intro a e;cases e
 | skip h _=>intro a e;cases e;exact⟨0,by omega,by simpa using h⟩
 | more h d=>
  intro a e
  cases e
  obtain⟨i,hi,c⟩:=d _ rfl;exact⟨i+1,by simp;omega,by simpa using c⟩
 | one b _ _ _=>intro a e;cases e;exact absurd rfl b
theorem QF(a w:List Int):Gl (-2::a) w↔∃i,i<=w.length/\Gl a (w.drop i):=by
 constructor
 ·intro h;exact Hy h a rfl
 ·rintro ⟨i,hi,b⟩
  induction i generalizing w with
  | zero=>exact .skip (by simpa using b)
  | succ i d=>
   cases w with
   | nil=>simp at hi
   | cons c w=>exact .more (d w (by simpa using hi) (by simpa using b))
inductive Seg:List Int->List Int->Prop
 | nil:Seg [] []
 | cons {s c:Int} {ss w:List Int}:s ≠ -2->(s = -1\/s=c)->Seg ss w->Seg (s::ss) (c::w)
theorem Sy{a w:List Int}(h:Seg a w)(s c:Int)(f:s ≠ -2)(e:s = -1\/s=c):Seg (a++[s]) (w++[c]):=by
 induction h with
 | nil=>exact .cons f e .nil
 | cons b d _ g=>exact .cons b d g
def pX(a:List Int):Prop:=∀s ∈ a,s ≠ -2
theorem Sw{a w:List Int}(h:Seg a w):pX a:=by
 induction h with
 | nil=>intro s b;cases b
 | cons c _ _ d=>
  intro s b
  rcases x8.1 b with rfl|b
  ·exact c
  ·exact d s b
theorem Sv{a w:List Int}(h:Seg a w)(r v:List Int)(d:Gl r v):Gl (a++r) (w++v):=by
 induction h with
 | nil=>exact d
 | cons b c _ e=>exact .one b c e
theorem Hr(a r w:List Int)(b:pX a)(h:Gl (a++r) w):a.length<=w.length/\Gl r (w.drop a.length):=by
 induction a generalizing w with
 | nil=>exact⟨by simp,by simpa using h⟩
 | cons s a g=>
  obtain⟨c,i,rfl,_,d⟩:=(YA s (a++r) w (b s (by simp))).1 h;obtain⟨j,e⟩:=g i (λs f=>b s (by simp[f])) d;exact⟨by simp;omega,by simpa using e⟩
def St(S W:List Int)(a b c here:Nat):Prop:=
 a<=S.length/\here<=W.length/\c<=here/\b<=a /\
 ((b=0/\c=0/\(Gl S W↔Gl (S.drop a) (W.drop here))) \/
  (0<b/\here=c+(a-b)/\(Gl S W↔Gl (-2::S.drop b) (W.drop c))/\Seg ((S.drop b).take (a-b)) ((W.drop c).take (a-b))))
theorem Tx(S W:List Int):St S W 0 0 0 0:=⟨by omega,by omega,by omega,by omega,.inl ⟨rfl,rfl,by simp⟩⟩
theorem drop_at(S:List Int)(a:Nat)(h:a<S.length):S.drop a=S.getD a 0::S.drop (a+1):=by
 rw[uS h,zL,zl h];rfl
theorem mG(S:List Int)(b a:Nat)(h:b<=a):S.drop b=(S.drop b).take (a-b)++S.drop a:=by
 have e:=V9 (a-b) (S.drop b);rw[QW,show b+(a-b)=a by omega] at e;exact e.symm
theorem fA(S W:List Int)(a b c here:Nat)(k:b<=a)(t:here=c+(a-b))(s:here<=W.length)(e:Seg ((S.drop b).take (a-b)) ((W.drop c).take (a-b)))(n:a<=S.length) :
  (Gl (-2::S.drop b) (W.drop c)↔∃j,here<=j/\j<=W.length/\(∃i,c<=i/\j=i+(a-b)/\Gl (S.drop b) (W.drop i))/\Gl (S.drop a) (W.drop j)):=by
 have p:=Sw e;have o:((S.drop b).take (a-b)).length=a-b:=by simp;omega
 constructor
 ·intro h;obtain⟨i,hi,l⟩:=(QF _ _).1 h;rw[QW] at l;have d:=l;rw[mG S b a k] at d;obtain⟨g,f⟩:=Hr _ _ _ p d;rw[o] at g f;rw[QW] at f;simp at hi g;exact⟨c+i+(a-b),by omega,by omega,⟨c+i,by omega,rfl,l⟩,f⟩
 ·rintro ⟨j,g,f,⟨i,q,r,m⟩,_⟩;refine (QF _ _).2 ⟨i-c,by simp;omega,?_⟩;rw[QW,show c+(i-c)=i by omega];exact m
theorem wR(b W:List Int)(j h:Nat)(d:h<=j)(c:j<=W.length)(a:Gl (-2::b) (W.drop j)):Gl (-2::b) (W.drop h):=by
 obtain⟨i,hi,a⟩:=(QF _ _).1 a;refine (QF _ _).2 ⟨i+(j-h),by simp at hi |-;omega,?_⟩;rw[QW] at a |-;rw[show h+(i+(j-h))=j+i by omega];exact a
theorem wC(S W:List Int)(a b c here:Nat)(f:b<=a)(i:here=c+(a-b))(d:Seg ((S.drop b).take (a-b)) ((W.drop c).take (a-b)))
  (h:Gl (S.drop a) (W.drop here)):Gl (S.drop b) (W.drop c):=by
 have g:=Sv d _ _ h;rw[<- mG S b a f] at g
 have e:(W.drop c).take (a-b)++W.drop here=W.drop c:=by
  have e:=V9 (a-b) (W.drop c);rw[QW,<- i] at e;exact e
 rwa [e] at g
theorem Ty(S W:List Int)(a c b here:Nat)(h:St S W a c b here)(o:a<S.length)(e:S.getD a 0 = -2):St S W (a+1) (a+1) here here:=by
 obtain⟨m,d,p,g,n⟩:=h;refine⟨by omega,d,ze _,ze _,.inr ⟨by omega,by omega,?_,by simp;exact .nil⟩⟩;have hd:=drop_at S a o;rw[e] at hd;rw[<- hd]
 rcases n with ⟨_,_,h6⟩|⟨_,hh,h6,hseg⟩
 ·exact h6
 ·rw[h6,fA S W a c b here g hh d hseg m]
  constructor
  ·rintro ⟨j,k,l,_,f⟩;rw[hd] at f |-;exact wR _ W j here k l f
  ·intro i;exact⟨here,ze _,d,⟨b,ze _,hh,wC S W a c b here g hh hseg i⟩,i⟩
theorem Tz(S W:List Int)(a b d here:Nat)(h:St S W a b d here)(i:a<S.length)(j:here<W.length)(e:S.getD a 0 ≠ -2)(g:S.getD a 0 = -1\/S.getD a 0=W.getD here 0) :
  St S W (a+1) b d (here+1):=by
 obtain⟨o,p,q,r,m⟩:=h;refine⟨by omega,by omega,by omega,by omega,?_⟩
 rcases m with ⟨h6,h7,h8⟩|⟨h6,h7,h8,hseg⟩
 ·refine .inl ⟨h6,h7,?_⟩;rw[h8,drop_at S a i,drop_at W here j,YA _ _ _ e]
  constructor
  ·rintro ⟨c,s,n,_,f⟩;cases n;exact f
  ·intro f;exact⟨_,_,rfl,g,f⟩
 ·refine .inr ⟨h6,by omega,h8,?_⟩
  have k:(S.drop b).take (a+1-b)=(S.drop b).take (a-b)++[S.getD a 0]:=by
   rw[show a+1-b=a-b+1 by omega,QZ (by simp;omega)];congr 1;rw[gU,zL,zl i];simp[show b+(a-b)=a by omega]
  have l:(W.drop d).take (a+1-b)=(W.drop d).take (a-b)++[W.getD here 0]:=by
   rw[show a+1-b=a-b+1 by omega,QZ (by simp;omega)];congr 1;rw[gU,zL,zl j];simp[show d+(a-b)=here by omega]
  rw[k,l];exact Sy hseg _ _ e g
def Bad(S W:List Int)(a here:Nat):Prop:=a<S.length->S.getD a 0 ≠ -2/\¬(S.getD a 0 = -1\/S.getD a 0=W.getD here 0)
theorem iN(S W:List Int)(a here:Nat)(hb:Bad S W a here)(f:here<W.length):¬Gl (S.drop a) (W.drop here):=by
 intro h
 by_cases ha:a<S.length
 ·obtain⟨b,d⟩:=hb ha;rw[drop_at S a ha,drop_at W here f,YA _ _ _ b] at h;obtain⟨c,i,g,e,_⟩:=h
  cases g
  exact d e
 ·rw[KN (by omega),Vs] at h
  have:=congrArg List.length h
  simp at this;omega
theorem wO(S W:List Int)(a c b here:Nat)(h:St S W a c b here)(hb:Bad S W a here)(o:here<W.length)(g:0<c):St S W c c (b+1) (b+1):=by
 obtain⟨k,l,t,m,n⟩:=h;refine⟨by omega,by omega,ze _,ze _,.inr ⟨g,by omega,?_,by simp;exact .nil⟩⟩
 rcases n with ⟨h6,_⟩|⟨_,h7,h8,hseg⟩
 ·omega
 ·rw[h8]
  constructor
  ·intro d;rw[fA S W a c b here m h7 l hseg k] at d;obtain⟨j,p,q,⟨i,r,s,e⟩,f⟩:=d
   have:i≠b:=by
    rintro rfl
    have:j=here:=by omega
    subst this;exact iN S W a j hb o f
   refine (QF _ _).2 ⟨i-(b+1),by simp;omega,?_⟩;rw[QW,show b+1+(i-(b+1))=i by omega];exact e
  ·intro d;exact wR _ W (b+1) b (by omega) (by omega) d
theorem wP(S W:List Int)(a d here:Nat)(h:St S W a 0 d here)(hb:Bad S W a here)(c:here<W.length):¬Gl S W:=by
 obtain⟨e,f,g,i,b⟩:=h
 rcases b with ⟨_,_,h8⟩|⟨h6,_⟩
 ·rw[h8];exact iN S W a here hb c
 ·omega
theorem Hz(S:List Int):Gl S []↔∀s ∈ S,s = -2:=by
 induction S with
 | nil=>simp[Vs]
 | cons s S b=>
  by_cases hs:s = -2
  ·subst hs;rw[QF];simp only[List.drop_nil,uo,x8,forall_eq_or_imp,true_and];rw[<- b]
   constructor
   ·rintro ⟨_,_,h⟩;exact h
   ·intro h;exact⟨0,ze _,h⟩
  ·rw[YA _ _ _ hs]
   constructor
   ·rintro ⟨c,d,a,_⟩;cases a
   ·intro h;exact absurd (h s (by simp)) hs
theorem Tw(S W:List Int)(a d c here:Nat)(h:St S W a d c here)(q:¬here<W.length):Gl S W↔∀s ∈ S.drop a,s = -2:=by
 obtain⟨k,f,p,g,l⟩:=h;have i:here=W.length:=by omega
 rw[<- Hz]
 rcases l with ⟨_,_,h8⟩|⟨_,h7,h8,hseg⟩
 ·rw[h8,i,J6]
 ·rw[h8,fA S W a d c here g h7 f hseg k]
  constructor
  ·rintro ⟨j,n,o,_,e⟩
   have:j=W.length:=by omega
   rw[this,J6] at e;exact e
  ·intro m;have b:Gl (S.drop a) (W.drop here):=by rw[i,J6];exact m
   exact⟨here,ze _,f,⟨c,ze _,h7,wC S W a d c here g h7 hseg b⟩,b⟩
def meas(n m a b:Nat):Nat:=(m+1-b)*(n+1)+(n+1-a)
theorem pq(n m a c b:Nat)(d:a<n)(e:c<=b):meas n m (a+1) b<meas n m a c:=by
 unfold meas
 have:(m+1-b)*(n+1)<=(m+1-c)*(n+1):=Q3 _ (by omega)
 omega
theorem pu(n m a c b:Nat)(e:b<m)(d:a<=n):meas n m c (b+1)<meas n m a b:=by
 unfold meas
 have:(m+1-b)=(m+1-(b+1))+1:=by omega
 rw[this,Nat.succ_mul];omega
end Pg
end Go.Proofs.YtdakgnaojakldaaGreatDoor
namespace Go.Proofs.YtdakgnaojakldaaGreatDoor
open Go.RowKit
def Xp(s:Int):Bool:=s == -2
def VT(s c:Int):Bool:=s == -1||s==c
theorem bP(s:Int)(w:World):Calls prog 238 #[.int .i32 s] w λe a=>e = .returned (.bool (Xp s))/\a=w:=by
 unfold Xp;go_enter func238,ntmps238
 go_wp2
 go_ret;exact⟨rfl,rfl⟩
theorem WU(s c:Int)(w:World):Calls prog 239 #[.int .i32 s,.int .i32 c] w λe a=>e = .returned (.bool (VT s c))/\a=w:=by
 unfold VT
 cases h:s == -1 with
 | true=>
  go_enter func239,ntmps239
  go_wp2
  go_ret;exact⟨rfl,rfl⟩
 | false=>
  go_enter func239,ntmps239
  go_wp2
  go_ret;exact⟨by simp,rfl⟩
theorem Br(S:List Int)(a:Nat):vW (λj=>Xp (S.getD (a+j) 0)) (S.length-a)=true↔∀s ∈ S.drop a,s = -2:=by
 unfold vW Xp;rw[ve]
 constructor
 ·intro h s d;obtain⟨j,b,rfl⟩:=KT.1 d;simp at b
  have:=h j (vQ.2 (by omega))
  rw[zL,zl (by omega)] at this
  simpa [List.getElem_drop] using this
 ·intro h j b;have c:=vQ.1 b;rw[zL,zl (by omega)]
  have:=h (S[a+j]'(by omega)) (by rw[KT];exact⟨j,by simp;omega,by simp⟩)
  simpa using this
theorem Nr(S W:List Int)(ao N:Option Addr)(c1 c2:Nat)(w:World)(O:rowAt w ao S.length λj=>S.getD j 0)(V:rowAt w N W.length λj=>W.getD j 0)
  (U:S.length<=1000000)(X:W.length<=1000000)(a1:S.length<=c1)(A:Bool)(C:A=true↔Pg.Gl S W) :
  Calls prog 214 #[.slice ao S.length c1,.slice N W.length c2] w λe q=>e = .returned (.bool A)/\Below w.heap.size w q:=by
 have I:=hid C;clear C;go_enter func214,ntmps214
 go_wp2
 go_loopw [5,6,7,8] (λJ T M hv wr=>∃a b t h:Nat,J = .int .i64 a/\T = .int .i64 b/\M = .int .i64 t/\hv = .int .i64 h/\Pg.St S W a b t h/\Below w.heap.size w wr)
  (λJ _ M _ _=>Pg.meas S.length W.length (intOf J).toNat (intOf M).toNat)
 case atStart=>exact⟨0,0,0,0,rfl,rfl,rfl,rfl,Pg.Tx S W,zh _ _⟩
 case round=>
  obtain⟨a,b,t,h,rfl,rfl,rfl,rfl,f,k⟩:=hrel;have y:=hid f;have L:a<=S.length/\h<=W.length/\t<=h/\b<=a:=⟨f.1,f.2.1,f.2.2.1,f.2.2.2.1⟩;obtain⟨E,Z,K,a0⟩:=L;clear f
  by_cases hlt:h<W.length
  ·have R:(h:Int)<(W.length:Int):=by omega
   rcases V with h0|⟨wb,wo,rfl,hwc⟩
   ·omega
   have qw:=zg k (hwc h hlt);obtain⟨c,p⟩:=Nm (W.getD h 0);simp only[p] at qw
   by_cases ha:a<S.length
   ·have Y:(a:Int)<(S.length:Int):=by omega
    rcases O with h0|⟨sb,so,rfl,hsc⟩
    ·omega
    have qs:=zg k (hsc a ha);obtain⟨s,u⟩:=Nm (S.getD a 0);simp only[u] at qs;clear hsc hwc
    cases hm:Xp s with
    | true=>
     have g:S.getD a 0 = -2:=by rw[u];simpa [Xp] using hm
     have f:=hid (Pg.Ty S W a b t h y.out ha g);have i:=λz=>bP s z;rw[hm] at i;have HC:=hid p;clear u g hm p
     go_wp2_with (go_at_call 238;refine (i _).mono ?_;rintro e q ⟨rfl,rfl⟩)
     go_roundw
     case rel=>exact⟨a+1,a+1,h,h,by go_num,by go_num,rfl,rfl,f.out,k⟩
     case measure=>simp[intOf];exact Pg.pq _ _ _ _ _ ha K
    | false=>
     have g:S.getD a 0 ≠ -2:=by rw[u];simpa [Xp] using hm
     have i:=λz=>bP s z;rw[hm] at i;have m:=λz=>WU s c z
     cases hk:VT s c with
     | true=>
      have G:S.getD a 0 = -1\/S.getD a 0=W.getD h 0:=by rw[u,p];simpa [VT] using hk
      have f:=hid (Pg.Tz S W a b t h y.out ha hlt g G);rw[hk] at m;clear u g G hm p hk
      go_wp2_with (go_at_call 238;refine (i _).mono ?_;rintro e q ⟨rfl,rfl⟩)
      go_quiet ((go_at_call 239;exact Calls.quiet_of_same (m _)))
      go_wp2
      exact⟨⟨a+1,b,t,h+1,by go_num,rfl,rfl,by go_num,f.out,below_drewN k nq⟩,by simp[intOf];exact Pg.pq _ _ _ _ _ ha (ze _)⟩
     | false=>
      have d:Pg.Bad S W a h:=λ_=>⟨g,by rw[u,p];simpa [VT] using hk⟩;rw[hk] at m
      by_cases hb0:0<b
      ·have f:=hid (Pg.wO S W a b t h y.out d hlt hb0);have D:(0:Int)<(b:Int):=by omega
       clear u g hm p hk d
       go_wp2_with (go_at_call 238;refine (i _).mono ?_;rintro e q ⟨rfl,rfl⟩)
       go_quiet ((go_at_call 239;exact Calls.quiet_of_same (m _)))
       go_wp2
       exact⟨⟨b,b,t+1,t+1,rfl,rfl,by go_num,by go_num,f.out,below_drewN k nq⟩,by simp[intOf];exact Pg.pu _ _ _ _ _ (by omega) E⟩
      ·obtain rfl:b=0:=by omega
       have F:=Pg.wP S W a t h y.out d hlt
       have C:A=false:=by
        cases A with
        | false=>rfl
        | true=>exact absurd (I.out.1 rfl) F
       subst C;clear u g hm p hk d F
       go_wp2_with (go_at_call 238;refine (i _).mono ?_;rintro e q ⟨rfl,rfl⟩)
       go_quiet ((go_at_call 239;exact Calls.quiet_of_same (m _)))
       go_wp2
       go_ret;exact⟨rfl,below_drewN k nq⟩
   ·have d:Pg.Bad S W a h:=λh=>absurd h ha;have da:decide ((a:Int)<(S.length:Int))=false:=zH (by omega)
    by_cases hb0:0<b
    ·have f:=hid (Pg.wO S W a b t h y.out d hlt hb0);have D:(0:Int)<(b:Int):=by omega
     clear d p;go_wp2_with fail
     go_quiet (fail)
     go_wp2
     exact⟨⟨b,b,t+1,t+1,rfl,rfl,by go_num,by go_num,f.out,below_drewN k nq⟩,by simp[intOf];exact Pg.pu _ _ _ _ _ (by omega) E⟩
    ·obtain rfl:b=0:=by omega
     have F:=Pg.wP S W a t h y.out d hlt
     have C:A=false:=by
      cases A with
      | false=>rfl
      | true=>exact absurd (I.out.1 rfl) F
     subst C;clear d F p;go_wp2_with fail
     go_quiet (fail)
     go_wp2
     go_ret;exact⟨rfl,below_drewN k nq⟩
  ·have H:=Pg.Tw S W a b t h y.out hlt;have P:(a:Int)<=(S.length:Int):=by omega
   have Q:(a:Int)<=(c1:Int):=by omega
   have v:vW (λj=>Xp (S.getD (a+j) 0)) (S.length-a)=A:=by
    rw[vN,Br S a,<- H];exact I.out.symm
   have o:=eU O k
   have l:∀(r:Option Addr) (n:Nat),rowAt wr r (S.length-a) (λj=>S.getD (a+j) 0)->Calls prog 240 #[.slice r ((S.length-a:Nat)) n,.func (.func 238) #[] #[]] wr λe q=>e = .returned (.bool A)/\Below wr.heap.size wr q:=by
    intro r n hr
    have c:=BK (S.length-a) r n 238 #[] (λj=>S.getD (a+j) 0) (λj=>Xp (S.getD (a+j) 0)) wr (by omega)
     (enters_of func238 (by kernel_rfl) rfl) hr
     (λz j _ _=>(bP _ z).mono λe q ⟨H,k⟩=>⟨H,k ▸ zh _ _⟩)
    rw[v] at c;exact c
   clear H v
   by_cases hca:c1=a
   ·have c:=l ao 0 (.inl (by omega));clear l o
    go_wp2_with (go_at_call 240;refine c.mono ?_;rintro e q ⟨rfl,B⟩)
    go_ret;exact⟨rfl,k.trans (B.mono k.size)⟩
   ·have c:=l (ao.map λx=>x.add a) (c1-a) (by
     rcases o with h0|⟨sb,so,rfl,hsc⟩
     ·exact .inl (by omega)
     ·refine .inr ⟨sb,so+a,by simp[addr_add],λj hj=>?_⟩
      have:=hsc (a+j) (by omega)
      rw[KV];exact this)
    clear l o
    go_wp2_with (go_at_call 240;refine c.mono ?_;rintro e q ⟨rfl,B⟩)
    go_ret;exact⟨rfl,k.trans (B.mono k.size)⟩
namespace Pg
open Ref
theorem zai(f:Nat)(s:BA)(h:s.size<f):(kY f s).isSome=Lib.validD s.data.toList:=by
 induction f generalizing s with
 | zero=>omega
 | succ f b=>
  rw[kY]
  by_cases h0:s.size=0
  ·rw[zb h0]
   have:s.data.toList=[]:=J7 (by rw[zG];exact h0)
   rw[this];rfl
  ·rw[za h0];have a:s.data.toList≠[]:=λe=>h0 (by rw[<- zG,e];rfl);rw[Lib.validD_step _ a];have hd:Lib.decodeL s.data.toList=Utf8.decode s 0:=rfl;rw[hd]
   rcases Vn s (by omega) with ⟨ho,e⟩|⟨ho,hc,e,hn⟩
   ·rw[zb ho,e];simp
   ·rw[e,za hn,za (by rw[ho];decide),Option.isSome_map];have c:=Vl s (by omega);rw[b _ (by rw[jB];omega),Lib.ext_list]
theorem DR(s:BA):Lib.validD s.data.toList=(chars s).isSome:=(zai _ s (by omega)).symm
theorem DL(f:Nat)(s:BA)(l:List BA)(h:kY f s=some l):∀c ∈ l,ZI c:=by
 induction f generalizing s l with
 | zero=>simp[kY] at h
 | succ f d=>
  rw[kY] at h
  by_cases h0:s.size=0
  ·rw[zb h0] at h;simp at h;subst h;simp
  ·rw[za h0] at h
   rcases Vn s (by omega) with ⟨ho,e⟩|⟨ho,hc,e,hn⟩
   ·rw[zb ho] at h;simp at h
   ·rw[za (by rw[ho];decide)] at h;obtain⟨r,b,rfl⟩:=vU.1 h;intro c a
    rcases x8.1 a with rfl|a
    ·exact hc
    ·exact d _ _ b c a
theorem lw(s:BA):∀c ∈ (chars s).getD [],ZI c:=by
 cases h:chars s with
 | none=>simp
 | some l=>exact DL _ _ _ h
theorem EO(s:BA)(i:Nat):Utf8.decode s i=Utf8.decode (s.extract i s.size) 0:=by
 rw[Lib.decode_at,Lib.decode_at];simp only[nK,Lib.ext_list,Nat.sub_zero,qO,jB,Nat.min_self]
 have e:∀j,(s.data.toList.drop i).getD j 0=s.data.toList.getD (i+j) 0:=by
  intro j;simp[List.getD]
 simp only[e,vR]
def QK(c:BA):Value := .int .i32 ((jI c:Nat):Int)
theorem Sl(f bound i:Nat)(s:BA)(acc:Array Value)(l:List BA)(a:kY f (s.extract i s.size)=some l)(hb:s.size-i<=bound) :
  Conv.runesFrom s bound i acc=acc++(l.map QK).toArray:=by
 induction f generalizing bound i acc l with
 | zero=>simp[kY] at a
 | succ f j=>
  rw[kY] at a;have c:(s.extract i s.size).size=s.size-i:=by rw[jB];omega
  by_cases h0:s.size-i=0
  ·rw[zb (by rw[c];exact h0)] at a;simp at a;subst a
   cases bound with
   | zero=>simp[Conv.runesFrom]
   | succ b=>unfold Conv.runesFrom;rw[za (by omega)];simp
  ·rw[za (by rw[c];exact h0)] at a
   rcases Vn (s.extract i s.size) (by omega) with ⟨ho,e⟩|⟨ho,hc,e,hn⟩
   ·rw[zb ho] at a;simp at a
   ·rw[za (by rw[ho];decide)] at a;obtain⟨r,d,rfl⟩:=vU.1 a;have g:=Vl (s.extract i s.size) (by omega);obtain⟨b,rfl⟩:∃b,bound=b+1:=⟨bound-1,by omega⟩;unfold Conv.runesFrom;rw[zb (by omega),EO,e]
    have h:(s.extract i s.size).extract (qD (s.extract i s.size)).size (s.extract i s.size).size=s.extract (i+(qD (s.extract i s.size)).size) s.size:=by
     rw[KL,c];have e:min (i+(s.size-i)) s.size=s.size:=by omega
     rw[e]
    rw[h] at d;simp only;rw[j b (i+(qD (s.extract i s.size)).size) _ r d (by omega)];rw[Array.push_eq_append,Array.append_assoc];congr 1;simp[QK]
theorem Sk(s:BA)(h:(chars s).isSome=true):Conv.runesFrom s s.size 0 #[]=(((chars s).getD []).map QK).toArray:=by
 obtain⟨l,a⟩:=KY.1 h;rw[a];have e:s.extract 0 s.size=s:=by simp
 have:=Sl (s.size+1) s.size 0 s #[] l (by rw[e];exact a) (by omega)
 rw[this];simp
end Pg
theorem zah(s:BA)(w:World)(b:s.size<=maxLen)(a:ut w) :
  Calls prog 139 #[.string s] w λe d=>e = .returned (.bool (Ref.chars s).isSome)/\Below w.heap.size w d:=by
 have c:=Any.utf8_ValidString Tryz.lays196 s w (by unfold maxLen at b;omega) a;rw[Pg.DR] at c;exact c
theorem Ld(s:BA)(w:World)(b:s.size<=maxLen)(g:ut w) :
  Calls prog 86 #[.string s] w λe f=>e = .returned (.bool (Ref.jM s))/\Below w.heap.size w f:=by
 have c:=zah s w b g;unfold Ref.jM;generalize (Ref.chars s).isSome=V at c |-;unfold maxLen at b
 by_cases h:s.size<=100
 ·have d:decide ((s.size:Int)<=100)=true:=zF (by omega);rw[zF h];go_enter func86,ntmps86
  go_wp2_with (go_at_call 139;refine c.mono ?_;rintro e f ⟨rfl,a⟩)
  go_ret;exact⟨by simp,a⟩
 ·have d:decide ((s.size:Int)<=100)=false:=zH (by omega);rw[zH h];go_enter func86,ntmps86
  go_wp2
  go_ret;exact⟨by simp,zh _ _⟩
theorem UQ(s:BA)(b:Bool)(hb:Ref.jM s=b)(c:s.size<=maxLen):∀w,ut w ->
  Calls prog 86 #[.string s] w λe d=>e = .returned (.bool b)/\Below w.heap.size w d:=by
 subst hb;exact λw a=>Ld s w c a
theorem IX(m:BA×BA)(w:World)(k:m.1.size<=maxLen)(l:m.2.size<=maxLen)(n:ut w) :
  Calls prog 88 #[Z0 m] w λe f=>e = .returned (.bool (Ref.ZA m))/\Below w.heap.size w f:=by
 obtain⟨a,v⟩:=m;unfold Z0;simp only at k l |-;generalize b:Ref.ZA (a,v)=M;unfold Ref.ZA at b;simp only at b;have d:=λO=>nB w O
 cases d1:a.toList==[119,104,111] with
 | true=>
  have e:M=false:=by rw[<- b,d1];simp
  subst e;clear b;go_enter func88,ntmps88
  go_wp2
  go_ret;exact⟨rfl,d _⟩
 | false=>
 cases d2:a.toList==[100,111] with
 | true=>
  have e:M=false:=by rw[<- b,d2];simp
  subst e;clear b;go_enter func88,ntmps88
  go_wp2
  go_ret;exact⟨rfl,d _⟩
 | false=>
 cases d3:a.toList==[111,110] with
 | true=>
  have e:M=false:=by rw[<- b,d3];simp
  subst e;clear b;go_enter func88,ntmps88
  go_wp2
  go_ret;exact⟨rfl,d _⟩
 | false=>
 rw[d1,d2,d3] at b;have g:=λW=>UO a W k
 cases hn:Ref.qj a with
 | false=>
  have e:M=false:=by rw[<- b,hn];simp
  subst e;rw[hn] at g;clear b hn;go_enter func88,ntmps88
  go_wp2_with (go_at_call 82;refine (g _).mono ?_;rintro e f ⟨rfl,c⟩)
  go_ret;exact⟨rfl,(d _).trans (c.mono (by simp))⟩
 | true=>
  have j:=UQ v _ rfl l;have e:M=Ref.jM v:=by rw[<- b,hn];simp
  rw[<- e] at j;rw[hn] at g;clear b hn e;go_enter func88,ntmps88
  go_wp2_with (first
   | (go_at_call 82;refine (g _).mono ?_;rintro e f ⟨rfl,c⟩;obtain⟨o,p⟩:=yR c;have q:w.heap.size<f.heap.size:=by (have:=c.size;simp at this;omega))
   | (go_at_call 86;refine (j _ (n.below ((d _).trans (c.mono (by simp))))).mono ?_;rintro e r ⟨rfl,h⟩))
  have i:Below w.heap.size w f:=(d _).trans (c.mono (by simp));go_ret;exact⟨rfl,i.trans (h.mono i.size)⟩
theorem Bu(ms:List (BA×BA))(f:BA×BA->Bool):vW (λj=>f (uD ms j)) ms.length=ms.all f:=by
 unfold vW;rw[vN,ve,ve]
 constructor
 ·intro h c d;obtain⟨j,b,rfl⟩:=KT.1 d
  have:=h j (vQ.2 b)
  rwa [YH ms j b] at this
 ·intro h j b;have a:=vQ.1 b;rw[YH ms j a];exact h _ (qH a)
theorem Bt(ms:List (BA×BA))(ao:Option Addr)(cap:Nat)(w:World)(g:ms.length<=100000000000)(b:∀j,j<ms.length->(uD ms j).1.size<=maxLen/\(uD ms j).2.size<=maxLen)(f:yK w ao ms)(d:ut w) :
  Calls prog 87 #[.slice ao ms.length cap,.func (.func 88) #[] #[]] w λe h=>e = .returned (.bool (ms.all Ref.ZA))/\Below w.heap.size w h:=by
 have c:=BF ms ao cap 88 #[] (λj=>Ref.ZA (uD ms j)) w g (enters_of func88 (by kernel_rfl) rfl) f
  (λW j a hb=>IX (uD ms j) W (b j a).1 (b j a).2 (d.below hb))
 rw[Bu] at c;exact c
theorem Gv(p:Nat->Bool)(n k:Nat)(h:zw p n=some k):k<n/\p k=true/\∀j,j<k->p j=false:=by
 unfold zw at h;rw[J9] at h;obtain⟨a,b,c⟩:=h;exact⟨by simpa using b,a,λj d=>by simpa using c j d⟩
theorem Gu(p:Nat->Bool)(n:Nat)(h:zw p n=none):∀j,j<n->p j=false:=by
 unfold zw at h;rw[XD] at h;intro j a
 simpa using h j (vQ.2 a)
theorem Sq(m:BA×BA)(name:BA)(B:Nat)(w:World)(b:w.cell? ⟨B,0,none⟩=some (.string name)) :
  Calls prog 241 #[Z0 m,.pointer (some ⟨B,0,none⟩)] w λe c=>e = .returned (.bool (m.1.toList==name.toList))/\Below w.heap.size w c:=by
 obtain⟨a,v⟩:=m;unfold Z0;simp only;have q:=λO:Obj=>zg (nB w O) b;go_enter func241,ntmps241
 go_wp2
 go_ret;exact⟨rfl,nB w _⟩
theorem Sr(r:Ref.Req)(name:BA)(ao:Option Addr)(cap:Nat)(w:World)(v:r.marks.length<=100000000000)(s:yK w ao r.marks) :
  Calls prog 216 #[Ref.qR r ao cap,.string name] w λe q=>
   e = .returned (.tuple #[.string ((Ref.says r name).getD ⟨#[]⟩),.bool (Ref.says r name).isSome])/\Below w.heap.size w q:=by
 obtain⟨who,act,on,ms⟩:=r;generalize a:Ref.says ⟨who,act,on,ms⟩ name=P at *;unfold Ref.says at a;simp only at a v s;unfold Ref.qR;simp only;have g:=λl m=>(nB w l).alloc (by simp) m
 cases c1:name.toList==[119,104,111] with
 | true=>
  rw[zb c1] at a;subst a;go_enter func216,ntmps216
  go_wp2
  go_ret2;exact⟨rfl,g _ _⟩
 | false=>
 rw[za (by simp[c1])] at a
 cases c2:name.toList==[100,111] with
 | true=>
  rw[zb c2] at a;subst a;go_enter func216,ntmps216
  go_wp2
  go_ret2;exact⟨rfl,g _ _⟩
 | false=>
 rw[za (by simp[c2])] at a
 cases c3:name.toList==[111,110] with
 | true=>
  rw[zb c3] at a;subst a;go_enter func216,ntmps216
  go_wp2
  go_ret2;exact⟨rfl,g _ _⟩
 | false=>
 rw[za (by simp[c3])] at a
 have c:=λl m x=>nA ms ao cap 241 #[.pointer (some ⟨w.heap.size+1,0,none⟩)] (λj=>(uD ms j).1.toList==name.toList) ((w.alloc l).alloc m) v
  (enters_of func241 (by kernel_rfl) rfl) (uG s (g l m))
  (λW j _ hb=>Sq (uD ms j) name (w.heap.size+1) W (zg hb x))
 obtain⟨F,hF⟩:=Nm (zw (λj=>(uD ms j).1.toList==name.toList) ms.length);simp only[hF] at c
 cases F with
 | none=>
  have e:=Ref.Nn ms name ms.length (by omega) (λj _ u=>by have:=Gu _ _ hF j u;rwa [YH ms j u] at this);rw[e] at a;subst a;simp only[Qu,kS] at c;clear hF e;go_enter func216,ntmps216
  go_wp2_with (go_at_call 188;refine (c _ _ (by simp)).mono ?_;rintro e q ⟨rfl,d⟩)
  go_ret2;exact⟨rfl,(g _ _).trans (d.mono (by simp;omega))⟩
 | some k=>
  obtain⟨p,f,h⟩:=Gv _ _ _ hF;rw[YH ms k p] at f;have e:=Ref.Nl ms name k p (λj y=>by have:=h j y;rwa [YH ms j (by omega)] at this) f;rw[e] at a;subst a;simp only[yE,vT] at c
  rcases s with rfl|⟨b,o,rfl,hc⟩
  ·simp at p
  obtain⟨A,q2⟩:=hc k p;obtain⟨E,i⟩:∃n,ms[k].2=n:=⟨_,rfl⟩;rw[i] at q2 |-;have z:(k:Int)<(ms.length:Int):=by omega
  clear hF e f h hc A i;go_enter func216,ntmps216
  go_wp2_with (go_at_call 188;refine (c _ _ (by simp)).mono ?_;rintro e q ⟨rfl,d⟩;obtain⟨B,C⟩:=yR d;have t:Below w.heap.size w q:=(g _ _).trans (d.mono (by simp;omega));have D:=zg t q2)
  go_ret2;exact⟨rfl,t⟩
theorem Nt(r:Ref.Req)(name:BA)(ao:Option Addr)(cap B:Nat)(w:World)(j:r.marks.length<=100000000000)(i:yK w ao r.marks)
  (d:w.cell? ⟨B,0,none⟩=some (.string r.who))(f:w.cell? ⟨B,1,none⟩=some (.string r.act))(g:w.cell? ⟨B,2,none⟩=some (.string r.on))(h:w.cell? ⟨B,3,none⟩=some (.slice ao r.marks.length cap)) :
  Calls prog 215 #[.string name,.pointer (some ⟨B,0,none⟩)] w λe b=>
   e = .returned (.tuple #[.string ((Ref.says r name).getD ⟨#[]⟩),.bool (Ref.says r name).isSome])/\Below w.heap.size w b:=by
 have c:=Sr r name ao cap w j i;obtain⟨who,act,on,ms⟩:=r;unfold Ref.qR at c;simp only at c d f g h;generalize Ref.says ⟨who,act,on,ms⟩ name=P at c;go_enter func215,ntmps215
 go_wp2_with (go_at_call 216;refine c.mono ?_;rintro e b ⟨rfl,a⟩)
 go_ret2;exact⟨rfl,a⟩
theorem Sn(r:Ref.Req)(ao:Option Addr)(cap:Nat)(w:World) :
  Calls prog 175 #[Ref.qR r ao cap] w λe a=>
   e = .returned (.func (.func 215) #[] #[.pointer (some ⟨w.heap.size,0,none⟩)])/\a=w.alloc (.cells #[.string r.who,.string r.act,.string r.on,.slice ao r.marks.length cap] 53):=by
 obtain⟨who,act,on,ms⟩:=r;unfold Ref.qR;simp only;go_enter func175,ntmps175
 go_wp2
 go_ret;exact⟨rfl,rfl⟩
def vK(w:World)(v:Value)(l:List BA):Prop:=
 ∃ao cap,v = .slice ao l.length cap/\(l=[]\/∃b o,ao=some ⟨b,o,none⟩/\∀j,(h:j<l.length)->w.cell? ⟨b,o+j,none⟩=some (.string l[j]))
theorem Xv{w a:World}{v:Value}{l:List BA}(h:vK w v l)(hb:Below w.heap.size w a):vK a v l:=by
 obtain⟨ao,cap,d,h⟩:=h;refine⟨ao,cap,d,?_⟩
 rcases h with h|⟨b,o,ha,hc⟩
 ·exact .inl h
 ·exact .inr ⟨b,o,ha,λj c=>zg hb (hc j c)⟩
theorem Ku{w:World}{base:Nat}{e:TypeId}{v:Value}{n:Nat}{l:List BA}(f:n=l.length)(h:w.ownsRow base e 1 v n (Ref.strCells l)):vK w v l:=by
 subst f;have a:=λg c=>h.cells (g:=g) c
 rcases h.2 with ⟨rfl,h0⟩|⟨g,cap,cur,rfl,_⟩
 ·exact⟨none,0,by rw[h0],.inl (J7 h0)⟩
 ·refine⟨_,cap,rfl,.inr ⟨g,0,rfl,λj d=>?_⟩⟩;have i:=Ref.Wi l j d;have b:=a g rfl _ _ i;rw[Vg] at b;rw[qO];exact b
def Xd(w:World)(b:Nat)(r:Ref.Req)(ao:Option Addr)(cap:Nat):Prop:=
 w.cell? ⟨b,0,none⟩=some (.string r.who)/\w.cell? ⟨b,1,none⟩=some (.string r.act)/\w.cell? ⟨b,2,none⟩=some (.string r.on)/\w.cell? ⟨b,3,none⟩=some (.slice ao r.marks.length cap)
theorem Yu{w a:World}{b:Nat}{r:Ref.Req}{ao:Option Addr}{cap:Nat}(h:Xd w b r ao cap)(hb:Below w.heap.size w a):Xd a b r ao cap:=
 ⟨zg hb h.1,zg hb h.2.1,zg hb h.2.2.1,zg hb h.2.2.2⟩
end Go.Proofs.YtdakgnaojakldaaGreatDoor
