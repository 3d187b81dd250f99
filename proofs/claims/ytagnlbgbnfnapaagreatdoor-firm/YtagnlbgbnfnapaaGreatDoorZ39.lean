/- P -/
import Derived.Test.YtagnlbgbnfnapaaGreatDoorZ12
open Go.Proofs.Tryz
set_option maxRecDepth 100000
set_option maxHeartbeats 1000000
namespace Go.Proofs.YtagnlbgbnfnapaaGreatDoor
namespace Pg
open Ref
inductive Gl:List Int->List Int->Prop
 | nil:Gl [] []
 | skip {ss w:List Int}:Gl ss w->Gl (-2::ss) w
 | more {ss w:List Int} {c:Int}:Gl (-2::ss) w->Gl (-2::ss) (c::w)
 | one {s c:Int} {ss w:List Int}:s ≠ -2->(s = -1\/s=c)->Gl ss w->Gl (s::ss) (c::w)
theorem VS(w:List Int):Gl [] w↔w=[]:=by
 constructor
 ·intro h;cases h;rfl
 ·rintro rfl;exact .nil
theorem Y3(s:Int)(f w:List Int)(d:s ≠ -2):Gl (s::f) w↔∃c e,w=c::e/\(s = -1\/s=c)/\Gl f e:=by
 constructor
 ·intro h
  cases h with
  | skip h=>exact absurd rfl d
  | more h=>exact absurd rfl d
  | one g a b=>exact⟨_,_,rfl,a,b⟩
 ·rintro ⟨c,e,rfl,a,b⟩;exact .one d a b
theorem LG{S w:List Int}(h:Gl S w):∀a,S = -2::a->∃i,i<=w.length/\Gl a (w.drop i):=by
 induction h with
 | nil=>intro a e;cases e
 | skip h _=>intro a e;cases e;exact⟨0,by omega,by simpa using h⟩
 | more h d=>
  intro a e
  cases e
  obtain⟨i,hi,c⟩:=d _ rfl;exact⟨i+1,by simp;omega,by simpa using c⟩
 | one b _ _ _=>intro a e;cases e;exact absurd rfl b
theorem Xc(a w:List Int):Gl (-2::a) w↔∃i,i<=w.length/\Gl a (w.drop i):=by
 constructor
 ·intro h;exact LG h a rfl
 ·rintro ⟨i,hi,b⟩
  induction i generalizing w with
  | zero=>exact .skip (by simpa using b)
  | succ i d=>
   cases w with
   | nil=>simp at hi
   | cons c w=>exact .more (d w (by simpa using hi) (by simpa using b))
inductive Seg:List Int->List Int->Prop
 | nil:Seg [] []
 | cons {s c:Int} {ss w:List Int}:s ≠ -2->(s = -1\/s=c)->Seg ss w->Seg (s::ss) (c::w)
theorem Tj{a w:List Int}(h:Seg a w)(s c:Int)(f:s ≠ -2)(e:s = -1\/s=c):Seg (a++[s]) (w++[c]):=by
 induction h with
 | nil=>exact .cons f e .nil
 | cons b d _ g=>exact .cons b d g
def wm(a:List Int):Prop:=∀s ∈ a,s ≠ -2
theorem Ti{a w:List Int}(h:Seg a w):wm a:=by
 induction h with
 | nil=>intro s b;cases b
 | cons c _ _ d=>
  intro s b
  rcases vz.1 b with rfl|b
  ·exact c
  ·exact d s b
theorem Tg{a w:List Int}(h:Seg a w)(r v:List Int)(d:Gl r v):Gl (a++r) (w++v):=by
 induction h with
 | nil=>exact d
 | cons b c _ e=>exact .one b c e
theorem Lx(a r w:List Int)(b:wm a)(h:Gl (a++r) w):a.length<=w.length/\Gl r (w.drop a.length):=by
 induction a generalizing w with
 | nil=>exact⟨by simp,by simpa using h⟩
 | cons s a g=>
  obtain⟨c,i,rfl,_,d⟩:=(Y3 s (a++r) w (b s (by simp))).1 h;obtain⟨j,e⟩:=g i (λs f=>b s (by simp[f])) d;exact⟨by simp;omega,by simpa using e⟩
def St(S W:List Int)(a b c here:Nat):Prop:=
 a<=S.length/\here<=W.length/\c<=here/\b<=a /\
 ((b=0/\c=0/\(Gl S W↔Gl (S.drop a) (W.drop here))) \/
  (0<b/\here=c+(a-b)/\(Gl S W↔Gl (-2::S.drop b) (W.drop c))/\Seg ((S.drop b).take (a-b)) ((W.drop c).take (a-b))))
theorem We(S W:List Int):St S W 0 0 0 0:=⟨by omega,by omega,by omega,by omega,.inl ⟨rfl,rfl,by simp⟩⟩
theorem drop_at(S:List Int)(a:Nat)(h:a<S.length):S.drop a=S.getD a 0::S.drop (a+1):=by
 rw[ZQ h,zQ,zt h];rfl
theorem oH(S:List Int)(b a:Nat)(h:b<=a):S.drop b=(S.drop b).take (a-b)++S.drop a:=by
 have e:=UD (a-b) (S.drop b);rw[Xw,show b+(a-b)=a by omega] at e;exact e.symm
theorem iq(S W:List Int)(a b c here:Nat)(k:b<=a)(t:here=c+(a-b))(s:here<=W.length)(e:Seg ((S.drop b).take (a-b)) ((W.drop c).take (a-b)))(n:a<=S.length) :
  (Gl (-2::S.drop b) (W.drop c)↔∃j,here<=j/\j<=W.length/\(∃i,c<=i/\j=i+(a-b)/\Gl (S.drop b) (W.drop i))/\Gl (S.drop a) (W.drop j)):=by
 have p:=Ti e;have o:((S.drop b).take (a-b)).length=a-b:=by simp;omega
 constructor
 ·intro h;obtain⟨i,hi,l⟩:=(Xc _ _).1 h;rw[Xw] at l;have d:=l;rw[oH S b a k] at d;obtain⟨g,f⟩:=Lx _ _ _ p d;rw[o] at g f;rw[Xw] at f;simp at hi g;exact⟨c+i+(a-b),by omega,by omega,⟨c+i,by omega,rfl,l⟩,f⟩
 ·rintro ⟨j,g,f,⟨i,q,r,m⟩,_⟩;refine (Xc _ _).2 ⟨i-c,by simp;omega,?_⟩;rw[Xw,show c+(i-c)=i by omega];exact m
theorem BD(b W:List Int)(j h:Nat)(d:h<=j)(c:j<=W.length)(a:Gl (-2::b) (W.drop j)):Gl (-2::b) (W.drop h):=by
 obtain⟨i,hi,a⟩:=(Xc _ _).1 a;refine (Xc _ _).2 ⟨i+(j-h),by simp at hi |-;omega,?_⟩;rw[Xw] at a |-;rw[show h+(i+(j-h))=j+i by omega];exact a
theorem Bn(S W:List Int)(a b c here:Nat)(f:b<=a)(i:here=c+(a-b))(d:Seg ((S.drop b).take (a-b)) ((W.drop c).take (a-b)))
  (h:Gl (S.drop a) (W.drop here)):Gl (S.drop b) (W.drop c):=by
 have g:=Tg d _ _ h;rw[<- oH S b a f] at g
 have e:(W.drop c).take (a-b)++W.drop here=W.drop c:=by
  have e:=UD (a-b) (W.drop c);rw[Xw,<- i] at e;exact e
 rwa [e] at g
theorem Wh(S W:List Int)(a c b here:Nat)(h:St S W a c b here)(o:a<S.length)(e:S.getD a 0 = -2):St S W (a+1) (a+1) here here:=by
 obtain⟨m,d,p,g,n⟩:=h;refine⟨by omega,d,ze _,ze _,.inr ⟨by omega,by omega,?_,by simp;exact .nil⟩⟩;have hd:=drop_at S a o;rw[e] at hd;rw[<- hd]
 rcases n with ⟨_,_,h6⟩|⟨_,hh,h6,hseg⟩
 ·exact h6
 ·rw[h6,iq S W a c b here g hh d hseg m]
  constructor
  ·rintro ⟨j,k,l,_,f⟩;rw[hd] at f |-;exact BD _ W j here k l f
  ·intro i;exact⟨here,ze _,d,⟨b,ze _,hh,Bn S W a c b here g hh hseg i⟩,i⟩
theorem Wi(S W:List Int)(a b d here:Nat)(h:St S W a b d here)(i:a<S.length)(j:here<W.length)(e:S.getD a 0 ≠ -2)(g:S.getD a 0 = -1\/S.getD a 0=W.getD here 0) :
  St S W (a+1) b d (here+1):=by
 obtain⟨o,p,q,r,m⟩:=h;refine⟨by omega,by omega,by omega,by omega,?_⟩
 rcases m with ⟨h6,h7,h8⟩|⟨h6,h7,h8,hseg⟩
 ·refine .inl ⟨h6,h7,?_⟩;rw[h8,drop_at S a i,drop_at W here j,Y3 _ _ _ e]
  constructor
  ·rintro ⟨c,s,n,_,f⟩;cases n;exact f
  ·intro f;exact⟨_,_,rfl,g,f⟩
 ·refine .inr ⟨h6,by omega,h8,?_⟩
  have k:(S.drop b).take (a+1-b)=(S.drop b).take (a-b)++[S.getD a 0]:=by
   rw[show a+1-b=a-b+1 by omega,Xy (by simp;omega)];congr 1;rw[lU,zQ,zt i];simp[show b+(a-b)=a by omega]
  have l:(W.drop d).take (a+1-b)=(W.drop d).take (a-b)++[W.getD here 0]:=by
   rw[show a+1-b=a-b+1 by omega,Xy (by simp;omega)];congr 1;rw[lU,zQ,zt j];simp[show d+(a-b)=here by omega]
  rw[k,l];exact Tj hseg _ _ e g
def Bad(S W:List Int)(a here:Nat):Prop:=a<S.length->S.getD a 0 ≠ -2/\¬(S.getD a 0 = -1\/S.getD a 0=W.getD here 0)
theorem ni(S W:List Int)(a here:Nat)(hb:Bad S W a here)(f:here<W.length):¬Gl (S.drop a) (W.drop here):=by
 intro h
 by_cases ha:a<S.length
 ·obtain⟨b,d⟩:=hb ha;rw[drop_at S a ha,drop_at W here f,Y3 _ _ _ b] at h;obtain⟨c,i,g,e,_⟩:=h
  cases g
  exact d e
 ·rw[ag (by omega),VS] at h
  have:=congrArg List.length h
  simp at this;omega
theorem Bw(S W:List Int)(a c b here:Nat)(h:St S W a c b here)(hb:Bad S W a here)(o:here<W.length)(g:0<c):St S W c c (b+1) (b+1):=by
 obtain⟨k,l,t,m,n⟩:=h;refine⟨by omega,by omega,ze _,ze _,.inr ⟨g,by omega,?_,by simp;exact .nil⟩⟩
 rcases n with ⟨h6,_⟩|⟨_,h7,h8,hseg⟩
 ·omega
 ·rw[h8]
  constructor
  ·intro d;rw[iq S W a c b here m h7 l hseg k] at d;obtain⟨j,p,q,⟨i,r,s,e⟩,f⟩:=d
   have:i≠b:=by
    rintro rfl
    have:j=here:=by omega
    subst this;exact ni S W a j hb o f
   refine (Xc _ _).2 ⟨i-(b+1),by simp;omega,?_⟩;rw[Xw,show b+1+(i-(b+1))=i by omega];exact e
  ·intro d;exact BD _ W (b+1) b (by omega) (by omega) d
theorem Bz(S W:List Int)(a d here:Nat)(h:St S W a 0 d here)(hb:Bad S W a here)(c:here<W.length):¬Gl S W:=by
 obtain⟨e,f,g,i,b⟩:=h
 rcases b with ⟨_,_,h8⟩|⟨h6,_⟩
 ·rw[h8];exact ni S W a here hb c
 ·omega
theorem LH(S:List Int):Gl S []↔∀s ∈ S,s = -2:=by
 induction S with
 | nil=>simp[VS]
 | cons s S b=>
  by_cases hs:s = -2
  ·subst hs;rw[Xc];simp only[List.drop_nil,QW,vz,forall_eq_or_imp,true_and];rw[<- b]
   constructor
   ·rintro ⟨_,_,h⟩;exact h
   ·intro h;exact⟨0,ze _,h⟩
  ·rw[Y3 _ _ _ hs]
   constructor
   ·rintro ⟨c,d,a,_⟩;cases a
   ·intro h;exact absurd (h s (by simp)) hs
theorem Wd(S W:List Int)(a d c here:Nat)(h:St S W a d c here)(q:¬here<W.length):Gl S W↔∀s ∈ S.drop a,s = -2:=by
 obtain⟨k,f,p,g,l⟩:=h;have i:here=W.length:=by omega
 rw[<- LH]
 rcases l with ⟨_,_,h8⟩|⟨_,h7,h8,hseg⟩
 ·rw[h8,i,Vw]
 ·rw[h8,iq S W a d c here g h7 f hseg k]
  constructor
  ·rintro ⟨j,n,o,_,e⟩
   have:j=W.length:=by omega
   rw[this,Vw] at e;exact e
  ·intro m;have b:Gl (S.drop a) (W.drop here):=by rw[i,Vw];exact m
   exact⟨here,ze _,f,⟨c,ze _,h7,Bn S W a d c here g h7 hseg b⟩,b⟩
def meas(n m a b:Nat):Nat:=(m+1-b)*(n+1)+(n+1-a)
theorem sV(n m a c b:Nat)(d:a<n)(e:c<=b):meas n m (a+1) b<meas n m a c:=by
 unfold meas
 have:(m+1-b)*(n+1)<=(m+1-c)*(n+1):=Jw _ (by omega)
 omega
theorem sW(n m a c b:Nat)(e:b<m)(d:a<=n):meas n m c (b+1)<meas n m a b:=by
 unfold meas
 have:(m+1-b)=(m+1-(b+1))+1:=by omega
 rw[this,Nat.succ_mul];omega
end Pg
end Go.Proofs.YtagnlbgbnfnapaaGreatDoor
namespace Go.Proofs.YtagnlbgbnfnapaaGreatDoor
open Go.RowKit
def XU(s:Int):Bool:=s == -2
def Um(s c:Int):Bool:=s == -1||s==c
theorem dM(s:Int)(w:World):Calls prog 198 #[.int .i32 s] w λe a=>e = .returned (.bool (XU s))/\a=w:=by
 unfold XU;go_enter func198,ntmps198
 go_wp2
 go_ret;exact⟨rfl,rfl⟩
theorem zaz(s c:Int)(w:World):Calls prog 199 #[.int .i32 s,.int .i32 c] w λe a=>e = .returned (.bool (Um s c))/\a=w:=by
 unfold Um
 cases h:s == -1 with
 | true=>
  go_enter func199,ntmps199
  go_wp2
  go_ret;exact⟨rfl,rfl⟩
 | false=>
  go_enter func199,ntmps199
  go_wp2
  go_ret;exact⟨by simp,rfl⟩
theorem Dl(S:List Int)(a:Nat):uz (λj=>XU (S.getD (a+j) 0)) (S.length-a)=true↔∀s ∈ S.drop a,s = -2:=by
 unfold uz XU;rw[vP]
 constructor
 ·intro h s d;obtain⟨j,b,rfl⟩:=ay.1 d;simp at b
  have:=h j (vQ.2 (by omega))
  rw[zQ,zt (by omega)] at this
  simpa [List.getElem_drop] using this
 ·intro h j b;have c:=vQ.1 b;rw[zQ,zt (by omega)]
  have:=h (S[a+j]'(by omega)) (by rw[ay];exact⟨j,by simp;omega,by simp⟩)
  simpa using this
theorem NY(S W:List Int)(ao N:Option Addr)(c1 c2:Nat)(w:World)(O:rowAt w ao S.length λj=>S.getD j 0)(V:rowAt w N W.length λj=>W.getD j 0)
  (U:S.length<=1000000)(X:W.length<=1000000)(a1:S.length<=c1)(A:Bool)(C:A=true↔Pg.Gl S W) :
  Calls prog 159 #[.slice ao S.length c1,.slice N W.length c2] w λe q=>e = .returned (.bool A)/\Below w.heap.size w q:=by
 have I:=hid C;clear C;go_enter func159,ntmps159
 go_wp2
 go_loopw [5,6,7,8] (λJ T M hv wr=>∃a b t h:Nat,J = .int .i64 a/\T = .int .i64 b/\M = .int .i64 t/\hv = .int .i64 h/\Pg.St S W a b t h/\Below w.heap.size w wr)
  (λJ _ M _ _=>Pg.meas S.length W.length (intOf J).toNat (intOf M).toNat)
 case atStart=>exact⟨0,0,0,0,rfl,rfl,rfl,rfl,Pg.We S W,zi _ _⟩
 case round=>
  obtain⟨a,b,t,h,rfl,rfl,rfl,rfl,f,k⟩:=hrel;have y:=hid f;have L:a<=S.length/\h<=W.length/\t<=h/\b<=a:=⟨f.1,f.2.1,f.2.2.1,f.2.2.2.1⟩;obtain⟨E,Z,K,a0⟩:=L;clear f
  by_cases hlt:h<W.length
  ·have R:(h:Int)<(W.length:Int):=by omega
   rcases V with h0|⟨wb,wo,rfl,hwc⟩
   ·omega
   have qw:=zh k (hwc h hlt);obtain⟨c,p⟩:=Nm (W.getD h 0);simp only[p] at qw
   by_cases ha:a<S.length
   ·have Y:(a:Int)<(S.length:Int):=by omega
    rcases O with h0|⟨sb,so,rfl,hsc⟩
    ·omega
    have qs:=zh k (hsc a ha);obtain⟨s,u⟩:=Nm (S.getD a 0);simp only[u] at qs;clear hsc hwc
    cases hm:XU s with
    | true=>
     have g:S.getD a 0 = -2:=by rw[u];simpa [XU] using hm
     have f:=hid (Pg.Wh S W a b t h y.out ha g);have i:=λz=>dM s z;rw[hm] at i;have HC:=hid p;clear u g hm p
     go_wp2_with (go_at_call 198;refine (i _).mono ?_;rintro e q ⟨rfl,rfl⟩)
     go_roundw
     case rel=>exact⟨a+1,a+1,h,h,by go_num,by go_num,rfl,rfl,f.out,k⟩
     case measure=>simp[intOf];exact Pg.sV _ _ _ _ _ ha K
    | false=>
     have g:S.getD a 0 ≠ -2:=by rw[u];simpa [XU] using hm
     have i:=λz=>dM s z;rw[hm] at i;have m:=λz=>zaz s c z
     cases hk:Um s c with
     | true=>
      have G:S.getD a 0 = -1\/S.getD a 0=W.getD h 0:=by rw[u,p];simpa [Um] using hk
      have f:=hid (Pg.Wi S W a b t h y.out ha hlt g G);rw[hk] at m;clear u g G hm p hk
      go_wp2_with (go_at_call 198;refine (i _).mono ?_;rintro e q ⟨rfl,rfl⟩)
      go_quiet ((go_at_call 199;exact lJ (m _)))
      go_wp2
      exact⟨⟨a+1,b,t,h+1,by go_num,rfl,rfl,by go_num,f.out,below_drewN k nq⟩,by simp[intOf];exact Pg.sV _ _ _ _ _ ha (ze _)⟩
     | false=>
      have d:Pg.Bad S W a h:=λ_=>⟨g,by rw[u,p];simpa [Um] using hk⟩;rw[hk] at m
      by_cases hb0:0<b
      ·have f:=hid (Pg.Bw S W a b t h y.out d hlt hb0);have D:(0:Int)<(b:Int):=by omega
       clear u g hm p hk d
       go_wp2_with (go_at_call 198;refine (i _).mono ?_;rintro e q ⟨rfl,rfl⟩)
       go_quiet ((go_at_call 199;exact lJ (m _)))
       go_wp2
       exact⟨⟨b,b,t+1,t+1,rfl,rfl,by go_num,by go_num,f.out,below_drewN k nq⟩,by simp[intOf];exact Pg.sW _ _ _ _ _ (by omega) E⟩
      ·obtain rfl:b=0:=by omega
       have F:=Pg.Bz S W a t h y.out d hlt
       have C:A=false:=by
        cases A with
        | false=>rfl
        | true=>exact absurd (I.out.1 rfl) F
       subst C;clear u g hm p hk d F
       go_wp2_with (go_at_call 198;refine (i _).mono ?_;rintro e q ⟨rfl,rfl⟩)
       go_quiet ((go_at_call 199;exact lJ (m _)))
       go_wp2
       go_ret;exact⟨rfl,below_drewN k nq⟩
   ·have d:Pg.Bad S W a h:=λh=>absurd h ha;have da:decide ((a:Int)<(S.length:Int))=false:=zH (by omega)
    by_cases hb0:0<b
    ·have f:=hid (Pg.Bw S W a b t h y.out d hlt hb0);have D:(0:Int)<(b:Int):=by omega
     clear d p;go_wp2_with fail
     go_quiet (fail)
     go_wp2
     exact⟨⟨b,b,t+1,t+1,rfl,rfl,by go_num,by go_num,f.out,below_drewN k nq⟩,by simp[intOf];exact Pg.sW _ _ _ _ _ (by omega) E⟩
    ·obtain rfl:b=0:=by omega
     have F:=Pg.Bz S W a t h y.out d hlt
     have C:A=false:=by
      cases A with
      | false=>rfl
      | true=>exact absurd (I.out.1 rfl) F
     subst C;clear d F p;go_wp2_with fail
     go_quiet (fail)
     go_wp2
     go_ret;exact⟨rfl,below_drewN k nq⟩
  ·have H:=Pg.Wd S W a b t h y.out hlt;have P:(a:Int)<=(S.length:Int):=by omega
   have Q:(a:Int)<=(c1:Int):=by omega
   have v:uz (λj=>XU (S.getD (a+j) 0)) (S.length-a)=A:=by
    rw[vk,Dl S a,<- H];exact I.out.symm
   have o:=gZ O k
   have l:∀(r:Option Addr) (n:Nat),rowAt wr r (S.length-a) (λj=>S.getD (a+j) 0)->Calls prog 200 #[.slice r ((S.length-a:Nat)) n,.func (.func 198) #[] #[]] wr λe q=>e = .returned (.bool A)/\Below wr.heap.size wr q:=by
    intro r n hr
    have c:=DC (S.length-a) r n 198 #[] (λj=>S.getD (a+j) 0) (λj=>XU (S.getD (a+j) 0)) wr (by omega)
     (qx func198 (by kernel_rfl) rfl) hr
     (λz j _ _=>(dM _ z).mono λe q ⟨H,k⟩=>⟨H,k ▸ zi _ _⟩)
    rw[v] at c;exact c
   clear H v
   by_cases hca:c1=a
   ·have c:=l ao 0 (.inl (by omega));clear l o
    go_wp2_with (go_at_call 200;refine c.mono ?_;rintro e q ⟨rfl,B⟩)
    go_ret;exact⟨rfl,k.trans (B.mono k.size)⟩
   ·have c:=l (ao.map λx=>x.add a) (c1-a) (by
     rcases o with h0|⟨sb,so,rfl,hsc⟩
     ·exact .inl (by omega)
     ·refine .inr ⟨sb,so+a,by simp[addr_add],λj hj=>?_⟩
      have:=hsc (a+j) (by omega)
      rw[aD];exact this)
    clear l o
    go_wp2_with (go_at_call 200;refine c.mono ?_;rintro e q ⟨rfl,B⟩)
    go_ret;exact⟨rfl,k.trans (B.mono k.size)⟩
namespace Pg
open Ref
theorem zaQ(f:Nat)(s:BA)(h:s.size<f):(ZA f s).isSome=Lib.validD s.data.toList:=by
 induction f generalizing s with
 | zero=>omega
 | succ f b=>
  rw[ZA]
  by_cases h0:s.size=0
  ·rw[zb h0]
   have:s.data.toList=[]:=Vx (by rw[zP];exact h0)
   rw[this];rfl
  ·rw[za h0];have a:s.data.toList≠[]:=λe=>h0 (by rw[<- zP,e];rfl);rw[Lib.validD_step _ a];have hd:Lib.decodeL s.data.toList=Utf8.decode s 0:=rfl;rw[hd]
   rcases VQ s (by omega) with ⟨ho,e⟩|⟨ho,hc,e,hn⟩
   ·rw[zb ho,e];simp
   ·rw[e,za hn,za (by rw[ho];decide),Option.isSome_map];have c:=VM s (by omega);rw[b _ (by rw[jK];omega),Lib.ext_list]
theorem Fe(s:BA):Lib.validD s.data.toList=(chars s).isSome:=(zaQ _ s (by omega)).symm
theorem Fa(f:Nat)(s:BA)(l:List BA)(h:ZA f s=some l):∀c ∈ l,Qj c:=by
 induction f generalizing s l with
 | zero=>simp[ZA] at h
 | succ f d=>
  rw[ZA] at h
  by_cases h0:s.size=0
  ·rw[zb h0] at h;simp at h;subst h;simp
  ·rw[za h0] at h
   rcases VQ s (by omega) with ⟨ho,e⟩|⟨ho,hc,e,hn⟩
   ·rw[zb ho] at h;simp at h
   ·rw[za (by rw[ho];decide)] at h;obtain⟨r,b,rfl⟩:=vR.1 h;intro c a
    rcases vz.1 a with rfl|a
    ·exact hc
    ·exact d _ _ b c a
theorem nO(s:BA):∀c ∈ (chars s).getD [],Qj c:=by
 cases h:chars s with
 | none=>simp
 | some l=>exact Fa _ _ _ h
theorem Gi(s:BA)(i:Nat):Utf8.decode s i=Utf8.decode (s.extract i s.size) 0:=by
 rw[Lib.decode_at,Lib.decode_at];simp only[pR,Lib.ext_list,Nat.sub_zero,qM,jK,Nat.min_self]
 have e:∀j,(s.data.toList.drop i).getD j 0=s.data.toList.getD (i+j) 0:=by
  intro j;simp[List.getD]
 simp only[e,ut]
def Xg(c:BA):Value := .int .i32 ((jX c:Nat):Int)
theorem SY(f bound i:Nat)(s:BA)(acc:Array Value)(l:List BA)(a:ZA f (s.extract i s.size)=some l)(hb:s.size-i<=bound) :
  Conv.runesFrom s bound i acc=acc++(l.map Xg).toArray:=by
 induction f generalizing bound i acc l with
 | zero=>simp[ZA] at a
 | succ f j=>
  rw[ZA] at a;have c:(s.extract i s.size).size=s.size-i:=by rw[jK];omega
  by_cases h0:s.size-i=0
  ·rw[zb (by rw[c];exact h0)] at a;simp at a;subst a
   cases bound with
   | zero=>simp[Conv.runesFrom]
   | succ b=>unfold Conv.runesFrom;rw[za (by omega)];simp
  ·rw[za (by rw[c];exact h0)] at a
   rcases VQ (s.extract i s.size) (by omega) with ⟨ho,e⟩|⟨ho,hc,e,hn⟩
   ·rw[zb ho] at a;simp at a
   ·rw[za (by rw[ho];decide)] at a;obtain⟨r,d,rfl⟩:=vR.1 a;have g:=VM (s.extract i s.size) (by omega);obtain⟨b,rfl⟩:∃b,bound=b+1:=⟨bound-1,by omega⟩;unfold Conv.runesFrom;rw[zb (by omega),Gi,e]
    have h:(s.extract i s.size).extract (qJ (s.extract i s.size)).size (s.extract i s.size).size=s.extract (i+(qJ (s.extract i s.size)).size) s.size:=by
     rw[aa,c];have e:min (i+(s.size-i)) s.size=s.size:=by omega
     rw[e]
    rw[h] at d;simp only;rw[j b (i+(qJ (s.extract i s.size)).size) _ r d (by omega)];rw[Array.push_eq_append,Array.append_assoc];congr 1;simp[Xg]
theorem SX(s:BA)(h:(chars s).isSome=true):Conv.runesFrom s s.size 0 #[]=(((chars s).getD []).map Xg).toArray:=by
 obtain⟨l,a⟩:=aH.1 h;rw[a];have e:s.extract 0 s.size=s:=by simp
 have:=SY (s.size+1) s.size 0 s #[] l (by rw[e];exact a) (by omega)
 rw[this];simp
end Pg
theorem zaP(s:BA)(w:World)(b:s.size<=maxLen)(a:uZ w) :
  Calls prog 85 #[.string s] w λe d=>e = .returned (.bool (Ref.chars s).isSome)/\Below w.heap.size w d:=by
 have c:=Any.utf8_ValidString Tryz.lays196 s w (by unfold maxLen at b;omega) a;rw[Pg.Fe] at c;exact c
theorem MQ(s:BA)(w:World)(b:s.size<=maxLen)(g:uZ w) :
  Calls prog 46 #[.string s] w λe f=>e = .returned (.bool (Ref.vg s))/\Below w.heap.size w f:=by
 have c:=zaP s w b g;unfold Ref.vg;generalize (Ref.chars s).isSome=V at c |-;unfold maxLen at b
 by_cases h:s.size<=100
 ·have d:decide ((s.size:Int)<=100)=true:=zF (by omega);rw[zF h];go_enter func46,ntmps46
  go_wp2_with (go_at_call 85;refine c.mono ?_;rintro e f ⟨rfl,a⟩)
  go_ret;exact⟨by simp,a⟩
 ·have d:decide ((s.size:Int)<=100)=false:=zH (by omega);rw[zH h];go_enter func46,ntmps46
  go_wp2
  go_ret;exact⟨by simp,zi _ _⟩
theorem Kc(s:BA)(b:Bool)(hb:Ref.vg s=b)(c:s.size<=maxLen):∀w,uZ w ->
  Calls prog 46 #[.string s] w λe d=>e = .returned (.bool b)/\Below w.heap.size w d:=by
 subst hb;exact λw a=>MQ s w c a
theorem MK(m:BA×BA)(w:World)(k:m.1.size<=maxLen)(l:m.2.size<=maxLen)(n:uZ w) :
  Calls prog 48 #[QC m] w λe f=>e = .returned (.bool (Ref.Z8 m))/\Below w.heap.size w f:=by
 obtain⟨a,v⟩:=m;unfold QC;simp only at k l |-;generalize b:Ref.Z8 (a,v)=M;unfold Ref.Z8 at b;simp only at b;have d:=λO=>nB w O
 cases d1:a.toList==[119,104,111] with
 | true=>
  have e:M=false:=by rw[<- b,d1];simp
  subst e;clear b;go_enter func48,ntmps48
  go_wp2
  go_ret;exact⟨rfl,d _⟩
 | false=>
 cases d2:a.toList==[100,111] with
 | true=>
  have e:M=false:=by rw[<- b,d2];simp
  subst e;clear b;go_enter func48,ntmps48
  go_wp2
  go_ret;exact⟨rfl,d _⟩
 | false=>
 cases d3:a.toList==[111,110] with
 | true=>
  have e:M=false:=by rw[<- b,d3];simp
  subst e;clear b;go_enter func48,ntmps48
  go_wp2
  go_ret;exact⟨rfl,d _⟩
 | false=>
 rw[d1,d2,d3] at b;have g:=λW=>Kb a W k
 cases hn:Ref.qm a with
 | false=>
  have e:M=false:=by rw[<- b,hn];simp
  subst e;rw[hn] at g;clear b hn;go_enter func48,ntmps48
  go_wp2_with (go_at_call 51;refine (g _).mono ?_;rintro e f ⟨rfl,c⟩)
  go_ret;exact⟨rfl,(d _).trans (c.mono (by simp))⟩
 | true=>
  have j:=Kc v _ rfl l;have e:M=Ref.vg v:=by rw[<- b,hn];simp
  rw[<- e] at j;rw[hn] at g;clear b hn e;go_enter func48,ntmps48
  go_wp2_with (first
   | (go_at_call 51;refine (g _).mono ?_;rintro e f ⟨rfl,c⟩;obtain⟨o,p⟩:=y8 c;have q:w.heap.size<f.heap.size:=by (have:=c.size;simp at this;omega))
   | (go_at_call 46;refine (j _ (n.below ((d _).trans (c.mono (by simp))))).mono ?_;rintro e r ⟨rfl,h⟩))
  have i:Below w.heap.size w f:=(d _).trans (c.mono (by simp));go_ret;exact⟨rfl,i.trans (h.mono i.size)⟩
theorem Dn(ms:List (BA×BA))(f:BA×BA->Bool):uz (λj=>f (kE ms j)) ms.length=ms.all f:=by
 unfold uz;rw[vk,vP,vP]
 constructor
 ·intro h c d;obtain⟨j,b,rfl⟩:=ay.1 d
  have:=h j (vQ.2 b)
  rwa [Ja ms j b] at this
 ·intro h j b;have a:=vQ.1 b;rw[Ja ms j a];exact h _ (xg a)
theorem Dm(ms:List (BA×BA))(ao:Option Addr)(cap:Nat)(w:World)(g:ms.length<=100000000000)(b:∀j,j<ms.length->(kE ms j).1.size<=maxLen/\(kE ms j).2.size<=maxLen)(f:xD w ao ms)(d:uZ w) :
  Calls prog 47 #[.slice ao ms.length cap,.func (.func 48) #[] #[]] w λe h=>e = .returned (.bool (ms.all Ref.Z8))/\Below w.heap.size w h:=by
 have c:=Dv ms ao cap 48 #[] (λj=>Ref.Z8 (kE ms j)) w g (qx func48 (by kernel_rfl) rfl) f
  (λW j a hb=>MK (kE ms j) W (b j a).1 (b j a).2 (d.below hb))
 rw[Dn] at c;exact c
theorem IJ(p:Nat->Bool)(n k:Nat)(h:zD p n=some k):k<n/\p k=true/\∀j,j<k->p j=false:=by
 unfold zD at h;rw[Vy] at h;obtain⟨a,b,c⟩:=h;exact⟨by simpa using b,a,λj d=>by simpa using c j d⟩
theorem II(p:Nat->Bool)(n:Nat)(h:zD p n=none):∀j,j<n->p j=false:=by
 unfold zD at h;rw[Ya] at h;intro j a
 simpa using h j (vQ.2 a)
theorem Td(m:BA×BA)(name:BA)(B:Nat)(w:World)(b:w.cell? ⟨B,0,none⟩=some (.string name)) :
  Calls prog 201 #[QC m,.pointer (some ⟨B,0,none⟩)] w λe c=>e = .returned (.bool (m.1.toList==name.toList))/\Below w.heap.size w c:=by
 obtain⟨a,v⟩:=m;unfold QC;simp only;have q:=λO:Obj=>zh (nB w O) b;go_enter func201,ntmps201
 go_wp2
 go_ret;exact⟨rfl,nB w _⟩
theorem Te(r:Ref.Req)(name:BA)(ao:Option Addr)(cap:Nat)(w:World)(v:r.marks.length<=100000000000)(s:xD w ao r.marks) :
  Calls prog 161 #[Ref.qY r ao cap,.string name] w λe q=>
   e = .returned (.tuple #[.string ((Ref.says r name).getD ⟨#[]⟩),.bool (Ref.says r name).isSome])/\Below w.heap.size w q:=by
 obtain⟨who,act,on,ms⟩:=r;generalize a:Ref.says ⟨who,act,on,ms⟩ name=P at *;unfold Ref.says at a;simp only at a v s;unfold Ref.qY;simp only;have g:=λl m=>(nB w l).alloc (by simp) m
 cases c1:name.toList==[119,104,111] with
 | true=>
  rw[zb c1] at a;subst a;go_enter func161,ntmps161
  go_wp2
  go_ret2;exact⟨rfl,g _ _⟩
 | false=>
 rw[za (by simp[c1])] at a
 cases c2:name.toList==[100,111] with
 | true=>
  rw[zb c2] at a;subst a;go_enter func161,ntmps161
  go_wp2
  go_ret2;exact⟨rfl,g _ _⟩
 | false=>
 rw[za (by simp[c2])] at a
 cases c3:name.toList==[111,110] with
 | true=>
  rw[zb c3] at a;subst a;go_enter func161,ntmps161
  go_wp2
  go_ret2;exact⟨rfl,g _ _⟩
 | false=>
 rw[za (by simp[c3])] at a
 have c:=λl m x=>pz ms ao cap 201 #[.pointer (some ⟨w.heap.size+1,0,none⟩)] (λj=>(kE ms j).1.toList==name.toList) ((w.alloc l).alloc m) v
  (qx func201 (by kernel_rfl) rfl) (kF s (g l m))
  (λW j _ hb=>Td (kE ms j) name (w.heap.size+1) W (zh hb x))
 obtain⟨F,hF⟩:=Nm (zD (λj=>(kE ms j).1.toList==name.toList) ms.length);simp only[hF] at c
 cases F with
 | none=>
  have e:=Ref.NR ms name ms.length (by omega) (λj _ u=>by have:=II _ _ hF j u;rwa [Ja ms j u] at this);rw[e] at a;subst a;simp only[Q0,kU] at c;clear hF e;go_enter func161,ntmps161
  go_wp2_with (go_at_call 136;refine (c _ _ (by simp)).mono ?_;rintro e q ⟨rfl,d⟩)
  go_ret2;exact⟨rfl,(g _ _).trans (d.mono (by simp;omega))⟩
 | some k=>
  obtain⟨p,f,h⟩:=IJ _ _ _ hF;rw[Ja ms k p] at f;have e:=Ref.NQ ms name k p (λj y=>by have:=h j y;rwa [Ja ms j (by omega)] at this) f;rw[e] at a;subst a;simp only[yO,uw] at c
  rcases s with rfl|⟨b,o,rfl,hc⟩
  ·simp at p
  obtain⟨A,q2⟩:=hc k p;obtain⟨v1,i⟩:∃n,ms[k].2=n:=⟨_,rfl⟩;rw[i] at q2 |-;have z:(k:Int)<(ms.length:Int):=by omega
  clear hF e f h hc A i;go_enter func161,ntmps161
  go_wp2_with (go_at_call 136;refine (c _ _ (by simp)).mono ?_;rintro e q ⟨rfl,d⟩;obtain⟨B,C⟩:=y8 d;have t:Below w.heap.size w q:=(g _ _).trans (d.mono (by simp;omega));have D:=zh t q2)
  go_ret2;exact⟨rfl,t⟩
theorem Oa(r:Ref.Req)(name:BA)(ao:Option Addr)(cap B:Nat)(w:World)(j:r.marks.length<=100000000000)(i:xD w ao r.marks)
  (d:w.cell? ⟨B,0,none⟩=some (.string r.who))(f:w.cell? ⟨B,1,none⟩=some (.string r.act))(g:w.cell? ⟨B,2,none⟩=some (.string r.on))(h:w.cell? ⟨B,3,none⟩=some (.slice ao r.marks.length cap)) :
  Calls prog 160 #[.string name,.pointer (some ⟨B,0,none⟩)] w λe b=>
   e = .returned (.tuple #[.string ((Ref.says r name).getD ⟨#[]⟩),.bool (Ref.says r name).isSome])/\Below w.heap.size w b:=by
 have c:=Te r name ao cap w j i;obtain⟨who,act,on,ms⟩:=r;unfold Ref.qY at c;simp only at c d f g h;generalize Ref.says ⟨who,act,on,ms⟩ name=P at c;go_enter func160,ntmps160
 go_wp2_with (go_at_call 161;refine c.mono ?_;rintro e b ⟨rfl,a⟩)
 go_ret2;exact⟨rfl,a⟩
theorem Tc(r:Ref.Req)(ao:Option Addr)(cap:Nat)(w:World) :
  Calls prog 119 #[Ref.qY r ao cap] w λe a=>
   e = .returned (.func (.func 160) #[] #[.pointer (some ⟨w.heap.size,0,none⟩)])/\a=w.alloc (.cells #[.string r.who,.string r.act,.string r.on,.slice ao r.marks.length cap] 34):=by
 obtain⟨who,act,on,ms⟩:=r;unfold Ref.qY;simp only;go_enter func119,ntmps119
 go_wp2
 go_ret;exact⟨rfl,rfl⟩
def uj(w:World)(v:Value)(l:List BA):Prop:=
 ∃ao cap,v = .slice ao l.length cap/\(l=[]\/∃b o,ao=some ⟨b,o,none⟩/\∀j,(h:j<l.length)->w.cell? ⟨b,o+j,none⟩=some (.string l[j]))
theorem X4{w a:World}{v:Value}{l:List BA}(h:uj w v l)(hb:Below w.heap.size w a):uj a v l:=by
 obtain⟨ao,cap,d,h⟩:=h;refine⟨ao,cap,d,?_⟩
 rcases h with h|⟨b,o,ha,hc⟩
 ·exact .inl h
 ·exact .inr ⟨b,o,ha,λj c=>zh hb (hc j c)⟩
theorem KT{w:World}{base:Nat}{e:TypeId}{v:Value}{n:Nat}{l:List BA}(f:n=l.length)(h:w.ownsRow base e 1 v n (Ref.strCells l)):uj w v l:=by
 subst f;have a:=λg c=>h.cells (g:=g) c
 rcases h.2 with ⟨rfl,h0⟩|⟨g,cap,cur,rfl,_⟩
 ·exact⟨none,0,by rw[h0],.inl (Vx h0)⟩
 ·refine⟨_,cap,rfl,.inr ⟨g,0,rfl,λj d=>?_⟩⟩;have i:=Ref.WM l j d;have b:=a g rfl _ _ i;rw[VE] at b;rw[qM];exact b
def XJ(w:World)(b:Nat)(r:Ref.Req)(ao:Option Addr)(cap:Nat):Prop:=
 w.cell? ⟨b,0,none⟩=some (.string r.who)/\w.cell? ⟨b,1,none⟩=some (.string r.act)/\w.cell? ⟨b,2,none⟩=some (.string r.on)/\w.cell? ⟨b,3,none⟩=some (.slice ao r.marks.length cap)
theorem YZ{w a:World}{b:Nat}{r:Ref.Req}{ao:Option Addr}{cap:Nat}(h:XJ w b r ao cap)(hb:Below w.heap.size w a):XJ a b r ao cap:=
 ⟨zh hb h.1,zh hb h.2.1,zh hb h.2.2.1,zh hb h.2.2.2⟩
end Go.Proofs.YtagnlbgbnfnapaaGreatDoor
