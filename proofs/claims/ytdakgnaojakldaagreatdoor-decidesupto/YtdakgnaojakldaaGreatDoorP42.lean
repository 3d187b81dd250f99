/- P -/
import Derived.Test.YtdakgnaojakldaaGreatDoorP13
import Derived.Deep.QuietTactic
import Derived.BigQuiet
open Go.Proofs.Tryz
set_option maxRecDepth 100000
set_option maxHeartbeats 1000000
namespace Go.Proofs.YtdakgnaojakldaaGreatDoor
namespace Pg
open Ref
inductive Gl:List Int->List Int->Prop
 | nil:Gl [] []
 | skip {ss w:List Int}:Gl ss w->Gl (-2::ss) w
 | more {ss w:List Int} {c:Int}:Gl (-2::ss) w->Gl (-2::ss) (c::w)
 | one {s c:Int} {ss w:List Int}:s ≠ -2->(s = -1\/s=c)->Gl ss w->Gl (s::ss) (c::w)
theorem Uq(w:List Int):Gl [] w↔w=[]:=by
 constructor
 ·intro h;cases h;rfl
 ·rintro rfl;exact .nil
theorem Jp(s:Int)(e w:List Int)(d:s ≠ -2):Gl (s::e) w↔∃c w',w=c::w'/\(s = -1\/s=c)/\Gl e w':=by
 constructor
 ·intro h
  cases h with
  | skip h=>exact absurd rfl d
  | more h=>exact absurd rfl d
  | one f a b=>exact⟨_,_,rfl,a,b⟩
 ·rintro ⟨c,w',rfl,a,b⟩;exact .one d a b
theorem NH{S w:List Int}(h:Gl S w):∀a,S = -2::a->∃i,i<=w.length/\Gl a (w.drop i):=by
 induction h with
 | nil=>intro a e;cases e
 | skip h _=>intro a e;cases e;exact⟨0,by omega,by simpa using h⟩
 | more h d=>
  intro a e
  cases e
  obtain⟨i,hi,c⟩:=d _ rfl;exact⟨i+1,by simp;omega,by simpa using c⟩
 | one b _ _ _=>intro a e;cases e;exact absurd rfl b
theorem Xp(a w:List Int):Gl (-2::a) w↔∃i,i<=w.length/\Gl a (w.drop i):=by
 constructor
 ·intro h;exact NH h a rfl
 ·rintro ⟨i,hi,b⟩
  induction i generalizing w with
  | zero=>exact .skip (by simpa using b)
  | succ i d=>
   cases w with
   | nil=>simp at hi
   | cons c w=>exact .more (d w (by simpa using hi) (by simpa using b))
inductive Seg:List Int->List Int->Prop
 | nil:Seg [] []
 | cons {s c:Int} {ss w:List Int}:s ≠ -2->(s = -1\/s=c)->Seg ss w->Seg (s::ss) (c::w)
theorem zaW{a w:List Int}(h:Seg a w)(s c:Int)(f:s ≠ -2)(e:s = -1\/s=c):Seg (a++[s]) (w++[c]):=by
 induction h with
 | nil=>exact .cons f e .nil
 | cons b d _ g=>exact .cons b d g
def Af(a:List Int):Prop:=∀s ∈ a,s ≠ -2
theorem zaV{a w:List Int}(h:Seg a w):Af a:=by
 induction h with
 | nil=>intro s b;cases b
 | cons c _ _ d=>
  intro s b
  rcases kR.1 b with rfl|b
  ·exact c
  ·exact d s b
theorem zaU{a w:List Int}(h:Seg a w)(r v:List Int)(d:Gl r v):Gl (a++r) (w++v):=by
 induction h with
 | nil=>exact d
 | cons b c _ e=>exact .one b c e
theorem NB(a r w:List Int)(b:Af a)(h:Gl (a++r) w):a.length<=w.length/\Gl r (w.drop a.length):=by
 induction a generalizing w with
 | nil=>exact⟨by simp,by simpa using h⟩
 | cons s a g=>
  obtain⟨c,w',rfl,_,d⟩:=(Jp s (a++r) w (b s (by simp))).1 h;obtain⟨i,e⟩:=g w' (λs f=>b s (by simp[f])) d;exact⟨by simp;omega,by simpa using e⟩
def St(S W:List Int)(a b c here:Nat):Prop:=
 a<=S.length/\here<=W.length/\c<=here/\b<=a /\
 ((b=0/\c=0/\(Gl S W↔Gl (S.drop a) (W.drop here))) \/
  (0<b/\here=c+(a-b)/\(Gl S W↔Gl (-2::S.drop b) (W.drop c))/\Seg ((S.drop b).take (a-b)) ((W.drop c).take (a-b))))
theorem zbu(S W:List Int):St S W 0 0 0 0:=⟨by omega,by omega,by omega,by omega,.inl ⟨rfl,rfl,by simp⟩⟩
theorem drop_at(S:List Int)(a:Nat)(h:a<S.length):S.drop a=S.getD a 0::S.drop (a+1):=by
 rw[jf h,zQ,zm h];rfl
theorem pJ(S:List Int)(b a:Nat)(h:b<=a):S.drop b=(S.drop b).take (a-b)++S.drop a:=by
 have e:=JS (a-b) (S.drop b);rw[Yt,show b+(a-b)=a by omega] at e;exact e.symm
theorem iJ(S W:List Int)(a b c here:Nat)(k:b<=a)(t:here=c+(a-b))(s:here<=W.length)(e:Seg ((S.drop b).take (a-b)) ((W.drop c).take (a-b)))(n:a<=S.length) :
  (Gl (-2::S.drop b) (W.drop c)↔∃j,here<=j/\j<=W.length/\(∃i,c<=i/\j=i+(a-b)/\Gl (S.drop b) (W.drop i))/\Gl (S.drop a) (W.drop j)):=by
 have p:=zaV e;have o:((S.drop b).take (a-b)).length=a-b:=by simp;omega
 constructor
 ·intro h;obtain⟨i,hi,l⟩:=(Xp _ _).1 h;rw[Yt] at l;have d:=l;rw[pJ S b a k] at d;obtain⟨g,f⟩:=NB _ _ _ p d;rw[o] at g f;rw[Yt] at f;simp at hi g;exact⟨c+i+(a-b),by omega,by omega,⟨c+i,by omega,rfl,l⟩,f⟩
 ·rintro ⟨j,g,f,⟨i,q,r,m⟩,_⟩;refine (Xp _ _).2 ⟨i-c,by simp;omega,?_⟩;rw[Yt,show c+(i-c)=i by omega];exact m
theorem Cu(b W:List Int)(j h:Nat)(d:h<=j)(c:j<=W.length)(a:Gl (-2::b) (W.drop j)):Gl (-2::b) (W.drop h):=by
 obtain⟨i,hi,a⟩:=(Xp _ _).1 a;refine (Xp _ _).2 ⟨i+(j-h),by simp at hi |-;omega,?_⟩;rw[Yt] at a |-;rw[show h+(i+(j-h))=j+i by omega];exact a
theorem Ce(S W:List Int)(a b c here:Nat)(f:b<=a)(i:here=c+(a-b))(d:Seg ((S.drop b).take (a-b)) ((W.drop c).take (a-b)))
  (h:Gl (S.drop a) (W.drop here)):Gl (S.drop b) (W.drop c):=by
 have g:=zaU d _ _ h;rw[<- pJ S b a f] at g
 have e:(W.drop c).take (a-b)++W.drop here=W.drop c:=by
  have e:=JS (a-b) (W.drop c);rw[Yt,<- i] at e;exact e
 rwa [e] at g
theorem zbv(S W:List Int)(a c b here:Nat)(h:St S W a c b here)(p:a<S.length)(e:S.getD a 0 = -2):St S W (a+1) (a+1) here here:=by
 obtain⟨n,d,q,i,o⟩:=h;refine⟨by omega,d,zf _,zf _,.inr ⟨by omega,by omega,?_,by simp;exact .nil⟩⟩;have f:=drop_at S a p;rw[e] at f;rw[<- f]
 rcases o with ⟨_,_,h6⟩|⟨_,hh,h6,hseg⟩
 ·exact h6
 ·rw[h6,iJ S W a c b here i hh d hseg n]
  constructor
  ·rintro ⟨j,l,m,_,g⟩;rw[f] at g |-;exact Cu _ W j here l m g
  ·intro k;exact⟨here,zf _,d,⟨b,zf _,hh,Ce S W a c b here i hh hseg k⟩,k⟩
theorem zbw(S W:List Int)(a b d here:Nat)(h:St S W a b d here)(i:a<S.length)(j:here<W.length)(e:S.getD a 0 ≠ -2)(g:S.getD a 0 = -1\/S.getD a 0=W.getD here 0) :
  St S W (a+1) b d (here+1):=by
 obtain⟨o,p,q,r,m⟩:=h;refine⟨by omega,by omega,by omega,by omega,?_⟩
 rcases m with ⟨h6,h7,h8⟩|⟨h6,h7,h8,hseg⟩
 ·refine .inl ⟨h6,h7,?_⟩;rw[h8,drop_at S a i,drop_at W here j,Jp _ _ _ e]
  constructor
  ·rintro ⟨c,w',n,_,f⟩;cases n;exact f
  ·intro f;exact⟨_,_,rfl,g,f⟩
 ·refine .inr ⟨h6,by omega,h8,?_⟩
  have k:(S.drop b).take (a+1-b)=(S.drop b).take (a-b)++[S.getD a 0]:=by
   rw[show a+1-b=a-b+1 by omega,QD (by simp;omega)];congr 1;rw[bP,zQ,zm i];simp[show b+(a-b)=a by omega]
  have l:(W.drop d).take (a+1-b)=(W.drop d).take (a-b)++[W.getD here 0]:=by
   rw[show a+1-b=a-b+1 by omega,QD (by simp;omega)];congr 1;rw[bP,zQ,zm j];simp[show d+(a-b)=here by omega]
  rw[k,l];exact zaW hseg _ _ e g
def Bad(S W:List Int)(a here:Nat):Prop:=a<S.length->S.getD a 0 ≠ -2/\¬(S.getD a 0 = -1\/S.getD a 0=W.getD here 0)
theorem nG(S W:List Int)(a here:Nat)(hb:Bad S W a here)(f:here<W.length):¬Gl (S.drop a) (W.drop here):=by
 intro h
 by_cases ha:a<S.length
 ·obtain⟨b,d⟩:=hb ha;rw[drop_at S a ha,drop_at W here f,Jp _ _ _ b] at h;obtain⟨c,w',g,e,_⟩:=h
  cases g
  exact d e
 ·rw[XT (by omega),Uq] at h
  have:=congrArg List.length h
  simp at this;omega
theorem Cr(S W:List Int)(a c b here:Nat)(h:St S W a c b here)(hb:Bad S W a here)(o:here<W.length)(g:0<c):St S W c c (b+1) (b+1):=by
 obtain⟨k,l,t,m,n⟩:=h;refine⟨by omega,by omega,zf _,zf _,.inr ⟨g,by omega,?_,by simp;exact .nil⟩⟩
 rcases n with ⟨h6,_⟩|⟨_,h7,h8,hseg⟩
 ·omega
 ·rw[h8]
  constructor
  ·intro d;rw[iJ S W a c b here m h7 l hseg k] at d;obtain⟨j,p,q,⟨i,r,s,e⟩,f⟩:=d
   have:i≠b:=by
    rintro rfl
    have:j=here:=by omega
    subst this;exact nG S W a j hb o f
   refine (Xp _ _).2 ⟨i-(b+1),by simp;omega,?_⟩;rw[Yt,show b+1+(i-(b+1))=i by omega];exact e
  ·intro d;exact Cu _ W (b+1) b (by omega) (by omega) d
theorem Cs(S W:List Int)(a d here:Nat)(h:St S W a 0 d here)(hb:Bad S W a here)(c:here<W.length):¬Gl S W:=by
 obtain⟨e,f,g,i,b⟩:=h
 rcases b with ⟨_,_,h8⟩|⟨h6,_⟩
 ·rw[h8];exact nG S W a here hb c
 ·omega
theorem NI(S:List Int):Gl S []↔∀s ∈ S,s = -2:=by
 induction S with
 | nil=>simp[Uq]
 | cons s S b=>
  by_cases hs:s = -2
  ·subst hs;rw[Xp];simp only[List.drop_nil,JQ,kR,forall_eq_or_imp,Q8];rw[<- b]
   constructor
   ·rintro ⟨_,_,h⟩;exact h
   ·intro h;exact⟨0,zf _,h⟩
  ·rw[Jp _ _ _ hs]
   constructor
   ·rintro ⟨c,w',a,_⟩;cases a
   ·intro h;exact absurd (h s (by simp)) hs
theorem zbt(S W:List Int)(a d c here:Nat)(h:St S W a d c here)(q:¬here<W.length):Gl S W↔∀s ∈ S.drop a,s = -2:=by
 obtain⟨k,f,p,g,l⟩:=h;have i:here=W.length:=by omega
 rw[<- NI]
 rcases l with ⟨_,_,h8⟩|⟨_,h7,h8,hseg⟩
 ·rw[h8,i,Y6]
 ·rw[h8,iJ S W a d c here g h7 f hseg k]
  constructor
  ·rintro ⟨j,n,o,_,e⟩
   have:j=W.length:=by omega
   rw[this,Y6] at e;exact e
  ·intro m;have b:Gl (S.drop a) (W.drop here):=by rw[i,Y6];exact m
   exact⟨here,zf _,f,⟨c,zf _,h7,Ce S W a d c here g h7 hseg b⟩,b⟩
def meas(n m a b:Nat):Nat:=(m+1-b)*(n+1)+(n+1-a)
theorem wE(n m a c b:Nat)(d:a<n)(e:c<=b):meas n m (a+1) b<meas n m a c:=by
 unfold meas
 have:(m+1-b)*(n+1)<=(m+1-c)*(n+1):=VY _ (by omega)
 omega
theorem wG(n m a c b:Nat)(e:b<m)(d:a<=n):meas n m c (b+1)<meas n m a b:=by
 unfold meas
 have:(m+1-b)=(m+1-(b+1))+1:=by omega
 rw[this,Nat.succ_mul];omega
end Pg
end Go.Proofs.YtdakgnaojakldaaGreatDoor
namespace Go.Proofs.YtdakgnaojakldaaGreatDoor
open Go.RowKit
def Yc(s:Int):Bool:=s == -2
def UV(s c:Int):Bool:=s == -1||s==c
theorem fP(s:Int)(w:World):Calls prog 238 #[.int .i32 s] w λe w'=>e = .returned (.bool (Yc s))/\w'=w:=by
 unfold Yc;go_enter func238,ntmps238
 go_wp2
 go_ret;exact⟨rfl,rfl⟩
theorem zcz(s c:Int)(w:World):Calls prog 239 #[.int .i32 s,.int .i32 c] w λe w'=>e = .returned (.bool (UV s c))/\w'=w:=by
 unfold UV
 cases h:s == -1 with
 | true=>
  go_enter func239,ntmps239
  go_wp2
  go_ret;exact⟨rfl,rfl⟩
 | false=>
  go_enter func239,ntmps239
  go_wp2
  go_ret;exact⟨by simp,rfl⟩
theorem Eg(S:List Int)(a:Nat):uT (λj=>Yc (S.getD (a+j) 0)) (S.length-a)=true↔∀s ∈ S.drop a,s = -2:=by
 unfold uT Yc;rw[ZM]
 constructor
 ·intro h s d;obtain⟨j,b,rfl⟩:=bR.1 d;simp at b
  have:=h j (jW.2 (by omega))
  rw[zQ,zm (by omega)] at this
  simpa [List.getElem_drop] using this
 ·intro h j b;have c:=jW.1 b;rw[zQ,zm (by omega)]
  have:=h (S[a+j]'(by omega)) (by rw[bR];exact⟨j,by simp;omega,by simp⟩)
  simpa using this
theorem SB(S W:List Int)(ao L:Option Addr)(c1 c2:Nat)(w:World)(M:rowAt w ao S.length λj=>S.getD j 0)(T:rowAt w L W.length λj=>W.getD j 0)
  (R:S.length<=1000000)(U:W.length<=1000000)(Z:S.length<=c1)(A:Bool)(z:A=true↔Pg.Gl S W) :
  Calls prog 214 #[.slice ao S.length c1,.slice L W.length c2] w λe w'=>e = .returned (.bool A)/\Below w.heap.size w w':=by
 have G:=hid z;clear z;go_enter func214,ntmps214
 go_wp2
 go_loopw [5,6,7,8] (λH Q K hv wr=>∃a b t h:Nat,H = .int .i64 a/\Q = .int .i64 b/\K = .int .i64 t/\hv = .int .i64 h/\Pg.St S W a b t h/\Below w.heap.size w wr)
  (λH _ K _ _=>Pg.meas S.length W.length (intOf H).toNat (intOf K).toNat)
 case atStart=>exact⟨0,0,0,0,rfl,rfl,rfl,rfl,Pg.zbu S W,ze _ _⟩
 case round=>
  obtain⟨a,b,t,h,rfl,rfl,rfl,rfl,f,k⟩:=hrel;have v:=hid f;have J:a<=S.length/\h<=W.length/\t<=h/\b<=a:=⟨f.1,f.2.1,f.2.2.1,f.2.2.2.1⟩;obtain⟨C,X,I,Y⟩:=J;clear f
  by_cases hlt:h<W.length
  ·have P:(h:Int)<(W.length:Int):=by omega
   rcases T with h0|⟨wb,wo,rfl,hwc⟩
   ·omega
   have qw:=zh k (hwc h hlt);obtain⟨c,p⟩:=Nm (W.getD h 0);simp only[p] at qw
   by_cases ha:a<S.length
   ·have V:(a:Int)<(S.length:Int):=by omega
    rcases M with h0|⟨sb,so,rfl,hsc⟩
    ·omega
    have qs:=zh k (hsc a ha);obtain⟨s,r⟩:=Nm (S.getD a 0);simp only[r] at qs;clear hsc hwc
    cases hm:Yc s with
    | true=>
     have g:S.getD a 0 = -2:=by rw[r];simpa [Yc] using hm
     have f:=hid (Pg.zbv S W a b t h v.out ha g);have i:=λW'=>fP s W';rw[hm] at i;have HC:=hid p;clear r g hm p
     go_wp2_with (go_at_call 238;refine (i _).mono ?_;rintro e w' ⟨rfl,rfl⟩)
     go_roundw
     case rel=>exact⟨a+1,a+1,h,h,by go_num,by go_num,rfl,rfl,f.out,k⟩
     case measure=>simp[intOf];exact Pg.wE _ _ _ _ _ ha I
    | false=>
     have g:S.getD a 0 ≠ -2:=by rw[r];simpa [Yc] using hm
     have i:=λW'=>fP s W';rw[hm] at i;have m:=λW'=>zcz s c W'
     cases hk:UV s c with
     | true=>
      have E:S.getD a 0 = -1\/S.getD a 0=W.getD h 0:=by rw[r,p];simpa [UV] using hk
      have f:=hid (Pg.zbw S W a b t h v.out ha hlt g E);rw[hk] at m;clear r g E hm p hk
      go_wp2_with (go_at_call 238;refine (i _).mono ?_;rintro e w' ⟨rfl,rfl⟩)
      go_quiet ((go_at_call 239;exact Calls.quiet_of_same (m _)))
      go_wp2
      exact⟨⟨a+1,b,t,h+1,by go_num,rfl,rfl,by go_num,f.out,below_drewN k nq⟩,by simp[intOf];exact Pg.wE _ _ _ _ _ ha (zf _)⟩
     | false=>
      have d:Pg.Bad S W a h:=λ_=>⟨g,by rw[r,p];simpa [UV] using hk⟩;rw[hk] at m
      by_cases hb0:0<b
      ·have f:=hid (Pg.Cr S W a b t h v.out d hlt hb0);have B:(0:Int)<(b:Int):=by omega
       clear r g hm p hk d
       go_wp2_with (go_at_call 238;refine (i _).mono ?_;rintro e w' ⟨rfl,rfl⟩)
       go_quiet ((go_at_call 239;exact Calls.quiet_of_same (m _)))
       go_wp2
       exact⟨⟨b,b,t+1,t+1,rfl,rfl,by go_num,by go_num,f.out,below_drewN k nq⟩,by simp[intOf];exact Pg.wG _ _ _ _ _ (by omega) C⟩
      ·obtain rfl:b=0:=by omega
       have D:=Pg.Cs S W a t h v.out d hlt
       have z:A=false:=by
        cases A with
        | false=>rfl
        | true=>exact absurd (G.out.1 rfl) D
       subst z;clear r g hm p hk d D
       go_wp2_with (go_at_call 238;refine (i _).mono ?_;rintro e w' ⟨rfl,rfl⟩)
       go_quiet ((go_at_call 239;exact Calls.quiet_of_same (m _)))
       go_wp2
       go_ret;exact⟨rfl,below_drewN k nq⟩
   ·have d:Pg.Bad S W a h:=λh=>absurd h ha;have da:decide ((a:Int)<(S.length:Int))=false:=zJ (by omega)
    by_cases hb0:0<b
    ·have f:=hid (Pg.Cr S W a b t h v.out d hlt hb0);have B:(0:Int)<(b:Int):=by omega
     clear d p;go_wp2_with fail
     go_quiet (fail)
     go_wp2
     exact⟨⟨b,b,t+1,t+1,rfl,rfl,by go_num,by go_num,f.out,below_drewN k nq⟩,by simp[intOf];exact Pg.wG _ _ _ _ _ (by omega) C⟩
    ·obtain rfl:b=0:=by omega
     have D:=Pg.Cs S W a t h v.out d hlt
     have z:A=false:=by
      cases A with
      | false=>rfl
      | true=>exact absurd (G.out.1 rfl) D
     subst z;clear d D p;go_wp2_with fail
     go_quiet (fail)
     go_wp2
     go_ret;exact⟨rfl,below_drewN k nq⟩
  ·have F:=Pg.zbt S W a b t h v.out hlt;have N:(a:Int)<=(S.length:Int):=by omega
   have O:(a:Int)<=(c1:Int):=by omega
   have u:uT (λj=>Yc (S.getD (a+j) 0)) (S.length-a)=A:=by
    rw[kL,Eg S a,<- F];exact G.out.symm
   have o:=iB M k
   have l:∀(q:Option Addr) (n:Nat),rowAt wr q (S.length-a) (λj=>S.getD (a+j) 0)->Calls prog 240 #[.slice q ((S.length-a:Nat)) n,.func (.func 238) #[] #[]] wr λe w'=>e = .returned (.bool A)/\Below wr.heap.size wr w':=by
    intro q n hr
    have c:=Ew (S.length-a) q n 238 #[] (λj=>S.getD (a+j) 0) (λj=>Yc (S.getD (a+j) 0)) wr (by omega)
     (enters_of func238 (by kernel_rfl) rfl) hr
     (λW' j _ _=>(fP _ W').mono λe w' ⟨F,k⟩=>⟨F,k ▸ ze _ _⟩)
    rw[u] at c;exact c
   clear F u
   by_cases hca:c1=a
   ·have c:=l ao 0 (.inl (by omega));clear l o
    go_wp2_with (go_at_call 240;refine c.mono ?_;rintro e w' ⟨rfl,y⟩)
    go_ret;exact⟨rfl,k.trans (y.mono k.size)⟩
   ·have c:=l (ao.map λx=>x.add a) (c1-a) (by
     rcases o with h0|⟨sb,so,rfl,hsc⟩
     ·exact .inl (by omega)
     ·refine .inr ⟨sb,so+a,by simp[addr_add],λj hj=>?_⟩
      have:=hsc (a+j) (by omega)
      rw[VX];exact this)
    clear l o
    go_wp2_with (go_at_call 240;refine c.mono ?_;rintro e w' ⟨rfl,y⟩)
    go_ret;exact⟨rfl,k.trans (y.mono k.size)⟩
end Go.Proofs.YtdakgnaojakldaaGreatDoor
