/- P -/
import Derived.Test.YtdakgnaojakldaaGreatDoorS38
set_option maxRecDepth 100000
namespace Go.Proofs.YtdakgnaojakldaaGreatDoor
open Go.RowKit
namespace Kp
structure Qa where
 layer:Int
 name:Int
 rules:List yT
def Qa.lay(p:Qa):Nat:=zS p.layer 4
def Qa.num(p:Qa):Nat:=zS p.name 6
def XX(k:Nat):BY:=pF.getD k ⟨#[]⟩
def UL(a:StO):Prop:=∀i,i<4->Z9 (a i)
theorem UC(a:StO)(i:Nat)(L:List zm):upd a i L i=L:=by unfold upd;rw[if_pos rfl]
theorem UB(a:StO){i j:Nat}(h:j≠i)(L:List zm):upd a i L j=a j:=by unfold upd;rw[if_neg h]
end Kp
def Jv(w:World)(e:Value)(l:List Kp.Qa):Prop:=∃a c,e = .slice a l.length c/\∀(k:Nat) (p:Kp.Qa),l[k]?=some p->I64 p.layer/\I64 p.name/\p.rules.length<=maxLen /\
 ∃b o d,a=some ⟨b,o,none⟩/\w.cell? ⟨b,o+k*3,none⟩=some (.int .i64 p.layer)/\w.cell? ⟨b,o+k*3+1,none⟩=some (.int .i64 p.name)/\w.cell? ⟨b,o+k*3+2,none⟩=some d/\QM w d p.rules
theorem Jv.below{w d:World}{b:Value}{l:List Kp.Qa}(h:Jv w b l)(hb:Below w.heap.size w d):Jv d b l:=by
 obtain⟨a,c,rfl,h⟩:=h;refine⟨a,c,rfl,λk p m=>?_⟩;obtain⟨g,i,j,f,o,q,e,c0,c1,c2,n⟩:=h k p m;exact⟨g,i,j,f,o,q,e,zg hb c0,zg hb c1,zg hb c2,n.below hb⟩
structure kM (w:World) (cb hb:Nat) (st:StO):Prop where
 cnt:∀i,i<4->w.cell? ⟨cb,i,none⟩=some (.int .i64 ((st i).length:Nat))/\w.frozen? ⟨cb,i,none⟩=false
 has:∀i,i<4->∀k,k<6->w.cell? ⟨hb,i*6+k,none⟩=some (.bool (zt (st i) (Kp.XX k)))/\w.frozen? ⟨hb,i*6+k,none⟩=false
theorem kM.turn{w f:World}{c hb:Nat}{m:StO}{M:Nat->Prop}(h:kM w c hb m)(e:zy M w f)(j:¬M c)(l:¬M hb):kM f c hb m:=by
 have g:∀(b k:Nat) (v:Value),¬M b->w.cell? ⟨b,k,none⟩=some v->w.frozen? ⟨b,k,none⟩=false->f.frozen? ⟨b,k,none⟩=false:=λb k v p n o=>
  (World.frozen?_of_block (w:=w) (a:=⟨b,k,none⟩) (e.block b (World.block_lt_of_cell? _ _ n) p)).trans o
 exact⟨λi hi=>⟨e.cell (x:=⟨c,i,none⟩) j (h.cnt i hi).1,g _ _ _ j (h.cnt i hi).1 (h.cnt i hi).2⟩,λi hi k d=>⟨e.cell (x:=⟨hb,i*6+k,none⟩) l (h.has i hi k d).1,g _ _ _ l (h.has i hi k d).1 (h.has i hi k d).2⟩⟩
theorem kM.same{w:World}{e hb:Nat}{d c:StO}(h:kM w e hb d)(g:∀a,a<4->(c a).length=(d a).length)(j:∀a,a<4->∀b,b<6->zt (c a) (Kp.XX b)=zt (d a) (Kp.XX b)):kM w e hb c:=
 ⟨λi hi=>by rw[g i hi];exact h.cnt i hi,λi hi k f=>by rw[j i hi k f];exact h.has i hi k f⟩
theorem kM.more{w:World}{l hb:Nat}{k g:StO}(h:kM w l hb k)(m:l≠hb){i j:Nat}(hi:i<4)(q:j<6)(o:∀a,a<4->(g a).length=if a=i then (k a).length+1 else (k a).length)(p:∀a,a<4->∀b,b<6->zt (g a) (Kp.XX b)=(zt (k a) (Kp.XX b)||(decide (a=i)&&decide (b=j)))) :
  kM ((w.setCell ⟨l,i,none⟩ (.int .i64 (((k i).length:Int)+1))).setCell ⟨hb,i*6+j,none⟩ (.bool true)) l hb g:=by
 refine⟨λa d=>⟨?_,by rw[World.frozen?_setCell,World.frozen?_setCell];exact (h.cnt a d).2⟩,λa d b f=>⟨?_,by rw[World.frozen?_setCell,World.frozen?_setCell];exact (h.has a d b f).2⟩⟩
 ·rw[World.cell?_setCell_other _ _ _ _ (by intro e;injection e with e;exact m e.symm),o a d]
  by_cases e:a=i
  ·subst e;rw[if_pos rfl,World.cell?_setCell_same _ _ _ (h.cnt a d).1]
   simp
  ·rw[if_neg e,World.cell?_setCell_other _ _ _ _ (by intro c;injection c with _ c;exact e c.symm)]
   exact (h.cnt a d).1
 ·have n:=(World.cell?_setCell_other w ⟨l,i,none⟩ ⟨hb,a*6+b,none⟩ (.int .i64 (((k i).length:Int)+1)) (by intro e;injection e with e;exact m e)).trans (h.has a d b f).1
  rw[p a d b f]
  by_cases e:a=i/\b=j
  ·obtain⟨rfl,rfl⟩:=e;rw[World.cell?_setCell_same _ _ _ n]
   simp
  ·rw[World.cell?_setCell_other _ _ _ _ (by intro c;injection c with _ c;apply e;constructor<;>omega),n]
   have:(decide (a=i)&&decide (b=j))=false:=by
    rw[Bool.and_eq_false_iff]
    by_cases e1:a=i
    ·exact .inr (decide_eq_false (λc=>e ⟨e1,c⟩))
    ·exact .inl (decide_eq_false e1)
   rw[this,Bool.or_false]
namespace Pg
open Ref
inductive Gl:List Int->List Int->Prop
 | nil:Gl [] []
 | skip {ss w:List Int}:Gl ss w->Gl (-2::ss) w
 | more {ss w:List Int} {c:Int}:Gl (-2::ss) w->Gl (-2::ss) (c::w)
 | one {s c:Int} {ss w:List Int}:s ≠ -2->(s = -1\/s=c)->Gl ss w->Gl (s::ss) (c::w)
theorem XP(w:List Int):Gl [] w↔w=[]:=by
 constructor
 ·intro h;cases h;rfl
 ·rintro rfl;exact .nil
theorem Qp(s:Int)(f w:List Int)(d:s ≠ -2):Gl (s::f) w↔∃c e,w=c::e/\(s = -1\/s=c)/\Gl f e:=by
 constructor
 ·intro h
  cases h with
  | skip h=>exact absurd rfl d
  | more h=>exact absurd rfl d
  | one g a b=>exact⟨_,_,rfl,a,b⟩
 ·rintro ⟨c,e,rfl,a,b⟩;exact .one d a b
theorem wU{S w:List Int}(h:Gl S w):∀a,S = -2::a->∃i,i<=w.length/\Gl a (w.drop i):=by
 induction h with
 | nil=>intro a e;cases e
 | skip h _=>intro a e;cases e;exact⟨0,by omega,by simpa using h⟩
 | more h d=>
  intro a e
  cases e
  obtain⟨i,hi,c⟩:=d _ rfl;exact⟨i+1,by simp;omega,by simpa using c⟩
 | one b _ _ _=>intro a e;cases e;exact absurd rfl b
theorem kw(a w:List Int):Gl (-2::a) w↔∃i,i<=w.length/\Gl a (w.drop i):=by
 constructor
 ·intro h;exact wU h a rfl
 ·rintro ⟨i,hi,b⟩
  induction i generalizing w with
  | zero=>exact .skip (by simpa using b)
  | succ i d=>
   cases w with
   | nil=>simp at hi
   | cons c w=>exact .more (d w (by simpa using hi) (by simpa using b))
inductive Seg:List Int->List Int->Prop
 | nil:Seg [] []
 | cons {s c:Int} {ss w:List Int}:s ≠ -2->(s = -1\/s=c)->Seg ss w->Seg (s::ss) (c::w)
theorem GX{a w:List Int}(h:Seg a w)(s c:Int)(f:s ≠ -2)(e:s = -1\/s=c):Seg (a++[s]) (w++[c]):=by
 induction h with
 | nil=>exact .cons f e .nil
 | cons b d _ g=>exact .cons b d g
def dz(a:List Int):Prop:=∀s ∈ a,s ≠ -2
theorem GV{a w:List Int}(h:Seg a w):dz a:=by
 induction h with
 | nil=>intro s b;cases b
 | cons c _ _ d=>
  intro s b
  rcases List.mem_cons.1 b with rfl|b
  ·exact c
  ·exact d s b
theorem GU{a w:List Int}(h:Seg a w)(r v:List Int)(d:Gl r v):Gl (a++r) (w++v):=by
 induction h with
 | nil=>exact d
 | cons b c _ e=>exact .one b c e
theorem wP(a r w:List Int)(b:dz a)(h:Gl (a++r) w):a.length<=w.length/\Gl r (w.drop a.length):=by
 induction a generalizing w with
 | nil=>exact⟨by simp,by simpa using h⟩
 | cons s a g=>
  obtain⟨c,i,rfl,_,d⟩:=(Qp s (a++r) w (b s (by simp))).1 h;obtain⟨j,e⟩:=g i (λs f=>b s (by simp[f])) d;exact⟨by simp;omega,by simpa using e⟩
def St(S W:List Int)(a b c here:Nat):Prop:=
 a<=S.length/\here<=W.length/\c<=here/\b<=a /\
 ((b=0/\c=0/\(Gl S W↔Gl (S.drop a) (W.drop here))) \/
  (0<b/\here=c+(a-b)/\(Gl S W↔Gl (-2::S.drop b) (W.drop c))/\Seg ((S.drop b).take (a-b)) ((W.drop c).take (a-b))))
theorem Iz(S W:List Int):St S W 0 0 0 0:=⟨by omega,by omega,by omega,by omega,.inl ⟨rfl,rfl,by simp⟩⟩
theorem drop_at(S:List Int)(a:Nat)(h:a<S.length):S.drop a=S.getD a 0::S.drop (a+1):=by
 rw[List.drop_eq_getElem_cons h,List.getD_eq_getElem?_getD,List.getElem?_eq_getElem h];rfl
theorem KZ(S:List Int)(b a:Nat)(h:b<=a):S.drop b=(S.drop b).take (a-b)++S.drop a:=by
 have e:=List.take_append_drop (a-b) (S.drop b);rw[List.drop_drop,show b+(a-b)=a by omega] at e;exact e.symm
theorem V9(S W:List Int)(a b c here:Nat)(k:b<=a)(t:here=c+(a-b))(s:here<=W.length)(e:Seg ((S.drop b).take (a-b)) ((W.drop c).take (a-b)))(n:a<=S.length) :
  (Gl (-2::S.drop b) (W.drop c)↔∃j,here<=j/\j<=W.length/\(∃i,c<=i/\j=i+(a-b)/\Gl (S.drop b) (W.drop i))/\Gl (S.drop a) (W.drop j)):=by
 have p:=GV e;have o:((S.drop b).take (a-b)).length=a-b:=by simp;omega
 constructor
 ·intro h;obtain⟨i,hi,l⟩:=(kw _ _).1 h;rw[List.drop_drop] at l;have d:=l;rw[KZ S b a k] at d;obtain⟨g,f⟩:=wP _ _ _ p d;rw[o] at g f;rw[List.drop_drop] at f;simp at hi g;exact⟨c+i+(a-b),by omega,by omega,⟨c+i,by omega,rfl,l⟩,f⟩
 ·rintro ⟨j,g,f,⟨i,q,r,m⟩,_⟩;refine (kw _ _).2 ⟨i-c,by simp;omega,?_⟩;rw[List.drop_drop,show c+(i-c)=i by omega];exact m
theorem gK(b W:List Int)(j h:Nat)(d:h<=j)(c:j<=W.length)(a:Gl (-2::b) (W.drop j)):Gl (-2::b) (W.drop h):=by
 obtain⟨i,hi,a⟩:=(kw _ _).1 a;refine (kw _ _).2 ⟨i+(j-h),by simp at hi |-;omega,?_⟩;rw[List.drop_drop] at a |-;rw[show h+(i+(j-h))=j+i by omega];exact a
theorem gq(S W:List Int)(a b c here:Nat)(f:b<=a)(i:here=c+(a-b))(d:Seg ((S.drop b).take (a-b)) ((W.drop c).take (a-b)))
  (h:Gl (S.drop a) (W.drop here)):Gl (S.drop b) (W.drop c):=by
 have g:=GU d _ _ h;rw[<- KZ S b a f] at g
 have e:(W.drop c).take (a-b)++W.drop here=W.drop c:=by
  have e:=List.take_append_drop (a-b) (W.drop c);rw[List.drop_drop,<- i] at e;exact e
 rwa [e] at g
theorem IA(S W:List Int)(a c b here:Nat)(h:St S W a c b here)(o:a<S.length)(e:S.getD a 0 = -2):St S W (a+1) (a+1) here here:=by
 obtain⟨m,d,p,g,n⟩:=h;refine⟨by omega,d,Nat.le_refl _,Nat.le_refl _,.inr ⟨by omega,by omega,?_,by simp;exact .nil⟩⟩;have hd:=drop_at S a o;rw[e] at hd;rw[<- hd]
 rcases n with ⟨_,_,h6⟩|⟨_,hh,h6,hseg⟩
 ·exact h6
 ·rw[h6,V9 S W a c b here g hh d hseg m]
  constructor
  ·rintro ⟨j,k,l,_,f⟩;rw[hd] at f |-;exact gK _ W j here k l f
  ·intro i;exact⟨here,Nat.le_refl _,d,⟨b,Nat.le_refl _,hh,gq S W a c b here g hh hseg i⟩,i⟩
theorem IB(S W:List Int)(a b d here:Nat)(h:St S W a b d here)(i:a<S.length)(j:here<W.length)(e:S.getD a 0 ≠ -2)(g:S.getD a 0 = -1\/S.getD a 0=W.getD here 0) :
  St S W (a+1) b d (here+1):=by
 obtain⟨o,p,q,r,m⟩:=h;refine⟨by omega,by omega,by omega,by omega,?_⟩
 rcases m with ⟨h6,h7,h8⟩|⟨h6,h7,h8,hseg⟩
 ·refine .inl ⟨h6,h7,?_⟩;rw[h8,drop_at S a i,drop_at W here j,Qp _ _ _ e]
  constructor
  ·rintro ⟨c,s,n,_,f⟩;cases n;exact f
  ·intro f;exact⟨_,_,rfl,g,f⟩
 ·refine .inr ⟨h6,by omega,h8,?_⟩
  have k:(S.drop b).take (a+1-b)=(S.drop b).take (a-b)++[S.getD a 0]:=by
   rw[show a+1-b=a-b+1 by omega,List.take_succ_eq_append_getElem (by simp;omega)];congr 1;rw[List.getElem_drop,List.getD_eq_getElem?_getD,List.getElem?_eq_getElem i];simp[show b+(a-b)=a by omega]
  have l:(W.drop d).take (a+1-b)=(W.drop d).take (a-b)++[W.getD here 0]:=by
   rw[show a+1-b=a-b+1 by omega,List.take_succ_eq_append_getElem (by simp;omega)];congr 1;rw[List.getElem_drop,List.getD_eq_getElem?_getD,List.getElem?_eq_getElem j];simp[show d+(a-b)=here by omega]
  rw[k,l];exact GX hseg _ _ e g
def Bad(S W:List Int)(a here:Nat):Prop:=a<S.length->S.getD a 0 ≠ -2/\¬(S.getD a 0 = -1\/S.getD a 0=W.getD here 0)
theorem Kb(S W:List Int)(a here:Nat)(hb:Bad S W a here)(f:here<W.length):¬Gl (S.drop a) (W.drop here):=by
 intro h
 by_cases ha:a<S.length
 ·obtain⟨b,d⟩:=hb ha;rw[drop_at S a ha,drop_at W here f,Qp _ _ _ b] at h;obtain⟨c,i,g,e,_⟩:=h
  cases g
  exact d e
 ·rw[List.drop_of_length_le (by omega),XP] at h
  have:=congrArg List.length h
  simp at this;omega
theorem gH(S W:List Int)(a c b here:Nat)(h:St S W a c b here)(hb:Bad S W a here)(o:here<W.length)(g:0<c):St S W c c (b+1) (b+1):=by
 obtain⟨k,l,t,m,n⟩:=h;refine⟨by omega,by omega,Nat.le_refl _,Nat.le_refl _,.inr ⟨g,by omega,?_,by simp;exact .nil⟩⟩
 rcases n with ⟨h6,_⟩|⟨_,h7,h8,hseg⟩
 ·omega
 ·rw[h8]
  constructor
  ·intro d;rw[V9 S W a c b here m h7 l hseg k] at d;obtain⟨j,p,q,⟨i,r,s,e⟩,f⟩:=d
   have:i≠b:=by
    rintro rfl
    have:j=here:=by omega
    subst this;exact Kb S W a j hb o f
   refine (kw _ _).2 ⟨i-(b+1),by simp;omega,?_⟩;rw[List.drop_drop,show b+1+(i-(b+1))=i by omega];exact e
  ·intro d;exact gK _ W (b+1) b (by omega) (by omega) d
theorem gI(S W:List Int)(a d here:Nat)(h:St S W a 0 d here)(hb:Bad S W a here)(c:here<W.length):¬Gl S W:=by
 obtain⟨e,f,g,i,b⟩:=h
 rcases b with ⟨_,_,h8⟩|⟨h6,_⟩
 ·rw[h8];exact Kb S W a here hb c
 ·omega
theorem wV(S:List Int):Gl S []↔∀s ∈ S,s = -2:=by
 induction S with
 | nil=>simp[XP]
 | cons s S b=>
  by_cases hs:s = -2
  ·subst hs;rw[kw];simp only[List.drop_nil,List.length_nil,List.mem_cons,forall_eq_or_imp,true_and];rw[<- b]
   constructor
   ·rintro ⟨_,_,h⟩;exact h
   ·intro h;exact⟨0,Nat.le_refl _,h⟩
  ·rw[Qp _ _ _ hs]
   constructor
   ·rintro ⟨c,d,a,_⟩;cases a
   ·intro h;exact absurd (h s (by simp)) hs
theorem Iy(S W:List Int)(a d c here:Nat)(h:St S W a d c here)(q:¬here<W.length):Gl S W↔∀s ∈ S.drop a,s = -2:=by
 obtain⟨k,f,p,g,l⟩:=h;have i:here=W.length:=by omega
 rw[<- wV]
 rcases l with ⟨_,_,h8⟩|⟨_,h7,h8,hseg⟩
 ·rw[h8,i,List.drop_length]
 ·rw[h8,V9 S W a d c here g h7 f hseg k]
  constructor
  ·rintro ⟨j,n,o,_,e⟩
   have:j=W.length:=by omega
   rw[this,List.drop_length] at e;exact e
  ·intro m;have b:Gl (S.drop a) (W.drop here):=by rw[i,List.drop_length];exact m
   exact⟨here,Nat.le_refl _,f,⟨c,Nat.le_refl _,h7,gq S W a d c here g h7 hseg b⟩,b⟩
def meas(n m a b:Nat):Nat:=(m+1-b)*(n+1)+(n+1-a)
theorem bR(n m a c b:Nat)(d:a<n)(e:c<=b):meas n m (a+1) b<meas n m a c:=by
 unfold meas
 have:(m+1-b)*(n+1)<=(m+1-c)*(n+1):=Nat.mul_le_mul_right _ (by omega)
 omega
theorem bS(n m a c b:Nat)(e:b<m)(d:a<=n):meas n m c (b+1)<meas n m a b:=by
 unfold meas
 have:(m+1-b)=(m+1-(b+1))+1:=by omega
 rw[this,Nat.succ_mul];omega
end Pg
end Go.Proofs.YtdakgnaojakldaaGreatDoor
