/- P -/
import Derived.Test.YtfjpcldndaiifaaGreatDoorA01
open Go.Proofs.Tryz hiding parts
set_option maxRecDepth 100000
set_option maxHeartbeats 4000000
namespace Go.Proofs.YtfjpcldndaiifaaGreatDoor
open Go.RowKit
theorem zb8(s:BY)(w:J)(a:s.size<=maxLen)(h:60<s.size):R8 53 #[S9 s] w λe b=>e=.returned (.tuple #[R4,T9])/\b=w:=by
 unfold maxLen at a;go_enter func53,ntmps53;go_wp2;go_ret2;exact⟨rfl,rfl⟩
theorem Tryz.infoString:(prog.info? 9).map (λi=>(i.zero,i.size,i.bytes))=some (some R5,1,16):=by kernel_rfl
theorem iJ(s:BY)(w:J)(T:s.size*16<=140737488355328):R8 94 #[S9 s] w λe m=>∃v,e=.returned (.tuple #[v,.bool (U.chars s).isSome])/\BQ w m /\
   m.ownsRow w.heap.size 9 1 v ((U.chars s).getD []).length (U.strCells ((U.chars s).getD [])):=by
 obtain⟨O,M,B,C,D⟩:=qU Tryz.infoString;have G:U.chars s=(U.jP (s.size+1) s).map λr=>[]++r:=by unfold U.chars;simp
 generalize q:U.chars s=P at *;clear q;have F:=G7 G;clear G;go_enter func94,ntmps94;go_wp2
 go_loopw [0,4] (λE Q wr=>∃(t:BY) (f:Nat) (done:List BY),E=S9 t/\done.length+t.size<=s.size/\t.size<f/\P=((U.jP f t).map λr=>done++r) /\
   wr.ownsRow w.heap.size 9 1 Q done.length (U.strCells done)/\BQ w wr) (λE _ _=>U.Vu E)
 case atStart=>exact⟨s,s.size+1,[],rfl,by simp,by omega,F,qF _ _ _ _,zf _ _⟩
 case round=>
  obtain⟨t,f,done,rfl,L,z,l,b,a⟩:=hrel;have d:=G7 l;clear l F;have N:=a.size
  by_cases hp:0<t.size
  ·have y:=U.Jg t hp
   cases hok:U.uJ t with
   | false=>
    have o:=G7 hok;have g:=U.Mo P f t done hp z d hok;subst g;clear hok d;go_wp2_with(go_at_call 92;apply(Jh t _ false _ (by unfold maxLen;omega) hp rfl o).mono;rintro e m⟨rfl,rfl⟩);go_ret2;exact⟨_,rfl,a,qF _ _ _ _⟩
   | true=>
    obtain⟨c,n⟩:=Nm (U.qp t);rw[n]at y;obtain⟨K,A,k⟩:=U.Mm P f t done hp z d c n hok;have⟨p,I,o⟩:=M4 k n hok;clear k n hok d
    go_wp2_with(first
     |(go_at_call 92;apply(Jh t c true _ (by unfold maxLen;omega) hp I o).mono;rintro e m⟨rfl,rfl⟩)
     | (at_builtin;refine yh _ rfl _ _ 57 rfl w.heap.size 9 O R5 1 16 underlying57 M B C D rfl (by decide) _ done.length (U.strCells done) rfl (b.alloc _) (R6 m 0) 1 1 [S9 c] rfl rfl ?_ ?_ ?_ ?_ ?_ ?_))
    ·exact VW _ _ _
    ·intro u H;simp at H;subst H;rfl
    ·unfold maxLen;omega
    ·omega
    ·simp;omega
    intro R S i h _;have x:=sV a b _ h;have j:S.ownsRow w.heap.size 9 1 R (done++[c]).length (U.strCells (done++[c])):=by rw[U.Ga,qE];exact i
    clear i h b;go_wp2;go_roundw
    case rel=>exact⟨_,K,_,rfl,by simp;omega,A,p,j,x⟩
    case measure=>simp[U.Vu];omega
  have g:=U.Ml P f t done hp z d;subst g;clear d;go_wp2;go_ret2;exact⟨_,rfl,a,b⟩
theorem GA(s:BY)(w:J)(f:s.size*16<=140737488355328):R8 55 #[S9 s] w (G5 (.bool (U.xH s)) w):=by
 have d:U.xH s=((U.chars s).isSome&&decide ((s.size:Int)<=100)):=by unfold U.xH;congr 1;rw[Ki];omega
 have c:=G7 d;clear d;go_enter func55,ntmps55;go_wp2_with(go_at_call 94;apply(iJ s _ f).mono;rintro e h⟨v,rfl,a,_⟩)
 ·have b:(U.chars s).isSome=true:=by assumption
  go_ret;exact⟨Z4 (by rw[c.o,b,jY]),a⟩
 have b:¬(U.chars s).isSome=true:=by assumption
 go_ret;exact⟨Z4 (by rw[c.o,Bool.eq_false_iff.2 b,kS]),a⟩
namespace U
structure Req where
 who:BY
 act:BY
 on:BY
 marks:List (BY×BY)
def zX(r:Req)(ao:Option Addr)(cap:Nat):Y := .agg #[S9 r.who,S9 r.act,S9 r.on,TL ao r.marks.length cap]
def Ju(ms:List (BY×BY))(name:BY):Option BY:=(ms.find? λm=>m.1.toList==name.toList).map Prod.snd
def says(r:Req)(name:BY):Option BY:=
 if name.toList==[119,104,111] then some r.who else if name.toList==[100,111] then some r.act else if name.toList==[111,110] then some r.on else Ju r.marks name
theorem Ct(ms:List (BY×BY))(name:BY)(k:Nat)(c:k<ms.length)(a:∀j (h:j<k),(ms[j].1.toList==name.toList)=false)(h:(ms[k].1.toList==name.toList)=true):Ju ms name=some ms[k].2:=by
 unfold Ju;have e:(ms.find? λm=>m.1.toList==name.toList)=some ms[k]:=List.find?_eq_some_iff_getElem.2 ⟨h,k,c,rfl,λj b=>by simpa using a j b⟩;rw[e];rfl
theorem Cu(ms:List (BY×BY))(name:BY)(k:Nat)(d:¬k<ms.length)(a:∀j (_:j<k) (_:j<ms.length),(ms[j].1.toList==name.toList)=false):Ju ms name=none:=by
 unfold Ju;rw[Option.map_eq_none_iff,Y5];intro x c;obtain⟨j,b,rfl⟩:=QB c
 simpa using a j (by omega) b
end U
def qK(w:J)(ao:Option Addr)(ms:List (BY×BY)):Prop:=
 ms=[]\/∃b o,ao=some (G8 b o)/\∀j,(h:j<ms.length)->w.cell? (G8 b (o+j*2))=some (S9 ms[j].1)/\w.cell? (G8 b (o+j*2+1))=some (S9 ms[j].2)
theorem Fv(r:U.Req)(name:BY)(ao:Option Addr)(cap:Nat)(w:J)(B:r.marks.length<=100000000000)(x:qK w ao r.marks):R8 146 #[U.zX r ao cap,S9 name] w λe C=>
   e=.returned (.tuple #[S9 ((U.says r name).getD ⟨#[]⟩),.bool (U.says r name).isSome])/\BQ w C:=by
 obtain⟨s,l,on,c⟩:=r;generalize a:U.says ⟨s,l,on,c⟩ name=P at *;unfold U.says at a;simp only at a B x;unfold U.zX;simp only
 cases c1:name.toList==[119,104,111] with
 | true=>
  rw[zb c1]at a;subst a;go_enter func146,ntmps146;go_wp2;go_ret2;exact⟨rfl,nbl _ _⟩
 | false=>
 rw[za (by simp[c1])]at a
 cases c2:name.toList==[100,111] with
 | true=>
  rw[zb c2]at a;subst a;go_enter func146,ntmps146;go_wp2;go_ret2;exact⟨rfl,nbl _ _⟩
 | false=>
 rw[za (by simp[c2])]at a
 cases c3:name.toList==[111,110] with
 | true=>
  rw[zb c3]at a;subst a;go_enter func146,ntmps146;go_wp2;go_ret2;exact⟨rfl,nbl _ _⟩
 | false=>
 rw[za (by simp[c3])]at a;have u:=G7 a;clear a;go_enter func146,ntmps146;go_wp2
 go_loop [6] (λi=>∃k:Nat,k<=c.length/\i=R9 k/\∀j (_:j<k) (_:j<c.length),(c[j].1.toList==name.toList)=false) (λi=>c.length-(intOf i).toNat)
 case atStart=>exact⟨0,zD _,rfl,λj h=>by omega⟩
 case round=>
  obtain⟨k,D,rfl,v⟩:=hrel;have g:=G7 v;clear v
  by_cases hlt:k<c.length
  ·rcases x with rfl|⟨b,o,rfl,hc⟩
   ·simp at hlt
   obtain⟨y,d⟩:=Nm (c[k].1);obtain⟨G,f⟩:=Nm (c[k].2);obtain⟨p,q⟩:=hc k hlt;rw[d]at p;rw[f]at q;have⟨t,z⟩:=D5 d f;have E:=λO:Obj=>zi (nbl w O) p;have F:=λO:Obj=>zi (nbl w O) q;clear d f hc p q;go_wp2
   ·have m:(y.toList==name.toList)=true:=by assumption
    have e:=U.Ct c name k hlt (λj h=>g j h (by omega)) (by rw[t.o];exact m);rw[z.o,u.o]at e;subst e;go_ret2;exact⟨rfl,nbl _ _⟩
   have m:(y.toList==name.toList)=false:=by assumption
   refine⟨⟨k+1,by omega,by go_num,λj h A=>?_⟩,by simp[intOf];omega⟩
   by_cases hj:j=k
   ·subst hj;rw[t.o];exact m
   exact g j (by omega) A
  have e:=U.Cu c name k hlt g;rw[u.o]at e;subst e;go_wp2;go_ret2;exact⟨rfl,nbl _ _⟩
theorem Fw(r:U.Req)(name:BY)(ao:Option Addr)(cap:Nat)(w:J)(c:r.marks.length<=100000000000)(b:qK w ao r.marks)(P:Option BY)(a:U.says r name=P):R8 146 #[U.zX r ao cap,S9 name] w λe d=>
   e=.returned (.tuple #[S9 (P.getD ⟨#[]⟩),.bool P.isSome])/\BQ w d:=by
 subst a;exact Fv r name ao cap w c b
namespace U
def jw(m:BY×BY):Bool:=ql m.1&&xH m.2 && !(m.1.toList==[119,104,111]) && !(m.1.toList==[100,111]) && !(m.1.toList==[111,110])
def qR(r:Req):Bool:=xH r.who&&xH r.act&&xH r.on&&decide (r.marks.length<=10)&&r.marks.all jw
def XE(r:Req):Prop:=r.who.size*16<=140737488355328/\r.act.size*16<=140737488355328/\r.on.size*16<=140737488355328/\r.marks.length<=100000000000 /\
 ∀m ∈ r.marks,m.1.size*16<=140737488355328/\m.2.size*16<=140737488355328
theorem Ik(ms:List (BY×BY))(k:Nat)(h:k<ms.length):(ms.take (k+1)).all jw=((ms.take k).all jw&&jw ms[k]):=by
 rw[Q9 h,VE];simp
theorem Hw(ms:List (BY×BY))(k:Nat)(h:k<ms.length)(a:jw ms[k]=false):ms.all jw=false:=by
 rw[List.all_eq_false];exact⟨ms[k],qm h,by simp[a]⟩
end U
theorem xh{w w':J}{ao:Option Addr}{ms:List (BY×BY)}(h:qK w ao ms)(a:BQ w w'):qK w' ao ms:=by
 rcases h with h|⟨b,o,ha,hc⟩
 ·exact .inl h
 exact .inr ⟨b,o,ha,λj c=>⟨zi a (hc j c).1,zi a (hc j c).2⟩⟩
theorem fF(s:BY)(b:Bool)(w:J)(c:s.size*16<=140737488355328)(a:U.xH s=b):R8 55 #[S9 s] w (G5 (.bool b) w):=by
 subst a;exact GA s w c
theorem TA(s:BY)(b:Bool)(w:J)(c:s.size<=maxLen)(a:U.ql s=b):R8 70 #[S9 s] w λe d=>e=.returned (.bool b)/\d=w:=by
 subst a;exact dx s w c
theorem ET(r:U.Req)(ao:Option Addr)(cap:Nat)(w:J)(hr:U.XE r)(V:qK w ao r.marks):R8 54 #[U.zX r ao cap] w (G5 (.bool (U.qR r)) w):=by
 obtain⟨C,m,on,d⟩:=r;obtain⟨z1,z2,z3,z4,z5⟩:=hr;simp only at z1 z2 z3 z4 z5 V;obtain⟨P,E⟩:=Nm (U.qR ⟨C,m,on,d⟩);rw[E];unfold U.qR at E;simp only at E;unfold U.zX;simp only;obtain⟨a,S⟩:=Nm (U.xH C);obtain⟨b,T⟩:=Nm (U.xH m);obtain⟨c,z⟩:=Nm (U.xH on);rw[S,T,z]at E;have⟨D,HA,HB,HC,HM,Z5⟩:=M7 E S T z V z5;clear E S T z V z5;go_enter func54,ntmps54;go_wp2_with fail;apply(fF C a _ z1 HA).mono;rintro e O⟨rfl,h⟩;have x1:O.cell? (R6 w 1)=some (S9 m):=zi h (by simp);have x2:O.cell? (R6 w 2)=some (S9 on):=zi h (by simp);have x3:O.cell? (R6 w 3)=some (TL ao d.length cap):=zi h (by simp);have Q:BQ w O:=(nbl w _).trans (h.mono (by simp));clear h;go_wp2_with fail;apply(fF m b _ z2 HB).mono;rintro e w2⟨rfl,p⟩;have y2:w2.cell? (R6 w 2)=some (S9 on):=zi p x2;have y3:w2.cell? (R6 w 3)=some (TL ao d.length cap):=zi p x3;have R:BQ w w2:=Q.trans (p.mono Q.size);clear p x1 x2 x3;go_wp2_with fail;apply(fF on c _ z3 HC).mono;rintro e w3⟨rfl,y⟩;have u3:w3.cell? (R6 w 3)=some (TL ao d.length cap):=zi y y3;have x:BQ w w3:=R.trans (y.mono R.size);have K:qK w3 ao d:=xh HM x;have G:=G7 K;clear y y2 y3 Q R K HM
 cases a with
 | false=>
  have j:P=false:=by rw[<- D.o];simp
  subst j;go_wp2;go_ret;exact⟨rfl,x⟩
 | true=>
 cases b with
 | false=>
  have j:P=false:=by rw[<- D.o];simp
  subst j;go_wp2;go_ret;exact⟨rfl,x⟩
 | true=>
 cases c with
 | false=>
  have j:P=false:=by rw[<- D.o];simp
  subst j;go_wp2;go_ret;exact⟨rfl,x⟩
 | true=>
 by_cases hl:10<d.length
 ·have j:P=false:=by rw[<- D.o];simp;omega
  subst j;go_wp2;go_ret;exact⟨rfl,x⟩
 have c6:decide (10<(d.length:Int))=false:=by simp;omega
 have v:G6 (d.all U.jw=P):=by
  have:=D.o
  rw[show decide (d.length<=10)=true by simp;omega]at this;exact(by simpa using this:d.all U.jw=P)
 clear D;go_wp2
 go_loopw [6] (λi wr=>∃k:Nat,k<=d.length/\i=R9 k/\(d.take k).all U.jw=true/\BQ w wr/\wr.cell? (R6 w 3)=some (TL ao d.length cap)/\qK wr ao d) (λi _=>d.length-(intOf i).toNat)
 case atStart=>exact⟨0,zD _,rfl,rfl,x,u3,G⟩
 case round=>
  obtain⟨k,hk,rfl,u,f,I,X⟩:=hrel;clear u3 x G;have g:=G7 u;clear u
  by_cases hlt:k<d.length
  ·rcases X with rfl|⟨bb,o,rfl,z⟩
   ·simp at hlt
   have L:=Z5 d[k] (qm hlt);obtain⟨N,s⟩:=Nm (d[k].1);obtain⟨v1,t⟩:=Nm (d[k].2);obtain⟨q1,q2⟩:=z k hlt;obtain⟨d1,A⟩:=Nm (U.ql N);obtain⟨d2,B⟩:=Nm (U.xH v1);have M:U.jw d[k]=(d1&&d2 && !(N.toList==[119,104,111]) && !(N.toList==[100,111]) && !(N.toList==[111,110])):=by unfold U.jw;rw[s,t,A,B]
   rw[s]at q1;rw[t]at q2;rw[s,t]at L;obtain⟨m1,m2⟩:=L;have⟨HN,HV,F,H⟩:=M5 A B z M;clear s t z A B M;go_wp2_with fail;apply(TA N d1 _ (by unfold maxLen;omega) HN).mono;rintro e w4⟨rfl,rfl⟩;go_wp2_with fail;apply(fF v1 d2 _ m2 HV).mono;rintro e w5⟨rfl,q⟩;have t3:=zi q I;have b5:BQ w w5:=f.trans (q.mono f.size);have W:G6 (qK w5 (some (G8 bb o)) d):=xh (.inr ⟨bb,o,rfl,F⟩) q;clear q I f F q1 q2;go_wp2
   case roundEnd=>
    have l:U.jw d[k]=true:=by
     have hh:=H.o
     go_light
     simp_all
    refine⟨⟨k+1,by omega,by go_num,?_,b5,t3,W⟩,by simp[intOf];omega⟩;rw[U.Ik d k hlt,g.o,l];rfl
   all_goals
    have l:U.jw d[k]=false:=by
     have hh:=H.o
     go_light
     simp_all
    have j:P=false:=by rw[<- v.o,U.Hw d k hlt l]
    subst j;go_ret;exact⟨rfl,b5⟩
  have j:P=true:=by rw[<- v.o,<- g.o,uA (by omega)]
  subst j;clear v g;go_wp2;go_ret;exact⟨rfl,f⟩
namespace U
def ZX(r:Req)(p:Int×BY):Option (List (Int×BY)):=
 if p.1=4 then (says r p.2).map λv=>((chars v).getD []).map λc=>((1:Int),c) else some [p]
def laid(r:Req):List (Int×BY)->Option (List (Int×BY))
 | []=>some []
 | p::ps=>match ZX r p with
  | none=>none
  | some a=>(laid r ps).map λb=>a++b
theorem Mk(f:Nat)(s:BY)(l:List BY)(h:jP f s=some l):l.length<=s.size:=by
 induction f generalizing s l with
 | zero=>simp[jP]at h
 | succ f b=>
  rw[jP]at h;split at h
  ·simp at h;subst h;simp
  split at h
  ·simp at h
  rename_i d _;obtain⟨r,a,rfl⟩:=vT.1 h
  have:=b _ _ a
  have c:=Jg s (by omega);rw[yM]at this
  simp;omega
theorem Ka(s:BY):((chars s).getD []).length<=s.size:=by
 cases h:chars s with
 | none=>simp
 | some l=>exact Mk _ _ _ h
theorem dD(r:Req)(c:List (Int×BY))(k:Nat)(e:k<c.length)(done:List (Int×BY))(P:Option (List (Int×BY)))
  (h:P=(laid r (c.drop k)).map λb=>done++b)(a:List (Int×BY))(d:ZX r c[k]=some a):P=(laid r (c.drop (k+1))).map λb=>(done++a)++b:=by
 rw[h,jD e,laid,d];simp[Option.map_map,Function.comp_def]
theorem BU(r:Req)(a:List (Int×BY))(k:Nat)(d:k<a.length)(done:List (Int×BY))(P:Option (List (Int×BY)))
  (h:P=(laid r (a.drop k)).map λb=>done++b)(c:ZX r a[k]=none):P=none:=by
 rw[h,jD d,laid,c];rfl
theorem BS(r:Req)(a:List (Int×BY))(k:Nat)(c:¬k<a.length)(done:List (Int×BY))(P:Option (List (Int×BY)))
  (h:P=(laid r (a.drop k)).map λb=>done++b):P=some done:=by
 rw[h,Yw (by omega),laid];simp
theorem nC(a:List (Int×BY))(j:Nat)(h:j<a.length):(xg a)[j*2]?=some (R9 a[j].1)/\(xg a)[j*2+1]?=some (S9 a[j].2):=by
 induction a generalizing j with
 | nil=>simp at h
 | cons p a b=>
  have e:xg (p::a)=R9 p.1 :: S9 p.2::xg a:=by simp[xg]
  rw[e]
  cases j with
  | zero=>simp
  | succ j=>
   have:=b j (by simpa using h)
   rw[show (j+1)*2=(j*2)+1+1 by omega,show (j*2)+1+1+1=(j*2+1)+1+1 by omega]
   simpa using this
theorem zeI(l:List BY)(j:Nat)(h:j<l.length):(strCells l)[j]?=some (S9 l[j]):=by
 simp[strCells,h]
def yg(cs:List BY):List (Int×BY)->Nat->Bool
 | [],k=>k==0
 | p::ps,k=>if p.1=3 then (List.range (k+1)).any (yg cs ps) else if k=0 then false else if p.1=2 then yg cs ps (k-1) else yg cs ps (k-1)&&(p.2.toList==(cs.getD (k-1) ⟨#[]⟩).toList)
def covers(a:List (Int×BY))(cs:List BY):Bool:=yg cs a.reverse cs.length
def jJ(f:Nat->Bool)(n:Nat):List Y:=(List.range n).map λj => .bool (f j)
theorem KZ(f:Nat->Bool)(n j:Nat)(h:j<n):(jJ f n)[j]?=some (.bool (f j)):=by
 unfold jJ;rw[ui,aM h];rfl
def upTo(f:Nat->Bool)(k j:Nat):Bool:=decide (j<k)&&f j
theorem Fa(f:Nat->Bool)(n k:Nat)(b:Bool)(a:f k=b):(jJ (upTo f k) n).set k (.bool b)=jJ (upTo f (k+1)) n:=by
 apply UN;intro j;unfold jJ upTo;rw[zu]
 by_cases hj:j<n
 ·by_cases hk:k=j
  ·subst hk;simp[hj,a]
  simp[hj,hk]
  have:(j<k)↔(j<k+1):=by omega
  simp[this]
 by_cases hk:k=j
 ·subst hk;simp[hj]
 simp[hj,hk]
theorem zc6(f:Nat->Bool)(n k:Nat)(a:f k=false):jJ (upTo f k) n=jJ (upTo f (k+1)) n:=by
 unfold jJ;apply JR;intro j _;unfold upTo
 by_cases hk:k=j
 ·subst hk;simp[a]
 have:(j<k)↔(j<k+1):=by omega
 simp[this]
theorem zc5(f:Nat->Bool)(n k:Nat)(b:n<=k):jJ (upTo f k) n=jJ f n:=by
 unfold jJ;apply JR;intro j a
 have:=vk.1 a
 unfold upTo
 simp;omega
theorem EZ(f:Nat->Bool)(n:Nat):jJ (upTo f 0) n=List.replicate n T9:=by
 apply UN;intro j;unfold jJ upTo
 by_cases hj:j<n<;>simp[hj]
theorem Nz(cs:List BY)(n:Nat):(List.replicate (n+1) (Value.bool false)).set 0 L6=jJ (yg cs []) (n+1):=by
 have h:=Fa (yg cs []) (n+1) 0 true rfl;rw[EZ]at h;rw[h];unfold jJ;apply JR;intro j _;unfold upTo yg
 by_cases hj:j=0
 ·subst hj;rfl
 have:¬j<1:=by omega
 simp[this,hj]
theorem NA(cs:List BY)(p:Int×BY)(a:List (Int×BY))(h:p.1=3)(k:Nat)(b:0<k):yg cs (p::a) k=(yg cs a k||yg cs (p::a) (k-1)):=by
 obtain⟨m,rfl⟩:∃m,k=m+1:=⟨k-1,by omega⟩;simp only[yg,h,qJ,VM];rw[VJ (n:=m+1),List.any_append];simp[Bool.or_comm]
theorem NB(cs:List BY)(p:Int×BY)(a:List (Int×BY))(h:p.1=3):yg cs (p::a) 0=yg cs a 0:=by
 simp[yg,h]
theorem Aa(cs:List BY)(p:Int×BY)(a:List (Int×BY))(h:p.1≠3):yg cs (p::a) 0=false:=by
 simp[yg,h]
theorem wY(cs:List BY)(p:Int×BY)(a:List (Int×BY))(h:p.1=2)(k:Nat)(b:0<k):yg cs (p::a) k=yg cs a (k-1):=by
 simp only[yg];rw[N8,N8,zb h]
theorem wZ(cs:List BY)(p:Int×BY)(a:List (Int×BY))(c:p.1≠3)(b:p.1≠2)(k:Nat)(e:0<k)(d:k-1<cs.length):yg cs (p::a) k=(yg cs a (k-1)&&(p.2.toList==cs[k-1].toList)):=by
 simp only[yg];rw[za c,N8,za b,zT,zn d];rfl
theorem zfe(a:List (Int×BY))(i:Nat)(h:i<a.length):(a.take (i+1)).reverse=a[i]::(a.take i).reverse:=by
 rw[Q9 h,List.reverse_append];rfl
def yQ(a word:BY)(r:Req):Bool:=
 match laid r ((parts a).getD []) with
 | none=>false
 | some q=>covers q ((chars word).getD [])
def Yc(a word:BY)(r:Req):Bool×Int:=
 if (parts a).isSome=false then (false,6) else if (qR r&&xH word)=false then (false,11) else (yQ a word r,0)
theorem zb6(f:Nat)(s:BY)(l:List (Int×BY))(h:jT f s=some l):l.length<=s.size:=by
 induction f generalizing s l with
 | zero=>simp[jT]at h
 | succ f c=>
  rw[jT]at h;split at h
  ·simp at h;subst h;simp
  split at h
  ·simp at h
  rename_i e k t n b;obtain⟨r,a,rfl⟩:=vT.1 h
  have:=c _ _ a
  have d:=nD s (by omega) k t n b;rw[yM]at this
  simp;omega
theorem nG(s:BY):((parts s).getD []).length<=60:=by
 cases h:parts s with
 | none=>simp
 | some l=>
  unfold parts at h;split at h
  ·simp at h
  have:=zb6 _ _ _ h
  simp;omega
theorem nH(s:BY)(h:(parts s).isSome=true):s.size<=60:=by
 unfold parts at h;split at h
 ·simp at h
 omega
theorem aj(s:BY)(h:xH s=true):s.size<=100:=by
 unfold xH at h;simp at h;exact h.2
theorem zdk(r:Req)(h:qR r=true)(n v:BY)(a:says r n=some v):v.size<=100:=by
 unfold qR at h;simp only[jX]at h;obtain⟨⟨⟨⟨b,c⟩,d⟩,g⟩,e⟩:=h;unfold says at a;split at a
 ·simp at a;subst a;exact aj _ b
 split at a
 ·simp at a;subst a;exact aj _ c
 split at a
 ·simp at a;subst a;exact aj _ d
 unfold Ju at a;obtain⟨m,f,rfl⟩:=vT.1 a
 have:=Zq.1 e m (aO f)
 unfold jw at this;simp only[jX]at this;exact aj _ this.1.1.1.2
theorem zaM(r:Req)(h:qR r=true):r.marks.length<=10:=by
 unfold qR at h;simp only[jX,vJ]at h;exact h.1.2
end U
namespace Pg
open U
def Xm(c:Nat):List Nat:=
 if c<128 then [c]
 else if c<2048 then [192+c / 64,128+c % 64]
 else if c<65536 then [224+c / 4096,128+c / 64 % 64,128+c % 64]
 else [240+c / 262144,128+c / 4096 % 64,128+c / 64 % 64,128+c % 64]
def vG(l:List Nat):Nat:=
 if l.length=1 then l.getD 0 0
 else if l.length=2 then (l.getD 0 0-192)*64+(l.getD 1 0-128)
 else if l.length=3 then (l.getD 0 0-224)*4096+(l.getD 1 0-128)*64+(l.getD 2 0-128)
 else (l.getD 0 0-240)*262144+(l.getD 1 0-128)*4096+(l.getD 2 0-128)*64+(l.getD 3 0-128)
theorem Ab(a:Nat):vG [a]=a:=by
 simp[vG]
theorem Ac(a b:Nat):vG [a,b]=(a-192)*64+(b-128):=by
 simp[vG]
theorem Ad(a b c:Nat):vG [a,b,c]=(a-224)*4096+(b-128)*64+(c-128):=by
 simp[vG]
theorem Ae(a b c d:Nat):vG [a,b,c,d]=(a-240)*262144+(b-128)*4096+(c-128)*64+(d-128):=by
 simp[vG]
theorem Ke(c:Nat):vG (Xm c)=c:=by
 unfold Xm
 by_cases h1:c<128
 ·rw[zb h1,Ab]
 by_cases h2:c<2048
 ·rw[za h1,zb h2,Ac];omega
 by_cases h3:c<65536
 ·rw[za h1,za h2,zb h3,Ad];omega
 rw[za h1,za h2,za h3,Ae];omega
def nums(t:BY):List Nat:=t.data.toList.map UInt8.toNat
def uw(t:BY):Nat:=vG (nums t)
def Q0(t:BY):Prop:=∃c,c<=1114111/\nums t=Xm c
theorem zbq(s t:BY)(h:nums s=nums t):s.toList=t.toList:=by
 rw[JO,JO];unfold nums at h;exact(List.map_inj_right (λa b e=>bn.1 e)).1 h
theorem zdc(s t:BY)(i:Q0 s)(j:Q0 t):(s.toList==t.toList)=decide (uw s=uw t):=by
 obtain⟨c,_,e⟩:=i;obtain⟨d,_,f⟩:=j;have a:uw s=c:=by unfold uw;rw[e,Ke]
 have b:uw t=d:=by unfold uw;rw[f,Ke]
 rw[a,b]
 by_cases h:c=d
 ·subst h
  have:=zbq s t (e.trans f.symm)
  rw[this];simp
 have:s.toList≠t.toList:=by
  intro g;apply h;rw[<- a,<- b];unfold uw nums;rw[<- JO,<- JO,g]
 simp[this,h]
theorem rune_le(t:BY)(h:Q0 t):uw t<=1114111:=by
 obtain⟨c,a,e⟩:=h;unfold uw;rw[e,Ke];exact a
def Vi(n b0 a b c:Nat):Nat:=
 if n=0 then 0
 else if b0<128 then 1
 else if 194<=b0/\b0<=223 then (if 2<=n/\128<=a/\a<=191 then 2 else 0)
 else if b0=224 then (if 3<=n/\160<=a/\a<=191/\128<=b/\b<=191 then 3 else 0)
 else if b0=237 then (if 3<=n/\128<=a/\a<=159/\128<=b/\b<=191 then 3 else 0)
 else if 225<=b0/\b0<=239 then (if 3<=n/\128<=a/\a<=191/\128<=b/\b<=191 then 3 else 0)
 else if b0=240 then (if 4<=n/\144<=a/\a<=191/\128<=b/\b<=191/\128<=c/\c<=191 then 4 else 0)
 else if 241<=b0/\b0<=243 then (if 4<=n/\128<=a/\a<=191/\128<=b/\b<=191/\128<=c/\c<=191 then 4 else 0)
 else if b0=244 then (if 4<=n/\128<=a/\a<=143/\128<=b/\b<=191/\128<=c/\c<=191 then 4 else 0)
 else 0
theorem wW(l:List UInt8)(b a:Int):vD l b a 1=decide (b<=((l.getD 1 0).toNat:Int)/\((l.getD 1 0).toNat:Int)<=a):=by
 simp[vD,List.range_succ]
theorem wX(l:List UInt8)(b a:Int):vD l b a 2=(decide (b<=((l.getD 1 0).toNat:Int)/\((l.getD 1 0).toNat:Int)<=a)&&decide (128<=(l.getD 2 0).toNat/\(l.getD 2 0).toNat<=191)):=by
 rw[bQ,wW];simp
theorem Nr(l:List UInt8)(b a:Int):vD l b a 3=(decide (b<=((l.getD 1 0).toNat:Int)/\((l.getD 1 0).toNat:Int)<=a)&&decide (128<=(l.getD 2 0).toNat/\(l.getD 2 0).toNat<=191)&&decide (128<=(l.getD 3 0).toNat/\(l.getD 3 0).toNat<=191)):=by
 rw[bQ,wX];simp
theorem iH(l:List UInt8)(n b a:Int)(c:l.length≠0)(h:¬(l.getD 0 0).toNat<128)(d:zZ ((l.getD 0 0).toNat:Int)=(n,b,a)):xP l=if n=0 then 0 else if (l.length:Int)<n+1 then 0 else if vD l b a n.toNat then n.toNat+1 else 0:=by
 unfold xP;rw[za c,za h,d]
theorem LX(l:List UInt8)(b a:Nat)(e:l.length≠0)(h:¬(l.getD 0 0).toNat<128)(f:zZ ((l.getD 0 0).toNat:Int)=(1,(b:Int),(a:Int))):xP l=if 2<=l.length/\b<=(l.getD 1 0).toNat/\(l.getD 1 0).toNat<=a then 2 else 0:=by
 rw[iH l _ _ _ e h f,za (by decide),show (1:Int).toNat=1 from rfl,wW]
 generalize (l.getD 1 0).toNat=b1
 by_cases c:2<=l.length/\b<=b1/\b1<=a
 ·rw[zb c,N8,zb (by simp;omega)]
 rw[za c]
 by_cases d:(l.length:Int)<1+1
 ·rw[zb d]
 rw[za d,za (by simp;omega)]
theorem iF(l:List UInt8)(b a:Nat)(e:l.length≠0)(h:¬(l.getD 0 0).toNat<128)(f:zZ ((l.getD 0 0).toNat:Int)=(2,(b:Int),(a:Int))):xP l=if 3<=l.length/\b<=(l.getD 1 0).toNat/\(l.getD 1 0).toNat<=a/\128<=(l.getD 2 0).toNat/\(l.getD 2 0).toNat<=191 then 3 else 0:=by
 rw[iH l _ _ _ e h f,za (by decide),show (2:Int).toNat=2 from rfl,wX]
 generalize (l.getD 1 0).toNat=b1;generalize (l.getD 2 0).toNat=b2
 by_cases c:3<=l.length/\b<=b1/\b1<=a/\128<=b2/\b2<=191
 ·rw[zb c,N8,zb (by simp;omega)]
 rw[za c]
 by_cases d:(l.length:Int)<2+1
 ·rw[zb d]
 rw[za d,za (by simp;omega)]
theorem iG(l:List UInt8)(b a:Nat)(e:l.length≠0)(h:¬(l.getD 0 0).toNat<128)(f:zZ ((l.getD 0 0).toNat:Int)=(3,(b:Int),(a:Int))):xP l=if 4<=l.length/\b<=(l.getD 1 0).toNat/\(l.getD 1 0).toNat<=a/\128<=(l.getD 2 0).toNat/\(l.getD 2 0).toNat<=191/\128<=(l.getD 3 0).toNat/\(l.getD 3 0).toNat<=191 then 4 else 0:=by
 rw[iH l _ _ _ e h f,za (by decide),show (3:Int).toNat=3 from rfl,Nr]
 generalize (l.getD 1 0).toNat=b1;generalize (l.getD 2 0).toNat=b2;generalize (l.getD 3 0).toNat=b3
 by_cases c:4<=l.length/\b<=b1/\b1<=a/\128<=b2/\b2<=191/\128<=b3/\b3<=191
 ·rw[zb c,N8,zb (by simp;omega)]
 rw[za c]
 by_cases d:(l.length:Int)<3+1
 ·rw[zb d]
 rw[za d,za (by simp;omega)]
theorem LY(l:List UInt8):xP l=Vi l.length (l.getD 0 0).toNat (l.getD 1 0).toNat (l.getD 2 0).toNat (l.getD 3 0).toNat:=by
 unfold Vi
 by_cases hl:l.length=0
 ·rw[zb hl];unfold xP;rw[zb hl]
 rw[za hl]
 by_cases h:(l.getD 0 0).toNat<128
 ·rw[zb h];unfold xP;rw[za hl,zb h]
 rw[za h]
 by_cases c1:194<=(l.getD 0 0).toNat/\(l.getD 0 0).toNat<=223
 ·rw[zb c1];exact LX l 128 191 hl h (by unfold zZ;rw[N9];rfl)
 rw[za c1]
 by_cases c2:(l.getD 0 0).toNat=224
 ·rw[zb c2];exact iF l 160 191 hl h (by unfold zZ;rw[N8,N9];rfl)
 rw[za c2]
 by_cases c3:(l.getD 0 0).toNat=237
 ·rw[zb c3];exact iF l 128 159 hl h (by unfold zZ;rw[N8,N8,N9];rfl)
 rw[za c3]
 by_cases c4:225<=(l.getD 0 0).toNat/\(l.getD 0 0).toNat<=239
 ·rw[zb c4];exact iF l 128 191 hl h (by unfold zZ;rw[N8,N8,N8,N9];rfl)
 rw[za c4]
 by_cases c5:(l.getD 0 0).toNat=240
 ·rw[zb c5];exact iG l 144 191 hl h (by unfold zZ;rw[N8,N8,N8,N8,N9];rfl)
 rw[za c5]
 by_cases c6:241<=(l.getD 0 0).toNat/\(l.getD 0 0).toNat<=243
 ·rw[zb c6];exact iG l 128 191 hl h (by unfold zZ;rw[N8,N8,N8,N8,N8,N9];rfl)
 rw[za c6]
 by_cases c7:(l.getD 0 0).toNat=244
 ·rw[zb c7];exact iG l 128 143 hl h (by unfold zZ;rw[N8,N8,N8,N8,N8,N8,N9];rfl)
 rw[za c7];unfold xP;rw[za hl,za h,zb];unfold zZ;rw[N8,N8,N8,N8,N8,N8,N8]
theorem NL(n b0 a b c:Nat)(h:b0<128):Lib.decodeN n b0 a b c=(b0,1):=by
 unfold Lib.decodeN;rw[zb h]
theorem NN(n b0 a b c:Nat)(h:194<=b0/\b0<=223)(e:2<=n)(d:128<=a/\a<=191):Lib.decodeN n b0 a b c=(b0 % 32*64+a % 64,2):=by
 unfold Lib.decodeN;rw[N8,zb ⟨by omega,by omega,by omega⟩,N9]
theorem NM(n b0 a b c:Nat)(h:224<=b0/\b0<=239)(i:3<=n)(d:128<=a/\a<=191)(e:128<=b/\b<=191)(f:b0=224->160<=a)(g:b0=237->a<=159):Lib.decodeN n b0 a b c=(b0 % 16*4096+a % 64*64+b % 64,3):=by
 unfold Lib.decodeN;rw[N8,N8,zb ⟨by omega,⟨by omega,by omega⟩,by omega,by omega⟩,N9]
theorem NK(n b0 a b c:Nat)(h:240<=b0/\b0<=244)(j:4<=n)(d:128<=a/\a<=191)(e:128<=b/\b<=191)(f:128<=c/\c<=191)(g:b0=240->144<=a)(i:b0=244->a<=143):Lib.decodeN n b0 a b c=(b0 % 8*262144+a % 64*4096+b % 64*64+c % 64,4):=by
 unfold Lib.decodeN;rw[N8,N8,N8,zb ⟨by omega,⟨by omega,by omega⟩,⟨by omega,by omega⟩,by omega,by omega⟩,N9]
def Good(n b0 a b d k:Nat):Prop:=
 Lib.decodeN n b0 a b d=(vG ([b0,a,b,d].take k),k)/\k<=n/\k<=4/\∃c,c<=1114111/\[b0,a,b,d].take k=Xm c
theorem RX(n b0 a b c:Nat)(d:n≠0)(h:b0<128):Good n b0 a b c 1:=by
 refine⟨by rw[NL _ _ _ _ _ h];rfl,by omega,by omega,b0,by omega,?_⟩;unfold Xm;rw[zb h];rfl
theorem RY(n b0 a b c:Nat)(h:194<=b0/\b0<=223)(e:2<=n)(d:128<=a/\a<=191):Good n b0 a b c 2:=by
 refine⟨?_,by omega,by omega,b0 % 32*64+a % 64,by omega,?_⟩
 ·rw[NN _ _ _ _ _ h e d];show _=(vG [b0,a],2);rw[Ac,Prod.mk.injEq];exact⟨by omega,rfl⟩
 show [b0,a]=_;unfold Xm;rw[N8,N9];congr 1
 ·omega
 congr 1;omega
theorem lL(n b0 a b c:Nat)(h:224<=b0/\b0<=239)(i:3<=n)(d:128<=a/\a<=191)(e:128<=b/\b<=191)(f:b0=224->160<=a)(g:b0=237->a<=159):Good n b0 a b c 3:=by
 refine⟨?_,by omega,by omega,b0 % 16*4096+a % 64*64+b % 64,by omega,?_⟩
 ·rw[NM _ _ _ _ _ h i d e f g];show _=(vG [b0,a,b],3);rw[Ad,Prod.mk.injEq];exact⟨by omega,rfl⟩
 show [b0,a,b]=_;unfold Xm;rw[N8,N8,N9];congr 1
 ·omega
 congr 1
 ·omega
 congr 1;omega
theorem lK(n b0 a b c:Nat)(h:240<=b0/\b0<=244)(j:4<=n)(d:128<=a/\a<=191)(e:128<=b/\b<=191)(f:128<=c/\c<=191)(g:b0=240->144<=a)(i:b0=244->a<=143):Good n b0 a b c 4:=by
 refine⟨?_,by omega,by omega,b0 % 8*262144+a % 64*4096+b % 64*64+c % 64,by omega,?_⟩
 ·rw[NK _ _ _ _ _ h j d e f g i];show _=(vG [b0,a,b,c],4);rw[Ae,Prod.mk.injEq];exact⟨by omega,rfl⟩
 show [b0,a,b,c]=_;unfold Xm;rw[N8,N8,N8];congr 1
 ·omega
 congr 1
 ·omega
 congr 1
 ·omega
 congr 1;omega
theorem NJ(n b0 a b c:Nat)(d:n≠0)(e:b0<256)(h:Vi n b0 a b c=0):Lib.decodeN n b0 a b c=(65533,1):=by
 unfold Vi at h;rw[za d]at h;unfold Lib.decodeN
 repeat' split at h
 all_goals first|(exfalso;omega)|skip
 all_goals repeat' split
 all_goals first|rfl|(exfalso;omega)
theorem zae(n b0 a b e:Nat)(f:n≠0)(h:Vi n b0 a b e≠0):Good n b0 a b e (Vi n b0 a b e):=by
 unfold Vi at h |-;rw[za f]at h |-;split at h
 ·rename_i c;rw[zb c];exact RX _ _ _ _ _ f c
 rename_i g;rw[za g];split at h
 ·rename_i c;rw[zb c];split at h
  ·rename_i d;rw[zb d];exact RY _ _ _ _ _ c d.1 d.2
  exact absurd rfl h
 rename_i c1;rw[za c1];split at h
 ·rename_i c;rw[zb c];split at h
  ·rename_i d;rw[zb d];exact lL _ _ _ _ _ (by omega) d.1 (by omega) (by omega) (by omega) (by omega)
  exact absurd rfl h
 rename_i c2;rw[za c2];split at h
 ·rename_i c;rw[zb c];split at h
  ·rename_i d;rw[zb d];exact lL _ _ _ _ _ (by omega) d.1 (by omega) (by omega) (by omega) (by omega)
  exact absurd rfl h
 rename_i c3;rw[za c3];split at h
 ·rename_i c;rw[zb c];split at h
  ·rename_i d;rw[zb d];exact lL _ _ _ _ _ (by omega) d.1 (by omega) (by omega) (by omega) (by omega)
  exact absurd rfl h
 rename_i c4;rw[za c4];split at h
 ·rename_i c;rw[zb c];split at h
  ·rename_i d;rw[zb d];exact lK _ _ _ _ _ (by omega) d.1 (by omega) (by omega) (by omega) (by omega) (by omega)
  exact absurd rfl h
 rename_i c5;rw[za c5];split at h
 ·rename_i c;rw[zb c];split at h
  ·rename_i d;rw[zb d];exact lK _ _ _ _ _ (by omega) d.1 (by omega) (by omega) (by omega) (by omega) (by omega)
  exact absurd rfl h
 rename_i i;rw[za i];split at h
 ·rename_i c;rw[zb c];split at h
  ·rename_i d;rw[zb d];exact lK _ _ _ _ _ (by omega) d.1 (by omega) (by omega) (by omega) (by omega) (by omega)
  exact absurd rfl h
 exact absurd rfl h
theorem Bn(s:BY)(k:Nat):s.get! k=s.data.toList.getD k 0:=by
 obtain⟨⟨l⟩⟩:=s;show (Array.mk l)[k]! = _
 by_cases h:k<l.length
 ·simp[List.getD,h]
 simp[List.getD,h];rfl
theorem zfc(l:List UInt8)(k:Nat)(f:k<=4)(e:k<=l.length):(l.take k).map UInt8.toNat=[(l.getD 0 0).toNat,(l.getD 1 0).toNat,(l.getD 2 0).toNat,(l.getD 3 0).toNat].take k:=by
 obtain rfl|rfl|rfl|rfl|rfl:k=0\/k=1\/k=2\/k=3\/k=4:=by omega
 all_goals rcases l with _|⟨a,_|⟨b,_|⟨c,_|⟨d,l⟩⟩⟩⟩
 all_goals first|rfl|(simp at e)
theorem zbp(s:BY)(k:Nat):nums (s.extract 0 k)=(s.data.toList.take k).map UInt8.toNat:=by
 unfold nums;simp[ByteArray.data_extract]
theorem Kh(s:BY)(t:0<s.size):(uJ s=false/\Utf8.decode s 0=(65533,1)) \/
  (uJ s=true/\Q0 (qp s)/\Utf8.decode s 0=(uw (qp s),(qp s).size)/\¬(uw (qp s)=65533/\(qp s).size=1)):=by
 have d:=Lib.decode_at s 0;simp only[Bn,Nat.sub_zero,qV]at d;have b:=LY s.data.toList;have a:s.data.toList.length=s.size:=zF s;rw[a]at b
 by_cases h:xP s.data.toList=0
 ·left
  refine⟨by unfold uJ;rw[h];rfl,?_⟩;rw[d];exact NJ _ _ _ _ _ (by omega) (bu _) (b.symm.trans h)
 right
 have m:qp s=s.extract 0 (xP s.data.toList):=by unfold qp;rw[za h]
 have k:=zae _ _ _ _ _ (by omega) (λe=>h (b.trans e));rw[<- b]at k;obtain⟨o,p,q,c,r,j⟩:=k
 have f:nums (qp s)=Xm c:=by
  rw[m,zbp,zfc _ _ q (by rw[a];exact p)];exact j
 have l:uw (qp s)=c:=by unfold uw;rw[f,Ke]
 have g:(qp s).size=xP s.data.toList:=by rw[m,yM];omega
 refine⟨by unfold uJ;simp[h],⟨c,r,f⟩,?_,?_⟩
 ·rw[d,o,l,g,j,Ke]
 rintro⟨i,n⟩;rw[l]at i
 have:(nums (qp s)).length=1:=by unfold nums;rw[qf,zF];exact n
 rw[f,i]at this;simp[Xm]at this
def xU(p:Int×BY):Int:=if p.1=3 then -2 else if p.1=2 then -1 else if p.1=4 then 0 else (uw p.2:Int)
def nameOf(p:Int×BY):BY:=if p.1=4 then p.2 else ⟨#[]⟩
def VV(u:BY):Nat:=u.data.toList.findIdx λc=>c.toNat==125
def X5(u:BY):Bool:=decide (VV u<u.size)
def X6(u:BY):BY:=if X5 u then u.extract 0 (VV u) else u
theorem Ta(l:List UInt8):Lib.index l [125]=if l.findIdx (λc=>c.toNat==125)<l.length then ((l.findIdx λc=>c.toNat==125:Nat):Int) else -1:=by
 induction l with
 | nil=>rfl
 | cons b l g=>
  unfold Lib.index;rw[g,List.findIdx_cons]
  have e:([125].isPrefixOf (b::l))=(b.toNat==125):=by
   simp only[List.isPrefixOf,JJ];rw[Zp,vC,vC]
   constructor
   ·intro h;rw[<- h];rfl
   intro h;exact(bn.1 (by rw[h];rfl)).symm
  rw[e]
  cases h:b.toNat==125 with
  | true=>simp
  | false=>
   simp only[yu,xX,cond_false,Qf];generalize l.findIdx (λc=>c.toNat==125)=f;generalize l.length=n
   by_cases hl:f<n
   ·have a:f+1<n+1:=by omega
    have d:((f:Int) == -1)=false:=by rw[qY];omega
    simp[hl,a,d]
   have a:¬f+1<n+1:=by omega
   simp[hl,a]
theorem NI(u:BY):(⟨(Lib.cut u.data.toList [125]).1.toArray⟩:BY)=X6 u/\(Lib.cut u.data.toList [125]).2.2=X5 u:=by
 have b:=Ta u.data.toList;rw[zF]at b;unfold X6 X5 VV
 by_cases h:u.data.toList.findIdx (λc=>c.toNat==125)<u.size
 ·rw[zb h]at b;have a:=Lib.cutB_hit u ⟨#[125]⟩ _ b;rw[zB h,zb rfl];exact⟨a.1,a.2.2⟩
 rw[za h]at b;have a:=Lib.cutB_miss u ⟨#[125]⟩ b;rw[zI h,za (by decide)];exact⟨a.1,a.2.2⟩
def Xk(t:BY):Int×BY×Nat:=
 if t.size=0 then (0,⟨#[]⟩,0)
 else if (t.data.toList.getD 0 0).toNat=36\/(t.data.toList.getD 0 0).toNat=42\/(t.data.toList.getD 0 0).toNat=63 then ((t.data.toList.getD 0 0).toNat,⟨#[]⟩,2)
 else if (t.data.toList.getD 0 0).toNat=123 then
  (if X5 (t.extract 1 t.size) then (if ql (X6 (t.extract 1 t.size)) then (0,X6 (t.extract 1 t.size),2+(X6 (t.extract 1 t.size)).size+1) else (0,⟨#[]⟩,0)) else (0,⟨#[]⟩,0))
 else (0,⟨#[]⟩,0)
def Vr(p:Option (Int×BY×Nat)):Int×BY×Nat:=match p with
 | none=>(0,⟨#[]⟩,0)
 | some (k,t,n)=>(xU (k,t),nameOf (k,t),n)
def bU(s:BY):Option (Int×BY×Nat):=if (x9 s).2.2=0 then none else some (x9 s)
theorem PQ(s:BY):(s.extract 1 s.size).data.toList=s.data.toList.drop 1:=Lib.ext_list s 1
theorem PR(s:BY)(k:Nat):(s.extract k s.size).extract 1 (s.extract k s.size).size=s.extract (k+1) s.size:=by
 rw[fO,yM];have e:min (k+(min s.size s.size-k)) s.size=s.size\/s.size<=k:=by omega
 rcases e with e|e
 ·rw[e]
 have a:min (k+(min s.size s.size-k)) s.size=s.size:=by omega
 rw[a]
theorem zda(s:BY)(k:Nat)(b:k<s.size):uw (s.extract k (k+1))=(s.data.toList.getD k 0).toNat:=by
 unfold uw nums
 have:(s.extract k (k+1)).data.toList=[s.data.toList.getD k 0]:=by
  have a:k<s.data.toList.length:=by rw[zF];exact b
  rw[Vz,ay,zT,zn a];simp only[gq,yP];rw[jD a]
  simp
 rw[this];simp only[yO,Zr,Ab]
theorem Oz(s:BY)(k:0<s.size):Xk (s.extract 1 s.size)=Vr (bU s):=by
 have d:(s.extract 1 s.size).size=s.size-1:=by rw[yM];omega
 have f:(s.extract 1 s.size).data.toList.getD 0 0=s.data.toList.getD 1 0:=by
  rw[PQ];simp
 unfold Xk;rw[f,d];unfold bU x9
 by_cases h2:s.size<2
 ·rw[N9,zb h2];rfl
 rw[N8,za h2]
 by_cases h3:(s.data.toList.getD 1 0).toNat=36\/(s.data.toList.getD 1 0).toNat=42\/(s.data.toList.getD 1 0).toNat=63
 ·rw[zb h3,zb h3];show _=(xU (1,s.extract 1 2),nameOf (1,s.extract 1 2),2)
  have:xU (1,s.extract 1 2)=((s.data.toList.getD 1 0).toNat:Int):=by
   show ((uw (s.extract 1 2):Nat):Int)=_;rw[zda s 1 (by omega)]
  rw[this];rfl
 rw[za h3,za h3]
 by_cases h4:(s.data.toList.getD 1 0).toNat=123
 ·rw[zb h4,zb h4]
  have j:(s.extract 1 s.size).extract 1 (s.size-1)=s.extract 2 s.size:=by
   have:=PR s 1;rw[d]at this;exact this
  rw[j];have h:(s.extract 2 s.size).data.toList=s.data.toList.drop 2:=Lib.ext_list s 2;have g:yB s=2+VV (s.extract 2 s.size):=by unfold yB VV;rw[h]
  have a:(s.extract 2 s.size).size=s.size-2:=by rw[yM];omega
  by_cases hc:yB s<s.size
  ·have b:X5 (s.extract 2 s.size)=true:=by unfold X5;rw[a];exact P5
   have i:X6 (s.extract 2 s.size)=s.extract 2 (yB s):=by
    unfold X6;rw[b,zb rfl,fO];have e:min (2+VV (s.extract 2 s.size)) s.size=yB s:=by rw[g]at hc |-;omega
    rw[e]
   have c:(s.extract 2 (yB s)).size=yB s-2:=by rw[yM];omega
   rw[b,zb rfl,zb hc,i]
   by_cases hi:ql (s.extract 2 (yB s))=true
   ·rw[zb hi,zb hi];show _=(xU (4,_),nameOf (4,_),_);rw[c]
    have:2+(yB s-2)+1=yB s+1:=by omega
    rw[this];rfl
   rw[za hi,za hi];rfl
  have b:X5 (s.extract 2 s.size)=false:=by unfold X5;rw[a];exact P6
  rw[b,za (by decide),za hc];rfl
 rw[za h4,za h4];rfl
theorem tV(s:BY)(c:0<s.size):(qp s).data.toList.getD 0 0=s.data.toList.getD 0 0:=by
 unfold qp;generalize b:(if xP s.data.toList=0 then 1 else xP s.data.toList)=k
 have d:1<=k:=by rw[<- b];split<;>omega
 obtain⟨⟨l⟩⟩:=s
 cases l with
 | nil=>exact absurd c (by decide)
 | cons a l=>
  obtain⟨j,rfl⟩:∃j,k=j+1:=⟨k-1,by omega⟩;simp[ByteArray.data_extract]
theorem iI(s:BY)(a:0<s.size)(c:UInt8)(h:(s.data.toList.getD 0 0).toNat≠c.toNat):((qp s).toList==[c])=false:=by
 rw[qY];intro e;rw[JO]at e
 have:=tV s a
 rw[e]at this;apply h;rw[<- this];rfl
theorem iE(s:BY)(i:0<s.size)(c:UInt8)(k:c.toNat<128)(h:(s.data.toList.getD 0 0).toNat=c.toNat):(qp s).toList=[c]/\uJ s=true/\(qp s).size=1:=by
 have e:xP s.data.toList=1:=by
  unfold xP;rw[zF,N8,N9]
 have j:qp s=s.extract 0 1:=by unfold qp;rw[e];rfl
 have f:(qp s).size=1:=by rw[j,yM];omega
 refine⟨?_,by unfold uJ;rw[e];rfl,f⟩;rw[JO];have d:=tV s i;have b:(qp s).data.toList.length=1:=by rw[zF];exact f
 obtain⟨a,g⟩:=List.length_eq_one_iff.1 b;rw[g]at d |-
 have:a=c:=bn.1 (by rw[<- h,<- d];rfl)
 rw[this]
theorem zel(s:BY)(d:0<s.size)(h:(s.data.toList.getD 0 0).toNat=42):Vr (xG s)=(-2,⟨#[]⟩,1):=by
 obtain⟨a,b,c⟩:=iE s d 42 (by decide) h
 have:xG s=some (3,qp s,1):=by
  unfold xG;rw[b,a,c];rfl
 rw[this];rfl
theorem zei(s:BY)(d:0<s.size)(h:(s.data.toList.getD 0 0).toNat=63):Vr (xG s)=(-1,⟨#[]⟩,1):=by
 obtain⟨a,b,c⟩:=iE s d 63 (by decide) h
 have:xG s=some (2,qp s,1):=by
  unfold xG;rw[b,a,c];rfl
 rw[this];rfl
theorem zec(s:BY)(a:0<s.size)(h:(s.data.toList.getD 0 0).toNat=36):Vr (xG s)=Xk (s.extract 1 s.size):=by
 obtain⟨b,c,d⟩:=iE s a 36 (by decide) h
 have:xG s=bU s:=by
  unfold xG bU;rw[c,b];rfl
 rw[this,Oz s a]
theorem oC(s:BY)(a:0<s.size)(f:(s.data.toList.getD 0 0).toNat≠42)(g:(s.data.toList.getD 0 0).toNat≠63)(h:(s.data.toList.getD 0 0).toNat≠36):(Utf8.decode s 0=(65533,1)/\Vr (xG s)=(0,⟨#[]⟩,0)) \/
  (∃c n,c<=1114111/\Utf8.decode s 0=(c,n)/\¬(c=65533/\n=1)/\n<=s.size/\Vr (xG s)=((c:Int),⟨#[]⟩,n)):=by
 have b:=iI s a 42 f;have d:=iI s a 63 g;have e:=iI s a 36 h
 rcases Kh s a with⟨ho,hd⟩|⟨ho,hc,hd,hn⟩
 ·left
  refine⟨hd,?_⟩
  have:xG s=none:=by unfold xG;rw[zb ho]
  rw[this];rfl
 right
 refine⟨_,_,rune_le _ hc,hd,hn,(Jg s a).2,?_⟩
 have:xG s=some (1,qp s,(qp s).size):=by
  unfold xG;rw[ho,b,d,e];rfl
 rw[this];rfl
end Pg
end Go.Proofs.YtfjpcldndaiifaaGreatDoor
namespace Go.Proofs.YtfjpcldndaiifaaGreatDoor
open Go.Shelf
def Tryz.lays197_ren:Go.Shelf.Ren:=⟨λ|197=>136|260=>184|n=>n,λ|9=>9|21=>21|3=>3|4=>4|5=>5|105=>270|119=>273|0=>0|46=>277|139=>276|138=>275|n=>n,λ|3=>2|4=>3|n=>n⟩
theorem Tryz.lays197:Go.Proofs.Lays.n197 prog Tryz.lays197_ren:={
 mixed:=by kernel_rfl
 f197:=func136.trans (congrArg some (by kernel_rfl))
 f260:=func184.trans (congrArg some (by kernel_rfl))
 t0:=underlying0
 a0:=Tryz.isAgg0
 z0:=Tryz.sizeOf0
 v0:=Tryz.zeroValue0
 t3:=underlying3
 a3:=Tryz.isAgg3
 z3:=Tryz.sizeOf3
 v3:=Tryz.zeroValue3
 t4:=underlying4
 a4:=Tryz.isAgg4
 z4:=Tryz.sizeOf4
 v4:=Tryz.zeroValue4
 t5:=underlying5
 a5:=Tryz.isAgg5
 z5:=Tryz.sizeOf5
 v5:=Tryz.zeroValue5
 t9:=underlying9
 a9:=Tryz.isAgg9
 z9:=Tryz.sizeOf9
 v9:=Tryz.zeroValue9
 t21:=underlying21
 a21:=Tryz.isAgg21
 z21:=Tryz.sizeOf21
 v21:=Tryz.zeroValue21
 t46:=underlying277
 a46:=Tryz.isAgg277
 z46:=Tryz.sizeOf277
 v46:=Tryz.zeroValue277
 t105:=underlying270
 a105:=Tryz.isAgg270
 z105:=Tryz.sizeOf270
 v105:=Tryz.zeroValue270
 t119:=underlying273
 a119:=Tryz.isAgg273
 z119:=Tryz.sizeOf273
 t138:=underlying275
 a138:=Tryz.isAgg275
 z138:=Tryz.sizeOf275
 v138:=Tryz.zeroValue275
 t139:=underlying276
 a139:=Tryz.isAgg276
 z139:=Tryz.sizeOf276
 v139:=Tryz.zeroValue276
 g3:=by kernel_rfl
 g4:=by kernel_rfl }
def Tryz.lays145_ren:Go.Shelf.Ren:=⟨λ|145=>183|220=>212|219=>226|217=>234|225=>235|224=>236|267=>237|266=>242|314=>243|n=>n,λ|9=>9|4=>4|59=>330|3=>3|5=>5|46=>277|146=>387|51=>372|n=>n,λ|1=>4|n=>n⟩
theorem Tryz.lays145:Go.Proofs.Lays.n145 prog Tryz.lays145_ren:={
 mixed:=by kernel_rfl
 f145:=func183.trans (congrArg some (by kernel_rfl))
 f217:=func234.trans (congrArg some (by kernel_rfl))
 f219:=func226.trans (congrArg some (by kernel_rfl))
 f220:=func212.trans (congrArg some (by kernel_rfl))
 f224:=func236.trans (congrArg some (by kernel_rfl))
 f225:=func235.trans (congrArg some (by kernel_rfl))
 f266:=func242.trans (congrArg some (by kernel_rfl))
 f267:=func237.trans (congrArg some (by kernel_rfl))
 f314:=func243.trans (congrArg some (by kernel_rfl))
 t3:=underlying3
 a3:=Tryz.isAgg3
 z3:=Tryz.sizeOf3
 v3:=Tryz.zeroValue3
 t4:=underlying4
 a4:=Tryz.isAgg4
 z4:=Tryz.sizeOf4
 v4:=Tryz.zeroValue4
 t5:=underlying5
 a5:=Tryz.isAgg5
 z5:=Tryz.sizeOf5
 v5:=Tryz.zeroValue5
 t9:=underlying9
 a9:=Tryz.isAgg9
 z9:=Tryz.sizeOf9
 v9:=Tryz.zeroValue9
 t46:=underlying277
 a46:=Tryz.isAgg277
 z46:=Tryz.sizeOf277
 v46:=Tryz.zeroValue277
 t51:=underlying372
 a51:=Tryz.isAgg372
 z51:=Tryz.sizeOf372
 v51:=Tryz.zeroValue372
 t59:=underlying330
 a59:=Tryz.isAgg330
 z59:=Tryz.sizeOf330
 v59:=Tryz.zeroValue330
 t146:=underlying387
 a146:=Tryz.isAgg387
 z146:=Tryz.sizeOf387
 v146:=Tryz.zeroValue387
 g1:=by kernel_rfl }
def Tryz.lays196_ren:Go.Shelf.Ren:=⟨λ|196=>87|259=>139|n=>n,λ|9=>9|4=>4|3=>3|5=>5|12=>12|119=>273|0=>0|46=>277|139=>276|138=>275|53=>332|n=>n,λ|3=>2|4=>3|n=>n⟩
theorem Tryz.lays196:Go.Proofs.Lays.n196 prog Tryz.lays196_ren:={
 mixed:=by kernel_rfl
 f196:=func87.trans (congrArg some (by kernel_rfl))
 f259:=func139.trans (congrArg some (by kernel_rfl))
 t0:=underlying0
 a0:=Tryz.isAgg0
 z0:=Tryz.sizeOf0
 v0:=Tryz.zeroValue0
 t3:=underlying3
 a3:=Tryz.isAgg3
 z3:=Tryz.sizeOf3
 v3:=Tryz.zeroValue3
 t4:=underlying4
 a4:=Tryz.isAgg4
 z4:=Tryz.sizeOf4
 v4:=Tryz.zeroValue4
 t5:=underlying5
 a5:=Tryz.isAgg5
 z5:=Tryz.sizeOf5
 v5:=Tryz.zeroValue5
 t9:=underlying9
 a9:=Tryz.isAgg9
 z9:=Tryz.sizeOf9
 v9:=Tryz.zeroValue9
 t12:=underlying12
 a12:=Tryz.isAgg12
 z12:=Tryz.sizeOf12
 v12:=Tryz.zeroValue12
 t46:=underlying277
 a46:=Tryz.isAgg277
 z46:=Tryz.sizeOf277
 v46:=Tryz.zeroValue277
 t53:=underlying332
 a53:=Tryz.isAgg332
 z53:=Tryz.sizeOf332
 v53:=Tryz.zeroValue332
 t119:=underlying273
 a119:=Tryz.isAgg273
 z119:=Tryz.sizeOf273
 t138:=underlying275
 a138:=Tryz.isAgg275
 z138:=Tryz.sizeOf275
 v138:=Tryz.zeroValue275
 t139:=underlying276
 a139:=Tryz.isAgg276
 z139:=Tryz.sizeOf276
 v139:=Tryz.zeroValue276
 g3:=by kernel_rfl
 g4:=by kernel_rfl }
end Go.Proofs.YtfjpcldndaiifaaGreatDoor
