/- P -/
import Derived.Test.YtfjpcldndaiifaaGreatDoorA36
open Go.Proofs.Tryz
set_option maxRecDepth 100000
set_option maxHeartbeats 2000000
namespace Go.Proofs.YtfjpcldndaiifaaGreatDoor
open Go.RowKit
def Uz(w:J)(ao:Option Addr)(n:Nat)(v:Nat->Int):Prop:=
 n=0\/∃b o,ao=some (G8 b o)/\∀j,j<n->w.cell? (G8 b (o+j))=some (R9 (v j))
theorem EY{w w':J}{ao:Option Addr}{n:Nat}{v:Nat->Int}(h:Uz w ao n v)(a:BQ w w'):Uz w' ao n v:=by
 rcases h with h|⟨b,o,h1,h2⟩
 ·exact .inl h
 exact .inr ⟨b,o,h1,λj c=>zi a (h2 j c)⟩
theorem Rf(n:Nat)(ao:Option Addr)(cap g:Nat)(t:Array Y)(v:Nat->Int)(p:Nat->Bool)(w:J)(B:n<=1000000000000)(z:∀c w,(callFunc g c).run prog w=.ok (.enter g c) w)
  (x:Uz w ao n v)(y:ul g t (λj => R9 (v j)) n p w):R8 320 #[TL ao n cap,.func (.func g) #[] t] w λe r=>
   e=.returned (.tuple #[.int .i64 (((zC p n).getD 0:Nat):Int),.bool (zC p n).isSome])/\BQ w r:=by
 generalize hF:zC p n=F;have s:=G7 hF;clear hF;go_enter func320,ntmps320;go_wp2
 go_loopw [10] (λi wr=>∃k:Nat,k<=n/\i=R9 k/\(∀j,j<k->p j=false)/\BQ w wr) (λi _=>n-(intOf i).toNat)
 case atStart=>exact⟨0,zD _,rfl,λj h=>by omega,zf _ _⟩
 case round=>
  obtain⟨k,A,rfl,l,d⟩:=hrel;have m:=G7 l;clear l
  by_cases hlt:k<n
  ·rcases x with h0|⟨b,o,rfl,hcc⟩
   ·omega
   have q:=zi d (hcc k hlt);have a:=λW l=>y W k hlt l;simp only at a
   cases hpp:p k with
   | false=>
    rw[hpp]at a;have u:=G7 hpp;clear hpp;go_wp2_with(go_at_fn g;apply(a _ d).mono;rintro e r⟨rfl,f⟩);refine⟨⟨k+1,by omega,by go_num,λj h=>?_,d.trans (f.mono d.size)⟩,by simp[intOf];omega⟩
    by_cases hj:j=k
    ·subst hj;exact u.o
    ·exact m.o j (by omega)
   | true=>
    rw[hpp]at a;have e:=Xp p n k hlt m.o hpp;rw[s.o]at e;subst e;clear hpp;go_wp2_with(go_at_fn g;apply(a _ d).mono;rintro e r⟨rfl,f⟩);go_ret2;exact⟨rfl,d.trans (f.mono d.size)⟩
  have e:=Xq p n (λj h=>m.o j (by omega));rw[s.o]at e;subst e;go_wp2;go_ret2;exact⟨rfl,d⟩
theorem Iq(n:Nat)(ao:Option Addr)(cap g:Nat)(d:Array Y)(v:Nat->Int)(p:Nat->Bool)(w:J)(k:n<=1000000000000)(h:∀a w,(callFunc g a).run prog w=.ok (.enter g a) w)
  (i:Uz w ao n v)(l:ul g d (λj => R9 (v j)) n p w):R8 315 #[TL ao n cap,.func (.func g) #[] d] w λe f=>
   e=.returned (.bool (zC p n).isSome)/\BQ w f:=by
 have c:=Rf n ao cap g d v p w k h i l;generalize zC p n=F at c;go_enter func315,ntmps315;go_wp2_with(go_at_call 320;apply c.mono;rintro e f⟨rfl,b⟩);go_ret;exact⟨rfl,b⟩
theorem Tc:(prog.info? 2).map (λi=>(i.zero,i.size,i.bytes))=some (some (R9 0),1,8):=by kernel_rfl
def VP(w:J)(base:Nat)(a:Y)(l:List Int):Prop:=w.ownsRow base 2 1 a l.length (l.map (Value.int .i64))
def GK(w:J)(a:List Int)(e:Ending)(w':J):Prop:=∃b,e=.returned b/\VP w' w.heap.size b a/\BQ w w'
theorem za7{w:J}{B:Nat}{a:Y}{l:List Int}{s:Int}(h:w.ownsRow B 2 1 a (l.length+1) (l.map (Value.int .i64)++[R9 s])):VP w B a (l++[s]):=by
 unfold VP;rw[uz,qE];exact h
theorem zc3{w:J}{base:Nat}{d:Y}{l:List Int}(h:VP w base d l):∃a c,d=TL a l.length c/\Uz w a l.length (λj=>l.getD j 0):=by
 rcases h.2 with⟨rfl,h0⟩|⟨g,cap,cur,ev,_⟩
 ·exact⟨none,0,by rw[h0],.inl h0⟩
 refine⟨_,cap,ev,.inr ⟨g,0,rfl,λj b=>?_⟩⟩;rw[qV,World.ownsRow.cellAt (g:=g) (cap:=cap) (by rw[<- ev];exact h) j (by omega),ui,zn b];simp[b]
theorem zaC(b:List BY)(lv:Y)(g:Nat)(out:BY->Int)(w:J)(h:yt w lv b)(hn:b.length<=1000)(eg:∀m w,(callFunc g m).run prog w=.ok (.enter g m) w)
  (hp:∀W s,s ∈ b->BQ w W->R8 g #[S9 s] W (G5 (.int .i64 (out s)) W)):R8 307 #[lv,.func (.func g) #[] #[]] w (GK w (b.map out)):=by
 obtain⟨i0,hi,H,I,K⟩:=qU Tc;obtain⟨a,c,rfl,r⟩:=h;obtain⟨n,l⟩:=Nm b.length
 have f:∀(k:Nat) (x:BY),b[k]?=some x->∃F o,a=some (G8 F o)/\w.cell? (G8 F (o+k))=some (S9 x):=by
  intro k x hx;obtain⟨p,rfl⟩:=zU.1 hx
  rcases r with e|⟨F,o,e,hc⟩
  ·rw[e]at p;simp at p
  exact⟨F,o,e,hc k p⟩
 rw[l];rw[l]at hn;have⟨HC,HP,T⟩:=M4 f hp l;clear f hp l r;go_enter func307,ntmps307;go_wp2_with (at_make;refine fG _ rfl _ _ 423 rfl w.heap.size 2 i0 (R9 0) 1 underlying423 hi H I _ _ _ n rfl rfl rfl ?_ ?_ ?_ ?_)
 ·rw[K];omega
 ·unfold maxLen;omega
 ·omega
 intro w1 t d;have E:=G7 t;have C:G6 (BQ w w1):=(zf _ w).grown d F7 (λk p=>by cases p);clear t d;go_wp2_with fail
 go_loopw [5,7,13] (λov _ S wr=>∃(k:Nat),k<=n/\S=R9 k/\VP wr w.heap.size ov ((b.take k).map out)/\BQ w wr) (λ_ _ S _=>n-(intOf S).toNat)
 case atStart=>exact⟨0,zD _,rfl,E.o,C.o⟩
 case round=>
  obtain⟨k,p,rfl,B,X⟩:=hrel;have⟨M,A⟩:=D5 B X;clear B X E C
  by_cases hlt:k<n
  ·have y:k<b.length:=by rw[T.o];exact hlt
   obtain⟨F,o,rfl,q⟩:=HC.o k _ (zn y);have q2:=zi A.o q;have Q:=HP.o wr b[k] (qm y) A.o;have z:G6 ((b.take (k+1)).map out=(b.take k).map out++[out b[k]]):=G7 (by rw[Qg,zn y,uz];rfl);have G:((b.take k).map out).length=k:=by rw[qf,jg];omega
   obtain⟨s,hs⟩:=Nm (b[k]);rw[hs]at q2 Q z;have CC:=G7 Q;obtain⟨L,V⟩:=Nm ((b.take k).map out);rw[V]at M z G;clear q Q hs V
   go_wp2_with(first
    |(go_at_fn g;apply CC.o.mono;rintro e w2⟨rfl,v⟩;have D:=G7 v;have a4:=v.size;have b3:=A.o.size;clear v)
    | (at_builtin;refine yh _ rfl _ _ 423 rfl w.heap.size 2 i0 (R9 0) 1 8 underlying423 hi H I K rfl (by decide) _ L.length (L.map (Value.int .i64)) rfl (World.ownsRow.alloc (ownsRow_below M.o D.o) _) (G8 w2.heap.size 0) 1 1 [R9 (out s)] rfl rfl ?_ ?_ ?_ ?_ ?_ ?_))
   ·exact uQ _ _ _
   ·intro u hu;simp at hu;rcases hu with rfl;rfl
   ·unfold maxLen;omega
   ·omega
   ·simp;omega
   intro v' w3 j i _;have P:G6 (VP w3 w.heap.size v' ((b.take (k+1)).map out)):=by rw[z.o];exact za7 (by rw[G];exact j)
   have N:G6 (BQ w w3):=((A.o.trans (D.o.mono A.o.size)).alloc (by omega) _).grown i (by simp;omega) (λk p=>(World.ownsRow.lt M.o k p).1);clear j i;go_wp2;go_roundw
   case rel=>exact⟨k+1,by omega,by go_num,P.o,N.o⟩
   case measure=>simp[intOf];omega
  have R:k=n:=by omega
  subst R;have B:=M.o;rw[uA (by rw[T.o];omega)]at B;have O:=G7 B;clear B;go_wp2;go_ret;exact⟨_,rfl,O.o,A.o⟩
theorem GU(z n:Int)(B:Nat)(w:J)(b:w.cell? (G8 B 0)=some (R9 n)):R8 316 #[R9 z,RG B 0] w (G5 (.bool (decide (n<z))) w):=by
 go_enter func316,ntmps316;go_wp2;go_ret;exact⟨rfl,zf _ _⟩
theorem GV(l:List Int)(n:Int)(ao:Option Addr)(cap:Nat)(w:J)(i:l.length<=100000000000)(g:Uz w ao l.length (λj=>l.getD j 0)):R8 306 #[TL ao l.length cap,R9 n] w (G5 (.bool (l.any λz=>decide (n<z))) w):=by
 have a:=nbl w (L8 #[R9 n] 2)
 have c:=Iq l.length ao cap 316 #[RG w.heap.size 0] (λj=>l.getD j 0) (λj=>decide (n<l.getD j 0)) (w.alloc (L8 #[R9 n] 2)) (by omega)
  (qo func316 (by kernel_rfl) rfl) (EY g a)
  (λW j h f=>GU (l.getD j 0) n w.heap.size W (zi f (by simp)))
 rw[show (zC (λj=>decide (n<l.getD j 0)) l.length).isSome=l.any (λz=>decide (n<z)) from U3 l 0 (λz=>decide (n<z))]at c
 generalize (l.any λz=>decide (n<z))=F at c;go_enter func306,ntmps306;go_wp2_with(go_at_call 315;apply c.mono;rintro e d⟨rfl,b⟩);go_ret;exact⟨rfl,a.trans (b.mono (by simp))⟩
theorem U4{α:Type}(l:List α)(f g:α->Bool)(h:∀x ∈ l,f x=g x):l.any f=l.any g:=by
 rw[Zp,Q3,Q3]
 constructor
 ·rintro⟨x,a,b⟩;exact⟨x,a,by rw[<- h x a];exact b⟩
 rintro⟨x,a,b⟩;exact⟨x,a,by rw[h x a];exact b⟩
theorem Ls(x:BY)(a:List BY)(d:U.qW x=true)(c:∀v ∈ a,U.qW v=true):((a.map De.XA).any λz=>decide (De.XA x<z))=a.any λv=>De.Yj x v:=by
 rw[XP];exact U4 _ _ _ λv b=>(De.zdX d (c v b)).symm
theorem Tq(S:Option BY)(d:List BY)(N:Y)(B:Nat)(w:J)(r:∀v ∈ d,U.qW v=true)(hn:d.length<=1000)(u:yt w N d):R8 298 #[Qk S B,N] w (G5 (.bool (Zh S λx=>U.qW x&&d.any λv=>De.Yj x v)) w):=by
 have P:=λO:Obj=>nbl w O;unfold Qk jc
 cases S with
 | none=>
  simp only[Zh,Xa,uB];clear u r;go_enter func298,ntmps298;go_wp2_with fail
  go_quiet (fail)
  go_wp2_with fail;go_ret;exact⟨rfl,below_drewN (P _) _⟩
 | some x=>
  simp only[Zh,yP,uC];have q:=λW=>BI x W;obtain⟨h,i⟩:=Nm (w.alloc (.cells #[.string x,.bool true,.func (.func 90) #[] #[RG B 0]] 386));have t:G6 (BQ w h):=G7 (by rw[<- i];exact P _);have G:h.cell? (G8 w.heap.size 0)=some (.string x):=by rw[<- i];simp
  have H:h.cell? (G8 w.heap.size 1)=some (.bool true):=by rw[<- i];simp
  have o:=G7 i
  cases hx:U.qW x with
  | false=>
   rw[kS];simp only[hx]at q;clear u r i;go_enter func298,ntmps298
   go_upto_region 1 with fail
   rw[o.o];have f0:∀X:Grown h,X.w.cell? (G8 w.heap.size 0)=some (.string x):=λX=>zi X.b G;have f1:∀X:Grown h,X.w.cell? (G8 w.heap.size 1)=some (.bool true):=λX=>zi X.b H
   have G1:G6 (∀(X:Grown h),R8 305 #[.string x] X.w λe l=>e=.returned (.bool false)/\∃A:Grown h,l=A.w):=
    G7 λX=>(q X.w).mono λe l ⟨he,I⟩=>⟨he,⟨l,X.b.trans (I.mono X.b.size)⟩,rfl⟩
   have NE:Nonempty (Grown h):=⟨⟨h,zf _ _⟩⟩;clear q G H;refine pI (C:=λW'=>∃X:Grown h,W'=X.w) (by kernel_rfl) (by kernel_rfl) ⟨⟨_,(zf _ h).drew⟩,rfl⟩ ?_;simp only
   repeat (go_big_quiet_step (first|exact G1.o _))
   refine wpQuiet_nil ?_;intro s M;obtain⟨X,rfl⟩:=M;go_wp2_with fail;go_ret;exact⟨rfl,t.o.trans (X.b.mono t.o.size)⟩
  | true=>
   rw[jY,<- Ls x d hx r];simp only[hx]at q;have cN:=λW=>DD x W hx;have E:=λ(W:J) (I:BQ w W)=>zaC d N 308 De.XA W (kR u I) hn (qo func308 (by kernel_rfl) rfl) (λW2 v K _=>DD v W2 (r v K));have D:=λ(W:J) (ao:Option Addr) (F:Nat) g=>GV (d.map De.XA) (De.XA x) ao F W (by rw[qf];omega) g;obtain⟨a,c,rfl,_⟩:=u;generalize hL:d.map De.XA=L at E D;have⟨CM,V⟩:=D5 E D;clear r i hL E D hx;go_enter func298,ntmps298
   go_upto_region 1 with fail
   rw[o.o]
   go_region_held3 (λs=>s.cell? (G8 w.heap.size 0)=some (.string x)/\s.cell? (G8 w.heap.size 1)=some (.bool true)) (go_keep) (first
    | ((go_at_call 308);apply(cN R).mono;rintro e T⟨rfl,p⟩;have i0:=zi p h0;have i1:=zi p h1;have z:=G7 (EY HR.o p);have n:G6 (BQ w T):=m.o.trans (p.mono m.o.size);clear p)
    | ((go_at_call 307);apply(CM.o Q k.o).mono;rintro e R⟨mv,rfl,j,f⟩;obtain⟨ma,mc,rfl,g⟩:=zc3 j;have HR:=G7 g;have h0:=zi f f0;have h1:=zi f f1;have m:G6 (BQ w R):=k.o.trans (f.mono k.o.size);clear f j g)
    | ((go_at_call 305);apply(q h.drew).mono;rintro e Q⟨rfl,f⟩;have f0:=zi f G;have f1:=zi f H;have k:G6 (BQ w Q):=t.o.trans (((zf _ h).drew.trans f).mono t.o.size);clear f)
    | ((go_at_call 306);apply(V.o T ma mc z.o).mono;rintro e w4⟨rfl,f⟩;have k0:=zi f i0;have k1:=zi f i1;have y:G6 (BQ w w4):=n.o.trans (f.mono n.o.size);clear f))
   all_goals
    go_wp2_with fail;go_ret;exact⟨rfl,y.o⟩
namespace De
def Ya(c:qj)(r:U.Req):Bool:=((U.xR c.op&&(U.says r c.key).isNone)||Jd c.op c.vals r (U.says r c.key)) != c.no
def Je(s:zS)(r:U.Req):Bool:=Qw s.who r.who r&&Qw s.act r.act r&&Qw s.on r.on r&&s.ifs.all λc=>Ya c r
def Xt(eff:BY)(r:U.Req)(s:zS):Bool:=(s.eff.toList==eff.toList)&&Je s r
def Jr(eff:BY)(r:U.Req)(a:List zS):Option Nat:=a.findIdx? (Xt eff r)
def jq(eff:BY)(r:U.Req):List zH->Option (BY×Nat)
 | []=>none
 | x::L=>match Jr eff r x.2 with
  | some k=>some (x.1,k+1)
  | none=>jq eff r L
def yY(a:Nat->List zH)(eff:BY)(r:U.Req):List Nat->Option (Nat×BY×Nat)
 | []=>none
 | i::is=>match jq eff r (a i) with
  | some (n,k)=>some (i,n,k)
  | none=>yY a eff r is
def jO:BY:=⟨#[97,108,108,111,119]⟩
def Zu:BY:=⟨#[100,101,110,121]⟩
structure Dec where
 verdict:Nat
 layer:Nat
 doc:BY
 stmt:Nat
def silent:Dec:=⟨3,0,⟨#[]⟩,0⟩
def zbj:Dec:=⟨0,0,⟨#[]⟩,0⟩
def QQ(a:Nat->List zH)(r:U.Req)(i:Nat):Bool:=(a i).isEmpty||(jq jO r (a i)).isSome
def Jn(a:Nat->List zH)(r:U.Req):Dec:=match yY a Zu r [0,1,2,3] with
 | some (i,n,k)=>⟨2,i,n,k⟩
 | none=>if (QQ a r 0&&QQ a r 1)=false then silent else match yY a jO r [2,3] with
  | some (i,n,k)=>⟨1,i,n,k⟩
  | none=>silent
def J9(a:Nat->List zH)(r:U.Req):Dec×Int:=if U.qR r then (Jn a r,0) else (zbj,11)
end De
def QI(w:J)(v:Y)(cs:List qj):Prop:=
 ∃a c,v=TL a cs.length c/\(cs=[]\/∃b o,a=some (G8 b o)/\∀j,(h:j<cs.length)->∃d,w.cell? (G8 b (o+j*4))=some (S9 cs[j].op)/\w.cell? (G8 b (o+j*4+1))=some (S9 cs[j].key)/\w.cell? (G8 b (o+j*4+2))=some d/\w.cell? (G8 b (o+j*4+3))=some (.bool cs[j].no)/\yt w d cs[j].vals)
theorem QI.below{w w':J}{v:Y}{cs:List qj}(h:QI w v cs)(c:BQ w w'):QI w' v cs:=by
 obtain⟨a,d,e,h⟩:=h;refine⟨a,d,e,?_⟩
 rcases h with h|⟨b,o,ha,hc⟩
 ·exact .inl h
 refine .inr ⟨b,o,ha,λj m=>?_⟩;obtain⟨n,f,g,i,k,l⟩:=hc j m;exact⟨n,zi c f,zi c g,zi c i,zi c k,kR l c⟩
structure Yk (w:J) (l1 l2 l3 lc:Y) (s:zS):Prop where
 who:yt w l1 s.who.2
 act:yt w l2 s.act.2
 on:yt w l3 s.on.2
 ifs:QI w lc s.ifs
theorem Yk.below{w w':J}{b c d e:Y}{s:zS}(h:Yk w b c d e s)(a:BQ w w'):Yk w' b c d e s:=
 ⟨kR h.who a,kR h.act a,kR h.on a,h.ifs.below a⟩
def XG(w:J)(v:Y)(c:List zS):Prop:=
 ∃a d,v=TL a c.length d/\(c=[]\/∃b o,a=some (G8 b o)/\∀j,(h:j<c.length)->∃e f g i,w.cell? (G8 b (o+j*8))=some (S9 c[j].eff)/\w.cell? (G8 b (o+j*8+1))=some (.bool c[j].who.1)/\w.cell? (G8 b (o+j*8+2))=some e/\w.cell? (G8 b (o+j*8+3))=some (.bool c[j].act.1)/\w.cell? (G8 b (o+j*8+4))=some f/\w.cell? (G8 b (o+j*8+5))=some (.bool c[j].on.1)/\w.cell? (G8 b (o+j*8+6))=some g/\w.cell? (G8 b (o+j*8+7))=some i/\Yk w e f g i c[j])
theorem XG.below{w w':J}{v:Y}{f:List zS}(h:XG w v f)(c:BQ w w'):XG w' v f:=by
 obtain⟨a,d,e,h⟩:=h;refine⟨a,d,e,?_⟩
 rcases h with h|⟨b,o,ha,hc⟩
 ·exact .inl h
 refine .inr ⟨b,o,ha,λj s=>?_⟩;obtain⟨t,u,x,y,g,i,k,l,m,n,p,q,r⟩:=hc j s;exact⟨t,u,x,y,zi c g,zi c i,zi c k,zi c l,zi c m,zi c n,zi c p,zi c q,r.below c⟩
theorem Fe{w:J}{base n b:Nat}{e:TypeId}{v:Y}{xs:List Y}(h:w.ownsRow base e b v n xs):(n=0/\v=TL none 0 0)\/∃g cap,v=TL (some (G8 g 0)) n cap/\∀i,i<xs.length->w.cell? (G8 g i)=xs[i]?:=by
 rcases h.2 with⟨e0,h0⟩|⟨g,cap,cur,ev,_⟩
 ·exact .inl ⟨h0,e0⟩
 exact .inr ⟨g,cap,ev,λi a=>World.ownsRow.cellAt (g:=g) (cap:=cap) (by rw[<- ev];exact h) i (by rw[<- h.1];exact a)⟩
theorem wO{w:J}{base:Nat}{e:TypeId}{v:Y}{xs:List Y}{cs:List qj}(h:w.ownsRow base e 4 v cs.length xs)
  (l:∀j,(c:j<cs.length)->∃a,xs[j*4]?=some (S9 cs[j].op)/\xs[j*4+1]?=some (S9 cs[j].key)/\xs[j*4+2]?=some a/\xs[j*4+3]?=some (.bool cs[j].no)/\yt w a cs[j].vals):QI w v cs:=by
 have m:xs.length=cs.length*4:=h.1
 rcases Fe h with⟨b,rfl⟩|⟨g,cap,rfl,hcell⟩
 ·have:cs=[]:=Y6.1 b
  subst this;exact⟨none,0,rfl,.inl rfl⟩
 refine⟨_,cap,rfl,.inr ⟨g,0,rfl,λj c=>?_⟩⟩;obtain⟨a,b,d,f,i,k⟩:=l j c;rw[qV];exact⟨a,(hcell _ (by omega)).trans b,(hcell _ (by omega)).trans d,(hcell _ (by omega)).trans f,(hcell _ (by omega)).trans i,k⟩
theorem FY{w:J}{base:Nat}{e:TypeId}{v:Y}{xs:List Y}{a:List zS}(h:w.ownsRow base e 8 v a.length xs)
  (t:∀j,(k:j<a.length)->∃b c d f,xs[j*8]?=some (S9 a[j].eff)/\xs[j*8+1]?=some (.bool a[j].who.1)/\xs[j*8+2]?=some b/\xs[j*8+3]?=some (.bool a[j].act.1)/\xs[j*8+4]?=some c/\xs[j*8+5]?=some (.bool a[j].on.1)/\xs[j*8+6]?=some d/\xs[j*8+7]?=some f/\Yk w b c d f a[j]):XG w v a:=by
 have u:xs.length=a.length*8:=h.1
 rcases Fe h with⟨i,rfl⟩|⟨g,cap,rfl,hcell⟩
 ·have:a=[]:=Y6.1 i
  subst this;exact⟨none,0,rfl,.inl rfl⟩
 refine⟨_,cap,rfl,.inr ⟨g,0,rfl,λj k=>?_⟩⟩;obtain⟨b,c,d,f,i,l,m,n,o,p,q,r,s⟩:=t j k;rw[qV];exact⟨b,c,d,f,(hcell _ (by omega)).trans i,(hcell _ (by omega)).trans l,(hcell _ (by omega)).trans m,(hcell _ (by omega)).trans n,(hcell _ (by omega)).trans o,(hcell _ (by omega)).trans p,(hcell _ (by omega)).trans q,(hcell _ (by omega)).trans r,s⟩
theorem MP{w:J}{base:Nat}{v:Y}{cs:List qj}(h:xB w base v cs):QI w v cs:=by
 obtain⟨l,f,g⟩:=h;refine wO f λj i=>?_;obtain⟨k,a,b,c,d,e⟩:=g j i;exact⟨k,a,b,c,d,Ym rfl e⟩
theorem zev{w:J}{base:Nat}{v:Y}{c:List zS}(h:jl w base v c):XG w v c:=by
 obtain⟨u,a,b⟩:=h;refine FY a λj p=>?_;obtain⟨q,r,s,t,i,a,b,k,l,m,n,o,d,e,f,g⟩:=b j p;exact⟨q,r,s,t,i,a,b,k,l,m,n,o,⟨Ym rfl d,Ym rfl e,Ym rfl f,MP g⟩⟩
theorem MQ{w:J}{base:Nat}{v:Y}{cs:List U.qz}(h:yA w base v cs):QI w v (cs.map toS):=by
 obtain⟨l,g,i⟩:=h;refine wO (by rw[qf];exact g) λj f=>?_;rw[qf]at f;obtain⟨k,a,b,c,d,e⟩:=i j f;rw[VI];exact⟨k,a,b,c,d,Ym rfl e⟩
theorem zex{w:J}{base:Nat}{v:Y}{d:List Z.qi}(h:jh w base v d):XG w v (d.map vQ):=by
 obtain⟨u,a,b⟩:=h;refine FY (by rw[qf];exact a) λj c=>?_;rw[qf]at c;obtain⟨q,r,s,t,k,a,b,l,m,n,o,p,e,f,g,i⟩:=b j c;rw[VI];exact⟨q,r,s,t,k,a,b,l,m,n,o,p,⟨Ym rfl e,Ym rfl f,Ym rfl g,MQ i⟩⟩
theorem FX{M:Nat->Prop}{w:J}{v:Y}{a:List zS}(h:jf M w v a):XG w v a:=by
 obtain⟨base,h⟩:=h.at;exact zev h
theorem zew{M:Nat->Prop}{w:J}{v:Y}{a:List Z.qi}(h:vU M w v a):XG w v (a.map vQ):=by
 obtain⟨base,h⟩:=h.at;exact zex h
theorem Y1{w:J}{v:Y}{l:List BY}(h:yt w v l):∃a c,v=TL a l.length c/\yt w (TL a l.length c) l:=by
 obtain⟨a,c,rfl,h⟩:=h;exact⟨a,c,rfl,a,c,rfl,h⟩
theorem wQ{w:J}{v:Y}{l:List qj}(h:QI w v l):∃a c,v=TL a l.length c/\QI w (TL a l.length c) l:=by
 obtain⟨a,c,rfl,h⟩:=h;exact⟨a,c,rfl,a,c,rfl,h⟩
def JG(op:BY)(a:List BY)(r:U.Req)(S:Option BY):Bool:=(U.xR op&&S.isNone)||De.Jd op a r S
theorem KM{op:BY}{l:List UInt8}(h:op.toList=l):ug op=zC (λk=>(opN k).toList==l) 5:=by
 unfold ug;rw[h]
theorem KP(k:Nat):(opN k).toList=(opN k).data.toList:=ko _
theorem SQ:zC (λk=>(opN k).toList==[108,105,107,101]) 5=some 0:=by simp only[KP];decide
theorem SV:zC (λk=>(opN k).toList==[115,97,109,101]) 5=some 1:=by simp only[KP];decide
theorem SL:zC (λk=>(opN k).toList==[98,101,108,111,119]) 5=some 2:=by simp only[KP];decide
theorem SX:zC (λk=>(opN k).toList==[117,110,100,101,114]) 5=some 3:=by simp only[KP];decide
theorem SK:zC (λk=>(opN k).toList==[97,98,115,101,110,116]) 5=some 4:=by simp only[KP];decide
theorem zbK(k:Nat)(b:k<5):∀a w,(callFunc (opT k) a).run prog w=.ok (.enter (opT k) a) w:=by
 rcases lt5 b with rfl|rfl|rfl|rfl|rfl
 ·exact qo func294 (by kernel_rfl) rfl
 ·exact qo func296 (by kernel_rfl) rfl
 ·exact qo func298 (by kernel_rfl) rfl
 ·exact qo func300 (by kernel_rfl) rfl
 exact qo func302 (by kernel_rfl) rfl
theorem zfh(c:qj)(p:Y)(S:Option BY)(r:U.Req)(ao:Option Addr)(cap B:Nat)(w:J)(n:yt w p c.vals)(z:Yt c)(q:c.vals.length<=1000)(s:∀v ∈ c.vals,v.size<=100000)(A:∀x,S=some x->x.size<=100/\(U.chars x).isSome=true)(y:ZN w r ao cap B)(u:yF w):∃k,k<5/\ug c.op=some k/\R8 (opT k) #[Qk S B,p] w (G5 (.bool (JG c.op c.vals r S)) w):=by
 obtain⟨op,key,b,no⟩:=c;simp only at n q s |-
 rcases z with⟨ha,o⟩|⟨ha,hfit,hlike⟩
 ·simp only at ha o;subst o;have d:op.toList=[97,98,115,101,110,116]:=Xn ha;refine⟨4,by omega,(KM d).trans SK,?_⟩
  have e:JG op [] r S=S.isNone:=by
   unfold JG;rw[ha]
   cases S<;>rfl
  rw[e];exact Tp S p B w
 simp only at ha hfit hlike;obtain⟨a,c,rfl,f⟩:=n;have n:yt w (TL a b.length c) b:=⟨a,c,rfl,f⟩;have j:ZF w a b:=f;have t:JG op b r S=De.Jd op b r S:=by unfold JG;rw[ha];rfl
 rw[t];unfold U.ZU at hfit;rw[jX]at hfit;obtain⟨l,i⟩:=hfit;unfold U.Zz at i;simp only[fM]at i
 rcases i with ((h|h)|h)|h
 ·have d:=Xn h;refine⟨1,by omega,(KM d).trans SV,?_⟩
  have e:De.Jd op b r S=(Zh S λx=>b.any λv=>x.toList==v.toList):=by
   cases S with
   | none=>rfl
   | some x=>
    refine U4 _ _ _ λv _=>?_;unfold De.Yf U.xE De.vM;rw[d]
    rfl
  rw[e];exact TF S b a c B w (by omega) j
 ·have d:=Xn h;refine⟨3,by omega,(KM d).trans SX,?_⟩
  have e:De.Jd op b r S=(Zh S λx=>b.any λv=>De.ZG x v):=by
   cases S with
   | none=>rfl
   | some x=>
    refine U4 _ _ _ λv _=>?_;unfold De.Yf U.xE De.vM De.vK;rw[d]
    rfl
  rw[e];exact TI S b a c B w (by omega) s j
 ·have d:=Xn h;refine⟨2,by omega,(KM d).trans SL,?_⟩
  have m:∀v ∈ b,U.qW v=true:=λv o=>by
   have:=Zq.1 l v o
   unfold U.uZ at this;rw[d]at this
   simpa using this
  have e:De.Jd op b r S=(Zh S λx=>U.qW x&&b.any λv=>De.Yj x v):=by
   cases S with
   | none=>rfl
   | some x=>
    have g:(b.any λv=>De.Yf op x v r)=b.any λv=>(U.qW x&&De.Yj x v):=by
     refine U4 _ _ _ λv _=>?_;unfold De.Yf U.xE De.vM De.vK;rw[d]
     rfl
    show (b.any λv=>De.Yf op x v r)=(U.qW x&&b.any λv=>De.Yj x v);rw[g]
    cases U.qW x with
    | true=>rfl
    | false=>simp
  rw[e];exact Tq S b _ B w m q n
 have d:=Xn h;refine⟨0,by omega,(KM d).trans SQ,?_⟩
 have e:De.Jd op b r S=(Zh S λx=>b.any λv=>U.yQ v x r):=by
  cases S with
  | none=>rfl
  | some x=>
   refine U4 _ _ _ λv _=>?_;unfold De.Yf U.xE;rw[d]
   rfl
 rw[e];exact Ty S b r ao a cap c B w A (hlike h) (by omega) j y u
theorem SI(c:qj)(N:Y)(r:U.Req)(ao:Option Addr)(cap B:Nat)(w:J)(hm:yt w N c.vals)(hf:Yt c)(hn:c.vals.length<=1000)(hz:∀v ∈ c.vals,v.size<=100000)(M:ZN w r ao cap B)(V:yF w):R8 233 #[.agg #[S9 c.op,S9 c.key,N,.bool c.no],jc B] w (G5 (.bool (De.Ya c r)) w):=by
 have hT:=λ(W:J) (l:BQ w W)=>zfh c N (U.says r c.key) r ao cap B W (kR hm l) hf hn hz (K5 M.ok c.key) (M.below l) (V.below l);obtain⟨k,hk,j,_⟩:=hT w E9
 have b:∀(W:J),BQ w W->R8 (opT k) #[Qk (U.says r c.key) B,N] W (G5 (.bool (JG c.op c.vals r (U.says r c.key))) W):=by
  intro W l;obtain⟨k',_,L,h3⟩:=hT W l;rw[j]at L;injection L with L
  rw[L];exact h3
 have i:De.Ya c r=(JG c.op c.vals r (U.says r c.key) != c.no):=rfl;rw[i];have s:=λ(W:J) (l:BQ w W)=>mZ c.op W (V.below l).ops;have E:=λ(W:J) (l:BQ w W)=>M.call W c.key l;rw[j]at s;have eg:=zbK k hk;have es:=Fs;obtain⟨a,lc,rfl,_⟩:=hm;obtain⟨op,key,h,no⟩:=c;simp only at b s E |-;obtain⟨S,t⟩:=Nm (U.says r key);simp only[t]at b E;rw[t];obtain⟨T,u⟩:=Nm (JG op h r S);simp only[u]at b;rw[u];unfold Qk jc at b;unfold opV at s;unfold jc;simp only[uC]at s;obtain⟨K,x⟩:=Nm (opT k);obtain⟨fl,H⟩:=Nm (opL k);obtain⟨ON,F⟩:=Nm (opN k);rw[x]at b eg;simp only[x,H,F]at s;obtain⟨X,hX⟩:=Nm (S.getD ⟨#[]⟩);obtain⟨TH,G⟩:=Nm S.isSome;simp only[hX,G]at b E;have⟨HT,CO,CS⟩:=M4 b s E;obtain⟨A,f⟩:=Nm (w.alloc (L8 #[S9 op,S9 key,TL a h.length lc,.bool no] 262));have P:G6 (BQ w A):=G7 (by rw[<- f];exact nbl w _);have g0:A.cell? (G8 w.heap.size 0)=some (S9 op):=by rw[<- f];simp
 have g1:A.cell? (G8 w.heap.size 1)=some (S9 key):=by rw[<- f];simp
 have g2:A.cell? (G8 w.heap.size 2)=some (TL a h.length lc):=by rw[<- f];simp
 have g3:A.cell? (G8 w.heap.size 3)=some (.bool no):=by rw[<- f];simp
 have R:=G7 f;have sf:=λW a g m=>ZB prog W a (.func (.func g) #[] #[]) m rfl;clear hT b s E t u x H F hX G f j i hf hn hz M V hk;go_enter func233,ntmps233
 go_upto_region 1 with fail
 rw[R.o]
 go_upto_region 2 with(go_at_call 218;apply(CO.o A P.o).mono;rintro e z⟨rfl,d⟩;have k0:=zi d g0;have k1:=zi d g1;have k2:=zi d g2;have k3:=zi d g3;have o:G6 (BQ w z):=P.o.trans (d.mono P.o.size);clear d)
 obtain⟨O,n⟩:=Nm (z.alloc (L8 #[S9 ON,.func (.func fl) #[] #[],.func (.func K) #[] #[]] 346));have f2:O.cell? (G8 z.heap.size 2)=some (.func (.func K) #[] #[]):=by rw[<- n];simp
 have D:BQ z O:=by rw[<- n];exact nbl z _
 have j1:=zi D k1;have j2:=zi D k2;have j3:=zi D k3;have p:G6 (BQ w O):=G7 (o.o.trans (D.mono o.o.size));rw[n];clear n D k0 k1 k2 k3 o g0 g1 g2 g3
 go_upto_region 3 with(go_at_fn 90;apply(CS.o O p.o).mono;rintro e I⟨rfl,d⟩;have f3:=zi d f2;have l2:=zi d j2;have l3:=zi d j3;have q:G6 (BQ w I):=p.o.trans (d.mono p.o.size);clear d)
 go_region_held3 (λy=>y.cell? (G8 z.heap.size 2)=some (.func (.func K) #[] #[])/\y.cell? (G8 w.heap.size 2)=some (TL a h.length lc)/\y.cell? (G8 w.heap.size 3)=some (.bool no)) (go_keep) (first
  | ((go_at_fn K);apply(HT.o I.drew q.o.drew).mono;rintro e w4⟨rfl,d⟩;have C:BQ I w4:=(zf _ I).drew.trans d;have f4:=zi C f3;have m2:=zi C l2;have m3:=zi C l3;have Q:G6 (BQ w w4):=q.o.trans (C.mono q.o.size);clear d C))
 all_goals
  go_wp2_with fail;go_ret;exact⟨rfl,Q.o⟩
def gQ(g:Nat)(b:Array Y)(cs:List qj)(p:qj->Bool)(w:J):Prop:=
 ∀W c a,c ∈ cs->BQ w W->yt W a c.vals->R8 g (#[.agg #[S9 c.op,S9 c.key,a,.bool c.no]]++b) W (G5 (.bool (p c)) W)
def GR(g:Nat)(f:Array Y)(h:List zS)(p:zS->Bool)(w:J):Prop:=
 ∀W s a b c d,s ∈ h->BQ w W->Yk W a b c d s->R8 g (#[.agg #[S9 s.eff,.bool s.who.1,a,.bool s.act.1,b,.bool s.on.1,c,d]]++f) W (G5 (.bool (p s)) W)
theorem Rh(cs:List qj)(v:Y)(g:Nat)(N:Array Y)(p:qj->Bool)(w:J)(hn:cs.length<=100000)(eg:∀f w,(callFunc g f).run prog w=.ok (.enter g f) w)(hm:QI w v cs)(L:gQ g N cs p w):R8 246 #[v,.func (.func g) #[] N] w λe I=>
   e=.returned (.tuple #[.int .i64 (((zC (λj=>p (cs.getD j Ye)) cs.length).getD 0:Nat):Int),.bool (zC (λj=>p (cs.getD j Ye)) cs.length).isSome])/\BQ w I:=by
 obtain⟨u,t⟩:∃q:Nat->Bool,(λj=>p (cs.getD j Ye))=q:=⟨_,rfl⟩;have x:∀k,(h:k<cs.length)->u k=p cs[k]:=λk h=>by rw[<- t];simp only;rw[zT,zn h];rfl
 rw[t];generalize hF:zC u cs.length=F;obtain⟨ao,a3,rfl,l⟩:=hm;have⟨K,HR,HP,HA⟩:=M5 hF l L x;clear hF l L x t;go_enter func246,ntmps246;go_wp2
 go_loopw [10] (λi wr=>∃k:Nat,k<=cs.length/\i=R9 k/\(∀j,j<k->u j=false)/\BQ w wr) (λi _=>cs.length-(intOf i).toNat)
 case atStart=>exact⟨0,zD _,rfl,λj h=>by omega,zf _ _⟩
 case round=>
  obtain⟨k,hk,rfl,y,M⟩:=hrel;have⟨D,n⟩:=D5 y M;clear y M
  by_cases hlt:k<cs.length
  ·rcases HR.o with e|⟨b,o,rfl,hc⟩
   ·subst e;simp at hlt
   obtain⟨lv,S,T,V,X,H⟩:=hc k hlt;obtain⟨la,lc,rfl,_⟩:=Y1 H;have a:=λ(W:J) (y:BQ w W)=>HP.o W cs[k] _ (qm hlt) y (kR H y);have P:=zi n.o S;have Q:=zi n.o T;have G:=zi n.o V;have R:=zi n.o X;have s:=HA.o k hlt;obtain⟨c,z⟩:=Nm (cs[k]);simp only[z]at P Q G R a s;rw[<- s]at a;obtain⟨op,key,B,no⟩:=c;simp only at P Q G R a;obtain⟨m,A⟩:=Nm B.length;simp only[A]at G a;have d:=λO=>n.o.alloc n.o.size O;have C:=G7 a;clear hc z A S T V X H a s
   cases hpp:u k with
   | false=>
    rw[hpp]at C;have E:=G7 hpp;clear hpp;go_wp2_with(go_at_fn g;apply(C.o _ (d _)).mono;rintro e I⟨rfl,r⟩);refine⟨⟨k+1,by omega,by go_num,λj h=>?_,(d _).trans (r.mono (d _).size)⟩,by simp[intOf];omega⟩
    by_cases hj:j=k
    ·subst hj;exact E.o
    ·exact D.o j (by omega)
   | true=>
    rw[hpp]at C;have e:=Xp u cs.length k hlt D.o hpp;rw[K.o]at e;subst e;clear hpp;go_wp2_with(go_at_fn g;apply(C.o _ (d _)).mono;rintro e I⟨rfl,r⟩);go_ret2;exact⟨rfl,(d _).trans (r.mono (d _).size)⟩
  have e:=Xq u cs.length (λj h=>D.o j (by omega));rw[K.o]at e;subst e;go_wp2;go_ret2;exact⟨rfl,n.o⟩
theorem Rk(cs:List zS)(v:Y)(g:Nat)(T:Array Y)(p:zS->Bool)(w:J)(hn:cs.length<=100000)(eg:∀l w,(callFunc g l).run prog w=.ok (.enter g l) w)(hm:XG w v cs)(R:GR g T cs p w):R8 222 #[v,.func (.func g) #[] T] w λe P=>
   e=.returned (.tuple #[.int .i64 (((zC (λj=>p (cs.getD j Ul)) cs.length).getD 0:Nat):Int),.bool (zC (λj=>p (cs.getD j Ul)) cs.length).isSome])/\BQ w P:=by
 obtain⟨u,t⟩:∃q:Nat->Bool,(λj=>p (cs.getD j Ul))=q:=⟨_,rfl⟩;have y:∀k,(h:k<cs.length)->u k=p cs[k]:=λk h=>by rw[<- t];simp only;rw[zT,zn h];rfl
 rw[t];generalize hF:zC u cs.length=F;obtain⟨ao,b3,rfl,n⟩:=hm;have⟨Q,HR,HP,HA⟩:=M5 hF n R y;clear hF n R y t;go_enter func222,ntmps222;go_wp2
 go_loopw [10] (λi wr=>∃k:Nat,k<=cs.length/\i=R9 k/\(∀j,j<k->u j=false)/\BQ w wr) (λi _=>cs.length-(intOf i).toNat)
 case atStart=>exact⟨0,zD _,rfl,λj h=>by omega,zf _ _⟩
 case round=>
  obtain⟨k,hk,rfl,z,S⟩:=hrel;have⟨H,f⟩:=D5 z S;clear z S
  by_cases hlt:k<cs.length
  ·rcases HR.o with e|⟨b,o,rfl,hc⟩
   ·subst e;simp at hlt
   obtain⟨l1,l2,l3,lc,q0,q1,q2,q3,q4,q5,q6,q7,x⟩:=hc k hlt;obtain⟨x1,y1,rfl,_⟩:=Y1 x.who;obtain⟨x2,y2,rfl,_⟩:=Y1 x.act;obtain⟨x3,y3,rfl,_⟩:=Y1 x.on;obtain⟨x4,y4,rfl,_⟩:=wQ x.ifs;have a:=λ(W:J) (z:BQ w W)=>HP.o W cs[k] _ _ _ _ (qm hlt) z (x.below z);have V:=zi f.o q0;have X:=zi f.o q1;have K:=zi f.o q2;have p3:=zi f.o q3;have L:=zi f.o q4;have p5:=zi f.o q5;have M:=zi f.o q6;have N:=zi f.o q7;have s:=HA.o k hlt;obtain⟨c,A⟩:=Nm (cs[k]);simp only[A]at V X K p3 L p5 M N a s;rw[<- s]at a;obtain⟨eff,⟨n1,s1⟩,⟨n2,s2⟩,⟨n3,s3⟩,is⟩:=c;simp only at V X K p3 L p5 M N a;obtain⟨m1,B⟩:=Nm s1.length;obtain⟨m2,C⟩:=Nm s2.length;obtain⟨m3,D⟩:=Nm s3.length;obtain⟨m4,E⟩:=Nm is.length;simp only[B,C,D,E]at K L M N a;have d:=λO=>f.o.alloc f.o.size O;have G:=G7 a;clear hc A B C D E q0 q1 q2 q3 q4 q5 q6 q7 x a s
   cases hpp:u k with
   | false=>
    rw[hpp]at G;have I:=G7 hpp;clear hpp;go_wp2_with(go_at_fn g;apply(G.o _ (d _)).mono;rintro e P⟨rfl,r⟩);refine⟨⟨k+1,by omega,by go_num,λj h=>?_,(d _).trans (r.mono (d _).size)⟩,by simp[intOf];omega⟩
    by_cases hj:j=k
    ·subst hj;exact I.o
    ·exact H.o j (by omega)
   | true=>
    rw[hpp]at G;have e:=Xp u cs.length k hlt H.o hpp;rw[Q.o]at e;subst e;clear hpp;go_wp2_with(go_at_fn g;apply(G.o _ (d _)).mono;rintro e P⟨rfl,r⟩);go_ret2;exact⟨rfl,(d _).trans (r.mono (d _).size)⟩
  have e:=Xq u cs.length (λj h=>H.o j (by omega));rw[Q.o]at e;subst e;go_wp2;go_ret2;exact⟨rfl,f.o⟩
theorem Iw(cs:List qj)(v:Y)(g:Nat)(f:Array Y)(p:qj->Bool)(w:J)(m:cs.length<=100000)(l:∀b w,(callFunc g b).run prog w=.ok (.enter g b) w)(h:QI w v cs)(n:gQ g f cs p w):R8 240 #[v,.func (.func g) #[] f] w (G5 (.bool (cs.any p)) w):=by
 have c:=Rh cs v g f p w m l h n;rw[<- U3 cs Ye p];obtain⟨a,k,rfl,_⟩:=h;generalize zC (λj=>p (cs.getD j Ye)) cs.length=F at c;go_enter func240,ntmps240;go_wp2_with(go_at_call 246;apply c.mono;rintro e i⟨rfl,d⟩);go_ret;exact⟨rfl,d⟩
theorem Ia(g:Nat)(h:Array Y)(op key:BY)(f:Option Addr)(m i:Nat)(no:Bool)(B:Nat)(y:Bool)(w:J)(n:∀a w,(callFunc g a).run prog w=.ok (.enter g a) w)
  (j:w.cell? (G8 B 0)=some (.func (.func g) #[] h))(l:∀W,BQ w W->R8 g (#[.agg #[S9 op,S9 key,TL f m i,.bool no]]++h) W (G5 (.bool y) W)):R8 241 #[.agg #[S9 op,S9 key,TL f m i,.bool no],RG B 0] w (G5 (.bool (!y)) w):=by
 have k:=λO:Obj=>zi (nbl w O) j;have b:=λO:Obj=>nbl w O;go_enter func241,ntmps241;go_wp2_with(go_at_fn g;apply(l _ (b _)).mono;rintro e c⟨rfl,d⟩);go_ret;exact⟨rfl,(b _).trans (d.mono (b _).size)⟩
theorem Hu(cs:List qj)(p:qj->Bool):(!cs.any λc=>!p c)=cs.all p:=by
 induction cs with
 | nil=>rfl
 | cons x r a=>
  rw[VF,aJ,Bool.not_or,Bool.not_not,a]
theorem Hz(cs:List qj)(v:Y)(g:Nat)(d:Array Y)(p:qj->Bool)(w:J)(u:cs.length<=100000)(s:∀b w,(callFunc g b).run prog w=.ok (.enter g b) w)(k:QI w v cs)(l:gQ g d cs p w):R8 231 #[v,.func (.func g) #[] d] w (G5 (.bool (cs.all p)) w):=by
 have r:∀b w,(callFunc 241 b).run prog w=.ok (.enter 241 b) w:=qo func241 (by kernel_rfl) rfl;have b0:BQ w (w.alloc (L8 #[.func (.func g) #[] d] 379)):=nbl w _
 have c:=Iw cs v 241 #[RG w.heap.size 0] (λc=>!p c) (w.alloc (L8 #[.func (.func g) #[] d] 379)) u r (k.below b0)
  (λW c z t f m=>by
    obtain⟨x,y,rfl,_⟩:=Y1 m;refine Ia g d c.op c.key x c.vals.length y c.no w.heap.size (p c) W s (zi f (by simp)) (λo j=>l o c _ t (b0.trans ((f.trans (j.mono f.size)).mono b0.size)) (kR m j)))
 rw[<- Hu cs p];generalize (cs.any λc=>!p c)=F at c;obtain⟨a,q,rfl,_⟩:=k;have i:=G7 b0;clear l b0;go_enter func231,ntmps231;go_wp2_with(go_at_call 240;apply c.mono;rintro e n⟨rfl,h⟩);go_ret;exact⟨rfl,i.o.trans (h.mono i.o.size)⟩
theorem Tryz.infoBool:(prog.info? 4).map (λi=>(i.zero,i.size,i.bytes))=some (some T9,1,1):=by kernel_rfl
theorem V3{w c:J}{E:TypeId}{base a g n k:Nat}{d h:Nat->Bool}{b:Bool}(f:a≠g)(i:w.heap.size<=a)
  (l:c.ownsRow base E 1 (TL (some (G8 a 0)) (n+1) (n+1)) (n+1) (U.jJ (U.upTo d k) (n+1)))(m:c.ownsRow base E 1 (TL (some (G8 g 0)) (n+1) (n+1)) (n+1) (U.jJ h (n+1)))
  (j:BQ w c)(o:d k=b):(c.setCell (G8 a k) (.bool b)).ownsRow base E 1 (TL (some (G8 a 0)) (n+1) (n+1)) (n+1) (U.jJ (U.upTo d (k+1)) (n+1)) /\
  (c.setCell (G8 a k) (.bool b)).ownsRow base E 1 (TL (some (G8 g 0)) (n+1) (n+1)) (n+1) (U.jJ h (n+1))/\BQ w (c.setCell (G8 a k) (.bool b)):=by
 refine⟨?_,xz m (by simp only[Value.ownBlock];intro e;simp only[Option.some.injEq]at e;exact f e.symm) _,j.setCell i _⟩;rw[<- U.Fa d (n+1) k b o];exact(l.stored k (.bool b)).1
theorem ND(p:List (Int×BY))(cs:List BY)(lv cv:Y)(w:J)(hl:YQ w lv p)(q:yt w cv cs)(h8:p.length<=100000)(h6:cs.length<=100000):R8 96 #[lv,cv] w (G5 (.bool (U.covers p cs)) w):=by
 obtain⟨i0,hi,c8,c9,d0⟩:=qU Tryz.infoBool;obtain⟨lo,M,rfl,hl⟩:=hl;have c5:YQ w (TL lo p.length M) p:=⟨lo,M,rfl,hl⟩;obtain⟨co,H,rfl,q⟩:=q;have c3:yt w (TL co cs.length H) cs:=⟨co,H,rfl,q⟩;clear hl q;have⟨HL,HC⟩:=D5 c5 c3;clear c5 c3;obtain⟨R,hR⟩:=Nm (U.covers p cs);rw[hR];have HR:=G7 hR;clear hR;go_enter func96,ntmps96;go_wp2_with (at_make;refine JH _ rfl _ _ 178 rfl w.heap.size 4 i0 T9 1 underlying178 hi c8 c9 _ _ _ _ (cs.length+1) rfl rfl ?_ ?_ ?_ ?_ ?_ ?_)
 ·omega
 ·omega
 ·rw[d0];omega
 ·unfold maxLen;omega
 ·omega
 intro w1 a3 K
 have T:w1.ownsRow w.heap.size 4 1 (TL (some (G8 w.heap.size 0)) (cs.length+1) (cs.length+1)) (cs.length+1) (List.replicate (cs.length+1) T9):=by
  rw[<- UG];exact a3
 have a1:BQ w w1:=(zf _ w).grown K F7 (λk S=>by cases S);have c0:w1.cell? (G8 w.heap.size 0)=some T9:=by rw[T.cellAt 0 (by omega)];simp
 have f0:w1.frozen? (G8 w.heap.size 0)=false:=T.frozenAt 0;have b1:=(T.stored 0 L6).1;rw[U.Nz cs cs.length]at b1;have t:BQ w (w1.setCell (G8 w.heap.size 0) L6):=a1.setCell F7 _;clear a3 K T a1;have⟨b8,V⟩:=D5 b1 t;clear b1 t;go_wp2
 go_loopw [5,6] (λrv iv wr=>∃i g:Nat,i<=p.length/\iv=R9 i/\rv=TL (some (G8 g 0)) (cs.length+1) (cs.length+1) /\
   wr.ownsRow w.heap.size 4 1 (TL (some (G8 g 0)) (cs.length+1) (cs.length+1)) (cs.length+1) (U.jJ (U.yg cs (p.take i).reverse) (cs.length+1))/\BQ w wr) (λ_ iv _=>p.length-(intOf iv).toNat)
 case atStart=>exact⟨0,w.heap.size,by omega,rfl,rfl,b8.o,V.o⟩
 case round=>
  obtain⟨i,g,f8,rfl,rfl,s,r⟩:=hrel;clear b8 V c0 f0;have x:=r.size;have d9:G6 (YQ wr (TL lo p.length M) p):=nE HL.o r;have d8:G6 (yt wr (TL co cs.length H) cs):=kR HC.o r
  by_cases hlt:i<p.length
  ·obtain⟨d,u⟩:=Nm (p[i].1);obtain⟨b3,b0⟩:=Nm (p[i].2);obtain⟨N,a9⟩:=Nm ((p.take i).reverse);have c6:(p.take (i+1)).reverse=p[i]::N:=by rw[U.zfe p i hlt,a9]
   rw[a9]at s;obtain⟨y,C⟩:=Nm (U.yg cs (p[i]::N));obtain⟨rf,E⟩:=Nm (U.yg cs N);rw[E]at s;have s1:d=3->y 0=rf 0:=by intro h;rw[<- C,<- E];exact U.NB cs _ _ (u.trans h)
   have s2:d=3->∀k,0<k->y k=(rf k||y (k-1)):=by intro h k S;rw[<- C,<- E];exact U.NA cs _ _ (u.trans h) k S
   have s3:d≠3->y 0=false:=by intro h;rw[<- C];exact U.Aa cs _ _ (by rw[u];exact h)
   have s4:d=2->∀k,0<k->y k=rf (k-1):=by intro h k S;rw[<- C,<- E];exact U.wY cs _ _ (u.trans h) k S
   have s5:d≠3->d≠2->∀m (q:m<cs.length),y (m+1)=(rf m&&(b3.toList==cs[m].toList)):=by
    intro A Q m q;rw[<- C,<- E,<- b0];exact U.wZ cs _ _ (by rw[u];exact A) (by rw[u];exact Q) (m+1) (by omega) q
   have⟨S1,S2,S3,S4,S5⟩:=M6 s1 s2 s3 s4 s5;have e0:G6 (U.yg cs (p.take (i+1)).reverse=y):=by rw[c6];exact C
   have D:G6 (∃b o,lo=some (G8 b o)/\∀wx,BQ w wx->wx.cell? (G8 b (o+i*2))=some (R9 d)/\wx.cell? (G8 b (o+i*2+1))=some (S9 b3)):=by
    obtain⟨e3,b9,he,a6⟩:=HL.o;simp only[Value.slice.injEq,QW]at he;obtain⟨rfl,rfl⟩:=he
    rcases a6 with rfl|⟨b,o,rfl,q⟩
    ·simp at hlt
    refine⟨b,o,rfl,λwx c2=>?_⟩;rw[<- u,<- b0];exact⟨zi c2 (q i hlt).1,zi c2 (q i hlt).2⟩
   clear s1 s2 s3 s4 s5 C E c6 a9 u b0 d9 d8;obtain⟨pb,po,rfl,c7⟩:=D.o;have e1:=G7 c7;clear D c7;go_wp2_with (at_make;refine JH _ rfl _ _ 178 rfl w.heap.size 4 i0 T9 1 underlying178 hi c8 c9 _ _ _ _ (cs.length+1) rfl rfl ?_ ?_ ?_ ?_ ?_ ?_)
   ·omega
   ·omega
   ·rw[d0];omega
   ·unfold maxLen;omega
   ·omega
   intro w2 a4 z
   have a2:w2.ownsRow w.heap.size 4 1 (TL (some (G8 wr.heap.size 0)) (cs.length+1) (cs.length+1)) (cs.length+1) (U.jJ (U.upTo y 0) (cs.length+1)):=by
    rw[U.EZ,<- UG];exact a4
   have O:=s.kept z (.inr (by simp[Value.ownBlock]));have t:BQ w w2:=r.grown z x (λk S=>by cases S);have B:wr.heap.size≠g:=by have:=(s.lt g rfl).2;omega
   clear a4 z s r;have⟨G,W,b7⟩:=M4 a2 O t;obtain⟨nb,a8⟩:=Nm wr.heap.size;rw[a8]at G B x;rw[a8];clear a2 O t a8;go_wp2
   go_loopw [8] (λkv wx=>∃k:Nat,k<=cs.length+1/\kv=R9 k/\wx.ownsRow w.heap.size 4 1 (TL (some (G8 nb 0)) (cs.length+1) (cs.length+1)) (cs.length+1) (U.jJ (U.upTo y k) (cs.length+1)) /\
     wx.ownsRow w.heap.size 4 1 (TL (some (G8 g 0)) (cs.length+1) (cs.length+1)) (cs.length+1) (U.jJ rf (cs.length+1))/\BQ w wx) (λkv _=>cs.length+1-(intOf kv).toNat)
   case atStart=>exact⟨0,by omega,rfl,G.o,W.o,b7.o⟩
   case round=>
    obtain⟨k,h7,rfl,xn,xr,xb⟩:=hrel;clear G W b7
    by_cases S:k<=cs.length
    ·obtain⟨p1,p2⟩:=e1.o wr xb;have fz:wr.frozen? (G8 nb k)=false:=xn.frozenAt k;obtain⟨old,nk⟩:∃v,wr.cell? (G8 nb k)=some v:=⟨_,(xn.cellAt k (by omega)).trans (U.KZ _ _ _ (by omega))⟩;have rk:=(xr.cellAt k (by omega)).trans (U.KZ _ _ _ (by omega));obtain⟨a,ha⟩:=Nm (rf k);rw[ha]at rk;have⟨HA,P,XR,X⟩:=M5 ha xn xr xb;clear xn xr xb ha
     by_cases A:d=3
     ·have e5:(d==3)=true:=by simp[A]
      by_cases hk0:k=0
      ·subst hk0;have j:=G7 (V3 B x P.o XR.o X.o ((S1.o A).trans HA.o));clear A
       cases a
       all_goals
        go_wp2;exact⟨⟨0+1,by omega,by go_num,j.o.1,j.o.2.1,j.o.2.2⟩,by simp[intOf]⟩
      obtain⟨m,rfl⟩:∃m,k=m+1:=⟨k-1,by omega⟩;have d1:=(P.o.cellAt m (by omega)).trans (U.KZ _ _ _ (by omega));rw[show U.upTo y (m+1) m=y m by simp[U.upTo]]at d1;obtain⟨b,L⟩:=Nm (y m);rw[L]at d1;have F:y (m+1)=(a||b):=by rw[S2.o A (m+1) (by omega),HA.o,VM,L]
      cases a
      ·rw[XI]at F;have j:=G7 (V3 B x P.o XR.o X.o F);clear A F L hk0;go_wp2;exact⟨⟨m+1+1,by omega,by go_num,j.o.1,j.o.2.1,j.o.2.2⟩,by simp[intOf];omega⟩
      rw[UI]at F;have j:=G7 (V3 B x P.o XR.o X.o F);clear A F L hk0;go_wp2;exact⟨⟨m+1+1,by omega,by go_num,j.o.1,j.o.2.1,j.o.2.2⟩,by simp[intOf];omega⟩
     have e5:(d==3)=false:=by simp[A]
     by_cases hk0:k=0
     ·subst hk0;have b5:=P.o;rw[U.zc6 y _ 0 (S3.o A)]at b5;have e2:=G7 b5;clear b5 A;go_wp2;exact⟨⟨0+1,by omega,by go_num,e2.o,XR.o,X.o⟩,by simp[intOf]⟩
     obtain⟨m,rfl⟩:∃m,k=m+1:=⟨k-1,by omega⟩;have f1:=(XR.o.cellAt m (by omega)).trans (U.KZ _ _ _ (by omega));obtain⟨b,L⟩:=Nm (rf m);rw[L]at f1
     by_cases Q:d=2
     ·have e4:(d==2)=true:=by simp[Q]
      have j:=G7 (V3 B x P.o XR.o X.o (b:=b) (by rw[S4.o Q (m+1) (by omega),VM,L]));clear A L hk0 Q;go_wp2;exact⟨⟨m+1+1,by omega,by go_num,j.o.1,j.o.2.1,j.o.2.2⟩,by simp[intOf];omega⟩
     have e4:(d==2)=false:=by simp[Q]
     have a7:∃cb I,co=some (G8 cb I)/\wr.cell? (G8 cb (I+m))=some (S9 cs[m]):=by
      obtain⟨e3,b9,he,a6⟩:=kR HC.o X.o;simp only[Value.slice.injEq,QW]at he;obtain⟨rfl,rfl⟩:=he
      rcases a6 with rfl|⟨cb,I,rfl,q⟩
      ·simp at S
      exact⟨cb,I,rfl,q m (by omega)⟩
     obtain⟨cb,I,rfl,qc⟩:=a7;obtain⟨c,q⟩:=Nm (cs[m]);rw[q]at qc
     have F:y (m+1)=(b&&(b3.toList==c.toList)):=by
      rw[S5.o A Q m (by omega),L,q]
     cases b
     ·rw[kS]at F;have j:=G7 (V3 B x P.o XR.o X.o F);clear A L hk0 Q q F;go_wp2;go_region
      all_goals go_wp2
      all_goals exact⟨⟨m+1+1,by omega,by go_num,j.o.1.drew,j.o.2.1.drew,j.o.2.2.drew⟩,by simp[intOf];omega⟩
     rw[jY]at F;have j:=G7 (V3 B x P.o XR.o X.o F);clear A L hk0 Q q F;go_wp2;go_region
     all_goals go_wp2
     all_goals exact⟨⟨m+1+1,by omega,by go_num,j.o.1.drew,j.o.2.1.drew,j.o.2.2.drew⟩,by simp[intOf];omega⟩
    rw[U.zc5 y _ _ (by omega)]at xn;have P:=G7 xn;clear xn xr;go_wp2;go_roundw
    case rel=>exact⟨i+1,nb,by omega,by go_num,rfl,by rw[e0.o];exact P.o,xb⟩
    case measure=>simp[intOf];omega
  have q:=s.cellAt cs.length (by omega);rw[U.KZ _ _ _ (by omega)]at q;have hf:U.yg cs (p.take i).reverse cs.length=R:=by rw[<- HR.o,uA (by omega)];rfl
  rw[hf]at q;clear hf;go_wp2;go_ret;exact⟨rfl,r⟩
end Go.Proofs.YtfjpcldndaiifaaGreatDoor
