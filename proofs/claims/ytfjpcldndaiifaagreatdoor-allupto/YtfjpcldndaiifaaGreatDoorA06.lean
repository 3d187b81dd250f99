/- P -/
import Derived.Test.YtfjpcldndaiifaaGreatDoorA02
import Derived.Test.YtfjpcldndaiifaaGreatDoorA05
open Go.Proofs.Tryz
set_option maxRecDepth 100000
set_option maxHeartbeats 2000000
namespace Go.Proofs.YtfjpcldndaiifaaGreatDoor
open Go.RowKit
def FV(c:Nat)(u:Y):Prop:=(c=0/\u=.nilIface)\/(c=1/\∃p,u=.iface 132 (.agg #[S9 p]))\/(c=2/\∃k,u=.iface 188 (.agg #[R9 k]))
theorem FV.le{c:Nat}{u:Y}(h:FV c u):c<=2:=by rcases h with⟨h,_⟩|⟨h,_⟩|⟨h,_⟩<;>omega
theorem FV.form{c:Nat}{u:Y}(h:FV c u):u=.nilIface\/∃T x,u=.iface T x:=by
 rcases h with⟨_,h⟩|⟨_,p,h⟩|⟨_,k,h⟩
 ·exact .inl h
 ·exact .inr ⟨_,_,h⟩
 exact .inr ⟨_,_,h⟩
theorem BB(c:Nat)(u:Y)(w:J)(h:FV c u):R8 63 #[u] w (G5 (.bool (c != 0)) w):=by
 rcases h with⟨rfl,rfl⟩|⟨rfl,p,rfl⟩|⟨rfl,k,rfl⟩
 ·go_enter func63,ntmps63;go_wp2;go_ret;exact⟨rfl,zf _ _⟩
 ·go_enter func63,ntmps63;go_wp2;go_ret;exact⟨rfl,zf _ _⟩
 go_enter func63,ntmps63;go_wp2;go_ret;exact⟨rfl,zf _ _⟩
theorem IQ(a:Y)(w:J):R8 65 #[.nilIface,a] w λe b=>e=.returned T9/\b=w:=by
 go_enter func65,ntmps65;go_wp2;go_ret;exact⟨rfl,rfl⟩
theorem Jp(w:J)(v:Y)(t:TypeId):(w.alloc (L8 #[v] t)).cell? (R6 w 0)=some v:=by simp
theorem Pk(w:J)(v:Y)(t:TypeId):(w.alloc (L8 #[v] t)).frozen? (R6 w 0)=false:=by simp
theorem TG(c:Nat)(u:Y)(w:J)(i:yj w)(h:FV c u):R8 161 #[u] w (G5 (.bool (c==1)) w):=by
 have a:=nbl w (L8 #[R5] 132)
 rcases h with⟨rfl,rfl⟩|⟨rfl,p,rfl⟩|⟨rfl,k,rfl⟩
 ·have c1:=IQ;go_enter func161,ntmps161;go_wp2_with(go_at_call 65;apply(c1 _ _).mono;rintro e j⟨rfl,rfl⟩);go_ret;exact⟨rfl,a⟩
 ·have c1:=Jo 132 351 132 (.agg #[S9 p]) (R6 w 0) (w.alloc (L8 #[R5] 132)) (i.below a) pF true
   (λf=>BQ w f) (λO=>by
     apply(AC 132 351 _ (S9 p) _ R5 _ (R6 w 0) _ QO La pF SB ⟨p,rfl⟩ (zR (Jp _ _ _) O) (zR (zR (Jp w _ _) _) O) (jQ (zR (Jp w _ _) _) (jQ (Jp w _ _) (Pk w _ _) _) O)).mono;rintro e f⟨rfl,_,g⟩;have b:BQ w (((w.alloc (L8 #[R5] 132)).alloc (L8 #[R7 w 0] 351)).alloc O):=(a.alloc (by simp) _).alloc (by simp;omega) _;exact⟨rfl,b.trans (g w.heap.size F7 b.size)⟩)
  go_enter func161,ntmps161;go_wp2_with(go_at_call 65;apply c1.mono;rintro e j⟨rfl,d⟩);go_ret;exact⟨rfl,d⟩
 have c1:=Jo 132 351 188 (.agg #[R9 k]) (R6 w 0) (w.alloc (L8 #[R5] 132)) (i.below a) pF false
  (λf=>BQ w f) (λO=>by
    apply(AJ 188 132 _ _ _ _ _ _ V5 KJ IX).mono;rintro e f⟨rfl,g⟩;have b:BQ w (((w.alloc (L8 #[R5] 132)).alloc (L8 #[R7 w 0] 351)).alloc O):=(a.alloc (by simp) _).alloc (by simp;omega) _;exact⟨rfl,b.trans (g.mono b.size)⟩)
 go_enter func161,ntmps161;go_wp2_with(go_at_call 65;apply c1.mono;rintro e j⟨rfl,d⟩);go_ret;exact⟨rfl,d⟩
def vV(w:J)(ao:Option Addr)(a:List Y):Prop:=
 a=[]\/∃b o,ao=some (G8 b o)/\∀j,(h:j<a.length)->w.cell? (G8 b (o+j))=some a[j]
theorem bY{w w':J}{ao:Option Addr}{a:List Y}(h:vV w ao a)(c:BQ w w'):vV w' ao a:=by
 rcases h with h|⟨b,o,ha,hc⟩
 ·exact .inl h
 exact .inr ⟨b,o,ha,λj d=>zi c (hc j d)⟩
theorem lD(a:List Y)(ao:Option Addr)(cap g:Nat)(p:Nat->Bool)(w:J)(G:a.length<=100000000000)(D:L9 g)
  (B:vV w ao a)(s:∀u ∈ a,u=.nilIface\/∃T x,u=.iface T x)(C:ul g #[] (λj=>a.getD j .nilIface) a.length p w):R8 62 #[TL ao a.length cap,.func (.func g) #[] #[]] w λe n=>
   e=.returned (.tuple #[R9 (((zC p a.length).getD 0:Nat):Int),.bool (zC p a.length).isSome])/\BQ w n:=by
 generalize hF:zC p a.length=F;have y:=G7 hF;clear hF;go_enter func62,ntmps62;go_wp2
 go_loopw [10] (λi wr=>∃k:Nat,k<=a.length/\i=R9 k/\(∀j,j<k->p j=false)/\BQ w wr) (λi _=>a.length-(intOf i).toNat)
 case atStart=>exact⟨0,zD _,rfl,λj h=>by omega,zf _ _⟩
 case round=>
  obtain⟨k,E,rfl,r,f⟩:=hrel;have q:=G7 r;clear r
  by_cases hlt:k<a.length
  ·rcases B with rfl|⟨b,o,rfl,hc⟩
   ·simp at hlt
   have c:=λW r=>C W k hlt r;have m:a.getD k .nilIface=a[k]:=by rw[zT,zn hlt];rfl
   simp only[m]at c;have v:=hc k hlt;have t:=s a[k] (qm hlt);obtain⟨u,A⟩:=Nm (a[k]);rw[A]at v c t;have H:=zi f v;clear A hc v m
   cases hpp:p k with
   | false=>
    rw[hpp]at c;have z:=G7 hpp;clear hpp
    rcases t with rfl|⟨T,x,rfl⟩
    ·go_wp2_with(go_at_fn g;apply(c _ f).mono;rintro e n⟨rfl,d⟩);refine⟨⟨k+1,by omega,by go_num,λj h=>?_,f.trans (d.mono f.size)⟩,by simp[intOf];omega⟩
     by_cases hj:j=k
     ·subst hj;exact z
     exact q j (by omega)
    ·go_wp2_with(go_at_fn g;apply(c _ f).mono;rintro e n⟨rfl,d⟩);refine⟨⟨k+1,by omega,by go_num,λj h=>?_,f.trans (d.mono f.size)⟩,by simp[intOf];omega⟩
     by_cases hj:j=k
     ·subst hj;exact z
     ·exact q j (by omega)
   | true=>
    rw[hpp]at c;have e:=Xp p a.length k hlt q hpp;rw[y.o]at e;subst e;clear hpp
    rcases t with rfl|⟨T,x,rfl⟩
    ·go_wp2_with(go_at_fn g;apply(c _ f).mono;rintro e n⟨rfl,d⟩);go_ret2;exact⟨rfl,f.trans (d.mono f.size)⟩
    go_wp2_with(go_at_fn g;apply(c _ f).mono;rintro e n⟨rfl,d⟩);go_ret2;exact⟨rfl,f.trans (d.mono f.size)⟩
  have e:=Xq p a.length (λj h=>q j (by omega));rw[y.o]at e;subst e;go_wp2;go_ret2;exact⟨rfl,f⟩
def FVs(cs:List Nat)(a:List Y):Prop:=a.length=cs.length/\∀(j c:Nat) (u:Y),cs[j]?=some c->a[j]?=some u->FV c u
theorem FVs.at{cs:List Nat}{a:List Y}(h:FVs cs a)(j:Nat)(c:j<a.length):FV (cs.getD j 0) a[j]:=by
 have b:j<cs.length:=by have:=h.1;omega
 have:=h.2 j cs[j] a[j] (zn b) (zn c)
 rw[zT,zn b];exact this
theorem FVs.form{cs:List Nat}{a:List Y}(h:FVs cs a):∀u ∈ a,u=.nilIface\/∃T x,u=.iface T x:=by
 intro u c;obtain⟨j,b,rfl⟩:=QB c;exact(h.at j b).form
theorem cz{p:Nat->Bool}{n k:Nat}(h:zC p n=some k):k<n/\p k=true/\∀j,j<k->p j=false:=by
 unfold zC at h;rw[UQ]at h;exact⟨by simpa using h.2.1,h.1,λj a=>by simpa using h.2.2 j a⟩
theorem Kn{p:Nat->Bool}{n:Nat}(h:zC p n=none):∀j,j<n->p j=false:=by
 intro j a;unfold zC at h;rw[Y5]at h
 simpa using h j (vk.2 a)
theorem lG{cs:List Nat}{j:Nat}(h:j<cs.length):cs.getD j 0 ∈ cs:=by
 rw[zT,zn h];exact qm h
theorem Sb{cs:List Nat}{k:Nat}(h:zC (λj=>cs.getD j 0==1) cs.length=some k):k<cs.length/\cs.getD k 0=1/\Z.qZ cs=1:=by
 obtain⟨a,c,_⟩:=cz h;have b:cs.getD k 0=1:=by simpa using c
 exact⟨a,b,Z.Kt (b ▸ lG a)⟩
theorem dK{cs:List Nat}{c:Nat}(h:c ∈ cs):∃j,j<cs.length/\cs.getD j 0=c:=by
 obtain⟨j,a,rfl⟩:=QB h;exact⟨j,a,by rw[zT,zn a];rfl⟩
theorem Br{cs:List Nat}(h:zC (λj=>cs.getD j 0==1) cs.length=none):(cs.any λc=>c==1)=false:=by
 rw[VG];intro c a;obtain⟨j,b,rfl⟩:=dK a
 simpa using Kn h j b
theorem Sc{cs:List Nat}{k:Nat}(b:∀c ∈ cs,c<=2)(h:zC (λj=>cs.getD j 0==1) cs.length=none)(e:zC (λj=>cs.getD j 0 != 0) cs.length=some k):k<cs.length/\cs.getD k 0=2/\Z.qZ cs=2:=by
 obtain⟨a,f,_⟩:=cz e;have g:cs.getD k 0≠0:=by simpa using f
 have i:cs.getD k 0≠1:=by simpa using Kn h k a
 have l:=b _ (lG a);have d:cs.getD k 0=2:=by omega
 refine⟨a,d,?_⟩;unfold Z.qZ;rw[Br h,za (by decide),zb];rw[Q3];exact⟨2,d ▸ lG a,rfl⟩
theorem Si{cs:List Nat}(h:zC (λj=>cs.getD j 0==1) cs.length=none)(a:zC (λj=>cs.getD j 0 != 0) cs.length=none):Z.qZ cs=0:=by
 unfold Z.qZ;rw[Br h,za (by decide),za];rw[fK,VG];intro c b;obtain⟨j,d,rfl⟩:=dK b
 have:cs.getD j 0=0:=by simpa using Kn a j d
 rw[this];decide
theorem FVs.le{cs:List Nat}{a:List Y}(h:FVs cs a):∀c ∈ cs,c<=2:=by
 intro c b;obtain⟨j,e,rfl⟩:=dK b;have d:j<a.length:=by have:=h.1;omega
 exact(h.at j d).le
theorem Ua(cs:List Nat)(c:List Y)(ao:Option Addr)(cap:Nat)(w:J)(F:yj w)(L:c.length<=100000)(s:vV w ao c)(hF:FVs cs c):R8 109 #[TL ao c.length cap] w λe I=>∃u,e=.returned u/\FV (Z.qZ cs) u/\BQ w I:=by
 have y:=hF.1
 have t1:ul 161 #[] (λj=>c.getD j .nilIface) c.length (λj=>cs.getD j 0==1) w:=λW j r x=>by
  have:=TG _ _ W (F.below x) (hF.at j r)
  rw[show c[j]=c.getD j .nilIface by rw[zT,zn r];rfl]at this;exact this
 have t2:∀C,ul 63 #[] (λj=>c.getD j .nilIface) c.length (λj=>cs.getD j 0 != 0) C:=λC W j r x=>by
  have:=BB _ _ W (hF.at j r)
  rw[show c[j]=c.getD j .nilIface by rw[zT,zn r];rfl]at this;exact this
 have D:L9 161:=qo func161 (by kernel_rfl) rfl;have E:L9 63:=qo func63 (by kernel_rfl) rfl;have c1:=lD c ao cap _ _ w (by omega) D s hF.form t1;have c2:=λW x=>lD c ao cap _ _ W (by omega) E (bY s x) hF.form (t2 W);clear t1 t2 D E;have i:=λj r=>hF.at j r;have n:=hF.form;have m:=hF.le;rw[y]at c1 c2
 cases hx:zC (λj=>cs.getD j 0==1) cs.length with
 | some k=>
  obtain⟨G,B,v⟩:=Sb hx;rw[hx]at c1;simp only[yP,uC]at c1;have g:k<c.length:=by omega
  have f:=i k g;rw[B]at f;rw[v]
  rcases s with rfl|⟨b,o,rfl,hc⟩
  ·simp at g
  have q:=hc k g;obtain⟨u,t⟩:=Nm (c[k]);rw[t]at f q;have A:(k:Int)<(cs.length:Int):=by omega
  rcases f with⟨h,_⟩|⟨_,p,rfl⟩|⟨h,_⟩
  ·simp at h
  ·rw[y];clear c2 i n m hx hc hF t;go_enter func109,ntmps109;go_wp2_with(go_at_call 62;apply c1.mono;rintro e z⟨rfl,a⟩;have H:=zi a q);go_ret;exact⟨_,rfl,.inr (.inl ⟨rfl,p,rfl⟩),a⟩
  ·simp at h
 | none=>
  rw[hx]at c1;simp only[Xa,uB]at c1
  cases hy:zC (λj=>cs.getD j 0 != 0) cs.length with
  | some k=>
   obtain⟨G,B,v⟩:=Sc m hx hy;simp only[hy,yP,uC]at c2;have g:k<c.length:=by omega
   have f:=i k g;rw[B]at f;rw[v]
   rcases s with rfl|⟨b,o,rfl,hc⟩
   ·simp at g
   have q:=hc k g;obtain⟨u,t⟩:=Nm (c[k]);rw[t]at f q;have A:(k:Int)<(cs.length:Int):=by omega
   rcases f with⟨h,_⟩|⟨h,_⟩|⟨_,p,rfl⟩
   ·simp at h
   ·simp at h
   ·rw[y];clear i n m hx hy hc hF t;go_enter func109,ntmps109
    go_wp2_with(first
     |(go_at_call 62;apply(c2 z a).mono;rintro e K⟨rfl,l⟩;have H:=zi (a.trans (l.mono a.size)) q)
     |(go_at_call 62;apply c1.mono;rintro e z⟨rfl,a⟩))
    go_ret;exact⟨_,rfl,.inr (.inr ⟨rfl,p,rfl⟩),a.trans (l.mono a.size)⟩
  | none=>
   have v:=Si hx hy;simp only[hy,Xa,uB]at c2;rw[v,y];clear i n m hx hy hF s;go_enter func109,ntmps109
   go_wp2_with(first
    |(go_at_call 62;apply(c2 z a).mono;rintro e K⟨rfl,l⟩)
    |(go_at_call 62;apply c1.mono;rintro e z⟨rfl,a⟩))
   go_ret;exact⟨_,rfl,.inl ⟨rfl,rfl⟩,a.trans (l.mono a.size)⟩
def zw(w:J)(R:Nat)(s:BY)(p:Nat):Prop:=w.cell? (G8 R 0)=some (S9 s)/\w.cell? (G8 R 1)=some (R9 (p:Int))/\w.frozen? (G8 R 1)=false
theorem zw.drewN{w:J}{R:Nat}{s:BY}{p:Nat}(h:zw w R s p)(n:Nat):zw (w.drewN n) R s p:=by
 induction n with
 | zero=>exact h
 | succ n a=>exact a
theorem zw.lt{w:J}{R:Nat}{s:BY}{p:Nat}(h:zw w R s p):R<w.heap.size:=Qj _ _ h.1
theorem zw.move{w:J}{R:Nat}{s:BY}{p:Nat}(h:zw w R s p)(q:Nat):zw (w.setCell (G8 R 1) (R9 (q:Int))) R s q:=by
 obtain⟨b,a,d⟩:=h;refine⟨by rw[Ql _ _ _ _ _ _ (by omega)];exact b,?_,by rw[V8];exact d⟩;unfold World.cell? World.setCell at *;simp only[ax,qJ];simp only at a
 cases hb:w.heap[R]? with
 | none=>rw[hb]at a;simp at a
 | some o=>
  rw[hb]at a
  cases o with
  | cells c t f=>
   simp at a |-;have e:=(JI.1 a).1;simp[e]
  | _=>simp at a
theorem jH(w:J)(r:Option Nat):∀n,w.grownBy (w.drewN n) r
 | 0=>⟨rfl,rfl,rfl,ze _,λ_ _ _=>rfl⟩
 | n+1=>have h:=jH w r n;⟨h.os,h.tape,h.output,h.size,h.block⟩
theorem qg{a b c:J}{r:Option Nat}(h:a.grownBy b r)(k:b.grownBy c r):a.grownBy c r:=
 ⟨k.os.trans h.os,k.tape.trans h.tape,k.output.trans h.output,xD h.size k.size,λi e d=>(k.block i (xO e h.size) d).trans (h.block i e d)⟩
theorem jR(a:J)(b o:Nat)(u:Y):a.grownBy (a.setCell (G8 b o) u) (some b):=
 ⟨rfl,rfl,rfl,by simp[World.setCell],λi _ c=>qy a (G8 b o) u i (λe=>c (by simp[e]))⟩
theorem Ut(s:BY)(R p:Nat)(w:J)(a:zw w R s p)(i:p<=s.size):R8 149 #[RG R 0] w λe b=>e=.returned (.int .u8 ((Z.zk s.data.toList p:Nat):Int))/\∃n,b=w.drewN n:=by
 obtain⟨c,f,g⟩:=a
 by_cases hlt:p<s.size
 ·have e:Z.zk s.data.toList p=s[p].toNat:=by
   rw[Z.nJ _ _ (by rw[U.zF];exact hlt)];rfl
  rw[e];have d:((p:Int)==(s.size:Int))=false:=by rw[qY];omega
  have h:(p:Int)<(s.size:Int):=by omega
  go_enter func149,ntmps149;go_wp2_with fail
  go_quiet (fail)
  go_wp2_with fail
  go_quiet (fail)
  go_wp2;go_ret;exact⟨rfl,_,by first|rfl|rw[World.drewN_drewN]⟩
 have e:Z.zk s.data.toList p=0:=Z.nK _ _ (by rw[U.zF];exact hlt);rw[e];have d:((p:Int)==(s.size:Int))=true:=by rw[vC];omega
 go_enter func149,ntmps149;go_wp2_with fail
 go_quiet (fail)
 go_wp2;go_ret;exact⟨rfl,_,rfl⟩
theorem Y2(s:BY)(R p:Nat)(w:J)(a:zw w R s p):R8 101 #[RG R 0] w λe b=>e=.returned (.iface 148 (.agg #[R9 (p:Int)]))/\b=w:=by
 obtain⟨c,d,f⟩:=a;go_enter func101,ntmps101;go_wp2;go_ret;exact⟨rfl,rfl⟩
def U5(w:J)(R:Nat):Nat:=match w.cell? (G8 R 1) with
 | some (.int _ n)=>n.toNat
 | _=>0
theorem zw.at{w:J}{R:Nat}{s:BY}{p:Nat}(h:zw w R s p):U5 w R=p:=by
 unfold U5;rw[h.2.1];simp
theorem Vq(s:BY)(R p:Nat)(w:J)(o:zw w R s p)(z:p<=s.size)(F:s.size<=4000):R8 99 #[RG R 0] w λe t=>e=.returned (.tuple #[])/\w.grownBy t (some R)/\zw t R s (Z.skip s.data.toList p):=by
 go_enter func99,ntmps99;go_wp2
 go_loopw [2] (λ_ wr=>∃q:Nat,q<=s.size/\zw wr R s q/\w.grownBy wr (some R)/\Z.skip s.data.toList q=Z.skip s.data.toList p) (λ_ wr=>s.size-U5 wr R)
 case atStart=>exact⟨p,z,o,jH w _ 0,rfl⟩
 case round=>
  obtain⟨q,A,c,m,j⟩:=hrel;have d:=G7 j;have l:=G7 c.at;clear j;have f:=Ut s R q wr c A;have a:=Z.YY s.data.toList q;obtain⟨b,h⟩:=Nm (Z.zk s.data.toList q);rw[h]at f a;have r:b<256:=by rw[<- h];exact Z.XD _ _
  cases hbl:Z.blank b with
  | true=>
   rw[hbl,zb rfl]at a;have k:=G7 a
   have y:q<s.size:=by
    have:=Z.VU s.data.toList q (by rw[h];exact hbl)
    rwa [U.zF]at this
   have i:(b:Int)=32\/(b:Int)=9\/(b:Int)=10\/(b:Int)=13:=by
    unfold Z.blank at hbl;simp at hbl;omega
   clear hbl a h;have⟨g,u⟩:=D5 c m;obtain⟨C,D,E⟩:=c;clear o m
   rcases i with i|i|i|i
   all_goals
    go_wp2_with(go_at_call 149;apply f.mono;rintro e B⟨rfl,n,rfl⟩);go_roundw
    case rel=>exact⟨q+1,by omega,by have:=(g.drewN n).move (q+1);simpa using this,qg u (qg (jH wr _ n) (jR _ _ _ _)),by rw[<- k.o];exact d⟩
    case measure=>
     have x:=((g.drewN n).move (q+1)).at;rw[l.o,show ((q:Int)+1)=((q+1:Nat):Int) by omega,x];omega
  | false=>
   rw[hbl,za (by decide)]at a;rw[a]at d;have G:((b:Int)==32)=false:=by rw[qY];intro e;simp[Z.blank]at hbl;omega
   have H:((b:Int)==9)=false:=by rw[qY];intro e;simp[Z.blank]at hbl;omega
   have I:((b:Int)==10)=false:=by rw[qY];intro e;simp[Z.blank]at hbl;omega
   have K:((b:Int)==13)=false:=by rw[qY];intro e;simp[Z.blank]at hbl;omega
   clear hbl a h o;go_wp2_with(go_at_call 149;apply f.mono;rintro e B⟨rfl,n,rfl⟩);exact zG (v := .tuple #[]) (by simp[results,results99,go_sem]) rfl ⟨rfl,qg m (jH wr _ n),by rw[<- d.o];exact c.drewN n⟩
theorem Su(b:Nat)(w:J)(g:b<256):R8 238 #[.int .u8 (b:Int)] w λe f=>e=.returned (.tuple #[.int .i32 (if U.zP b<0 then 0 else U.zP b),.bool (decide (0<=U.zP b))])/\f=w:=by
 have c:(0<=b/\b<=47)\/(48<=b/\b<=57)\/(58<=b/\b<=64)\/(65<=b/\b<=70)\/(71<=b/\b<=96)\/(97<=b/\b<=102)\/(103<=b/\b<=255):=by omega
 rcases c with c|c|c|c|c|c|c
 ·have a:U.zP (b:Int) = -1:=by unfold U.zP;rw[N8,N8,N8]
  rw[a];have d1:decide ((48:Int)<=(b:Int))=false:=P6;have d2:decide ((b:Int)<=57)=true:=P5;have d3:decide ((97:Int)<=(b:Int))=false:=P6;have d4:decide ((b:Int)<=102)=true:=P5;have d5:decide ((65:Int)<=(b:Int))=false:=P6;have d6:decide ((b:Int)<=70)=true:=P5;have b0:(0:Int)<=(b:Int):=by omega
  have d:(b:Int)<=47:=by omega
  clear a c;go_enter func238,ntmps238;go_wp2;go_ret2;exact⟨by first|rfl|(congr),rfl⟩
 ·have a:U.zP (b:Int)=(b:Int)-48:=by unfold U.zP;rw[N9]
  rw[a];have d1:decide ((48:Int)<=(b:Int))=true:=P5;have d2:decide ((b:Int)<=57)=true:=P5;have d3:decide ((97:Int)<=(b:Int))=false:=P6;have d4:decide ((b:Int)<=102)=true:=P5;have d5:decide ((65:Int)<=(b:Int))=false:=P6;have d6:decide ((b:Int)<=70)=true:=P5;have b0:(48:Int)<=(b:Int):=by omega
  have d:(b:Int)<=57:=by omega
  rw[za (show ¬((b:Int)-48<0) by omega),zB (show 0<=(b:Int)-48 by omega)];clear a c;go_enter func238,ntmps238;go_wp2;go_ret2;exact⟨by first|rfl|(congr),rfl⟩
 ·have a:U.zP (b:Int) = -1:=by unfold U.zP;rw[N8,N8,N8]
  rw[a];have d1:decide ((48:Int)<=(b:Int))=true:=P5;have d2:decide ((b:Int)<=57)=false:=P6;have d3:decide ((97:Int)<=(b:Int))=false:=P6;have d4:decide ((b:Int)<=102)=true:=P5;have d5:decide ((65:Int)<=(b:Int))=false:=P6;have d6:decide ((b:Int)<=70)=true:=P5;have b0:(58:Int)<=(b:Int):=by omega
  have d:(b:Int)<=64:=by omega
  clear a c;go_enter func238,ntmps238;go_wp2;go_ret2;exact⟨by first|rfl|(congr),rfl⟩
 ·have a:U.zP (b:Int)=(b:Int)-65+10:=by unfold U.zP;rw[N8,N8,N9]
  rw[a];have d1:decide ((48:Int)<=(b:Int))=true:=P5;have d2:decide ((b:Int)<=57)=false:=P6;have d3:decide ((97:Int)<=(b:Int))=false:=P6;have d4:decide ((b:Int)<=102)=true:=P5;have d5:decide ((65:Int)<=(b:Int))=true:=P5;have d6:decide ((b:Int)<=70)=true:=P5;have b0:(65:Int)<=(b:Int):=by omega
  have d:(b:Int)<=70:=by omega
  rw[za (show ¬((b:Int)-65+10<0) by omega),zB (show 0<=(b:Int)-65+10 by omega)];clear a c;go_enter func238,ntmps238;go_wp2;go_ret2;exact⟨by first|rfl|(congr),rfl⟩
 ·have a:U.zP (b:Int) = -1:=by unfold U.zP;rw[N8,N8,N8]
  rw[a];have d1:decide ((48:Int)<=(b:Int))=true:=P5;have d2:decide ((b:Int)<=57)=false:=P6;have d3:decide ((97:Int)<=(b:Int))=false:=P6;have d4:decide ((b:Int)<=102)=true:=P5;have d5:decide ((65:Int)<=(b:Int))=true:=P5;have d6:decide ((b:Int)<=70)=false:=P6;have b0:(71:Int)<=(b:Int):=by omega
  have d:(b:Int)<=96:=by omega
  clear a c;go_enter func238,ntmps238;go_wp2;go_ret2;exact⟨by first|rfl|(congr),rfl⟩
 ·have a:U.zP (b:Int)=(b:Int)-97+10:=by unfold U.zP;rw[N8,N9]
  rw[a];have d1:decide ((48:Int)<=(b:Int))=true:=P5;have d2:decide ((b:Int)<=57)=false:=P6;have d3:decide ((97:Int)<=(b:Int))=true:=P5;have d4:decide ((b:Int)<=102)=true:=P5;have d5:decide ((65:Int)<=(b:Int))=true:=P5;have d6:decide ((b:Int)<=70)=false:=P6;have b0:(97:Int)<=(b:Int):=by omega
  have d:(b:Int)<=102:=by omega
  rw[za (show ¬((b:Int)-97+10<0) by omega),zB (show 0<=(b:Int)-97+10 by omega)];clear a c;go_enter func238,ntmps238;go_wp2;go_ret2;exact⟨by first|rfl|(congr),rfl⟩
 have a:U.zP (b:Int) = -1:=by unfold U.zP;rw[N8,N8,N8]
 rw[a];have d1:decide ((48:Int)<=(b:Int))=true:=P5;have d2:decide ((b:Int)<=57)=false:=P6;have d3:decide ((97:Int)<=(b:Int))=true:=P5;have d4:decide ((b:Int)<=102)=false:=P6;have d5:decide ((65:Int)<=(b:Int))=true:=P5;have d6:decide ((b:Int)<=70)=false:=P6;have b0:(103:Int)<=(b:Int):=by omega
 have d:(b:Int)<=255:=by omega
 clear a c;go_enter func238,ntmps238;go_wp2;go_ret2;exact⟨by first|rfl|(congr),rfl⟩
theorem Gz(s:BY)(R p a d:Nat)(w:J)(m:zw w R s p)(v:p<=s.size)(C:s.size<=4000)(y:0<a)(u:a<256):R8 229 #[RG R 0,.int .u8 (a:Int),.int .u8 (d:Int)] w λe k=>
   (Z.within s.data.toList a d p=true->e=.returned .nilIface/\w.grownBy k (some R)/\zw k R s (p+1)/\p<s.size) /\
   (Z.within s.data.toList a d p=false->e=.returned (.iface 148 (.agg #[R9 (p:Int)]))/\w.grownBy k (some R)/\zw k R s p):=by
 have c:=Ut s R p w m v;obtain⟨b,f⟩:=Nm (Z.zk s.data.toList p);have o:b<256:=by rw[<- f];exact Z.XD _ _
 have i:Z.within s.data.toList a d p=decide (a<=b/\b<=d):=by unfold Z.within;rw[f]
 rw[f]at c
 have g:0<b->p<s.size:=λh=>by
  have:=Z.qH s.data.toList p (by rw[f];omega)
  rwa [U.zF]at this
 have⟨l,j,t⟩:=M4 i m g;obtain⟨z,A,B⟩:=m;clear f i g;have q:=λn=>Y2 s R p (w.drewN n) (j.drewN n)
 by_cases c1:b<a
 ·have d1:decide ((b:Int)<(a:Int))=true:=P5;go_enter func229,ntmps229
  go_wp2_with(first
   |(go_at_call 149;apply c.mono;rintro e r⟨rfl,n,rfl⟩)
   |(go_at_call 101;apply(q n).mono;rintro e x⟨rfl,rfl⟩))
  go_ret;refine⟨λh=>?_,λ_=>⟨rfl,jH w _ n,j.drewN n⟩⟩;rw[l.o]at h;simp at h;omega
 have d1:decide ((b:Int)<(a:Int))=false:=P6
 by_cases c2:d<b
 ·have d2:decide ((d:Int)<(b:Int))=true:=P5;go_enter func229,ntmps229
  go_wp2_with(first
   |(go_at_call 149;apply c.mono;rintro e r⟨rfl,n,rfl⟩)
   |(go_at_call 101;apply(q n).mono;rintro e x⟨rfl,rfl⟩))
  go_ret;refine⟨λh=>?_,λ_=>⟨rfl,jH w _ n,j.drewN n⟩⟩;rw[l.o]at h;simp at h;omega
 have d2:decide ((d:Int)<(b:Int))=false:=P6;go_enter func229,ntmps229;go_wp2_with(go_at_call 149;apply c.mono;rintro e r⟨rfl,n,rfl⟩);go_ret;refine⟨λ_=>⟨rfl,qg (jH w _ n) (jR _ _ _ _),?_,t (by omega)⟩,λh=>?_⟩
 ·have:=(j.drewN n).move (p+1)
  simpa using this
 rw[l.o]at h;simp at h;omega
def J2(w:J)(R:Nat)(s:BY)(r:Z.Res Unit)(e:Ending)(w':J):Prop:=match r with
 | .ok _ q=>e=.returned .nilIface/\w.grownBy w' (some R)/\zw w' R s q/\q<=s.size
 | .err _ q=>e=.returned (.iface 148 (.agg #[R9 (q:Int)]))/\w.grownBy w' (some R)/\zw w' R s q/\q<=s.size
theorem J2.of{w w':J}{R:Nat}{s:BY}{r a:Z.Res Unit}{e:Ending}(h:J2 w R s r e w')(b:a=r):J2 w R s a e w':=b ▸ h
theorem zfd(s t:BY)(R p:Nat)(w:J)(B:zw w R s p)(P:p<=s.size)(Q:s.size<=4000)(S:t.size<=100)(D:∀k,k<t.size->(t.data.toList.getD k 0).toNat≠0):R8 153 #[RG R 0,S9 t] w λe K=>J2 w R s (Z.qG s.data.toList (t.data.toList.map UInt8.toNat) p) e K:=by
 have j:=G7 B;clear B;go_enter func153,ntmps153;go_wp2
 go_loopw [8] (λv wr=>∃k:Nat,k<=t.size/\v=R9 k/\p+k<=s.size/\zw wr R s (p+k)/\w.grownBy wr (some R)/\Z.qG s.data.toList (t.data.toList.map UInt8.toNat) p=Z.qG s.data.toList ((t.data.toList.map UInt8.toNat).drop k) (p+k)) (λv _=>t.size-(intOf v).toNat)
 case atStart=>exact⟨0,zD _,rfl,by omega,j,jH w _ 0,by simp⟩
 case round=>
  obtain⟨k,O,rfl,g,h,z,C⟩:=hrel;have⟨q,o,i⟩:=M4 C z h;clear C z j
  by_cases hlt:k<t.size
  ·have A:(k:Int)<(t.size:Int):=by omega
   have f:=λn=>Ut s R (p+k) (wr.drewN n) (i.drewN n) g;obtain⟨b,m⟩:=Nm (Z.zk s.data.toList (p+k));simp only[m]at f;have x:b<256:=by rw[<- m];exact Z.XD _ _
   obtain⟨c,y⟩:=Nm (t[k]);have r:=D k hlt;rw[U.getD_at t k hlt,y]at r
   have a:Z.qG s.data.toList ((t.data.toList.map UInt8.toNat).drop k) (p+k)=if b=c.toNat then Z.qG s.data.toList ((t.data.toList.map UInt8.toNat).drop (k+1)) (p+k+1) else .err 2 (p+k):=by
    have u:k<(t.data.toList.map UInt8.toNat).length:=by rw[qf,U.zF];exact hlt
    rw[jD u,Z.qG,m]
    have:(t.data.toList.map UInt8.toNat)[k]=c.toNat:=by rw[VI,<- y];rfl
    rw[this]
   have⟨l,E⟩:=D5 a m;clear a m D;obtain⟨L,M,N⟩:=h
   by_cases hbc:b=c.toNat
   ·have d:((b:Int) != (c.toNat:Int))=false:=by simp;omega
    have H:p+k<s.size:=by
     have:=Z.qH s.data.toList (p+k) (by rw[E.o];omega)
     rwa [U.zF]at this
    go_wp2_with fail
    go_quiet ((go_at_call 149;exact Calls.quiet_of (f _)))
    go_wp2
    have G:zw ((wr.drewN nq).setCell (G8 R 1) (R9 ((p:Int)+(k:Int)+1))) R s (p+(k+1)):=by
     have:=(i.drewN nq).move (p+(k+1))
     rw[show ((p:Int)+(k:Int)+1)=((p+(k+1):Nat):Int) by omega];exact this
    exact⟨⟨k+1,by omega,by go_num,by omega,G,qg o (qg (jH wr _ nq) (jR _ _ _ _)),by rw[q.o,l.o,zb hbc];rfl⟩,by simp[intOf];omega⟩
   have d:((b:Int) != (c.toNat:Int))=true:=by simp;omega
   have I:=λn=>Y2 s R (p+k) (wr.drewN n) (i.drewN n);go_wp2_with fail
   go_quiet ((go_at_call 149;exact Calls.quiet_of (f _)))
   go_wp2_with(go_at_call 101;apply(I nq).mono;rintro e T⟨rfl,rfl⟩);go_ret;refine J2.of ?_ (q.trans (l.trans (za hbc)));exact⟨rfl,qg o (jH wr _ nq),i.drewN nq,g⟩
  have e:Z.qG s.data.toList ((t.data.toList.map UInt8.toNat).drop k) (p+k)=.ok () (p+k):=by
   rw[Yw (by rw[qf,U.zF];omega),Z.qG]
  have F:=G7 e;clear e h;go_wp2;go_ret;refine J2.of ?_ (q.trans F);exact⟨rfl,o,i,g⟩
namespace Z
open U
def jy(l:List UInt8)(p:Nat):Nat->Int
 | 0=>0
 | k+1=>jy l p k*16+zP (zk l (p+k))
def okF(l:List UInt8)(p k:Nat):Prop:=(∀j,j<k->0<=zP (zk l (p+j)))/\(2<=k->¬(zP (zk l p)=13/\8<=zP (zk l (p+1))))
theorem zbo(l:List UInt8)(p k:Nat)(h:okF l p k):0<=jy l p k/\(k=0->jy l p k=0)/\(k=1->jy l p k=zP (zk l p)/\jy l p k<=15)/\(k=2->jy l p k<=255)/\(k=3->jy l p k<=4095)/\(k=4->jy l p k<=65535/\¬(55296<=jy l p k/\jy l p k<=57343)):=by
 obtain⟨a,d⟩:=h;have e:=Vf (zk l p);have f:=Vf (zk l (p+1));have i:=Vf (zk l (p+2));have n:=Vf (zk l (p+3))
 match k with
 | 0=>simp[jy]
 | 1=>
  have b:=a 0 (by omega);simp only[jy,Qh]at *;omega
 | 2=>
  have b:=a 0 (by omega);have c:=a 1 (by omega);simp only[jy,Qh]at *;omega
 | 3=>
  have b:=a 0 (by omega);have c:=a 1 (by omega);have o:=a 2 (by omega);simp only[jy,Qh]at *;omega
 | 4=>
  have b:=a 0 (by omega);have c:=a 1 (by omega);have o:=a 2 (by omega);have r:=a 3 (by omega);have s:=d (by omega);simp only[jy,Qh]at *;omega
 | k+5=>
  refine⟨?_,by omega,by omega,by omega,by omega,by omega⟩;clear d e f i n;generalize k+5=m at *
  induction m with
  | zero=>simp[jy]
  | succ m q=>
   have g:=a m (by omega)
   have:=q (λj t=>a j (by omega))
   simp only[jy];omega
theorem Bg(l:List UInt8)(p k:Nat)(h:okF l p k)(i:k<4)(f:zP (zk l (p+k))<0\/(k=1/\zP (zk l p)=13/\8<=zP (zk l (p+1)))):ZV l p=.err 2 (p+k):=by
 obtain⟨a,c⟩:=h;unfold ZV;simp only
 match k with
 | 0=>rw[zb (by simpa using f)];rfl
 | 1=>
  have b:=a 0 (by omega);simp only[Qh]at b;rw[N8,N9]
 | 2=>
  have b:=a 0 (by omega);have d:=a 1 (by omega);have e:=c (by omega);simp only[Qh]at b;rw[N8,N8,N9]
 | 3=>
  have b:=a 0 (by omega);have d:=a 1 (by omega);have g:=a 2 (by omega);have e:=c (by omega);simp only[Qh]at b;rw[N8,N8,N8,N9]
theorem Rt(l:List UInt8)(p:Nat)(h:okF l p 4):ZV l p=.ok (enc (jy l p 4)) (p+4):=by
 obtain⟨a,c⟩:=h;have b:=a 0 (by omega);have d:=a 1 (by omega);have e:=a 2 (by omega);have f:=a 3 (by omega);have g:=c (by omega);simp only[Qh]at b;unfold ZV;simp only;rw[N8,N8,N8,N8]
 have:jy l p 4=((zP (zk l p)*16+zP (zk l (p+1)))*16+zP (zk l (p+2)))*16+zP (zk l (p+3)):=by
  simp only[jy,Qh];omega
 rw[this]
theorem DN(l:List UInt8)(p k:Nat)(h:okF l p k)(a:0<=zP (zk l (p+k)))(d:k=1->¬(zP (zk l p)=13/\8<=zP (zk l (p+1)))):okF l p (k+1):=by
 obtain⟨b,c⟩:=h;refine⟨λj f=>?_,λh=>?_⟩
 ·by_cases e:j=k
  ·subst e;exact a
  exact b j (by omega)
 by_cases e:k=1
 ·exact d e
 exact c (by omega)
end Z
def ZK(w:J)(R:Nat)(s:BY)(r:Z.Res BY)(e:Ending)(w':J):Prop:=match r with
 | .ok u q=>(∃N:Int,e=.returned (.tuple #[.int .i32 N,.nilIface])/\u=U.enc N/\0<=N/\N<=65535/\¬(55296<=N/\N<=57343))/\w.grownBy w' (some R)/\zw w' R s q/\q<=s.size
 | .err _ q=>(∃N:Int,e=.returned (.tuple #[.int .i32 N,.iface 148 (.agg #[R9 (q:Int)])])/\0<=N/\N<=65535)/\w.grownBy w' (some R)/\zw w' R s q/\q<=s.size
theorem ZK.of{w w':J}{R:Nat}{s:BY}{r a:Z.Res BY}{e:Ending}(h:ZK w R s r e w')(b:a=r):ZK w R s a e w':=b ▸ h
theorem Rn(s:BY)(R p:Nat)(w:J)(V:zw w R s p)(hp:p<=s.size)(hs:s.size<=4000):R8 227 #[RG R 0] w λe w'=>ZK w R s (Z.ZV s.data.toList p) e w':=by
 have C:=G7 V;clear V;go_enter func227,ntmps227;go_wp2
 go_loopw [4,8] (λnv P wr=>∃k:Nat,k<=4/\P=R9 k/\nv=.int .i32 (Z.jy s.data.toList p k)/\Z.okF s.data.toList p k/\p+k<=s.size/\zw wr R s (p+k)/\w.grownBy wr (some R)) (λ_ P _=>4-(intOf P).toNat)
 case atStart=>exact⟨0,by omega,rfl,rfl,⟨λj h=>by omega,λh=>by omega⟩,by omega,C,jH w _ 0⟩
 case round=>
  obtain⟨k,hk,rfl,rfl,z,v,m,S⟩:=hrel;have d:=Z.zbo s.data.toList p k z;obtain⟨N,y⟩:=Nm (Z.jy s.data.toList p k);have i:=G7 (show Z.jy s.data.toList p (k+1)=Z.jy s.data.toList p k*16+U.zP (Z.zk s.data.toList (p+k)) from rfl)
  rw[y]at d i |-;have⟨t,B,x⟩:=M4 z S m;clear z S C
  by_cases hlt:k<4
  ·have l:=Ut s R (p+k) wr x v;obtain⟨b,o⟩:=Nm (Z.zk s.data.toList (p+k));rw[o]at l i;have E:b<256:=by rw[<- o];exact Z.XD _ _
   have c:=λW=>Su b W E;have O:=Z.Vf b;obtain⟨h,q⟩:=Nm (U.zP (b:Int));rw[q]at i O;simp only[q]at c;have H:=λn=>Y2 s R (p+k) (wr.drewN n) (x.drewN n);have D:0<=N/\N<=4095:=by omega
   obtain⟨a4,a5⟩:=D
   by_cases hneg:h<0
   ·have a:=Z.Bg s.data.toList p k t hlt (.inl (by rw[o,q];exact hneg));rw[zb hneg,P6]at c;have r:=G7 a;clear a o q y d m
    go_wp2_with(first
     |(go_at_call 149;apply l.mono;rintro e I⟨rfl,n,rfl⟩)
     |(go_at_call 238;apply(c _).mono;rintro e K⟨rfl,rfl⟩)
     |(go_at_call 101;apply(H n).mono;rintro e L⟨rfl,rfl⟩))
    go_ret2;refine ZK.of ?_ r;exact⟨⟨0,rfl,by omega,by omega⟩,qg B (jH wr _ n),x.drewN n,v⟩
   rw[za hneg,P5]at c
   have T:p+k<s.size:=by
    have:=Z.lS s.data.toList (p+k) (by rw[o,q];omega)
    rwa [U.zF]at this
   have F:0<=h:=by omega
   by_cases hk1:k=1
   ·subst hk1;have g:U.zP (Z.zk s.data.toList p)=N:=(d.2.2.1 rfl).1.symm
    by_cases hbd:N=13/\8<=h
    ·have a:=Z.Bg s.data.toList p 1 t hlt (.inr ⟨rfl,by rw[g];exact hbd.1,by rw[o,q];exact hbd.2⟩);have r:=G7 a;obtain⟨A,h8⟩:=hbd;have d8:decide (8<=h)=true:=zB h8;clear a o q y d m g
     go_wp2_with(first
      |(go_at_call 149;apply l.mono;rintro e I⟨rfl,n,rfl⟩)
      |(go_at_call 238;apply(c _).mono;rintro e K⟨rfl,rfl⟩)
      |(go_at_call 101;apply(H n).mono;rintro e L⟨rfl,rfl⟩))
     go_ret2;refine ZK.of ?_ r;exact⟨⟨0,rfl,by omega,by omega⟩,qg B (jH wr _ n),x.drewN n,v⟩
    have f:=G7 (Z.DN s.data.toList p 1 t (by rw[o,q];exact F) (λ_=>by rw[g,o,q];exact hbd));obtain⟨h1,h2,h3⟩:=m;clear o q y d g
    by_cases A:N=13
    ·have d8:decide (8<=h)=false:=P6;clear hbd
     go_wp2_with(first
      |(go_at_call 149;apply l.mono;rintro e I⟨rfl,n,rfl⟩)
      |(go_at_call 238;apply(c _).mono;rintro e K⟨rfl,rfl⟩)
      |(go_at_call 101;apply(H n).mono;rintro e L⟨rfl,rfl⟩))
     have G:zw ((wr.drewN n).setCell (G8 R 1) (R9 ((p:Int)+1+1))) R s (p+(1+1)):=by
      have:=(x.drewN n).move (p+(1+1))
      rw[show ((p:Int)+1+1)=((p+(1+1):Nat):Int) by omega];exact this
     exact⟨⟨1+1,by omega,by go_num,by rw[i.o,A];rfl,f,by omega,G,qg B (qg (jH wr _ n) (jR _ _ _ _))⟩,by simp[intOf]⟩
    have d13:(N==13)=false:=by rw[qY];exact A
    clear hbd
    go_wp2_with(first
     |(go_at_call 149;apply l.mono;rintro e I⟨rfl,n,rfl⟩)
     |(go_at_call 238;apply(c _).mono;rintro e K⟨rfl,rfl⟩)
     |(go_at_call 101;apply(H n).mono;rintro e L⟨rfl,rfl⟩))
    have G:zw ((wr.drewN n).setCell (G8 R 1) (R9 ((p:Int)+1+1))) R s (p+(1+1)):=by
     have:=(x.drewN n).move (p+(1+1))
     rw[show ((p:Int)+1+1)=((p+(1+1):Nat):Int) by omega];exact this
    exact⟨⟨1+1,by omega,by go_num,by rw[i.o],f,by omega,G,qg B (qg (jH wr _ n) (jR _ _ _ _))⟩,by simp[intOf]⟩
   have f:=G7 (Z.DN s.data.toList p k t (by rw[o,q];exact F) (λe=>absurd e hk1));have X:((k:Int)==1)=false:=by rw[qY];omega
   obtain⟨h1,h2,h3⟩:=m;clear o q y d
   go_wp2_with(first
    |(go_at_call 149;apply l.mono;rintro e I⟨rfl,n,rfl⟩)
    |(go_at_call 238;apply(c _).mono;rintro e K⟨rfl,rfl⟩)
    |(go_at_call 101;apply(H n).mono;rintro e L⟨rfl,rfl⟩))
   have G:zw ((wr.drewN n).setCell (G8 R 1) (R9 ((p:Int)+(k:Int)+1))) R s (p+(k+1)):=by
    have:=(x.drewN n).move (p+(k+1))
    rw[show ((p:Int)+(k:Int)+1)=((p+(k+1):Nat):Int) by omega];exact this
   exact⟨⟨k+1,by omega,by go_num,by rw[i.o],f,by omega,G,qg B (qg (jH wr _ n) (jR _ _ _ _))⟩,by simp[intOf];omega⟩
  obtain rfl:k=4:=by omega
  have u:=Z.Rt s.data.toList p t;rw[y]at u;have M:=G7 u;have Q:=d.2.2.2.2.2 rfl;clear u y m;go_wp2;go_ret2;refine ZK.of ?_ M;exact⟨⟨N,rfl,rfl,d.1,Q.1,Q.2⟩,B,x,v⟩
theorem iY(n:Int)(h:n<128):U.one n=U.enc n:=by unfold U.enc;rw[zb h]
theorem AR(s:BY)(R p:Nat)(w:J)(C:zw w R s p)(E:p<=s.size)(F:s.size<=4000):R8 214 #[RG R 0] w λe H=>ZK w R s (Z.Zy s.data.toList p) e H:=by
 have d:=Ut s R p w C E;have c:Z.Zy s.data.toList p=Z.Zy s.data.toList p:=rfl
 conv at c=>rhs;unfold Z.Zy
 simp only at c;obtain⟨b,z⟩:=Nm (Z.zk s.data.toList p);rw[z]at d c;have D:b<256:=by rw[<- z];exact Z.XD _ _
 have m:b≠0->p<s.size:=λh=>by
  have:=Z.qH s.data.toList p (by rw[z];exact h)
  rwa [U.zF]at this
 have⟨f,A⟩:=D5 m C;have v:=λn=>(A.drewN n).move (p+1);obtain⟨K,L,M⟩:=C;clear z m
 have l:∀n,zw ((w.drewN n).setCell (G8 R 1) (R9 ((p:Int)+1))) R s (p+1):=λn=>by
  have:=v n
  rw[show ((p:Int)+1)=((p+1:Nat):Int) by omega];exact this
 have i:=G7 l;clear v l
 by_cases c1:b=34\/b=92\/b=47
 ·rw[zb c1]at c;have g:=G7 c;have o:=f (by omega);have k:(b:Int)=34\/(b:Int)=92\/(b:Int)=47:=by omega
  clear c c1
  rcases k with k|k|k
  all_goals
   go_enter func214,ntmps214;go_wp2_with(go_at_call 149;apply d.mono;rintro e y⟨rfl,n,rfl⟩);go_ret2;refine ZK.of ?_ g;exact⟨⟨b,by rw[k];rfl,iY _ (by omega),by omega,by omega,by omega⟩,qg (jH w _ n) (jR _ _ _ _),i n,by omega⟩
 rw[za c1]at c;have O:((b:Int)==34)=false:=by rw[qY];omega
 have P:((b:Int)==92)=false:=by rw[qY];omega
 have Q:((b:Int)==47)=false:=by rw[qY];omega
 by_cases c4:b=110
 ·rw[zb c4]at c;have g:=G7 c;have o:=f (by omega);have k:(b:Int)=110:=by omega
  clear c c1 c4;go_enter func214,ntmps214;go_wp2_with(go_at_call 149;apply d.mono;rintro e y⟨rfl,n,rfl⟩);go_ret2;refine ZK.of ?_ g;exact⟨⟨10,rfl,iY _ (by omega),by omega,by omega,by omega⟩,qg (jH w _ n) (jR _ _ _ _),i n,by omega⟩
 rw[za c4]at c;have S:((b:Int)==110)=false:=by rw[qY];omega
 by_cases c5:b=116
 ·rw[zb c5]at c;have g:=G7 c;have o:=f (by omega);have k:(b:Int)=116:=by omega
  clear c c1 c5;go_enter func214,ntmps214;go_wp2_with(go_at_call 149;apply d.mono;rintro e y⟨rfl,n,rfl⟩);go_ret2;refine ZK.of ?_ g;exact⟨⟨9,rfl,iY _ (by omega),by omega,by omega,by omega⟩,qg (jH w _ n) (jR _ _ _ _),i n,by omega⟩
 rw[za c5]at c;have T:((b:Int)==116)=false:=by rw[qY];omega
 by_cases c6:b=117
 ·rw[zb c6]at c;have g:=G7 c;have o:=f (by omega);have k:(b:Int)=117:=by omega
  have j:=λn=>Rn s R (p+1) ((w.drewN n).setCell (G8 R 1) (R9 ((p:Int)+1))) (i n) (by omega) F;have t:=λn=>qg (jH w (some R) n) (jR (w.drewN n) R 1 (R9 ((p:Int)+1)));have r:=G7 t;clear c c1 c4 c5 c6 t
  cases hf:Z.ZV s.data.toList (p+1) with
  | ok u q=>
   rw[hf]at g;simp only[hf]at j;clear hf;go_enter func214,ntmps214
   go_wp2_with(first
    |(go_at_call 149;apply d.mono;rintro e y⟨rfl,n,rfl⟩)
    |(go_at_call 227;apply(j n).mono;rintro e I⟨⟨N,rfl,B⟩,a⟩))
   go_ret2;refine ZK.of ?_ g;exact⟨⟨N,rfl,B⟩,qg (r n) a.1,a.2⟩
  | err x q=>
   rw[hf]at g;simp only[hf]at j;clear hf;go_enter func214,ntmps214
   go_wp2_with(first
    |(go_at_call 149;apply d.mono;rintro e y⟨rfl,n,rfl⟩)
    |(go_at_call 227;apply(j n).mono;rintro e I⟨⟨N,rfl,B⟩,a⟩))
   go_ret2;refine ZK.of ?_ g;exact⟨⟨N,rfl,B⟩,qg (r n) a.1,a.2⟩
 rw[za c6]at c;have g:=G7 c;have V:((b:Int)==117)=false:=by rw[qY];omega
 have G:=λn=>Y2 s R p (w.drewN n) (A.drewN n);clear c c1 c4 c5 c6;go_enter func214,ntmps214
 go_wp2_with(first
  |(go_at_call 149;apply d.mono;rintro e y⟨rfl,n,rfl⟩)
  |(go_at_call 101;apply(G n).mono;rintro e W⟨rfl,rfl⟩))
 go_ret2;refine ZK.of ?_ g;exact⟨⟨0,rfl,by omega,by omega⟩,jH w _ n,A.drewN n,E⟩
def Z6:List Y:=[.int .u8 194,.int .u8 223,R9 1,.int .u8 128,.int .u8 191,.int .u8 224,.int .u8 224,R9 2,.int .u8 160,.int .u8 191,.int .u8 225,.int .u8 236,R9 2,.int .u8 128,.int .u8 191,.int .u8 237,.int .u8 237,R9 2,.int .u8 128,.int .u8 159,.int .u8 238,.int .u8 239,R9 2,.int .u8 128,.int .u8 191,.int .u8 240,.int .u8 240,R9 3,.int .u8 144,.int .u8 191,.int .u8 241,.int .u8 243,R9 3,.int .u8 128,.int .u8 191,.int .u8 244,.int .u8 244,R9 3,.int .u8 128,.int .u8 143]
theorem zdx(W:J):(Instr.index 374 (.agg Z6.toArray) (R9 0)).run prog W=.ok (.agg #[.int .u8 194,.int .u8 223,R9 1,.int .u8 128,.int .u8 191]) W:=by kernel_rfl
theorem zdy(W:J):(Instr.index 374 (.agg Z6.toArray) (R9 1)).run prog W=.ok (.agg #[.int .u8 224,.int .u8 224,R9 2,.int .u8 160,.int .u8 191]) W:=by kernel_rfl
theorem zdz(W:J):(Instr.index 374 (.agg Z6.toArray) (R9 2)).run prog W=.ok (.agg #[.int .u8 225,.int .u8 236,R9 2,.int .u8 128,.int .u8 191]) W:=by kernel_rfl
theorem zdA(W:J):(Instr.index 374 (.agg Z6.toArray) (R9 3)).run prog W=.ok (.agg #[.int .u8 237,.int .u8 237,R9 2,.int .u8 128,.int .u8 159]) W:=by kernel_rfl
theorem zdB(W:J):(Instr.index 374 (.agg Z6.toArray) (R9 4)).run prog W=.ok (.agg #[.int .u8 238,.int .u8 239,R9 2,.int .u8 128,.int .u8 191]) W:=by kernel_rfl
theorem zdC(W:J):(Instr.index 374 (.agg Z6.toArray) (R9 5)).run prog W=.ok (.agg #[.int .u8 240,.int .u8 240,R9 3,.int .u8 144,.int .u8 191]) W:=by kernel_rfl
theorem zdD(W:J):(Instr.index 374 (.agg Z6.toArray) (R9 6)).run prog W=.ok (.agg #[.int .u8 241,.int .u8 243,R9 3,.int .u8 128,.int .u8 191]) W:=by kernel_rfl
theorem zdE(W:J):(Instr.index 374 (.agg Z6.toArray) (R9 7)).run prog W=.ok (.agg #[.int .u8 244,.int .u8 244,R9 3,.int .u8 128,.int .u8 143]) W:=by kernel_rfl
theorem zw.same{w w':J}{R:Nat}{s:BY}{p:Nat}(h:zw w R s p)(a:w'.heap[R]?=w.heap[R]?):zw w' R s p:=by
 obtain⟨b,c,d⟩:=h;refine⟨?_,?_,?_⟩
 ·rw[<- b];simp only[World.cell?,a]
 ·rw[<- c];simp only[World.cell?,a]
 rw[<- d];simp only[World.frozen?,a]
theorem zw.alloc{w:J}{R:Nat}{s:BY}{p:Nat}(h:zw w R s p)(O:Obj):zw (w.alloc O) R s p:=h.same ((yG w O none).block R h.lt (by simp))
theorem zdw(W:J)(k:Nat)(a:k<8):(Instr.index 374 (.agg Z6.toArray) (R9 (k:Int))).run prog W=.ok (.agg #[.int .u8 (Z.ZC k:Int),.int .u8 (Z.Z7 k:Int),R9 (Z.XF k:Int),.int .u8 (Z.YV k:Int),.int .u8 (Z.JA k:Int)]) W:=by
 rcases Z.lt8 a with rfl|rfl|rfl|rfl|rfl|rfl|rfl|rfl
 ·exact zdx W
 ·exact zdy W
 ·exact zdz W
 ·exact zdA W
 ·exact zdB W
 ·exact zdC W
 ·exact zdD W
 exact zdE W
theorem zdG:(prog.info? 374).map (·.size)=some Z6.toArray.size:=by kernel_rfl
def qO(w:J):Prop:=∃t a,w.heap[(5:Nat)]?=some (.cells Z6.toArray t a)
theorem qO.same{w w':J}(h:qO w)(b:w'.heap[(5:Nat)]?=w.heap[(5:Nat)]?):qO w':=by
 obtain⟨t,a,h⟩:=h;exact⟨t,a,b.trans h⟩
theorem qO.lt{w:J}(h:qO w):5<w.heap.size:=by
 obtain⟨t,a,h⟩:=h;exact(JI.1 h).1
theorem qO.grown{w w':J}{R:Nat}(h:qO w)(a:w.grownBy w' (some R))(b:R≠5):qO w':=h.same (a.block _ h.lt (by simp;omega))
def YB(w:J)(R:Nat)(s:BY)(p:Nat)(r:Z.Res BY)(e:Ending)(w':J):Prop:=match r with
 | .ok u q=>e=.returned .nilIface/\u=Z.piece s.data.toList p q/\w.grownBy w' (some R)/\zw w' R s q/\q<=s.size/\p<=q
 | .err _ q=>e=.returned (.iface 148 (.agg #[R9 (q:Int)]))/\w.grownBy w' (some R)/\zw w' R s q/\q<=s.size/\p<=q
theorem YB.of{w w':J}{R:Nat}{s:BY}{p:Nat}{r a:Z.Res BY}{e:Ending}(h:YB w R s p r e w')(b:a=r):YB w R s p a e w':=b ▸ h
theorem Uu(s:BY)(R p:Nat)(w:J)(c:zw w R s p)(d:p<=s.size):R8 149 #[RG R 0] w λe a=>e=.returned (.int .u8 ((Z.zk s.data.toList p:Nat):Int))/\zw a R s p/\w.grownBy a (some R)/\(∀i:Nat,a.heap[i]?=w.heap[i]?)/\a.heap.size=w.heap.size:=by
 apply(Ut s R p w c d).mono;rintro e a⟨rfl,n,rfl⟩
 have b:∀n,(w.drewN n).heap=w.heap:=λn=>by
  induction n with
  | zero=>rfl
  | succ n f=>exact f
 exact⟨rfl,c.drewN n,jH w _ n,λi=>by rw[b],by rw[b]⟩
theorem zdJ(s:BY)(R p:Nat)(w:J)(hr:zw w R s p)(hp:p<=s.size)(hs:s.size<=4000)(hq:qO w):R8 216 #[RG R 0] w λe a=>YB w R s p (Z.uW s.data.toList p) e a:=by
 obtain⟨tt,fr,hh⟩:=hq;have d:=zdw;have M:=zdG;obtain⟨A,hA⟩:=Nm Z6.toArray;rw[hA]at hh M;simp only[hA]at d;clear hA;have I:=Uu s R p w hr hp;obtain⟨b,hb⟩:=Nm (Z.zk s.data.toList p);rw[hb]at I;have f0:b<256:=by rw[<- hb];exact Z.XD _ _
 have x:R8 149 #[RG R 0] w λe a=>e=.returned (.int .u8 (b:Int))/\zw a R s p/\w.grownBy a (some R)/\a.heap[(5:Nat)]?=some (.cells A tt fr):=by
  apply I.mono;rintro e a⟨rfl,h1,g,o,_⟩;exact⟨rfl,h1,g,(o _).trans hh⟩
 have HB:=G7 hb;clear I hb hr hh
 have v:128<=b->p<s.size:=λh=>by
  have:=Z.qH s.data.toList p (by rw[HB.o];omega)
  rwa [U.zF]at this
 have d7:=G7 v;clear v;go_enter func216,ntmps216
 go_wp2_with(first
  |(go_at_call 149;apply x.mono;rintro e w1⟨rfl,c4,a8,b9⟩)
  | (refine wpList_load_row rfl 374 _ rfl 5 rfl tt A fr _ b9 underlying374 rfl M ?_))
 have⟨a1,T⟩:=D5 c4 a8;clear c4 a8 b9 x M
 go_loopw [11] (λP wr=>∃k:Nat,k<=8/\P=R9 k/\zw wr R s p/\w.grownBy wr (some R)/\(∀i,i<k->b<Z.ZC i\/Z.Z7 i<b)) (λP _=>8-(intOf P).toNat)
 case atStart=>exact⟨0,by omega,rfl,a1,T,λi l=>by omega⟩
 case round=>
  obtain⟨k,hk,rfl,c7,hg,c3⟩:=hrel;have⟨X,n,HG⟩:=M4 c3 c7 hg;clear c3 c7 hg a1 T
  by_cases hlt:k<8
  ·have c6:=λW=>d W k hlt;have a6:=Z.eG k hlt;have e3:=λ(h1:Z.ZC k<=b) (g:b<=Z.Z7 k)=>ZH h1 g;have f:=Z.zdF s.data.toList p k hlt;have u:=λj=>Z.zdH s.data.toList p k j hlt;have q:=Z.zdt s.data.toList p k hlt;rw[HB.o]at f q;simp only[HB.o]at u
   have H:b<Z.ZC k\/Z.Z7 k<b->∀i,i<k+1->b<Z.ZC i\/Z.Z7 i<b:=λh i l=>by
    by_cases e:i=k
    ·subst e;exact h
    exact X i (by omega)
   obtain⟨F,hF⟩:=Nm (Z.ZC k);obtain⟨L,hL⟩:=Nm (Z.Z7 k);obtain⟨N,hN⟩:=Nm (Z.XF k);obtain⟨Q,G⟩:=Nm (Z.YV k);obtain⟨l,E⟩:=Nm (Z.JA k);rw[hF,hL,hN,G,E]at a6;rw[hF,hL]at H;simp only[hF,hL,hN,G,E]at c6 f u q;clear e3 hF hL hN G E;have⟨a0,a4,d9,d6⟩:=M5 H f u q;clear H f u q d;obtain⟨b1,b2,b3,b4,b5,b6,b7,b8⟩:=a6
   by_cases c1:b<F
   ·have d1:decide ((b:Int)<(F:Int))=true:=P5;go_wp2;go_roundw
    case rel=>exact⟨k+1,by omega,by go_num,n.alloc _,qg HG (yG _ _ _),a0 (.inl c1)⟩
    case measure=>simp[intOf];omega
   have d1:decide ((b:Int)<(F:Int))=false:=P6
   by_cases c2:L<b
   ·have d2:decide ((L:Int)<(b:Int))=true:=P5;go_wp2;go_roundw
    case rel=>exact⟨k+1,by omega,by go_num,n.alloc _,qg HG (yG _ _ _),a0 (.inr c2)⟩
    case measure=>simp[intOf];omega
   have d2:decide ((L:Int)<(b:Int))=false:=P6;have h5:p<s.size:=d7 (by omega)
   have c0:zw (wr.setCell (G8 R 1) (R9 ((p:Int)+1))) R s (p+1):=by
    have:=n.move (p+1)
    rw[show ((p:Int)+1)=((p+1:Nat):Int) by omega];exact this
   have e9:=n.lt
   have a9:w.grownBy ((wr.setCell (G8 R 1) (R9 ((p:Int)+1))).alloc (L8 #[.int .u8 (F:Int),.int .u8 (L:Int),R9 (N:Int),.int .u8 (Q:Int),.int .u8 (l:Int)] 373)) (some R):=
    qg HG (qg (jR _ _ _ _) (yG _ _ _))
   have a7:((wr.setCell (G8 R 1) (R9 ((p:Int)+1))).alloc (L8 #[.int .u8 (F:Int),.int .u8 (L:Int),R9 (N:Int),.int .u8 (Q:Int),.int .u8 (l:Int)] 373)).cell? (R6 wr 2)=some (R9 (N:Int)):=by
    have e:(wr.setCell (G8 R 1) (R9 ((p:Int)+1))).heap.size=wr.heap.size:=by simp[World.setCell]
    have:=zA (wr.setCell (G8 R 1) (R9 ((p:Int)+1))) (L8 #[.int .u8 (F:Int),.int .u8 (L:Int),R9 (N:Int),.int .u8 (Q:Int),.int .u8 (l:Int)] 373)
    rw[e]at this;simp only[World.cell?,this]
    rfl
   have hw:=Gz s R (p+1) Q l _ (c0.alloc (L8 #[.int .u8 (F:Int),.int .u8 (L:Int),R9 (N:Int),.int .u8 (Q:Int),.int .u8 (l:Int)] 373)) (by omega) hs b6 b7;have g1:=λO=>(n.alloc O).1;have g2:=λO=>(n.alloc O).2.1;have g3:=λO=>(n.alloc O).2.2;have⟨z,S⟩:=D5 a9 a7;clear a9 a7 c0
   cases hwt:Z.within s.data.toList Q l (p+1) with
   | false=>
    have y:=G7 (a4 (by omega) (by omega) hwt)
    have c:=hw.mono (R':=λe a=>e=.returned (.iface 148 (.agg #[R9 ((p+1:Nat):Int)]))/\w.grownBy a (some R)/\zw a R s (p+1)) (by
     rintro e a⟨_,h⟩;obtain⟨rfl,g,o⟩:=h hwt;exact⟨rfl,qg z g,o⟩)
    clear hw hwt;go_wp2_with(go_at_call 229;apply c.mono;rintro e w4⟨rfl,r,t⟩);go_ret;refine YB.of ?_ y;exact⟨rfl,r,t,by omega,by omega⟩
   | true=>
    have a5:=G7 hwt
    have c:=hw.mono (R':=λe a=>e=.returned .nilIface/\w.grownBy a (some R)/\zw a R s (p+2)/\a.cell? (R6 wr 2)=some (R9 (N:Int))/\p+1<s.size) (by
     rintro e a⟨h,_⟩;obtain⟨rfl,g,o,h4⟩:=h hwt;exact⟨rfl,qg z g,o,g.cell S (by simp;omega),h4⟩)
    clear hw hwt;have f9:1<=(N:Int):=by omega
    have g0:(N:Int)<=3:=by omega
    go_wp2_with(go_at_call 229;apply c.mono;rintro e w4⟨rfl,r,t,g7,g9⟩);have⟨V,a2⟩:=D5 r t;clear r t c g1 g2 g3 z S
    go_loopw [43] (λP wi=>∃j:Nat,j+1<=N/\P=R9 j/\zw wi R s (p+2+j)/\w.grownBy wi (some R)/\Z.fu s.data.toList p j/\p+2+j<=s.size) (λP _=>N-(intOf P).toNat)
    case atStart=>exact⟨0,by omega,rfl,a2,V,λi l=>by omega,by omega⟩
    case round=>
     obtain⟨j,g8,rfl,c5,b0,c8,e7⟩:=hrel;have⟨a3,B,C⟩:=M4 c5 b0 c8;clear c5 b0 c8 V a2;have m:=Gz s R (p+2+j) 128 191 wr a3 e7 hs (by omega) (by omega)
     by_cases hjl:j+1<N
     ·have e6:(j:Int)<(N:Int)-1:=by omega
      cases hwt:Z.within s.data.toList 128 191 (p+2+j) with
      | false=>
       have y:=G7 (d9 j (by omega) (by omega) a5 C hjl hwt)
       have c:=m.mono (R':=λe a=>e=.returned (.iface 148 (.agg #[R9 ((p+2+j:Nat):Int)]))/\w.grownBy a (some R)/\zw a R s (p+2+j)) (by
        rintro e a⟨_,h⟩;obtain⟨rfl,g,o⟩:=h hwt;exact⟨rfl,qg B g,o⟩)
       clear m hwt;go_wp2_with(go_at_call 229;apply c.mono;rintro e w5⟨rfl,D,K⟩);go_ret;refine YB.of ?_ y;exact⟨rfl,D,K,by omega,by omega⟩
      | true=>
       have d8:=G7 (show Z.fu s.data.toList p (j+1) from λi l=>by
        by_cases e:i=j
        ·subst e;exact hwt
        exact C i (by omega))
       have c:=m.mono (R':=λe a=>e=.returned .nilIface/\w.grownBy a (some R)/\zw a R s (p+2+(j+1))/\p+2+j<s.size) (by
        rintro e a⟨h,_⟩;obtain⟨rfl,g,o,h4⟩:=h hwt;exact⟨rfl,qg B g,o,h4⟩)
       clear m hwt;go_wp2_with(go_at_call 229;apply c.mono;rintro e w5⟨rfl,D,K,h0⟩);go_roundw
       case rel=>exact⟨j+1,by omega,by go_num,K,D,d8,by omega⟩
       case measure=>simp[intOf];omega
     have e6:¬(j:Int)<(N:Int)-1:=by omega
     obtain rfl:N=j+1:=by omega
     have y:=G7 (d6 (by omega) (by omega) a5 C);clear m;go_wp2;go_ret;refine YB.of ?_ y;exact⟨rfl,rfl,B,by have:=a3.o;rwa [show p+1+(j+1)=p+2+j by omega],by omega,by omega⟩
  have y:=G7 (Z.zdu s.data.toList p (by rw[HB.o];exact Z.zad b (λi l=>X i (by omega))));have sf:=Y2 s R p wr n;go_wp2_with(go_at_call 101;apply sf.mono;rintro e w2⟨rfl,rfl⟩);go_ret;refine YB.of ?_ y;exact⟨rfl,HG,n,hp,ze _⟩
end Go.Proofs.YtfjpcldndaiifaaGreatDoor
