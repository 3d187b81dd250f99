/- P -/
import Derived.Test.YtfjpcldndaiifaaGreatDoorA34
open Go.Proofs.Tryz
set_option maxRecDepth 100000
set_option maxHeartbeats 1000000
namespace Go.Proofs.YtfjpcldndaiifaaGreatDoor
open Go.RowKit
theorem Hr(ms:List (BY×BY))(f:BY×BY->Bool):Zc (λj=>f (Zf ms j)) ms.length=ms.all f:=by
 unfold Zc;rw[Zp,Zq,Zq]
 constructor
 ·intro h c d;obtain⟨j,b,rfl⟩:=gD.1 d
  have:=h j (vk.2 b)
  rwa [Jt ms j b]at this
 intro h j b;have a:=vk.1 b;rw[Jt ms j a];exact h _ (qm a)
theorem rR(ms:List (BY×BY))(ao:Option Addr)(cap:Nat)(w:J)(h:ms.length<=100000000000)(b:∀j,j<ms.length->(Zf ms j).1.size<=maxLen/\(Zf ms j).2.size<=maxLen)(g:qK w ao ms)(d:uG w):R8 85 #[TL ao ms.length cap,.func (.func 86) #[] #[]] w (G5 (.bool (ms.all U.jw)) w):=by
 have c:=Ib ms ao cap 86 #[] (λj=>U.jw (Zf ms j)) w h (qo func86 (by kernel_rfl) rfl) g
  (λW j a f=>Tz (Zf ms j) W (b j a).1 (b j a).2 (d.below f))
 rw[Hr]at c;exact c
theorem zaT(r:U.Req)(ao:Option Addr)(cap:Nat)(w:J)(F:qK w ao r.marks)(L:U.XE r)(D:uG w):R8 49 #[U.zX r ao cap] w (G5 (.bool (U.qR r)) w):=by
 obtain⟨y,p,on,o⟩:=r;obtain⟨P,R,S,I,K⟩:=L;simp only at P R S I K F
 have z:=λW G=>rR o ao cap W I (λj H=>by
  have:=K (Zf o j) (by rw[Jt o j H];exact qm H)
  unfold maxLen;omega) (xh F G) (D.below G)
 generalize m:U.qR ⟨y,p,on,o⟩=Q;unfold U.qR at m;simp only at m;unfold U.zX;simp only;have b0:=λO=>nbl w O;have c1:=Vh y _ rfl (by unfold maxLen;omega);have c2:=Vh p _ rfl (by unfold maxLen;omega);have c3:=Vh on _ rfl (by unfold maxLen;omega);have l:∀g,BQ w g->uG g:=λg h=>D.below h;clear F D
 cases d1:U.xH y with
 | false=>
  have e:Q=false:=by rw[<- m,d1];simp
  subst e;rw[d1]at c1;clear m d1 z c2 c3;go_enter func49,ntmps49;go_wp2_with(go_at_call 50;apply(c1 _ (l _ (b0 _))).mono;rintro e g⟨rfl,a⟩);go_ret;exact⟨rfl,(b0 _).trans (a.mono (by simp))⟩
 | true=>
 rw[d1]at c1
 cases d2:U.xH p with
 | false=>
  have e:Q=false:=by rw[<- m,d2];simp
  subst e;rw[d2]at c2;clear m d1 d2 z c3;go_enter func49,ntmps49
  go_wp2_with(first
   |(go_at_call 50;apply(c2 g (l _ b)).mono;rintro e k⟨rfl,c⟩;have d:BQ w k:=b.trans (c.mono b.size);obtain⟨s,u⟩:=qP c;have x:w.heap.size<k.heap.size:=by (have:=c.size;omega))
   |(go_at_call 50;apply(c1 _ (l _ (b0 _))).mono;rintro e g⟨rfl,a⟩;have b:BQ w g:=(b0 _).trans (a.mono (by simp));obtain⟨q,t⟩:=qP a;have v:w.heap.size<g.heap.size:=by (have:=a.size;simp at this;omega)))
  go_ret;exact⟨rfl,d⟩
 | true=>
 rw[d2]at c2
 cases d3:U.xH on with
 | false=>
  have e:Q=false:=by rw[<- m,d3];simp
  subst e;rw[d3]at c3;clear m d1 d2 d3 z;go_enter func49,ntmps49
  go_wp2_with(first
   |(go_at_call 50;apply(c3 k (l _ d)).mono;rintro e n⟨rfl,f⟩;have i:BQ w n:=d.trans (f.mono d.size);obtain⟨A,B⟩:=qP f;have C:w.heap.size<n.heap.size:=by (have:=f.size;omega))
   |(go_at_call 50;apply(c2 g (l _ b)).mono;rintro e k⟨rfl,c⟩;have d:BQ w k:=b.trans (c.mono b.size);obtain⟨s,u⟩:=qP c;have x:w.heap.size<k.heap.size:=by (have:=c.size;omega))
   |(go_at_call 50;apply(c1 _ (l _ (b0 _))).mono;rintro e g⟨rfl,a⟩;have b:BQ w g:=(b0 _).trans (a.mono (by simp));obtain⟨q,t⟩:=qP a;have v:w.heap.size<g.heap.size:=by (have:=a.size;simp at this;omega)))
  go_ret;exact⟨rfl,i⟩
 | true=>
 rw[d3]at c3
 by_cases d4:o.length<=10
 ·have e:Q=o.all U.jw:=by rw[<- m,d1,d2,d3,zB d4];simp
  have M:decide ((o.length:Int)<=10)=true:=P5;rw[<- e]at z;clear m d1 d2 d3 d4 e;go_enter func49,ntmps49
  go_wp2_with(first
   |(go_at_call 85;apply(z n i).mono;rintro e T⟨rfl,E⟩)
   |(go_at_call 50;apply(c3 k (l _ d)).mono;rintro e n⟨rfl,f⟩;have i:BQ w n:=d.trans (f.mono d.size);obtain⟨A,B⟩:=qP f;have C:w.heap.size<n.heap.size:=by (have:=f.size;omega))
   |(go_at_call 50;apply(c2 g (l _ b)).mono;rintro e k⟨rfl,c⟩;have d:BQ w k:=b.trans (c.mono b.size);obtain⟨s,u⟩:=qP c;have x:w.heap.size<k.heap.size:=by (have:=c.size;omega))
   |(go_at_call 50;apply(c1 _ (l _ (b0 _))).mono;rintro e g⟨rfl,a⟩;have b:BQ w g:=(b0 _).trans (a.mono (by simp));obtain⟨q,t⟩:=qP a;have v:w.heap.size<g.heap.size:=by (have:=a.size;simp at this;omega)))
  go_ret;exact⟨rfl,i.trans (E.mono i.size)⟩
 have e:Q=false:=by rw[<- m,zI d4];simp
 have M:decide ((o.length:Int)<=10)=false:=P6;subst e;clear m d1 d2 d3 d4 z;go_enter func49,ntmps49
 go_wp2_with(first
  |(go_at_call 50;apply(c3 k (l _ d)).mono;rintro e n⟨rfl,f⟩;have i:BQ w n:=d.trans (f.mono d.size);obtain⟨A,B⟩:=qP f;have C:w.heap.size<n.heap.size:=by (have:=f.size;omega))
  |(go_at_call 50;apply(c2 g (l _ b)).mono;rintro e k⟨rfl,c⟩;have d:BQ w k:=b.trans (c.mono b.size);obtain⟨s,u⟩:=qP c;have x:w.heap.size<k.heap.size:=by (have:=c.size;omega))
  |(go_at_call 50;apply(c1 _ (l _ (b0 _))).mono;rintro e g⟨rfl,a⟩;have b:BQ w g:=(b0 _).trans (a.mono (by simp));obtain⟨q,t⟩:=qP a;have v:w.heap.size<g.heap.size:=by (have:=a.size;simp at this;omega)))
 go_ret;exact⟨rfl,i⟩
theorem PY(p:Nat->Bool)(n k:Nat)(h:zC p n=some k):k<n/\p k=true/\∀j,j<k->p j=false:=by
 unfold zC at h;rw[UQ]at h;obtain⟨a,b,c⟩:=h;exact⟨by simpa using b,a,λj d=>by simpa using c j d⟩
theorem PX(p:Nat->Bool)(n:Nat)(h:zC p n=none):∀j,j<n->p j=false:=by
 unfold zC at h;rw[Y5]at h;intro j a
 simpa using h j (vk.2 a)
theorem zdh(m:BY×BY)(name:BY)(B:Nat)(w:J)(b:w.cell? (G8 B 0)=some (S9 name)):R8 144 #[Xv m,RG B 0] w (G5 (.bool (m.1.toList==name.toList)) w):=by
 obtain⟨a,v⟩:=m;unfold Xv;simp only;have q:=λO:Obj=>zi (nbl w O) b;go_enter func144,ntmps144;go_wp2;go_ret;exact⟨rfl,nbl w _⟩
theorem zdi(r:U.Req)(name:BY)(ao:Option Addr)(cap:Nat)(w:J)(z:r.marks.length<=100000000000)(u:qK w ao r.marks):R8 91 #[U.zX r ao cap,S9 name] w λe s=>
   e=.returned (.tuple #[.string ((U.says r name).getD ⟨#[]⟩),.bool (U.says r name).isSome])/\BQ w s:=by
 obtain⟨v,t,on,d⟩:=r;generalize a:U.says ⟨v,t,on,d⟩ name=P at *;unfold U.says at a;simp only at a z u;unfold U.zX;simp only;have h:=λm p=>(nbl w m).alloc (by simp) p
 cases c1:name.toList==[119,104,111] with
 | true=>
  rw[zb c1]at a;subst a;go_enter func91,ntmps91;go_wp2;go_ret2;exact⟨rfl,h _ _⟩
 | false=>
 rw[za (by simp[c1])]at a
 cases c2:name.toList==[100,111] with
 | true=>
  rw[zb c2]at a;subst a;go_enter func91,ntmps91;go_wp2;go_ret2;exact⟨rfl,h _ _⟩
 | false=>
 rw[za (by simp[c2])]at a
 cases c3:name.toList==[111,110] with
 | true=>
  rw[zb c3]at a;subst a;go_enter func91,ntmps91;go_wp2;go_ret2;exact⟨rfl,h _ _⟩
 | false=>
 rw[za (by simp[c3])]at a
 have c:=λm p B=>Bd d ao cap 144 #[RG (w.heap.size+1) 0] (λj=>(Zf d j).1.toList==name.toList) ((w.alloc m).alloc p) z
  (qo func144 (by kernel_rfl) rfl) (xh u (h m p))
  (λW j _ C=>zdh (Zf d j) name (w.heap.size+1) W (zi C B))
 obtain⟨F,hF⟩:=Nm (zC (λj=>(Zf d j).1.toList==name.toList) d.length);simp only[hF]at c
 cases F with
 | none=>
  have e:=U.Cu d name d.length (by omega) (λj _ y=>by have:=PX _ _ hF j y;rwa [Jt d j y]at this);rw[e]at a;subst a;simp only[Xa,uB]at c;clear hF e;go_enter func91,ntmps91;go_wp2_with(go_at_call 143;apply(c _ _ (by simp)).mono;rintro e s⟨rfl,f⟩);go_ret2;exact⟨rfl,(h _ _).trans (f.mono (by simp;omega))⟩
 | some k=>
  obtain⟨q,g,i⟩:=PY _ _ _ hF;rw[Jt d k q]at g;have e:=U.Ct d name k q (λj D=>by have:=i j D;rwa [Jt d j (by omega)]at this) g;rw[e]at a;subst a;simp only[yP,uC]at c
  rcases u with rfl|⟨b,o,rfl,hc⟩
  ·simp at q
  obtain⟨G,A⟩:=hc k q;obtain⟨L,l⟩:=Nm (d[k].2);rw[l]at A |-;have E:(k:Int)<(d.length:Int):=by omega
  clear hF e g i hc G l;go_enter func91,ntmps91;go_wp2_with(go_at_call 143;apply(c _ _ (by simp)).mono;rintro e s⟨rfl,f⟩;obtain⟨H,I⟩:=qP f;have x:BQ w s:=(h _ _).trans (f.mono (by simp;omega));have K:=zi x A);go_ret2;exact⟨rfl,x⟩
theorem Cw(r:U.Req)(name:BY)(ao:Option Addr)(cap B:Nat)(w:J)(l:r.marks.length<=100000000000)(k:qK w ao r.marks)
  (g:w.cell? (G8 B 0)=some (S9 r.who))(h:w.cell? (G8 B 1)=some (S9 r.act))(i:w.cell? (G8 B 2)=some (S9 r.on))(j:w.cell? (G8 B 3)=some (TL ao r.marks.length cap)):R8 90 #[S9 name,RG B 0] w λe f=>
   e=.returned (.tuple #[.string ((U.says r name).getD ⟨#[]⟩),.bool (U.says r name).isSome])/\BQ w f:=by
 have c:=zdi r name ao cap w l k;obtain⟨d,a,on,m⟩:=r;unfold U.zX at c;simp only at c g h i j;generalize U.says ⟨d,a,on,m⟩ name=P at c;go_enter func90,ntmps90;go_wp2_with(go_at_call 91;apply c.mono;rintro e f⟨rfl,b⟩);go_ret2;exact⟨rfl,b⟩
theorem Fu(r:U.Req)(ao:Option Addr)(cap:Nat)(w:J):R8 52 #[U.zX r ao cap] w λe b=>
   e=.returned (.func (.func 90) #[] #[RG w.heap.size 0])/\b=w.alloc (L8 #[S9 r.who,S9 r.act,S9 r.on,TL ao r.marks.length cap] 35):=by
 obtain⟨c,a,on,d⟩:=r;unfold U.zX;simp only;go_enter func52,ntmps52;go_wp2;go_ret;exact⟨rfl,rfl⟩
def YQ(w:J)(v:Y)(a:List (Int×BY)):Prop:=
 ∃d c,v=TL d a.length c/\(a=[]\/∃b o,d=some (G8 b o)/\∀j,(h:j<a.length)->w.cell? (G8 b (o+j*2))=some (R9 a[j].1)/\w.cell? (G8 b (o+j*2+1))=some (S9 a[j].2))
def yt(w:J)(v:Y)(l:List BY):Prop:=
 ∃c a,v=TL c l.length a/\(l=[]\/∃b o,c=some (G8 b o)/\∀j,(h:j<l.length)->w.cell? (G8 b (o+j))=some (S9 l[j]))
theorem nE{w w':J}{v:Y}{e:List (Int×BY)}(h:YQ w v e)(c:BQ w w'):YQ w' v e:=by
 obtain⟨f,a,g,h⟩:=h;refine⟨f,a,g,?_⟩
 rcases h with h|⟨b,o,ha,hc⟩
 ·exact .inl h
 exact .inr ⟨b,o,ha,λj d=>⟨zi c (hc j d).1,zi c (hc j d).2⟩⟩
theorem kR{w w':J}{v:Y}{l:List BY}(h:yt w v l)(d:BQ w w'):yt w' v l:=by
 obtain⟨c,a,f,h⟩:=h;refine⟨c,a,f,?_⟩
 rcases h with h|⟨b,o,ha,hc⟩
 ·exact .inl h
 exact .inr ⟨b,o,ha,λj e=>zi d (hc j e)⟩
theorem Ed{w:J}{base:Nat}{e:TypeId}{v:Y}{n:Nat}{b:List (Int×BY)}(l:n=b.length)(h:w.ownsRow base e 2 v n (U.xg b)):YQ w v b:=by
 subst l;have a:=λg i=>h.cells (g:=g) i
 rcases h.2 with⟨rfl,h0⟩|⟨g,cap,cur,rfl,_⟩
 ·exact⟨none,0,by rw[h0],.inl (Yx h0)⟩
 refine⟨_,cap,rfl,.inr ⟨g,0,rfl,λj k=>?_⟩⟩;have f:=U.nC b j k;have c:=a g rfl _ _ f.1;have d:=a g rfl _ _ f.2;rw[YF]at c d;exact⟨by rw[qV];exact c,by rw[qV];exact d⟩
theorem Ym{w:J}{base:Nat}{e:TypeId}{v:Y}{n:Nat}{l:List BY}(f:n=l.length)(h:w.ownsRow base e 1 v n (U.strCells l)):yt w v l:=by
 subst f;have a:=λg c=>h.cells (g:=g) c
 rcases h.2 with⟨rfl,h0⟩|⟨g,cap,cur,rfl,_⟩
 ·exact⟨none,0,by rw[h0],.inl (Yx h0)⟩
 refine⟨_,cap,rfl,.inr ⟨g,0,rfl,λj d=>?_⟩⟩;have i:=U.zeI l j d;have b:=a g rfl _ _ i;rw[YF]at b;rw[qV];exact b
def yV(w:J)(b:Nat)(r:U.Req)(ao:Option Addr)(cap:Nat):Prop:=
 w.cell? (G8 b 0)=some (S9 r.who)/\w.cell? (G8 b 1)=some (S9 r.act)/\w.cell? (G8 b 2)=some (S9 r.on)/\w.cell? (G8 b 3)=some (TL ao r.marks.length cap)
theorem ky{w w':J}{b:Nat}{r:U.Req}{ao:Option Addr}{cap:Nat}(h:yV w b r ao cap)(a:BQ w w'):yV w' b r ao cap:=
 ⟨zi a h.1,zi a h.2.1,zi a h.2.2.1,zi a h.2.2.2⟩
theorem LD{w w':J}{b:Nat}{r:U.Req}{ao:Option Addr}{cap:Nat}{row:Option Nat}(h:yV w b r ao cap)(g:w.grownBy w' row)(d:row≠some b):yV w' b r ao cap:=by
 have f:b<w.heap.size:=Qj _ _ h.1;have e:=g.block b f (λe=>d e.symm);have c:∀o,w'.cell? (G8 b o)=w.cell? (G8 b o):=λo=>Xd (w:=w) (a:=G8 b o) e;exact⟨(c 0).trans h.1,(c 1).trans h.2.1,(c 2).trans h.2.2.1,(c 3).trans h.2.2.2⟩
theorem zeU{w w':J}{d:Option Addr}{n cap:Nat}{l:List BY}{row:Option Nat}(h:yt w (TL d n cap) l)(r:w.grownBy w' row)(f:∀g,row=some g->∀k,d=some k->k.block≠g):yt w' (TL d n cap) l:=by
 obtain⟨p,c,i,h⟩:=h;refine⟨p,c,i,?_⟩;simp only[Value.slice.injEq]at i;obtain⟨rfl,rfl,rfl⟩:=i
 rcases h with h|⟨b,o,rfl,hc⟩
 ·exact .inl h
 refine .inr ⟨b,o,rfl,λj m=>?_⟩;have q:b<w.heap.size:=Qj _ _ (hc j m);have e:=r.block b q (λe=>f b e.symm (G8 b o) rfl rfl);exact(Xd (w:=w) (a:=(G8 b (o+j))) e).trans (hc j m)
theorem sZ{wr w1:J}{b:Nat}{e:TypeId}{size:Nat}{v:Y}{n:Nat}{xs:List Y}{r:U.Req}{ao:Option Addr}{cap:Nat}(c:yV wr b r ao cap)(d:wr.ownsRow (b+1) e size v n xs)(a:Obj)
  (f:(wr.alloc a).grownBy w1 v.ownBlock):yV w1 b r ao cap:=
 LD (ky c (nbl _ a)) f (λe=>by have:=(d.lt b e).1;omega)
theorem WQ(r:U.Req)(f:List (Int×BY))(lv:Y)(ao:Option Addr)(cap:Nat)(w:J)(hm:qK w ao r.marks)(hl:YQ w lv f)(i3:f.length<=60)(i2:r.marks.length<=10)
  (K:∀n v,U.says r n=some v->v.size<=100):R8 95 #[lv,U.zX r ao cap] w λe w'=>∃v,e=.returned (.tuple #[v,.bool (U.laid r f).isSome])/\BQ w w' /\
   w'.ownsRow w.heap.size 202 2 v ((U.laid r f).getD []).length (U.xg ((U.laid r f).getD []))/\((U.laid r f).getD []).length<=6000:=by
 obtain⟨i0,hi,d1,d2,d3⟩:=qU Tryz.infoPart;have hP:U.laid r f=(U.laid r (f.drop 0)).map λb=>[]++b:=by simp
 generalize e4:U.laid r f=P at *;clear e4;have⟨HP,HS⟩:=D5 hP K;clear hP K;obtain⟨lo,M,rfl,hl⟩:=hl;have c8:YQ w (TL lo f.length M) f:=⟨lo,M,rfl,hl⟩;clear hl;have⟨HL,HM⟩:=D5 c8 hm;clear c8 hm;unfold U.zX;go_enter func95,ntmps95;go_wp2
 go_loopw [6,7] (λov iv wr=>∃(k:Nat) (done:List (Int×BY)),k<=f.length/\iv=R9 k/\P=((U.laid r (f.drop k)).map λb=>done++b)/\done.length<=100*k /\
   wr.ownsRow (w.heap.size+1) 202 2 ov done.length (U.xg done)/\BQ w wr/\yV wr w.heap.size r ao cap) (λ_ iv _=>f.length-(intOf iv).toNat)
 case atStart=>exact⟨0,[],by omega,rfl,HP.o,by simp,qF _ _ _ _,nbl _ _,by simp[yV]⟩
 case round=>
  obtain⟨k,done,hk,rfl,c5,h9,i,a,a0⟩:=hrel;have⟨p,C⟩:=D5 c5 a0;have c1:G6 (YQ wr (TL lo f.length M) f):=nE HL.o a;have a7:G6 (qK wr ao r.marks):=xh HM.o a;have K:=a.size;have f8:w.heap.size+1<=wr.heap.size:=Qj _ _ C.o.1;clear c5 HP a0
  by_cases hlt:k<f.length
  ·obtain⟨h0,c3,he,A⟩:=c1.o;simp only[Value.slice.injEq,QW]at he;obtain⟨rfl,rfl⟩:=he
   rcases A with rfl|⟨b,o,rfl,hc⟩
   ·simp at hlt
   obtain⟨q1,q2⟩:=hc k hlt;obtain⟨l,b4⟩:=Nm (f[k].1);obtain⟨s,b8⟩:=Nm (f[k].2);rw[b4]at q1;rw[b8]at q2;have⟨HK,HT⟩:=D5 b4 b8;clear hc b4 b8
   by_cases h4:l=4
   ·subst h4;have e5:=C.o;obtain⟨g0,g1,g2,g3⟩:=e5
    cases hsy:U.says r s with
    | none=>
     have hf:=U.BU r f k hlt done P p.o (by unfold U.ZX;rw[HK.o,HT.o,zb rfl,hsy];rfl);subst hf;have a9:=G7 hsy;clear hsy p;go_wp2_with fail;go_region_with (go_at_call 146;refine(Fw r s ao cap _ ?_ ?_ none a9.o).mono ?_;omega;exact a7.o;rintro e w2⟨rfl,Q⟩)
     all_goals go_wp2
     all_goals go_ret2
     all_goals exact⟨_,rfl,a.trans ((Xe Q).mono K),qF _ _ _ _,by simp⟩
    | some v=>
     have e9:=HS.o s v hsy;have e6:=U.Ka v;obtain⟨d,S⟩:=Nm ((U.chars v).getD []);have q:U.ZX r f[k]=some (d.map λc=>((1:Int),c)):=by unfold U.ZX;rw[HK.o,HT.o,zb rfl,hsy,<- S];rfl
     have H:=U.dD r f k hlt done P p.o _ q;rw[S]at e6;have⟨a8,a9,e2⟩:=M4 H hsy S;clear hsy p H q S;go_wp2_with fail;go_region_with (go_at_call 146;refine(Fw r s ao cap _ ?_ ?_ (some v) a9.o).mono ?_;omega;exact a7.o;rintro e w2⟨rfl,Q⟩)
     all_goals
      have O:BQ wr w2:=Xe Q;have N:w2.ownsRow (w.heap.size+1) 202 2 u6 done.length (U.xg done):=ownsRow_below i O;have G:BQ w w2:=a.trans (O.mono K);have W:G6 (yV w2 w.heap.size r ao cap):=ky C.o O;clear Q O i a C a7 c1 q1 q2 g0 g1 g2 g3;go_wp2_with fail;refine(iJ v _ (by omega)).mono ?_;rw[e2.o];rintro e w3⟨cv,rfl,R,t⟩;have a6:=ownsRow_below N R;have V:BQ w w3:=G.trans (R.mono G.size);have X:G6 (yV w3 w.heap.size r ao cap):=ky W.o R;have T:=Ym rfl t;obtain⟨co,y,rfl,A⟩:=T;have T:G6 (yt w3 (TL co d.length y) d):=⟨co,y,rfl,A⟩
      have a2:G6 (∀g,u6.ownBlock=some g->∀B,co=some B->B.block≠g):=by
       intro g hg B ha;have l1:=(N.lt g hg).2;have l2:=(t.lt B.block (by rw[ha];rfl)).1;omega
      clear A t N G W R;go_wp2
      go_loopw [6,12] (λov jv wx=>∃m:Nat,m<=d.length/\jv=R9 m/\wx.ownsRow (w.heap.size+1) 202 2 ov (done++(d.take m).map λc=>((1:Int),c)).length (U.xg (done++(d.take m).map λc=>((1:Int),c))) /\
        BQ w wx/\yV wx w.heap.size r ao cap/\yt wx (TL co d.length y) d/\(∀g,ov.ownBlock=some g->∀B,co=some B->B.block≠g)) (λ_ jv _=>d.length-(intOf jv).toNat)
      case atStart=>exact⟨0,by omega,rfl,by simpa using a6,V,X.o,T.o,a2.o⟩
      case round=>
       obtain⟨m,i1,rfl,j,z,a3,a5,a4⟩:=hrel;clear a6 V X T a2;have⟨D,F,E⟩:=M4 a3 a5 a4;have i4:=z.size;clear a3 a5 a4;have c9:(done++(d.take m).map λc=>((1:Int),c)).length<=100*k+100:=by simp;omega
       by_cases hml2:m<d.length
       ·obtain⟨h1,c3,he,A⟩:=F.o;simp only[Value.slice.injEq,QW]at he;obtain⟨rfl,rfl⟩:=he
        rcases A with rfl|⟨cb,cof,rfl,hc⟩
        ·simp at hml2
        have q1:=hc m hml2;obtain⟨c,b3⟩:=Nm (d[m]);rw[b3]at q1
        have a1:(done++(d.take (m+1)).map λc=>((1:Int),c))=(done++(d.take m).map λc=>((1:Int),c))++[((1:Int),c)]:=by
         rw[Q9 hml2,b3];simp
        have c2:=G7 a1;clear hc b3 a1;generalize e7:(done++(d.take m).map λc=>((1:Int),c))=dd at *;clear e7;go_wp2_with (at_builtin;refine Yp _ rfl _ _ 117 rfl (w.heap.size+1) 202 i0 (.agg #[R9 0,R5]) 2 24 underlying117 hi d1 d2 d3 rfl (by decide) _ dd.length (U.xg dd) rfl (j.alloc _) (G8 _ 0) 1 1 [R9 1,S9 c] rfl rfl ?_ ?_ ?_ ?_ ?_ ?_)
        ·exact cell_two_new _ _ _ _
        ·exact Uq _ _
        ·unfold maxLen;omega
        ·omega
        ·simp;omega
        intro v' w1 L h _ d4;have b0:=sW z j (by omega) _ h
        have x:w1.ownsRow (w.heap.size+1) 202 2 v' (done++(d.take (m+1)).map λc=>((1:Int),c)).length (U.xg (done++(d.take (m+1)).map λc=>((1:Int),c))):=by
         rw[c2.o,U.Jz,qE];exact L
        have b2:G6 (yV w1 w.heap.size r ao cap):=sZ D.o j _ h;have b7:G6 (yt w1 (TL (some (G8 cb cof)) d.length y) d):=zeU (kR F.o (nbl _ _)) h E.o;have h8:cb<wr.heap.size:=Qj _ _ q1
        have b6:G6 (∀g,v'.ownBlock=some g->∀B,some ((G8 cb cof):Addr)=some B->B.block≠g):=by
         intro g hg B ha
         rcases d4 with e|e
         ·exact E.o g (e ▸ hg) B ha
         rw[e]at hg;simp only[Option.some.injEq]at hg ha;subst hg;subst ha;simp only;omega
        clear L h j d4 D F E z;go_wp2;go_roundw
        case rel=>exact⟨m+1,by omega,by go_num,x,b0,b2.o,b7.o,b6.o⟩
        case measure=>simp[intOf];omega
       have d0:d.take m=d:=uA (by omega)
       have b5:wr.ownsRow (w.heap.size+1) 202 2 u6 (done++d.map λc=>((1:Int),c)).length (U.xg (done++d.map λc=>((1:Int),c))):=by
        rw[d0]at j;exact j
       clear j d0 c9;go_wp2;go_roundw
       case rel=>exact⟨k+1,_,by omega,by go_num,a8.o,by simp;omega,b5,z,D.o⟩
       case measure=>simp[intOf];omega
   have h7:(l != 4)=true:=by simp[h4]
   have q:U.ZX r f[k]=some [(l,s)]:=by unfold U.ZX;rw[HK.o,za h4,<- HK.o,<- HT.o]
   have H:=U.dD r f k hlt done P p.o _ q;have a8:=G7 H;clear q H p;go_wp2_with (at_builtin;refine yh _ rfl _ _ 117 rfl (w.heap.size+1) 202 i0 (.agg #[R9 0,R5]) 2 24 underlying117 hi d1 d2 d3 rfl (by decide) _ done.length (U.xg done) rfl (i.alloc _) (G8 wr.heap.size 0) 1 1 [R9 l,S9 s] rfl rfl ?_ ?_ ?_ ?_ ?_ ?_)
   ·exact cell_two_new _ _ _ _
   ·exact Uq _ _
   ·unfold maxLen;omega
   ·omega
   ·simp;omega
   intro v' w1 I u _;have b0:=sW a i (by omega) _ u;have x:w1.ownsRow (w.heap.size+1) 202 2 v' (done++[(l,s)]).length (U.xg (done++[(l,s)])):=by rw[U.Jz,qE];exact I
   have b1:yV w1 w.heap.size r ao cap:=sZ C.o i _ u;clear I u i;go_wp2;go_roundw
   case rel=>exact⟨k+1,_,by omega,by go_num,a8.o,by simp;omega,x,b0,b1⟩
   case measure=>simp[intOf];omega
  have hf:=U.BS r f k hlt done P p.o;subst hf;clear p;go_wp2;go_ret2;exact⟨_,rfl,a,xS i (by omega),by simp;omega⟩
end Go.Proofs.YtfjpcldndaiifaaGreatDoor
