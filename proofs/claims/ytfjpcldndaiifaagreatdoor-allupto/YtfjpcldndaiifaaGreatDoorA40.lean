/- P -/
import Derived.Test.YtfjpcldndaiifaaGreatDoorA39
open Go.Proofs.Tryz
set_option maxRecDepth 100000
set_option maxHeartbeats 8000000
namespace Go.Proofs.YtfjpcldndaiifaaGreatDoor
open Go.RowKit
def Kg(d:De.Dec):Y:=vI ((d.verdict:Nat):Int) ((d.layer:Nat):Int) d.doc ((d.stmt:Nat):Int)
def QK(W:J)(b:Nat)(u0 u1 u2 u3:Y):Prop:=(W.cell? (G8 b 0)=some u0/\W.cell? (G8 b 1)=some u1/\W.cell? (G8 b 2)=some u2/\W.cell? (G8 b 3)=some u3)/\W.heap[b+1]?=some QY
theorem QK.below{W W':J}{b:Nat}{u0 u1 u2 u3:Y}(h:QK W b u0 u1 u2 u3)(a:BQ W W'):QK W' b u0 u1 u2 u3:=by
 obtain⟨⟨d,e,f,g⟩,c⟩:=h;exact⟨⟨zi a d,zi a e,zi a f,zi a g⟩,(a.block _ (zt c)).trans c⟩
theorem QK.cells{W:J}{b:Nat}{u0 u1 u2 u3:Y}(h:QK W b u0 u1 u2 u3):(W.cell? (G8 (b+1) 0)=some (R9 0)/\W.cell? (G8 (b+1) 1)=some (R9 0)/\W.cell? (G8 (b+1) 2)=some R5/\W.cell? (G8 (b+1) 3)=some (R9 0)) /\
  W.frozen? (G8 (b+1) 0)=false/\W.frozen? (G8 (b+1) 1)=false/\W.frozen? (G8 (b+1) 2)=false/\W.frozen? (G8 (b+1) 3)=false:=
 ⟨⟨(zg h.2 0).1,(zg h.2 1).1,(zg h.2 2).1,(zg h.2 3).1⟩,(zg h.2 0).2,(zg h.2 1).2,(zg h.2 2).2,(zg h.2 3).2⟩
theorem QL{W:J}{b:Nat}{g i j k:Y}(h:W.heap[b]?=some (vG g i j k))(a c d e:Y):((((W.setCell (G8 b 0) a).setCell (G8 b 1) c).setCell (G8 b 2) d).setCell (G8 b 3) e).cell? (G8 b 0)=some a /\
  ((((W.setCell (G8 b 0) a).setCell (G8 b 1) c).setCell (G8 b 2) d).setCell (G8 b 3) e).cell? (G8 b 1)=some c /\
  ((((W.setCell (G8 b 0) a).setCell (G8 b 1) c).setCell (G8 b 2) d).setCell (G8 b 3) e).cell? (G8 b 2)=some d /\
  ((((W.setCell (G8 b 0) a).setCell (G8 b 1) c).setCell (G8 b 2) d).setCell (G8 b 3) e).cell? (G8 b 3)=some e:=by
 have f:=iR h a c d e;exact⟨(zg f 0).1,(zg f 1).1,(zg f 2).1,(zg f 3).1⟩
theorem bS{W:J}{b:Nat}{g i j k:Y}(h:W.heap[b]?=some (vG g i j k))(a c d e:Y)(O:Obj):(((((W.setCell (G8 b 0) a).setCell (G8 b 1) c).setCell (G8 b 2) d).setCell (G8 b 3) e).alloc O).cell? (G8 b 0)=some a /\
  (((((W.setCell (G8 b 0) a).setCell (G8 b 1) c).setCell (G8 b 2) d).setCell (G8 b 3) e).alloc O).cell? (G8 b 1)=some c /\
  (((((W.setCell (G8 b 0) a).setCell (G8 b 1) c).setCell (G8 b 2) d).setCell (G8 b 3) e).alloc O).cell? (G8 b 2)=some d /\
  (((((W.setCell (G8 b 0) a).setCell (G8 b 1) c).setCell (G8 b 2) d).setCell (G8 b 3) e).alloc O).cell? (G8 b 3)=some e:=by
 obtain⟨l,m,n,o⟩:=QL h a c d e;have f:=(zf _ ((((W.setCell (G8 b 0) a).setCell (G8 b 1) c).setCell (G8 b 2) d).setCell (G8 b 3) e)).alloc F7 O;exact⟨zi f l,zi f m,zi f n,zi f o⟩
theorem Zx{w W:J}{b:Nat}(c:BQ w W)(a:w.heap.size<=b)(d e f g:Y):BQ w ((((W.setCell (G8 b 0) d).setCell (G8 b 1) e).setCell (G8 b 2) f).setCell (G8 b 3) g):=
 (((c.setCell a _).setCell a _).setCell a _).setCell a _
theorem NR(ob:Nat)(u:StO)(r:U.Req)(ao:Option Addr)(cap:Nat)(M:Nat->Prop)(w:J)(h:yz M w ob u)(z:qK w ao r.marks)(A:U.qR r=true)(hE:yF w):R8 82 #[RG ob 0,U.zX r ao cap] w (G5 (Kg (De.Jn u r)) w):=by
 obtain⟨H,h1⟩:=Nm (w.alloc (L8 #[S9 r.who,S9 r.act,S9 r.on,TL ao r.marks.length cap] 35));have s1:H.heap.size=w.heap.size+1:=by rw[<- h1];simp
 have n1:H.heap[w.heap.size]?=some (L8 #[S9 r.who,S9 r.act,S9 r.on,TL ao r.marks.length cap] 35):=by rw[<- h1];exact zA w _
 have b1:BQ w H:=by rw[<- h1];exact nbl w _
 obtain⟨N,h2⟩:=Nm (H.alloc QY);have n2:N.heap[w.heap.size+1]?=some QY:=by rw[<- h2,<- s1];exact zA H _
 have b2:BQ H N:=by rw[<- h2];exact nbl H _
 have bw:BQ w N:=b1.trans (b2.mono b1.size);have bx:QK N w.heap.size (S9 r.who) (S9 r.act) (S9 r.on) (TL ao r.marks.length cap):=⟨ky (r:=r) (ao:=ao) (cap:=cap) ⟨(zg n1 0).1,(zg n1 1).1,(zg n1 2).1,(zg n1 3).1⟩ b2,n2⟩;have HW:G6 ((w.alloc (L8 #[S9 r.who,S9 r.act,S9 r.on,TL ao r.marks.length cap] 35)).alloc (L8 #[R9 0,R9 0,R5,R9 0] 103)=N):=G7 (by rw[h1];exact h2)
 have cD:∀(W:J),BQ w W->R8 132 #[RG ob 0,S9 De.Zu,U.zX r ao cap,TL (some (G8 W.heap.size 0)) 4 4] (W.alloc (L8 #[R9 0,R9 1,R9 2,R9 3] 3)) (G5 (Js (De.yY u De.Zu r [0,1,2,3])) W):=by
  intro W p;have R:BQ W (W.alloc (L8 #[R9 0,R9 1,R9 2,R9 3] 3)):=nbl W _;have n:=p.trans (R.mono p.size);refine(mX ob u De.Zu r ao (some (G8 W.heap.size 0)) cap 4 [0,1,2,3] M _ (h.below n) (λj I=>by simp at I;omega) (by simp) (λj I=>?_) (xh z n) A (hE.below n)).mono (λe w' ⟨he,S⟩=>⟨he,R.trans (S.mono R.size)⟩);refine⟨W.heap.size,0,rfl,?_⟩;simp at I;rw[qV,(zg (zA W (L8 #[R9 0,R9 1,R9 2,R9 3] 3)) j).1]
  rcases lt4 I with rfl|rfl|rfl|rfl<;>rfl
 have cA:∀(W:J),BQ w W->R8 132 #[RG ob 0,S9 De.jO,U.zX r ao cap,TL (some (G8 W.heap.size 0)) 2 2] (W.alloc (L8 #[R9 2,R9 3] 3)) (G5 (Js (De.yY u De.jO r [2,3])) W):=by
  intro W p;have R:BQ W (W.alloc (L8 #[R9 2,R9 3] 3)):=nbl W _;have n:=p.trans (R.mono p.size);refine(mX ob u De.jO r ao (some (G8 W.heap.size 0)) cap 2 [2,3] M _ (h.below n) (λj I=>by simp at I;omega) (by simp) (λj I=>?_) (xh z n) A (hE.below n)).mono (λe w' ⟨he,S⟩=>⟨he,R.trans (S.mono R.size)⟩);refine⟨W.heap.size,0,rfl,?_⟩;simp at I;rw[qV,(zg (zA W (L8 #[R9 2,R9 3] 3)) j).1]
  rcases (show j=0\/j=1 by omega) with rfl|rfl<;>rfl
 have cP:=λ(W:J) (p:BQ w W) (i:Nat) (h4:i<4)=>zal ob u i r ao cap M W (h.below p) h4 (xh z p) A (hE.below p);have c0:=λW p=>cP W p 0 (by omega);have c1:=λW p=>cP W p 1 (by omega);unfold De.Jn;obtain⟨F1,b0⟩:=Nm (De.yY u De.Zu r [0,1,2,3]);obtain⟨F2,b9⟩:=Nm (De.yY u De.jO r [2,3]);obtain⟨P0,c2⟩:=Nm (De.QQ u r 0);obtain⟨P1,c3⟩:=Nm (De.QQ u r 1);rw[b0]at cD |-;rw[b9]at cA |-;rw[c2]at c0 |-;rw[c3]at c1 |-;obtain⟨g0,f8,on,ms⟩:=r;unfold U.zX at cD cA c0 c1 |-;simp only at cD cA c0 c1 HW bx |-;unfold De.Zu at cD;unfold De.jO at cA;have⟨CD,CA,C0,C1,K,BX⟩:=M7 cD cA c0 c1 bw bx;obtain⟨⟨z0,z1,z2,z3⟩,_⟩:=bx;clear cD cA c0 c1 cP b0 b9 c2 c3 h z A hE h1 h2 s1 n1 n2 b1 b2 bw;go_enter func82,ntmps82
 go_upto_region 1 with fail
 rw[HW.o]
 cases F1 with
 | some d=>
  obtain⟨i,B,k⟩:=d;unfold Js vI at CD;simp only at CD
  go_upto_region 2 with(go_at_call 132;apply(CD.o N K.o).mono;rintro e w3⟨rfl,O⟩;have s:=G7 (K.o.trans (O.mono K.o.size));have o:=G7 (BX.o.below O);clear O)
  obtain⟨⟨y0,y1,y2,y3⟩,t0,t1,t2,t3⟩:=o.o.cells;have e6:w.heap.size+1<w3.heap.size:=zt o.o.2;obtain⟨C,D,E,G⟩:=bS o.o.2 (R9 2) (R9 (i:Int)) (S9 B) (R9 (k:Int)) (L8 #[R9 2,R9 (i:Int),S9 B,R9 (k:Int)] 103);have a:=G7 (Zx (b:=w.heap.size+1) s.o (by omega) (R9 2) (R9 (i:Int)) (S9 B) (R9 (k:Int)));go_wp2_with fail;exact zG (v := .agg #[R9 2,R9 (i:Int),S9 B,R9 (k:Int)]) (by simp[results,results82,go_sem,C,D,E,G]) rfl ⟨rfl,a.o.alloc a.o.size _⟩
 | none=>
  unfold Js vI at CD;simp only at CD
  go_upto_region 2 with(go_at_call 132;apply(CD.o N K.o).mono;rintro e w3⟨rfl,O⟩;have s:=G7 (K.o.trans (O.mono K.o.size));have o:=G7 (BX.o.below O);clear O)
  obtain⟨w4,V⟩:=Nm (w3.alloc (L8 #[R9 0,R9 0,R5,R9 0] 103));have b4:BQ w3 w4:=by rw[<- V];exact nbl w3 _
  have f:=G7 (s.o.trans (b4.mono s.o.size));have x:=G7 (o.o.below b4);rw[V];obtain⟨⟨z0,z1,z2,z3⟩,_⟩:=x.o;clear b4 V o s BX K
  cases P0 with
  | false=>
   go_upto_region 6 with(go_at_call 133;apply(C0.o w4 f.o).mono;rintro e w5⟨rfl,t⟩;have g:=G7 (f.o.trans (t.mono f.o.size));have c:=G7 (x.o.below t);clear t)
   obtain⟨⟨y0,y1,y2,y3⟩,t0,t1,t2,t3⟩:=c.o.cells;have T:w.heap.size+1<w5.heap.size:=zt c.o.2;obtain⟨C,D,E,G⟩:=QL c.o.2 (R9 3) (R9 0) R5 (R9 0);have a:=G7 (Zx (b:=w.heap.size+1) g.o (by omega) (R9 3) (R9 0) R5 (R9 0));go_wp2_with fail;exact zG (v := .agg #[R9 3,R9 0,R5,R9 0]) (by simp[results,results82,go_sem,C,D,E,G]) rfl ⟨rfl,a.o⟩
  | true=>
  cases P1 with
  | false=>
   go_upto_region 6 with(first
    |(go_at_call 133;apply(C1.o w5 g.o).mono;rintro e w6⟨rfl,P⟩;have l:=G7 (g.o.trans (P.mono g.o.size));have m:=G7 (c.o.below P);clear P)
    |(go_at_call 133;apply(C0.o w4 f.o).mono;rintro e w5⟨rfl,t⟩;have g:=G7 (f.o.trans (t.mono f.o.size));have c:=G7 (x.o.below t);obtain⟨⟨x0,x1,x2,x3⟩,_⟩:=c.o;clear t))
   obtain⟨⟨y0,y1,y2,y3⟩,t0,t1,t2,t3⟩:=m.o.cells;have T:w.heap.size+1<w6.heap.size:=zt m.o.2;obtain⟨C,D,E,G⟩:=QL m.o.2 (R9 3) (R9 0) R5 (R9 0);have a:=G7 (Zx (b:=w.heap.size+1) l.o (by omega) (R9 3) (R9 0) R5 (R9 0));go_wp2_with fail;exact zG (v := .agg #[R9 3,R9 0,R5,R9 0]) (by simp[results,results82,go_sem,C,D,E,G]) rfl ⟨rfl,a.o⟩
  | true=>
   go_upto_region 7 with(first
    |(go_at_call 133;apply(C1.o w5 g.o).mono;rintro e w6⟨rfl,P⟩;have l:=G7 (g.o.trans (P.mono g.o.size));have m:=G7 (c.o.below P);clear P)
    |(go_at_call 133;apply(C0.o w4 f.o).mono;rintro e w5⟨rfl,t⟩;have g:=G7 (f.o.trans (t.mono f.o.size));have c:=G7 (x.o.below t);obtain⟨⟨x0,x1,x2,x3⟩,_⟩:=c.o;clear t))
   obtain⟨⟨x0,x1,x2,x3⟩,_⟩:=m.o
   cases F2 with
   | none=>
    unfold Js vI at CA;simp only at CA
    go_upto_region 8 with(go_at_call 132;apply(CA.o w6 l.o).mono;rintro e w7⟨rfl,Q⟩;have y:=G7 (l.o.trans (Q.mono l.o.size));have q:=G7 (m.o.below Q);clear Q)
    obtain⟨w8,X⟩:=Nm (w7.alloc (L8 #[R9 0,R9 0,R5,R9 0] 103));have b8:BQ w7 w8:=by rw[<- X];exact nbl w7 _
    have d6:=G7 (y.o.trans (b8.mono y.o.size));have L:=G7 (q.o.below b8);rw[X];clear b8 X;obtain⟨⟨y0,y1,y2,y3⟩,t0,t1,t2,t3⟩:=L.o.cells;have T:w.heap.size+1<w8.heap.size:=zt L.o.2;obtain⟨C,D,E,G⟩:=QL L.o.2 (R9 3) (R9 0) R5 (R9 0);have a:=G7 (Zx (b:=w.heap.size+1) d6.o (by omega) (R9 3) (R9 0) R5 (R9 0));go_wp2_with fail;exact zG (v := .agg #[R9 3,R9 0,R5,R9 0]) (by simp[results,results82,go_sem,C,D,E,G]) rfl ⟨rfl,a.o⟩
   | some d=>
    obtain⟨i,B,k⟩:=d;unfold Js vI at CA;simp only at CA
    go_upto_region 8 with(go_at_call 132;apply(CA.o w6 l.o).mono;rintro e w7⟨rfl,Q⟩;have y:=G7 (l.o.trans (Q.mono l.o.size));have q:=G7 (m.o.below Q);clear Q)
    obtain⟨⟨y0,y1,y2,y3⟩,t0,t1,t2,t3⟩:=q.o.cells;have T:w.heap.size+1<w7.heap.size:=zt q.o.2;obtain⟨C,D,E,G⟩:=bS q.o.2 (R9 1) (R9 (i:Int)) (S9 B) (R9 (k:Int)) (L8 #[R9 1,R9 (i:Int),S9 B,R9 (k:Int)] 103);have a:=G7 (Zx (b:=w.heap.size+1) y.o (by omega) (R9 1) (R9 (i:Int)) (S9 B) (R9 (k:Int)));go_wp2_with fail;exact zG (v := .agg #[R9 1,R9 (i:Int),S9 B,R9 (k:Int)]) (by simp[results,results82,go_sem,C,D,E,G]) rfl ⟨rfl,a.o.alloc a.o.size _⟩
theorem zcs(V:Nat)(u:StO)(r:U.Req)(ao:Option Addr)(cap:Nat)(M:Nat->Prop)(w:J)(h:yz M w V u)(f:qK w ao r.marks)(S:Pg.reqLen r)(E:yF w):R8 46 #[RG V 0,U.zX r ao cap] w (G5 (.tuple #[Kg (De.J9 u r).1,.int .i64 (De.J9 u r).2]) w):=by
 obtain⟨g,o⟩:=Nm (w.alloc (L8 #[S9 r.who,S9 r.act,S9 r.on,TL ao r.marks.length cap] 35));have s1:g.heap.size=w.heap.size+1:=by rw[<- o];simp
 have p:g.heap[w.heap.size]?=some (L8 #[S9 r.who,S9 r.act,S9 r.on,TL ao r.marks.length cap] 35):=by rw[<- o];exact zA w _
 have A:BQ w g:=by rw[<- o];exact nbl w _
 obtain⟨n,s⟩:=Nm (g.alloc QY);have T:n.heap[w.heap.size+1]?=some QY:=by rw[<- s,<- s1];exact zA g _
 have B:BQ g n:=by rw[<- s];exact nbl g _
 have q:BQ w n:=A.trans (B.mono A.size);have bx:QK n w.heap.size (S9 r.who) (S9 r.act) (S9 r.on) (TL ao r.marks.length cap):=⟨ky (r:=r) (ao:=ao) (cap:=cap) ⟨(zg p 0).1,(zg p 1).1,(zg p 2).1,(zg p 3).1⟩ B,T⟩;have z:G6 ((w.alloc (L8 #[S9 r.who,S9 r.act,S9 r.on,TL ao r.marks.length cap] 35)).alloc (L8 #[R9 0,R9 0,R5,R9 0] 103)=n):=G7 (by rw[o];exact s);have D:=zaU r ao cap n (xh f q) S (E.below q).d.tabs;have C:=λ(W:J) (t:BQ w W) (R:U.qR r=true)=>NR V u r ao cap M W (h.below t) (xh f t) R (E.below t);unfold De.J9;obtain⟨Q,F⟩:=Nm (U.qR r);rw[F]at D |-;obtain⟨dc,l⟩:=Nm (De.Jn u r);rw[l]at C |-;have⟨x,BX⟩:=D5 q bx;have m:=G7 D
 cases Q with
 | false=>
  clear C D h f S E o s s1 p T A B q F l;obtain⟨a5,H,on,ms⟩:=r;unfold U.zX at m |-;simp only[yu,xX]at m z bx |-;obtain⟨⟨z0,z1,z2,z3⟩,_⟩:=bx;go_enter func46,ntmps46
  go_upto_region 1 with fail
  rw[z.o]
  go_upto_region 2 with(go_at_call 49;apply m.o.mono;rintro e w3⟨rfl,k⟩;have c:=G7 (x.o.trans (k.mono x.o.size));have a:=G7 (BX.o.below k);clear k)
  obtain⟨⟨y0,y1,y2,y3⟩,t0,t1,t2,t3⟩:=a.o.cells;have P:w.heap.size+1<w3.heap.size:=zt a.o.2;obtain⟨X,r1,r2,r3⟩:=QL a.o.2 (R9 0) (R9 0) R5 (R9 0);have j:=G7 (Zx (b:=w.heap.size+1) c.o (by omega) (R9 0) (R9 0) R5 (R9 0));go_wp2_with fail;exact zG (v := .tuple #[.agg #[R9 0,R9 0,R5,R9 0],R9 11]) (by simp[results,results46,go_sem,X,r1,r2,r3]) rfl ⟨rfl,j.o⟩
 | true=>
  have y:=G7 (λ(W:J) (t:BQ w W)=>C W t F);clear C D h f S E o s s1 p T A B q F l;obtain⟨a5,H,on,ms⟩:=r;obtain⟨O,L,N,K⟩:=dc;unfold U.zX at m y |-;unfold Kg vI at y;simp only[qJ]at m y z bx |-;obtain⟨⟨z0,z1,z2,z3⟩,_⟩:=bx;go_enter func46,ntmps46
  go_upto_region 1 with fail
  rw[z.o]
  go_upto_region 3 with(go_at_call 49;apply m.o.mono;rintro e w3⟨rfl,k⟩;have c:=G7 (x.o.trans (k.mono x.o.size));have a:=G7 (BX.o.below k);clear k)
  obtain⟨⟨x0,x1,x2,x3⟩,_⟩:=a.o;go_wp2_with(go_at_call 82;apply(y.o w3 c.o).mono;rintro e w4⟨rfl,I⟩;have G:=G7 (c.o.trans (I.mono c.o.size));have i:=G7 (a.o.below I);clear I;obtain⟨⟨y0,y1,y2,y3⟩,t0,t1,t2,t3⟩:=i.o.cells;have P:w.heap.size+1<w4.heap.size:=zt i.o.2;obtain⟨X,r1,r2,r3⟩:=QL i.o.2 (R9 ((O:Nat):Int)) (R9 ((L:Nat):Int)) (S9 N) (R9 ((K:Nat):Int));have j:=G7 (Zx (b:=w.heap.size+1) G.o (by omega) (R9 ((O:Nat):Int)) (R9 ((L:Nat):Int)) (S9 N) (R9 ((K:Nat):Int))));exact zG (v := .tuple #[.agg #[R9 ((O:Nat):Int),R9 ((L:Nat):Int),S9 N,R9 ((K:Nat):Int)],R9 0]) (by simp[results,results46,go_sem,X,r1,r2,r3]) rfl ⟨rfl,j.o⟩
def YT(eff:BY)(i:Nat)(F:Option (BY×Nat)):Y:=match F with
 | none=>vI 0 0 ⟨#[]⟩ 0
 | some (n,k)=>vI (if eff.toList==[100,101,110,121] then 2 else 1) ((i:Nat):Int) n ((k:Nat):Int)
def WN(W:J)(v:Y)(L:List zH):Prop:=
 ∃a c,v=TL a L.length c/\∀(k:Nat),(h:k<L.length)->∃b d f e,a=some (G8 b 0)/\W.cell? (G8 b (k*3+1))=some (S9 L[k].1)/\W.cell? (G8 b (k*3+2))=some (TL d f e)/\XG W (TL d f e) L[k].2
theorem WO{M:Nat->Prop}{W:J}{base:Nat}{v:Y}{out:List zy}{xs:List Y}(n:W.ownsRow base 93 3 v out.length xs)(o:xV M W xs out):WN W v (out.map Xi):=by
 obtain⟨a,c,e,p⟩:=fA n o;refine⟨a,c,by rw[qf];exact e,λk b=>?_⟩;rw[qf]at b;obtain⟨m,d,g,f,h,_,i,j,l⟩:=p k _ (zn b);rw[VI];exact⟨m,d,g,f,h,i,j,zew l⟩
theorem SN{α:Type}{l:List α}{p:α->Bool}{k:Nat}(d:k<l.length)(a:p l[k]=true)(b:∀j,(h:j<k)->p (l[j]'(by omega))=false):l.findIdx? p=some k:=
 VH.2 ⟨d,a,λj c=>by simpa using b j c⟩
theorem SS{α:Type}{l:List α}{p:α->Bool}(a:∀j,(h:j<l.length)->p l[j]=false):l.findIdx? p=none:=
 gu.2 λx c=>by
  obtain⟨j,b,rfl⟩:=QB c;exact a j b
theorem zcW(cb:Nat)(lv:Y)(ks:List zy)(st:StO)(i:Nat)(eff:BY)(r:U.Req)(ao:Option Addr)(cap:Nat)(M:Nat->Prop)(w:J)(h:xM M w cb lv ks)(hn:ks.length<=1000000000)(hN:∀x ∈ ks,x.name.size<=maxLen)(hM:∀b,M b->b<w.heap.size)(d8:Agree st ks)(h4:i<4)(hg:QA (st i))(f9:qK w ao r.marks)(g1:U.qR r=true):R8 83 #[RG cb 0,R9 ((i:Nat):Int),S9 eff,U.zX r ao cap] w (G5 (YT eff i (De.jq eff r (st i))) w):=by
 obtain⟨W1,h1⟩:=Nm (w.alloc (L8 #[S9 r.who,S9 r.act,S9 r.on,TL ao r.marks.length cap] 35));have s1:W1.heap.size=w.heap.size+1:=by rw[<- h1];simp
 have n1:W1.heap[w.heap.size]?=some (L8 #[S9 r.who,S9 r.act,S9 r.on,TL ao r.marks.length cap] 35):=by rw[<- h1];exact zA w _
 have b1:BQ w W1:=by rw[<- h1];exact nbl w _
 obtain⟨W2,h2⟩:=Nm (W1.alloc QY);have n2:W2.heap[w.heap.size+1]?=some QY:=by rw[<- h2,<- s1];exact zA W1 _
 have b2:BQ W1 W2:=by rw[<- h2];exact nbl W1 _
 have bw:BQ w W2:=b1.trans (b2.mono b1.size);have bx:QK W2 w.heap.size (S9 r.who) (S9 r.act) (S9 r.on) (TL ao r.marks.length cap):=⟨ky (r:=r) (ao:=ao) (cap:=cap) ⟨(zg n1 0).1,(zg n1 1).1,(zg n1 2).1,(zg n1 3).1⟩ b2,n2⟩;have HW:G6 ((w.alloc (L8 #[S9 r.who,S9 r.act,S9 r.on,TL ao r.marks.length cap] 35)).alloc (L8 #[R9 0,R9 0,R5,R9 0] 103)=W2):=G7 (by rw[h1];exact h2);have ci:=dh cb lv ks (i:Int) M W2 (h.below bw) hn hN (λb t=>xO (hM b t) bw.size);have K:=λout ho=>d8.layer h4 (out:=out) ho;have hd:∀x ∈ st i,XZ x.2:=hg.2.2;have a3:(st i).length<=4:=hg.2.1;obtain⟨L,hL⟩:=Nm (st i);rw[hL]at K hd a3 |-;have cA:=λ(W:J) (t:BQ w W) (g:List zS) (g2:XZ g) (s:zS) (hs:s ∈ g) l1 l2 l3 lc (y:Yk W l1 l2 l3 lc s)=>IE s l1 l2 l3 lc r ao cap W y (g2.few s hs).1 (g2.few s hs).2.1 (xh f9 t) g1;obtain⟨F,hF⟩:=Nm (De.jq eff r L);rw[hF];have E:=λk h=>Bc eff r L k h;have⟨CI,HL,HD,CA,HF,i4,BW,BX⟩:=M9 ci K hd cA hF E bw bx;clear ci K hd cA hF E bw h hn hN hM d8 hg f9 g1 h1 h2 s1 n1 n2 b1 b2 hL;obtain⟨l,f,on,ms⟩:=r;unfold U.zX at CA |-;simp only at CA HW bx |-;obtain⟨⟨z0,z1,z2,z3⟩,_⟩:=bx;go_enter func83,ntmps83
 go_upto_region 1 with fail
 rw[HW.o]
 go_upto_region 2 with(go_at_call 39;apply CI.o.mono;rintro e w1⟨v,xs,out,rfl,e4,a4,g3,t⟩;have d4:=G7 (WO a4 g3);have d3:=G7 (HL.o out e4);have q:=G7 (BW.o.trans (t.mono BW.o.size));have c8:=G7 (BX.o.below t);clear e4 a4 g3 t)
 have e5:=d4.o;rw[<- d3.o]at e5;obtain⟨a,c,rfl,C⟩:=e5;have HC:=G7 C;clear C d4 d3 CI HL z0 z1 z2 z3 BX BW;obtain⟨n,b4⟩:=Nm L.length;have HN:=G7 b4;rw[b4]at a3 |-;clear b4;go_wp2_with fail
 go_loopw [10] (λiv wr=>∃j:Nat,j<=n/\iv=R9 j/\De.jq eff ⟨l,f,on,ms⟩ (L.drop j)=F/\BQ w1 wr) (λiv _=>n-(intOf iv).toNat)
 case atStart=>exact⟨0,zD _,rfl,HF.o,zf _ _⟩
 case round=>
  obtain⟨j,hj,rfl,d9,t⟩:=hrel;have⟨d1,S⟩:=D5 d9 t;obtain⟨wo,j5⟩:∃x,x=wr:=⟨_,rfl⟩;subst j5;clear d9 t
  by_cases hlt:j<n
  ·have b3:j<L.length:=by rw[HN.o];exact hlt
   obtain⟨gb,da,dn,dc,rfl,q1,q2,N⟩:=HC.o j b3;have X:=HD.o L[j] (qm b3);have y:=i4.o j b3;rw[d1.o]at y;obtain⟨x,hx⟩:=Nm (L[j]);simp only[hx]at q1 N X y;obtain⟨nm,g⟩:=x;simp only at q1 N X y;obtain⟨p5,p6,e,O⟩:=N;injection e with e1 e2 e3
   subst e1 e2 e3;have⟨i5,i6,HR,d5,d6⟩:=M6 q1 q2 O X y;have q0:=zi S.o q2;clear q1 q2 O X y hx;go_wp2_with fail
   go_loopw [11] (λkv wr=>∃k:Nat,k<=g.length/\kv=R9 k/\(∀m,(h:m<k)->(hl:m<g.length)->De.Xt eff ⟨l,f,on,ms⟩ g[m]=false)/\BQ w1 wr) (λkv _=>g.length-(intOf kv).toNat)
   case atStart=>exact⟨0,zD _,rfl,λm h=>by omega,S.o⟩
   case round=>
    obtain⟨k,hk,rfl,g0,t⟩:=hrel;have⟨V,B⟩:=D5 g0 t;have p1:=zi B.o i5.o;have p2:=zi B.o i6.o;have d0:=G7 (c8.o.below B.o);obtain⟨⟨z0,z1,z2,z3⟩,_⟩:=d0.o;have m6:g.length<=10:=d5.o.1;clear g0 t
    by_cases hkl:k<g.length
    ·rcases HR.o with e|⟨sb,o,rfl,hc⟩
     ·subst e;simp at hkl
     obtain⟨l1,l2,l3,lc,t0,t1,t2,t3,t4,t5,t6,t7,t8⟩:=hc k hkl;obtain⟨x1,y1,rfl,_⟩:=Y1 t8.who;obtain⟨x2,y2,rfl,_⟩:=Y1 t8.act;obtain⟨x3,y3,rfl,_⟩:=Y1 t8.on;obtain⟨x4,y4,rfl,_⟩:=wQ t8.ifs;have u0:=zi B.o t0;have u1:=zi B.o t1;have u2:=zi B.o t2;have u3:=zi B.o t3;have u4:=zi B.o t4;have u5:=zi B.o t5;have u6:=zi B.o t6;have u7:=zi B.o t7;have ca:=λ(W:J) (t:BQ w1 W)=>CA.o W (q.o.trans (t.mono q.o.size)) g d5.o g[k] (qm hkl) _ _ _ _ (t8.below t);have I:De.Xt eff ⟨l,f,on,ms⟩ g[k]=((g[k].eff.toList==eff.toList)&&De.Je g[k] ⟨l,f,on,ms⟩):=rfl;have H:=λ(h1:De.Xt eff ⟨l,f,on,ms⟩ g[k]=true)=>SN (p:=De.Xt eff ⟨l,f,on,ms⟩) hkl h1 (λm hm=>V.o m hm (by omega));obtain⟨s,hs⟩:=Nm (g[k]);simp only[hs]at u0 u1 u2 u3 u4 u5 u6 u7 ca I H;obtain⟨A,hA⟩:=Nm (De.Je s ⟨l,f,on,ms⟩);simp only[hA]at ca I;obtain⟨ef,⟨n1,s1⟩,⟨n2,s2⟩,⟨n3,s3⟩,is⟩:=s;simp only at u0 u1 u2 u3 u4 u5 u6 u7 ca I;obtain⟨m1,e7⟩:=Nm s1.length;obtain⟨m2,e8⟩:=Nm s2.length;obtain⟨m3,e9⟩:=Nm s3.length;obtain⟨m4,f8⟩:=Nm is.length;simp only[e7,e8,e9,f8]at u2 u4 u6 u7 ca;obtain⟨w5,a0⟩:=Nm (wr.alloc (L8 #[S9 ef,.bool n1,TL x1 m1 y1,.bool n2,TL x2 m2 y2,.bool n3,TL x3 m3 y3,TL x4 m4 y4] 173));have b5:BQ wr w5:=by rw[<- a0];exact nbl wr _
     have P:w5.heap[wr.heap.size]?=some (L8 #[S9 ef,.bool n1,TL x1 m1 y1,.bool n2,TL x2 m2 y2,.bool n3,TL x3 m3 y3,TL x4 m4 y4] 173):=by rw[<- a0];exact zA wr _
     have a7:=G7 (B.o.trans (b5.mono B.o.size));have c9:=G7 (d0.o.below b5);have v1:=zi b5 p1;have⟨i7,N5⟩:=D5 a0 P;have CC:=G7 (ca w5 a7.o);obtain⟨⟨c0,c1,c2,c3⟩,_⟩:=c9.o;have f0:=(zg P 0).1;have f1:=(zg P 1).1;have f2:=(zg P 2).1;have f3:=(zg P 3).1;have f4:=(zg P 4).1;have f5:=(zg P 5).1;have f6:=(zg P 6).1;have f7:=(zg P 7).1;simp at f0 f1 f2 f3 f4 f5 f6 f7;have⟨d2,a9,HS⟩:=M4 H I hs;clear a0 b5 P ca I H hA hs hc t0 t1 t2 t3 t4 t5 t6 t7 t8 e7 e8 e9 f8
     go_upto_region 9 with fail
     rw[i7.o]
     go_upto_region 10 with(go_at_call 134;apply CC.o.mono;rintro e w6⟨rfl,b6⟩;have R:=G7 (a7.o.trans (b6.mono a7.o.size));have Q:=G7 (c9.o.below b6);have e0:=zi b6 f0;have e1:=zi b6 v1;clear b6)
     cases A with
     | false=>
      have d:=a9.o;rw[fI]at d;have a8:=G7 d;clear d;go_wp2_with fail;refine⟨⟨k+1,by omega,by go_num,λm hm hl=>?_,R.o⟩,by simp[intOf];omega⟩
      by_cases hmk:m=k
      ·subst hmk;rw[HS.o];exact a8.o
      ·exact V.o m (by omega) hl
     | true=>
     cases hef:(ef.toList==eff.toList) with
     | false=>
      have d:=a9.o;rw[hef,kS]at d;have a8:=G7 d;clear d;go_wp2_with fail;refine⟨⟨k+1,by omega,by go_num,λm hm hl=>?_,R.o⟩,by simp[intOf];omega⟩
      by_cases hmk:m=k
      ·subst hmk;rw[HS.o];exact a8.o
      ·exact V.o m (by omega) hl
     | true=>
      have z:=a9.o;rw[hef,jY]at z;have G:De.Jr eff ⟨l,f,on,ms⟩ g=some k:=d2.o z;have u:=d6.o;rw[G]at u;have T:=G7 u;have m0:(k:Int)+1<=11:=by omega
      obtain⟨⟨y0,y1,y2,y3⟩,t0,t1,t2,t3⟩:=Q.o.cells;have e6:w.heap.size+1<w6.heap.size:=zt Q.o.2;clear z G u
      cases hdn:(eff.toList==[100,101,110,121]) with
      | true=>
       obtain⟨r0,r1,r2,r3⟩:=QL Q.o.2 (R9 2) (R9 (i:Int)) (S9 nm) (R9 ((k:Int)+1));have D:=G7 (Zx (b:=w.heap.size+1) (q.o.trans (R.o.mono q.o.size)) (by omega) (R9 2) (R9 (i:Int)) (S9 nm) (R9 ((k:Int)+1)));go_wp2_with fail;exact zG (v := .agg #[R9 2,R9 (i:Int),S9 nm,R9 ((k:Int)+1)]) (by simp[results,results83,go_sem,r0,r1,r2,r3]) rfl ⟨by rw[T.o];unfold YT vI;simp only;rw[hdn];rfl,D.o⟩
      | false=>
       obtain⟨r0,r1,r2,r3⟩:=QL Q.o.2 (R9 1) (R9 (i:Int)) (S9 nm) (R9 ((k:Int)+1));have D:=G7 (Zx (b:=w.heap.size+1) (q.o.trans (R.o.mono q.o.size)) (by omega) (R9 1) (R9 (i:Int)) (S9 nm) (R9 ((k:Int)+1)));go_wp2_with fail;exact zG (v := .agg #[R9 1,R9 (i:Int),S9 nm,R9 ((k:Int)+1)]) (by simp[results,results83,go_sem,r0,r1,r2,r3]) rfl ⟨by rw[T.o];unfold YT vI;simp only;rw[hdn];rfl,D.o⟩
    have j4:k=g.length:=by omega
    subst j4;have G:De.Jr eff ⟨l,f,on,ms⟩ g=none:=SS (λm hm=>V.o m hm hm);have u:=d6.o;rw[G]at u;have T:=G7 u;clear G u;go_wp2_with fail;refine⟨⟨j+1,by omega,by go_num,T.o.symm,B.o⟩,by simp[intOf];omega⟩
  have j3:j=n:=by omega
  have e:=d1.o;rw[Yw (by rw[HN.o];omega)]at e;have HE:=G7 e;have a6:=G7 (c8.o.below S.o);obtain⟨⟨y0,y1,y2,y3⟩,t0,t1,t2,t3⟩:=a6.o.cells;have e6:w.heap.size+1<wo.heap.size:=zt a6.o.2;obtain⟨r0,r1,r2,r3⟩:=QL a6.o.2 (R9 0) (R9 0) R5 (R9 0);have D:=G7 (Zx (b:=w.heap.size+1) (q.o.trans (S.o.mono q.o.size)) (by omega) (R9 0) (R9 0) R5 (R9 0));clear e;subst j3;go_wp2_with fail;exact zG (v := .agg #[R9 0,R9 0,R5,R9 0]) (by simp[results,results83,go_sem,r0,r1,r2,r3]) rfl ⟨by rw[<- HE.o];rfl,D.o⟩
end Go.Proofs.YtfjpcldndaiifaaGreatDoor
