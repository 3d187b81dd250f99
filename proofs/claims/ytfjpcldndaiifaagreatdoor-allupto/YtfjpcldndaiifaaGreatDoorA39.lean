/- P -/
import Derived.Test.YtfjpcldndaiifaaGreatDoorA38
open Go.Proofs.Tryz
set_option maxRecDepth 100000
set_option maxHeartbeats 4000000
namespace Go.Proofs.YtfjpcldndaiifaaGreatDoor
open Go.RowKit
theorem IC(c:qj)(f:Y)(r:U.Req)(ao:Option Addr)(cap B g:Nat)(w:J)(l:yt w f c.vals)(k:Yt c)(m:c.vals.length<=1000)(n:∀v ∈ c.vals,v.size<=100000)(j:ZN w r ao cap B)(i:yF w)(h:w.cell? (G8 g 0)=some (jc B)):R8 232 #[.agg #[S9 c.op,S9 c.key,f,.bool c.no],RG g 0] w (G5 (.bool (De.Ya c r)) w):=by
 have b0:=λO:Obj=>nbl w O;have b:=λO:Obj=>SI c f r ao cap B (w.alloc O) (kR l (b0 O)) k m n (j.below (b0 O)) (i.below (b0 O));have d:=λO:Obj=>zi (b0 O) h;obtain⟨a,t,rfl,_⟩:=l;generalize De.Ya c r=F at b;obtain⟨op,key,o,no⟩:=c;simp only at b |-;unfold jc at b d;have p:=G7 b;clear b j i k m n h;go_enter func232,ntmps232;go_wp2_with(go_at_call 233;apply(p.o _).mono;rintro e u⟨rfl,q⟩);go_ret;exact⟨rfl,(b0 _).trans (q.mono (b0 _).size)⟩
theorem Rq(w c:J)(e f g i:Obj)(h:(((w.alloc e).alloc f).alloc g).alloc i=c):c.heap[w.heap.size]?=some e/\c.heap[w.heap.size+1]?=some f/\c.heap[w.heap.size+2]?=some g/\c.heap[w.heap.size+3]?=some i/\BQ w c:=by
 obtain⟨a,l⟩:=Nm (w.alloc e);have q:a.heap.size=w.heap.size+1:=by rw[<- l];simp
 have s:a.heap[w.heap.size]?=some e:=by rw[<- l];exact zA w e
 have p:BQ w a:=by rw[<- l];exact nbl w _
 rw[l]at h;obtain⟨b,m⟩:=Nm (a.alloc f);have r:b.heap.size=w.heap.size+2:=by rw[<- m];simp[q]
 have t:b.heap[w.heap.size+1]?=some f:=by rw[<- m,<- q];exact zA a f
 have o:BQ a b:=by rw[<- m];exact nbl a _
 rw[m]at h;obtain⟨d,n⟩:=Nm (b.alloc g);have x:d.heap.size=w.heap.size+3:=by rw[<- n];simp[r]
 have u:d.heap[w.heap.size+2]?=some g:=by rw[<- n,<- r];exact zA b g
 have j:BQ b d:=by rw[<- n];exact nbl b _
 rw[n]at h;have v:c.heap[w.heap.size+3]?=some i:=by rw[<- h,<- x];exact zA d i
 have k:BQ d c:=by rw[<- h];exact nbl d _
 exact⟨(k.block _ (by omega)).trans ((j.block _ (by omega)).trans ((o.block _ (by omega)).trans s)),(k.block _ (by omega)).trans ((j.block _ (by omega)).trans t),(k.block _ (by omega)).trans u,v,
  p.trans ((o.trans ((j.trans (k.mono j.size)).mono o.size)).mono p.size)⟩
theorem IG(s:zS)(l1 l2 l3 lc:Y)(r:U.Req)(ao:Option Addr)(cap:Nat)(w:J)(F:Yk w l1 l2 l3 lc s)(Q:JM s)(G:JL s)(hv:∀c ∈ s.ifs,c.vals.length<=1000)(R:qK w ao r.marks)(z:U.qR r=true)(N:yF w):R8 224 #[.agg #[S9 s.eff,.bool s.who.1,l1,.bool s.act.1,l2,.bool s.on.1,l3,lc],U.zX r ao cap] w (G5 (.bool (De.Je s r)) w):=by
 obtain⟨k1,k2,k3⟩:=nV z;obtain⟨a1,y1,rfl,g1⟩:=F.who;obtain⟨a2,y2,rfl,g2⟩:=F.act;obtain⟨a3,y3,rfl,g3⟩:=F.on;obtain⟨a4,y4,rfl,_⟩:=F.ifs;have g4:=F.ifs;have P:∃d,((((w.alloc (L8 #[S9 s.eff,.bool s.who.1,TL a1 s.who.2.length y1,.bool s.act.1,TL a2 s.act.2.length y2,.bool s.on.1,TL a3 s.on.2.length y3,TL a4 s.ifs.length y4] 140)).alloc (L8 #[S9 r.who,S9 r.act,S9 r.on,TL ao r.marks.length cap] 35)).alloc (L8 #[S9 r.who,S9 r.act,S9 r.on,TL ao r.marks.length cap] 35)).alloc (L8 #[jc (w.heap.size+2)] 115))=d:=⟨_,rfl⟩;obtain⟨d,l⟩:=P;obtain⟨v,L,M,e3,q⟩:=Rq w d _ _ _ _ l;have O:ZN d r ao cap (w.heap.size+2):=⟨(zg M 0).1,(zg M 1).1,(zg M 2).1,(zg M 3).1,xh R q,z⟩
 have t:VS d w.heap.size (.bool s.who.1) (TL a1 s.who.2.length y1) (.bool s.act.1) (TL a2 s.act.2.length y2) (.bool s.on.1) (TL a3 s.on.2.length y3) (TL a4 s.ifs.length y4) (S9 r.who) (S9 r.act) (S9 r.on) (TL ao r.marks.length cap):=
  ⟨(zg v 1).1,(zg v 2).1,(zg v 3).1,(zg v 4).1,(zg v 5).1,(zg v 6).1,(zg v 7).1,(zg L 0).1,(zg L 1).1,(zg L 2).1,(zg L 3).1⟩
 have o:d.cell? (G8 (w.heap.size+3) 0)=some (jc (w.heap.size+2)):=(zg e3 0).1;have c1:=λ(W:J) (k:BQ d W)=>iK s.who r.who r ao a1 cap y1 (w.heap.size+2) W Q.who G.who (Z9 (Z9 g1 q) k) (O.below k) ((N.below q).below k) (Yo k1).1 (Yo k1).2;have c2:=λ(W:J) (k:BQ d W)=>iK s.act r.act r ao a2 cap y2 (w.heap.size+2) W Q.act G.act (Z9 (Z9 g2 q) k) (O.below k) ((N.below q).below k) (Yo k2).1 (Yo k2).2;have c3:=λ(W:J) (k:BQ d W)=>iK s.on r.on r ao a3 cap y3 (w.heap.size+2) W Q.on G.on (Z9 (Z9 g3 q) k) (O.below k) ((N.below q).below k) (Yo k3).1 (Yo k3).2
 have c4:=λ(W:J) (k:BQ d W)=>Hz s.ifs (TL a4 s.ifs.length y4) 232 #[RG (w.heap.size+3) 0] (λc=>De.Ya c r) W G.ifs (qo func232 (by kernel_rfl) rfl) ((g4.below q).below k)
  (λW2 c lv hc h2 hs=>by
    have y:BQ d W2:=k.trans (h2.mono k.size);exact IC c lv r ao cap (w.heap.size+2) (w.heap.size+3) W2 hs (Q.ifs c hc) (hv c hc) (G.vals c hc).2 (O.below y) ((N.below q).below y) (zi y o))
 have cY:=λW=>Fu r ao cap W;unfold De.Je;obtain⟨A,hA⟩:=Nm (De.Qw s.who r.who r);obtain⟨B,hB⟩:=Nm (De.Qw s.act r.act r);obtain⟨C,hC⟩:=Nm (De.Qw s.on r.on r);obtain⟨D,hD⟩:∃A,(s.ifs.all λc=>De.Ya c r)=A:=⟨_,rfl⟩;rw[hA]at c1;rw[hB]at c2;rw[hC]at c3;rw[hD]at c4;rw[hA,hB,hC,hD];clear hA hB hC hD Q G F k1 k2 k3 g1 g2 g3 g4 hv R z N O v L M e3;have sf:=λW a g lb m=>ZB prog W a (.func (.func g) #[] lb) m rfl;obtain⟨k5,g7,on,ms⟩:=r;obtain⟨eff,⟨n1,s1⟩,⟨n2,s2⟩,⟨n3,s3⟩,cs⟩:=s;unfold U.zX at cY |-;simp only at c1 c2 c3 c4 cY l t |-;unfold jc at c1 c2 c3 o l;obtain⟨z1,S⟩:=Nm s1.length;obtain⟨z2,T⟩:=Nm s2.length;obtain⟨z3,V⟩:=Nm s3.length;obtain⟨z4,X⟩:=Nm cs.length;simp only[S,T,V,X]at c1 c2 c3 c4 l t |-;have⟨K,AI,u,C1,C2,C3,C4⟩:=M8 l t q c1 c2 c3 c4;obtain⟨p1,p2,p3,p4,p5,p6,p7,q0,q1,q2,q3⟩:=t;clear l q c1 c2 c3 c4 S T V X;go_enter func224,ntmps224
 go_upto_region 2 with(go_at_call 52;apply(cY _).mono;rintro e wS⟨rfl,rfl⟩)
 rw[show w.heap.size+1+1+1=w.heap.size+3 from rfl,show w.heap.size+1+1=w.heap.size+2 from rfl,K.o]
 clear K cY sf
 cases A with
 | false=>
  go_wp2_with(go_at_call 230;apply(C1.o d E9).mono;rintro e I⟨rfl,b⟩;have f:=G7 b;have h:=G7 (AI.o.below b);obtain⟨i1,i2,i3,i4,i5,i6,i7,t0,t1,t2,t3⟩:=h.o;have H:=zi b o;clear b);go_ret;exact⟨rfl,u.o.trans (f.o.mono u.o.size)⟩
 | true=>
 cases B with
 | false=>
  go_wp2_with(first
   |(go_at_call 230;apply(C2.o I f.o).mono;rintro e E⟨rfl,b⟩;have i:G6 (BQ d E):=f.o.trans (b.mono f.o.size);have j:=G7 (h.o.below b);obtain⟨j1,j2,j3,j4,j5,j6,j7,u0,u1,u2,u3⟩:=j.o;have v6:=zi b H;clear b)
   |(go_at_call 230;apply(C1.o d E9).mono;rintro e I⟨rfl,b⟩;have f:=G7 b;have h:=G7 (AI.o.below b);obtain⟨i1,i2,i3,i4,i5,i6,i7,t0,t1,t2,t3⟩:=h.o;have H:=zi b o;clear b))
  go_ret;exact⟨rfl,u.o.trans (i.o.mono u.o.size)⟩
 | true=>
 cases C with
 | false=>
  go_wp2_with(first
   |(go_at_call 230;apply(C3.o E i.o).mono;rintro e w7⟨rfl,b⟩;have p:G6 (BQ d w7):=i.o.trans (b.mono i.o.size);have x:=G7 (j.o.below b);obtain⟨m1,m2,m3,m4,m5,m6,m7,x0,x1,x2,x3⟩:=x.o;have v7:=zi b v6;clear b)
   |(go_at_call 230;apply(C2.o I f.o).mono;rintro e E⟨rfl,b⟩;have i:G6 (BQ d E):=f.o.trans (b.mono f.o.size);have j:=G7 (h.o.below b);obtain⟨j1,j2,j3,j4,j5,j6,j7,u0,u1,u2,u3⟩:=j.o;have v6:=zi b H;clear b)
   |(go_at_call 230;apply(C1.o d E9).mono;rintro e I⟨rfl,b⟩;have f:=G7 b;have h:=G7 (AI.o.below b);obtain⟨i1,i2,i3,i4,i5,i6,i7,t0,t1,t2,t3⟩:=h.o;have H:=zi b o;clear b))
  go_ret;exact⟨rfl,u.o.trans (p.o.mono u.o.size)⟩
 | true=>
  go_wp2_with(first
   |(go_at_call 231;apply(C4.o w7 p.o).mono;rintro e w8⟨rfl,b⟩;have b0:G6 (BQ d w8):=p.o.trans (b.mono p.o.size);clear b)
   |(go_at_call 230;apply(C3.o E i.o).mono;rintro e w7⟨rfl,b⟩;have p:G6 (BQ d w7):=i.o.trans (b.mono i.o.size);have x:=G7 (j.o.below b);obtain⟨m1,m2,m3,m4,m5,m6,m7,x0,x1,x2,x3⟩:=x.o;have v7:=zi b v6;clear b)
   |(go_at_call 230;apply(C2.o I f.o).mono;rintro e E⟨rfl,b⟩;have i:G6 (BQ d E):=f.o.trans (b.mono f.o.size);have j:=G7 (h.o.below b);obtain⟨j1,j2,j3,j4,j5,j6,j7,u0,u1,u2,u3⟩:=j.o;have v6:=zi b H;clear b)
   |(go_at_call 230;apply(C1.o d E9).mono;rintro e I⟨rfl,b⟩;have f:=G7 b;have h:=G7 (AI.o.below b);obtain⟨i1,i2,i3,i4,i5,i6,i7,t0,t1,t2,t3⟩:=h.o;have H:=zi b o;clear b))
  go_ret;exact⟨rfl,u.o.trans (b0.o.mono u.o.size)⟩
theorem Re{α:Type}(l:List α)(d:α)(p:α->Bool):zC (λj=>p (l.getD j d)) l.length=l.findIdx? p:=by
 have c:∀j,(h:j<l.length)->l.getD j d=l[j]:=λj h=>by rw[zT,zn h];rfl
 cases h:l.findIdx? p with
 | none=>
  have b:=gu.1 h;exact Xq _ _ (λj a=>by show p (l.getD j d)=false;rw[c j a];exact b _ (qm a))
 | some k=>
  obtain⟨e,f,b⟩:=VH.1 h;exact Xp _ _ k e (λj a=>by show p (l.getD j d)=false;rw[c j (by omega)];simpa using b j a) (by show p (l.getD k d)=true;rw[c k e];exact f)
theorem Oo(s:zS)(g h i j:Y)(eff:BY)(r:U.Req)(ao:Option Addr)(cap o p:Nat)(w:J)(a:Yk w g h i j s)(v:JM s)(x:JL s)(y:∀c ∈ s.ifs,c.vals.length<=1000)(d:qK w ao r.marks)(f:U.qR r=true)(u:yF w)
  (q:w.cell? (G8 o 0)=some (S9 eff))(I:yV w p r ao cap):R8 223 #[.agg #[S9 s.eff,.bool s.who.1,g,.bool s.act.1,h,.bool s.on.1,i,j],RG o 0,RG p 0] w (G5 (.bool (De.Xt eff r s)) w):=by
 have b0:=λO:Obj=>nbl w O;have b:=λO:Obj=>IG s g h i j r ao cap (w.alloc O) (a.below (b0 O)) v x y (xh d (b0 O)) f (u.below (b0 O));have X:=λO:Obj=>zi (b0 O) q;obtain⟨z,B,C,D⟩:=I;have k:=λO:Obj=>zi (b0 O) z;have l:=λO:Obj=>zi (b0 O) B;have m:=λO:Obj=>zi (b0 O) C;have n:=λO:Obj=>zi (b0 O) D;obtain⟨M,y1,rfl,_⟩:=a.who;obtain⟨N,y2,rfl,_⟩:=a.act;obtain⟨P,y3,rfl,_⟩:=a.on;obtain⟨Q,y4,rfl,_⟩:=a.ifs;unfold De.Xt;obtain⟨A,t⟩:=Nm (De.Je s r);rw[t]at b |-;clear t a v x y d f u q z B C D;obtain⟨L,F,on,S⟩:=r;obtain⟨H,⟨T,s1⟩,⟨V,s2⟩,⟨W,s3⟩,R⟩:=s;unfold U.zX at b;simp only at b k l m n |-;have E:=G7 b;clear b
 cases hh:(H.toList==eff.toList) with
 | false=>
  rw[kS];go_enter func223,ntmps223;go_wp2_with fail;go_ret;exact⟨rfl,b0 _⟩
 | true=>
  rw[jY];go_enter func223,ntmps223;go_wp2_with(go_at_call 224;apply(E.o _).mono;rintro e w1⟨rfl,G⟩);go_ret;exact⟨rfl,(b0 _).trans (G.mono (b0 _).size)⟩
theorem XZ.few{b:List zS}(h:XZ b):∀s ∈ b,JM s/\JL s/\∀c ∈ s.ifs,c.vals.length<=1000:=
 λs a=>⟨h.2.2 s a,JL.of (h.2.1 s a),λc d=>by have:=((h.2.1 s a).cs c d).2.2.1;omega⟩
theorem Oq(b:List zS)(h:Y)(eff:BY)(r:U.Req)(ao:Option Addr)(cap:Nat)(w:J)(N:XG w h b)(z:XZ b)(p:qK w ao r.marks)(q:U.qR r=true)(L:yF w):R8 210 #[.agg #[h],S9 eff,U.zX r ao cap] w (G5 (.tuple #[.int .i64 (match De.Jr eff r b with|none=>0|some k=>((k+1:Nat):Int)),.bool (De.Jr eff r b).isSome]) w):=by
 obtain⟨d,j⟩:=Nm (w.alloc (L8 #[h] 80));have H:d.heap.size=w.heap.size+1:=by rw[<- j];simp
 have O:d.heap[w.heap.size]?=some (L8 #[h] 80):=by rw[<- j];exact zA w _
 have B:BQ w d:=by rw[<- j];exact nbl w _
 obtain⟨f,l⟩:=Nm (d.alloc (L8 #[S9 eff] 9));have Q:f.heap.size=w.heap.size+2:=by rw[<- l];simp[H]
 have P:f.heap[w.heap.size+1]?=some (L8 #[S9 eff] 9):=by rw[<- l,<- H];exact zA d _
 have v:BQ d f:=by rw[<- l];exact nbl d _
 obtain⟨g,y⟩:=Nm (f.alloc (L8 #[S9 r.who,S9 r.act,S9 r.on,TL ao r.marks.length cap] 35));have t:g.heap[w.heap.size+2]?=some (L8 #[S9 r.who,S9 r.act,S9 r.on,TL ao r.marks.length cap] 35):=by rw[<- y,<- Q];exact zA f _
 have x:BQ f g:=by rw[<- y];exact nbl f _
 have i:BQ w g:=B.trans ((v.trans (x.mono v.size)).mono B.size);have g0:g.cell? (G8 w.heap.size 0)=some h:=zi x (zi v (zg O 0).1);have I:g.cell? (G8 (w.heap.size+1) 0)=some (S9 eff):=zi x (zg P 0).1;have K:yV g (w.heap.size+2) r ao cap:=⟨(zg t 0).1,(zg t 1).1,(zg t 2).1,(zg t 3).1⟩
 have c:=Rk b h 223 #[RG (w.heap.size+1) 0,RG (w.heap.size+2) 0] (De.Xt eff r) g (by have:=z.1;omega) (qo func223 (by kernel_rfl) rfl) (N.below i)
  (λW s V X l3 lc T E G=>by
    obtain⟨f1,f2,f3⟩:=z.few s T;have m:BQ w W:=i.trans (E.mono i.size);exact Oo s V X l3 lc eff r ao cap (w.heap.size+1) (w.heap.size+2) W G f1 f2 f3 (xh p m) q (L.below m) (zi E I) (ky K E))
 rw[Re]at c;have n:De.Jr eff r b=b.findIdx? (De.Xt eff r):=rfl;rw[n]
 have o:∀k,b.findIdx? (De.Xt eff r)=some k->k<100:=λk M=>by
  have:=(VH.1 M).1
  have:=z.1
  omega
 obtain⟨F,hF⟩:=Nm (b.findIdx? (De.Xt eff r));rw[hF]at c o |-;obtain⟨a,S,rfl,_⟩:=N;have C:=G7 c;have A:G6 (((w.alloc (L8 #[TL a b.length S] 80)).alloc (L8 #[S9 eff] 9)).alloc (L8 #[S9 r.who,S9 r.act,S9 r.on,TL ao r.marks.length cap] 35)=g):=G7 (by rw[j,l,y]);have u:=G7 i;obtain⟨a4,R,on,ms⟩:=r;unfold U.zX;simp only at A |-;clear c hF n z p q L j l y O P t B v x i H Q I K
 cases F with
 | none=>
  simp only[Xa,uB]at C |-;go_enter func210,ntmps210
  go_upto_region 1 with fail
  rw[A.o];go_wp2_with(go_at_call 222;apply C.o.mono;rintro e w4⟨rfl,D⟩);go_ret2;exact⟨rfl,u.o.trans (D.mono u.o.size)⟩
 | some k=>
  have M:=o k rfl;simp only[yP,uC]at C |-;go_enter func210,ntmps210
  go_upto_region 1 with fail
  rw[A.o];go_wp2_with(go_at_call 222;apply C.o.mono;rintro e w4⟨rfl,D⟩);go_ret2;exact⟨by go_num,u.o.trans (D.mono u.o.size)⟩
def lC(F:Option (BY×Nat)):Y:=match F with
 | none => .tuple #[R5,R9 0,T9]
 | some (n,k) => .tuple #[S9 n,R9 ((k:Nat):Int),L6]
theorem Bc(eff:BY)(r:U.Req)(L:List zH)(k:Nat)(h:k<L.length):De.jq eff r (L.drop k)=match De.Jr eff r L[k].2 with
  | some i=>some (L[k].1,i+1)
  | none=>De.jq eff r (L.drop (k+1)):=by
 rw[jD h]
 rfl
theorem WY(L:List zH)(lv:Y)(eff:BY)(r:U.Req)(ao:Option Addr)(cap:Nat)(M:Nat->Prop)(w:J)(hl:xZ M w lv L)(hd:∀x ∈ L,XZ x.2)(hn:L.length<=1000)(A:qK w ao r.marks)(B:U.qR r=true)(hE:yF w):R8 180 #[lv,S9 eff,U.zX r ao cap] w (G5 (lC (De.jq eff r L)) w):=by
 obtain⟨la,lc,rfl,_,_,_,hc⟩:=hl;have V:=λ(W:J) (v:BQ w W) (P:Y) (x:zH) (E:x ∈ L) (a:jf M w P x.2)=>Oq x.2 P eff r ao cap W ((FX a).below v) (hd x E) (xh A v) B (hE.below v);obtain⟨F,hF⟩:=Nm (De.jq eff r L);rw[hF];have f:=λk h=>Bc eff r L k h;have b0:BQ w (w.alloc (L8 #[S9 r.who,S9 r.act,S9 r.on,TL ao r.marks.length cap] 35)):=nbl w _;have X:yV (w.alloc (L8 #[S9 r.who,S9 r.act,S9 r.on,TL ao r.marks.length cap] 35)) w.heap.size r ao cap:=⟨by simp,by simp,by simp,by simp⟩;have⟨H,HC,HF,HD,G,I⟩:=M7 V hc hF f b0 X;clear V hc hF f b0 X A B hE hd;obtain⟨q,hq⟩:=Nm r;obtain⟨n,j,on,R⟩:=r;unfold U.zX at H |-;simp only at H G I |-;go_enter func180,ntmps180;go_wp2
 go_loopw [15] (λi wr=>∃k:Nat,k<=L.length/\i=R9 k/\De.jq eff ⟨n,j,on,R⟩ (L.drop k)=F/\BQ w wr/\yV wr w.heap.size ⟨n,j,on,R⟩ ao cap) (λi _=>L.length-(intOf i).toNat)
 case atStart=>exact⟨0,zD _,rfl,HF.o,G.o,I.o⟩
 case round=>
  obtain⟨k,hk,rfl,z,hw,y⟩:=hrel;have⟨s,u,K⟩:=M4 z hw y;obtain⟨z0,z1,z2,z3⟩:=y;clear z hw G I
  by_cases hlt:k<L.length
  ·obtain⟨gb,o,P,rfl,_,q0,q1,a⟩:=HC.o k L[k] (zn hlt);obtain⟨da,dc,rfl,_⟩:=FX a;have p0:=zi u.o q0;have S:=zi u.o q1;have b:=HD.o k hlt;rw[s.o]at b;have p:=λ(W:J) (v:BQ w W)=>H.o W v _ L[k] (qm hlt) a;obtain⟨x,E⟩:=Nm (L[k]);simp only[E]at p0 S b p;obtain⟨nm,ss⟩:=x;simp only at p0 S b p;obtain⟨m,hm⟩:=Nm ss.length;simp only[hm]at S p;obtain⟨D,hD⟩:=Nm (De.Jr eff ⟨n,j,on,R⟩ ss);simp only[hD]at b p;have c:=λO=>u.o.alloc u.o.size O;have d:=λO:Obj=>ky K.o (nbl wr O);have v0:=λO:Obj=>(d O).1;have v1:=λO:Obj=>(d O).2.1;have v2:=λO:Obj=>(d O).2.2.1;have v3:=λO:Obj=>(d O).2.2.2;simp only at v0 v1 v2 v3;have⟨C,t⟩:=D5 p b;clear p b a q0 q1 E hm hD
   cases D with
   | none=>
    simp only[uB]at C;go_wp2_with(go_at_call 210;apply(C.o _ (c _)).mono;rintro e T⟨rfl,l⟩;have g:G6 (BQ w T):=(c _).trans (l.mono (c _).size);have N:=G7 (ky (d _) l);clear l);refine⟨⟨k+1,by omega,by go_num,t.o.symm,g.o,N.o⟩,by simp[intOf];omega⟩
   | some i=>
    simp only[uC]at C;go_wp2_with(go_at_call 210;apply(C.o _ (c _)).mono;rintro e T⟨rfl,l⟩;have g:G6 (BQ w T):=(c _).trans (l.mono (c _).size);have c1:=zi l (zg (zA wr (L8 #[S9 nm,TL da m dc] 159)) 0).1;clear l);go_ret3;exact⟨by rw[t.o];rfl,g.o⟩
  have Q:k=L.length:=by omega
  subst Q;have e:=s.o;rw[JP]at e;have HE:=G7 e;clear e;go_wp2;go_ret3;exact⟨by rw[<- HE.o];rfl,u.o⟩
def vI(v l:Int)(n:BY)(k:Int):Y := .agg #[R9 v,R9 l,S9 n,R9 k]
def Js(F:Option (Nat×BY×Nat)):Y:=match F with
 | none => .tuple #[vI 0 0 ⟨#[]⟩ 0,T9]
 | some (i,n,k) => .tuple #[vI 0 ((i:Nat):Int) n ((k:Nat):Int),L6]
def vG(a b c d:Y):Obj := L8 #[a,b,c,d] 103
def QY:Obj:=vG (R9 0) (R9 0) R5 (R9 0)
theorem iR{W:J}{b:Nat}{f g i j:Y}(h:W.heap[b]?=some (vG f g i j))(a c d e:Y):((((W.setCell (G8 b 0) a).setCell (G8 b 1) c).setCell (G8 b 2) d).setCell (G8 b 3) e).heap[b]?=some (vG a c d e):=by
 have k:=yC W b 0 _ _ a h;have l:=yC _ b 1 _ _ c k;have m:=yC _ b 2 _ _ d l;exact yC _ b 3 _ _ e m
theorem lw(a:Nat->List zH)(eff:BY)(r:U.Req)(is:List Nat)(k:Nat)(h:k<is.length):De.yY a eff r (is.drop k)=match De.jq eff r (a is[k]) with
  | some (n,i)=>some (is[k],n,i)
  | none=>De.yY a eff r (is.drop (k+1)):=by
 rw[jD h]
 rfl
theorem mX(K:Nat)(C:StO)(eff:BY)(r:U.Req)(ao so:Option Addr)(cap sc:Nat)(is:List Nat)(M:Nat->Prop)(w:J)(h:yz M w K C)(hi:∀i ∈ is,i<4)(hn:is.length<=100)(hs:∀j,(hj:j<is.length)->∃gb o,so=some (G8 gb o)/\w.cell? (G8 gb (o+j))=some (R9 ((is[j]:Nat):Int)))(a0:qK w ao r.marks)(a1:U.qR r=true)(hE:yF w):R8 132 #[RG K 0,S9 eff,U.zX r ao cap,TL so is.length sc] w (G5 (Js (De.yY C eff r is)) w):=by
 have cL:=λ(W:J) (hb:BQ w W) (i:Nat) (A:i<4) (lv:Y) (hl:xZ M W lv (C i))=>WY (C i) lv eff r ao cap M W hl (λx hx=>(h.good i A).2.2 x hx) (by have:=(h.good i A).2.1;omega) (xh a0 hb) a1 (hE.below hb);obtain⟨F,hF⟩:=Nm (De.yY C eff r is);rw[hF];have m:=λk h=>lw C eff r is k h;obtain⟨z,S⟩:=Nm (w.alloc (L8 #[S9 r.who,S9 r.act,S9 r.on,TL ao r.marks.length cap] 35));have s1:z.heap.size=w.heap.size+1:=by rw[<- S];simp
 have n1:z.heap[w.heap.size]?=some (L8 #[S9 r.who,S9 r.act,S9 r.on,TL ao r.marks.length cap] 35):=by rw[<- S];exact zA w _
 have b1:BQ w z:=by rw[<- S];exact nbl w _
 obtain⟨Q,h2⟩:=Nm (z.alloc QY);have n2:Q.heap[w.heap.size+1]?=some QY:=by rw[<- h2,<- s1];exact zA z _
 have b2:BQ z Q:=by rw[<- h2];exact nbl z _
 have bw:BQ w Q:=b1.trans (b2.mono b1.size);have g2:yV Q w.heap.size r ao cap:=ky ⟨(zg n1 0).1,(zg n1 1).1,(zg n1 2).1,(zg n1 3).1⟩ b2;have HW:G6 ((w.alloc (L8 #[S9 r.who,S9 r.act,S9 r.on,TL ao r.marks.length cap] 35)).alloc (L8 #[R9 0,R9 0,R5,R9 0] 103)=Q):=G7 (by rw[S];exact h2);have h5:K<w.heap.size:=by obtain⟨vs,hv,_⟩:=h.row;exact zt hv
 have⟨CL,HF,HD,HO,HI,HS,BW,G2,N2⟩:=W9 cL hF m h hi hs bw g2 n2;clear cL hF m h hi hs bw g2 n2 b1 b2 n1 S h2 s1 a0 a1 hE;obtain⟨t,l,on,ms⟩:=r;unfold U.zX at CL |-;simp only at CL HW |-;go_enter func132,ntmps132
 go_upto_region 1 with fail
 rw[HW.o];go_wp2_with fail
 go_loopw [17] (λi wr=>∃k:Nat,k<=is.length/\i=R9 k/\De.yY C eff ⟨t,l,on,ms⟩ (is.drop k)=F/\BQ w wr/\yV wr w.heap.size ⟨t,l,on,ms⟩ ao cap/\wr.heap[w.heap.size+1]?=some QY) (λi _=>is.length-(intOf i).toNat)
 case atStart=>exact⟨0,zD _,rfl,HF.o,BW.o,G2.o,N2.o⟩
 case round=>
  obtain⟨k,hk,rfl,V,hw,T,u⟩:=hrel;have⟨N,y,b6,P⟩:=M5 V hw T u;obtain⟨z0,z1,z2,z3⟩:=T;simp only at z0 z1 z2 z3;have y0:=(zg u 0).1;have y1:=(zg u 1).1;have y2:=(zg u 2).1;have y3:=(zg u 3).1;have t0:=(zg u 0).2;have t1:=(zg u 1).2;have t2:=(zg u 2).2;have t3:=(zg u 3).2;simp at y0 y1 y2 y3 t0 t1 t2 t3;clear V hw u BW G2 N2
  by_cases hlt:k<is.length
  ·obtain⟨gb,o,rfl,q0⟩:=HS.o k hlt;have p0:=zi y.o q0;have s:=HD.o k hlt;rw[N.o]at s;have A:=HI.o is[k] (qm hlt);obtain⟨i,X⟩:=Nm (is[k]);simp only[X]at p0 s A;obtain⟨vs,B,p⟩:=(HO.o.below y.o).row;have c0:wr.cell? (G8 K i)=some (vs i):=(zg B i).1.trans (X7 vs A);obtain⟨la,ln,lc,hv⟩:∃a n c,vs i=TL a n c:=by obtain⟨a,c,e,_⟩:=p i A;exact⟨a,_,c,e⟩
   have H:=p i A;rw[hv]at c0 H;have E:=G7 (CL.o wr.drew y.o.drew i A _ (H.turn (zx.of (zf _ wr).drew)));obtain⟨D,hD⟩:=Nm (De.jq eff ⟨t,l,on,ms⟩ (C i));rw[hD]at E s;have O:=G7 s;have k0:(0:Int)<=(i:Int):=qd _;have k1:(i:Int)<4:=by omega
   clear B p hv H q0 s X hD
   cases D with
   | none=>
    unfold lC at E;simp only at E;go_wp2_with fail
    go_region_held3 (λg=>g.cell? (G8 K i)=some (TL la ln lc)/\g.cell? (G8 w.heap.size 0)=some (S9 t)/\g.cell? (G8 w.heap.size 1)=some (S9 l)/\g.cell? (G8 w.heap.size 2)=some (S9 on)/\g.cell? (G8 w.heap.size 3)=some (TL ao ms.length cap)) (go_keep) (first
     | ((go_at_call 180);apply E.o.mono;rintro e L⟨rfl,R⟩;have f:BQ wr L:=(zf _ wr).drew.trans R;have e0:=zi f c0;have e1:=zi f z0;have e2:=zi f z1;have e3:=zi f z2;have e4:=zi f z3;have b:=G7 ((f.block (w.heap.size+1) (zt P.o)).trans P.o);have b7:=G7 (ky b6.o f);have G:G6 (BQ w L):=y.o.trans (f.mono y.o.size);clear R f))
    all_goals
     go_wp2_with fail;go_roundw
     case rel=>exact⟨k+1,by omega,by go_num,O.o.symm,G.o,b7.o,b.o⟩
     case measure=>simp[intOf];omega
   | some d=>
    obtain⟨nm,I⟩:=d;unfold lC at E;simp only at E;go_wp2_with fail
    go_region_held3 (λg=>g.cell? (G8 K i)=some (TL la ln lc)/\g.cell? (G8 w.heap.size 0)=some (S9 t)/\g.cell? (G8 w.heap.size 1)=some (S9 l)/\g.cell? (G8 w.heap.size 2)=some (S9 on)/\g.cell? (G8 w.heap.size 3)=some (TL ao ms.length cap)) (go_keep) (first
     | ((go_at_call 180);apply E.o.mono;rintro e L⟨rfl,R⟩;have f:BQ wr L:=(zf _ wr).drew.trans R;have e0:=zi f c0;have e1:=zi f z0;have e2:=zi f z1;have e3:=zi f z2;have e4:=zi f z3;have b:=G7 ((f.block (w.heap.size+1) (zt P.o)).trans P.o);have G:G6 (BQ w L):=y.o.trans (f.mono y.o.size);clear R f))
    all_goals
     have y0:=(zg b.o 0).1;have y1:=(zg b.o 1).1;have y2:=(zg b.o 2).1;have y3:=(zg b.o 3).1;have t0:=(zg b.o 0).2;have t1:=(zg b.o 1).2;have t2:=(zg b.o 2).2;have t3:=(zg b.o 3).2;simp at y0 y1 y2 y3 t0 t1 t2 t3;have q:=iR b.o (R9 0) (R9 (i:Int)) (S9 nm) (R9 (I:Int));have r0:=(zg q 0).1;have r1:=(zg q 1).1;have r2:=(zg q 2).1;have r3:=(zg q 3).1;simp at r0 r1 r2 r3;have b4:G6 (BQ w ((((L.setCell (G8 (w.heap.size+1) 0) (R9 0)).setCell (G8 (w.heap.size+1) 1) (R9 (i:Int))).setCell (G8 (w.heap.size+1) 2) (S9 nm)).setCell (G8 (w.heap.size+1) 3) (R9 (I:Int)))):=G7 ((((G.o.setCell (by simp) _).setCell (by simp) _).setCell (by simp) _).setCell (by simp) _);clear q;go_wp2_with fail;exact zG (v := .tuple #[.agg #[R9 0,R9 (i:Int),S9 nm,R9 (I:Int)],L6]) (by simp[results,results132,go_sem,r0,r1,r2,r3]) rfl ⟨by rw[O.o];rfl,b4.o⟩
  have c3:k=is.length:=by omega
  subst c3;have e:=N.o;rw[JP]at e;have HE:=G7 e;have q:=iR P.o (R9 0) (R9 0) R5 (R9 0);have r0:=(zg q 0).1;have r1:=(zg q 1).1;have r2:=(zg q 2).1;have r3:=(zg q 3).1;simp at r0 r1 r2 r3;clear e q;go_wp2_with fail;exact zG (v := .tuple #[.agg #[R9 0,R9 0,R5,R9 0],T9]) (by simp[results,results132,go_sem,r0,r1,r2,r3]) rfl ⟨by rw[<- HE.o];rfl,(((y.o.setCell (by simp) _).setCell (by simp) _).setCell (by simp) _).setCell (by simp) _⟩
theorem Rc(a:Nat->List zH)(eff:BY)(r:U.Req)(i:Nat):(De.yY a eff r [i]).isSome=(De.jq eff r (a i)).isSome:=by
 simp only[De.yY]
 cases De.jq eff r (a i) with
 | none=>rfl
 | some d=>rfl
theorem zal(z:Nat)(k:StO)(i:Nat)(r:U.Req)(ao:Option Addr)(cap:Nat)(M:Nat->Prop)(w:J)(h:yz M w z k)(N:i<4)(t:qK w ao r.marks)(u:U.qR r=true)(O:yF w):R8 133 #[RG z 0,R9 ((i:Nat):Int),U.zX r ao cap] w (G5 (.bool (De.QQ k r i)) w):=by
 obtain⟨f,x⟩:=Nm (w.alloc (L8 #[S9 r.who,S9 r.act,S9 r.on,TL ao r.marks.length cap] 35));have v:f.heap[w.heap.size]?=some (L8 #[S9 r.who,S9 r.act,S9 r.on,TL ao r.marks.length cap] 35):=by rw[<- x];exact zA w _
 have p:BQ w f:=by rw[<- x];exact nbl w _
 obtain⟨z0,z1,z2,z3⟩:yV f w.heap.size r ao cap:=⟨(zg v 0).1,(zg v 1).1,(zg v 2).1,(zg v 3).1⟩;have G:BQ f (f.alloc (L8 #[R9 ((i:Nat):Int)] 3)):=nbl f _;have q:BQ w (f.alloc (L8 #[R9 ((i:Nat):Int)] 3)):=p.trans (G.mono p.size)
 have C:=mX z k De.jO r ao (some (G8 f.heap.size 0)) cap 1 [i] M (f.alloc (L8 #[R9 ((i:Nat):Int)] 3)) (h.below q) (λj y=>by simp at y;omega) (by simp) (λj y=>by
   simp at y;subst y;exact⟨_,_,rfl,by simp⟩) (xh t q) u (O.below q)
 obtain⟨E,m,l⟩:=(h.below p).row;have I:f.cell? (G8 z i)=some (E i):=(zg m i).1.trans (X7 E N);obtain⟨la,lc,Q⟩:∃a c,E i=TL a (k i).length c:=by obtain⟨a,c,e,_⟩:=l i N;exact⟨a,c,e⟩
 rw[Q]at I;have k0:(0:Int)<=(i:Int):=qd _;have k1:(i:Int)<4:=by omega
 have g:=Rc k De.jO r i;unfold De.QQ;rw[<- g];obtain⟨F,hF⟩:=Nm (De.yY k De.jO r [i]);rw[hF]at C |-;have s:(k i).isEmpty=decide ((k i).length=0):=by cases k i<;>simp
 rw[s];obtain⟨n,P⟩:=Nm ((k i).length);rw[P]at I |-;have⟨B,o,X,A⟩:=M5 x C p q;obtain⟨a2,a0,on,ms⟩:=r;unfold U.zX at o |-;simp only at o B z0 z1 z2 z3 |-;unfold De.jO at o;clear C hF g m l Q h t u O x p G q v s P
 by_cases hz:n=0
 ·subst hz;go_enter func133,ntmps133
  go_upto_region 1 with fail
  rw[B.o];go_wp2_with fail;go_ret;exact⟨rfl,X.o⟩
 have d:((n:Int)==0)=false:=by simp;omega
 rw[zI hz,XI]
 have e:∃D b,Js F=.tuple #[D,.bool b]/\b=F.isSome/\∃R S T V,D=vI R S T V:=by
  cases F with
  | none=>exact⟨_,_,rfl,rfl,_,_,_,_,rfl⟩
  | some d=>exact⟨_,_,rfl,rfl,_,_,_,_,rfl⟩
 obtain⟨D,b,K,L,R,S,T,V,rfl⟩:=e;rw[K]at o;rw[<- L];unfold vI at o;clear K L;go_enter func133,ntmps133
 go_upto_region 1 with fail
 rw[B.o];go_wp2_with(go_at_call 132;apply o.o.mono;rintro e w3⟨rfl,H⟩);go_ret;exact⟨rfl,(A.o.trans (H.mono A.o.size)).alloc (by have:=A.o.size;have:=H.size;omega) _⟩
def Pg.reqLen(r:U.Req):Prop:=r.who.size<=maxLen/\r.act.size<=maxLen/\r.on.size<=maxLen/\r.marks.length<=100000000000/\∀m ∈ r.marks,m.1.size<=maxLen/\m.2.size<=maxLen
theorem zaU(r:U.Req)(ao:Option Addr)(cap:Nat)(w:J)(F:qK w ao r.marks)(P:Pg.reqLen r)(D:uG w):R8 49 #[U.zX r ao cap] w (G5 (.bool (U.qR r)) w):=by
 obtain⟨y,p,on,o⟩:=r;obtain⟨I,K,L,M,N⟩:=P;simp only at I K L M N F
 have z:=λW G=>rR o ao cap W M (λj H=>by
  exact N (Zf o j) (by rw[Jt o j H];exact qm H)) (xh F G) (D.below G)
 generalize m:U.qR ⟨y,p,on,o⟩=Q;unfold U.qR at m;simp only at m;unfold U.zX;simp only;have b0:=λO=>nbl w O;have c1:=Vh y _ rfl I;have c2:=Vh p _ rfl K;have c3:=Vh on _ rfl L;have l:∀g,BQ w g->uG g:=λg h=>D.below h;clear F D
 cases d1:U.xH y with
 | false=>
  have e:Q=false:=by rw[<- m,d1];simp
  subst e;rw[d1]at c1;clear m d1 z c2 c3;go_enter func49,ntmps49;go_wp2_with(go_at_call 50;apply(c1 _ (l _ (b0 _))).mono;rintro e g⟨rfl,a⟩);go_ret;exact⟨rfl,(b0 _).trans (a.mono (by simp))⟩
 | true=>
 rw[d1]at c1
 cases d2:U.xH p with
 | false=>
  have e:Q=false:=by rw[<- m,d2];simp
  subst e;rw[d2]at c2;clear m d1 d2 z c3;go_enter func49,ntmps49
  go_wp2_with(first
   |(go_at_call 50;apply(c2 g (l _ b)).mono;rintro e k⟨rfl,c⟩;have d:BQ w k:=b.trans (c.mono b.size);obtain⟨s,u⟩:=qP c;have x:w.heap.size<k.heap.size:=by (have:=c.size;omega))
   |(go_at_call 50;apply(c1 _ (l _ (b0 _))).mono;rintro e g⟨rfl,a⟩;have b:BQ w g:=(b0 _).trans (a.mono (by simp));obtain⟨q,t⟩:=qP a;have v:w.heap.size<g.heap.size:=by (have:=a.size;simp at this;omega)))
  go_ret;exact⟨rfl,d⟩
 | true=>
 rw[d2]at c2
 cases d3:U.xH on with
 | false=>
  have e:Q=false:=by rw[<- m,d3];simp
  subst e;rw[d3]at c3;clear m d1 d2 d3 z;go_enter func49,ntmps49
  go_wp2_with(first
   |(go_at_call 50;apply(c3 k (l _ d)).mono;rintro e n⟨rfl,f⟩;have i:BQ w n:=d.trans (f.mono d.size);obtain⟨A,B⟩:=qP f;have C:w.heap.size<n.heap.size:=by (have:=f.size;omega))
   |(go_at_call 50;apply(c2 g (l _ b)).mono;rintro e k⟨rfl,c⟩;have d:BQ w k:=b.trans (c.mono b.size);obtain⟨s,u⟩:=qP c;have x:w.heap.size<k.heap.size:=by (have:=c.size;omega))
   |(go_at_call 50;apply(c1 _ (l _ (b0 _))).mono;rintro e g⟨rfl,a⟩;have b:BQ w g:=(b0 _).trans (a.mono (by simp));obtain⟨q,t⟩:=qP a;have v:w.heap.size<g.heap.size:=by (have:=a.size;simp at this;omega)))
  go_ret;exact⟨rfl,i⟩
 | true=>
 rw[d3]at c3
 by_cases d4:o.length<=10
 ·have e:Q=o.all U.jw:=by rw[<- m,d1,d2,d3,zB d4];simp
  have R:decide ((o.length:Int)<=10)=true:=P5;rw[<- e]at z;clear m d1 d2 d3 d4 e;go_enter func49,ntmps49
  go_wp2_with(first
   |(go_at_call 85;apply(z n i).mono;rintro e T⟨rfl,E⟩)
   |(go_at_call 50;apply(c3 k (l _ d)).mono;rintro e n⟨rfl,f⟩;have i:BQ w n:=d.trans (f.mono d.size);obtain⟨A,B⟩:=qP f;have C:w.heap.size<n.heap.size:=by (have:=f.size;omega))
   |(go_at_call 50;apply(c2 g (l _ b)).mono;rintro e k⟨rfl,c⟩;have d:BQ w k:=b.trans (c.mono b.size);obtain⟨s,u⟩:=qP c;have x:w.heap.size<k.heap.size:=by (have:=c.size;omega))
   |(go_at_call 50;apply(c1 _ (l _ (b0 _))).mono;rintro e g⟨rfl,a⟩;have b:BQ w g:=(b0 _).trans (a.mono (by simp));obtain⟨q,t⟩:=qP a;have v:w.heap.size<g.heap.size:=by (have:=a.size;simp at this;omega)))
  go_ret;exact⟨rfl,i.trans (E.mono i.size)⟩
 have e:Q=false:=by rw[<- m,zI d4];simp
 have R:decide ((o.length:Int)<=10)=false:=P6;subst e;clear m d1 d2 d3 d4 z;go_enter func49,ntmps49
 go_wp2_with(first
  |(go_at_call 50;apply(c3 k (l _ d)).mono;rintro e n⟨rfl,f⟩;have i:BQ w n:=d.trans (f.mono d.size);obtain⟨A,B⟩:=qP f;have C:w.heap.size<n.heap.size:=by (have:=f.size;omega))
  |(go_at_call 50;apply(c2 g (l _ b)).mono;rintro e k⟨rfl,c⟩;have d:BQ w k:=b.trans (c.mono b.size);obtain⟨s,u⟩:=qP c;have x:w.heap.size<k.heap.size:=by (have:=c.size;omega))
  |(go_at_call 50;apply(c1 _ (l _ (b0 _))).mono;rintro e g⟨rfl,a⟩;have b:BQ w g:=(b0 _).trans (a.mono (by simp));obtain⟨q,t⟩:=qP a;have v:w.heap.size<g.heap.size:=by (have:=a.size;simp at this;omega)))
 go_ret;exact⟨rfl,i⟩
end Go.Proofs.YtfjpcldndaiifaaGreatDoor
