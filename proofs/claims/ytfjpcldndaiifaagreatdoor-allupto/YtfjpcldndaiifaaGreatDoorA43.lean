/- P -/
import Derived.Test.YtfjpcldndaiifaaGreatDoorA42
open Go.Proofs.Tryz
set_option maxRecDepth 100000
set_option maxHeartbeats 4000000
namespace Go.Proofs.YtfjpcldndaiifaaGreatDoor
open Go.RowKit
theorem zaJ{w:J}{base:Nat}{e:TypeId}{g n c:Nat}{ms b:List (BY×BY)}(h:w.ownsRow base e 2 (TL (some (G8 g 0)) n c) n (ja (ms++b))):qK w (some (G8 g 0)) ms:=by
 refine .inr ⟨g,0,rfl,λj k=>?_⟩;have a:=λj u=>h.cells (g:=g) rfl j u;have d:=KH (ms++b) j (by simp;omega);rw[UR k]at d;have f:=a _ _ d.1;have i:=a _ _ d.2;rw[YF]at f i;exact⟨by rw[qV];exact f,by rw[qV];exact i⟩
theorem zaI{w:J}{a:Addr}{ms:List (BY×BY)}(c:∀j,(h:j<ms.length)->w.cell? (a.add (j*2))=some (S9 ms[j].1)/\w.cell? (a.add (j*2+1))=some (S9 ms[j].2)):qK w (some a) ms:=by
 by_cases h0:0<ms.length
 ·obtain⟨b,o,rfl⟩:=U2 (c 0 h0).1;refine .inr ⟨b,o,rfl,λj d=>?_⟩
  have:=c j d
  rw[addr_add,addr_add]at this;exact⟨this.1,by rw[JV];exact this.2⟩
 exact .inl (Yx (by omega))
theorem zaQ(a word c b on:BY)(w:J)(A:U.XE ⟨c,b,on,[]⟩)(z:a.size<=maxLen)(B:word.size*16<=140737488355328)(M:Env w):R8 10 #[S9 a,S9 word,.agg #[S9 c,S9 b,S9 on,R4]] w (G5 (.bool true) w):=by
 have r:=G7 A;clear A;have q:U.zX ⟨c,b,on,[]⟩ none 0=.agg #[S9 c,S9 b,S9 on,R4]:=rfl;have⟨t,s⟩:=D5 q q;clear q;obtain⟨⟨y,n⟩,m⟩:∃p,U.Yc a word ⟨c,b,on,[]⟩=p:=⟨_,rfl⟩;have k:=G7 m;clear m;go_enter func10,ntmps10;go_wp2_with fail;apply(Cf c b on _).mono;rintro e i⟨rfl,g⟩;have o:BQ w i:=(nbl w _).trans (g.mono (by simp));have V:w.heap.size+1<=i.heap.size:=by have:=g.size;simpa using this
 have G:i.cell? (G8 w.heap.size 0)=some (S9 c):=zi g (by simp);have H:i.cell? (G8 w.heap.size 1)=some (S9 b):=zi g (by simp);have I:i.cell? (G8 w.heap.size 2)=some (S9 on):=zi g (by simp);have K:i.cell? (G8 w.heap.size 3)=some R4:=zi g (by simp);clear g;go_wp2_with fail;rw[<- s.o];refine(EB a word ⟨c,b,on,[]⟩ none 0 _ (.inl rfl) r.o z B (M.below (o.alloc o.size _))).mono ?_;rw[k.o,s.o];rintro e j⟨rfl,h⟩;have x:=(zf i.heap.size i).alloc F7 (Obj.cells #[S9 c,S9 b,S9 on,R4] 35);have f:=x.trans (h.mono (by simp));have u:BQ w j:=o.trans (f.mono (by omega));have W:i.heap.size+1<=j.heap.size:=by have:=h.size;simpa using this
 have u0:j.cell? (G8 w.heap.size 0)=some (S9 c):=zi f G;have u1:j.cell? (G8 w.heap.size 1)=some (S9 b):=zi f H;have u2:j.cell? (G8 w.heap.size 2)=some (S9 on):=zi f I;have u3:j.cell? (G8 w.heap.size 3)=some R4:=zi f K;have C:j.cell? (G8 i.heap.size 0)=some (S9 c):=zi h (by simp);have D:j.cell? (G8 i.heap.size 1)=some (S9 b):=zi h (by simp);have E:j.cell? (G8 i.heap.size 2)=some (S9 on):=zi h (by simp);have F:j.cell? (G8 i.heap.size 3)=some R4:=zi h (by simp);clear h f x G H I K;go_wp2_with fail;rw[<- t.o];refine(Cx a word ⟨c,b,on,[]⟩ none 0 _ (.inl rfl) r.o z B).mono ?_;rw[k.o,t.o];rintro e S⟨rfl,d⟩;have v:BQ w S:=u.trans (d.mono u.size);have t0:=zi d u0;have t1:=zi d u1;have t2:=zi d u2;have t3:=zi d u3;have N:=zi d C;have O:=zi d D;have P:=zi d E;have Q:=zi d F;clear d u0 u1 u2 u3 C D E F;go_wp2_with fail;apply(EU c b on c b on _).mono;rintro e T⟨rfl,l⟩;have L:BQ w T:=v.trans (l.mono v.size);clear l t0 t1 t2 t3 N O P Q;go_wp2;go_ret;exact⟨rfl,L⟩
theorem zaR(d word f a on:BY)(ms:List (BY×BY))(s:Addr)(cap:Nat)(w:J)(V:U.XE ⟨f,a,on,ms⟩)(T:d.size<=maxLen)(W:word.size*16<=140737488355328)(S:ms.length<=1000000000)(hE:Env w)
  (D:∀j,(h:j<ms.length)->w.cell? (s.add (j*2))=some (S9 ms[j].1)/\w.cell? (s.add (j*2+1))=some (S9 ms[j].2)):R8 10 #[S9 d,S9 word,.agg #[S9 f,S9 a,S9 on,TL (some s) ms.length cap]] w (G5 (.bool true) w):=by
 have L:=G7 V;have R:U.zX ⟨f,a,on,ms⟩ (some s) cap=.agg #[S9 f,S9 a,S9 on,TL (some s) ms.length cap]:=rfl;have N:=G7 R;have x:=G7 D
 have I:G6 (0<ms.length->s.block<w.heap.size):=λP=>by
  obtain⟨b,o,rfl⟩:=U2 (D 0 P).1
  have:=(D 0 P).1
  rw[addr_add]at this;exact Qj _ _ this
 clear R V D;obtain⟨⟨y,n⟩,C⟩:∃p,U.Yc d word ⟨f,a,on,ms⟩=p:=⟨_,rfl⟩;have z:=G7 C;clear C;go_enter func10,ntmps10;go_wp2_with fail;have H:=(zf w.heap.size w).alloc F7 (Obj.cells #[S9 f,S9 a,S9 on,TL (some s) ms.length cap] 35);apply(Cg f a on ms s cap _ S (λj h=>⟨zi H (x.o j h).1,zi H (x.o j h).2⟩)).mono;rintro e r⟨g,c,rfl,l,q⟩;have E:BQ w r:=H.trans (l.mono (by simp));have z1:w.heap.size+1<=r.heap.size:=by have:=l.size;simpa using this
 have Q:U.zX ⟨f,a,on,ms⟩ (some (G8 g 0)) c=.agg #[S9 f,S9 a,S9 on,TL (some (G8 g 0)) ms.length c]:=rfl;have⟨M,t⟩:=D5 Q q;have K:w.heap.size<=g:=by have:=(q.lt g rfl).1;simp at this;omega
 clear Q q;have x0:r.cell? (G8 w.heap.size 0)=some (S9 f):=zi l (by simp);have x1:r.cell? (G8 w.heap.size 1)=some (S9 a):=zi l (by simp);have x2:r.cell? (G8 w.heap.size 2)=some (S9 on):=zi l (by simp);have x3:r.cell? (G8 w.heap.size 3)=some (TL (some s) ms.length cap):=zi l (by simp);clear l;go_wp2_with fail;rw[<- M.o];refine(EB d word ⟨f,a,on,ms⟩ (some (G8 g 0)) c _ (zaJ (t.o.alloc _)) L.o T W (hE.below (E.alloc E.size _))).mono ?_;rw[z.o,M.o];rintro e u⟨rfl,m⟩;have O:=(zf r.heap.size r).alloc F7 (Obj.cells #[S9 f,S9 a,S9 on,TL (some (G8 g 0)) ms.length c] 35);have i:=O.trans (m.mono (by simp));have F:BQ w u:=E.trans (i.mono (by omega));have z2:r.heap.size+1<=u.heap.size:=by have:=m.size;simpa using this
 have u0:u.cell? (G8 w.heap.size 0)=some (S9 f):=zi i x0;have u1:u.cell? (G8 w.heap.size 1)=some (S9 a):=zi i x1;have u2:u.cell? (G8 w.heap.size 2)=some (S9 on):=zi i x2;have u3:u.cell? (G8 w.heap.size 3)=some (TL (some s) ms.length cap):=zi i x3;have X:u.cell? (G8 r.heap.size 0)=some (S9 f):=zi m (by simp);have v1:u.cell? (G8 r.heap.size 1)=some (S9 a):=zi m (by simp);have v2:u.cell? (G8 r.heap.size 2)=some (S9 on):=zi m (by simp);have v3:u.cell? (G8 r.heap.size 3)=some (TL (some (G8 g 0)) ms.length c):=zi m (by simp);have v:=G7 (ownsRow_below t.o i);clear t;clear m i O x0 x1 x2 x3;go_wp2_with fail;rw[<- N.o];refine(Cx d word ⟨f,a,on,ms⟩ (some s) cap _ (xh (zaI x.o) F) L.o T W).mono ?_;rw[z.o,N.o];rintro e w3⟨rfl,k⟩;have G:BQ w w3:=F.trans (k.mono F.size);have t0:=zi k u0;have t1:=zi k u1;have t2:=zi k u2;have t3:=zi k u3;have s0:=zi k X;have s1:=zi k v1;have s2:=zi k v2;have s3:=zi k v3;have A:=G7 (ownsRow_below v.o k);clear v;clear k u0 u1 u2 u3 X v1 v2 v3;go_wp2_with fail;apply(zc1 f a on f a on ms s cap g c w.heap.size _ _ S K I.o (λj h=>⟨zi G (x.o j h).1,zi G (x.o j h).2⟩) A.o).mono;rintro e w4⟨rfl,B⟩;have b4:BQ w w4:=G.trans B;clear B t0 t1 t2 t3 s0 s1 s2 s3;go_wp2;go_ret;exact⟨rfl,b4⟩
theorem jL.env{w:J}{a:Addr}(h:jL w a):Env w:=⟨h.q.p.d.tabs,h.q.p.d.max,h.q.p.d.err,⟨a,h.q.long⟩⟩
theorem zaP(a word c b on:BY)(l:Option Addr)(m d:Nat)(ms:List (BY×BY))(w:J)(n:QC w l m d ms)(j:U.XE ⟨c,b,on,ms⟩)(i:a.size<=maxLen)(k:word.size*16<=140737488355328)(o:ms.length<=1000000000)(f:Env w):R8 10 #[S9 a,S9 word,.agg #[S9 c,S9 b,S9 on,TL l m d]] w (G5 (.bool true) w):=by
 obtain⟨g,h⟩:=n
 rcases h with⟨rfl,rfl,rfl⟩|⟨ad,rfl,hc⟩
 ·subst g;exact zaQ a word c b on w j i k f
 subst g;exact zaR a word c b on ms ad d w j i k o f hc
theorem zef(t:J)(M:Addr)(N:jL t M)(L:Nat->Nat)(w:J)(C:Nat)(B z:Y)(s:List xK)(m:Nat)(h:xL t L w C B z s m)(j:vR s)(A:0<s.length)(a l:Int)(name b f d on:BY)(o:Option Addr)(q p:Nat)(ms:List (BY×BY))(G:QC t o q p ms)(H:U.XE ⟨f,d,on,ms⟩)(P:name.size<=maxLen)(Q:b.size*16<=140737488355328)(O:ms.length<=1000000000):R8 5 #[RG C 0,ut 9 a l name b f d on o q p] w (Xb t L w C s.length m):=by
 unfold ut;obtain⟨x,g⟩:=Nm (w.alloc (L8 #[R9 9,R9 a,R9 l,S9 name,S9 b,S9 f,S9 d,S9 on,TL o q p] 37));have y:BQ w x:=by rw[<- g];exact nbl w _
 have n:x.heap[w.heap.size]?=some (L8 #[R9 9,R9 a,R9 l,S9 name,S9 b,S9 f,S9 d,S9 on,TL o q p] 37):=by rw[<- g];exact zA w _
 have r:=h.below y;have c:=λk=>(zg n k).1;have R:=c 0;have S:=c 3;have T:=c 4;have V:=c 5;have X:=c 6;have k7:=c 7;have k8:=c 8;simp at R S T V X k7 k8;have F:=zaP name b f d on o q p ms x (G.below r.low) H P Q O (N.below r.low).env;have⟨I,K,v,i,u⟩:=M6 F r y g j;clear F r y g j n h c H G;go_enter func5,ntmps5
 go_upto_region 1 with fail
 rw[i.o];clear i;go_wp2_with(go_at_call 10;apply I.o.mono;rintro e w2⟨rfl,E⟩;have D:=G7 E;clear E);go_ret;exact⟨L,_,_,_,m,rfl,(xw.of v.o).trans (xw.of D.o),K.o.below D.o,u.o,ze _,by omega,by omega,A⟩
theorem oD(w0:J)(L:Nat->Nat)(w:J)(yb:Nat)(d2 c1:Y)(t:List xK)(m:Nat)(h:xL w0 L w yb d2 c1 t m)(z:vR t)(s:0<t.length)(c5:t.length<=100000000)(a l:Int)(name k F v on:BY)(ma:Option Addr)(mn mc:Nat)(hA:I64 a)(hs:name.size<=maxLen):R8 5 #[RG yb 0,ut 3 a l name k F v on ma mn mc] w (Xb w0 L w yb t.length m):=by
 unfold ut;obtain⟨f,o⟩:=Nm (w.alloc (L8 #[R9 3,R9 a,R9 l,S9 name,S9 k,S9 F,S9 v,S9 on,TL ma mn mc] 37));have b1:BQ w f:=by rw[<- o];exact nbl w _
 have q:f.heap[w.heap.size]?=some (L8 #[R9 3,R9 a,R9 l,S9 name,S9 k,S9 F,S9 v,S9 on,TL ma mn mc] 37):=by rw[<- o];exact zA w _
 have h1:=h.below b1;obtain⟨g,pc,p,rfl,X,A,S,V,T,c3⟩:=h1.pick a s;have k0:=(zg q 0).1;have k1:=(zg q 1).1;simp at k0 k1;have cp:=λW=>KV a t.length W hA s (by omega);obtain⟨n,hn⟩:=Nm t.length;obtain⟨i,hi⟩:=Nm (Kp.kM a t.length);simp only[hi]at A V T X cp;have c:=λb (R:L b≠0)=>(h.base b R).2;have c7:=(h.off i p A).2;have c6:=(h.ref i p A).2.1;have a1:=(h.ref i p A).2.2;have g4:p.ob<w.heap.size:=c _ (by omega);have f4:p.cb<w.heap.size:=c _ (by omega);have a2:∀g,p.lv.ownBlock=some g->g<w.heap.size:=λg hg=>c _ (by have:=a1 g hg;omega);have I:=G7 (KT h z A);simp only[hn]at X s c5 S cp |-;have⟨CP,HN,HP,H1,u,b0,N,b3,f0,b4⟩:=RF cp hn A h1 q z o b1 a2 c;have i0:(0:Int)<=(i:Int):=qd _;have i1:(i:Int)<(n:Int):=by omega
 have f9:((n:Int)==0)=false:=by simp;omega
 clear cp hn hi A h1 q z o b1 h a2 c c7 c6 a1;go_enter func5,ntmps5
 go_upto_region 1 with fail
 rw[N.o];clear N
 go_upto_region 16 with fail
 go_cut [6] (λv6 wc=>v6=.pointer (some (G8 f.heap.size 0))/\wc=(f.alloc (L8 #[RG p.ob 0,RG p.cb 0] 47)).drew)
 case first=>
  go_region_held3 (λw'=>w'.cell? (G8 yb 0)=some (TL (some (G8 g 0)) n pc)/\w'.cell? (G8 w.heap.size 1)=some (R9 a)/\w'.cell? (G8 g (i*2))=some (RG p.ob 0)/\w'.cell? (G8 g (i*2+1))=some (RG p.cb 0)) (go_keep) (first|(go_at_call 11;apply(CP.o _).mono;rintro e w3⟨rfl,e3⟩;rw[e3];clear e3))
  all_goals
   go_wp2_with fail
   go_meet
   case rel=>exact⟨rfl,rfl⟩
 case rest=>
  obtain⟨rfl,C⟩:=hcut;have b2:BQ f wc:=by rw[C];exact(nbl f _).drew
  have r:wc.heap[f.heap.size]?=some (L8 #[RG p.ob 0,RG p.cb 0] 47):=by rw[C];exact zA f _
  clear C CP S V T c3 k0 k1;have O:=G7 (H1.o.below b2);have d:=(b2.block _ (zt u.o)).trans u.o;have h4:w.heap.size<f.heap.size:=zt u.o;have h5:f.heap.size<wc.heap.size:=zt r;have b8:G6 (xw L L w wc):=G7 ((xw.of b3.o).trans (xw.of b2));have H:G6 (∀b,Lm L b->b<w.heap.size):=G7 b4.o;have p0:=(zg r 0).1;have k0:=(zg d 0).1;have k2:=(zg d 2).1;have k3:=(zg d 3).1;have k4:=(zg d 4).1;simp at p0 k0 k2 k3 k4;have⟨K,P⟩:=D5 r d;clear r d b2;have j:=OI p.ob p.st l name (Lm L) wc (O.o.off i p HP.o).1 (λb R=>VN (H.o b R) (by omega)) hs;have Q:=λ(W:J) (hz:wc.heap.size<=W.heap.size) (hr:xM (Lm L) W p.cb p.lv p.ks)=>OH p.cb p.lv p.ks l name (Lm L) W hr (by have:=I.o.1;omega) hs (λb R=>xO (VN (H.o b R) (by omega)) hz);have B:=λ(W W':J) (e:Ending) (h:fU p.ks l name (Lm L) p.cb p.lv W e W')=>OJ I.o.2.2.2 h;obtain⟨E,y⟩:=Nm (YI p.st l name);rw[y]at j;simp only[y]at B;have d1:(E==E)=true:=by simp
  have⟨G,a9,b7⟩:=M4 j Q B;clear j Q B y;have M:=G7 (List.getElem?_set_self (l:=t) (a:={ p with st:=YJ p.st l name }) (zU.1 HP.o).1)
  go_wp2_with(first
   |(go_at_call 14;apply G.o.mono;rintro e w4⟨rfl,t4,o4⟩;have P4:=G7 (O.o.offSet HP.o t4 o4);have a0:=(t4.block _ (zt K.o) (by omega)).trans K.o;have D:=(t4.block _ (zt P.o) (by omega)).trans P.o;have r1:=(zg a0 1).1;have r2:=(zg D 2).1;have r3:=(zg D 3).1;simp at r1 r2 r3;have z4:=t4.size;clear t4 o4 a0 D)
   |(go_at_call 15;apply(a9.o w4 z4 (P4.o.2.ref i _ M.o).1).mono;rintro e w5 he;obtain⟨v5,g3,rfl,t5,r5,o5,a5⟩:=b7.o _ _ _ he;obtain⟨L5,s5,q5⟩:=P4.o.2.refSet M.o t5 r5 o5;have⟨S5,Q5,A5⟩:=M4 s5 q5 a5;clear he t5 r5 o5 s5 q5 a5))
  go_ret;have hq:=Q5.o;rw[List.set_set]at hq;exact⟨L5,_,_,_,m,rfl,(b8.o.trans P4.o.1).trans S5.o,hq,b0.o.set i A5.o,by rw[ZL];exact aW HN.o.symm,by rw[ZL,HN.o];omega,by omega,by rw[ZL,HN.o];exact s⟩
theorem zek(w0:J)(L:Nat->Nat)(w:J)(yb:Nat)(c8 b8:Y)(t:List xK)(m:Nat)(h:xL w0 L w yb c8 b8 t m)(C:vR t)(s:0<t.length)(c2:t.length<=100000000)(a l:Int)(name k I z on:BY)(ma:Option Addr)(mn mc:Nat)(hA:I64 a)(hs:name.size<=maxLen):R8 5 #[RG yb 0,ut 4 a l name k I z on ma mn mc] w (Xb w0 L w yb t.length m):=by
 unfold ut;obtain⟨f,o⟩:=Nm (w.alloc (L8 #[R9 4,R9 a,R9 l,S9 name,S9 k,S9 I,S9 z,S9 on,TL ma mn mc] 37));have b1:BQ w f:=by rw[<- o];exact nbl w _
 have q:f.heap[w.heap.size]?=some (L8 #[R9 4,R9 a,R9 l,S9 name,S9 k,S9 I,S9 z,S9 on,TL ma mn mc] 37):=by rw[<- o];exact zA w _
 have h1:=h.below b1;obtain⟨g,pc,p,rfl,V,D,R,T,S,c0⟩:=h1.pick a s;have k0:=(zg q 0).1;have k1:=(zg q 1).1;simp at k0 k1;have cp:=λW=>KV a t.length W hA s (by omega);obtain⟨n,hn⟩:=Nm t.length;obtain⟨i,hi⟩:=Nm (Kp.kM a t.length);simp only[hi]at D T S V cp;have c:=λb (hb:L b≠0)=>(h.base b hb).2;have c4:=(h.off i p D).2;have c3:=(h.ref i p D).2.1;have a0:=(h.ref i p D).2.2;have f3:p.ob<w.heap.size:=c _ (by omega);have e4:p.cb<w.heap.size:=c _ (by omega);have a1:∀g,p.lv.ownBlock=some g->g<w.heap.size:=λg hg=>c _ (by have:=a0 g hg;omega);have v:=G7 (KT h C D);simp only[hn]at V s c2 R cp |-;have⟨CP,HN,HP,H1,u,a9,N,b0,e1,b3⟩:=RF cp hn D h1 q C o b1 a1 c;have i0:(0:Int)<=(i:Int):=qd _;have i1:(i:Int)<(n:Int):=by omega
 have e9:((n:Int)==0)=false:=by simp;omega
 clear cp hn hi D h1 q C o b1 h a1 c c4 c3 a0;go_enter func5,ntmps5
 go_upto_region 1 with fail
 rw[N.o];clear N
 go_upto_region 16 with fail
 go_cut [6] (λv6 wc=>v6=.pointer (some (G8 f.heap.size 0))/\wc=(f.alloc (L8 #[RG p.ob 0,RG p.cb 0] 47)).drew)
 case first=>
  go_region_held3 (λw'=>w'.cell? (G8 yb 0)=some (TL (some (G8 g 0)) n pc)/\w'.cell? (G8 w.heap.size 1)=some (R9 a)/\w'.cell? (G8 g (i*2))=some (RG p.ob 0)/\w'.cell? (G8 g (i*2+1))=some (RG p.cb 0)) (go_keep) (first|(go_at_call 11;apply(CP.o _).mono;rintro e w3⟨rfl,e3⟩;rw[e3];clear e3))
  all_goals
   go_wp2_with fail
   go_meet
   case rel=>exact⟨rfl,rfl⟩
 case rest=>
  obtain⟨rfl,G⟩:=hcut;have b2:BQ f wc:=by rw[G];exact(nbl f _).drew
  have r:wc.heap[f.heap.size]?=some (L8 #[RG p.ob 0,RG p.cb 0] 47):=by rw[G];exact zA f _
  clear G CP R T S c0 k0 k1;have y:=G7 (H1.o.below b2);have d:=(b2.block _ (zt u.o)).trans u.o;have g1:w.heap.size<f.heap.size:=zt u.o;have g2:f.heap.size<wc.heap.size:=zt r;have b6:G6 (xw L L w wc):=G7 ((xw.of b0.o).trans (xw.of b2));have e2:G6 (∀b,Lm L b->b<w.heap.size):=G7 b3.o;have p0:=(zg r 0).1;have k0:=(zg d 0).1;have k2:=(zg d 2).1;have k3:=(zg d 3).1;have k4:=(zg d 4).1;simp at p0 k0 k2 k3 k4;have⟨M,O⟩:=D5 r d;clear r d b2;have j:=zdR p.ob p.st l name (Lm L) wc (y.o.off i p HP.o).1 hs;have Q:=λ(W:J) (hr:xM (Lm L) W p.cb p.lv p.ks)=>zdQ p.cb p.lv p.ks l name (Lm L) W hr (by have:=v.o.1;unfold maxLen;omega) hs v.o.2.2.1;have F:=λ(W W':J) (e:Ending) (h:gP p.ks l name W e W')=>zdS v.o.2.2.2 h;obtain⟨E,A⟩:=Nm (YX p.st l name);obtain⟨P,B⟩:=Nm (YW p.st l name);rw[A,B]at j;simp only[A,B]at F;have d1:(E==E)=true:=by simp
  have d2:(P.toList==P.toList)=true:=by simp
  have⟨K,a8,b5⟩:=M4 j Q F;clear j Q F A B
  go_wp2_with(first
   |(go_at_call 16;apply K.o.mono;rintro e w4⟨rfl,t4⟩;have B4:=G7 t4;have X:=(t4.block _ (zt M.o)).trans M.o;have H:=(t4.block _ (zt O.o)).trans O.o;have r1:=(zg X 1).1;have r2:=(zg H 2).1;have r3:=(zg H 3).1;simp at r1 r2 r3;clear t4 X H)
   |(go_at_call 17;apply(a8.o w4 ((y.o.below B4.o).ref i _ HP.o).1).mono;rintro e w5 he;obtain⟨rfl,t5⟩:=b5.o _ _ _ he;have B5:=G7 t5;clear he t5))
  go_ret;exact⟨L,_,_,_,m,rfl,(b6.o.trans (xw.of B4.o)).trans (xw.of B5.o),(y.o.below B4.o).below B5.o,a9.o,aW HN.o.symm,by rw[HN.o];omega,by omega,by rw[HN.o];exact s⟩
theorem zeh(w0:J)(L:Nat->Nat)(w:J)(yb:Nat)(d7 T:Y)(A:List xK)(m:Nat)(h:xL w0 L w yb d7 T A m)(G:vR A)(y:0<A.length)(d0:A.length<=100000000)(hm:m<=100000000)(a l:Int)(name r M D on:BY)(ma:Option Addr)(mn mc:Nat)(hA:I64 a):R8 5 #[RG yb 0,ut 5 a l name r M D on ma mn mc] w (Xb w0 L w yb A.length m):=by
 unfold ut;obtain⟨j,s⟩:=Nm (w.alloc (L8 #[R9 5,R9 a,R9 l,S9 name,S9 r,S9 M,S9 D,S9 on,TL ma mn mc] 37));have b1:BQ w j:=by rw[<- s];exact nbl w _
 have u:j.heap[w.heap.size]?=some (L8 #[R9 5,R9 a,R9 l,S9 name,S9 r,S9 M,S9 D,S9 on,TL ma mn mc] 37):=by rw[<- s];exact zA w _
 have h1:=h.below b1;obtain⟨g,pc,p,rfl,a4,H,a0,a2,a1,c8⟩:=h1.pick a y;have k0:=(zg u 0).1;have k1:=(zg u 1).1;simp at k0 k1;have cp:=λW=>KV a A.length W hA y (by omega);obtain⟨n,hn⟩:=Nm A.length;obtain⟨i,hi⟩:=Nm (Kp.kM a A.length);simp only[hi]at H a2 a1 a4 cp;have c:=λb (X:L b≠0)=>(h.base b X).2;have d3:=(h.off i p H).2;have d2:=(h.ref i p H).2.1;have a7:=(h.ref i p H).2.2;have h3:p.ob<w.heap.size:=c _ (by omega);have f7:p.cb<w.heap.size:=c _ (by omega);have a8:∀g,p.lv.ownBlock=some g->g<w.heap.size:=λg hg=>c _ (by have:=a7 g hg;omega);have C:=G7 (KT h G H);simp only[hn]at a4 y d0 a0 cp |-;have⟨CP,HN,HP,H1,B,b9,Q,c0,f1,c1⟩:=RF cp hn H h1 u G s b1 a8 c;have i0:(0:Int)<=(i:Int):=qd _;have i1:(i:Int)<(n:Int):=by omega
 have g4:((n:Int)==0)=false:=by simp;omega
 clear cp hn hi H h1 u G s b1 h a8 c d3 d2 a7;go_enter func5,ntmps5
 go_upto_region 1 with fail
 rw[Q.o];clear Q
 go_upto_region 16 with fail
 go_cut [6] (λv6 wc=>v6=.pointer (some (G8 j.heap.size 0))/\wc=(j.alloc (L8 #[RG p.ob 0,RG p.cb 0] 47)).drew)
 case first=>
  go_region_held3 (λw'=>w'.cell? (G8 yb 0)=some (TL (some (G8 g 0)) n pc)/\w'.cell? (G8 w.heap.size 1)=some (R9 a)/\w'.cell? (G8 g (i*2))=some (RG p.ob 0)/\w'.cell? (G8 g (i*2+1))=some (RG p.cb 0)) (go_keep) (first|(go_at_call 11;apply(CP.o _).mono;rintro e w3⟨rfl,e3⟩;rw[e3];clear e3))
  all_goals
   go_wp2_with fail
   go_meet
   case rel=>exact⟨rfl,rfl⟩
 case rest=>
  obtain⟨rfl,K⟩:=hcut;have b2:BQ j wc:=by rw[K];exact(nbl j _).drew
  have v:wc.heap[j.heap.size]?=some (L8 #[RG p.ob 0,RG p.cb 0] 47):=by rw[K];exact zA j _
  clear K CP a0 a2 a1 c8 k0 k1;have d:=G7 (H1.o.below b2);have f:=(b2.block _ (zt B.o)).trans B.o;have i7:w.heap.size<j.heap.size:=zt B.o;have i8:j.heap.size<wc.heap.size:=zt v;have c5:G6 (xw L L w wc):=G7 ((xw.of c0.o).trans (xw.of b2));have O:G6 (∀b,Lm L b->b<w.heap.size):=G7 c1.o;have p0:=(zg v 0).1;have k0:=(zg f 0).1;have k2:=(zg f 2).1;have k3:=(zg f 3).1;have k4:=(zg f 4).1;simp at p0 k0 k2 k3 k4;have⟨P,R⟩:=D5 v f;clear v f b2;have k:=zbd p.ob p.st l (Lm L) wc (d.o.off i p HP.o).1;have V:=λ(W:J) (hz:wc.heap.size<=W.heap.size) (hr:xM (Lm L) W p.cb p.lv p.ks)=>zbb p.cb p.lv p.ks l (Lm L) W hr (by have:=C.o.1;omega) C.o.2.1 (λb X=>xO (VN (O.o b X) (by omega)) hz);have I:=λ(W W':J) (e:Ending) (h:gH p.ks l W e W')=>zbe C.o.2.2.2 h;have z:=zbc (d.o.off i p HP.o).1.good l;obtain⟨E,F⟩:=Nm (YP l);obtain⟨S,t⟩:=Nm (Jw p.st l);rw[F,t]at k;rw[t]at z;simp only[F,t]at I;have d1:(E==E)=true:=by simp
  have⟨N,b8,c4⟩:=M4 k V I;clear k V I F t
  go_wp2_with(first
   |(go_at_call 18;apply N.o.mono;rintro e w4⟨h0,rfl,o,t4⟩;obtain⟨la,lc,e4⟩:=xe o;subst e4;have⟨O4,B4⟩:=D5 o t4;have a5:=(t4.block _ (zt P.o)).trans P.o;have a6:=(t4.block _ (zt R.o)).trans R.o;have r1:=(zg a5 1).1;have r2:=(zg a6 2).1;simp at r1 r2;have z4:=t4.size;clear t4 a5 a6 o)
   |(go_at_call 19;apply(b8.o w4 z4 ((d.o.below B4.o).ref i _ HP.o).1).mono;rintro e w5 he;obtain⟨h2,rfl,q,t5⟩:=c4.o _ _ _ he;obtain⟨g8,g9,e5⟩:=xe q;subst e5;have⟨O5,B5⟩:=D5 q t5;clear he t5 q)
   |(go_at_call 20;apply(zdf S _ _ _ _ w5 (ownsRow_below O4.o B5.o) O5.o (by omega)).mono;rintro e w6⟨rfl,t6⟩;have B6:=G7 t6;have z5:=B5.o.size;clear t6)
   |(go_at_call 21;refine(zfj (Lm L) wc w6 yb m _ T _ S (λb X=>VN (O.o b X) (by omega)) (by unfold Lm;rw[d.o.lyb];omega) d.o.play d.o.book (λg hg=>⟨by unfold Lm;rw[d.o.lbk g hg];omega,λe=>by have q1:=d.o.lbk g hg;rw[e,d.o.lyb]at q1;omega⟩) ((B4.o.trans (B5.o.mono z4)).trans (B6.o.mono (by omega))) (ownsRow_below (ownsRow_below O4.o B5.o) B6.o) z hm).mono ?_;rintro e w7 he;have HT:=G7 he;obtain⟨f5,r7,rfl,_⟩:=he))
  go_ret;obtain⟨L7,f6,s7,q7⟩:=d.o.bookAdd HT.o;exact⟨L7,_,_,_,m+1,rfl,c5.o.trans s7,q7,b9.o,aW HN.o.symm,by rw[HN.o];omega,by omega,by rw[HN.o];exact y⟩
theorem Tg:(prog.info? 47).map (λi=>(i.zero,i.size,i.bytes))=some (some (.agg #[.pointer none,.pointer none]),2,16):=by kernel_rfl
theorem Fb{w:J}{base:Nat}{e:TypeId}{size:Nat}{v:Y}{n:Nat}{xs:List Y}(h:w.ownsRow base e size v n xs):∃a c,v=TL a n c:=by
 rcases h.2 with⟨e,h0⟩|⟨g,cap,cur,e,_⟩
 ·exact⟨none,0,by rw[h0];exact e⟩
 exact⟨_,_,e⟩
theorem oF(w0:J)(L:Nat->Nat)(w:J)(f:Nat)(d0 b7:Y)(F:List xK)(m:Nat)(h:xL w0 L w f d0 b7 F m)(S:vR F)(c0:F.length<=100000000)(a l:Int)(name r G C on:BY)(ma:Option Addr)(mn mc:Nat):R8 5 #[RG f 0,ut 1 a l name r G C on ma mn mc] w (Xb w0 L w f F.length m):=by
 unfold ut;obtain⟨j1,hj,c2,c3,c4⟩:=qU Tg;obtain⟨s,t⟩:=Nm (w.alloc (L8 #[R9 1,R9 a,R9 l,S9 name,S9 r,S9 G,S9 C,S9 on,TL ma mn mc] 37));have b1:BQ w s:=by rw[<- t];exact nbl w _
 have V:s.heap[w.heap.size]?=some (L8 #[R9 1,R9 a,R9 l,S9 name,S9 r,S9 G,S9 C,S9 on,TL ma mn mc] 37):=by rw[<- t];exact zA w _
 have I:=h.below b1;have k0:=(zg V 0).1;simp at k0;obtain⟨pa,pc,rfl⟩:=Fb h.row;have cn:=zbh (λb=>b=s.heap.size) s rfl;obtain⟨n,hn⟩:=Nm F.length;obtain⟨xs,E⟩:=Nm (ZT F);have j:=I.row;have d:=I.play
 have p:∀g,(Value.slice pa F.length pc).ownBlock=some g->g≠f:=λg v e=>by
  have q1:=I.lps g v;rw[e,I.lyb]at q1;omega
 rw[hn]at j p d;rw[E]at j;have⟨b0,z,H,K,a7,N,A,M,CN,O⟩:=RF E hn h b1 S j d p cn t;have a0:f<s.heap.size:=zt d;clear E hn h b1 S j cn t I V p d;simp only[z.o]at c0 |-;go_enter func5,ntmps5
 go_upto_region 1 with fail
 rw[O.o];clear O
 go_upto_region 6 with(go_at_call 7;apply CN.o.mono;rintro e o⟨rfl,b2,o2⟩;have⟨B2,O2⟩:=D5 b2 o2;have D:=(b2.block f a0).trans A.o;have y0:=(zg D 0).1;simp at y0;have a9:=G7 D;obtain⟨f2,X,_⟩:=o2.row;have zo:=zt X;clear b2 o2 D X)
 have y1:=λ(O1 O2:Obj)=>((nbl o O1).alloc (by simp) O2);have B:=G7 (ownsRow_below N.o B2.o);have e4:=B2.o.size;go_wp2_with (at_builtin;refine Yp _ rfl _ _ 27 rfl 0 47 j1 (.agg #[.pointer none,.pointer none]) 2 16 underlying27 hj c2 c3 c4 rfl (by decide) (TL pa n pc) n xs rfl (World.ownsRow.alloc (World.ownsRow.alloc B.o _) _) (G8 (o.heap.size+1) 0) 1 1 [RG s.heap.size 0,RG o.heap.size 0] rfl rfl ?_ ?_ ?_ ?_ ?_ ?_)
 ·rw[show o.heap.size+1=(o.alloc (L8 #[R4] 45)).heap.size by simp];exact uQ _ _ _
 ·simp[Value.oneCell']
 ·unfold maxLen;omega
 ·omega
 ·exact zD _
 intro v5 w5 q i _ R;obtain⟨Q,c5,e5⟩:=Fb q;subst e5;have YA:=G7 (y1 (L8 #[R4] 45) (L8 #[RG s.heap.size 0,RG o.heap.size 0] 47));have u:=(i.block f (by simp;omega) (λe=>M.o f e.symm rfl)).trans ((YA.o.block f (by omega)).trans a9.o);have q5:=(zg u 0).1;have f5:=(zg u 0).2;simp at q5;have⟨P,c,a4,a8⟩:=M5 q i R u;clear q i R u y1;go_wp2_with fail;go_ret
 have c1:∀g,(Value.slice pa n pc).ownBlock=some g->g<w.heap.size:=λg v=>by
  have:=H.o.lps g (by rw[z.o];exact v)
  exact(H.o.base g (by omega)).2
 have z1:=K.o.size
 have y:∀b,w.heap.size<=b->b<o.heap.size+1+1->b≠f->(w5.setCell (G8 f 0) (TL Q (n+1) c5)).heap[b]?=((o.alloc (L8 #[R4] 45)).alloc (L8 #[RG s.heap.size 0,RG o.heap.size 0] 47)).heap[b]?:=λb I h2 h3=>
  (qy _ _ _ _ h3).trans (c.o.block b (by simpa using h2) (λe=>by have:=c1 b e.symm;omega))
 have d2:f<w.heap.size:=zt H.o.play
 have T:∀g,(Value.slice Q (n+1) c5).ownBlock=some g->(Value.slice pa n pc).ownBlock=some g\/g=o.heap.size+1+1:=λg v=>by
  rcases a4.o with e|e
  ·exact .inl (by rw[<- e];exact v)
  rw[v]at e;injection e with e
  exact .inr e
 have hT:zx (λb=>b=f\/(Value.slice pa n pc).ownBlock=some b) w (w5.setCell (G8 f 0) (TL Q (n+1) c5)):=
  ((((zx.of K.o).trans (zx.of B2.o)).trans (zx.of YA.o)).trans ⟨c.o.os,c.o.tape,c.o.output,c.o.size,λk hk b9=>c.o.block k hk (λe=>b9 (.inr e.symm))⟩).trans (zx.set w5 (.inl rfl) 0 _)
 obtain⟨L',s',q'⟩:=H.o.pairAdd (W':=w5.setCell (G8 f 0) (TL Q (n+1) c5)) (psv' := TL Q (n+1) c5) (cb:=o.heap.size) O2.o
  ((y s.heap.size z1 (by omega) (by omega)).trans (YA.o.block _ zo)) z1 ((y o.heap.size (by omega) (by omega) (by omega)).trans (((nbl _ _).block o.heap.size (by simp)).trans (zA o _))) (by omega) (by omega)
  (by rw[z.o];exact hT) (yC w5 f 0 _ _ _ a8.o) (by
    rw[z.o,b0.o]
    exact xz P.o (a:=G8 f 0) (λe=>by
     rcases T f e with e|e
     ·exact M.o f e rfl
     omega) _) (λg v=>by
    rw[z.o];exact(T g v).imp id (λe=>⟨by omega,by omega,by omega⟩))
 exact⟨L',_,_,_,m,rfl,s',q',a7.o.add Agree.start,by rw[qE,z.o];omega,by rw[qE,z.o];exact ze _,by omega,by rw[qE];exact Nat.succ_pos _⟩
end Go.Proofs.YtfjpcldndaiifaaGreatDoor
