/- P -/
import Derived.Test.YtdakgnaojakldaaGreatDoorG49
open Go.Proofs.Tryz
set_option maxRecDepth 100000
set_option maxHeartbeats 8000000
namespace Go.Proofs.YtdakgnaojakldaaGreatDoor
open Go.RowKit
def Xi(d:De.Dec):Value:=vT ((d.verdict:Nat):Int) ((d.layer:Nat):Int) d.doc ((d.stmt:Nat):Int)
def Xh(W:World)(b:Nat)(u0 u1 u2 u3:Value):Prop:=(W.cell? ⟨b,0,none⟩=some u0/\W.cell? ⟨b,1,none⟩=some u1/\W.cell? ⟨b,2,none⟩=some u2/\W.cell? ⟨b,3,none⟩=some u3)/\W.heap[b+1]?=some Q6
theorem Xh.below{W a:World}{b:Nat}{u0 u1 u2 u3:Value}(h:Xh W b u0 u1 u2 u3)(hb:Below W.heap.size W a):Xh a b u0 u1 u2 u3:=by
 obtain⟨⟨d,e,f,g⟩,c⟩:=h;exact⟨⟨zb hb d,zb hb e,zb hb f,zb hb g⟩,(hb.block _ (lt_of_block c)).trans c⟩
theorem Xh.cells{W:World}{b:Nat}{u0 u1 u2 u3:Value}(h:Xh W b u0 u1 u2 u3):(W.cell? ⟨b+1,0,none⟩=some (.int .i64 0)/\W.cell? ⟨b+1,1,none⟩=some (.int .i64 0)/\W.cell? ⟨b+1,2,none⟩=some (.string ⟨#[]⟩)/\W.cell? ⟨b+1,3,none⟩=some (.int .i64 0)) /\
  W.frozen? ⟨b+1,0,none⟩=false/\W.frozen? ⟨b+1,1,none⟩=false/\W.frozen? ⟨b+1,2,none⟩=false/\W.frozen? ⟨b+1,3,none⟩=false:=
 ⟨⟨(za h.2 0).1,(za h.2 1).1,(za h.2 2).1,(za h.2 3).1⟩,(za h.2 0).2,(za h.2 1).2,(za h.2 2).2,(za h.2 3).2⟩
theorem X3{W:World}{b:Nat}{g i j k:Value}(h:W.heap[b]?=some (yK g i j k))(a c d e:Value) :
  ((((W.setCell ⟨b,0,none⟩ a).setCell ⟨b,1,none⟩ c).setCell ⟨b,2,none⟩ d).setCell ⟨b,3,none⟩ e).cell? ⟨b,0,none⟩=some a /\
  ((((W.setCell ⟨b,0,none⟩ a).setCell ⟨b,1,none⟩ c).setCell ⟨b,2,none⟩ d).setCell ⟨b,3,none⟩ e).cell? ⟨b,1,none⟩=some c /\
  ((((W.setCell ⟨b,0,none⟩ a).setCell ⟨b,1,none⟩ c).setCell ⟨b,2,none⟩ d).setCell ⟨b,3,none⟩ e).cell? ⟨b,2,none⟩=some d /\
  ((((W.setCell ⟨b,0,none⟩ a).setCell ⟨b,1,none⟩ c).setCell ⟨b,2,none⟩ d).setCell ⟨b,3,none⟩ e).cell? ⟨b,3,none⟩=some e:=by
 have f:=U2 h a c d e;exact⟨(za f 0).1,(za f 1).1,(za f 2).1,(za f 3).1⟩
theorem fT{W:World}{b:Nat}{f g i j:Value}(h:W.heap[b]?=some (yK f g i j))(a c d e:Value)(O:Obj) :
  (((((W.setCell ⟨b,0,none⟩ a).setCell ⟨b,1,none⟩ c).setCell ⟨b,2,none⟩ d).setCell ⟨b,3,none⟩ e).alloc O).cell? ⟨b,0,none⟩=some a /\
  (((((W.setCell ⟨b,0,none⟩ a).setCell ⟨b,1,none⟩ c).setCell ⟨b,2,none⟩ d).setCell ⟨b,3,none⟩ e).alloc O).cell? ⟨b,1,none⟩=some c /\
  (((((W.setCell ⟨b,0,none⟩ a).setCell ⟨b,1,none⟩ c).setCell ⟨b,2,none⟩ d).setCell ⟨b,3,none⟩ e).alloc O).cell? ⟨b,2,none⟩=some d /\
  (((((W.setCell ⟨b,0,none⟩ a).setCell ⟨b,1,none⟩ c).setCell ⟨b,2,none⟩ d).setCell ⟨b,3,none⟩ e).alloc O).cell? ⟨b,3,none⟩=some e:=by
 obtain⟨r0,k,l,m⟩:=X3 h a c d e;have hb:=(Below.refl _ ((((W.setCell ⟨b,0,none⟩ a).setCell ⟨b,1,none⟩ c).setCell ⟨b,2,none⟩ d).setCell ⟨b,3,none⟩ e)).alloc (Nat.le_refl _) O;exact⟨zb hb r0,zb hb k,zb hb l,zb hb m⟩
theorem Xj{w W:World}{b:Nat}(hb:Below w.heap.size w W)(a:w.heap.size<=b)(c d e f:Value):Below w.heap.size w ((((W.setCell ⟨b,0,none⟩ c).setCell ⟨b,1,none⟩ d).setCell ⟨b,2,none⟩ e).setCell ⟨b,3,none⟩ f):=
 (((hb.setCell a _).setCell a _).setCell a _).setCell a _
theorem Cu(P:Nat)(st:StO)(r:Ref.Req)(ao:Option Addr)(cap:Nat)(M:Nat->Prop)(w:World)(h:ql M w P st)(x:xB w ao r.marks)(y:Ref.xY r=true)(hE:qW w) :
  Calls prog 46 #[.pointer (some ⟨P,0,none⟩),Ref.qi r ao cap] w λe Q=>e = .returned (Xi (De.Y4 st r))/\Below w.heap.size w Q:=by
 obtain⟨C,Y⟩:∃W,w.alloc (.cells #[.string r.who,.string r.act,.string r.on,.slice ao r.marks.length cap] 53)=W:=⟨_,rfl⟩;have s1:C.heap.size=w.heap.size+1:=by rw[<- Y];simp
 have n1:C.heap[w.heap.size]?=some (.cells #[.string r.who,.string r.act,.string r.on,.slice ao r.marks.length cap] 53):=by rw[<- Y];exact heap_alloc_new w _
 have b1:Below w.heap.size w C:=by rw[<- Y];exact nB w _
 obtain⟨H,h2⟩:∃W,C.alloc Q6=W:=⟨_,rfl⟩;have n2:H.heap[w.heap.size+1]?=some Q6:=by rw[<- h2,<- s1];exact heap_alloc_new C _
 have b2:Below C.heap.size C H:=by rw[<- h2];exact nB C _
 have bw:Below w.heap.size w H:=b1.trans (b2.mono b1.size);have bx:Xh H w.heap.size (.string r.who) (.string r.act) (.string r.on) (.slice ao r.marks.length cap):=⟨Xf (r:=r) (ao:=ao) (cap:=cap) ⟨(za n1 0).1,(za n1 1).1,(za n1 2).1,(za n1 3).1⟩ b2,n2⟩;have HW:Hid ((w.alloc (.cells #[.string r.who,.string r.act,.string r.on,.slice ao r.marks.length cap] 53)).alloc (.cells #[.int .i64 0,.int .i64 0,.string ⟨#[]⟩,.int .i64 0] 48)=H):=hid (by rw[Y];exact h2)
 have U:∀(W:World),Below w.heap.size w W->Calls prog 89 #[.pointer (some ⟨P,0,none⟩),.string De.Zy,Ref.qi r ao cap,.slice (some ⟨W.heap.size,0,none⟩) 4 4] (W.alloc (.cells #[.int .i64 0,.int .i64 1,.int .i64 2,.int .i64 3] 3)) λe Q=>e = .returned (QK (De.yY st De.Zy r [0,1,2,3]))/\Below W.heap.size W Q:=by
  intro W hb;have L:Below W.heap.size W (W.alloc (.cells #[.int .i64 0,.int .i64 1,.int .i64 2,.int .i64 3] 3)):=nB W _;have n:=hb.trans (L.mono hb.size);refine (KV P st De.Zy r ao (some ⟨W.heap.size,0,none⟩) cap 4 [0,1,2,3] M _ (h.below n) (λj D=>by simp at D;omega) (by simp) (λj D=>?_) (vo x n) y (hE.below n)).mono (λe Q ⟨he,N⟩=>⟨he,L.trans (N.mono L.size)⟩);refine⟨W.heap.size,0,rfl,?_⟩;simp at D;rw[Nat.zero_add,(za (heap_alloc_new W (.cells #[.int .i64 0,.int .i64 1,.int .i64 2,.int .i64 3] 3)) j).1]
  rcases lt4 D with rfl|rfl|rfl|rfl<;>rfl
 have T:∀(W:World),Below w.heap.size w W->Calls prog 89 #[.pointer (some ⟨P,0,none⟩),.string De.jX,Ref.qi r ao cap,.slice (some ⟨W.heap.size,0,none⟩) 2 2] (W.alloc (.cells #[.int .i64 2,.int .i64 3] 3)) λe Q=>e = .returned (QK (De.yY st De.jX r [2,3]))/\Below W.heap.size W Q:=by
  intro W hb;have L:Below W.heap.size W (W.alloc (.cells #[.int .i64 2,.int .i64 3] 3)):=nB W _;have n:=hb.trans (L.mono hb.size);refine (KV P st De.jX r ao (some ⟨W.heap.size,0,none⟩) cap 2 [2,3] M _ (h.below n) (λj D=>by simp at D;omega) (by simp) (λj D=>?_) (vo x n) y (hE.below n)).mono (λe Q ⟨he,N⟩=>⟨he,L.trans (N.mono L.size)⟩);refine⟨W.heap.size,0,rfl,?_⟩;simp at D;rw[Nat.zero_add,(za (heap_alloc_new W (.cells #[.int .i64 2,.int .i64 3] 3)) j).1]
  rcases (show j=0\/j=1 by omega) with rfl|rfl<;>rfl
 have cP:=λ(W:World) (hb:Below w.heap.size w W) (i:Nat) (h4:i<4)=>IX P st i r ao cap M W (h.below hb) h4 (vo x hb) y (hE.below hb);have c0:=λW hb=>cP W hb 0 (by omega);have c1:=λW hb=>cP W hb 1 (by omega);unfold De.Y4;obtain⟨F1,Z⟩:∃F,De.yY st De.Zy r [0,1,2,3]=F:=⟨_,rfl⟩;obtain⟨F2,a0⟩:∃F,De.yY st De.jX r [2,3]=F:=⟨_,rfl⟩;obtain⟨P0,a1⟩:∃F,De.Xt st r 0=F:=⟨_,rfl⟩;obtain⟨P1,a2⟩:∃F,De.Xt st r 1=F:=⟨_,rfl⟩;rw[Z] at U |-;rw[a0] at T |-;rw[a1] at c0 |-;rw[a2] at c1 |-;obtain⟨who,act,on,ms⟩:=r;unfold Ref.qi at U T c0 c1 |-;simp only at U T c0 c1 HW bx |-;unfold De.Zy at U;unfold De.jX at T;have S:=hid U;have R:=hid T;have C0:=hid c0;have C1:=hid c1;have E:=hid bw;have BX:=hid bx;obtain⟨⟨z0,z1,z2,z3⟩,_⟩:=bx;clear U T c0 c1 cP Z a0 a1 a2 h x y hE Y h2 s1 n1 n2 b1 b2 bw;go_enter func46,ntmps46
 go_upto_region 1 with fail
 rw[HW.out]
 cases F1 with
 | some d=>
  obtain⟨i,nm,k⟩:=d;unfold QK vT at S;simp only at S
  go_upto_region 2 with (go_at_call 89;refine (S.out H E.out).mono ?_;rintro e V ⟨rfl,I⟩;have q:=hid (E.out.trans (I.mono E.out.size));have o:=hid (BX.out.below I);clear I)
  obtain⟨⟨y0,y1,y2,y3⟩,t0,t1,t2,t3⟩:=o.out.cells;have d9:w.heap.size+1<V.heap.size:=lt_of_block o.out.2;obtain⟨r0,z,A,B⟩:=fT o.out.2 (.int .i64 2) (.int .i64 (i:Int)) (.string nm) (.int .i64 (k:Int)) (.cells #[.int .i64 2,.int .i64 (i:Int),.string nm,.int .i64 (k:Int)] 48);have a:=hid (Xj (b:=w.heap.size+1) q.out (by omega) (.int .i64 2) (.int .i64 (i:Int)) (.string nm) (.int .i64 (k:Int)));go_wp2_with fail;exact bodyPost_ret (v := .agg #[.int .i64 2,.int .i64 (i:Int),.string nm,.int .i64 (k:Int)]) (by simp[results,results46,go_sem,r0,z,A,B]) rfl ⟨rfl,a.out.alloc a.out.size _⟩
 | none=>
  unfold QK vT at S;simp only at S
  go_upto_region 2 with (go_at_call 89;refine (S.out H E.out).mono ?_;rintro e V ⟨rfl,I⟩;have q:=hid (E.out.trans (I.mono E.out.size));have o:=hid (BX.out.below I);clear I)
  obtain⟨w4,hw4⟩:∃W,V.alloc (.cells #[.int .i64 0,.int .i64 0,.string ⟨#[]⟩,.int .i64 0] 48)=W:=⟨_,rfl⟩;have b4:Below V.heap.size V w4:=by rw[<- hw4];exact nB V _
  have f:=hid (q.out.trans (b4.mono q.out.size));have t:=hid (o.out.below b4);rw[hw4];obtain⟨⟨z0,z1,z2,z3⟩,_⟩:=t.out;clear b4 hw4 o q BX E
  cases P0 with
  | false=>
   go_upto_region 6 with (go_at_call 90;refine (C0.out w4 f.out).mono ?_;rintro e w5 ⟨rfl,s⟩;have g:=hid (f.out.trans (s.mono f.out.size));have c:=hid (t.out.below s);clear s)
   obtain⟨⟨y0,y1,y2,y3⟩,t0,t1,t2,t3⟩:=c.out.cells;have O:w.heap.size+1<w5.heap.size:=lt_of_block c.out.2;obtain⟨r0,z,A,B⟩:=X3 c.out.2 (.int .i64 3) (.int .i64 0) (.string ⟨#[]⟩) (.int .i64 0);have a:=hid (Xj (b:=w.heap.size+1) g.out (by omega) (.int .i64 3) (.int .i64 0) (.string ⟨#[]⟩) (.int .i64 0));go_wp2_with fail;exact bodyPost_ret (v := .agg #[.int .i64 3,.int .i64 0,.string ⟨#[]⟩,.int .i64 0]) (by simp[results,results46,go_sem,r0,z,A,B]) rfl ⟨rfl,a.out⟩
  | true=>
  cases P1 with
  | false=>
   go_upto_region 6 with (first
    | (go_at_call 90;refine (C1.out w5 g.out).mono ?_;rintro e w6 ⟨rfl,J⟩;have l:=hid (g.out.trans (J.mono g.out.size));have m:=hid (c.out.below J);clear J)
    | (go_at_call 90;refine (C0.out w4 f.out).mono ?_;rintro e w5 ⟨rfl,s⟩;have g:=hid (f.out.trans (s.mono f.out.size));have c:=hid (t.out.below s);obtain⟨⟨x0,x1,x2,x3⟩,_⟩:=c.out;clear s))
   obtain⟨⟨y0,y1,y2,y3⟩,t0,t1,t2,t3⟩:=m.out.cells;have O:w.heap.size+1<w6.heap.size:=lt_of_block m.out.2;obtain⟨r0,z,A,B⟩:=X3 m.out.2 (.int .i64 3) (.int .i64 0) (.string ⟨#[]⟩) (.int .i64 0);have a:=hid (Xj (b:=w.heap.size+1) l.out (by omega) (.int .i64 3) (.int .i64 0) (.string ⟨#[]⟩) (.int .i64 0));go_wp2_with fail;exact bodyPost_ret (v := .agg #[.int .i64 3,.int .i64 0,.string ⟨#[]⟩,.int .i64 0]) (by simp[results,results46,go_sem,r0,z,A,B]) rfl ⟨rfl,a.out⟩
  | true=>
   go_upto_region 7 with (first
    | (go_at_call 90;refine (C1.out w5 g.out).mono ?_;rintro e w6 ⟨rfl,J⟩;have l:=hid (g.out.trans (J.mono g.out.size));have m:=hid (c.out.below J);clear J)
    | (go_at_call 90;refine (C0.out w4 f.out).mono ?_;rintro e w5 ⟨rfl,s⟩;have g:=hid (f.out.trans (s.mono f.out.size));have c:=hid (t.out.below s);obtain⟨⟨x0,x1,x2,x3⟩,_⟩:=c.out;clear s))
   obtain⟨⟨x0,x1,x2,x3⟩,_⟩:=m.out
   cases F2 with
   | none=>
    unfold QK vT at R;simp only at R
    go_upto_region 8 with (go_at_call 89;refine (R.out w6 l.out).mono ?_;rintro e X ⟨rfl,K⟩;have u:=hid (l.out.trans (K.mono l.out.size));have p:=hid (m.out.below K);clear K)
    obtain⟨w8,hw8⟩:∃W,X.alloc (.cells #[.int .i64 0,.int .i64 0,.string ⟨#[]⟩,.int .i64 0] 48)=W:=⟨_,rfl⟩;have b8:Below X.heap.size X w8:=by rw[<- hw8];exact nB X _
    have c9:=hid (u.out.trans (b8.mono u.out.size));have G:=hid (p.out.below b8);rw[hw8];clear b8 hw8;obtain⟨⟨y0,y1,y2,y3⟩,t0,t1,t2,t3⟩:=G.out.cells;have O:w.heap.size+1<w8.heap.size:=lt_of_block G.out.2;obtain⟨r0,z,A,B⟩:=X3 G.out.2 (.int .i64 3) (.int .i64 0) (.string ⟨#[]⟩) (.int .i64 0);have a:=hid (Xj (b:=w.heap.size+1) c9.out (by omega) (.int .i64 3) (.int .i64 0) (.string ⟨#[]⟩) (.int .i64 0));go_wp2_with fail;exact bodyPost_ret (v := .agg #[.int .i64 3,.int .i64 0,.string ⟨#[]⟩,.int .i64 0]) (by simp[results,results46,go_sem,r0,z,A,B]) rfl ⟨rfl,a.out⟩
   | some d=>
    obtain⟨i,nm,k⟩:=d;unfold QK vT at R;simp only at R
    go_upto_region 8 with (go_at_call 89;refine (R.out w6 l.out).mono ?_;rintro e X ⟨rfl,K⟩;have u:=hid (l.out.trans (K.mono l.out.size));have p:=hid (m.out.below K);clear K)
    obtain⟨⟨y0,y1,y2,y3⟩,t0,t1,t2,t3⟩:=p.out.cells;have O:w.heap.size+1<X.heap.size:=lt_of_block p.out.2;obtain⟨r0,z,A,B⟩:=fT p.out.2 (.int .i64 1) (.int .i64 (i:Int)) (.string nm) (.int .i64 (k:Int)) (.cells #[.int .i64 1,.int .i64 (i:Int),.string nm,.int .i64 (k:Int)] 48);have a:=hid (Xj (b:=w.heap.size+1) u.out (by omega) (.int .i64 1) (.int .i64 (i:Int)) (.string nm) (.int .i64 (k:Int)));go_wp2_with fail;exact bodyPost_ret (v := .agg #[.int .i64 1,.int .i64 (i:Int),.string nm,.int .i64 (k:Int)]) (by simp[results,results46,go_sem,r0,z,A,B]) rfl ⟨rfl,a.out.alloc a.out.size _⟩
theorem Jy(P:Nat)(st:StO)(r:Ref.Req)(ao:Option Addr)(cap:Nat)(M:Nat->Prop)(w:World)(h:ql M w P st)(f:xB w ao r.marks)(N:Pg.reqLen r)(C:qW w) :
  Calls prog 25 #[.pointer (some ⟨P,0,none⟩),Ref.qi r ao cap] w λe w'=>e = .returned (.tuple #[Xi (De.yh st r).1,.int .i64 (De.yh st r).2])/\Below w.heap.size w w':=by
 obtain⟨g,o⟩:∃W,w.alloc (.cells #[.string r.who,.string r.act,.string r.on,.slice ao r.marks.length cap] 53)=W:=⟨_,rfl⟩;have U:g.heap.size=w.heap.size+1:=by rw[<- o];simp
 have p:g.heap[w.heap.size]?=some (.cells #[.string r.who,.string r.act,.string r.on,.slice ao r.marks.length cap] 53):=by rw[<- o];exact heap_alloc_new w _
 have y:Below w.heap.size w g:=by rw[<- o];exact nB w _
 obtain⟨n,s⟩:∃W,g.alloc Q6=W:=⟨_,rfl⟩;have O:n.heap[w.heap.size+1]?=some Q6:=by rw[<- s,<- U];exact heap_alloc_new g _
 have z:Below g.heap.size g n:=by rw[<- s];exact nB g _
 have q:Below w.heap.size w n:=y.trans (z.mono y.size);have bx:Xh n w.heap.size (.string r.who) (.string r.act) (.string r.on) (.slice ao r.marks.length cap):=⟨Xf (r:=r) (ao:=ao) (cap:=cap) ⟨(za p 0).1,(za p 1).1,(za p 2).1,(za p 3).1⟩ z,O⟩;have x:Hid ((w.alloc (.cells #[.string r.who,.string r.act,.string r.on,.slice ao r.marks.length cap] 53)).alloc (.cells #[.int .i64 0,.int .i64 0,.string ⟨#[]⟩,.int .i64 0] 48)=n):=hid (by rw[o];exact s);have B:=LJ r ao cap n (vo f q) N (C.below q).d.tabs;have A:=λ(W:World) (hb:Below w.heap.size w W) (L:Ref.xY r=true)=>Cu P st r ao cap M W (h.below hb) (vo f hb) L (C.below hb);unfold De.yh;obtain⟨Q,D⟩:=Nm (Ref.xY r);rw[D] at B |-;obtain⟨Y,l⟩:∃d,De.Y4 st r=d:=⟨_,rfl⟩;rw[l] at A |-;have t:=hid q;have X:=hid bx;have m:=hid B
 cases Q with
 | false=>
  clear A B h f N C o s U p O y z q D l;obtain⟨who,act,on,ms⟩:=r;unfold Ref.qi at m |-;simp only[Bool.false_eq_true,if_false] at m x bx |-;obtain⟨⟨z0,z1,z2,z3⟩,_⟩:=bx;go_enter func25,ntmps25
  go_upto_region 1 with fail
  rw[x.out]
  go_upto_region 2 with (go_at_call 45;refine m.out.mono ?_;rintro e V ⟨rfl,k⟩;have c:=hid (t.out.trans (k.mono t.out.size));have a:=hid (X.out.below k);clear k)
  obtain⟨⟨y0,y1,y2,y3⟩,Z,t1,t2,t3⟩:=a.out.cells;have K:w.heap.size+1<V.heap.size:=lt_of_block a.out.2;obtain⟨r0,R,S,T⟩:=X3 a.out.2 (.int .i64 0) (.int .i64 0) (.string ⟨#[]⟩) (.int .i64 0);have j:=hid (Xj (b:=w.heap.size+1) c.out (by omega) (.int .i64 0) (.int .i64 0) (.string ⟨#[]⟩) (.int .i64 0));go_wp2_with fail;exact bodyPost_ret (v := .tuple #[.agg #[.int .i64 0,.int .i64 0,.string ⟨#[]⟩,.int .i64 0],.int .i64 11]) (by simp[results,results25,go_sem,r0,R,S,T]) rfl ⟨rfl,j.out⟩
 | true=>
  have u:=hid (λ(W:World) (hb:Below w.heap.size w W)=>A W hb D);clear A B h f N C o s U p O y z q D l;obtain⟨who,act,on,ms⟩:=r;obtain⟨J,H,I,G⟩:=Y;unfold Ref.qi at m u |-;unfold Xi vT at u;simp only[if_true] at m u x bx |-;obtain⟨⟨z0,z1,z2,z3⟩,_⟩:=bx;go_enter func25,ntmps25
  go_upto_region 1 with fail
  rw[x.out]
  go_upto_region 3 with (go_at_call 45;refine m.out.mono ?_;rintro e V ⟨rfl,k⟩;have c:=hid (t.out.trans (k.mono t.out.size));have a:=hid (X.out.below k);clear k)
  obtain⟨⟨x0,x1,x2,x3⟩,_⟩:=a.out
  go_wp2_with (go_at_call 46;refine (u.out V c.out).mono ?_;rintro e w4 ⟨rfl,F⟩;have E:=hid (c.out.trans (F.mono c.out.size));have i:=hid (a.out.below F);clear F;obtain⟨⟨y0,y1,y2,y3⟩,Z,t1,t2,t3⟩:=i.out.cells;have K:w.heap.size+1<w4.heap.size:=lt_of_block i.out.2;obtain⟨r0,R,S,T⟩:=X3 i.out.2 (.int .i64 ((J:Nat):Int)) (.int .i64 ((H:Nat):Int)) (.string I) (.int .i64 ((G:Nat):Int));have j:=hid (Xj (b:=w.heap.size+1) E.out (by omega) (.int .i64 ((J:Nat):Int)) (.int .i64 ((H:Nat):Int)) (.string I) (.int .i64 ((G:Nat):Int))))
  exact bodyPost_ret (v := .tuple #[.agg #[.int .i64 ((J:Nat):Int),.int .i64 ((H:Nat):Int),.string I,.int .i64 ((G:Nat):Int)],.int .i64 0]) (by simp[results,results25,go_sem,r0,R,S,T]) rfl ⟨rfl,j.out⟩
end Go.Proofs.YtdakgnaojakldaaGreatDoor
