/- P -/
import Derived.Test.YtdakgnaojakldaaGreatDoorS47
open Go.Proofs.Tryz
set_option maxRecDepth 100000
set_option maxHeartbeats 8000000
namespace Go.Proofs.YtdakgnaojakldaaGreatDoor
open Go.RowKit
def J6(d:De.Dec):Value:=kr ((d.verdict:Nat):Int) ((d.layer:Nat):Int) d.doc ((d.stmt:Nat):Int)
def Qi(W:World)(b:Nat)(u0 u1 u2 u3:Value):Prop:=(W.cell? ⟨b,0,none⟩=some u0/\W.cell? ⟨b,1,none⟩=some u1/\W.cell? ⟨b,2,none⟩=some u2/\W.cell? ⟨b,3,none⟩=some u3)/\W.heap[b+1]?=some Z5
theorem Qi.below{W a:World}{b:Nat}{u0 u1 u2 u3:Value}(h:Qi W b u0 u1 u2 u3)(hb:Below W.heap.size W a):Qi a b u0 u1 u2 u3:=by
 obtain⟨⟨d,e,f,g⟩,c⟩:=h;exact⟨⟨zg hb d,zg hb e,zg hb f,zg hb g⟩,(hb.block _ (lt_of_block c)).trans c⟩
theorem Qi.cells{W:World}{b:Nat}{u0 u1 u2 u3:Value}(h:Qi W b u0 u1 u2 u3):(W.cell? ⟨b+1,0,none⟩=some (.int .i64 0)/\W.cell? ⟨b+1,1,none⟩=some (.int .i64 0)/\W.cell? ⟨b+1,2,none⟩=some (.string ⟨#[]⟩)/\W.cell? ⟨b+1,3,none⟩=some (.int .i64 0)) /\
  W.frozen? ⟨b+1,0,none⟩=false/\W.frozen? ⟨b+1,1,none⟩=false/\W.frozen? ⟨b+1,2,none⟩=false/\W.frozen? ⟨b+1,3,none⟩=false:=
 ⟨⟨(ze h.2 0).1,(ze h.2 1).1,(ze h.2 2).1,(ze h.2 3).1⟩,(ze h.2 0).2,(ze h.2 1).2,(ze h.2 2).2,(ze h.2 3).2⟩
theorem Qk{W:World}{b:Nat}{g i j k:Value}(h:W.heap[b]?=some (xN g i j k))(a c d e:Value) :
  ((((W.setCell ⟨b,0,none⟩ a).setCell ⟨b,1,none⟩ c).setCell ⟨b,2,none⟩ d).setCell ⟨b,3,none⟩ e).cell? ⟨b,0,none⟩=some a /\
  ((((W.setCell ⟨b,0,none⟩ a).setCell ⟨b,1,none⟩ c).setCell ⟨b,2,none⟩ d).setCell ⟨b,3,none⟩ e).cell? ⟨b,1,none⟩=some c /\
  ((((W.setCell ⟨b,0,none⟩ a).setCell ⟨b,1,none⟩ c).setCell ⟨b,2,none⟩ d).setCell ⟨b,3,none⟩ e).cell? ⟨b,2,none⟩=some d /\
  ((((W.setCell ⟨b,0,none⟩ a).setCell ⟨b,1,none⟩ c).setCell ⟨b,2,none⟩ d).setCell ⟨b,3,none⟩ e).cell? ⟨b,3,none⟩=some e:=by
 have f:=J8 h a c d e;exact⟨(ze f 0).1,(ze f 1).1,(ze f 2).1,(ze f 3).1⟩
theorem KV{W:World}{b:Nat}{f g i j:Value}(h:W.heap[b]?=some (xN f g i j))(a c d e:Value)(O:Obj) :
  (((((W.setCell ⟨b,0,none⟩ a).setCell ⟨b,1,none⟩ c).setCell ⟨b,2,none⟩ d).setCell ⟨b,3,none⟩ e).alloc O).cell? ⟨b,0,none⟩=some a /\
  (((((W.setCell ⟨b,0,none⟩ a).setCell ⟨b,1,none⟩ c).setCell ⟨b,2,none⟩ d).setCell ⟨b,3,none⟩ e).alloc O).cell? ⟨b,1,none⟩=some c /\
  (((((W.setCell ⟨b,0,none⟩ a).setCell ⟨b,1,none⟩ c).setCell ⟨b,2,none⟩ d).setCell ⟨b,3,none⟩ e).alloc O).cell? ⟨b,2,none⟩=some d /\
  (((((W.setCell ⟨b,0,none⟩ a).setCell ⟨b,1,none⟩ c).setCell ⟨b,2,none⟩ d).setCell ⟨b,3,none⟩ e).alloc O).cell? ⟨b,3,none⟩=some e:=by
 obtain⟨r0,k,l,m⟩:=Qk h a c d e;have hb:=(Below.refl _ ((((W.setCell ⟨b,0,none⟩ a).setCell ⟨b,1,none⟩ c).setCell ⟨b,2,none⟩ d).setCell ⟨b,3,none⟩ e)).alloc (Nat.le_refl _) O;exact⟨zg hb r0,zg hb k,zg hb l,zg hb m⟩
theorem Qj{w W:World}{b:Nat}(hb:Below w.heap.size w W)(a:w.heap.size<=b)(c d e f:Value):Below w.heap.size w ((((W.setCell ⟨b,0,none⟩ c).setCell ⟨b,1,none⟩ d).setCell ⟨b,2,none⟩ e).setCell ⟨b,3,none⟩ f):=
 (((hb.setCell a _).setCell a _).setCell a _).setCell a _
theorem oP(S:Nat)(t:StO)(r:Ref.Req)(ao:Option Addr)(cap:Nat)(M:Nat->Prop)(w:World)(h:qU M w S t)(y:qO w ao r.marks)(z:Ref.xe r=true)(hE:qD w) :
  Calls prog 46 #[.pointer (some ⟨S,0,none⟩),Ref.qP r ao cap] w λe T=>e = .returned (J6 (De.xC t r))/\Below w.heap.size w T:=by
 obtain⟨D,h1⟩:∃W,w.alloc (.cells #[.string r.who,.string r.act,.string r.on,.slice ao r.marks.length cap] 53)=W:=⟨_,rfl⟩;have s1:D.heap.size=w.heap.size+1:=by rw[<- h1];simp
 have n1:D.heap[w.heap.size]?=some (.cells #[.string r.who,.string r.act,.string r.on,.slice ao r.marks.length cap] 53):=by rw[<- h1];exact heap_alloc_new w _
 have b1:Below w.heap.size w D:=by rw[<- h1];exact nb w _
 obtain⟨I,h2⟩:∃W,D.alloc Z5=W:=⟨_,rfl⟩;have n2:I.heap[w.heap.size+1]?=some Z5:=by rw[<- h2,<- s1];exact heap_alloc_new D _
 have b2:Below D.heap.size D I:=by rw[<- h2];exact nb D _
 have bw:Below w.heap.size w I:=b1.trans (b2.mono b1.size);have bx:Qi I w.heap.size (.string r.who) (.string r.act) (.string r.on) (.slice ao r.marks.length cap):=⟨Qh (r:=r) (ao:=ao) (cap:=cap) ⟨(ze n1 0).1,(ze n1 1).1,(ze n1 2).1,(ze n1 3).1⟩ b2,n2⟩;have HW:Hid ((w.alloc (.cells #[.string r.who,.string r.act,.string r.on,.slice ao r.marks.length cap] 53)).alloc (.cells #[.int .i64 0,.int .i64 0,.string ⟨#[]⟩,.int .i64 0] 48)=I):=hid (by rw[h1];exact h2)
 have Y:∀(W:World),Below w.heap.size w W->Calls prog 89 #[.pointer (some ⟨S,0,none⟩),.string De.yu,Ref.qP r ao cap,.slice (some ⟨W.heap.size,0,none⟩) 4 4] (W.alloc (.cells #[.int .i64 0,.int .i64 1,.int .i64 2,.int .i64 3] 3)) λe T=>e = .returned (ZM (De.xD t De.yu r [0,1,2,3]))/\Below W.heap.size W T:=by
  intro W hb;have N:Below W.heap.size W (W.alloc (.cells #[.int .i64 0,.int .i64 1,.int .i64 2,.int .i64 3] 3)):=nb W _;have n:=hb.trans (N.mono hb.size);refine (VL S t De.yu r ao (some ⟨W.heap.size,0,none⟩) cap 4 [0,1,2,3] M _ (h.below n) (λj E=>by simp at E;omega) (by simp) (λj E=>?_) (jm y n) z (hE.below n)).mono (λe T ⟨he,O⟩=>⟨he,N.trans (O.mono N.size)⟩);refine⟨W.heap.size,0,rfl,?_⟩;simp at E;rw[Nat.zero_add,(ze (heap_alloc_new W (.cells #[.int .i64 0,.int .i64 1,.int .i64 2,.int .i64 3] 3)) j).1]
  rcases lt4 E with rfl|rfl|rfl|rfl<;>rfl
 have X:∀(W:World),Below w.heap.size w W->Calls prog 89 #[.pointer (some ⟨S,0,none⟩),.string De.xm,Ref.qP r ao cap,.slice (some ⟨W.heap.size,0,none⟩) 2 2] (W.alloc (.cells #[.int .i64 2,.int .i64 3] 3)) λe T=>e = .returned (ZM (De.xD t De.xm r [2,3]))/\Below W.heap.size W T:=by
  intro W hb;have N:Below W.heap.size W (W.alloc (.cells #[.int .i64 2,.int .i64 3] 3)):=nb W _;have n:=hb.trans (N.mono hb.size);refine (VL S t De.xm r ao (some ⟨W.heap.size,0,none⟩) cap 2 [2,3] M _ (h.below n) (λj E=>by simp at E;omega) (by simp) (λj E=>?_) (jm y n) z (hE.below n)).mono (λe T ⟨he,O⟩=>⟨he,N.trans (O.mono N.size)⟩);refine⟨W.heap.size,0,rfl,?_⟩;simp at E;rw[Nat.zero_add,(ze (heap_alloc_new W (.cells #[.int .i64 2,.int .i64 3] 3)) j).1]
  rcases (show j=0\/j=1 by omega) with rfl|rfl<;>rfl
 have cP:=λ(W:World) (hb:Below w.heap.size w W) (i:Nat) (h4:i<4)=>CK S t i r ao cap M W (h.below hb) h4 (jm y hb) z (hE.below hb);have c0:=λW hb=>cP W hb 0 (by omega);have c1:=λW hb=>cP W hb 1 (by omega);unfold De.xC;obtain⟨F1,a2⟩:∃F,De.xD t De.yu r [0,1,2,3]=F:=⟨_,rfl⟩;obtain⟨F2,a3⟩:∃F,De.xD t De.xm r [2,3]=F:=⟨_,rfl⟩;obtain⟨P0,a4⟩:∃F,De.ji t r 0=F:=⟨_,rfl⟩;obtain⟨P1,a5⟩:∃F,De.ji t r 1=F:=⟨_,rfl⟩;rw[a2] at Y |-;rw[a3] at X |-;rw[a4] at c0 |-;rw[a5] at c1 |-;obtain⟨who,act,on,ms⟩:=r;unfold Ref.qP at Y X c0 c1 |-;simp only at Y X c0 c1 HW bx |-;unfold De.yu at Y;unfold De.xm at X;have V:=hid Y;have U:=hid X;have C0:=hid c0;have C1:=hid c1;have G:=hid bw;have BX:=hid bx;obtain⟨⟨z0,z1,z2,z3⟩,_⟩:=bx;clear Y X c0 c1 cP a2 a3 a4 a5 h y z hE h1 h2 s1 n1 n2 b1 b2 bw;go_enter func46,ntmps46
 go_upto_region 1 with fail
 rw[HW.out]
 cases F1 with
 | some d=>
  obtain⟨i,nm,k⟩:=d;unfold ZM kr at V;simp only at V
  go_upto_region 2 with (go_at_call 89;refine (V.out I G.out).mono ?_;rintro e Z ⟨rfl,J⟩;have q:=hid (G.out.trans (J.mono G.out.size));have o:=hid (BX.out.below J);clear J)
  obtain⟨⟨y0,y1,y2,y3⟩,t0,t1,t2,t3⟩:=o.out.cells;have e2:w.heap.size+1<Z.heap.size:=lt_of_block o.out.2;obtain⟨r0,A,B,C⟩:=KV o.out.2 (.int .i64 2) (.int .i64 (i:Int)) (.string nm) (.int .i64 (k:Int)) (.cells #[.int .i64 2,.int .i64 (i:Int),.string nm,.int .i64 (k:Int)] 48);have a:=hid (Qj (b:=w.heap.size+1) q.out (by omega) (.int .i64 2) (.int .i64 (i:Int)) (.string nm) (.int .i64 (k:Int)));go_wp2_with fail;exact bodyPost_ret (v := .agg #[.int .i64 2,.int .i64 (i:Int),.string nm,.int .i64 (k:Int)]) (by simp[results,results46,go_sem,r0,A,B,C]) rfl ⟨rfl,a.out.alloc a.out.size _⟩
 | none=>
  unfold ZM kr at V;simp only at V
  go_upto_region 2 with (go_at_call 89;refine (V.out I G.out).mono ?_;rintro e Z ⟨rfl,J⟩;have q:=hid (G.out.trans (J.mono G.out.size));have o:=hid (BX.out.below J);clear J)
  obtain⟨w4,Q⟩:∃W,Z.alloc (.cells #[.int .i64 0,.int .i64 0,.string ⟨#[]⟩,.int .i64 0] 48)=W:=⟨_,rfl⟩;have b4:Below Z.heap.size Z w4:=by rw[<- Q];exact nb Z _
  have f:=hid (q.out.trans (b4.mono q.out.size));have u:=hid (o.out.below b4);rw[Q];obtain⟨⟨z0,z1,z2,z3⟩,_⟩:=u.out;clear b4 Q o q BX G
  cases P0 with
  | false=>
   go_upto_region 6 with (go_at_call 90;refine (C0.out w4 f.out).mono ?_;rintro e w5 ⟨rfl,s⟩;have g:=hid (f.out.trans (s.mono f.out.size));have c:=hid (u.out.below s);clear s)
   obtain⟨⟨y0,y1,y2,y3⟩,t0,t1,t2,t3⟩:=c.out.cells;have P:w.heap.size+1<w5.heap.size:=lt_of_block c.out.2;obtain⟨r0,A,B,C⟩:=Qk c.out.2 (.int .i64 3) (.int .i64 0) (.string ⟨#[]⟩) (.int .i64 0);have a:=hid (Qj (b:=w.heap.size+1) g.out (by omega) (.int .i64 3) (.int .i64 0) (.string ⟨#[]⟩) (.int .i64 0));go_wp2_with fail;exact bodyPost_ret (v := .agg #[.int .i64 3,.int .i64 0,.string ⟨#[]⟩,.int .i64 0]) (by simp[results,results46,go_sem,r0,A,B,C]) rfl ⟨rfl,a.out⟩
  | true=>
  cases P1 with
  | false=>
   go_upto_region 6 with (first
    | (go_at_call 90;refine (C1.out w5 g.out).mono ?_;rintro e w6 ⟨rfl,K⟩;have l:=hid (g.out.trans (K.mono g.out.size));have m:=hid (c.out.below K);clear K)
    | (go_at_call 90;refine (C0.out w4 f.out).mono ?_;rintro e w5 ⟨rfl,s⟩;have g:=hid (f.out.trans (s.mono f.out.size));have c:=hid (u.out.below s);obtain⟨⟨x0,x1,x2,x3⟩,_⟩:=c.out;clear s))
   obtain⟨⟨y0,y1,y2,y3⟩,t0,t1,t2,t3⟩:=m.out.cells;have P:w.heap.size+1<w6.heap.size:=lt_of_block m.out.2;obtain⟨r0,A,B,C⟩:=Qk m.out.2 (.int .i64 3) (.int .i64 0) (.string ⟨#[]⟩) (.int .i64 0);have a:=hid (Qj (b:=w.heap.size+1) l.out (by omega) (.int .i64 3) (.int .i64 0) (.string ⟨#[]⟩) (.int .i64 0));go_wp2_with fail;exact bodyPost_ret (v := .agg #[.int .i64 3,.int .i64 0,.string ⟨#[]⟩,.int .i64 0]) (by simp[results,results46,go_sem,r0,A,B,C]) rfl ⟨rfl,a.out⟩
  | true=>
   go_upto_region 7 with (first
    | (go_at_call 90;refine (C1.out w5 g.out).mono ?_;rintro e w6 ⟨rfl,K⟩;have l:=hid (g.out.trans (K.mono g.out.size));have m:=hid (c.out.below K);clear K)
    | (go_at_call 90;refine (C0.out w4 f.out).mono ?_;rintro e w5 ⟨rfl,s⟩;have g:=hid (f.out.trans (s.mono f.out.size));have c:=hid (u.out.below s);obtain⟨⟨x0,x1,x2,x3⟩,_⟩:=c.out;clear s))
   obtain⟨⟨x0,x1,x2,x3⟩,_⟩:=m.out
   cases F2 with
   | none=>
    unfold ZM kr at U;simp only at U
    go_upto_region 8 with (go_at_call 89;refine (U.out w6 l.out).mono ?_;rintro e w7 ⟨rfl,L⟩;have x:=hid (l.out.trans (L.mono l.out.size));have p:=hid (m.out.below L);clear L)
    obtain⟨w8,R⟩:∃W,w7.alloc (.cells #[.int .i64 0,.int .i64 0,.string ⟨#[]⟩,.int .i64 0] 48)=W:=⟨_,rfl⟩;have b8:Below w7.heap.size w7 w8:=by rw[<- R];exact nb w7 _
    have d2:=hid (x.out.trans (b8.mono x.out.size));have H:=hid (p.out.below b8);rw[R];clear b8 R;obtain⟨⟨y0,y1,y2,y3⟩,t0,t1,t2,t3⟩:=H.out.cells;have P:w.heap.size+1<w8.heap.size:=lt_of_block H.out.2;obtain⟨r0,A,B,C⟩:=Qk H.out.2 (.int .i64 3) (.int .i64 0) (.string ⟨#[]⟩) (.int .i64 0);have a:=hid (Qj (b:=w.heap.size+1) d2.out (by omega) (.int .i64 3) (.int .i64 0) (.string ⟨#[]⟩) (.int .i64 0));go_wp2_with fail;exact bodyPost_ret (v := .agg #[.int .i64 3,.int .i64 0,.string ⟨#[]⟩,.int .i64 0]) (by simp[results,results46,go_sem,r0,A,B,C]) rfl ⟨rfl,a.out⟩
   | some d=>
    obtain⟨i,nm,k⟩:=d;unfold ZM kr at U;simp only at U
    go_upto_region 8 with (go_at_call 89;refine (U.out w6 l.out).mono ?_;rintro e w7 ⟨rfl,L⟩;have x:=hid (l.out.trans (L.mono l.out.size));have p:=hid (m.out.below L);clear L)
    obtain⟨⟨y0,y1,y2,y3⟩,t0,t1,t2,t3⟩:=p.out.cells;have P:w.heap.size+1<w7.heap.size:=lt_of_block p.out.2;obtain⟨r0,A,B,C⟩:=KV p.out.2 (.int .i64 1) (.int .i64 (i:Int)) (.string nm) (.int .i64 (k:Int)) (.cells #[.int .i64 1,.int .i64 (i:Int),.string nm,.int .i64 (k:Int)] 48);have a:=hid (Qj (b:=w.heap.size+1) x.out (by omega) (.int .i64 1) (.int .i64 (i:Int)) (.string nm) (.int .i64 (k:Int)));go_wp2_with fail;exact bodyPost_ret (v := .agg #[.int .i64 1,.int .i64 (i:Int),.string nm,.int .i64 (k:Int)]) (by simp[results,results46,go_sem,r0,A,B,C]) rfl ⟨rfl,a.out.alloc a.out.size _⟩
theorem FI(R:Nat)(t:StO)(r:Ref.Req)(ao:Option Addr)(cap:Nat)(M:Nat->Prop)(w:World)(h:qU M w R t)(f:qO w ao r.marks)(O:Pg.reqLen r)(D:qD w) :
  Calls prog 25 #[.pointer (some ⟨R,0,none⟩),Ref.qP r ao cap] w λe w'=>e = .returned (.tuple #[J6 (De.YG t r).1,.int .i64 (De.YG t r).2])/\Below w.heap.size w w':=by
 obtain⟨g,o⟩:∃W,w.alloc (.cells #[.string r.who,.string r.act,.string r.on,.slice ao r.marks.length cap] 53)=W:=⟨_,rfl⟩;have V:g.heap.size=w.heap.size+1:=by rw[<- o];simp
 have p:g.heap[w.heap.size]?=some (.cells #[.string r.who,.string r.act,.string r.on,.slice ao r.marks.length cap] 53):=by rw[<- o];exact heap_alloc_new w _
 have z:Below w.heap.size w g:=by rw[<- o];exact nb w _
 obtain⟨n,s⟩:∃W,g.alloc Z5=W:=⟨_,rfl⟩;have P:n.heap[w.heap.size+1]?=some Z5:=by rw[<- s,<- V];exact heap_alloc_new g _
 have A:Below g.heap.size g n:=by rw[<- s];exact nb g _
 have q:Below w.heap.size w n:=z.trans (A.mono z.size);have bx:Qi n w.heap.size (.string r.who) (.string r.act) (.string r.on) (.slice ao r.marks.length cap):=⟨Qh (r:=r) (ao:=ao) (cap:=cap) ⟨(ze p 0).1,(ze p 1).1,(ze p 2).1,(ze p 3).1⟩ A,P⟩;have y:Hid ((w.alloc (.cells #[.string r.who,.string r.act,.string r.on,.slice ao r.marks.length cap] 53)).alloc (.cells #[.int .i64 0,.int .i64 0,.string ⟨#[]⟩,.int .i64 0] 48)=n):=hid (by rw[o];exact s);have C:=Du r ao cap n (jm f q) O (D.below q).d.tabs;have B:=λ(W:World) (hb:Below w.heap.size w W) (N:Ref.xe r=true)=>oP R t r ao cap M W (h.below hb) (jm f hb) N (D.below hb);unfold De.YG;obtain⟨Q,E⟩:=Nm (Ref.xe r);rw[E] at C |-;obtain⟨Z,l⟩:∃d,De.xC t r=d:=⟨_,rfl⟩;rw[l] at B |-;have u:=hid q;have Y:=hid bx;have m:=hid C
 cases Q with
 | false=>
  clear B C h f O D o s V p P z A q E l;obtain⟨who,act,on,ms⟩:=r;unfold Ref.qP at m |-;simp only[Bool.false_eq_true,if_false] at m y bx |-;obtain⟨⟨z0,z1,z2,z3⟩,_⟩:=bx;go_enter func25,ntmps25
  go_upto_region 1 with fail
  rw[y.out]
  go_upto_region 2 with (go_at_call 45;refine m.out.mono ?_;rintro e X ⟨rfl,k⟩;have c:=hid (u.out.trans (k.mono u.out.size));have a:=hid (Y.out.below k);clear k)
  obtain⟨⟨y0,y1,y2,y3⟩,t0,t1,t2,t3⟩:=a.out.cells;have L:w.heap.size+1<X.heap.size:=lt_of_block a.out.2;obtain⟨r0,S,T,U⟩:=Qk a.out.2 (.int .i64 0) (.int .i64 0) (.string ⟨#[]⟩) (.int .i64 0);have j:=hid (Qj (b:=w.heap.size+1) c.out (by omega) (.int .i64 0) (.int .i64 0) (.string ⟨#[]⟩) (.int .i64 0));go_wp2_with fail;exact bodyPost_ret (v := .tuple #[.agg #[.int .i64 0,.int .i64 0,.string ⟨#[]⟩,.int .i64 0],.int .i64 11]) (by simp[results,results25,go_sem,r0,S,T,U]) rfl ⟨rfl,j.out⟩
 | true=>
  have x:=hid (λ(W:World) (hb:Below w.heap.size w W)=>B W hb E);clear B C h f O D o s V p P z A q E l;obtain⟨who,act,on,ms⟩:=r;obtain⟨K,I,J,H⟩:=Z;unfold Ref.qP at m x |-;unfold J6 kr at x;simp only[if_true] at m x y bx |-;obtain⟨⟨z0,z1,z2,z3⟩,_⟩:=bx;go_enter func25,ntmps25
  go_upto_region 1 with fail
  rw[y.out]
  go_upto_region 3 with (go_at_call 45;refine m.out.mono ?_;rintro e X ⟨rfl,k⟩;have c:=hid (u.out.trans (k.mono u.out.size));have a:=hid (Y.out.below k);clear k)
  obtain⟨⟨x0,x1,x2,x3⟩,_⟩:=a.out
  go_wp2_with (go_at_call 46;refine (x.out X c.out).mono ?_;rintro e w4 ⟨rfl,G⟩;have F:=hid (c.out.trans (G.mono c.out.size));have i:=hid (a.out.below G);clear G;obtain⟨⟨y0,y1,y2,y3⟩,t0,t1,t2,t3⟩:=i.out.cells;have L:w.heap.size+1<w4.heap.size:=lt_of_block i.out.2;obtain⟨r0,S,T,U⟩:=Qk i.out.2 (.int .i64 ((K:Nat):Int)) (.int .i64 ((I:Nat):Int)) (.string J) (.int .i64 ((H:Nat):Int));have j:=hid (Qj (b:=w.heap.size+1) F.out (by omega) (.int .i64 ((K:Nat):Int)) (.int .i64 ((I:Nat):Int)) (.string J) (.int .i64 ((H:Nat):Int))))
  exact bodyPost_ret (v := .tuple #[.agg #[.int .i64 ((K:Nat):Int),.int .i64 ((I:Nat):Int),.string J,.int .i64 ((H:Nat):Int)],.int .i64 0]) (by simp[results,results25,go_sem,r0,S,T,U]) rfl ⟨rfl,j.out⟩
end Go.Proofs.YtdakgnaojakldaaGreatDoor
