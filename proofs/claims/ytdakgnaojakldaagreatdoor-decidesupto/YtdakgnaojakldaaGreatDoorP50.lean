/- P -/
import Derived.Test.YtdakgnaojakldaaGreatDoorP49
open Go.Proofs.Tryz
set_option maxRecDepth 100000
set_option maxHeartbeats 8000000
namespace Go.Proofs.YtdakgnaojakldaaGreatDoor
open Go.RowKit
def Uj(d:De.Dec):Value:=jM ((d.verdict:Nat):Int) ((d.layer:Nat):Int) d.doc ((d.stmt:Nat):Int)
def Qh(W:World)(b:Nat)(u0 u1 u2 u3:Value):Prop:=(W.cell? ⟨b,0,none⟩=some u0/\W.cell? ⟨b,1,none⟩=some u1/\W.cell? ⟨b,2,none⟩=some u2/\W.cell? ⟨b,3,none⟩=some u3)/\W.heap[b+1]?=some Qt
theorem Qh.below{W W':World}{b:Nat}{u0 u1 u2 u3:Value}(h:Qh W b u0 u1 u2 u3)(hb:Below W.heap.size W W'):Qh W' b u0 u1 u2 u3:=by
 obtain⟨⟨c,d,e,f⟩,a⟩:=h;exact⟨⟨zh hb c,zh hb d,zh hb e,zh hb f⟩,(hb.block _ (zt a)).trans a⟩
theorem Qh.cells{W:World}{b:Nat}{u0 u1 u2 u3:Value}(h:Qh W b u0 u1 u2 u3):(W.cell? ⟨b+1,0,none⟩=some (.int .i64 0)/\W.cell? ⟨b+1,1,none⟩=some (.int .i64 0)/\W.cell? ⟨b+1,2,none⟩=some (.string ⟨#[]⟩)/\W.cell? ⟨b+1,3,none⟩=some (.int .i64 0)) /\
  W.frozen? ⟨b+1,0,none⟩=false/\W.frozen? ⟨b+1,1,none⟩=false/\W.frozen? ⟨b+1,2,none⟩=false/\W.frozen? ⟨b+1,3,none⟩=false:=
 ⟨⟨(zg h.2 0).1,(zg h.2 1).1,(zg h.2 2).1,(zg h.2 3).1⟩,(zg h.2 0).2,(zg h.2 1).2,(zg h.2 2).2,(zg h.2 3).2⟩
theorem Qi{W:World}{b:Nat}{g i j k:Value}(h:W.heap[b]?=some (jL g i j k))(a c d e:Value) :
  ((((W.setCell ⟨b,0,none⟩ a).setCell ⟨b,1,none⟩ c).setCell ⟨b,2,none⟩ d).setCell ⟨b,3,none⟩ e).cell? ⟨b,0,none⟩=some a /\
  ((((W.setCell ⟨b,0,none⟩ a).setCell ⟨b,1,none⟩ c).setCell ⟨b,2,none⟩ d).setCell ⟨b,3,none⟩ e).cell? ⟨b,1,none⟩=some c /\
  ((((W.setCell ⟨b,0,none⟩ a).setCell ⟨b,1,none⟩ c).setCell ⟨b,2,none⟩ d).setCell ⟨b,3,none⟩ e).cell? ⟨b,2,none⟩=some d /\
  ((((W.setCell ⟨b,0,none⟩ a).setCell ⟨b,1,none⟩ c).setCell ⟨b,2,none⟩ d).setCell ⟨b,3,none⟩ e).cell? ⟨b,3,none⟩=some e:=by
 have f:=dZ h a c d e;exact⟨(zg f 0).1,(zg f 1).1,(zg f 2).1,(zg f 3).1⟩
theorem KD{W:World}{b:Nat}{f g i j:Value}(h:W.heap[b]?=some (jL f g i j))(a c d e:Value)(O:Obj) :
  (((((W.setCell ⟨b,0,none⟩ a).setCell ⟨b,1,none⟩ c).setCell ⟨b,2,none⟩ d).setCell ⟨b,3,none⟩ e).alloc O).cell? ⟨b,0,none⟩=some a /\
  (((((W.setCell ⟨b,0,none⟩ a).setCell ⟨b,1,none⟩ c).setCell ⟨b,2,none⟩ d).setCell ⟨b,3,none⟩ e).alloc O).cell? ⟨b,1,none⟩=some c /\
  (((((W.setCell ⟨b,0,none⟩ a).setCell ⟨b,1,none⟩ c).setCell ⟨b,2,none⟩ d).setCell ⟨b,3,none⟩ e).alloc O).cell? ⟨b,2,none⟩=some d /\
  (((((W.setCell ⟨b,0,none⟩ a).setCell ⟨b,1,none⟩ c).setCell ⟨b,2,none⟩ d).setCell ⟨b,3,none⟩ e).alloc O).cell? ⟨b,3,none⟩=some e:=by
 obtain⟨k,l,m,n⟩:=Qi h a c d e;have hb:=(ze _ ((((W.setCell ⟨b,0,none⟩ a).setCell ⟨b,1,none⟩ c).setCell ⟨b,2,none⟩ d).setCell ⟨b,3,none⟩ e)).alloc (zf _) O;exact⟨zh hb k,zh hb l,zh hb m,zh hb n⟩
theorem Za{w W:World}{b:Nat}(hb:Below w.heap.size w W)(a:w.heap.size<=b)(c d e f:Value):Below w.heap.size w ((((W.setCell ⟨b,0,none⟩ c).setCell ⟨b,1,none⟩ d).setCell ⟨b,2,none⟩ e).setCell ⟨b,3,none⟩ f):=
 (((hb.setCell a _).setCell a _).setCell a _).setCell a _
theorem IB(ob:Nat)(st:StO)(r:Ref.Req)(ao:Option Addr)(cap:Nat)(M:Nat->Prop)(w:World)(h:xw M w ob st)(x:qQ w ao r.marks)(y:Ref.xP r=true)(hE:yg w) :
  Calls prog 46 #[.pointer (some ⟨ob,0,none⟩),Ref.zY r ao cap] w λe w'=>e = .returned (Uj (De.YL st r))/\Below w.heap.size w w':=by
 obtain⟨D,Z⟩:∃W,w.alloc (.cells #[.string r.who,.string r.act,.string r.on,.slice ao r.marks.length cap] 53)=W:=⟨_,rfl⟩;have s1:D.heap.size=w.heap.size+1:=by rw[<- Z];simp
 have n1:D.heap[w.heap.size]?=some (.cells #[.string r.who,.string r.act,.string r.on,.slice ao r.marks.length cap] 53):=by rw[<- Z];exact zB w _
 have b1:Below w.heap.size w D:=by rw[<- Z];exact nbl w _
 obtain⟨I,h2⟩:∃W,D.alloc Qt=W:=⟨_,rfl⟩;have n2:I.heap[w.heap.size+1]?=some Qt:=by rw[<- h2,<- s1];exact zB D _
 have b2:Below D.heap.size D I:=by rw[<- h2];exact nbl D _
 have bw:Below w.heap.size w I:=b1.trans (b2.mono b1.size);have bx:Qh I w.heap.size (.string r.who) (.string r.act) (.string r.on) (.slice ao r.marks.length cap):=⟨Zt (r:=r) (ao:=ao) (cap:=cap) ⟨(zg n1 0).1,(zg n1 1).1,(zg n1 2).1,(zg n1 3).1⟩ b2,n2⟩;have HW:Hid ((w.alloc (.cells #[.string r.who,.string r.act,.string r.on,.slice ao r.marks.length cap] 53)).alloc (.cells #[.int .i64 0,.int .i64 0,.string ⟨#[]⟩,.int .i64 0] 48)=I):=hid (by rw[Z];exact h2)
 have V:∀(W:World),Below w.heap.size w W->Calls prog 89 #[.pointer (some ⟨ob,0,none⟩),.string De.kX,Ref.zY r ao cap,.slice (some ⟨W.heap.size,0,none⟩) 4 4] (W.alloc (.cells #[.int .i64 0,.int .i64 1,.int .i64 2,.int .i64 3] 3)) λe w'=>e = .returned (YN (De.yE st De.kX r [0,1,2,3]))/\Below W.heap.size W w':=by
  intro W hb;have N:Below W.heap.size W (W.alloc (.cells #[.int .i64 0,.int .i64 1,.int .i64 2,.int .i64 3] 3)):=nbl W _;have n:=hb.trans (N.mono hb.size);refine (gI ob st De.kX r ao (some ⟨W.heap.size,0,none⟩) cap 4 [0,1,2,3] M _ (h.below n) (λj E=>by simp at E;omega) (by simp) (λj E=>?_) (xB x n) y (hE.below n)).mono (λe w' ⟨he,O⟩=>⟨he,N.trans (O.mono N.size)⟩);refine⟨W.heap.size,0,rfl,?_⟩;simp at E;rw[qN,(zg (zB W (.cells #[.int .i64 0,.int .i64 1,.int .i64 2,.int .i64 3] 3)) j).1]
  rcases lt4 E with rfl|rfl|rfl|rfl<;>rfl
 have U:∀(W:World),Below w.heap.size w W->Calls prog 89 #[.pointer (some ⟨ob,0,none⟩),.string De.jl,Ref.zY r ao cap,.slice (some ⟨W.heap.size,0,none⟩) 2 2] (W.alloc (.cells #[.int .i64 2,.int .i64 3] 3)) λe w'=>e = .returned (YN (De.yE st De.jl r [2,3]))/\Below W.heap.size W w':=by
  intro W hb;have N:Below W.heap.size W (W.alloc (.cells #[.int .i64 2,.int .i64 3] 3)):=nbl W _;have n:=hb.trans (N.mono hb.size);refine (gI ob st De.jl r ao (some ⟨W.heap.size,0,none⟩) cap 2 [2,3] M _ (h.below n) (λj E=>by simp at E;omega) (by simp) (λj E=>?_) (xB x n) y (hE.below n)).mono (λe w' ⟨he,O⟩=>⟨he,N.trans (O.mono N.size)⟩);refine⟨W.heap.size,0,rfl,?_⟩;simp at E;rw[qN,(zg (zB W (.cells #[.int .i64 2,.int .i64 3] 3)) j).1]
  rcases (show j=0\/j=1 by omega) with rfl|rfl<;>rfl
 have cP:=λ(W:World) (hb:Below w.heap.size w W) (i:Nat) (h4:i<4)=>Sb ob st i r ao cap M W (h.below hb) h4 (xB x hb) y (hE.below hb);have c0:=λW hb=>cP W hb 0 (by omega);have c1:=λW hb=>cP W hb 1 (by omega);unfold De.YL;obtain⟨F1,a0⟩:∃F,De.yE st De.kX r [0,1,2,3]=F:=⟨_,rfl⟩;obtain⟨F2,a1⟩:∃F,De.yE st De.jl r [2,3]=F:=⟨_,rfl⟩;obtain⟨P0,a2⟩:∃F,De.Qn st r 0=F:=⟨_,rfl⟩;obtain⟨P1,a3⟩:∃F,De.Qn st r 1=F:=⟨_,rfl⟩;rw[a0] at V |-;rw[a1] at U |-;rw[a2] at c0 |-;rw[a3] at c1 |-;obtain⟨who,act,on,ms⟩:=r;unfold Ref.zY at V U c0 c1 |-;simp only at V U c0 c1 HW bx |-;unfold De.kX at V;unfold De.jl at U;have T:=hid V;have S:=hid U;have C0:=hid c0;have C1:=hid c1;have G:=hid bw;have BX:=hid bx;obtain⟨⟨z0,z1,z2,z3⟩,_⟩:=bx;clear V U c0 c1 cP a0 a1 a2 a3 h x y hE Z h2 s1 n1 n2 b1 b2 bw;go_enter func46,ntmps46
 go_upto_region 1 with fail
 rw[HW.out]
 cases F1 with
 | some d=>
  obtain⟨i,nm,k⟩:=d;unfold YN jM at T;simp only at T
  go_upto_region 2 with (go_at_call 89;refine (T.out I G.out).mono ?_;rintro e X ⟨rfl,J⟩;have q:=hid (G.out.trans (J.mono G.out.size));have o:=hid (BX.out.below J);clear J)
  obtain⟨⟨y0,y1,y2,y3⟩,t0,t1,t2,t3⟩:=o.out.cells;have e0:w.heap.size+1<X.heap.size:=zt o.out.2;obtain⟨z,A,B,C⟩:=KD o.out.2 (.int .i64 2) (.int .i64 (i:Int)) (.string nm) (.int .i64 (k:Int)) (.cells #[.int .i64 2,.int .i64 (i:Int),.string nm,.int .i64 (k:Int)] 48);have a:=hid (Za (b:=w.heap.size+1) q.out (by omega) (.int .i64 2) (.int .i64 (i:Int)) (.string nm) (.int .i64 (k:Int)));go_wp2_with fail;exact zA (v := .agg #[.int .i64 2,.int .i64 (i:Int),.string nm,.int .i64 (k:Int)]) (by simp[results,results46,go_sem,z,A,B,C]) rfl ⟨rfl,a.out.alloc a.out.size _⟩
 | none=>
  unfold YN jM at T;simp only at T
  go_upto_region 2 with (go_at_call 89;refine (T.out I G.out).mono ?_;rintro e X ⟨rfl,J⟩;have q:=hid (G.out.trans (J.mono G.out.size));have o:=hid (BX.out.below J);clear J)
  obtain⟨w4,Q⟩:∃W,X.alloc (.cells #[.int .i64 0,.int .i64 0,.string ⟨#[]⟩,.int .i64 0] 48)=W:=⟨_,rfl⟩;have b4:Below X.heap.size X w4:=by rw[<- Q];exact nbl X _
  have f:=hid (q.out.trans (b4.mono q.out.size));have t:=hid (o.out.below b4);rw[Q];obtain⟨⟨z0,z1,z2,z3⟩,_⟩:=t.out;clear b4 Q o q BX G
  cases P0 with
  | false=>
   go_upto_region 6 with (go_at_call 90;refine (C0.out w4 f.out).mono ?_;rintro e w5 ⟨rfl,s⟩;have g:=hid (f.out.trans (s.mono f.out.size));have c:=hid (t.out.below s);clear s)
   obtain⟨⟨y0,y1,y2,y3⟩,t0,t1,t2,t3⟩:=c.out.cells;have P:w.heap.size+1<w5.heap.size:=zt c.out.2;obtain⟨z,A,B,C⟩:=Qi c.out.2 (.int .i64 3) (.int .i64 0) (.string ⟨#[]⟩) (.int .i64 0);have a:=hid (Za (b:=w.heap.size+1) g.out (by omega) (.int .i64 3) (.int .i64 0) (.string ⟨#[]⟩) (.int .i64 0));go_wp2_with fail;exact zA (v := .agg #[.int .i64 3,.int .i64 0,.string ⟨#[]⟩,.int .i64 0]) (by simp[results,results46,go_sem,z,A,B,C]) rfl ⟨rfl,a.out⟩
  | true=>
  cases P1 with
  | false=>
   go_upto_region 6 with (first
    | (go_at_call 90;refine (C1.out w5 g.out).mono ?_;rintro e w6 ⟨rfl,K⟩;have l:=hid (g.out.trans (K.mono g.out.size));have m:=hid (c.out.below K);clear K)
    | (go_at_call 90;refine (C0.out w4 f.out).mono ?_;rintro e w5 ⟨rfl,s⟩;have g:=hid (f.out.trans (s.mono f.out.size));have c:=hid (t.out.below s);obtain⟨⟨x0,x1,x2,x3⟩,_⟩:=c.out;clear s))
   obtain⟨⟨y0,y1,y2,y3⟩,t0,t1,t2,t3⟩:=m.out.cells;have P:w.heap.size+1<w6.heap.size:=zt m.out.2;obtain⟨z,A,B,C⟩:=Qi m.out.2 (.int .i64 3) (.int .i64 0) (.string ⟨#[]⟩) (.int .i64 0);have a:=hid (Za (b:=w.heap.size+1) l.out (by omega) (.int .i64 3) (.int .i64 0) (.string ⟨#[]⟩) (.int .i64 0));go_wp2_with fail;exact zA (v := .agg #[.int .i64 3,.int .i64 0,.string ⟨#[]⟩,.int .i64 0]) (by simp[results,results46,go_sem,z,A,B,C]) rfl ⟨rfl,a.out⟩
  | true=>
   go_upto_region 7 with (first
    | (go_at_call 90;refine (C1.out w5 g.out).mono ?_;rintro e w6 ⟨rfl,K⟩;have l:=hid (g.out.trans (K.mono g.out.size));have m:=hid (c.out.below K);clear K)
    | (go_at_call 90;refine (C0.out w4 f.out).mono ?_;rintro e w5 ⟨rfl,s⟩;have g:=hid (f.out.trans (s.mono f.out.size));have c:=hid (t.out.below s);obtain⟨⟨x0,x1,x2,x3⟩,_⟩:=c.out;clear s))
   obtain⟨⟨x0,x1,x2,x3⟩,_⟩:=m.out
   cases F2 with
   | none=>
    unfold YN jM at S;simp only at S
    go_upto_region 8 with (go_at_call 89;refine (S.out w6 l.out).mono ?_;rintro e Y ⟨rfl,L⟩;have u:=hid (l.out.trans (L.mono l.out.size));have p:=hid (m.out.below L);clear L)
    obtain⟨w8,R⟩:∃W,Y.alloc (.cells #[.int .i64 0,.int .i64 0,.string ⟨#[]⟩,.int .i64 0] 48)=W:=⟨_,rfl⟩;have b8:Below Y.heap.size Y w8:=by rw[<- R];exact nbl Y _
    have d0:=hid (u.out.trans (b8.mono u.out.size));have H:=hid (p.out.below b8);rw[R];clear b8 R;obtain⟨⟨y0,y1,y2,y3⟩,t0,t1,t2,t3⟩:=H.out.cells;have P:w.heap.size+1<w8.heap.size:=zt H.out.2;obtain⟨z,A,B,C⟩:=Qi H.out.2 (.int .i64 3) (.int .i64 0) (.string ⟨#[]⟩) (.int .i64 0);have a:=hid (Za (b:=w.heap.size+1) d0.out (by omega) (.int .i64 3) (.int .i64 0) (.string ⟨#[]⟩) (.int .i64 0));go_wp2_with fail;exact zA (v := .agg #[.int .i64 3,.int .i64 0,.string ⟨#[]⟩,.int .i64 0]) (by simp[results,results46,go_sem,z,A,B,C]) rfl ⟨rfl,a.out⟩
   | some d=>
    obtain⟨i,nm,k⟩:=d;unfold YN jM at S;simp only at S
    go_upto_region 8 with (go_at_call 89;refine (S.out w6 l.out).mono ?_;rintro e Y ⟨rfl,L⟩;have u:=hid (l.out.trans (L.mono l.out.size));have p:=hid (m.out.below L);clear L)
    obtain⟨⟨y0,y1,y2,y3⟩,t0,t1,t2,t3⟩:=p.out.cells;have P:w.heap.size+1<Y.heap.size:=zt p.out.2;obtain⟨z,A,B,C⟩:=KD p.out.2 (.int .i64 1) (.int .i64 (i:Int)) (.string nm) (.int .i64 (k:Int)) (.cells #[.int .i64 1,.int .i64 (i:Int),.string nm,.int .i64 (k:Int)] 48);have a:=hid (Za (b:=w.heap.size+1) u.out (by omega) (.int .i64 1) (.int .i64 (i:Int)) (.string nm) (.int .i64 (k:Int)));go_wp2_with fail;exact zA (v := .agg #[.int .i64 1,.int .i64 (i:Int),.string nm,.int .i64 (k:Int)]) (by simp[results,results46,go_sem,z,A,B,C]) rfl ⟨rfl,a.out.alloc a.out.size _⟩
theorem WS(ob:Nat)(st:StO)(r:Ref.Req)(ao:Option Addr)(cap:Nat)(M:Nat->Prop)(w:World)(h:xw M w ob st)(f:qQ w ao r.marks)(N:Pg.reqLen r)(C:yg w) :
  Calls prog 25 #[.pointer (some ⟨ob,0,none⟩),Ref.zY r ao cap] w λe w'=>e = .returned (.tuple #[Uj (De.Jj st r).1,.int .i64 (De.Jj st r).2])/\Below w.heap.size w w':=by
 obtain⟨g,o⟩:∃W,w.alloc (.cells #[.string r.who,.string r.act,.string r.on,.slice ao r.marks.length cap] 53)=W:=⟨_,rfl⟩;have U:g.heap.size=w.heap.size+1:=by rw[<- o];simp
 have p:g.heap[w.heap.size]?=some (.cells #[.string r.who,.string r.act,.string r.on,.slice ao r.marks.length cap] 53):=by rw[<- o];exact zB w _
 have y:Below w.heap.size w g:=by rw[<- o];exact nbl w _
 obtain⟨n,s⟩:∃W,g.alloc Qt=W:=⟨_,rfl⟩;have O:n.heap[w.heap.size+1]?=some Qt:=by rw[<- s,<- U];exact zB g _
 have z:Below g.heap.size g n:=by rw[<- s];exact nbl g _
 have q:Below w.heap.size w n:=y.trans (z.mono y.size);have bx:Qh n w.heap.size (.string r.who) (.string r.act) (.string r.on) (.slice ao r.marks.length cap):=⟨Zt (r:=r) (ao:=ao) (cap:=cap) ⟨(zg p 0).1,(zg p 1).1,(zg p 2).1,(zg p 3).1⟩ z,O⟩;have x:Hid ((w.alloc (.cells #[.string r.who,.string r.act,.string r.on,.slice ao r.marks.length cap] 53)).alloc (.cells #[.int .i64 0,.int .i64 0,.string ⟨#[]⟩,.int .i64 0] 48)=n):=hid (by rw[o];exact s);have B:=SI r ao cap n (xB f q) N (C.below q).d.tabs;have A:=λ(W:World) (hb:Below w.heap.size w W) (L:Ref.xP r=true)=>IB ob st r ao cap M W (h.below hb) (xB f hb) L (C.below hb);unfold De.Jj;obtain⟨Q,D⟩:=Nm (Ref.xP r);rw[D] at B |-;obtain⟨Y,l⟩:∃d,De.YL st r=d:=⟨_,rfl⟩;rw[l] at A |-;have t:=hid q;have X:=hid bx;have m:=hid B
 cases Q with
 | false=>
  clear A B h f N C o s U p O y z q D l;obtain⟨who,act,on,ms⟩:=r;unfold Ref.zY at m |-;simp only[yu,xV] at m x bx |-;obtain⟨⟨z0,z1,z2,z3⟩,_⟩:=bx;go_enter func25,ntmps25
  go_upto_region 1 with fail
  rw[x.out]
  go_upto_region 2 with (go_at_call 45;refine m.out.mono ?_;rintro e V ⟨rfl,k⟩;have c:=hid (t.out.trans (k.mono t.out.size));have a:=hid (X.out.below k);clear k)
  obtain⟨⟨y0,y1,y2,y3⟩,Z,t1,t2,t3⟩:=a.out.cells;have K:w.heap.size+1<V.heap.size:=zt a.out.2;obtain⟨P,R,S,T⟩:=Qi a.out.2 (.int .i64 0) (.int .i64 0) (.string ⟨#[]⟩) (.int .i64 0);have j:=hid (Za (b:=w.heap.size+1) c.out (by omega) (.int .i64 0) (.int .i64 0) (.string ⟨#[]⟩) (.int .i64 0));go_wp2_with fail;exact zA (v := .tuple #[.agg #[.int .i64 0,.int .i64 0,.string ⟨#[]⟩,.int .i64 0],.int .i64 11]) (by simp[results,results25,go_sem,P,R,S,T]) rfl ⟨rfl,j.out⟩
 | true=>
  have u:=hid (λ(W:World) (hb:Below w.heap.size w W)=>A W hb D);clear A B h f N C o s U p O y z q D l;obtain⟨who,act,on,ms⟩:=r;obtain⟨J,H,I,G⟩:=Y;unfold Ref.zY at m u |-;unfold Uj jM at u;simp only[qJ] at m u x bx |-;obtain⟨⟨z0,z1,z2,z3⟩,_⟩:=bx;go_enter func25,ntmps25
  go_upto_region 1 with fail
  rw[x.out]
  go_upto_region 3 with (go_at_call 45;refine m.out.mono ?_;rintro e V ⟨rfl,k⟩;have c:=hid (t.out.trans (k.mono t.out.size));have a:=hid (X.out.below k);clear k)
  obtain⟨⟨x0,x1,x2,x3⟩,_⟩:=a.out
  go_wp2_with (go_at_call 46;refine (u.out V c.out).mono ?_;rintro e w4 ⟨rfl,F⟩;have E:=hid (c.out.trans (F.mono c.out.size));have i:=hid (a.out.below F);clear F;obtain⟨⟨y0,y1,y2,y3⟩,Z,t1,t2,t3⟩:=i.out.cells;have K:w.heap.size+1<w4.heap.size:=zt i.out.2;obtain⟨P,R,S,T⟩:=Qi i.out.2 (.int .i64 ((J:Nat):Int)) (.int .i64 ((H:Nat):Int)) (.string I) (.int .i64 ((G:Nat):Int));have j:=hid (Za (b:=w.heap.size+1) E.out (by omega) (.int .i64 ((J:Nat):Int)) (.int .i64 ((H:Nat):Int)) (.string I) (.int .i64 ((G:Nat):Int))))
  exact zA (v := .tuple #[.agg #[.int .i64 ((J:Nat):Int),.int .i64 ((H:Nat):Int),.string I,.int .i64 ((G:Nat):Int)],.int .i64 0]) (by simp[results,results25,go_sem,P,R,S,T]) rfl ⟨rfl,j.out⟩
def Yj(eff:BY)(i:Nat)(F:Option (BY×Nat)):Value:=match F with
 | none=>jM 0 0 ⟨#[]⟩ 0
 | some (n,k)=>jM (if eff.toList==[100,101,110,121] then 2 else 1) ((i:Nat):Int) n ((k:Nat):Int)
def Rq(W:World)(v:Value)(L:List zF):Prop:=
 ∃a c,v = .slice a L.length c/\∀(k:Nat),(h:k<L.length)->∃b d f e,a=some ⟨b,0,none⟩/\W.cell? ⟨b,k*3+1,none⟩=some (.string L[k].1)/\W.cell? ⟨b,k*3+2,none⟩=some (.slice d f e)/\Q7 W (.slice d f e) L[k].2
theorem Rs{M:Nat->Prop}{W:World}{base:Nat}{v:Value}{out:List zC}{xs:List Value}(n:W.ownsRow base 251 3 v out.length xs)(o:xx M W xs out):Rq W v (out.map X5):=by
 obtain⟨a,c,e,p⟩:=lF n o;refine⟨a,c,by rw[qH];exact e,λk b=>?_⟩;rw[qH] at b;obtain⟨m,d,g,f,h,_,i,j,l⟩:=p k _ (zm b);rw[JP];exact⟨m,d,g,f,h,i,j,zbS l⟩
theorem Ow{α:Type}{l:List α}{p:α->Bool}{k:Nat}(d:k<l.length)(a:p l[k]=true)(b:∀j,(h:j<k)->p (l[j]'(by omega))=false):l.findIdx? p=some k:=
 VU.2 ⟨d,a,λj c=>by simpa using b j c⟩
theorem Oy{α:Type}{l:List α}{p:α->Bool}(a:∀j,(h:j<l.length)->p l[j]=false):l.findIdx? p=none:=
 bN.2 λx c=>by
  obtain⟨j,b,rfl⟩:=Qb c;exact a j b
theorem zav(cb:Nat)(lv:Value)(ks:List zC)(st:StO)(i:Nat)(eff:BY)(r:Ref.Req)(ao:Option Addr)(cap:Nat)(M:Nat->Prop)(w:World)(h:xN M w cb lv ks)(hn:ks.length<=1000000000)(hN:∀x ∈ ks,x.name.size<=maxLen)(hM:∀b,M b->b<w.heap.size)(c7:Agree st ks)(h4:i<4)(hg:Qw (st i))(d6:qQ w ao r.marks)(d8:Ref.xP r=true) :
  Calls prog 182 #[.pointer (some ⟨cb,0,none⟩),.int .i64 ((i:Nat):Int),.string eff,Ref.zY r ao cap] w λe w'=>e = .returned (Yj eff i (De.yO eff r (st i)))/\Below w.heap.size w w':=by
 obtain⟨T,h1⟩:∃W,w.alloc (.cells #[.string r.who,.string r.act,.string r.on,.slice ao r.marks.length cap] 53)=W:=⟨_,rfl⟩;have s1:T.heap.size=w.heap.size+1:=by rw[<- h1];simp
 have V:T.heap[w.heap.size]?=some (.cells #[.string r.who,.string r.act,.string r.on,.slice ao r.marks.length cap] 53):=by rw[<- h1];exact zB w _
 have b1:Below w.heap.size w T:=by rw[<- h1];exact nbl w _
 obtain⟨W2,h2⟩:∃W,T.alloc Qt=W:=⟨_,rfl⟩;have n2:W2.heap[w.heap.size+1]?=some Qt:=by rw[<- h2,<- s1];exact zB T _
 have b2:Below T.heap.size T W2:=by rw[<- h2];exact nbl T _
 have bw:Below w.heap.size w W2:=b1.trans (b2.mono b1.size);have bx:Qh W2 w.heap.size (.string r.who) (.string r.act) (.string r.on) (.slice ao r.marks.length cap):=⟨Zt (r:=r) (ao:=ao) (cap:=cap) ⟨(zg V 0).1,(zg V 1).1,(zg V 2).1,(zg V 3).1⟩ b2,n2⟩;have HW:Hid ((w.alloc (.cells #[.string r.who,.string r.act,.string r.on,.slice ao r.marks.length cap] 53)).alloc (.cells #[.int .i64 0,.int .i64 0,.string ⟨#[]⟩,.int .i64 0] 48)=W2):=hid (by rw[h1];exact h2);have ci:=fJ cb lv ks (i:Int) M W2 (h.below bw) hn hN (λb hb=>xS (hM b hb) bw.size);have G:=λout ho=>c7.layer h4 (out:=out) ho;have hd:∀x ∈ st i,XX x.2:=hg.2.2;have hlen:(st i).length<=4:=hg.2.1;obtain⟨L,hL⟩:=Nm (st i);rw[hL] at G hd hlen |-;have cA:=λ(W:World) (hb:Below w.heap.size w W) (f:List zS) (d9:XX f) (s:zS) (hs:s ∈ f) l1 l2 l3 lc (q:XE W l1 l2 l3 lc s)=>EO s l1 l2 l3 lc r ao cap W q (d9.few s hs).1 (d9.few s hs).2.1 (xB d6 hb) d8;obtain⟨F,hF⟩:=Nm (De.yO eff r L);rw[hF];have B:=λk h=>rJ eff r L k h;have CI:=hid ci;have HL:=hid G;have HD:=hid hd;have CA:=hid cA;have HF:=hid hF;have h6:=hid B;have BW:=hid bw;have BX:=hid bx;clear ci G hd cA hF B bw h hn hN hM c7 hg d6 d8 h1 h2 s1 V n2 b1 b2 hL;obtain⟨who,act,on,ms⟩:=r;unfold Ref.zY at CA |-;simp only at CA HW bx |-;obtain⟨⟨z0,z1,z2,z3⟩,_⟩:=bx;go_enter func182,ntmps182
 go_upto_region 1 with fail
 rw[HW.out]
 go_upto_region 2 with (go_at_call 126;refine CI.out.mono ?_;rintro e w1 ⟨v,xs,out,rfl,c9,U,e4,hb⟩;have b9:=hid (Rs U e4);have b8:=hid (HL.out out c9);have g:=hid (BW.out.trans (hb.mono BW.out.size));have a9:=hid (BX.out.below hb);clear c9 U e4 hb)
 have d0:=b9.out;rw[<- b8.out] at d0;obtain⟨a,c,rfl,y⟩:=d0;have HC:=hid y;clear y b9 b8 CI HL z0 z1 z2 z3 BX BW;obtain⟨n,a3⟩:=Nm L.length;have HN:=hid a3;rw[a3] at hlen |-;clear a3;go_wp2_with fail
 go_loopw [10] (λiv wr=>∃j:Nat,j<=n/\iv = .int .i64 j/\De.yO eff ⟨who,act,on,ms⟩ (L.drop j)=F/\Below w1.heap.size w1 wr) (λiv _=>n-(intOf iv).toNat)
 case atStart=>exact⟨0,zH _,rfl,HF.out,ze _ _⟩
 case round=>
  obtain⟨j,hj,rfl,c8,hb⟩:=hrel;have b4:=hid c8;have O:=hid hb;obtain⟨wo,i7⟩:∃x,x=wr:=⟨_,rfl⟩;subst i7;clear c8 hb
  by_cases hlt:j<n
  ·have a2:j<L.length:=by rw[HN.out];exact hlt
   obtain⟨gb,da,dn,dc,rfl,q1,q2,H⟩:=HC.out j a2;have R:=HD.out L[j] (qA a2);have q:=h6.out j a2;rw[b4.out] at q;obtain⟨x,hx⟩:=Nm (L[j]);simp only[hx] at q1 H R q;obtain⟨nm,f⟩:=x;simp only at q1 H R q;obtain⟨o7,o8,e,I⟩:=H;injection e with e1 e2 e3
   subst e1 e2 e3;have h7:=hid q1;have h8:=hid q2;have HR:=hid I;have c4:=hid R;have c5:=hid q;have p9:=zh O.out q2;clear q1 q2 I R q hx;go_wp2_with fail
   go_loopw [11] (λkv wr=>∃k:Nat,k<=f.length/\kv = .int .i64 k/\(∀m,(h:m<k)->(hl:m<f.length)->De.QR eff ⟨who,act,on,ms⟩ f[m]=false)/\Below w1.heap.size w1 wr) (λkv _=>f.length-(intOf kv).toNat)
   case atStart=>exact⟨0,zH _,rfl,λm h=>by omega,O.out⟩
   case round=>
    obtain⟨k,hk,rfl,d7,hb⟩:=hrel;have Q:=hid d7;have u:=hid hb;have p1:=zh u.out h7.out;have p2:=zh u.out h8.out;have b3:=hid (a9.out.below u.out);obtain⟨⟨z0,z1,z2,z3⟩,_⟩:=b3.out;have l0:f.length<=10:=c4.out.1;clear d7 hb
    by_cases hkl:k<f.length
    ·rcases HR.out with e|⟨sb,o,rfl,hc⟩
     ·subst e;simp at hkl
     obtain⟨l1,l2,l3,lc,t0,t1,t2,t3,t4,t5,t6,t7,t8⟩:=hc k hkl;obtain⟨x1,y1,rfl,_⟩:=Yp t8.who;obtain⟨x2,y2,rfl,_⟩:=Yp t8.act;obtain⟨x3,y3,rfl,_⟩:=Yp t8.on;obtain⟨x4,y4,rfl,_⟩:=oG t8.ifs;have u0:=zh u.out t0;have u1:=zh u.out t1;have u2:=zh u.out t2;have u3:=zh u.out t3;have u4:=zh u.out t4;have u5:=zh u.out t5;have u6:=zh u.out t6;have u7:=zh u.out t7;have ca:=λ(W:World) (hb:Below w1.heap.size w1 W)=>CA.out W (g.out.trans (hb.mono g.out.size)) f c4.out f[k] (qA hkl) _ _ _ _ (t8.below hb);have E:De.QR eff ⟨who,act,on,ms⟩ f[k]=((f[k].eff.toList==eff.toList)&&De.YD f[k] ⟨who,act,on,ms⟩):=rfl;have D:=λ(h1:De.QR eff ⟨who,act,on,ms⟩ f[k]=true)=>Ow (p:=De.QR eff ⟨who,act,on,ms⟩) hkl h1 (λm hm=>Q.out m hm (by omega));obtain⟨s,hs⟩:=Nm (f[k]);simp only[hs] at u0 u1 u2 u3 u4 u5 u6 u7 ca E D;obtain⟨A,hA⟩:=Nm (De.YD s ⟨who,act,on,ms⟩);simp only[hA] at ca E;obtain⟨ef,⟨V,s1⟩,⟨n2,s2⟩,⟨n3,s3⟩,is⟩:=s;simp only at u0 u1 u2 u3 u4 u5 u6 u7 ca E;obtain⟨m1,d2⟩:∃m,s1.length=m:=⟨_,rfl⟩;obtain⟨m2,d3⟩:∃m,s2.length=m:=⟨_,rfl⟩;obtain⟨m3,d4⟩:∃m,s3.length=m:=⟨_,rfl⟩;obtain⟨m4,d5⟩:∃m,is.length=m:=⟨_,rfl⟩;simp only[d2,d3,d4,d5] at u2 u4 u6 u7 ca;obtain⟨w5,S⟩:∃W,wr.alloc (.cells #[.string ef,.bool V,.slice x1 m1 y1,.bool n2,.slice x2 m2 y2,.bool n3,.slice x3 m3 y3,.slice x4 m4 y4] 160)=W:=⟨_,rfl⟩;have b5:Below wr.heap.size wr w5:=by rw[<- S];exact nbl wr _
     have J:w5.heap[wr.heap.size]?=some (.cells #[.string ef,.bool V,.slice x1 m1 y1,.bool n2,.slice x2 m2 y2,.bool n3,.slice x3 m3 y3,.slice x4 m4 y4] 160):=by rw[<- S];exact zB wr _
     have Y:=hid (u.out.trans (b5.mono u.out.size));have b0:=hid (b3.out.below b5);have v1:=zh b5 p1;have h9:=hid S;have N5:=hid J;have CC:=hid (ca w5 Y.out);obtain⟨⟨c0,c1,c2,c3⟩,_⟩:=b0.out;have f0:=(zg J 0).1;have f1:=(zg J 1).1;have f2:=(zg J 2).1;have f3:=(zg J 3).1;have f4:=(zg J 4).1;have f5:=(zg J 5).1;have f6:=(zg J 6).1;have f7:=(zg J 7).1;simp at f0 f1 f2 f3 f4 f5 f6 f7;have b7:=hid D;have a0:=hid E;have HS:=hid hs;clear S b5 J ca E D hA hs hc t0 t1 t2 t3 t4 t5 t6 t7 t8 d2 d3 d4 d5
     go_upto_region 9 with fail
     rw[h9.out]
     go_upto_region 10 with (go_at_call 222;refine CC.out.mono ?_;rintro e w6 ⟨rfl,b6⟩;have N:=hid (Y.out.trans (b6.mono Y.out.size));have K:=hid (b0.out.below b6);have e0:=zh b6 f0;have e1:=zh b6 v1;clear b6)
     cases A with
     | false=>
      have d:=a0.out;rw[Bool.and_false] at d;have Z:=hid d;clear d;go_wp2_with fail;refine⟨⟨k+1,by omega,by go_num,λm hm hl=>?_,N.out⟩,by simp[intOf];omega⟩
      by_cases hmk:m=k
      ·subst hmk;rw[HS.out];exact Z.out
      ·exact Q.out m (by omega) hl
     | true=>
     cases hef:(ef.toList==eff.toList) with
     | false=>
      have d:=a0.out;rw[hef,uJ] at d;have Z:=hid d;clear d;go_wp2_with fail;refine⟨⟨k+1,by omega,by go_num,λm hm hl=>?_,N.out⟩,by simp[intOf];omega⟩
      by_cases hmk:m=k
      ·subst hmk;rw[HS.out];exact Z.out
      ·exact Q.out m (by omega) hl
     | true=>
      have t:=a0.out;rw[hef,jC] at t;have C:De.YM eff ⟨who,act,on,ms⟩ f=some k:=b7.out t;have l:=c5.out;rw[C] at l;have P:=hid l;have k8:(k:Int)+1<=11:=by omega
      obtain⟨⟨y0,y1,y2,y3⟩,t0,t1,t2,t3⟩:=K.out.cells;have d1:w.heap.size+1<w6.heap.size:=zt K.out.2;clear t C l
      cases hdn:(eff.toList==[100,101,110,121]) with
      | true=>
       obtain⟨r0,r1,r2,r3⟩:=Qi K.out.2 (.int .i64 2) (.int .i64 (i:Int)) (.string nm) (.int .i64 ((k:Int)+1));have z:=hid (Za (b:=w.heap.size+1) (g.out.trans (N.out.mono g.out.size)) (by omega) (.int .i64 2) (.int .i64 (i:Int)) (.string nm) (.int .i64 ((k:Int)+1)));go_wp2_with fail;exact zA (v := .agg #[.int .i64 2,.int .i64 (i:Int),.string nm,.int .i64 ((k:Int)+1)]) (by simp[results,results182,go_sem,r0,r1,r2,r3]) rfl ⟨by rw[P.out];unfold Yj jM;simp only;rw[hdn];rfl,z.out⟩
      | false=>
       obtain⟨r0,r1,r2,r3⟩:=Qi K.out.2 (.int .i64 1) (.int .i64 (i:Int)) (.string nm) (.int .i64 ((k:Int)+1));have z:=hid (Za (b:=w.heap.size+1) (g.out.trans (N.out.mono g.out.size)) (by omega) (.int .i64 1) (.int .i64 (i:Int)) (.string nm) (.int .i64 ((k:Int)+1)));go_wp2_with fail;exact zA (v := .agg #[.int .i64 1,.int .i64 (i:Int),.string nm,.int .i64 ((k:Int)+1)]) (by simp[results,results182,go_sem,r0,r1,r2,r3]) rfl ⟨by rw[P.out];unfold Yj jM;simp only;rw[hdn];rfl,z.out⟩
    ·have i6:k=f.length:=by omega
     subst i6;have C:De.YM eff ⟨who,act,on,ms⟩ f=none:=Oy (λm hm=>Q.out m hm hm);have l:=c5.out;rw[C] at l;have P:=hid l;clear C l;go_wp2_with fail;refine⟨⟨j+1,by omega,by go_num,P.out.symm,u.out⟩,by simp[intOf];omega⟩
  ·have i5:j=n:=by omega
   have e:=b4.out;rw[XT (by rw[HN.out];omega)] at e;have HE:=hid e;have X:=hid (a9.out.below O.out);obtain⟨⟨y0,y1,y2,y3⟩,t0,t1,t2,t3⟩:=X.out.cells;have d1:w.heap.size+1<wo.heap.size:=zt X.out.2;obtain⟨r0,r1,r2,r3⟩:=Qi X.out.2 (.int .i64 0) (.int .i64 0) (.string ⟨#[]⟩) (.int .i64 0);have z:=hid (Za (b:=w.heap.size+1) (g.out.trans (O.out.mono g.out.size)) (by omega) (.int .i64 0) (.int .i64 0) (.string ⟨#[]⟩) (.int .i64 0));clear e;subst i5;go_wp2_with fail;exact zA (v := .agg #[.int .i64 0,.int .i64 0,.string ⟨#[]⟩,.int .i64 0]) (by simp[results,results182,go_sem,r0,r1,r2,r3]) rfl ⟨by rw[<- HE.out];rfl,z.out⟩
end Go.Proofs.YtdakgnaojakldaaGreatDoor
