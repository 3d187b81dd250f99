/- P -/
import Derived.Test.YtagnlbgbnfnapaaGreatDoorZ44
open Go.Proofs.Tryz
set_option maxRecDepth 100000
set_option maxHeartbeats 8000000
namespace Go.Proofs.YtagnlbgbnfnapaaGreatDoor
open Go.RowKit
def VP(d:De.Dec):Value:=ZX ((d.verdict:Nat):Int) ((d.layer:Nat):Int) d.doc ((d.stmt:Nat):Int)
def Y0(W:World)(b:Nat)(u0 u1 u2 u3:Value):Prop:=(W.cell? ⟨b,0,none⟩=some u0/\W.cell? ⟨b,1,none⟩=some u1/\W.cell? ⟨b,2,none⟩=some u2/\W.cell? ⟨b,3,none⟩=some u3)/\W.heap[b+1]?=some YH
theorem Y0.below{W a:World}{b:Nat}{u0 u1 u2 u3:Value}(h:Y0 W b u0 u1 u2 u3)(hb:Below W.heap.size W a):Y0 a b u0 u1 u2 u3:=by
 obtain⟨⟨d,e,f,g⟩,c⟩:=h;exact⟨⟨zh hb d,zh hb e,zh hb f,zh hb g⟩,(hb.block _ (zY c)).trans c⟩
theorem Y0.cells{W:World}{b:Nat}{u0 u1 u2 u3:Value}(h:Y0 W b u0 u1 u2 u3):(W.cell? ⟨b+1,0,none⟩=some (.int .i64 0)/\W.cell? ⟨b+1,1,none⟩=some (.int .i64 0)/\W.cell? ⟨b+1,2,none⟩=some (.string ⟨#[]⟩)/\W.cell? ⟨b+1,3,none⟩=some (.int .i64 0)) /\
  W.frozen? ⟨b+1,0,none⟩=false/\W.frozen? ⟨b+1,1,none⟩=false/\W.frozen? ⟨b+1,2,none⟩=false/\W.frozen? ⟨b+1,3,none⟩=false:=
 ⟨⟨(zf h.2 0).1,(zf h.2 1).1,(zf h.2 2).1,(zf h.2 3).1⟩,(zf h.2 0).2,(zf h.2 1).2,(zf h.2 2).2,(zf h.2 3).2⟩
theorem Y2{W:World}{b:Nat}{g i j k:Value}(h:W.heap[b]?=some (jE g i j k))(a c d e:Value) :
  ((((W.setCell ⟨b,0,none⟩ a).setCell ⟨b,1,none⟩ c).setCell ⟨b,2,none⟩ d).setCell ⟨b,3,none⟩ e).cell? ⟨b,0,none⟩=some a /\
  ((((W.setCell ⟨b,0,none⟩ a).setCell ⟨b,1,none⟩ c).setCell ⟨b,2,none⟩ d).setCell ⟨b,3,none⟩ e).cell? ⟨b,1,none⟩=some c /\
  ((((W.setCell ⟨b,0,none⟩ a).setCell ⟨b,1,none⟩ c).setCell ⟨b,2,none⟩ d).setCell ⟨b,3,none⟩ e).cell? ⟨b,2,none⟩=some d /\
  ((((W.setCell ⟨b,0,none⟩ a).setCell ⟨b,1,none⟩ c).setCell ⟨b,2,none⟩ d).setCell ⟨b,3,none⟩ e).cell? ⟨b,3,none⟩=some e:=by
 have f:=bM h a c d e;exact⟨(zf f 0).1,(zf f 1).1,(zf f 2).1,(zf f 3).1⟩
theorem oC{W:World}{b:Nat}{f g i j:Value}(h:W.heap[b]?=some (jE f g i j))(a c d e:Value)(O:Obj) :
  (((((W.setCell ⟨b,0,none⟩ a).setCell ⟨b,1,none⟩ c).setCell ⟨b,2,none⟩ d).setCell ⟨b,3,none⟩ e).alloc O).cell? ⟨b,0,none⟩=some a /\
  (((((W.setCell ⟨b,0,none⟩ a).setCell ⟨b,1,none⟩ c).setCell ⟨b,2,none⟩ d).setCell ⟨b,3,none⟩ e).alloc O).cell? ⟨b,1,none⟩=some c /\
  (((((W.setCell ⟨b,0,none⟩ a).setCell ⟨b,1,none⟩ c).setCell ⟨b,2,none⟩ d).setCell ⟨b,3,none⟩ e).alloc O).cell? ⟨b,2,none⟩=some d /\
  (((((W.setCell ⟨b,0,none⟩ a).setCell ⟨b,1,none⟩ c).setCell ⟨b,2,none⟩ d).setCell ⟨b,3,none⟩ e).alloc O).cell? ⟨b,3,none⟩=some e:=by
 obtain⟨r0,k,l,m⟩:=Y2 h a c d e;have hb:=(zi _ ((((W.setCell ⟨b,0,none⟩ a).setCell ⟨b,1,none⟩ c).setCell ⟨b,2,none⟩ d).setCell ⟨b,3,none⟩ e)).alloc (ze _) O;exact⟨zh hb r0,zh hb k,zh hb l,zh hb m⟩
theorem Y1{w W:World}{b:Nat}(hb:Below w.heap.size w W)(a:w.heap.size<=b)(c d e f:Value):Below w.heap.size w ((((W.setCell ⟨b,0,none⟩ c).setCell ⟨b,1,none⟩ d).setCell ⟨b,2,none⟩ e).setCell ⟨b,3,none⟩ f):=
 (((hb.setCell a _).setCell a _).setCell a _).setCell a _
theorem Gg(Q:Nat)(t:StO)(r:Ref.Req)(ao:Option Addr)(cap:Nat)(M:Nat->Prop)(w:World)(h:qN M w Q t)(y:xD w ao r.marks)(z:Ref.yT r=true)(hE:xK w) :
  Calls prog 23 #[.pointer (some ⟨Q,0,none⟩),Ref.qY r ao cap] w λe R=>e = .returned (VP (De.Za t r))/\Below w.heap.size w R:=by
 obtain⟨D,Z⟩:∃W,w.alloc (.cells #[.string r.who,.string r.act,.string r.on,.slice ao r.marks.length cap] 34)=W:=⟨_,rfl⟩;have s1:D.heap.size=w.heap.size+1:=by rw[<- Z];simp
 have n1:D.heap[w.heap.size]?=some (.cells #[.string r.who,.string r.act,.string r.on,.slice ao r.marks.length cap] 34):=by rw[<- Z];exact zL w _
 have b1:Below w.heap.size w D:=by rw[<- Z];exact nB w _
 obtain⟨I,h2⟩:∃W,D.alloc YH=W:=⟨_,rfl⟩;have n2:I.heap[w.heap.size+1]?=some YH:=by rw[<- h2,<- s1];exact zL D _
 have b2:Below D.heap.size D I:=by rw[<- h2];exact nB D _
 have bw:Below w.heap.size w I:=b1.trans (b2.mono b1.size);have bx:Y0 I w.heap.size (.string r.who) (.string r.act) (.string r.on) (.slice ao r.marks.length cap):=⟨YZ (r:=r) (ao:=ao) (cap:=cap) ⟨(zf n1 0).1,(zf n1 1).1,(zf n1 2).1,(zf n1 3).1⟩ b2,n2⟩;have HW:Hid ((w.alloc (.cells #[.string r.who,.string r.act,.string r.on,.slice ao r.marks.length cap] 34)).alloc (.cells #[.int .i64 0,.int .i64 0,.string ⟨#[]⟩,.int .i64 0] 37)=I):=hid (by rw[Z];exact h2)
 have V:∀(W:World),Below w.heap.size w W->Calls prog 49 #[.pointer (some ⟨Q,0,none⟩),.string De.yo,Ref.qY r ao cap,.slice (some ⟨W.heap.size,0,none⟩) 4 4] (W.alloc (.cells #[.int .i64 0,.int .i64 1,.int .i64 2,.int .i64 3] 3)) λe R=>e = .returned (Ym (De.qX t De.yo r [0,1,2,3]))/\Below W.heap.size W R:=by
  intro W hb;have N:Below W.heap.size W (W.alloc (.cells #[.int .i64 0,.int .i64 1,.int .i64 2,.int .i64 3] 3)):=nB W _;have n:=hb.trans (N.mono hb.size);refine (gp Q t De.yo r ao (some ⟨W.heap.size,0,none⟩) cap 4 [0,1,2,3] M _ (h.below n) (λj E=>by simp at E;omega) (by simp) (λj E=>?_) (kF y n) z (hE.below n)).mono (λe R ⟨he,O⟩=>⟨he,N.trans (O.mono N.size)⟩);refine⟨W.heap.size,0,rfl,?_⟩;simp at E;rw[qM,(zf (zL W (.cells #[.int .i64 0,.int .i64 1,.int .i64 2,.int .i64 3] 3)) j).1]
  rcases lt4 E with rfl|rfl|rfl|rfl<;>rfl
 have U:∀(W:World),Below w.heap.size w W->Calls prog 49 #[.pointer (some ⟨Q,0,none⟩),.string De.xR,Ref.qY r ao cap,.slice (some ⟨W.heap.size,0,none⟩) 2 2] (W.alloc (.cells #[.int .i64 2,.int .i64 3] 3)) λe R=>e = .returned (Ym (De.qX t De.xR r [2,3]))/\Below W.heap.size W R:=by
  intro W hb;have N:Below W.heap.size W (W.alloc (.cells #[.int .i64 2,.int .i64 3] 3)):=nB W _;have n:=hb.trans (N.mono hb.size);refine (gp Q t De.xR r ao (some ⟨W.heap.size,0,none⟩) cap 2 [2,3] M _ (h.below n) (λj E=>by simp at E;omega) (by simp) (λj E=>?_) (kF y n) z (hE.below n)).mono (λe R ⟨he,O⟩=>⟨he,N.trans (O.mono N.size)⟩);refine⟨W.heap.size,0,rfl,?_⟩;simp at E;rw[qM,(zf (zL W (.cells #[.int .i64 2,.int .i64 3] 3)) j).1]
  rcases (show j=0\/j=1 by omega) with rfl|rfl<;>rfl
 have cP:=λ(W:World) (hb:Below w.heap.size w W) (i:Nat) (h4:i<4)=>Nt Q t i r ao cap M W (h.below hb) h4 (kF y hb) z (hE.below hb);have c0:=λW hb=>cP W hb 0 (by omega);have c1:=λW hb=>cP W hb 1 (by omega);unfold De.Za;obtain⟨F1,a0⟩:∃F,De.qX t De.yo r [0,1,2,3]=F:=⟨_,rfl⟩;obtain⟨F2,a1⟩:∃F,De.qX t De.xR r [2,3]=F:=⟨_,rfl⟩;obtain⟨P0,a2⟩:∃F,De.jH t r 0=F:=⟨_,rfl⟩;obtain⟨P1,a3⟩:∃F,De.jH t r 1=F:=⟨_,rfl⟩;rw[a0] at V |-;rw[a1] at U |-;rw[a2] at c0 |-;rw[a3] at c1 |-;obtain⟨who,act,on,ms⟩:=r;unfold Ref.qY at V U c0 c1 |-;simp only at V U c0 c1 HW bx |-;unfold De.yo at V;unfold De.xR at U;have T:=hid V;have S:=hid U;have C0:=hid c0;have C1:=hid c1;have G:=hid bw;have BX:=hid bx;obtain⟨⟨z0,z1,z2,z3⟩,_⟩:=bx;clear V U c0 c1 cP a0 a1 a2 a3 h y z hE Z h2 s1 n1 n2 b1 b2 bw;go_enter func23,ntmps23
 go_upto_region 1 with fail
 rw[HW.out]
 cases F1 with
 | some d=>
  obtain⟨i,nm,k⟩:=d;unfold Ym ZX at T;simp only at T
  go_upto_region 2 with (go_at_call 49;refine (T.out I G.out).mono ?_;rintro e X ⟨rfl,J⟩;have q:=hid (G.out.trans (J.mono G.out.size));have o:=hid (BX.out.below J);clear J)
  obtain⟨⟨y0,y1,y2,y3⟩,t0,t1,t2,t3⟩:=o.out.cells;have e0:w.heap.size+1<X.heap.size:=zY o.out.2;obtain⟨r0,A,B,C⟩:=oC o.out.2 (.int .i64 2) (.int .i64 (i:Int)) (.string nm) (.int .i64 (k:Int)) (.cells #[.int .i64 2,.int .i64 (i:Int),.string nm,.int .i64 (k:Int)] 37);have a:=hid (Y1 (b:=w.heap.size+1) q.out (by omega) (.int .i64 2) (.int .i64 (i:Int)) (.string nm) (.int .i64 (k:Int)));go_wp2_with fail;exact qa (v := .agg #[.int .i64 2,.int .i64 (i:Int),.string nm,.int .i64 (k:Int)]) (by simp[results,results23,go_sem,r0,A,B,C]) rfl ⟨rfl,a.out.alloc a.out.size _⟩
 | none=>
  unfold Ym ZX at T;simp only at T
  go_upto_region 2 with (go_at_call 49;refine (T.out I G.out).mono ?_;rintro e X ⟨rfl,J⟩;have q:=hid (G.out.trans (J.mono G.out.size));have o:=hid (BX.out.below J);clear J)
  obtain⟨w4,hw4⟩:∃W,X.alloc (.cells #[.int .i64 0,.int .i64 0,.string ⟨#[]⟩,.int .i64 0] 37)=W:=⟨_,rfl⟩;have b4:Below X.heap.size X w4:=by rw[<- hw4];exact nB X _
  have f:=hid (q.out.trans (b4.mono q.out.size));have u:=hid (o.out.below b4);rw[hw4];obtain⟨⟨z0,z1,z2,z3⟩,_⟩:=u.out;clear b4 hw4 o q BX G
  cases P0 with
  | false=>
   go_upto_region 6 with (go_at_call 50;refine (C0.out w4 f.out).mono ?_;rintro e w5 ⟨rfl,s⟩;have g:=hid (f.out.trans (s.mono f.out.size));have c:=hid (u.out.below s);clear s)
   obtain⟨⟨y0,y1,y2,y3⟩,t0,t1,t2,t3⟩:=c.out.cells;have P:w.heap.size+1<w5.heap.size:=zY c.out.2;obtain⟨r0,A,B,C⟩:=Y2 c.out.2 (.int .i64 3) (.int .i64 0) (.string ⟨#[]⟩) (.int .i64 0);have a:=hid (Y1 (b:=w.heap.size+1) g.out (by omega) (.int .i64 3) (.int .i64 0) (.string ⟨#[]⟩) (.int .i64 0));go_wp2_with fail;exact qa (v := .agg #[.int .i64 3,.int .i64 0,.string ⟨#[]⟩,.int .i64 0]) (by simp[results,results23,go_sem,r0,A,B,C]) rfl ⟨rfl,a.out⟩
  | true=>
  cases P1 with
  | false=>
   go_upto_region 6 with (first
    | (go_at_call 50;refine (C1.out w5 g.out).mono ?_;rintro e w6 ⟨rfl,K⟩;have l:=hid (g.out.trans (K.mono g.out.size));have m:=hid (c.out.below K);clear K)
    | (go_at_call 50;refine (C0.out w4 f.out).mono ?_;rintro e w5 ⟨rfl,s⟩;have g:=hid (f.out.trans (s.mono f.out.size));have c:=hid (u.out.below s);obtain⟨⟨x0,x1,x2,x3⟩,_⟩:=c.out;clear s))
   obtain⟨⟨y0,y1,y2,y3⟩,t0,t1,t2,t3⟩:=m.out.cells;have P:w.heap.size+1<w6.heap.size:=zY m.out.2;obtain⟨r0,A,B,C⟩:=Y2 m.out.2 (.int .i64 3) (.int .i64 0) (.string ⟨#[]⟩) (.int .i64 0);have a:=hid (Y1 (b:=w.heap.size+1) l.out (by omega) (.int .i64 3) (.int .i64 0) (.string ⟨#[]⟩) (.int .i64 0));go_wp2_with fail;exact qa (v := .agg #[.int .i64 3,.int .i64 0,.string ⟨#[]⟩,.int .i64 0]) (by simp[results,results23,go_sem,r0,A,B,C]) rfl ⟨rfl,a.out⟩
  | true=>
   go_upto_region 7 with (first
    | (go_at_call 50;refine (C1.out w5 g.out).mono ?_;rintro e w6 ⟨rfl,K⟩;have l:=hid (g.out.trans (K.mono g.out.size));have m:=hid (c.out.below K);clear K)
    | (go_at_call 50;refine (C0.out w4 f.out).mono ?_;rintro e w5 ⟨rfl,s⟩;have g:=hid (f.out.trans (s.mono f.out.size));have c:=hid (u.out.below s);obtain⟨⟨x0,x1,x2,x3⟩,_⟩:=c.out;clear s))
   obtain⟨⟨x0,x1,x2,x3⟩,_⟩:=m.out
   cases F2 with
   | none=>
    unfold Ym ZX at S;simp only at S
    go_upto_region 8 with (go_at_call 49;refine (S.out w6 l.out).mono ?_;rintro e Y ⟨rfl,L⟩;have x:=hid (l.out.trans (L.mono l.out.size));have p:=hid (m.out.below L);clear L)
    obtain⟨w8,hw8⟩:∃W,Y.alloc (.cells #[.int .i64 0,.int .i64 0,.string ⟨#[]⟩,.int .i64 0] 37)=W:=⟨_,rfl⟩;have b8:Below Y.heap.size Y w8:=by rw[<- hw8];exact nB Y _
    have d0:=hid (x.out.trans (b8.mono x.out.size));have H:=hid (p.out.below b8);rw[hw8];clear b8 hw8;obtain⟨⟨y0,y1,y2,y3⟩,t0,t1,t2,t3⟩:=H.out.cells;have P:w.heap.size+1<w8.heap.size:=zY H.out.2;obtain⟨r0,A,B,C⟩:=Y2 H.out.2 (.int .i64 3) (.int .i64 0) (.string ⟨#[]⟩) (.int .i64 0);have a:=hid (Y1 (b:=w.heap.size+1) d0.out (by omega) (.int .i64 3) (.int .i64 0) (.string ⟨#[]⟩) (.int .i64 0));go_wp2_with fail;exact qa (v := .agg #[.int .i64 3,.int .i64 0,.string ⟨#[]⟩,.int .i64 0]) (by simp[results,results23,go_sem,r0,A,B,C]) rfl ⟨rfl,a.out⟩
   | some d=>
    obtain⟨i,nm,k⟩:=d;unfold Ym ZX at S;simp only at S
    go_upto_region 8 with (go_at_call 49;refine (S.out w6 l.out).mono ?_;rintro e Y ⟨rfl,L⟩;have x:=hid (l.out.trans (L.mono l.out.size));have p:=hid (m.out.below L);clear L)
    obtain⟨⟨y0,y1,y2,y3⟩,t0,t1,t2,t3⟩:=p.out.cells;have P:w.heap.size+1<Y.heap.size:=zY p.out.2;obtain⟨r0,A,B,C⟩:=oC p.out.2 (.int .i64 1) (.int .i64 (i:Int)) (.string nm) (.int .i64 (k:Int)) (.cells #[.int .i64 1,.int .i64 (i:Int),.string nm,.int .i64 (k:Int)] 37);have a:=hid (Y1 (b:=w.heap.size+1) x.out (by omega) (.int .i64 1) (.int .i64 (i:Int)) (.string nm) (.int .i64 (k:Int)));go_wp2_with fail;exact qa (v := .agg #[.int .i64 1,.int .i64 (i:Int),.string nm,.int .i64 (k:Int)]) (by simp[results,results23,go_sem,r0,A,B,C]) rfl ⟨rfl,a.out.alloc a.out.size _⟩
theorem KE(R:Nat)(t:StO)(r:Ref.Req)(ao:Option Addr)(cap:Nat)(M:Nat->Prop)(w:World)(h:qN M w R t)(f:xD w ao r.marks)(O:Pg.reqLen r)(D:xK w) :
  Calls prog 10 #[.pointer (some ⟨R,0,none⟩),Ref.qY r ao cap] w λe w'=>e = .returned (.tuple #[VP (De.yF t r).1,.int .i64 (De.yF t r).2])/\Below w.heap.size w w':=by
 obtain⟨g,o⟩:∃W,w.alloc (.cells #[.string r.who,.string r.act,.string r.on,.slice ao r.marks.length cap] 34)=W:=⟨_,rfl⟩;have V:g.heap.size=w.heap.size+1:=by rw[<- o];simp
 have p:g.heap[w.heap.size]?=some (.cells #[.string r.who,.string r.act,.string r.on,.slice ao r.marks.length cap] 34):=by rw[<- o];exact zL w _
 have z:Below w.heap.size w g:=by rw[<- o];exact nB w _
 obtain⟨n,s⟩:∃W,g.alloc YH=W:=⟨_,rfl⟩;have P:n.heap[w.heap.size+1]?=some YH:=by rw[<- s,<- V];exact zL g _
 have A:Below g.heap.size g n:=by rw[<- s];exact nB g _
 have q:Below w.heap.size w n:=z.trans (A.mono z.size);have bx:Y0 n w.heap.size (.string r.who) (.string r.act) (.string r.on) (.slice ao r.marks.length cap):=⟨YZ (r:=r) (ao:=ao) (cap:=cap) ⟨(zf p 0).1,(zf p 1).1,(zf p 2).1,(zf p 3).1⟩ A,P⟩;have y:Hid ((w.alloc (.cells #[.string r.who,.string r.act,.string r.on,.slice ao r.marks.length cap] 34)).alloc (.cells #[.int .i64 0,.int .i64 0,.string ⟨#[]⟩,.int .i64 0] 37)=n):=hid (by rw[o];exact s);have C:=Oc r ao cap n (kF f q) O (D.below q).d.tabs;have B:=λ(W:World) (hb:Below w.heap.size w W) (N:Ref.yT r=true)=>Gg R t r ao cap M W (h.below hb) (kF f hb) N (D.below hb);unfold De.yF;obtain⟨Q,E⟩:=Nm (Ref.yT r);rw[E] at C |-;obtain⟨Z,l⟩:∃d,De.Za t r=d:=⟨_,rfl⟩;rw[l] at B |-;have u:=hid q;have Y:=hid bx;have m:=hid C
 cases Q with
 | false=>
  clear B C h f O D o s V p P z A q E l;obtain⟨who,act,on,ms⟩:=r;unfold Ref.qY at m |-;simp only[yB,yu] at m y bx |-;obtain⟨⟨z0,z1,z2,z3⟩,_⟩:=bx;go_enter func10,ntmps10
  go_upto_region 1 with fail
  rw[y.out]
  go_upto_region 2 with (go_at_call 22;refine m.out.mono ?_;rintro e X ⟨rfl,k⟩;have c:=hid (u.out.trans (k.mono u.out.size));have a:=hid (Y.out.below k);clear k)
  obtain⟨⟨y0,y1,y2,y3⟩,t0,t1,t2,t3⟩:=a.out.cells;have L:w.heap.size+1<X.heap.size:=zY a.out.2;obtain⟨r0,S,T,U⟩:=Y2 a.out.2 (.int .i64 0) (.int .i64 0) (.string ⟨#[]⟩) (.int .i64 0);have j:=hid (Y1 (b:=w.heap.size+1) c.out (by omega) (.int .i64 0) (.int .i64 0) (.string ⟨#[]⟩) (.int .i64 0));go_wp2_with fail;exact qa (v := .tuple #[.agg #[.int .i64 0,.int .i64 0,.string ⟨#[]⟩,.int .i64 0],.int .i64 11]) (by simp[results,results10,go_sem,r0,S,T,U]) rfl ⟨rfl,j.out⟩
 | true=>
  have x:=hid (λ(W:World) (hb:Below w.heap.size w W)=>B W hb E);clear B C h f O D o s V p P z A q E l;obtain⟨who,act,on,ms⟩:=r;obtain⟨K,I,J,H⟩:=Z;unfold Ref.qY at m x |-;unfold VP ZX at x;simp only[qO] at m x y bx |-;obtain⟨⟨z0,z1,z2,z3⟩,_⟩:=bx;go_enter func10,ntmps10
  go_upto_region 1 with fail
  rw[y.out]
  go_upto_region 3 with (go_at_call 22;refine m.out.mono ?_;rintro e X ⟨rfl,k⟩;have c:=hid (u.out.trans (k.mono u.out.size));have a:=hid (Y.out.below k);clear k)
  obtain⟨⟨x0,x1,x2,x3⟩,_⟩:=a.out
  go_wp2_with (go_at_call 23;refine (x.out X c.out).mono ?_;rintro e w4 ⟨rfl,G⟩;have F:=hid (c.out.trans (G.mono c.out.size));have i:=hid (a.out.below G);clear G;obtain⟨⟨y0,y1,y2,y3⟩,t0,t1,t2,t3⟩:=i.out.cells;have L:w.heap.size+1<w4.heap.size:=zY i.out.2;obtain⟨r0,S,T,U⟩:=Y2 i.out.2 (.int .i64 ((K:Nat):Int)) (.int .i64 ((I:Nat):Int)) (.string J) (.int .i64 ((H:Nat):Int));have j:=hid (Y1 (b:=w.heap.size+1) F.out (by omega) (.int .i64 ((K:Nat):Int)) (.int .i64 ((I:Nat):Int)) (.string J) (.int .i64 ((H:Nat):Int))))
  exact qa (v := .tuple #[.agg #[.int .i64 ((K:Nat):Int),.int .i64 ((I:Nat):Int),.string J,.int .i64 ((H:Nat):Int)],.int .i64 0]) (by simp[results,results10,go_sem,r0,S,T,U]) rfl ⟨rfl,j.out⟩
end Go.Proofs.YtagnlbgbnfnapaaGreatDoor
