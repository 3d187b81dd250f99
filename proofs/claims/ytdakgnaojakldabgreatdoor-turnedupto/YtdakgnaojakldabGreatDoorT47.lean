/- P -/
import Derived.Test.YtdakgnaojakldabGreatDoorT46
open Go.Proofs.Tryz
set_option maxRecDepth 100000
set_option maxHeartbeats 8000000
namespace Go.Proofs.YtdakgnaojakldabGreatDoor
open Go.RowKit
def Jl(d:De.Dec):Value:=kr ((d.verdict:Nat):Int) ((d.layer:Nat):Int) d.doc ((d.stmt:Nat):Int)
def QT(W:World)(b:Nat)(u0 u1 u2 u3:Value):Prop:=(W.cell? ⟨b,0,none⟩=some u0/\W.cell? ⟨b,1,none⟩=some u1/\W.cell? ⟨b,2,none⟩=some u2/\W.cell? ⟨b,3,none⟩=some u3)/\W.heap[b+1]?=some QF
theorem QT.below{W c:World}{b:Nat}{u0 u1 u2 u3:Value}(h:QT W b u0 u1 u2 u3)(a:Below W.heap.size W c):QT c b u0 u1 u2 u3:=by
 obtain⟨⟨e,f,g,i⟩,d⟩:=h;exact⟨⟨zb a e,zb a f,zb a g,zb a i⟩,(a.block _ (lt_of_block d)).trans d⟩
theorem QT.cells{W:World}{b:Nat}{u0 u1 u2 u3:Value}(h:QT W b u0 u1 u2 u3):(W.cell? ⟨b+1,0,none⟩=some (.int .i64 0)/\W.cell? ⟨b+1,1,none⟩=some (.int .i64 0)/\W.cell? ⟨b+1,2,none⟩=some (.string ⟨#[]⟩)/\W.cell? ⟨b+1,3,none⟩=some (.int .i64 0)) /\
  W.frozen? ⟨b+1,0,none⟩=false/\W.frozen? ⟨b+1,1,none⟩=false/\W.frozen? ⟨b+1,2,none⟩=false/\W.frozen? ⟨b+1,3,none⟩=false:=
 ⟨⟨(za h.2 0).1,(za h.2 1).1,(za h.2 2).1,(za h.2 3).1⟩,(za h.2 0).2,(za h.2 1).2,(za h.2 2).2,(za h.2 3).2⟩
theorem Xx{W:World}{b:Nat}{g i j k:Value}(h:W.heap[b]?=some (yo g i j k))(a c d e:Value) :
  ((((W.setCell ⟨b,0,none⟩ a).setCell ⟨b,1,none⟩ c).setCell ⟨b,2,none⟩ d).setCell ⟨b,3,none⟩ e).cell? ⟨b,0,none⟩=some a /\
  ((((W.setCell ⟨b,0,none⟩ a).setCell ⟨b,1,none⟩ c).setCell ⟨b,2,none⟩ d).setCell ⟨b,3,none⟩ e).cell? ⟨b,1,none⟩=some c /\
  ((((W.setCell ⟨b,0,none⟩ a).setCell ⟨b,1,none⟩ c).setCell ⟨b,2,none⟩ d).setCell ⟨b,3,none⟩ e).cell? ⟨b,2,none⟩=some d /\
  ((((W.setCell ⟨b,0,none⟩ a).setCell ⟨b,1,none⟩ c).setCell ⟨b,2,none⟩ d).setCell ⟨b,3,none⟩ e).cell? ⟨b,3,none⟩=some e:=by
 have f:=V7 h a c d e;exact⟨(za f 0).1,(za f 1).1,(za f 2).1,(za f 3).1⟩
theorem bS{W:World}{b:Nat}{g i j k:Value}(h:W.heap[b]?=some (yo g i j k))(a c d e:Value)(O:Obj) :
  (((((W.setCell ⟨b,0,none⟩ a).setCell ⟨b,1,none⟩ c).setCell ⟨b,2,none⟩ d).setCell ⟨b,3,none⟩ e).alloc O).cell? ⟨b,0,none⟩=some a /\
  (((((W.setCell ⟨b,0,none⟩ a).setCell ⟨b,1,none⟩ c).setCell ⟨b,2,none⟩ d).setCell ⟨b,3,none⟩ e).alloc O).cell? ⟨b,1,none⟩=some c /\
  (((((W.setCell ⟨b,0,none⟩ a).setCell ⟨b,1,none⟩ c).setCell ⟨b,2,none⟩ d).setCell ⟨b,3,none⟩ e).alloc O).cell? ⟨b,2,none⟩=some d /\
  (((((W.setCell ⟨b,0,none⟩ a).setCell ⟨b,1,none⟩ c).setCell ⟨b,2,none⟩ d).setCell ⟨b,3,none⟩ e).alloc O).cell? ⟨b,3,none⟩=some e:=by
 obtain⟨r0,l,m,n⟩:=Xx h a c d e;have f:=(Below.refl _ ((((W.setCell ⟨b,0,none⟩ a).setCell ⟨b,1,none⟩ c).setCell ⟨b,2,none⟩ d).setCell ⟨b,3,none⟩ e)).alloc (Nat.le_refl _) O;exact⟨zb f r0,zb f l,zb f m,zb f n⟩
theorem QU{w W:World}{b:Nat}(c:Below w.heap.size w W)(a:w.heap.size<=b)(d e f g:Value):Below w.heap.size w ((((W.setCell ⟨b,0,none⟩ d).setCell ⟨b,1,none⟩ e).setCell ⟨b,2,none⟩ f).setCell ⟨b,3,none⟩ g):=
 (((c.setCell a _).setCell a _).setCell a _).setCell a _
theorem Aa(R:Nat)(u:StO)(r:Ref.Req)(ao:Option Addr)(cap:Nat)(M:Nat->Prop)(w:World)(h:qL M w R u)(z:xL w ao r.marks)(A:Ref.xO r=true)(hE:qR w) :
  Calls prog 15 #[.pointer (some ⟨R,0,none⟩),Ref.qo r ao cap] w λe S=>e = .returned (Jl (De.uB u r))/\Below w.heap.size w S:=by
 obtain⟨E,h1⟩:∃W,w.alloc (.cells #[.string r.who,.string r.act,.string r.on,.slice ao r.marks.length cap] 42)=W:=⟨_,rfl⟩;have s1:E.heap.size=w.heap.size+1:=by rw[<- h1];simp
 have n1:E.heap[w.heap.size]?=some (.cells #[.string r.who,.string r.act,.string r.on,.slice ao r.marks.length cap] 42):=by rw[<- h1];exact heap_alloc_new w _
 have b1:Below w.heap.size w E:=by rw[<- h1];exact nB w _
 obtain⟨J,h2⟩:∃W,E.alloc QF=W:=⟨_,rfl⟩;have n2:J.heap[w.heap.size+1]?=some QF:=by rw[<- h2,<- s1];exact heap_alloc_new E _
 have b2:Below E.heap.size E J:=by rw[<- h2];exact nB E _
 have bw:Below w.heap.size w J:=b1.trans (b2.mono b1.size);have bx:QT J w.heap.size (.string r.who) (.string r.act) (.string r.on) (.slice ao r.marks.length cap):=⟨QS (r:=r) (ao:=ao) (cap:=cap) ⟨(za n1 0).1,(za n1 1).1,(za n1 2).1,(za n1 3).1⟩ b2,n2⟩;have HW:Hid ((w.alloc (.cells #[.string r.who,.string r.act,.string r.on,.slice ao r.marks.length cap] 42)).alloc (.cells #[.int .i64 0,.int .i64 0,.string ⟨#[]⟩,.int .i64 0] 36)=J):=hid (by rw[h1];exact h2)
 have X:∀(W:World),Below w.heap.size w W->Calls prog 25 #[.pointer (some ⟨R,0,none⟩),.string De.jE,Ref.qo r ao cap,.slice (some ⟨W.heap.size,0,none⟩) 4 4] (W.alloc (.cells #[.int .i64 0,.int .i64 1,.int .i64 2,.int .i64 3] 3)) λe S=>e = .returned (Qo (De.qA u De.jE r [0,1,2,3]))/\Below W.heap.size W S:=by
  intro W p;have O:Below W.heap.size W (W.alloc (.cells #[.int .i64 0,.int .i64 1,.int .i64 2,.int .i64 3] 3)):=nB W _;have n:=p.trans (O.mono p.size);refine (UN R u De.jE r ao (some ⟨W.heap.size,0,none⟩) cap 4 [0,1,2,3] M _ (h.below n) (λj G=>by simp at G;omega) (by simp) (λj G=>?_) (jY z n) A (hE.below n)).mono (λe S ⟨he,P⟩=>⟨he,O.trans (P.mono O.size)⟩);refine⟨W.heap.size,0,rfl,?_⟩;simp at G;rw[Nat.zero_add,(za (heap_alloc_new W (.cells #[.int .i64 0,.int .i64 1,.int .i64 2,.int .i64 3] 3)) j).1]
  rcases lt4 G with rfl|rfl|rfl|rfl<;>rfl
 have V:∀(W:World),Below w.heap.size w W->Calls prog 25 #[.pointer (some ⟨R,0,none⟩),.string De.xE,Ref.qo r ao cap,.slice (some ⟨W.heap.size,0,none⟩) 2 2] (W.alloc (.cells #[.int .i64 2,.int .i64 3] 3)) λe S=>e = .returned (Qo (De.qA u De.xE r [2,3]))/\Below W.heap.size W S:=by
  intro W p;have O:Below W.heap.size W (W.alloc (.cells #[.int .i64 2,.int .i64 3] 3)):=nB W _;have n:=p.trans (O.mono p.size);refine (UN R u De.xE r ao (some ⟨W.heap.size,0,none⟩) cap 2 [2,3] M _ (h.below n) (λj G=>by simp at G;omega) (by simp) (λj G=>?_) (jY z n) A (hE.below n)).mono (λe S ⟨he,P⟩=>⟨he,O.trans (P.mono O.size)⟩);refine⟨W.heap.size,0,rfl,?_⟩;simp at G;rw[Nat.zero_add,(za (heap_alloc_new W (.cells #[.int .i64 2,.int .i64 3] 3)) j).1]
  rcases (show j=0\/j=1 by omega) with rfl|rfl<;>rfl
 have cP:=λ(W:World) (p:Below w.heap.size w W) (i:Nat) (h4:i<4)=>FX R u i r ao cap M W (h.below p) h4 (jY z p) A (hE.below p);have c0:=λW p=>cP W p 0 (by omega);have c1:=λW p=>cP W p 1 (by omega);unfold De.uB;obtain⟨F1,a1⟩:∃F,De.qA u De.jE r [0,1,2,3]=F:=⟨_,rfl⟩;obtain⟨F2,a2⟩:∃F,De.qA u De.xE r [2,3]=F:=⟨_,rfl⟩;obtain⟨P0,a3⟩:∃F,De.uM u r 0=F:=⟨_,rfl⟩;obtain⟨P1,a4⟩:∃F,De.uM u r 1=F:=⟨_,rfl⟩;rw[a1] at X |-;rw[a2] at V |-;rw[a3] at c0 |-;rw[a4] at c1 |-;obtain⟨who,act,on,ms⟩:=r;unfold Ref.qo at X V c0 c1 |-;simp only at X V c0 c1 HW bx |-;unfold De.jE at X;unfold De.xE at V;have U:=hid X;have T:=hid V;have C0:=hid c0;have C1:=hid c1;have H:=hid bw;have BX:=hid bx;obtain⟨⟨z0,z1,z2,z3⟩,_⟩:=bx;clear X V c0 c1 cP a1 a2 a3 a4 h z A hE h1 h2 s1 n1 n2 b1 b2 bw;go_enter func15,ntmps15
 go_upto_region 1 with fail
 rw[HW.out]
 cases F1 with
 | some d=>
  obtain⟨i,nm,k⟩:=d;unfold Qo kr at U;simp only at U
  go_upto_region 2 with (go_at_call 25;refine (U.out J H.out).mono ?_;rintro e Y ⟨rfl,K⟩;have s:=hid (H.out.trans (K.mono H.out.size));have o:=hid (BX.out.below K);clear K)
  obtain⟨⟨y0,y1,y2,y3⟩,t0,t1,t2,t3⟩:=o.out.cells;have e1:w.heap.size+1<Y.heap.size:=lt_of_block o.out.2;obtain⟨r0,B,C,D⟩:=bS o.out.2 (.int .i64 2) (.int .i64 (i:Int)) (.string nm) (.int .i64 (k:Int)) (.cells #[.int .i64 2,.int .i64 (i:Int),.string nm,.int .i64 (k:Int)] 36);have a:=hid (QU (b:=w.heap.size+1) s.out (by omega) (.int .i64 2) (.int .i64 (i:Int)) (.string nm) (.int .i64 (k:Int)));go_wp2_with fail;exact bodyPost_ret (v := .agg #[.int .i64 2,.int .i64 (i:Int),.string nm,.int .i64 (k:Int)]) (by simp[results,results15,go_sem,r0,B,C,D]) rfl ⟨rfl,a.out.alloc a.out.size _⟩
 | none=>
  unfold Qo kr at U;simp only at U
  go_upto_region 2 with (go_at_call 25;refine (U.out J H.out).mono ?_;rintro e Y ⟨rfl,K⟩;have s:=hid (H.out.trans (K.mono H.out.size));have o:=hid (BX.out.below K);clear K)
  obtain⟨w4,hw4⟩:∃W,Y.alloc (.cells #[.int .i64 0,.int .i64 0,.string ⟨#[]⟩,.int .i64 0] 36)=W:=⟨_,rfl⟩;have b4:Below Y.heap.size Y w4:=by rw[<- hw4];exact nB Y _
  have f:=hid (s.out.trans (b4.mono s.out.size));have x:=hid (o.out.below b4);rw[hw4];obtain⟨⟨z0,z1,z2,z3⟩,_⟩:=x.out;clear b4 hw4 o s BX H
  cases P0 with
  | false=>
   go_upto_region 6 with (go_at_call 26;refine (C0.out w4 f.out).mono ?_;rintro e w5 ⟨rfl,t⟩;have g:=hid (f.out.trans (t.mono f.out.size));have c:=hid (x.out.below t);clear t)
   obtain⟨⟨y0,y1,y2,y3⟩,t0,t1,t2,t3⟩:=c.out.cells;have Q:w.heap.size+1<w5.heap.size:=lt_of_block c.out.2;obtain⟨r0,B,C,D⟩:=Xx c.out.2 (.int .i64 3) (.int .i64 0) (.string ⟨#[]⟩) (.int .i64 0);have a:=hid (QU (b:=w.heap.size+1) g.out (by omega) (.int .i64 3) (.int .i64 0) (.string ⟨#[]⟩) (.int .i64 0));go_wp2_with fail;exact bodyPost_ret (v := .agg #[.int .i64 3,.int .i64 0,.string ⟨#[]⟩,.int .i64 0]) (by simp[results,results15,go_sem,r0,B,C,D]) rfl ⟨rfl,a.out⟩
  | true=>
  cases P1 with
  | false=>
   go_upto_region 6 with (first
    | (go_at_call 26;refine (C1.out w5 g.out).mono ?_;rintro e w6 ⟨rfl,L⟩;have l:=hid (g.out.trans (L.mono g.out.size));have m:=hid (c.out.below L);clear L)
    | (go_at_call 26;refine (C0.out w4 f.out).mono ?_;rintro e w5 ⟨rfl,t⟩;have g:=hid (f.out.trans (t.mono f.out.size));have c:=hid (x.out.below t);obtain⟨⟨x0,x1,x2,x3⟩,_⟩:=c.out;clear t))
   obtain⟨⟨y0,y1,y2,y3⟩,t0,t1,t2,t3⟩:=m.out.cells;have Q:w.heap.size+1<w6.heap.size:=lt_of_block m.out.2;obtain⟨r0,B,C,D⟩:=Xx m.out.2 (.int .i64 3) (.int .i64 0) (.string ⟨#[]⟩) (.int .i64 0);have a:=hid (QU (b:=w.heap.size+1) l.out (by omega) (.int .i64 3) (.int .i64 0) (.string ⟨#[]⟩) (.int .i64 0));go_wp2_with fail;exact bodyPost_ret (v := .agg #[.int .i64 3,.int .i64 0,.string ⟨#[]⟩,.int .i64 0]) (by simp[results,results15,go_sem,r0,B,C,D]) rfl ⟨rfl,a.out⟩
  | true=>
   go_upto_region 7 with (first
    | (go_at_call 26;refine (C1.out w5 g.out).mono ?_;rintro e w6 ⟨rfl,L⟩;have l:=hid (g.out.trans (L.mono g.out.size));have m:=hid (c.out.below L);clear L)
    | (go_at_call 26;refine (C0.out w4 f.out).mono ?_;rintro e w5 ⟨rfl,t⟩;have g:=hid (f.out.trans (t.mono f.out.size));have c:=hid (x.out.below t);obtain⟨⟨x0,x1,x2,x3⟩,_⟩:=c.out;clear t))
   obtain⟨⟨x0,x1,x2,x3⟩,_⟩:=m.out
   cases F2 with
   | none=>
    unfold Qo kr at T;simp only at T
    go_upto_region 8 with (go_at_call 25;refine (T.out w6 l.out).mono ?_;rintro e Z ⟨rfl,N⟩;have y:=hid (l.out.trans (N.mono l.out.size));have q:=hid (m.out.below N);clear N)
    obtain⟨w8,hw8⟩:∃W,Z.alloc (.cells #[.int .i64 0,.int .i64 0,.string ⟨#[]⟩,.int .i64 0] 36)=W:=⟨_,rfl⟩;have b8:Below Z.heap.size Z w8:=by rw[<- hw8];exact nB Z _
    have d1:=hid (y.out.trans (b8.mono y.out.size));have I:=hid (q.out.below b8);rw[hw8];clear b8 hw8;obtain⟨⟨y0,y1,y2,y3⟩,t0,t1,t2,t3⟩:=I.out.cells;have Q:w.heap.size+1<w8.heap.size:=lt_of_block I.out.2;obtain⟨r0,B,C,D⟩:=Xx I.out.2 (.int .i64 3) (.int .i64 0) (.string ⟨#[]⟩) (.int .i64 0);have a:=hid (QU (b:=w.heap.size+1) d1.out (by omega) (.int .i64 3) (.int .i64 0) (.string ⟨#[]⟩) (.int .i64 0));go_wp2_with fail;exact bodyPost_ret (v := .agg #[.int .i64 3,.int .i64 0,.string ⟨#[]⟩,.int .i64 0]) (by simp[results,results15,go_sem,r0,B,C,D]) rfl ⟨rfl,a.out⟩
   | some d=>
    obtain⟨i,nm,k⟩:=d;unfold Qo kr at T;simp only at T
    go_upto_region 8 with (go_at_call 25;refine (T.out w6 l.out).mono ?_;rintro e Z ⟨rfl,N⟩;have y:=hid (l.out.trans (N.mono l.out.size));have q:=hid (m.out.below N);clear N)
    obtain⟨⟨y0,y1,y2,y3⟩,t0,t1,t2,t3⟩:=q.out.cells;have Q:w.heap.size+1<Z.heap.size:=lt_of_block q.out.2;obtain⟨r0,B,C,D⟩:=bS q.out.2 (.int .i64 1) (.int .i64 (i:Int)) (.string nm) (.int .i64 (k:Int)) (.cells #[.int .i64 1,.int .i64 (i:Int),.string nm,.int .i64 (k:Int)] 36);have a:=hid (QU (b:=w.heap.size+1) y.out (by omega) (.int .i64 1) (.int .i64 (i:Int)) (.string nm) (.int .i64 (k:Int)));go_wp2_with fail;exact bodyPost_ret (v := .agg #[.int .i64 1,.int .i64 (i:Int),.string nm,.int .i64 (k:Int)]) (by simp[results,results15,go_sem,r0,B,C,D]) rfl ⟨rfl,a.out.alloc a.out.size _⟩
theorem U4(S:Nat)(u:StO)(r:Ref.Req)(ao:Option Addr)(cap:Nat)(M:Nat->Prop)(w:World)(h:qL M w S u)(f:xL w ao r.marks)(P:Pg.reqLen r)(E:qR w) :
  Calls prog 7 #[.pointer (some ⟨S,0,none⟩),Ref.qo r ao cap] w λe w'=>e = .returned (.tuple #[Jl (De.yn u r).1,.int .i64 (De.yn u r).2])/\Below w.heap.size w w':=by
 obtain⟨g,o⟩:∃W,w.alloc (.cells #[.string r.who,.string r.act,.string r.on,.slice ao r.marks.length cap] 42)=W:=⟨_,rfl⟩;have X:g.heap.size=w.heap.size+1:=by rw[<- o];simp
 have p:g.heap[w.heap.size]?=some (.cells #[.string r.who,.string r.act,.string r.on,.slice ao r.marks.length cap] 42):=by rw[<- o];exact heap_alloc_new w _
 have A:Below w.heap.size w g:=by rw[<- o];exact nB w _
 obtain⟨n,s⟩:∃W,g.alloc QF=W:=⟨_,rfl⟩;have R:n.heap[w.heap.size+1]?=some QF:=by rw[<- s,<- X];exact heap_alloc_new g _
 have B:Below g.heap.size g n:=by rw[<- s];exact nB g _
 have q:Below w.heap.size w n:=A.trans (B.mono A.size);have bx:QT n w.heap.size (.string r.who) (.string r.act) (.string r.on) (.slice ao r.marks.length cap):=⟨QS (r:=r) (ao:=ao) (cap:=cap) ⟨(za p 0).1,(za p 1).1,(za p 2).1,(za p 3).1⟩ B,R⟩;have z:Hid ((w.alloc (.cells #[.string r.who,.string r.act,.string r.on,.slice ao r.marks.length cap] 42)).alloc (.cells #[.int .i64 0,.int .i64 0,.string ⟨#[]⟩,.int .i64 0] 36)=n):=hid (by rw[o];exact s);have D:=GA r ao cap n (jY f q) P (E.below q).d.tabs;have C:=λ(W:World) (t:Below w.heap.size w W) (O:Ref.xO r=true)=>Aa S u r ao cap M W (h.below t) (jY f t) O (E.below t);unfold De.yn;obtain⟨Q,F⟩:=Nm (Ref.xO r);rw[F] at D |-;obtain⟨dc,l⟩:∃d,De.uB u r=d:=⟨_,rfl⟩;rw[l] at C |-;have x:=hid q;have Z:=hid bx;have m:=hid D
 cases Q with
 | false=>
  clear C D h f P E o s X p R A B q F l;obtain⟨who,act,on,ms⟩:=r;unfold Ref.qo at m |-;simp only[Bool.false_eq_true,if_false] at m z bx |-;obtain⟨⟨z0,z1,z2,z3⟩,_⟩:=bx;go_enter func7,ntmps7
  go_upto_region 1 with fail
  rw[z.out]
  go_upto_region 2 with (go_at_call 14;refine m.out.mono ?_;rintro e Y ⟨rfl,k⟩;have c:=hid (x.out.trans (k.mono x.out.size));have a:=hid (Z.out.below k);clear k)
  obtain⟨⟨y0,y1,y2,y3⟩,t0,t1,t2,t3⟩:=a.out.cells;have N:w.heap.size+1<Y.heap.size:=lt_of_block a.out.2;obtain⟨r0,T,U,V⟩:=Xx a.out.2 (.int .i64 0) (.int .i64 0) (.string ⟨#[]⟩) (.int .i64 0);have j:=hid (QU (b:=w.heap.size+1) c.out (by omega) (.int .i64 0) (.int .i64 0) (.string ⟨#[]⟩) (.int .i64 0));go_wp2_with fail;exact bodyPost_ret (v := .tuple #[.agg #[.int .i64 0,.int .i64 0,.string ⟨#[]⟩,.int .i64 0],.int .i64 11]) (by simp[results,results7,go_sem,r0,T,U,V]) rfl ⟨rfl,j.out⟩
 | true=>
  have y:=hid (λ(W:World) (t:Below w.heap.size w W)=>C W t F);clear C D h f P E o s X p R A B q F l;obtain⟨who,act,on,ms⟩:=r;obtain⟨L,J,K,I⟩:=dc;unfold Ref.qo at m y |-;unfold Jl kr at y;simp only[if_true] at m y z bx |-;obtain⟨⟨z0,z1,z2,z3⟩,_⟩:=bx;go_enter func7,ntmps7
  go_upto_region 1 with fail
  rw[z.out]
  go_upto_region 3 with (go_at_call 14;refine m.out.mono ?_;rintro e Y ⟨rfl,k⟩;have c:=hid (x.out.trans (k.mono x.out.size));have a:=hid (Z.out.below k);clear k)
  obtain⟨⟨x0,x1,x2,x3⟩,_⟩:=a.out
  go_wp2_with (go_at_call 15;refine (y.out Y c.out).mono ?_;rintro e w4 ⟨rfl,H⟩;have G:=hid (c.out.trans (H.mono c.out.size));have i:=hid (a.out.below H);clear H;obtain⟨⟨y0,y1,y2,y3⟩,t0,t1,t2,t3⟩:=i.out.cells;have N:w.heap.size+1<w4.heap.size:=lt_of_block i.out.2;obtain⟨r0,T,U,V⟩:=Xx i.out.2 (.int .i64 ((L:Nat):Int)) (.int .i64 ((J:Nat):Int)) (.string K) (.int .i64 ((I:Nat):Int));have j:=hid (QU (b:=w.heap.size+1) G.out (by omega) (.int .i64 ((L:Nat):Int)) (.int .i64 ((J:Nat):Int)) (.string K) (.int .i64 ((I:Nat):Int))))
  exact bodyPost_ret (v := .tuple #[.agg #[.int .i64 ((L:Nat):Int),.int .i64 ((J:Nat):Int),.string K,.int .i64 ((I:Nat):Int)],.int .i64 0]) (by simp[results,results7,go_sem,r0,T,U,V]) rfl ⟨rfl,j.out⟩
end Go.Proofs.YtdakgnaojakldabGreatDoor
