/- P -/
import Derived.Test.YtfjpcldndaiifaaGreatDoorA25
open Go.Proofs.Tryz
set_option maxRecDepth 100000
set_option maxHeartbeats 2000000
namespace Go.Proofs.YtfjpcldndaiifaaGreatDoor
open Go.RowKit
theorem Dh{W:J}{g base:Nat}{a b c d:BY}(h:W.heap[g]?=some (L8 #[S9 a,S9 b,S9 c,S9 d] 9 (0,0)))(e:base<=g):W.ownsRow base 9 1 (TL (some (G8 g 0)) 4 4) [a,b,c,d].length (U.strCells [a,b,c,d])/\W.ownsRow base 9 1 (TL (some (G8 g 0)) 3 4) [a,b,c].length (U.strCells [a,b,c]):=
 ⟨⟨rfl,.inr ⟨g,4,_,rfl,e,h,by simp,by decide,rfl,rfl⟩⟩,⟨rfl,.inr ⟨g,4,_,rfl,e,h,by simp,by decide,rfl,rfl⟩⟩⟩
theorem Vm{e w:J}{base b a cap:Nat}{ns:List U.Node}(m:kr e base b a cap ns w)(k:Int)(i:0<=k)(l:k<(ns.length:Int)):∃j:Nat,k=(j:Int)/\∀W,BQ e W->W.cell? (G8 a (j*4))=some (R9 (U.kindOf ns k))/\W.cell? (G8 a (j*4+1))=some (S9 (U.textOf ns k)):=by
 obtain⟨j,x,o,n,c,d⟩:=U.Dw i l;refine⟨j,o,λW f=>?_⟩;obtain⟨v,g,h,_⟩:=m.rd.node j x n;rw[c,d];exact⟨zi f g,zi f h⟩
theorem xY.res{w a:J}{c:Nat}{d b:Array Y}{f e:Bool}(h:xY w c d b f e a):(a.cell? (G8 w.heap.size 0)=some R5/\a.cell? (G8 w.heap.size 1)=some R5/\a.cell? (G8 w.heap.size 2)=some R4/\a.cell? (G8 w.heap.size 3)=some T9) /\
  (a.frozen? (G8 w.heap.size 0)=false/\a.frozen? (G8 w.heap.size 1)=false/\a.frozen? (G8 w.heap.size 2)=false/\a.frozen? (G8 w.heap.size 3)=false):=
 ⟨⟨(zg h.r 0).1,(zg h.r 1).1,(zg h.r 2).1,(zg h.r 3).1⟩,⟨(zg h.r 0).2,(zg h.r 1).2,(zg h.r 2).2,(zg h.r 3).2⟩⟩
theorem FD{w:J}{b:Nat}{j k l m:Y}(a c d e:Y)(f:w.cell? (G8 b 0)=some j)(g:w.cell? (G8 b 1)=some k)(h:w.cell? (G8 b 2)=some l)(i:w.cell? (G8 b 3)=some m):((((w.setCell (G8 b 0) a).setCell (G8 b 1) c).setCell (G8 b 2) d).setCell (G8 b 3) e).cell? (G8 b 0)=some a/\((((w.setCell (G8 b 0) a).setCell (G8 b 1) c).setCell (G8 b 2) d).setCell (G8 b 3) e).cell? (G8 b 1)=some c /\
  ((((w.setCell (G8 b 0) a).setCell (G8 b 1) c).setCell (G8 b 2) d).setCell (G8 b 3) e).cell? (G8 b 2)=some d/\((((w.setCell (G8 b 0) a).setCell (G8 b 1) c).setCell (G8 b 2) d).setCell (G8 b 3) e).cell? (G8 b 3)=some e:=by
 refine⟨?_,?_,?_,?_⟩
 ·rw[xu _ _ _ _ (by simp),xu _ _ _ _ (by simp),xu _ _ _ _ (by simp),ZR _ _ _ f]
 ·rw[xu _ _ _ _ (by simp),xu _ _ _ _ (by simp)];exact ZR _ _ _ ((xu _ _ _ _ (by simp)).trans g)
 ·rw[xu _ _ _ _ (by simp)];exact ZR _ _ _ ((xu _ _ _ _ (by simp)).trans ((xu _ _ _ _ (by simp)).trans h))
 exact ZR _ _ _ ((xu _ _ _ _ (by simp)).trans ((xu _ _ _ _ (by simp)).trans ((xu _ _ _ _ (by simp)).trans i)))
theorem Na(i:Nat)(w0:J)(base b gg cap:Nat)(ns:List U.Node)(n:U.Node)(B:Nat)(sh D:Bool)(w:J)(l:kr w0 base b gg cap ns w)(V:ns[i]?=some n)(f5:w0.heap.size<=B)(hf:qA w B sh D)
  (c:U.zq n U.bOp<0\/U.zq n U.zL<0\/U.kindOf ns (U.zq n U.bOp)≠3\/U.kindOf ns (U.zq n U.zL)≠3):R8 173 #[RG b 0,R9 (i:Int),RG B 0] w (UK w B sh D U.yR):=by
 have b6:B<w.heap.size:=zt hf;obtain⟨⟨v1,v2⟩,⟨na,nc,c5⟩,⟨ka,kc,c6⟩,m,A,cO⟩:=Kv l V;simp only at c5 c6;subst c5;subst c6;have f6:i<ns.length:=(zU.1 V).1;have P:=l.at.slice;have b9:=l.rd.len;have R:=U.vX l.rd.ev V U.bOp;have Q:=U.vX l.rd.ev V U.zL;have nB:=U.vX l.rd.ev V U.bNo;have vB:=U.vX l.rd.ev V U.zK;obtain⟨a1,a2,a3,a4⟩:=m w l.bel;simp only at a3 a4;obtain⟨nl,M⟩:=Nm ns.length;have F:=G7 M;rw[M]at P f6 b9 R Q nB vB;unfold Xz at A cO;simp only at A cO;obtain⟨C,d⟩:=Nm n.kind;obtain⟨E,f⟩:=Nm n.text;obtain⟨nn,N⟩:=Nm n.names.length;obtain⟨nk,L⟩:=Nm n.kids.length;rw[d]at a1;rw[f]at a2;rw[N]at a3;rw[L]at a4;simp only[d,f,N,L]at A cO;have ST:=xY.start hf #[R9 C,S9 E,TL na nn nc,TL ka nk kc] #[R5,R5,R4,T9];have z:∀wx,xY w B #[R9 C,S9 E,TL na nn nc,TL ka nk kc] #[R5,R5,R4,T9] sh D wx->BQ w0 wx:=λwx h=>(l.grown h.g f5).bel;obtain⟨OP,y⟩:=Nm (U.zq n U.bOp);obtain⟨p,j⟩:=Nm (U.zq n U.zL);obtain⟨NO,I⟩:=Nm (U.zq n U.bNo);obtain⟨VA,K⟩:=Nm (U.zq n U.zK);have r:=λW h=>A W U.bOp h;have s:=λW h=>A W U.zL h;have t:=λW h=>A W U.bNo h;have u:=λW h=>A W U.zK h;simp only[y]at r;simp only[j]at s;simp only[I]at t;simp only[K]at u;unfold U.bOp at r;unfold U.zL at s;unfold U.bNo at t;unfold U.zK at u;rw[y]at R;rw[j]at Q;rw[I]at nB;rw[K]at vB;rw[y,j]at c;have⟨HE,a⟩:=D5 l z;have i0:(0:Int)<=(i:Int):=qd _;have i1:(i:Int)<(nl:Int):=by omega
 clear l A hf m y j I K d f N L z cO M nB vB;have s1:=λO:Obj=>zi (nbl w O) P;have b1:=λO:Obj=>zi (nbl w O) a1;have b2:=λO:Obj=>zi (nbl w O) a2;have b3:=λO:Obj=>zi (nbl w O) a3;have b4:=λO:Obj=>zi (nbl w O) a4;go_enter func173,ntmps173
 go_upto_region 8 with(first
  |(go_at_call 72;apply(u w3 (a.o w3 C3)).mono;rintro e w4⟨rfl,b5⟩;have C4:=C3.below b5)
  |(go_at_call 72;apply(t w2 (a.o w2 C2)).mono;rintro e w3⟨rfl,b0⟩;have C3:=C2.below b0;obtain⟨⟨g7,g8,g9,h1⟩,_,_,_⟩:=C3.cells)
  |(go_at_call 72;apply(s w1 (a.o w1 C1)).mono;rintro e w2⟨rfl,a9⟩;have C2:=C1.below a9;obtain⟨⟨g2,g3,g5,g6⟩,_,_,_⟩:=C2.cells)
  |(go_at_call 72;apply(r _ (a.o _ ST)).mono;rintro e w1⟨rfl,a8⟩;have C1:=ST.below a8;obtain⟨⟨f8,f9,g0,g1⟩,_,_,_⟩:=C1.cells))
 have C5:=C4.below (nbl w4 (L8 #[S9 ⟨#[111,112]⟩,S9 ⟨#[107,101,121]⟩,S9 ⟨#[110,111]⟩,S9 ⟨#[118,97,108,117,101]⟩] 9));obtain⟨w5,c7⟩:=Nm (w4.alloc (L8 #[S9 ⟨#[111,112]⟩,S9 ⟨#[107,101,121]⟩,S9 ⟨#[110,111]⟩,S9 ⟨#[118,97,108,117,101]⟩] 9));rw[c7]at C5 |-;obtain⟨g4,b7⟩:=Nm w4.heap.size;rw[b7];have q:=a.o w5 C5
 have c8:w5.cell? (G8 b 2)=some (TL (some (G8 gg 0)) nl cap):=by
  have:=(HE.o.rd.below q).slice
  rwa [F.o]at this
 clear f8 f9 g0 g1 g2 g3 g5 g6 g7 g8 g9 h1 s1 b1 b2 b3 b4 a1 a2 a3 a4 P i0 i1 a8 a9 b0 b5 C1 C2 C3 C4 ST r s t u c7 b7;obtain⟨_,⟨c0,c1,c2,c3⟩,_,⟨h0,_,h2,_⟩⟩:=C5.cells;have E5:=C5.shape b6 true;obtain⟨⟨t0,t1,t2,t3⟩,⟨z0,z1,z2,z3⟩⟩:=E5.res;obtain⟨_,⟨y0,y1,y2,y3⟩,_,_⟩:=E5.cells;obtain⟨e0,S,T,e3⟩:=FD R5 R5 R4 T9 t0 t1 t2 t3;have o:=E5.fin b6 R5 R5 R4 T9
 have FF:G6 (UK w B sh D U.yR (.returned (.agg #[R5,R5,R4,.bool false])) (((((w5.setCell (G8 B 0) L6).setCell (G8 w.heap.size 0) R5).setCell (G8 w.heap.size 1) R5).setCell (G8 w.heap.size 2) R4).setCell (G8 w.heap.size 3) T9)):=by
  refine⟨_,rfl,o.1,?_,qF _ _ _ _⟩;have S:(sh||U.yR.sh)=true:=by show (sh||true)=true;simp
  have T:(D||U.yR.pt)=D:=by show (D||false)=D;simp
  rw[S,T];exact o.2
 clear o E5 C5
 by_cases o1:OP<0
 ·have d1:decide (OP<0)=true:=zB o1;clear c R Q o1 c8;go_wp2;exact zG (v := .agg #[R5,R5,R4,T9]) (by simp[results,results173,go_sem,e0,S,T,e3]) rfl FF.o
 have d1:decide (OP<0)=false:=zI o1
 by_cases o2:p<0
 ·have d2:decide (p<0)=true:=zB o2;clear c R Q o1 o2 c8;go_wp2;exact zG (v := .agg #[R5,R5,R4,T9]) (by simp[results,results173,go_sem,e0,S,T,e3]) rfl FF.o
 have d2:decide (p<0)=false:=zI o2;obtain⟨X,rfl,c4⟩:=Vm HE.o OP (by omega) (by rw[F.o];exact R.2);obtain⟨jk,rfl,b8⟩:=Vm HE.o p (by omega) (by rw[F.o];exact Q.2);have j9:(0:Int)<=(X:Int):=qd _;have k0:(X:Int)<(nl:Int):=R.2;have j7:(0:Int)<=(jk:Int):=qd _;have j8:(jk:Int)<(nl:Int):=Q.2
 have a7:U.kindOf ns (X:Int)≠3\/(U.kindOf ns (X:Int)=3/\U.kindOf ns (jk:Int)≠3):=by
  rcases c with h|h|h|h
  ·omega
  ·omega
  ·exact .inl h
  by_cases e:U.kindOf ns (X:Int)=3
  ·exact .inr ⟨e,h⟩
  exact .inl e
 obtain⟨m1,_⟩:=c4 w5 q;obtain⟨m3,_⟩:=b8 w5 q;obtain⟨KO,H⟩:=Nm (U.kindOf ns (X:Int));obtain⟨KK,G⟩:=Nm (U.kindOf ns (jk:Int));rw[H,G]at a7;rw[H]at m1;rw[G]at m3;clear c4 b8 H G c R Q o1 o2 q
 rcases a7 with o3|⟨o3,o4⟩
 ·have d3:(KO != 3)=true:=by simp[o3]
  clear o3;go_wp2;exact zG (v := .agg #[R5,R5,R4,T9]) (by simp[results,results173,go_sem,e0,S,T,e3]) rfl FF.o
 subst o3;have d4:(KK != 3)=true:=by simp[o4]
 clear o4;go_wp2;exact zG (v := .agg #[R5,R5,R4,T9]) (by simp[results,results173,go_sem,e0,S,T,e3]) rfl FF.o
theorem XC{w w':J}{base:Nat}{e:TypeId}{size:Nat}{v:Y}{n:Nat}{xs:List Y}(h:w.ownsRow base e size v n xs)(c:∀i,base<=i->i<w.heap.size->w'.heap[i]?=w.heap[i]?):w'.ownsRow base e size v n xs:=by
 obtain⟨b,a⟩:=h;refine⟨b,?_⟩
 rcases a with a|⟨g,cap,cur,hv,hg,hh,h3⟩
 ·exact .inl a
 exact .inr ⟨g,cap,cur,hv,hg,by rw[c g hg (zt hh)];exact hh,h3⟩
theorem lF(a b c:Bool):a=true\/(a=false/\b=false)\/(a=false/\b=true/\c=true)\/(a=false/\b=true/\c=false):=by
 cases a<;>cases b<;>cases c<;>simp
theorem zfi{h:J}{base b c cap:Nat}{ns:List U.Node}(f:ZM h base b c cap ns)(k:Int)(d:0<=k)(e:k<(ns.length:Int)):(U.textOf ns k).size<=12000:=by
 obtain⟨j,x,_,g,_,a⟩:=U.Dw d e;rw[a];exact(f.small j x g).2.2
theorem Nb(i:Nat)(w0:J)(base b gg cap:Nat)(ns:List U.Node)(n:U.Node)(t:Nat)(X S:Bool)(w:J)(hE:kr w0 base b gg cap ns w)(hi:ns[i]?=some n)(b7:w0.heap.size<=t)(hf:qA w t X S)
  (m:¬(U.zq n U.bOp<0\/U.zq n U.zL<0\/U.kindOf ns (U.zq n U.bOp)≠3\/U.kindOf ns (U.zq n U.zL)≠3)):R8 173 #[RG b 0,R9 (i:Int),RG t 0] w (UK w t X S (U.Qm ns n)):=by
 have c:t<w.heap.size:=zt hf;obtain⟨⟨v1,v2⟩,⟨na,nc,p2⟩,⟨ka,kc,p3⟩,b6,cH,cO⟩:=Kv hE hi;simp only at p2 p3;subst p2;subst p3;have x2:i<ns.length:=(zU.1 hi).1;have j3:=hE.at.slice;have H:=hE.rd.len;have oB:=U.vX hE.rd.ev hi U.bOp;have kB:=U.vX hE.rd.ev hi U.zL;have nB:=U.vX hE.rd.ev hi U.bNo;have vB:=U.vX hE.rd.ev hi U.zK;obtain⟨a1,a2,a3,a4⟩:=b6 w hE.bel;simp only at a3 a4;obtain⟨nl,j1⟩:=Nm ns.length;have D:=G7 j1;rw[j1]at j3 x2 H oB kB nB vB;unfold Xz at cH cO;simp only at cH cO;obtain⟨o,P⟩:=Nm n.kind;obtain⟨q,Q⟩:=Nm n.text;obtain⟨nn,j2⟩:=Nm n.names.length;obtain⟨nk,j0⟩:=Nm n.kids.length;rw[P]at a1;rw[Q]at a2;rw[j2]at a3;rw[j0]at a4;simp only[P,Q,j2,j0]at cH cO;have ST:=xY.start hf #[R9 o,S9 q,TL na nn nc,TL ka nk kc] #[R5,R5,R4,T9];have g5:∀wx,xY w t #[R9 o,S9 q,TL na nn nc,TL ka nk kc] #[R5,R5,R4,T9] X S wx->BQ w0 wx:=λwx h=>(hE.grown h.g b7).bel;obtain⟨OP,b5⟩:=Nm (U.zq n U.bOp);obtain⟨t6,F⟩:=Nm (U.zq n U.zL);obtain⟨K,f3⟩:=Nm (U.zq n U.bNo);obtain⟨V,f4⟩:=Nm (U.zq n U.zK);have e5:=λW h=>cH W U.bOp h;have e6:=λW h=>cH W U.zL h;have e7:=λW h=>cH W U.bNo h;have e8:=λW h=>cH W U.zK h;simp only[b5]at e5;simp only[F]at e6;simp only[f3]at e7;simp only[f4]at e8;unfold U.bOp at e5;unfold U.zL at e6;unfold U.bNo at e7;unfold U.zK at e8;rw[b5]at oB;rw[F]at kB;rw[f3]at nB;rw[f4]at vB;obtain⟨R,hR⟩:=Nm (U.Qm ns n);rw[hR];unfold U.Qm at hR;rw[za m]at hR;rw[b5,F]at m;rw[b5,F,f3,f4]at hR;have⟨HR,CO,C,B⟩:=M5 hR cO hE g5;have i0:(0:Int)<=(i:Int):=qd _;have i1:(i:Int)<(nl:Int):=by omega
 clear hE cH hf b6 b5 F f3 f4 P Q j2 j0 g5 cO j1 hR;have s1:=λO:Obj=>zi (nbl w O) j3;have b1:=λO:Obj=>zi (nbl w O) a1;have b2:=λO:Obj=>zi (nbl w O) a2;have b3:=λO:Obj=>zi (nbl w O) a3;have b4:=λO:Obj=>zi (nbl w O) a4;go_enter func173,ntmps173
 go_upto_region 8 with(first
  |(go_at_call 72;apply(e8 w3 (B.o w3 C3)).mono;rintro e w4⟨rfl,o2⟩;have C4:=C3.below o2)
  |(go_at_call 72;apply(e7 w2 (B.o w2 C2)).mono;rintro e w3⟨rfl,o1⟩;have C3:=C2.below o1;obtain⟨⟨A3,A4,A5,A6⟩,_,_,_⟩:=C3.cells)
  |(go_at_call 72;apply(e6 w1 (B.o w1 I)).mono;rintro e w2⟨rfl,o0⟩;have C2:=I.below o0;obtain⟨⟨z9,A0,A1,A2⟩,_,_,_⟩:=C2.cells)
  |(go_at_call 72;apply(e5 _ (B.o _ ST)).mono;rintro e w1⟨rfl,n9⟩;have I:=ST.below n9;obtain⟨⟨z5,z6,z7,z8⟩,_,_,_⟩:=I.cells))
 have f5:=zA w4 (L8 #[S9 ⟨#[111,112]⟩,S9 ⟨#[107,101,121]⟩,S9 ⟨#[110,111]⟩,S9 ⟨#[118,97,108,117,101]⟩] 9);have C5:=C4.below (nbl w4 (L8 #[S9 ⟨#[111,112]⟩,S9 ⟨#[107,101,121]⟩,S9 ⟨#[110,111]⟩,S9 ⟨#[118,97,108,117,101]⟩] 9));obtain⟨w5,p4⟩:=Nm (w4.alloc (L8 #[S9 ⟨#[111,112]⟩,S9 ⟨#[107,101,121]⟩,S9 ⟨#[110,111]⟩,S9 ⟨#[118,97,108,117,101]⟩] 9));rw[p4]at C5 f5 |-;obtain⟨g4,i9⟩:=Nm w4.heap.size;rw[i9]at f5 |-;have o6:w.heap.size+3<=g4:=by rw[<- i9];exact C4.size
 have e4:=B.o w5 C5
 have q8:w5.cell? (G8 b 2)=some (TL (some (G8 gg 0)) nl cap):=by
  have:=(C.o.rd.below e4).slice
  rwa [D.o]at this
 clear z5 z6 z7 z8 z9 A0 A1 A2 A3 A4 A5 A6 s1 b1 b2 b3 b4 a1 a2 a3 a4 j3 i0 i1 n9 o0 o1 o2 I C2 C3 C4 ST e5 e6 e7 e8 p4 i9;obtain⟨jo,rfl,p1⟩:=Vm C.o OP (by omega) (by rw[D.o];exact oB.2);obtain⟨jk,rfl,o8⟩:=Vm C.o t6 (by omega) (by rw[D.o];exact kB.2);have y4:(0:Int)<=(jo:Int):=qd _;have y5:(jo:Int)<(nl:Int):=oB.2;have p6:(0:Int)<=(jk:Int):=qd _;have p7:(jk:Int)<(nl:Int):=kB.2
 have k3:U.kindOf ns (jo:Int)=3:=by
  by_cases e:U.kindOf ns (jo:Int)=3
  ·exact e
  exact absurd (.inr (.inr (.inl e))) m
 have k4:U.kindOf ns (jk:Int)=3:=by
  by_cases e:U.kindOf ns (jk:Int)=3
  ·exact e
  exact absurd (.inr (.inr (.inr e))) m
 obtain⟨m1,m2⟩:=p1 w5 e4;obtain⟨m3,m4⟩:=o8 w5 e4;rw[k3]at m1;rw[k4]at m3;obtain⟨opT,b9⟩:=Nm (U.textOf ns (jo:Int));obtain⟨a,u⟩:=Nm (U.textOf ns (jk:Int));have i6:=HR.o;rw[b9,u]at i6;rw[b9]at m2;rw[u]at m4;have d9:=G7 i6;have d1:decide ((jo:Int)<0)=false:=P6;have d2:decide ((jk:Int)<0)=false:=P6;obtain⟨_,⟨c0,c1,c2,c3⟩,⟨g0,g1,g2,g3⟩,⟨h0,_,h2,_⟩⟩:=C5.cells;have P1:=C5.put c 0 (S9 opT) #[S9 opT,R5,R4,T9] rfl;obtain⟨_,⟨_,v5,_,_⟩,⟨_,v9,_,_⟩,_⟩:=P1.cells;have C6:=P1.put c 1 (S9 a) #[S9 opT,S9 a,R4,T9] rfl
 have q9:(w5.setCell (G8 (w.heap.size+2) 0) (S9 opT)).cell? (G8 b 2)=some (TL (some (G8 gg 0)) nl cap):=by
  rw[xu _ _ _ _ (by have:=C.o.at.lt.1;simp only[ne_eq,Addr.mk.injEq];omega)];exact q8
 have y8:(w5.setCell (G8 (w.heap.size+2) 0) (S9 opT)).cell? (G8 gg (jk*4+1))=some (S9 a):=by
  rw[xu _ _ _ _ (by have:=C.o.at.lt.2;simp only[ne_eq,Addr.mk.injEq];omega)];exact m4
 have f6:((w5.setCell (G8 (w.heap.size+2) 0) (S9 opT)).setCell (G8 (w.heap.size+2) 1) (S9 a)).heap[g4]?=some (L8 #[S9 ⟨#[111,112]⟩,S9 ⟨#[107,101,121]⟩,S9 ⟨#[110,111]⟩,S9 ⟨#[118,97,108,117,101]⟩] 9):=by
  rw[qy _ _ _ _ (by simp only;omega),qy _ _ _ _ (by simp only;omega)];exact f5
 have x3:a.size<=maxLen:=by
  rw[<- u];exact xD (zfi C.o.rd _ p6 (by rw[D.o];exact p7)) (by decide)
 clear HR i6 b9 u p1 o8 k3 k4 m
 go_upto_if 86 with fail
 obtain⟨w6,p5⟩:=Nm ((w5.setCell (G8 (w.heap.size+2) 0) (S9 opT)).setCell (G8 (w.heap.size+2) 1) (S9 a));rw[p5]at C6 f6 |-;have i2:BQ w0 w6:=(C.o.grown C6.g b7).bel;have E4:b≠w.heap.size+2:=by have:=C.o.at.lt.1;omega
 have E5:gg≠w.heap.size+2:=by have:=C.o.at.lt.2;omega
 have r0:w6.cell? (G8 b 2)=some (TL (some (G8 gg 0)) nl cap):=by
  have:=(C.o.rd.below i2).slice
  rwa [D.o]at this
 clear p5 q8 q9 m1 m2 m3 m4 y8 f5 c0 c1 c2 c3 g0 g1 g2 g3 h0 h2 v5 v9 P1 C5 e4 d1 d2 y4 y5 p6 p7
 go_cut [] (λwx=>xY w t #[R9 o,S9 q,TL na nn nc,TL ka nk kc] #[S9 opT,S9 a,R4,.bool (U.noT ns K)] (X||U.Zg ns K) S wx/\wx.heap[g4]?=some (L8 #[S9 ⟨#[111,112]⟩,S9 ⟨#[107,101,121]⟩,S9 ⟨#[110,111]⟩,S9 ⟨#[118,97,108,117,101]⟩] 9))
 case first=>
  by_cases hno:0<=K
  ·obtain⟨jn,rfl,p0⟩:=Vm C.o K hno (by rw[D.o];exact nB.2);have x7:(0:Int)<=(jn:Int):=qd _;have F1:(jn:Int)<(nl:Int):=nB.2;have dn:decide ((0:Int)<=(jn:Int))=true:=zB x7;have e1:U.noT ns (jn:Int)=(U.kindOf ns (jn:Int)==4):=by unfold U.noT;rw[dn,jY]
   have e2:U.Zg ns (jn:Int)=(!(U.kindOf ns (jn:Int)==4) && !(U.kindOf ns (jn:Int)==5)):=by unfold U.Zg;rw[dn,jY]
   obtain⟨m5,_⟩:=p0 w6 i2;obtain⟨KN,n7⟩:=Nm (U.kindOf ns (jn:Int));rw[n7]at e1 e2 m5;have⟨E1,E2⟩:=D5 e1 e2;obtain⟨_,⟨c0,c1,c2,c3⟩,⟨g0,g1,g2,g3⟩,⟨h0,_,h2,_⟩⟩:=C6.cells;have P3:=C6.put c 3 (.bool (KN==4)) #[S9 opT,S9 a,R4,.bool (KN==4)] rfl;obtain⟨_,_,_,⟨f0,_,f2,_⟩⟩:=P3.cells
   have F4:(w6.setCell (G8 (w.heap.size+2) 3) (.bool (KN==4))).cell? (G8 b 2)=some (TL (some (G8 gg 0)) nl cap):=by
    rw[xu _ _ _ _ (by simp only[ne_eq,Addr.mk.injEq];omega)];exact r0
   have m7:(w6.setCell (G8 (w.heap.size+2) 3) (.bool (KN==4))).cell? (G8 gg (jn*4))=some (R9 KN):=by
    rw[xu _ _ _ _ (by simp only[ne_eq,Addr.mk.injEq];omega)];exact m5
   have c8:∀x,((w6.setCell (G8 (w.heap.size+2) 3) (.bool (KN==4))).setCell (G8 t 0) x).heap[g4]?=some (L8 #[S9 ⟨#[111,112]⟩,S9 ⟨#[107,101,121]⟩,S9 ⟨#[110,111]⟩,S9 ⟨#[118,97,108,117,101]⟩] 9):=λx=>by
    rw[qy _ _ _ _ (by simp only;omega),qy _ _ _ _ (by simp only;omega)];exact f6
   have PT:=P3.shape c true;have PF:=P3.shape c false;have HP:=G7 (ZH PT PF);clear e1 e2 p0 n7 P3 PT PF C6 d9 CO
   cases X with
   | true=>
    go_wp2_with fail
    go_meet
    case rel=>exact⟨by rw[E1.o,UI];exact HP.o.1,c8 _⟩
   | false=>
    by_cases k4:KN=4
    ·subst k4;go_wp2_with fail
     go_meet
     case rel=>exact⟨by rw[E1.o,E2.o,show (false||(!((4:Int)==4) && !((4:Int)==5)))=false from by decide];exact HP.o.2,c8 _⟩
    have q4:(KN != 4)=true:=by simp[k4]
    have p9:(KN==4)=false:=by simp[k4]
    by_cases k5:KN=5
    ·subst k5;go_wp2_with fail
     go_meet
     case rel=>exact⟨by rw[E1.o,E2.o,show (false||(!((5:Int)==4) && !((5:Int)==5)))=false from by decide];exact HP.o.2,c8 _⟩
    have q5:(KN != 5)=true:=by simp[k5]
    have q6:(KN==5)=false:=by simp[k5]
    have⟨Q4,Q5⟩:=D5 p9 q6;clear p9 q6;go_wp2_with fail
    go_meet
    case rel=>exact⟨by rw[E1.o,E2.o,Q4.o,Q5.o];first|exact HP.o.1|(have h:=HP.o.1;rw[Q4.o]at h;exact h),by first|exact c8 _|(have h:=c8 L6;rw[Q4.o]at h;exact h)⟩
  have dn:decide ((0:Int)<=K)=false:=zI hno;have e1:U.noT ns K=false:=by unfold U.noT;rw[dn,kS]
  have e2:U.Zg ns K=false:=by unfold U.Zg;rw[dn,kS]
  have⟨t5,E1,E2⟩:=M4 C6 e1 e2;clear e1 e2 d9 CO C6;have E6:K<0:=by omega
  go_wp2_with fail
  go_meet
  case rel=>exact⟨by rw[E1.o,E2.o,ZI];exact t5.o,f6⟩
 case rest=>
  obtain⟨C7,p8⟩:=hcut;obtain⟨⟨n0,n1,n2,n3⟩,⟨c0,c1,c2,c3⟩,⟨g0,g1,g2,g3⟩,⟨h0,h1,h2,h3⟩⟩:=C7.cells
  go_upto_if 131 with(go_at_call 70;apply(dx a _ x3).mono;rintro e wN⟨rfl,rfl⟩)
  have m8:BQ w0 wN:=(C.o.grown C7.g b7).bel;have cS:∀W,BQ w0 W->R8 205 #[RG b 0,R9 V] W (bi W (U.xq ns V)):=λW hb=>Gi V base b gg cap ns W (C.o.rd.below hb) (by rw[D.o];exact vB.2) vB.1;have cP:∀W X S,BQ w0 W->qA W t X S->R8 172 #[RG b 0,R9 V,RG t 0] W (aX W t X S (U.xq ns V)):=λW X S hb hf=>Er V base b gg cap ns t X S W (C.o.rd.below hb) (by rw[D.o];exact vB.2) vB.1 hf
  have A:∀s ∈ (U.xq ns V).getD [],s.size<=12000:=by
   cases e:U.xq ns V with
   | none=>simp
   | some l=>exact U.Gh ns 12000 (λi n hi=>(C.o.rd.small i n hi).2.2) V l e
  have H:((U.xq ns V).getD []).length<=10:=by
   cases e:U.xq ns V with
   | none=>simp
   | some l=>exact U.Gg ns V l e
  unfold bi at cS;unfold aX at cP;obtain⟨SO,i8⟩:=Nm ((U.xq ns V).isSome);obtain⟨L,hL⟩:=Nm ((U.xq ns V).getD []);obtain⟨FI,i4⟩:=Nm (U.ZU opT L);have i7:=d9.o;rw[i8,hL,i4]at i7;simp only[i8,hL]at cS cP;rw[hL]at A H;have cV:=λ(lv:Y) (W:J) (bs:Nat) h=>zfH opT L lv bs W h H A;rw[i4]at cV;have⟨N,CS,CP,CV,h8,a6⟩:=M7 i7 cS cP cV m8 p8;have F8:=C7.size;have M:=G7 C7;clear i7 cS cP cV m8 d9 i8 hL i4 A H p8 C7 r0 i2 C6 f6;obtain⟨T,c4⟩:=Nm ((X||U.Zg ns K));rw[c4]at h0 M;obtain⟨NT,n8⟩:=Nm (U.noT ns K);rw[n8]at c3 M N;have f8:=G7 c4;clear c4 n8;obtain⟨IS,n6⟩:=Nm (U.ql a);rw[n6]at N |-;clear n6
  go_cut [13] (λs wx=>∃(r:List BY) (lv:Y) (d:List BY) (x p:Bool),r.length<=4000/\xY w t #[R9 o,S9 q,TL na nn nc,TL ka nk kc] #[S9 opT,S9 a,lv,.bool NT] (T||x) (S||p) wx/\wx.ownsRow w.heap.size 9 1 s r.length (U.strCells r)/\wx.ownsRow (w.heap.size+3) 9 1 lv d.length (U.strCells d)/\R=⟨opT,a,d,NT,U.Zg ns K||x || !IS || !U.jA n r,p⟩)
  case first=>
   by_cases hab:U.xR opT=true
   ·have t9:G6 (∃(r:List BY) (lv:Y) (d:List BY) (x p:Bool),r.length<=4000/\xY w t #[R9 o,S9 q,TL na nn nc,TL ka nk kc] #[S9 opT,S9 a,lv,.bool NT] (T||x) (S||p) wN/\wN.ownsRow w.heap.size 9 1 (TL (some (G8 g4 0)) 3 4) r.length (U.strCells r)/\wN.ownsRow (w.heap.size+3) 9 1 lv d.length (U.strCells d)/\R=⟨opT,a,d,NT,U.Zg ns K||x || !IS || !U.jA n r,p⟩):=
     ⟨[U.bOp,U.zL,U.bNo],R4,[],false,false,by decide,by rw[ZI,ZI];exact M.o,(Dh a6.o (by omega)).2,qF _ _ _ _,by rw[<- N.o,zb hab,ZI]⟩
    unfold U.xR at hab;clear N M a6;rw[hab];go_wp2_with fail
    go_meet
    case rel=>exact t9.o
   have hr:=N.o;rw[za hab]at hr;have m6:=G7 hr;have g8:(opT.toList==[97,98,115,101,110,116])=false:=by unfold U.xR at hab;simpa using hab
   clear hr N hab
   have l9:G6 (∀(wS wy:J) (la:Option Addr) (lc:Nat) (p y:Bool),BQ wN wS->wS.ownsRow wN.heap.size 9 1 (TL la L.length lc) L.length (U.strCells L)->(∀i,w.heap.size+3<=i->i<wS.heap.size->wy.heap[i]?=wS.heap[i]?)->(U.xE opT && !L.all U.qD)=p->(T||(!SO || !FI))=y ->
     xY w t #[R9 o,S9 q,TL na nn nc,TL ka nk kc] #[S9 opT,S9 a,R4,.bool NT] y (S||p) wy ->
     ∃(r:List BY) (lv:Y) (d:List BY) (x p:Bool),r.length<=4000/\xY w t #[R9 o,S9 q,TL na nn nc,TL ka nk kc] #[S9 opT,S9 a,lv,.bool NT] (T||x) (S||p) (wy.setCell (G8 (w.heap.size+2) 2) (TL la L.length lc))/\(wy.setCell (G8 (w.heap.size+2) 2) (TL la L.length lc)).ownsRow w.heap.size 9 1 (TL (some (G8 g4 0)) 4 4) r.length (U.strCells r)/\(wy.setCell (G8 (w.heap.size+2) 2) (TL la L.length lc)).ownsRow (w.heap.size+3) 9 1 lv d.length (U.strCells d)/\R=⟨opT,a,d,NT,U.Zg ns K||x || !IS || !U.jA n r,p⟩):=by
    intro wS wy la lc p y G j hk hp hy hC;subst hp;subst hy;have o5:g4<wN.heap.size:=zt a6.o;have E8:=G.size;refine⟨[U.bOp,U.zL,U.bNo,U.zK],TL la L.length lc,L,(!SO || !FI),_,by decide,hC.put c 2 _ _ rfl,(Dh ?_ (by omega)).1,?_,m6.o.symm⟩
    ·rw[qy _ _ _ _ (by simp only;omega),hk g4 o6 (by omega),G.block g4 o5];exact a6.o
    refine XC (xS j (by omega)) (λi h1 h2=>?_);rw[qy _ _ _ _ (by simp only;omega)];exact hk i h1 h2
   clear m6 a6;rw[g8];clear g8
   by_cases hlk:U.xE opT=true
   ·have o9:(opT.toList==[108,105,107,101])=true:=by unfold U.xE at hlk;exact hlk
    rcases lF T SO FI with rfl|⟨rfl,rfl⟩|⟨rfl,rfl,rfl⟩|⟨rfl,rfl,rfl⟩
    all_goals
     go_wp2_with(first
      |(go_at_call 205;apply(CS.o wN h8.o).mono;rintro e wS⟨lv,rfl,G,j⟩;obtain⟨la,lc,rfl⟩:=jb j;have I:=M.o.below G;obtain⟨_,⟨d0,_,d2,_⟩,⟨_,_,e2,_⟩,⟨f0,f1,f2,_⟩⟩:=I.cells;have k0:=λx=>(I.shape c x).cells.2.1.1)
      |(go_at_call 206;apply(CV.o _ _ _ j).mono;rintro e wV⟨rfl,rfl⟩)
      |(go_at_call 172;apply(CP.o _ _ _ (C.o.grown (I.shape c _).g b7).bel (I.shape c _).f).mono;rintro e wP⟨lp,rfl,o7,x1,_⟩;have C2:=(I.shape c _).grown c o7 x1;obtain⟨_,⟨_,_,D7,_⟩,⟨_,_,D9,_⟩,_⟩:=C2.cells))
     go_meet
     case rel=>exact l9.o _ _ _ _ (!L.all U.qD) _ G j (λi h1 h2=>(o7.block i (by simp[World.setCell];omega) (by simp;omega)).trans (qy _ _ _ _ (by simp only;omega))) (by rw[hlk,jY]) rfl C2
   have b8:U.xE opT=false:=by simpa using hlk
   have o9:(opT.toList==[108,105,107,101])=false:=by unfold U.xE at b8;exact b8
   clear hlk
   rcases lF T SO FI with rfl|⟨rfl,rfl⟩|⟨rfl,rfl,rfl⟩|⟨rfl,rfl,rfl⟩
   all_goals
    go_wp2_with(first
     |(go_at_call 205;apply(CS.o wN h8.o).mono;rintro e wS⟨lv,rfl,G,j⟩;obtain⟨la,lc,rfl⟩:=jb j;have I:=M.o.below G;obtain⟨_,⟨d0,_,d2,_⟩,⟨_,_,e2,_⟩,⟨f0,f1,f2,_⟩⟩:=I.cells;have k0:=λx=>(I.shape c x).cells.2.1.1;have k2:=λx=>(I.shape c x).cells.2.1.2.2.1;have k3:=λx=>(I.shape c x).cells.2.2.1.2.2.1)
     |(go_at_call 206;apply(CV.o _ _ _ j).mono;rintro e wV⟨rfl,rfl⟩))
    go_meet
    case rel=>exact l9.o _ _ _ _ false _ G j (λi h1 _=>qy _ _ _ _ (by simp only;omega)) (by rw[b8,kS]) rfl (by rw[ZI];exact I.shape c _)
  case rest=>
   obtain⟨r,lv,d,x,p,x5,C8,oT,oV,x0⟩:=hcut;clear N M a6 CS CP CV h8;subst x0;obtain⟨c6,c7,rfl⟩:=jb oV;obtain⟨ta,tc,rfl⟩:=jb oT;have m9:BQ w0 wc:=(C.o.grown C8.g b7).bel;obtain⟨ON,i5⟩:=Nm (U.jA n r);have cO:=CO.o wc r (TL ta r.length tc) w.heap.size m9 oT x5;rw[i5]at cO;obtain⟨q7,c5⟩:=Nm ((T||x));rw[c5]at C8
   have FF:G6 (∀(w9:J) (y:Bool),BQ wc w9->(q7 || !IS || !ON)=y ->
     UK w t X S ⟨opT,a,d,NT,U.Zg ns K||x || !IS || !U.jA n r,p⟩ (.returned (.agg #[.string opT,.string a,.slice c6 d.length c7,.bool NT])) (((((w9.setCell (G8 t 0) (.bool y)).setCell (G8 w.heap.size 0) (S9 opT)).setCell (G8 w.heap.size 1) (S9 a)).setCell (G8 w.heap.size 2) (TL c6 d.length c7)).setCell (G8 w.heap.size 3) (.bool NT))):=by
    intro w9 y hb hy;have g9:=((C8.below hb).shape c y).fin c (S9 opT) (S9 a) (TL c6 d.length c7) (.bool NT);refine⟨_,rfl,g9.1,?_,?_⟩
    ·have e1:(X||(U.Zg ns K||x || !IS || !U.jA n r))=y:=by rw[<- hy,<- c5,<- f8.o,i5];simp only[Vy]
     show qA _ t (X||(U.Zg ns K||x || !IS || !U.jA n r)) (S||p);rw[e1];exact g9.2
    refine xS (XC (ownsRow_below oV hb) (λi h1 h2=>?_)) (by omega);rw[qy _ _ _ _ (by simp only;omega),qy _ _ _ _ (by simp only;omega),qy _ _ _ _ (by simp only;omega),qy _ _ _ _ (by simp only;omega),qy _ _ _ _ (by simp only;omega)]
   obtain⟨⟨q0,q1,q2,q3⟩,_,_,_⟩:=C8.cells;clear i5 c5 f8 oT oV m9 CO
   rcases lF q7 IS ON with rfl|⟨rfl,rfl⟩|⟨rfl,rfl,rfl⟩|⟨rfl,rfl,rfl⟩
   all_goals
    go_wp2_with(go_at_call 122;apply cO.mono;rintro e w9⟨rfl,o3⟩;have C9:=C8.below o3;obtain⟨_,_,_,⟨f0,f1,f2,_⟩⟩:=C9.cells;have y0:=λx=>(C9.shape c x).cells.2.1.1;have y1:=λx=>(C9.shape c x).cells.2.1.2.1;have y2:=λx=>(C9.shape c x).cells.2.1.2.2.1;have y3:=λx=>(C9.shape c x).cells.2.1.2.2.2;have t0:=λx=>(C9.shape c x).res.1.1;have t1:=λx=>(C9.shape c x).res.1.2.1;have t2:=λx=>(C9.shape c x).res.1.2.2.1;have t3:=λx=>(C9.shape c x).res.1.2.2.2;have z0:=λx=>(C9.shape c x).res.2.1;have z1:=λx=>(C9.shape c x).res.2.2.1;have z2:=λx=>(C9.shape c x).res.2.2.2.1;have z3:=λx=>(C9.shape c x).res.2.2.2.2;have E:=λx=>FD (S9 opT) (S9 a) (TL c6 d.length c7) (.bool NT) (t0 x) (t1 x) (t2 x) (t3 x);have e0:=λx=>(E x).1;have e1:=λx=>(E x).2.1;have e2:=λx=>(E x).2.2.1;have e3:=λx=>(E x).2.2.2;clear E);exact zG (v := .agg #[S9 opT,S9 a,TL c6 d.length c7,.bool NT]) (by simp[results,results173,go_sem,e0,e1,e2,e3]) rfl (FF.o _ _ o3 rfl)
theorem MZ(i:Nat)(g:J)(base b j cap:Nat)(ns:List U.Node)(n:U.Node)(a:Nat)(f d:Bool)(w:J)(k:kr g base b j cap ns w)(m:ns[i]?=some n)(c:g.heap.size<=a)(l:qA w a f d):R8 173 #[RG b 0,R9 (i:Int),RG a 0] w (UK w a f d (U.Qm ns n)):=by
 by_cases h:U.zq n U.bOp<0\/U.zq n U.zL<0\/U.kindOf ns (U.zq n U.bOp)≠3\/U.kindOf ns (U.zq n U.zL)≠3
 ·have e:U.Qm ns n=U.yR:=by unfold U.Qm;rw[zb h]
  rw[e];exact Na i g base b j cap ns n a f d w k m c l h
 exact Nb i g base b j cap ns n a f d w k m c l h
theorem zcM(a:BY):((qX a).1=0->Z.Kj (qX a).2.2.nodes (qX a).2.2.root.toNat=Z.qC a)/\((qX a).1≠0->((qX a).1,(qX a).2.1)=Z.qC a):=by
 obtain⟨R,b⟩:=Nm (qX a);rw[b];unfold qX at b;unfold Z.qC
 by_cases h1:4000<a.size
 ·rw[zb h1]at b |-;subst b;exact⟨λe=>by simp at e,λ_=>rfl⟩
 rw[za h1]at b |-;have g:=Z.EQ a.data.toList;have h:a.data.toList.length=a.size:=U.zF a;obtain⟨Q,k⟩:=Nm (U.run U.init a.data.toList 0);rw[k]at b
 cases hm:Z.jB a.data.toList with
 | ok v p=>
  rw[hm]at g;simp only at g;obtain⟨m,d,t,s,n,i⟩:=g;unfold Z.verdict at d;rw[List.drop_zero,k]at d
  by_cases c1:Q.1≠0
  ·rw[zb c1]at d;rw[d]at c1;exact absurd rfl c1
  rw[za c1]at d b
  by_cases c2:Q.2.2.state≠6\/Q.2.2.opn≠[]
  ·rw[zb c2]at d;simp at d
  rw[za c2]at d b;subst b;refine⟨λ_=>?_,λe=>absurd rfl e⟩;simp only[d,n];exact Z.Oy i
 | err e q=>
  rw[hm]at g;simp only at g;obtain⟨c,f⟩:=g;have l:=Z.dZ hm;have r:e≠0:=by unfold Z.Code at l;omega
  unfold Z.verdict at c f;rw[List.drop_zero,k]at c f;simp only
  by_cases c1:Q.1≠0
  ·rw[zb c1]at c f b;subst b;exact⟨λj=>absurd j c1,λ_=>by rw[c,f]⟩
  rw[za c1]at c f b
  by_cases c2:Q.2.2.state≠6\/Q.2.2.opn≠[]
  ·rw[zb c2]at c f b;subst b;refine⟨λj=>by simp at j,λ_=>?_⟩;simp only at c f |-;rw[<- c,<- f,h]
  rw[za c2]at c;exact absurd c.symm (λo=>c1 (by omega))
end Go.Proofs.YtfjpcldndaiifaaGreatDoor
