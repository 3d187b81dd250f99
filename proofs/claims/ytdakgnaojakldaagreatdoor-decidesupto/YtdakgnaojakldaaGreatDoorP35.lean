/- P -/
import Derived.Test.YtdakgnaojakldaaGreatDoorP34
open Go.Proofs.Tryz
set_option maxRecDepth 100000
set_option maxHeartbeats 2000000
namespace Go.Proofs.YtdakgnaojakldaaGreatDoor
open Go.RowKit
theorem wT{W:World}{g base:Nat}{a b c d:BY}(h:W.heap[g]?=some (.cells #[.string a,.string b,.string c,.string d] 9 (0,0)))(hb:base<=g) :
  W.ownsRow base 9 1 (.slice (some ⟨g,0,none⟩) 4 4) [a,b,c,d].length (Ref.strCells [a,b,c,d])/\W.ownsRow base 9 1 (.slice (some ⟨g,0,none⟩) 3 4) [a,b,c].length (Ref.strCells [a,b,c]):=
 ⟨⟨rfl,.inr ⟨g,4,_,rfl,hb,h,by simp,by decide,rfl,rfl⟩⟩,⟨rfl,.inr ⟨g,4,_,rfl,hb,h,by simp,by decide,rfl,rfl⟩⟩⟩
theorem Jy{f w:World}{base b c cap:Nat}{a:List Ref.Node}(m:jT f base b c cap a w)(k:Int)(i:0<=k)(l:k<(a.length:Int)) :
  ∃j:Nat,k=(j:Int)/\∀W,Below f.heap.size f W->W.cell? ⟨c,j*4,none⟩=some (.int .i64 (Ref.kindOf a k))/\W.cell? ⟨c,j*4+1,none⟩=some (.string (Ref.textOf a k)):=by
 obtain⟨j,x,o,n,d,e⟩:=Ref.Ah i l;refine⟨j,o,λW hb=>?_⟩;obtain⟨v,g,h,_⟩:=m.rd.node j x n;rw[d,e];exact⟨zh hb g,zh hb h⟩
theorem xD.res{w a:World}{c:Nat}{d b:Array Value}{sh pt:Bool}(h:xD w c d b sh pt a) :
  (a.cell? ⟨w.heap.size,0,none⟩=some (.string ⟨#[]⟩)/\a.cell? ⟨w.heap.size,1,none⟩=some (.string ⟨#[]⟩)/\a.cell? ⟨w.heap.size,2,none⟩=some (.slice none 0 0)/\a.cell? ⟨w.heap.size,3,none⟩=some (.bool false)) /\
  (a.frozen? ⟨w.heap.size,0,none⟩=false/\a.frozen? ⟨w.heap.size,1,none⟩=false/\a.frozen? ⟨w.heap.size,2,none⟩=false/\a.frozen? ⟨w.heap.size,3,none⟩=false):=
 ⟨⟨(zg h.r 0).1,(zg h.r 1).1,(zg h.r 2).1,(zg h.r 3).1⟩,⟨(zg h.r 0).2,(zg h.r 1).2,(zg h.r 2).2,(zg h.r 3).2⟩⟩
theorem Ci{w:World}{b:Nat}{j k l m:Value}(a c d e:Value)(f:w.cell? ⟨b,0,none⟩=some j)(g:w.cell? ⟨b,1,none⟩=some k)(h:w.cell? ⟨b,2,none⟩=some l)(i:w.cell? ⟨b,3,none⟩=some m) :
  ((((w.setCell ⟨b,0,none⟩ a).setCell ⟨b,1,none⟩ c).setCell ⟨b,2,none⟩ d).setCell ⟨b,3,none⟩ e).cell? ⟨b,0,none⟩=some a/\((((w.setCell ⟨b,0,none⟩ a).setCell ⟨b,1,none⟩ c).setCell ⟨b,2,none⟩ d).setCell ⟨b,3,none⟩ e).cell? ⟨b,1,none⟩=some c /\
  ((((w.setCell ⟨b,0,none⟩ a).setCell ⟨b,1,none⟩ c).setCell ⟨b,2,none⟩ d).setCell ⟨b,3,none⟩ e).cell? ⟨b,2,none⟩=some d/\((((w.setCell ⟨b,0,none⟩ a).setCell ⟨b,1,none⟩ c).setCell ⟨b,2,none⟩ d).setCell ⟨b,3,none⟩ e).cell? ⟨b,3,none⟩=some e:=by
 refine⟨?_,?_,?_,?_⟩
 ·rw[qO _ _ _ _ (by simp),qO _ _ _ _ (by simp),qO _ _ _ _ (by simp),Zr _ _ _ f]
 ·rw[qO _ _ _ _ (by simp),qO _ _ _ _ (by simp)];exact Zr _ _ _ ((qO _ _ _ _ (by simp)).trans g)
 ·rw[qO _ _ _ _ (by simp)];exact Zr _ _ _ ((qO _ _ _ _ (by simp)).trans ((qO _ _ _ _ (by simp)).trans h))
 ·exact Zr _ _ _ ((qO _ _ _ _ (by simp)).trans ((qO _ _ _ _ (by simp)).trans ((qO _ _ _ _ (by simp)).trans i)))
theorem He(i:Nat)(w0:World)(base b gg cap:Nat)(l:List Ref.Node)(n:Ref.Node)(C:Nat)(sh pt:Bool)(w:World)(m:jT w0 base b gg cap l w)(hi:l[i]?=some n)(e7:w0.heap.size<=C)(hf:qf w C sh pt)
  (c:Ref.zn n Ref.bOp<0\/Ref.zn n Ref.zI<0\/Ref.kindOf l (Ref.zn n Ref.bOp)≠3\/Ref.kindOf l (Ref.zn n Ref.zI)≠3) :
  Calls prog 166 #[.pointer (some ⟨b,0,none⟩),.int .i64 (i:Int),.pointer (some ⟨C,0,none⟩)] w (VM w C sh pt Ref.yH):=by
 have a0:C<w.heap.size:=zt hf;obtain⟨⟨v1,v2⟩,⟨na,nc,a8⟩,⟨ka,kc,a9⟩,o,B,cO⟩:=Uu m hi;simp only at a8 a9;subst a8;subst a9;have e8:i<l.length:=(zW.1 hi).1;have L:=m.at.slice;have hlen:=m.rd.len;have N:=Ref.vL m.rd.ev hi Ref.bOp;have M:=Ref.vL m.rd.ev hi Ref.zI;have nB:=Ref.vL m.rd.ev hi Ref.bNo;have vB:=Ref.vL m.rd.ev hi Ref.zG;obtain⟨a1,a2,a3,a4⟩:=o w m.bel;simp only at a3 a4;obtain⟨S,J⟩:=Nm l.length;have D:=hid J;rw[J] at L e8 hlen N M nB vB;unfold QX at B cO;simp only at B cO;obtain⟨kind,d⟩:∃k,n.kind=k:=⟨_,rfl⟩;obtain⟨text,f⟩:∃k,n.text=k:=⟨_,rfl⟩;obtain⟨nn,K⟩:∃k,n.names.length=k:=⟨_,rfl⟩;obtain⟨nk,I⟩:∃k,n.kids.length=k:=⟨_,rfl⟩;rw[d] at a1;rw[f] at a2;rw[K] at a3;rw[I] at a4;simp only[d,f,K,I] at B cO;have ST:=xD.start hf #[.int .i64 kind,.string text,.slice na nn nc,.slice ka nk kc] #[.string ⟨#[]⟩,.string ⟨#[]⟩,.slice none 0 0,.bool false];have A:∀wx,xD w C #[.int .i64 kind,.string text,.slice na nn nc,.slice ka nk kc] #[.string ⟨#[]⟩,.string ⟨#[]⟩,.slice none 0 0,.bool false] sh pt wx->Below w0.heap.size w0 wx:=λwx h=>(m.grown h.g e7).bel;obtain⟨OP,z⟩:∃x,Ref.zn n Ref.bOp=x:=⟨_,rfl⟩;obtain⟨q,j⟩:∃x,Ref.zn n Ref.zI=x:=⟨_,rfl⟩;obtain⟨NO,G⟩:∃x,Ref.zn n Ref.bNo=x:=⟨_,rfl⟩;obtain⟨VA,H⟩:∃x,Ref.zn n Ref.zG=x:=⟨_,rfl⟩;have s:=λW h=>B W Ref.bOp h;have t:=λW h=>B W Ref.zI h;have u:=λW h=>B W Ref.bNo h;have y:=λW h=>B W Ref.zG h;simp only[z] at s;simp only[j] at t;simp only[G] at u;simp only[H] at y;unfold Ref.bOp at s;unfold Ref.zI at t;unfold Ref.bNo at u;unfold Ref.zG at y;rw[z] at N;rw[j] at M;rw[G] at nB;rw[H] at vB;rw[z,j] at c;have HE:=hid m;have a:=hid A;have i0:(0:Int)<=(i:Int):=qz _;have i1:(i:Int)<(S:Int):=by omega
 clear m B hf o z j G H d f K I A cO J nB vB;have s1:=λO:Obj=>zh (nbl w O) L;have b1:=λO:Obj=>zh (nbl w O) a1;have b2:=λO:Obj=>zh (nbl w O) a2;have b3:=λO:Obj=>zh (nbl w O) a3;have b4:=λO:Obj=>zh (nbl w O) a4;go_enter func166,ntmps166
 go_upto_region 8 with (first
  | (go_at_call 60;refine (y w3 (a.out w3 C3)).mono ?_;rintro e w4 ⟨rfl,Z⟩;have C4:=C3.below Z)
  | (go_at_call 60;refine (u w2 (a.out w2 C2)).mono ?_;rintro e w3 ⟨rfl,Y⟩;have C3:=C2.below Y;obtain⟨⟨f8,f9,g0,g1⟩,_,_,_⟩:=C3.cells)
  | (go_at_call 60;refine (t w1 (a.out w1 C1)).mono ?_;rintro e w2 ⟨rfl,X⟩;have C2:=C1.below X;obtain⟨⟨f4,f5,f6,f7⟩,_,_,_⟩:=C2.cells)
  | (go_at_call 60;refine (s _ (a.out _ ST)).mono ?_;rintro e w1 ⟨rfl,V⟩;have C1:=ST.below V;obtain⟨⟨f0,f1,f2,f3⟩,_,_,_⟩:=C1.cells))
 have T:=C4.below (nbl w4 (.cells #[.string ⟨#[111,112]⟩,.string ⟨#[107,101,121]⟩,.string ⟨#[110,111]⟩,.string ⟨#[118,97,108,117,101]⟩] 9));obtain⟨w5,b0⟩:∃x,w4.alloc (.cells #[.string ⟨#[111,112]⟩,.string ⟨#[107,101,121]⟩,.string ⟨#[110,111]⟩,.string ⟨#[118,97,108,117,101]⟩] 9)=x:=⟨_,rfl⟩;rw[b0] at T |-;obtain⟨g4,a5⟩:∃x,w4.heap.size=x:=⟨_,rfl⟩;rw[a5];have r:=a.out w5 T
 have b5:w5.cell? ⟨b,2,none⟩=some (.slice (some ⟨gg,0,none⟩) S cap):=by
  have:=(HE.out.rd.below r).slice
  rwa [D.out] at this
 clear f0 f1 f2 f3 f4 f5 f6 f7 f8 f9 g0 g1 s1 b1 b2 b3 b4 a1 a2 a3 a4 L i0 i1 V X Y Z C1 C2 C3 C4 ST s t u y b0 a5;obtain⟨_,⟨c0,c1,c2,c3⟩,_,⟨h0,_,h2,_⟩⟩:=T.cells;have E5:=T.shape a0 true;obtain⟨⟨t0,t1,t2,t3⟩,⟨z0,z1,z2,z3⟩⟩:=E5.res;obtain⟨_,⟨y0,y1,y2,y3⟩,_,_⟩:=E5.cells;obtain⟨e0,P,Q,e3⟩:=Ci (.string ⟨#[]⟩) (.string ⟨#[]⟩) (.slice none 0 0) (.bool false) t0 t1 t2 t3;have p:=E5.fin a0 (.string ⟨#[]⟩) (.string ⟨#[]⟩) (.slice none 0 0) (.bool false)
 have FF:Hid (VM w C sh pt Ref.yH (.returned (.agg #[.string ⟨#[]⟩,.string ⟨#[]⟩,.slice none 0 0,.bool false])) (((((w5.setCell ⟨C,0,none⟩ (.bool true)).setCell ⟨w.heap.size,0,none⟩ (.string ⟨#[]⟩)).setCell ⟨w.heap.size,1,none⟩ (.string ⟨#[]⟩)).setCell ⟨w.heap.size,2,none⟩ (.slice none 0 0)).setCell ⟨w.heap.size,3,none⟩ (.bool false))):=by
  refine⟨_,rfl,p.1,?_,ql _ _ _ _⟩;have P:(sh||Ref.yH.sh)=true:=by show (sh||true)=true;simp
  have Q:(pt||Ref.yH.pt)=pt:=by show (pt||false)=pt;simp
  rw[P,Q];exact p.2
 clear p E5 T
 by_cases o1:OP<0
 ·have d1:decide (OP<0)=true:=zy o1;clear c N M o1 b5
  go_wp2
  exact zA (v := .agg #[.string ⟨#[]⟩,.string ⟨#[]⟩,.slice none 0 0,.bool false]) (by simp[results,results166,go_sem,e0,P,Q,e3]) rfl FF.out
 have d1:decide (OP<0)=false:=zJ o1
 by_cases o2:q<0
 ·have d2:decide (q<0)=true:=zy o2;clear c N M o1 o2 b5
  go_wp2
  exact zA (v := .agg #[.string ⟨#[]⟩,.string ⟨#[]⟩,.slice none 0 0,.bool false]) (by simp[results,results166,go_sem,e0,P,Q,e3]) rfl FF.out
 have d2:decide (q<0)=false:=zJ o2;obtain⟨R,rfl,a7⟩:=Jy HE.out OP (by omega) (by rw[D.out];exact N.2);obtain⟨jk,rfl,a6⟩:=Jy HE.out q (by omega) (by rw[D.out];exact M.2);have j2:(0:Int)<=(R:Int):=qz _;have j3:(R:Int)<(S:Int):=N.2;have j0:(0:Int)<=(jk:Int):=qz _;have j1:(jk:Int)<(S:Int):=M.2
 have U:Ref.kindOf l (R:Int)≠3\/(Ref.kindOf l (R:Int)=3/\Ref.kindOf l (jk:Int)≠3):=by
  rcases c with h|h|h|h
  ·omega
  ·omega
  ·exact .inl h
  ·by_cases e:Ref.kindOf l (R:Int)=3
   ·exact .inr ⟨e,h⟩
   ·exact .inl e
 obtain⟨m1,_⟩:=a7 w5 r;obtain⟨m3,_⟩:=a6 w5 r;obtain⟨KO,F⟩:∃x,Ref.kindOf l (R:Int)=x:=⟨_,rfl⟩;obtain⟨KK,E⟩:∃x,Ref.kindOf l (jk:Int)=x:=⟨_,rfl⟩;rw[F,E] at U;rw[F] at m1;rw[E] at m3;clear a7 a6 F E c N M o1 o2 r
 rcases U with o3|⟨o3,o4⟩
 ·have d3:(KO != 3)=true:=by simp[o3]
  clear o3
  go_wp2
  exact zA (v := .agg #[.string ⟨#[]⟩,.string ⟨#[]⟩,.slice none 0 0,.bool false]) (by simp[results,results166,go_sem,e0,P,Q,e3]) rfl FF.out
 ·subst o3;have d4:(KK != 3)=true:=by simp[o4]
  clear o4
  go_wp2
  exact zA (v := .agg #[.string ⟨#[]⟩,.string ⟨#[]⟩,.slice none 0 0,.bool false]) (by simp[results,results166,go_sem,e0,P,Q,e3]) rfl FF.out
theorem Q0{w w':World}{base:Nat}{e:TypeId}{size:Nat}{v:Value}{n:Nat}{xs:List Value}(h:w.ownsRow base e size v n xs)(c:∀i,base<=i->i<w.heap.size->w'.heap[i]?=w.heap[i]?):w'.ownsRow base e size v n xs:=by
 obtain⟨b,a⟩:=h;refine⟨b,?_⟩
 rcases a with a|⟨g,cap,cur,hv,hg,hh,h3⟩
 ·exact .inl a
 ·exact .inr ⟨g,cap,cur,hv,hg,by rw[c g hg (zt hh)];exact hh,h3⟩
theorem fq(a b c:Bool):a=true\/(a=false/\b=false)\/(a=false/\b=true/\c=true)\/(a=false/\b=true/\c=false):=by
 cases a<;>cases b<;>cases c<;>simp
theorem zcC{i:World}{base b d cap:Nat}{c:List Ref.Node}(g:Zo i base b d cap c)(k:Int)(e:0<=k)(f:k<(c.length:Int)):(Ref.textOf c k).size<=12000:=by
 obtain⟨j,x,_,h,_,a⟩:=Ref.Ah e f;rw[a];exact (g.small j x h).2.2
theorem Hf(i:Nat)(N:World)(base b gg cap:Nat)(d:List Ref.Node)(n:Ref.Node)(o:Nat)(sh pt:Bool)(w:World)(U:jT N base b gg cap d w)(hi:d[i]?=some n)(Y:N.heap.size<=o)(hf:qf w o sh pt)
  (m:¬(Ref.zn n Ref.bOp<0\/Ref.zn n Ref.zI<0\/Ref.kindOf d (Ref.zn n Ref.bOp)≠3\/Ref.kindOf d (Ref.zn n Ref.zI)≠3)) :
  Calls prog 166 #[.pointer (some ⟨b,0,none⟩),.int .i64 (i:Int),.pointer (some ⟨o,0,none⟩)] w (VM w o sh pt (Ref.ZT d n)):=by
 have c:o<w.heap.size:=zt hf;obtain⟨⟨v1,v2⟩,⟨na,nc,n9⟩,⟨ka,kc,o0⟩,X,cH,cO⟩:=Uu U hi;simp only at n9 o0;subst n9;subst o0;have v3:i<d.length:=(zW.1 hi).1;have h9:=U.at.slice;have hlen:=U.rd.len;have oB:=Ref.vL U.rd.ev hi Ref.bOp;have kB:=Ref.vL U.rd.ev hi Ref.zI;have nB:=Ref.vL U.rd.ev hi Ref.bNo;have vB:=Ref.vL U.rd.ev hi Ref.zG;obtain⟨a1,a2,a3,a4⟩:=X w U.bel;simp only at a3 a4;obtain⟨nl,h7⟩:=Nm d.length;have A:=hid h7;rw[h7] at h9 v3 hlen oB kB nB vB;unfold QX at cH cO;simp only at cH cO;obtain⟨kind,I⟩:∃k,n.kind=k:=⟨_,rfl⟩;obtain⟨text,J⟩:∃k,n.text=k:=⟨_,rfl⟩;obtain⟨nn,h8⟩:∃k,n.names.length=k:=⟨_,rfl⟩;obtain⟨nk,h6⟩:∃k,n.kids.length=k:=⟨_,rfl⟩;rw[I] at a1;rw[J] at a2;rw[h8] at a3;rw[h6] at a4;simp only[I,J,h8,h6] at cH cO;have ST:=xD.start hf #[.int .i64 kind,.string text,.slice na nn nc,.slice ka nk kc] #[.string ⟨#[]⟩,.string ⟨#[]⟩,.slice none 0 0,.bool false];have e6:∀wx,xD w o #[.int .i64 kind,.string text,.slice na nn nc,.slice ka nk kc] #[.string ⟨#[]⟩,.string ⟨#[]⟩,.slice none 0 0,.bool false] sh pt wx->Below N.heap.size N wx:=λwx h=>(U.grown h.g Y).bel;obtain⟨OP,V⟩:∃x,Ref.zn n Ref.bOp=x:=⟨_,rfl⟩;obtain⟨r8,B⟩:∃x,Ref.zn n Ref.zI=x:=⟨_,rfl⟩;obtain⟨F,d5⟩:∃x,Ref.zn n Ref.bNo=x:=⟨_,rfl⟩;obtain⟨M,d6⟩:∃x,Ref.zn n Ref.zG=x:=⟨_,rfl⟩;have c7:=λW h=>cH W Ref.bOp h;have c8:=λW h=>cH W Ref.zI h;have c9:=λW h=>cH W Ref.bNo h;have d3:=λW h=>cH W Ref.zG h;simp only[V] at c7;simp only[B] at c8;simp only[d5] at c9;simp only[d6] at d3;unfold Ref.bOp at c7;unfold Ref.zI at c8;unfold Ref.bNo at c9;unfold Ref.zG at d3;rw[V] at oB;rw[B] at kB;rw[d5] at nB;rw[d6] at vB;obtain⟨R,hR⟩:=Nm (Ref.ZT d n);rw[hR];unfold Ref.ZT at hR;rw[za m] at hR;rw[V,B] at m;rw[V,B,d5,d6] at hR;have HR:=hid hR;have CO:=hid cO;have u:=hid U;have t:=hid e6;have i0:(0:Int)<=(i:Int):=qz _;have i1:(i:Int)<(nl:Int):=by omega
 clear U cH hf X V B d5 d6 I J h8 h6 e6 cO h7 hR;have s1:=λO:Obj=>zh (nbl w O) h9;have b1:=λO:Obj=>zh (nbl w O) a1;have b2:=λO:Obj=>zh (nbl w O) a2;have b3:=λO:Obj=>zh (nbl w O) a3;have b4:=λO:Obj=>zh (nbl w O) a4;go_enter func166,ntmps166
 go_upto_region 8 with (first
  | (go_at_call 60;refine (d3 w3 (t.out w3 C3)).mono ?_;rintro e w4 ⟨rfl,l9⟩;have C4:=C3.below l9)
  | (go_at_call 60;refine (c9 w2 (t.out w2 C2)).mono ?_;rintro e w3 ⟨rfl,l8⟩;have C3:=C2.below l8;obtain⟨⟨y8,y9,z4,z5⟩,_,_,_⟩:=C3.cells)
  | (go_at_call 60;refine (c8 w1 (t.out w1 D)).mono ?_;rintro e w2 ⟨rfl,l7⟩;have C2:=D.below l7;obtain⟨⟨y4,y5,y6,y7⟩,_,_,_⟩:=C2.cells)
  | (go_at_call 60;refine (c7 _ (t.out _ ST)).mono ?_;rintro e w1 ⟨rfl,l6⟩;have D:=ST.below l6;obtain⟨⟨x4,x5,x6,x7⟩,_,_,_⟩:=D.cells))
 have d7:=zB w4 (.cells #[.string ⟨#[111,112]⟩,.string ⟨#[107,101,121]⟩,.string ⟨#[110,111]⟩,.string ⟨#[118,97,108,117,101]⟩] 9);have C5:=C4.below (nbl w4 (.cells #[.string ⟨#[111,112]⟩,.string ⟨#[107,101,121]⟩,.string ⟨#[110,111]⟩,.string ⟨#[118,97,108,117,101]⟩] 9));obtain⟨w5,o1⟩:∃x,w4.alloc (.cells #[.string ⟨#[111,112]⟩,.string ⟨#[107,101,121]⟩,.string ⟨#[110,111]⟩,.string ⟨#[118,97,108,117,101]⟩] 9)=x:=⟨_,rfl⟩;rw[o1] at C5 d7 |-;obtain⟨g4,h5⟩:∃x,w4.heap.size=x:=⟨_,rfl⟩;rw[h5] at d7 |-;have m9:w.heap.size+3<=g4:=by rw[<- h5];exact C4.size
 have c6:=t.out w5 C5
 have o9:w5.cell? ⟨b,2,none⟩=some (.slice (some ⟨gg,0,none⟩) nl cap):=by
  have:=(u.out.rd.below c6).slice
  rwa [A.out] at this
 clear x4 x5 x6 x7 y4 y5 y6 y7 y8 y9 z4 z5 s1 b1 b2 b3 b4 a1 a2 a3 a4 h9 i0 i1 l6 l7 l8 l9 D C2 C3 C4 ST c7 c8 c9 d3 o1 h5;obtain⟨jo,rfl,n8⟩:=Jy u.out OP (by omega) (by rw[A.out];exact oB.2);obtain⟨jk,rfl,n5⟩:=Jy u.out r8 (by omega) (by rw[A.out];exact kB.2);have v9:(0:Int)<=(jo:Int):=qz _;have w7:(jo:Int)<(nl:Int):=oB.2;have o3:(0:Int)<=(jk:Int):=qz _;have o4:(jk:Int)<(nl:Int):=kB.2
 have k3:Ref.kindOf d (jo:Int)=3:=by
  by_cases e:Ref.kindOf d (jo:Int)=3
  ·exact e
  ·exact absurd (.inr (.inr (.inl e))) m
 have k4:Ref.kindOf d (jk:Int)=3:=by
  by_cases e:Ref.kindOf d (jk:Int)=3
  ·exact e
  ·exact absurd (.inr (.inr (.inr e))) m
 obtain⟨m1,m2⟩:=n8 w5 c6;obtain⟨m3,m4⟩:=n5 w5 c6;rw[k3] at m1;rw[k4] at m3;obtain⟨opT,a0⟩:∃x,Ref.textOf d (jo:Int)=x:=⟨_,rfl⟩;obtain⟨a,q⟩:∃x,Ref.textOf d (jk:Int)=x:=⟨_,rfl⟩;have g8:=HR.out;rw[a0,q] at g8;rw[a0] at m2;rw[q] at m4;have c5:=hid g8;have d1:decide ((jo:Int)<0)=false:=zJ (by omega);have d2:decide ((jk:Int)<0)=false:=zJ (by omega);obtain⟨_,⟨c0,c1,c2,c3⟩,⟨g0,g1,g2,g3⟩,⟨h0,_,h2,_⟩⟩:=C5.cells;have P1:=C5.put c 0 (.string opT) #[.string opT,.string ⟨#[]⟩,.slice none 0 0,.bool false] rfl;obtain⟨_,⟨_,s6,_,_⟩,⟨_,t6,_,_⟩,_⟩:=P1.cells;have C6:=P1.put c 1 (.string a) #[.string opT,.string a,.slice none 0 0,.bool false] rfl
 have p0:(w5.setCell ⟨w.heap.size+2,0,none⟩ (.string opT)).cell? ⟨b,2,none⟩=some (.slice (some ⟨gg,0,none⟩) nl cap):=by
  rw[qO _ _ _ _ (by have:=u.out.at.lt.1;simp only[ne_eq,Addr.mk.injEq];omega)];exact o9
 have x1:(w5.setCell ⟨w.heap.size+2,0,none⟩ (.string opT)).cell? ⟨gg,jk*4+1,none⟩=some (.string a):=by
  rw[qO _ _ _ _ (by have:=u.out.at.lt.2;simp only[ne_eq,Addr.mk.injEq];omega)];exact m4
 have d8:((w5.setCell ⟨w.heap.size+2,0,none⟩ (.string opT)).setCell ⟨w.heap.size+2,1,none⟩ (.string a)).heap[g4]?=some (.cells #[.string ⟨#[111,112]⟩,.string ⟨#[107,101,121]⟩,.string ⟨#[110,111]⟩,.string ⟨#[118,97,108,117,101]⟩] 9):=by
  rw[qd _ _ _ _ (by simp only;omega),qd _ _ _ _ (by simp only;omega)];exact d7
 have v4:a.size<=maxLen:=by
  rw[<- q];exact xu (zcC u.out.rd _ o3 (by rw[A.out];exact o4)) (by decide)
 clear HR g8 a0 q n8 n5 k3 k4 m
 go_upto_if 86 with fail
 obtain⟨w6,o2⟩:∃x,(w5.setCell ⟨w.heap.size+2,0,none⟩ (.string opT)).setCell ⟨w.heap.size+2,1,none⟩ (.string a)=x:=⟨_,rfl⟩;rw[o2] at C6 d8 |-;have f9:Below N.heap.size N w6:=(u.out.grown C6.g Y).bel;have D2:b≠w.heap.size+2:=by have:=u.out.at.lt.1;omega
 have D3:gg≠w.heap.size+2:=by have:=u.out.at.lt.2;omega
 have p1:w6.cell? ⟨b,2,none⟩=some (.slice (some ⟨gg,0,none⟩) nl cap):=by
  have:=(u.out.rd.below f9).slice
  rwa [A.out] at this
 clear o2 o9 p0 m1 m2 m3 m4 x1 d7 c0 c1 c2 c3 g0 g1 g2 g3 h0 h2 s6 t6 P1 C5 c6 d1 d2 v9 w7 o3 o4
 go_cut [] (λwx=>xD w o #[.int .i64 kind,.string text,.slice na nn nc,.slice ka nk kc] #[.string opT,.string a,.slice none 0 0,.bool (Ref.noT d F)] (sh||Ref.uX d F) pt wx/\wx.heap[g4]?=some (.cells #[.string ⟨#[111,112]⟩,.string ⟨#[107,101,121]⟩,.string ⟨#[110,111]⟩,.string ⟨#[118,97,108,117,101]⟩] 9))
 case first=>
  by_cases hno:0<=F
  ·obtain⟨jn,rfl,n7⟩:=Jy u.out F hno (by rw[A.out];exact nB.2);have v8:(0:Int)<=(jn:Int):=qz _;have D9:(jn:Int)<(nl:Int):=nB.2;have dn:decide ((0:Int)<=(jn:Int))=true:=zy v8;have e1:Ref.noT d (jn:Int)=(Ref.kindOf d (jn:Int)==4):=by unfold Ref.noT;rw[dn,jC]
   have e2:Ref.uX d (jn:Int)=(!(Ref.kindOf d (jn:Int)==4) && !(Ref.kindOf d (jn:Int)==5)):=by unfold Ref.uX;rw[dn,jC]
   obtain⟨m5,_⟩:=n7 w6 f9;obtain⟨T,l4⟩:∃x,Ref.kindOf d (jn:Int)=x:=⟨_,rfl⟩;rw[l4] at e1 e2 m5;have E1:=hid e1;have E2:=hid e2;obtain⟨_,⟨c0,c1,c2,c3⟩,⟨g0,g1,g2,g3⟩,⟨h0,_,h2,_⟩⟩:=C6.cells;have P3:=C6.put c 3 (.bool (T==4)) #[.string opT,.string a,.slice none 0 0,.bool (T==4)] rfl;obtain⟨_,_,_,⟨f0,_,f2,_⟩⟩:=P3.cells
   have E4:(w6.setCell ⟨w.heap.size+2,3,none⟩ (.bool (T==4))).cell? ⟨b,2,none⟩=some (.slice (some ⟨gg,0,none⟩) nl cap):=by
    rw[qO _ _ _ _ (by simp only[ne_eq,Addr.mk.injEq];omega)];exact p1
   have m7:(w6.setCell ⟨w.heap.size+2,3,none⟩ (.bool (T==4))).cell? ⟨gg,jn*4,none⟩=some (.int .i64 T):=by
    rw[qO _ _ _ _ (by simp only[ne_eq,Addr.mk.injEq];omega)];exact m5
   have a9:∀x,((w6.setCell ⟨w.heap.size+2,3,none⟩ (.bool (T==4))).setCell ⟨o,0,none⟩ x).heap[g4]?=some (.cells #[.string ⟨#[111,112]⟩,.string ⟨#[107,101,121]⟩,.string ⟨#[110,111]⟩,.string ⟨#[118,97,108,117,101]⟩] 9):=λx=>by
    rw[qd _ _ _ _ (by simp only;omega),qd _ _ _ _ (by simp only;omega)];exact d8
   have PT:=P3.shape c true;have PF:=P3.shape c false;have HP:=hid (XJ PT PF);clear e1 e2 n7 l4 P3 PT PF C6 c5 CO
   cases sh with
   | true=>
    go_wp2_with fail
    go_meet
    case rel=>exact⟨by rw[E1.out,VJ];exact HP.out.1,a9 _⟩
   | false=>
    by_cases k4:T=4
    ·subst k4;go_wp2_with fail
     go_meet
     case rel=>exact⟨by rw[E1.out,E2.out,show (false||(!((4:Int)==4) && !((4:Int)==5)))=false from by decide];exact HP.out.2,a9 _⟩
    ·have q4:(T != 4)=true:=by simp[k4]
     have o6:(T==4)=false:=by simp[k4]
     by_cases k5:T=5
     ·subst k5;go_wp2_with fail
      go_meet
      case rel=>exact⟨by rw[E1.out,E2.out,show (false||(!((5:Int)==4) && !((5:Int)==5)))=false from by decide];exact HP.out.2,a9 _⟩
     ·have q5:(T != 5)=true:=by simp[k5]
      have o7:(T==5)=false:=by simp[k5]
      have Q4:=hid o6;have Q5:=hid o7;clear o6 o7;go_wp2_with fail
      go_meet
      case rel=>exact⟨by rw[E1.out,E2.out,Q4.out,Q5.out];first|exact HP.out.1|(have h:=HP.out.1;rw[Q4.out] at h;exact h),by first|exact a9 _|(have h:=a9 (.bool true);rw[Q4.out] at h;exact h)⟩
  ·have dn:decide ((0:Int)<=F)=false:=zJ hno;have e1:Ref.noT d F=false:=by unfold Ref.noT;rw[dn,uJ]
   have e2:Ref.uX d F=false:=by unfold Ref.uX;rw[dn,uJ]
   have r7:=hid C6;have E1:=hid e1;have E2:=hid e2;clear e1 e2 c5 CO C6;have D4:F<0:=by omega
   go_wp2_with fail
   go_meet
   case rel=>exact⟨by rw[E1.out,E2.out,Zl];exact r7.out,d8⟩
 case rest=>
  obtain⟨C7,o5⟩:=hcut;obtain⟨⟨n0,n1,n2,n3⟩,⟨c0,c1,c2,c3⟩,⟨g0,g1,g2,g3⟩,⟨h0,h1,h2,h3⟩⟩:=C7.cells
  go_upto_if 131 with (go_at_call 180;refine (KU a _ v4).mono ?_;rintro e wN ⟨rfl,rfl⟩)
  have k9:Below N.heap.size N wN:=(u.out.grown C7.g Y).bel;have cS:∀W,Below N.heap.size N W->Calls prog 207 #[.pointer (some ⟨b,0,none⟩),.int .i64 M] W (Km W (Ref.qM d M)):=λW hb=>Dj M base b gg cap d W (u.out.rd.below hb) (by rw[A.out];exact vB.2) vB.1;have cP:∀W sh pt,Below N.heap.size N W->qf W o sh pt->Calls prog 165 #[.pointer (some ⟨b,0,none⟩),.int .i64 M,.pointer (some ⟨o,0,none⟩)] W (Kj W o sh pt (Ref.qM d M)):=λW sh pt hb hf=>Bi M base b gg cap d o sh pt W (u.out.rd.below hb) (by rw[A.out];exact vB.2) vB.1 hf
  have r:∀s ∈ (Ref.qM d M).getD [],s.size<=12000:=by
   cases e:Ref.qM d M with
   | none=>simp
   | some l=>exact Ref.Di d 12000 (λi n hi=>(u.out.rd.small i n hi).2.2) M l e
  have hlen:((Ref.qM d M).getD []).length<=10:=by
   cases e:Ref.qM d M with
   | none=>simp
   | some l=>exact Ref.Dh d M l e
  unfold Km at cS;unfold Kj at cP;obtain⟨SO,h4⟩:∃x,(Ref.qM d M).isSome=x:=⟨_,rfl⟩;obtain⟨L,hL⟩:∃x,(Ref.qM d M).getD []=x:=⟨_,rfl⟩;obtain⟨FI,g6⟩:∃x,Ref.Zv opT L=x:=⟨_,rfl⟩;have g9:=c5.out;rw[h4,hL,g6] at g9;simp only[h4,hL] at cS cP;rw[hL] at r hlen;have cV:=λ(lv:Value) (W:World) (bs:Nat) h=>zc0 opT L lv bs W h hlen r;rw[g6] at cV;have H:=hid g9;have CS:=hid cS;have CP:=hid cP;have CV:=hid cV;have f7:=hid k9;have Q:=hid o5;have F2:=C7.size;have G:=hid C7;clear g9 cS cP cV k9 c5 h4 hL g6 r hlen o5 C7 p1 f9 C6 d8;obtain⟨K,a5⟩:∃x,(sh||Ref.uX d F)=x:=⟨_,rfl⟩;rw[a5] at h0 G;obtain⟨S,l5⟩:∃x,Ref.noT d F=x:=⟨_,rfl⟩;rw[l5] at c3 G H;have e4:=hid a5;clear a5 l5;obtain⟨IS,l3⟩:∃x,Ref.zX a=x:=⟨_,rfl⟩;rw[l3] at H |-;clear l3
  go_cut [13] (λs wx=>∃(ts:List BY) (lv:Value) (vals:List BY) (x p:Bool),ts.length<=4000/\xD w o #[.int .i64 kind,.string text,.slice na nn nc,.slice ka nk kc] #[.string opT,.string a,lv,.bool S] (K||x) (pt||p) wx/\wx.ownsRow w.heap.size 9 1 s ts.length (Ref.strCells ts)/\wx.ownsRow (w.heap.size+3) 9 1 lv vals.length (Ref.strCells vals)/\R=⟨opT,a,vals,S,Ref.uX d F||x || !IS || !Ref.yR n ts,p⟩)
  case first=>
   by_cases hab:Ref.xJ opT=true
   ·have s2:Hid (∃(ts:List BY) (lv:Value) (vals:List BY) (x p:Bool),ts.length<=4000/\xD w o #[.int .i64 kind,.string text,.slice na nn nc,.slice ka nk kc] #[.string opT,.string a,lv,.bool S] (K||x) (pt||p) wN/\wN.ownsRow w.heap.size 9 1 (.slice (some ⟨g4,0,none⟩) 3 4) ts.length (Ref.strCells ts)/\wN.ownsRow (w.heap.size+3) 9 1 lv vals.length (Ref.strCells vals)/\R=⟨opT,a,vals,S,Ref.uX d F||x || !IS || !Ref.yR n ts,p⟩):=
     ⟨[Ref.bOp,Ref.zI,Ref.bNo],.slice none 0 0,[],false,false,by decide,by rw[Zl,Zl];exact G.out,(wT Q.out (by omega)).2,ql _ _ _ _,by rw[<- H.out,zb hab,Zl]⟩
    unfold Ref.xJ at hab;clear H G Q;rw[hab];go_wp2_with fail
    go_meet
    case rel=>exact s2.out
   ·have hr:=H.out;rw[za hab] at hr;have k8:=hid hr;have e9:(opT.toList==[97,98,115,101,110,116])=false:=by unfold Ref.xJ at hab;simpa using hab
    clear hr H hab
    have k6:Hid (∀(wS wy:World) (la:Option Addr) (lc:Nat) (p y:Bool),Below wN.heap.size wN wS->wS.ownsRow wN.heap.size 9 1 (.slice la L.length lc) L.length (Ref.strCells L)->(∀i,w.heap.size+3<=i->i<wS.heap.size->wy.heap[i]?=wS.heap[i]?)->(Ref.qX opT && !L.all Ref.qi)=p->(K||(!SO || !FI))=y ->
      xD w o #[.int .i64 kind,.string text,.slice na nn nc,.slice ka nk kc] #[.string opT,.string a,.slice none 0 0,.bool S] y (pt||p) wy ->
      ∃(ts:List BY) (lv:Value) (vals:List BY) (x p:Bool),ts.length<=4000/\xD w o #[.int .i64 kind,.string text,.slice na nn nc,.slice ka nk kc] #[.string opT,.string a,lv,.bool S] (K||x) (pt||p) (wy.setCell ⟨w.heap.size+2,2,none⟩ (.slice la L.length lc))/\(wy.setCell ⟨w.heap.size+2,2,none⟩ (.slice la L.length lc)).ownsRow w.heap.size 9 1 (.slice (some ⟨g4,0,none⟩) 4 4) ts.length (Ref.strCells ts)/\(wy.setCell ⟨w.heap.size+2,2,none⟩ (.slice la L.length lc)).ownsRow (w.heap.size+3) 9 1 lv vals.length (Ref.strCells vals)/\R=⟨opT,a,vals,S,Ref.uX d F||x || !IS || !Ref.yR n ts,p⟩):=by
     intro wS wy la lc p y C j hk hp hy hC;subst hp;subst hy;have m8:g4<wN.heap.size:=zt Q.out;have D6:=C.size;refine⟨[Ref.bOp,Ref.zI,Ref.bNo,Ref.zG],.slice la L.length lc,L,(!SO || !FI),_,by decide,hC.put c 2 _ _ rfl,(wT ?_ (by omega)).1,?_,k8.out.symm⟩
     ·rw[qd _ _ _ _ (by simp only;omega),hk g4 m9 (by omega),C.block g4 m8];exact Q.out
     ·refine Q0 (xC j (by omega)) (λi h1 h2=>?_);rw[qd _ _ _ _ (by simp only;omega)];exact hk i h1 h2
    clear k8 Q;rw[e9];clear e9
    by_cases hlk:Ref.qX opT=true
    ·have n6:(opT.toList==[108,105,107,101])=true:=by unfold Ref.qX at hlk;exact hlk
     rcases fq K SO FI with rfl|⟨rfl,rfl⟩|⟨rfl,rfl,rfl⟩|⟨rfl,rfl,rfl⟩
     all_goals
      go_wp2_with (first
       | (go_at_call 207;refine (CS.out wN f7.out).mono ?_;rintro e wS ⟨lv,rfl,C,j⟩;obtain⟨la,lc,rfl⟩:=jR j;have D:=G.out.below C;obtain⟨_,⟨d0,_,d2,_⟩,⟨_,_,e2,_⟩,⟨f0,f1,f2,_⟩⟩:=D.cells;have k0:=λx=>(D.shape c x).cells.2.1.1)
       | (go_at_call 208;refine (CV.out _ _ _ j).mono ?_;rintro e wV ⟨rfl,rfl⟩)
       | (go_at_call 165;refine (CP.out _ _ _ (u.out.grown (D.shape c _).g Y).bel (D.shape c _).f).mono ?_;rintro e wP ⟨lp,rfl,n4,v0,_⟩;have C2:=(D.shape c _).grown c n4 v0;obtain⟨_,⟨_,_,B8,_⟩,⟨_,_,C0,_⟩,_⟩:=C2.cells))
      go_meet
      case rel=>exact k6.out _ _ _ _ (!L.all Ref.qi) _ C j (λi h1 h2=>(n4.block i (by simp[World.setCell];omega) (by simp;omega)).trans (qd _ _ _ _ (by simp only;omega))) (by rw[hlk,jC]) rfl C2
    ·have Z:Ref.qX opT=false:=by simpa using hlk
     have n6:(opT.toList==[108,105,107,101])=false:=by unfold Ref.qX at Z;exact Z
     clear hlk
     rcases fq K SO FI with rfl|⟨rfl,rfl⟩|⟨rfl,rfl,rfl⟩|⟨rfl,rfl,rfl⟩
     all_goals
      go_wp2_with (first
       | (go_at_call 207;refine (CS.out wN f7.out).mono ?_;rintro e wS ⟨lv,rfl,C,j⟩;obtain⟨la,lc,rfl⟩:=jR j;have D:=G.out.below C;obtain⟨_,⟨d0,_,d2,_⟩,⟨_,_,e2,_⟩,⟨f0,f1,f2,_⟩⟩:=D.cells;have k0:=λx=>(D.shape c x).cells.2.1.1;have k2:=λx=>(D.shape c x).cells.2.1.2.2.1;have k3:=λx=>(D.shape c x).cells.2.2.1.2.2.1)
       | (go_at_call 208;refine (CV.out _ _ _ j).mono ?_;rintro e wV ⟨rfl,rfl⟩))
      go_meet
      case rel=>exact k6.out _ _ _ _ false _ C j (λi h1 _=>qd _ _ _ _ (by simp only;omega)) (by rw[Z,uJ]) rfl (by rw[Zl];exact D.shape c _)
  case rest=>
   obtain⟨ts,lv,vals,x,p,v6,C8,oT,oV,t9⟩:=hcut;clear H G Q CS CP CV f7;subst t9;obtain⟨a7,a8,rfl⟩:=jR oV;obtain⟨ta,tc,rfl⟩:=jR oT;have l0:Below N.heap.size N wc:=(u.out.grown C8.g Y).bel;obtain⟨ON,g7⟩:∃z,Ref.yR n ts=z:=⟨_,rfl⟩;have cO:=CO.out wc ts (.slice ta ts.length tc) w.heap.size l0 oT v6;rw[g7] at cO;obtain⟨o8,a6⟩:∃z,(K||x)=z:=⟨_,rfl⟩;rw[a6] at C8
   have FF:Hid (∀(w9:World) (y:Bool),Below wc.heap.size wc w9->(o8 || !IS || !ON)=y ->
     VM w o sh pt ⟨opT,a,vals,S,Ref.uX d F||x || !IS || !Ref.yR n ts,p⟩ (.returned (.agg #[.string opT,.string a,.slice a7 vals.length a8,.bool S])) (((((w9.setCell ⟨o,0,none⟩ (.bool y)).setCell ⟨w.heap.size,0,none⟩ (.string opT)).setCell ⟨w.heap.size,1,none⟩ (.string a)).setCell ⟨w.heap.size,2,none⟩ (.slice a7 vals.length a8)).setCell ⟨w.heap.size,3,none⟩ (.bool S))):=by
    intro w9 y hb hy;have f3:=((C8.below hb).shape c y).fin c (.string opT) (.string a) (.slice a7 vals.length a8) (.bool S);refine⟨_,rfl,f3.1,?_,?_⟩
    ·have e1:(sh||(Ref.uX d F||x || !IS || !Ref.yR n ts))=y:=by rw[<- hy,<- a6,<- e4.out,g7];simp only[JJ]
     show qf _ o (sh||(Ref.uX d F||x || !IS || !Ref.yR n ts)) (pt||p);rw[e1];exact f3.2
    ·refine xC (Q0 (ownsRow_below oV hb) (λi h1 h2=>?_)) (by omega);rw[qd _ _ _ _ (by simp only;omega),qd _ _ _ _ (by simp only;omega),qd _ _ _ _ (by simp only;omega),qd _ _ _ _ (by simp only;omega),qd _ _ _ _ (by simp only;omega)]
   obtain⟨⟨q0,q1,q2,q3⟩,_,_,_⟩:=C8.cells;clear g7 a6 e4 oT oV l0 CO
   rcases fq o8 IS ON with rfl|⟨rfl,rfl⟩|⟨rfl,rfl,rfl⟩|⟨rfl,rfl,rfl⟩
   all_goals
    go_wp2_with (go_at_call 110;refine cO.mono ?_;rintro e w9 ⟨rfl,m0⟩;have P:=C8.below m0;obtain⟨_,_,_,⟨f0,f1,f2,_⟩⟩:=P.cells;have y0:=λx=>(P.shape c x).cells.2.1.1;have y1:=λx=>(P.shape c x).cells.2.1.2.1;have y2:=λx=>(P.shape c x).cells.2.1.2.2.1;have y3:=λx=>(P.shape c x).cells.2.1.2.2.2;have t0:=λx=>(P.shape c x).res.1.1;have t1:=λx=>(P.shape c x).res.1.2.1;have t2:=λx=>(P.shape c x).res.1.2.2.1;have t3:=λx=>(P.shape c x).res.1.2.2.2;have z0:=λx=>(P.shape c x).res.2.1;have z1:=λx=>(P.shape c x).res.2.2.1;have z2:=λx=>(P.shape c x).res.2.2.2.1;have z3:=λx=>(P.shape c x).res.2.2.2.2;have E:=λx=>Ci (.string opT) (.string a) (.slice a7 vals.length a8) (.bool S) (t0 x) (t1 x) (t2 x) (t3 x);have e0:=λx=>(E x).1;have e1:=λx=>(E x).2.1;have e2:=λx=>(E x).2.2.1;have e3:=λx=>(E x).2.2.2;clear E)
    exact zA (v := .agg #[.string opT,.string a,.slice a7 vals.length a8,.bool S]) (by simp[results,results166,go_sem,e0,e1,e2,e3]) rfl (FF.out _ _ m0 rfl)
theorem Hd(i:Nat)(f:World)(base b g cap:Nat)(a:List Ref.Node)(n:Ref.Node)(c:Nat)(sh pt:Bool)(w:World)(j:jT f base b g cap a w)(hi:a[i]?=some n)(d:f.heap.size<=c)(k:qf w c sh pt) :
  Calls prog 166 #[.pointer (some ⟨b,0,none⟩),.int .i64 (i:Int),.pointer (some ⟨c,0,none⟩)] w (VM w c sh pt (Ref.ZT a n)):=by
 by_cases h:Ref.zn n Ref.bOp<0\/Ref.zn n Ref.zI<0\/Ref.kindOf a (Ref.zn n Ref.bOp)≠3\/Ref.kindOf a (Ref.zn n Ref.zI)≠3
 ·have e:Ref.ZT a n=Ref.yH:=by unfold Ref.ZT;rw[zb h]
  rw[e];exact He i f base b g cap a n c sh pt w j hi d k h
 ·exact Hf i f base b g cap a n c sh pt w j hi d k h
theorem zal(text:BY):((qG text).1=0->Rd.Ul (qG text).2.2.nodes (qG text).2.2.root.toNat=Rd.xy text)/\((qG text).1≠0->((qG text).1,(qG text).2.1)=Rd.xy text):=by
 obtain⟨R,a⟩:=Nm (qG text);rw[a];unfold qG at a;unfold Rd.xy
 by_cases h1:4000<text.size
 ·rw[zb h1] at a |-;subst a;exact⟨λe=>by simp at e,λ_=>rfl⟩
 rw[za h1] at a |-;have f:=Rd.BI text.data.toList;have hlen:text.data.toList.length=text.size:=Ref.zD text;obtain⟨Q,i⟩:=Nm (Ref.run Ref.init text.data.toList 0);rw[i] at a
 cases hm:Rd.yS text.data.toList with
 | ok v p=>
  rw[hm] at f;simp only at f;obtain⟨m,c,r,o,k,g⟩:=f;unfold Rd.verdict at c;rw[List.drop_zero,i] at c
  by_cases c1:Q.1≠0
  ·rw[zb c1] at c;rw[c] at c1;exact absurd rfl c1
  rw[za c1] at c a
  by_cases c2:Q.2.2.state≠6\/Q.2.2.opn≠[]
  ·rw[zb c2] at c;simp at c
  rw[za c2] at c a;subst a;refine⟨λ_=>?_,λe=>absurd rfl e⟩;simp only[c,k];exact Rd.Li g
 | err e q=>
  rw[hm] at f;simp only at f;obtain⟨b,d⟩:=f;have j:=Rd.aF hm;have n:e≠0:=by unfold Rd.Code at j;omega
  unfold Rd.verdict at b d;rw[List.drop_zero,i] at b d;simp only
  by_cases c1:Q.1≠0
  ·rw[zb c1] at b d a;subst a;exact⟨λh=>absurd h c1,λ_=>by rw[b,d]⟩
  rw[za c1] at b d a
  by_cases c2:Q.2.2.state≠6\/Q.2.2.opn≠[]
  ·rw[zb c2] at b d a;subst a;refine⟨λh=>by simp at h,λ_=>?_⟩;simp only at b d |-;rw[<- b,<- d,hlen]
  ·rw[za c2] at b;exact absurd b.symm (λl=>c1 (by omega))
end Go.Proofs.YtdakgnaojakldaaGreatDoor
