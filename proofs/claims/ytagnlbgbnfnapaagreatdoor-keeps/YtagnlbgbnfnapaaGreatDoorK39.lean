/- P -/
import Derived.Test.YtagnlbgbnfnapaaGreatDoorK38
open Go.Proofs.Tryz
set_option maxRecDepth 100000
set_option maxHeartbeats 2000000
namespace Go.Proofs.YtagnlbgbnfnapaaGreatDoor
open Go.RowKit
theorem nT{W:World}{g base:Nat}{a b c d:BY}(h:W.heap[g]?=some (.cells #[.string a,.string b,.string c,.string d] 9 (0,0)))(hb:base<=g) :
  W.ownsRow base 9 1 (.slice (some ⟨g,0,none⟩) 4 4) [a,b,c,d].length (Ref.strCells [a,b,c,d])/\W.ownsRow base 9 1 (.slice (some ⟨g,0,none⟩) 3 4) [a,b,c].length (Ref.strCells [a,b,c]):=
 ⟨⟨rfl,.inr ⟨g,4,_,rfl,hb,h,by simp,by decide,rfl,rfl⟩⟩,⟨rfl,.inr ⟨g,4,_,rfl,hb,h,by simp,by decide,rfl,rfl⟩⟩⟩
theorem Yf{e w:World}{base b a cap:Nat}{ns:List Ref.Node}(l:vv e base b a cap ns w)(k:Int)(h:0<=k)(i:k<(ns.length:Int)) :
  ∃j:Nat,k=(j:Int)/\∀W,Below e.heap.size e W->W.cell? ⟨a,j*4,none⟩=some (.int .i64 (Ref.kindOf ns k))/\W.cell? ⟨a,j*4+1,none⟩=some (.string (Ref.textOf ns k)):=by
 obtain⟨j,x,n,m,c,d⟩:=Ref.oh h i;refine⟨j,n,λW hb=>?_⟩;obtain⟨v,f,g,_⟩:=l.rd.node j x m;rw[c,d];exact⟨zi hb f,zi hb g⟩
theorem xm.res{w a:World}{c:Nat}{d b:Array Value}{sh pt:Bool}(h:xm w c d b sh pt a) :
  (a.cell? ⟨w.heap.size,0,none⟩=some (.string ⟨#[]⟩)/\a.cell? ⟨w.heap.size,1,none⟩=some (.string ⟨#[]⟩)/\a.cell? ⟨w.heap.size,2,none⟩=some (.slice none 0 0)/\a.cell? ⟨w.heap.size,3,none⟩=some (.bool false)) /\
  (a.frozen? ⟨w.heap.size,0,none⟩=false/\a.frozen? ⟨w.heap.size,1,none⟩=false/\a.frozen? ⟨w.heap.size,2,none⟩=false/\a.frozen? ⟨w.heap.size,3,none⟩=false):=
 ⟨⟨(zg h.r 0).1,(zg h.r 1).1,(zg h.r 2).1,(zg h.r 3).1⟩,⟨(zg h.r 0).2,(zg h.r 1).2,(zg h.r 2).2,(zg h.r 3).2⟩⟩
theorem rW{w:World}{b:Nat}{j k l m:Value}(a c d e:Value)(f:w.cell? ⟨b,0,none⟩=some j)(g:w.cell? ⟨b,1,none⟩=some k)(h:w.cell? ⟨b,2,none⟩=some l)(i:w.cell? ⟨b,3,none⟩=some m) :
  ((((w.setCell ⟨b,0,none⟩ a).setCell ⟨b,1,none⟩ c).setCell ⟨b,2,none⟩ d).setCell ⟨b,3,none⟩ e).cell? ⟨b,0,none⟩=some a/\((((w.setCell ⟨b,0,none⟩ a).setCell ⟨b,1,none⟩ c).setCell ⟨b,2,none⟩ d).setCell ⟨b,3,none⟩ e).cell? ⟨b,1,none⟩=some c /\
  ((((w.setCell ⟨b,0,none⟩ a).setCell ⟨b,1,none⟩ c).setCell ⟨b,2,none⟩ d).setCell ⟨b,3,none⟩ e).cell? ⟨b,2,none⟩=some d/\((((w.setCell ⟨b,0,none⟩ a).setCell ⟨b,1,none⟩ c).setCell ⟨b,2,none⟩ d).setCell ⟨b,3,none⟩ e).cell? ⟨b,3,none⟩=some e:=by
 refine⟨?_,?_,?_,?_⟩
 ·rw[qH _ _ _ _ (by simp),qH _ _ _ _ (by simp),qH _ _ _ _ (by simp),uk _ _ _ f]
 ·rw[qH _ _ _ _ (by simp),qH _ _ _ _ (by simp)];exact uk _ _ _ ((qH _ _ _ _ (by simp)).trans g)
 ·rw[qH _ _ _ _ (by simp)];exact uk _ _ _ ((qH _ _ _ _ (by simp)).trans ((qH _ _ _ _ (by simp)).trans h))
 ·exact uk _ _ _ ((qH _ _ _ _ (by simp)).trans ((qH _ _ _ _ (by simp)).trans ((qH _ _ _ _ (by simp)).trans i)))
theorem Cc(i:Nat)(w0:World)(base b gg cap:Nat)(ns:List Ref.Node)(n:Ref.Node)(B:Nat)(sh pt:Bool)(w:World)(l:vv w0 base b gg cap ns w)(hi:ns[i]?=some n)(e6:w0.heap.size<=B)(hf:qd w B sh pt)
  (c:Ref.zq n Ref.bOp<0\/Ref.zq n Ref.zD<0\/Ref.kindOf ns (Ref.zq n Ref.bOp)≠3\/Ref.kindOf ns (Ref.zq n Ref.zD)≠3) :
  Calls prog 212 #[.pointer (some ⟨b,0,none⟩),.int .i64 (i:Int),.pointer (some ⟨B,0,none⟩)] w (Jl w B sh pt Ref.yf):=by
 have Z:B<w.heap.size:=zy hf;obtain⟨⟨v1,v2⟩,⟨na,nc,a7⟩,⟨ka,kc,a8⟩,m,A,cO⟩:=JV l hi;simp only at a7 a8;subst a7;subst a8;have e7:i<ns.length:=(zR.1 hi).1;have K:=l.at.slice;have hlen:=l.rd.len;have M:=Ref.jC l.rd.ev hi Ref.bOp;have L:=Ref.jC l.rd.ev hi Ref.zD;have nB:=Ref.jC l.rd.ev hi Ref.bNo;have vB:=Ref.jC l.rd.ev hi Ref.zB;obtain⟨a1,a2,a3,a4⟩:=m w l.bel;simp only at a3 a4;obtain⟨R,I⟩:=Nm ns.length;have C:=hid I;rw[I] at K e7 hlen M L nB vB;unfold ZR at A cO;simp only at A cO;obtain⟨kind,d⟩:∃k,n.kind=k:=⟨_,rfl⟩;obtain⟨text,f⟩:∃k,n.text=k:=⟨_,rfl⟩;obtain⟨nn,J⟩:∃k,n.names.length=k:=⟨_,rfl⟩;obtain⟨nk,H⟩:∃k,n.kids.length=k:=⟨_,rfl⟩;rw[d] at a1;rw[f] at a2;rw[J] at a3;rw[H] at a4;simp only[d,f,J,H] at A cO;have ST:=xm.start hf #[.int .i64 kind,.string text,.slice na nn nc,.slice ka nk kc] #[.string ⟨#[]⟩,.string ⟨#[]⟩,.slice none 0 0,.bool false];have z:∀wx,xm w B #[.int .i64 kind,.string text,.slice na nn nc,.slice ka nk kc] #[.string ⟨#[]⟩,.string ⟨#[]⟩,.slice none 0 0,.bool false] sh pt wx->Below w0.heap.size w0 wx:=λwx h=>(l.grown h.g e6).bel;obtain⟨OP,y⟩:∃x,Ref.zq n Ref.bOp=x:=⟨_,rfl⟩;obtain⟨p,j⟩:∃x,Ref.zq n Ref.zD=x:=⟨_,rfl⟩;obtain⟨NO,F⟩:∃x,Ref.zq n Ref.bNo=x:=⟨_,rfl⟩;obtain⟨VA,G⟩:∃x,Ref.zq n Ref.zB=x:=⟨_,rfl⟩;have r:=λW h=>A W Ref.bOp h;have s:=λW h=>A W Ref.zD h;have t:=λW h=>A W Ref.bNo h;have u:=λW h=>A W Ref.zB h;simp only[y] at r;simp only[j] at s;simp only[F] at t;simp only[G] at u;unfold Ref.bOp at r;unfold Ref.zD at s;unfold Ref.bNo at t;unfold Ref.zB at u;rw[y] at M;rw[j] at L;rw[F] at nB;rw[G] at vB;rw[y,j] at c;have HE:=hid l;have a:=hid z;have i0:(0:Int)<=(i:Int):=zZ _;have i1:(i:Int)<(R:Int):=by omega
 clear l A hf m y j F G d f J H z cO I nB vB;have s1:=λO:Obj=>zi (nbl w O) K;have b1:=λO:Obj=>zi (nbl w O) a1;have b2:=λO:Obj=>zi (nbl w O) a2;have b3:=λO:Obj=>zi (nbl w O) a3;have b4:=λO:Obj=>zi (nbl w O) a4;go_enter func212,ntmps212
 go_upto_region 8 with (first
  | (go_at_call 126;refine (u w3 (a.out w3 C3)).mono ?_;rintro e w4 ⟨rfl,Y⟩;have C4:=C3.below Y)
  | (go_at_call 126;refine (t w2 (a.out w2 C2)).mono ?_;rintro e w3 ⟨rfl,X⟩;have C3:=C2.below X;obtain⟨⟨f7,f8,f9,g0⟩,_,_,_⟩:=C3.cells)
  | (go_at_call 126;refine (s w1 (a.out w1 C1)).mono ?_;rintro e w2 ⟨rfl,V⟩;have C2:=C1.below V;obtain⟨⟨f3,f4,f5,f6⟩,_,_,_⟩:=C2.cells)
  | (go_at_call 126;refine (r _ (a.out _ ST)).mono ?_;rintro e w1 ⟨rfl,U⟩;have C1:=ST.below U;obtain⟨⟨e9,f0,f1,f2⟩,_,_,_⟩:=C1.cells))
 have S:=C4.below (nbl w4 (.cells #[.string ⟨#[111,112]⟩,.string ⟨#[107,101,121]⟩,.string ⟨#[110,111]⟩,.string ⟨#[118,97,108,117,101]⟩] 9));obtain⟨w5,a9⟩:∃x,w4.alloc (.cells #[.string ⟨#[111,112]⟩,.string ⟨#[107,101,121]⟩,.string ⟨#[110,111]⟩,.string ⟨#[118,97,108,117,101]⟩] 9)=x:=⟨_,rfl⟩;rw[a9] at S |-;obtain⟨g4,a0⟩:∃x,w4.heap.size=x:=⟨_,rfl⟩;rw[a0];have q:=a.out w5 S
 have b0:w5.cell? ⟨b,2,none⟩=some (.slice (some ⟨gg,0,none⟩) R cap):=by
  have:=(HE.out.rd.below q).slice
  rwa [C.out] at this
 clear e9 f0 f1 f2 f3 f4 f5 f6 f7 f8 f9 g0 s1 b1 b2 b3 b4 a1 a2 a3 a4 K i0 i1 U V X Y C1 C2 C3 C4 ST r s t u a9 a0;obtain⟨_,⟨c0,c1,c2,c3⟩,_,⟨h0,_,h2,_⟩⟩:=S.cells;have E5:=S.shape Z true;obtain⟨⟨t0,t1,t2,t3⟩,⟨z0,z1,z2,z3⟩⟩:=E5.res;obtain⟨_,⟨y0,y1,y2,y3⟩,_,_⟩:=E5.cells;obtain⟨e0,N,P,e3⟩:=rW (.string ⟨#[]⟩) (.string ⟨#[]⟩) (.slice none 0 0) (.bool false) t0 t1 t2 t3;have o:=E5.fin Z (.string ⟨#[]⟩) (.string ⟨#[]⟩) (.slice none 0 0) (.bool false)
 have FF:Hid (Jl w B sh pt Ref.yf (.returned (.agg #[.string ⟨#[]⟩,.string ⟨#[]⟩,.slice none 0 0,.bool false])) (((((w5.setCell ⟨B,0,none⟩ (.bool true)).setCell ⟨w.heap.size,0,none⟩ (.string ⟨#[]⟩)).setCell ⟨w.heap.size,1,none⟩ (.string ⟨#[]⟩)).setCell ⟨w.heap.size,2,none⟩ (.slice none 0 0)).setCell ⟨w.heap.size,3,none⟩ (.bool false))):=by
  refine⟨_,rfl,o.1,?_,qD _ _ _ _⟩;have N:(sh||Ref.yf.sh)=true:=by show (sh||true)=true;simp
  have P:(pt||Ref.yf.pt)=pt:=by show (pt||false)=pt;simp
  rw[N,P];exact o.2
 clear o E5 S
 by_cases o1:OP<0
 ·have d1:decide (OP<0)=true:=zC o1;clear c M L o1 b0
  go_wp2
  exact zN (v := .agg #[.string ⟨#[]⟩,.string ⟨#[]⟩,.slice none 0 0,.bool false]) (by simp[results,results212,go_sem,e0,N,P,e3]) rfl FF.out
 have d1:decide (OP<0)=false:=zO o1
 by_cases o2:p<0
 ·have d2:decide (p<0)=true:=zC o2;clear c M L o1 o2 b0
  go_wp2
  exact zN (v := .agg #[.string ⟨#[]⟩,.string ⟨#[]⟩,.slice none 0 0,.bool false]) (by simp[results,results212,go_sem,e0,N,P,e3]) rfl FF.out
 have d2:decide (p<0)=false:=zO o2;obtain⟨Q,rfl,a6⟩:=Yf HE.out OP (by omega) (by rw[C.out];exact M.2);obtain⟨jk,rfl,a5⟩:=Yf HE.out p (by omega) (by rw[C.out];exact L.2);have j1:(0:Int)<=(Q:Int):=zZ _;have j2:(Q:Int)<(R:Int):=M.2;have i9:(0:Int)<=(jk:Int):=zZ _;have j0:(jk:Int)<(R:Int):=L.2
 have T:Ref.kindOf ns (Q:Int)≠3\/(Ref.kindOf ns (Q:Int)=3/\Ref.kindOf ns (jk:Int)≠3):=by
  rcases c with h|h|h|h
  ·omega
  ·omega
  ·exact .inl h
  ·by_cases e:Ref.kindOf ns (Q:Int)=3
   ·exact .inr ⟨e,h⟩
   ·exact .inl e
 obtain⟨m1,_⟩:=a6 w5 q;obtain⟨m3,_⟩:=a5 w5 q;obtain⟨KO,E⟩:∃x,Ref.kindOf ns (Q:Int)=x:=⟨_,rfl⟩;obtain⟨KK,D⟩:∃x,Ref.kindOf ns (jk:Int)=x:=⟨_,rfl⟩;rw[E,D] at T;rw[E] at m1;rw[D] at m3;clear a6 a5 E D c M L o1 o2 q
 rcases T with o3|⟨o3,o4⟩
 ·have d3:(KO != 3)=true:=by simp[o3]
  clear o3
  go_wp2
  exact zN (v := .agg #[.string ⟨#[]⟩,.string ⟨#[]⟩,.slice none 0 0,.bool false]) (by simp[results,results212,go_sem,e0,N,P,e3]) rfl FF.out
 ·subst o3;have d4:(KK != 3)=true:=by simp[o4]
  clear o4
  go_wp2
  exact zN (v := .agg #[.string ⟨#[]⟩,.string ⟨#[]⟩,.slice none 0 0,.bool false]) (by simp[results,results212,go_sem,e0,N,P,e3]) rfl FF.out
end Go.Proofs.YtagnlbgbnfnapaaGreatDoor
