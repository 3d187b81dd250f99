/- P -/
import Derived.Test.YtfjpcldndaiifaaGreatDoorA13
open Go.Proofs.Tryz
set_option maxRecDepth 100000
set_option maxHeartbeats 2000000
namespace Go.Proofs.YtfjpcldndaiifaaGreatDoor
open Go.RowKit
def QD(w:J)(base:Nat)(xs:List Y)(j:Nat)(s:zS):Prop:=
 ∃a b c d,xs[j*8]?=some (S9 s.eff)/\xs[j*8+1]?=some (.bool s.who.1)/\xs[j*8+2]?=some a/\xs[j*8+3]?=some (.bool s.act.1)/\xs[j*8+4]?=some b/\xs[j*8+5]?=some (.bool s.on.1)/\xs[j*8+6]?=some c/\xs[j*8+7]?=some d /\
  zJ w base a s.who.2/\zJ w base b s.act.2/\zJ w base c s.on.2/\xB w base d s.ifs
theorem QD.below{w w':J}{base:Nat}{xs:List Y}{j:Nat}{s:zS}(h:QD w base xs j s)(a:BQ w w'):QD w' base xs j s:=by
 obtain⟨p,q,r,t,f,g,i,k,l,m,n,o,b,c,d,e⟩:=h;exact⟨p,q,r,t,f,g,i,k,l,m,n,o,b.below a,c.below a,d.below a,e.below a⟩
theorem QD.set{w:J}{base:Nat}{xs:List Y}{j:Nat}{s:zS}(h:QD w base xs j s){b:Nat}(a:b<base)(o:Nat)(u:Y):QD (w.setCell (G8 b o) u) base xs j s:=by
 obtain⟨r,t,v,x,g,i,k,l,m,n,p,q,c,d,e,f⟩:=h;exact⟨r,t,v,x,g,i,k,l,m,n,p,q,qa c a o u,qa d a o u,qa e a o u,f.set a o u⟩
theorem QD.mono{w:J}{base a:Nat}{xs:List Y}{j:Nat}{s:zS}(h:QD w base xs j s)(b:a<=base):QD w a xs j s:=by
 obtain⟨q,r,t,u,g,i,k,l,m,n,o,p,c,d,e,f⟩:=h;exact⟨q,r,t,u,g,i,k,l,m,n,o,p,c.mono b,d.mono b,e.mono b,f.mono b⟩
def jl(w:J)(base:Nat)(c:Y)(a:List zS):Prop:=
 ∃b,w.ownsRow base 140 8 c a.length b/\∀j,(h:j<a.length)->QD w base b j a[j]
def GN(g:Nat)(k:Array Y)(i:Nat->Y)(n:Nat)(cs:Nat->zS)(c:Nat->Nat)(w:J):Prop:=
 ∀W j,j<n->BQ w W->R8 g (#[i j]++k) W λe a=>
  ∃b d f h u,e=.returned (.tuple #[.agg #[S9 (cs j).eff,.bool (cs j).who.1,b,.bool (cs j).act.1,d,.bool (cs j).on.1,f,h],u])/\FV (c j) u/\BQ W a /\
   zJ a W.heap.size b (cs j).who.2/\zJ a W.heap.size d (cs j).act.2/\zJ a W.heap.size f (cs j).on.2/\xB a W.heap.size h (cs j).ifs
def GJ(w:J)(n:Nat)(cs:Nat->zS)(c:Nat->Nat)(e:Ending)(w':J):Prop:=
 ∃(d b:Option Addr) (f g:Nat) (a:List Y),e=.returned (.tuple #[TL d n f,TL b n g])/\a.length=n/\vV w' b a/\FVs ((List.range n).map c) a/\BQ w w' /\
  jl w' w.heap.size (TL d n f) ((List.range n).map cs)
theorem Ti:(prog.info? 140).map (λi=>(i.zero,i.size,i.bytes))=some (some (.agg #[R5,T9,R4,T9,R4,T9,R4,R4]),8,136):=by kernel_rfl
theorem Ec{w:J}{base:Nat}{e:TypeId}{v:Y}{n:Nat}{xs:List Y}(h:w.ownsRow base e 8 v n xs){b:Nat}(c:v.ownBlock≠some b)(o:Nat)(u:Y):(w.setCell (G8 b o) u).ownsRow base e 8 v n xs:=
 xz h (a:=G8 b o) c u
theorem OQ(K:List Y)(ao:Option Addr)(cap g:Nat)(lb:Array Y)(cs:Nat->zS)(c:Nat->Nat)(w:J)(hn:K.length<=1000)(eg:L9 g)
  (hm:vV w ao K)(c8:∀u ∈ K,u=.nilIface\/∃T x,u=.iface T x)(hp:GN g lb (λj=>K.getD j .nilIface) K.length cs c w):R8 60 #[TL ao K.length cap,.func (.func g) #[] lb] w (GJ w K.length cs c):=by
 obtain⟨i0,hi,g5,g6,g7⟩:=qU Ti;obtain⟨i1,hj,f8,f9,g0⟩:=qU (show (prog.info? 82).map (λi=>(i.zero,i.size,i.bytes))=some (some .nilIface,1,16) by kernel_rfl);obtain⟨n,b6⟩:=Nm K.length;rw[b6]at hn hp |-;have⟨HM,f2,HP,f3⟩:=M5 hm c8 hp b6;clear hm c8 hp b6;go_enter func60,ntmps60;go_wp2_with (at_make;refine JH _ rfl _ _ 78 rfl w.heap.size 140 i0 (.agg #[R5,T9,R4,T9,R4,T9,R4,R4]) 8 underlying78 hi g5 g6 _ _ _ _ n rfl rfl ?_ ?_ ?_ ?_ ?_ ?_)
 ·omega
 ·omega
 ·rw[g7];omega
 ·unfold maxLen;omega
 ·omega
 intro w1 I L;obtain⟨zs,e1⟩:=Nm ((madeCells #[R5,T9,R4,T9,R4,T9,R4,R4] (n*8)).toList);rw[e1]at I;have H:BQ w w1:=(zf _ w).grown L F7 (λk hk=>by cases hk);clear e1;go_wp2_with (at_make;refine JH _ rfl _ _ 133 rfl w.heap.size 82 i1 .nilIface 1 underlying133 hj f8 f9 _ _ _ _ n rfl rfl ?_ ?_ ?_ ?_ ?_ ?_)
 ·omega
 ·omega
 ·rw[g0];omega
 ·unfold maxLen;omega
 ·have:=H.size;omega
 intro w2 b1 F
 have W:w2.ownsRow w.heap.size 82 1 (TL (some (G8 w1.heap.size 0)) n n) n (List.replicate n .nilIface):=by
  rw[<- UG];exact b1
 have b0:=I.kept F (.inr (by simp[Value.ownBlock]));have c9:w.heap.size<w1.heap.size:=(I.lt _ rfl).2;have a8:BQ w w2:=H.grown F H.size (λk hk=>by cases hk);have R:w1.heap.size<w2.heap.size:=(W.lt _ rfl).2;obtain⟨s,c6⟩:=Nm w1.heap.size;rw[c6]at W c9 R |-;have d9:w.heap.size≠s:=by omega
 have⟨c3,c4,c0,c1⟩:=M5 b0 W a8 R;clear b1 F L I H b0 W a8 c6 R;go_wp2_with fail
 go_loopw [18] (λiv wr=>∃(k:Nat) (xs ys:List Y),k<=n/\iv=R9 k/\kU c n k ys/\wr.ownsRow w.heap.size 140 8 (TL (some (G8 w.heap.size 0)) n n) n xs/\wr.ownsRow w.heap.size 82 1 (TL (some (G8 s 0)) n n) n ys/\BQ w wr/\s<wr.heap.size/\(∀j,j<k->QD wr (s+1) xs j (cs j))) (λiv _=>n-(intOf iv).toNat)
 case atStart=>exact⟨0,_,_,zD _,rfl,kU.start c n,c3.o,c4.o,c0.o,c1.o,λj hj=>by omega⟩
 case round=>
  obtain⟨k,xs,ys,hk,rfl,e0,ro,re,rb,o2,rc⟩:=hrel;clear c3 c4 c0 c1;have⟨RO,RE,RB,V,RC⟩:=M6 ro re rb e0 rc;clear ro re rb e0 rc
  by_cases hlt:k<n
  ·have Q:k<K.length:=by rw[f3.o];exact hlt
   have c7:K.getD k .nilIface=K[k]:=by rw[zT,zn Q];rfl
   have S:=HP.o wr k hlt RB.o;have hv:=f2.o K[k] (qm Q)
   rcases HM.o with hnil|⟨b,o,hao,hc⟩
   ·rw[hnil]at Q;simp at Q
   subst hao;have q:=zi RB.o (hc k Q);simp only[c7]at S;obtain⟨u,hu⟩:=Nm (K[k]);rw[hu]at q S hv;obtain⟨f,G⟩:=Nm ((cs k).eff);obtain⟨m,M⟩:=Nm ((cs k).who.1);obtain⟨p,N⟩:=Nm ((cs k).act.1);obtain⟨r,O⟩:=Nm ((cs k).on.1);rw[G,M,N,O]at S;have⟨e8,e9,f0,f1⟩:=M5 G M N O;clear hu hc c7 G M N O;have b7:xs.length=n*8:=RO.o.1;have c2:=G7 b7;clear b7
   have cells:G6 (∀d,BQ wr d->(∃v,d.cell? (G8 w.heap.size (k*8))=some v)/\(∃v,d.cell? (G8 w.heap.size (k*8+1))=some v)/\(∃v,d.cell? (G8 w.heap.size (k*8+2))=some v)/\(∃v,d.cell? (G8 w.heap.size (k*8+3))=some v)/\(∃v,d.cell? (G8 w.heap.size (k*8+4))=some v)/\(∃v,d.cell? (G8 w.heap.size (k*8+5))=some v)/\(∃v,d.cell? (G8 w.heap.size (k*8+6))=some v)/\(∃v,d.cell? (G8 w.heap.size (k*8+7))=some v)/\d.frozen? (G8 w.heap.size (k*8))=false/\d.frozen? (G8 w.heap.size (k*8+1))=false/\d.frozen? (G8 w.heap.size (k*8+2))=false/\d.frozen? (G8 w.heap.size (k*8+3))=false/\d.frozen? (G8 w.heap.size (k*8+4))=false/\d.frozen? (G8 w.heap.size (k*8+5))=false/\d.frozen? (G8 w.heap.size (k*8+6))=false/\d.frozen? (G8 w.heap.size (k*8+7))=false/\d.cell? (G8 s k)=some .nilIface/\d.frozen? (G8 s k)=false):=by
    intro d h;have t:=ownsRow_below RO.o h;have e3:=ownsRow_below RE.o h;have hx:=c2.o
    exact⟨⟨_,(t.cellAt _ (by omega)).trans (P7)⟩,⟨_,(t.cellAt _ (by omega)).trans (P7)⟩,⟨_,(t.cellAt _ (by omega)).trans (P7)⟩,⟨_,(t.cellAt _ (by omega)).trans (P7)⟩,⟨_,(t.cellAt _ (by omega)).trans (P7)⟩,⟨_,(t.cellAt _ (by omega)).trans (P7)⟩,⟨_,(t.cellAt _ (by omega)).trans (P7)⟩,⟨_,(t.cellAt _ (by omega)).trans (P7)⟩,
     t.frozenAt _,t.frozenAt _,t.frozenAt _,t.frozenAt _,t.frozenAt _,t.frozenAt _,t.frozenAt _,t.frozenAt _,(e3.cellAt k (by omega)).trans (V.o.2.2 k F7 hlt),e3.frozenAt k⟩
   have fin:G6 (∀d B C D E x,BQ wr d->FV (c k) x->zJ d wr.heap.size B (cs k).who.2->zJ d wr.heap.size C (cs k).act.2->zJ d wr.heap.size D (cs k).on.2->xB d wr.heap.size E (cs k).ifs ->
     kU c n (k+1) (ys.set k x) /\
     (((((((((d.setCell (G8 w.heap.size (k*8)) (S9 f)).setCell (G8 w.heap.size (k*8+1)) (.bool m)).setCell (G8 w.heap.size (k*8+2)) B).setCell (G8 w.heap.size (k*8+3)) (.bool p)).setCell (G8 w.heap.size (k*8+4)) C).setCell (G8 w.heap.size (k*8+5)) (.bool r)).setCell (G8 w.heap.size (k*8+6)) D).setCell (G8 w.heap.size (k*8+7)) E).setCell (G8 s k) x).ownsRow w.heap.size 140 8 (TL (some (G8 w.heap.size 0)) n n) n ((((((((xs.set (k*8) (S9 f)).set (k*8+1) (.bool m)).set (k*8+2) B).set (k*8+3) (.bool p)).set (k*8+4) C).set (k*8+5) (.bool r)).set (k*8+6) D).set (k*8+7) E) /\
     (((((((((d.setCell (G8 w.heap.size (k*8)) (S9 f)).setCell (G8 w.heap.size (k*8+1)) (.bool m)).setCell (G8 w.heap.size (k*8+2)) B).setCell (G8 w.heap.size (k*8+3)) (.bool p)).setCell (G8 w.heap.size (k*8+4)) C).setCell (G8 w.heap.size (k*8+5)) (.bool r)).setCell (G8 w.heap.size (k*8+6)) D).setCell (G8 w.heap.size (k*8+7)) E).setCell (G8 s k) x).ownsRow w.heap.size 82 1 (TL (some (G8 s 0)) n n) n (ys.set k x) /\
     BQ w (((((((((d.setCell (G8 w.heap.size (k*8)) (S9 f)).setCell (G8 w.heap.size (k*8+1)) (.bool m)).setCell (G8 w.heap.size (k*8+2)) B).setCell (G8 w.heap.size (k*8+3)) (.bool p)).setCell (G8 w.heap.size (k*8+4)) C).setCell (G8 w.heap.size (k*8+5)) (.bool r)).setCell (G8 w.heap.size (k*8+6)) D).setCell (G8 w.heap.size (k*8+7)) E).setCell (G8 s k) x) /\
     s<(((((((((d.setCell (G8 w.heap.size (k*8)) (S9 f)).setCell (G8 w.heap.size (k*8+1)) (.bool m)).setCell (G8 w.heap.size (k*8+2)) B).setCell (G8 w.heap.size (k*8+3)) (.bool p)).setCell (G8 w.heap.size (k*8+4)) C).setCell (G8 w.heap.size (k*8+5)) (.bool r)).setCell (G8 w.heap.size (k*8+6)) D).setCell (G8 w.heap.size (k*8+7)) E).setCell (G8 s k) x).heap.size /\
     (∀j,j<k+1->QD (((((((((d.setCell (G8 w.heap.size (k*8)) (S9 f)).setCell (G8 w.heap.size (k*8+1)) (.bool m)).setCell (G8 w.heap.size (k*8+2)) B).setCell (G8 w.heap.size (k*8+3)) (.bool p)).setCell (G8 w.heap.size (k*8+4)) C).setCell (G8 w.heap.size (k*8+5)) (.bool r)).setCell (G8 w.heap.size (k*8+6)) D).setCell (G8 w.heap.size (k*8+7)) E).setCell (G8 s k) x) (s+1) ((((((((xs.set (k*8) (S9 f)).set (k*8+1) (.bool m)).set (k*8+2) B).set (k*8+3) (.bool p)).set (k*8+4) C).set (k*8+5) (.bool r)).set (k*8+6) D).set (k*8+7) E) j (cs j))):=by
    intro d B C D E x h hx g1 g2 g3 g4;have t:=ownsRow_below RO.o h;have e3:=ownsRow_below RE.o h;have o4:=((((((((t.stored (k*8) (S9 f)).1.stored (k*8+1) (.bool m)).1.stored (k*8+2) B).1.stored (k*8+3) (.bool p)).1.stored (k*8+4) C).1.stored (k*8+5) (.bool r)).1.stored (k*8+6) D).1.stored (k*8+7) E).1;have A:(Value.slice (some (G8 s 0)) n n).ownBlock≠some w.heap.size:=by simp only[Value.ownBlock];intro e;simp only[Option.some.injEq]at e;exact d9 e.symm
    have e4:=(xz (xz (xz (xz (xz (xz (xz (xz e3 (a:=(G8 w.heap.size (k*8))) A (S9 f)) (a:=(G8 w.heap.size (k*8+1))) A (.bool m)) (a:=(G8 w.heap.size (k*8+2))) A B) (a:=(G8 w.heap.size (k*8+3))) A (.bool p)) (a:=(G8 w.heap.size (k*8+4))) A C) (a:=(G8 w.heap.size (k*8+5))) A (.bool r)) (a:=(G8 w.heap.size (k*8+6))) A D) (a:=(G8 w.heap.size (k*8+7))) A E);have hz:=h.size;have b7:=c2.o;refine⟨V.o.set hlt hx,Ec o4 (by simp only[Value.ownBlock];intro e;simp only[Option.some.injEq]at e;exact d9 e) _ _,(e4.stored k x).1,(((((((((RB.o.trans (h.mono RB.o.size)).setCell F7 _).setCell F7 _).setCell F7 _).setCell F7 _).setCell F7 _).setCell F7 _).setCell F7 _).setCell F7 _).setCell (by show w.heap.size<=s;omega) _,by simp[World.setCell];omega,λj hj=>?_⟩
    by_cases hjk:j=k
    ·subst hjk;refine⟨B,C,D,E,?_,?_,?_,?_,?_,?_,?_,?_,(qa (qa (qa (qa (qa (qa (qa (qa (qa (zJ.mono g1 (by omega)) (by omega) _ _) (by omega) _ _) (by omega) _ _) (by omega) _ _) (by omega) _ _) (by omega) _ _) (by omega) _ _) (by omega) _ _) (by omega) _ _),(qa (qa (qa (qa (qa (qa (qa (qa (qa (zJ.mono g2 (by omega)) (by omega) _ _) (by omega) _ _) (by omega) _ _) (by omega) _ _) (by omega) _ _) (by omega) _ _) (by omega) _ _) (by omega) _ _) (by omega) _ _),(qa (qa (qa (qa (qa (qa (qa (qa (qa (zJ.mono g3 (by omega)) (by omega) _ _) (by omega) _ _) (by omega) _ _) (by omega) _ _) (by omega) _ _) (by omega) _ _) (by omega) _ _) (by omega) _ _) (by omega) _ _),((((((((((g4.mono (by omega)).set (by omega) _ _).set (by omega) _ _).set (by omega) _ _).set (by omega) _ _).set (by omega) _ _).set (by omega) _ _).set (by omega) _ _).set (by omega) _ _).set (by omega) _ _)⟩
     ·simp[List.getElem?_set,e8.o];omega
     ·simp[List.getElem?_set,e9.o];omega
     ·simp[List.getElem?_set];omega
     ·simp[List.getElem?_set,f0.o];omega
     ·simp[List.getElem?_set];omega
     ·simp[List.getElem?_set,f1.o];omega
     ·simp[List.getElem?_set];omega
     simp[List.getElem?_set];omega
    have f5:=(((((((((((RC.o j (by omega)).below h).set (b:=w.heap.size) (by omega) (k*8) (S9 f)).set (b:=w.heap.size) (by omega) (k*8+1) (.bool m)).set (b:=w.heap.size) (by omega) (k*8+2) B).set (b:=w.heap.size) (by omega) (k*8+3) (.bool p)).set (b:=w.heap.size) (by omega) (k*8+4) C).set (b:=w.heap.size) (by omega) (k*8+5) (.bool r)).set (b:=w.heap.size) (by omega) (k*8+6) D).set (b:=w.heap.size) (by omega) (k*8+7) E).set (b:=s) (by omega) k x);obtain⟨m1,m2,m3,mc,h0,h1,h2,h3,h4,h5,h6,h7,n1,n2,n3,n4⟩:=f5;refine⟨m1,m2,m3,mc,?_,?_,?_,?_,?_,?_,?_,?_,n1,n2,n3,n4⟩
    ·rw[zu,N8,zu,N8,zu,N8,zu,N8,zu,N8,zu,N8,zu,N8,zu,N8];exact h0
    ·rw[zu,N8,zu,N8,zu,N8,zu,N8,zu,N8,zu,N8,zu,N8,zu,N8];exact h1
    ·rw[zu,N8,zu,N8,zu,N8,zu,N8,zu,N8,zu,N8,zu,N8,zu,N8];exact h2
    ·rw[zu,N8,zu,N8,zu,N8,zu,N8,zu,N8,zu,N8,zu,N8,zu,N8];exact h3
    ·rw[zu,N8,zu,N8,zu,N8,zu,N8,zu,N8,zu,N8,zu,N8,zu,N8];exact h4
    ·rw[zu,N8,zu,N8,zu,N8,zu,N8,zu,N8,zu,N8,zu,N8,zu,N8];exact h5
    ·rw[zu,N8,zu,N8,zu,N8,zu,N8,zu,N8,zu,N8,zu,N8,zu,N8];exact h6
    rw[zu,N8,zu,N8,zu,N8,zu,N8,zu,N8,zu,N8,zu,N8,zu,N8];exact h7
   rcases hv with rfl|⟨T,y,rfl⟩
   ·go_wp2_with(go_at_fn g;apply S.mono;rintro e d⟨B,C,D,E,x,rfl,P,h,g1,g2,g3,g4⟩;obtain⟨⟨v,d0⟩,⟨a1,d1⟩,⟨a2,d2⟩,⟨a3,d3⟩,⟨a4,d4⟩,⟨a5,d5⟩,⟨a6,d6⟩,⟨a7,d7⟩,z0,z1,z2,z3,z4,z5,z6,z7,d8,z8⟩:=cells.o d h;have l:=G7 (fin.o d B C D E x h P g1 g2 g3 g4);obtain⟨g9,i3,rfl⟩:=xe g1;obtain⟨h8,i4,rfl⟩:=xe g2;obtain⟨h9,i5,rfl⟩:=xe g3;obtain⟨i2,i6,rfl⟩:=g4.slice;rcases P.form with rfl|⟨T,z,rfl⟩)
    all_goals
     go_roundw
     case rel=>exact⟨k+1,_,_,by omega,by go_num,l.o.1,l.o.2.1,l.o.2.2.1,l.o.2.2.2.1,l.o.2.2.2.2.1,l.o.2.2.2.2.2⟩
     case measure=>simp[intOf];omega
   go_wp2_with(go_at_fn g;apply S.mono;rintro e d⟨B,C,D,E,x,rfl,P,h,g1,g2,g3,g4⟩;obtain⟨⟨v,d0⟩,⟨a1,d1⟩,⟨a2,d2⟩,⟨a3,d3⟩,⟨a4,d4⟩,⟨a5,d5⟩,⟨a6,d6⟩,⟨a7,d7⟩,z0,z1,z2,z3,z4,z5,z6,z7,d8,z8⟩:=cells.o d h;have l:=G7 (fin.o d B C D E x h P g1 g2 g3 g4);obtain⟨g9,i3,rfl⟩:=xe g1;obtain⟨h8,i4,rfl⟩:=xe g2;obtain⟨h9,i5,rfl⟩:=xe g3;obtain⟨i2,i6,rfl⟩:=g4.slice;rcases P.form with rfl|⟨T,z,rfl⟩)
   all_goals
    go_roundw
    case rel=>exact⟨k+1,_,_,by omega,by go_num,l.o.1,l.o.2.1,l.o.2.2.1,l.o.2.2.2.1,l.o.2.2.2.2.1,l.o.2.2.2.2.2⟩
    case measure=>simp[intOf];omega
  have f6:k=n:=by omega
  subst f6;have hE:=V.o.done;have hl:=V.o.1;go_wp2;go_ret2;refine⟨_,_,_,_,ys,rfl,hl,?_,hE,RB.o,xs,?_,?_⟩
  ·exact .inr ⟨s,0,rfl,λj hj=>by rw[qV];exact(RE.o.cellAt j (by omega)).trans (zn hj)⟩
  ·rw[qf,XT];exact RO.o
  intro j hj;rw[qf,XT]at hj;rw[VI,rC];exact(RC.o j hj).mono (by omega)
inductive XL (EL:Y):Int->Nat->Y->Prop
 | ok:XL EL 0 0 .nilIface
 | long:XL EL 1 0 EL
 | text (c:Int) (q:Nat):Z.Code c->XL EL c q (Qn c q)
 | doc (p:BY):XL EL 5 0 (.iface 132 (.agg #[S9 p]))
 | shape (n:Nat) (p:BY):XL EL 5 n (.iface 146 (.agg #[R9 (n:Int),.iface 132 (.agg #[S9 p])]))
 | pat (n:Nat) (k:Int):XL EL 6 n (.iface 146 (.agg #[R9 (n:Int),.iface 188 (.agg #[R9 k])]))
def Yr(w:J)(EL:Y)(a:Int×Nat)(d:List zS)(e:Ending)(w':J):Prop:=
 ∃b n c u,e=.returned (.tuple #[.agg #[TL b n c],u])/\XL EL a.1 a.2 u/\BQ w w'/\(a.1=0->jl w' w.heap.size (TL b n c) d)
structure Yz (w:J) (EL:Y):Prop where
 p:yF w
 seq:qO w
 long:w.cell? (G8 0 0)=some EL
theorem Yz.below{w w':J}{EL:Y}(h:Yz w EL)(a:BQ w w'):Yz w' EL:=⟨h.p.below a,h.seq.same (a.block _ h.seq.lt),zi a h.long⟩
def QX:Obj := L8 #[R4] 80
theorem OT(b:List Z.V)(a:List Y)(ao:Option Addr)(cap:Nat)(w:J)(x:yF w)(o:a.length=b.length)(A:a.length<=1000)
  (z:vV w ao a)(C:∀(j:Nat) (v:Z.V) (u:Y),b[j]?=some v->a[j]?=some u->OAt w (some v) u)(y:∀v ∈ b,Z.Good 4000 v):R8 60 #[TL ao a.length cap,.func (.func 61) #[] #[]] w λe m=>
   ∃(k g:Option Addr) (l n:Nat) (f:List Y),e=.returned (.tuple #[TL k a.length l,TL g a.length n])/\f.length=a.length/\vV m g f/\FVs (b.map Z.jd) f/\BQ w m/\jl m w.heap.size (TL k a.length l) (b.map vP):=by
 have d:∀j,(h:j<a.length)->OAt w (some (b.getD j (.word false))) a[j]:=λj h=>by
  have c:j<b.length:=by omega
  rw[zT,zn c];exact C j _ _ (zn c) (zn h)
 refine(OQ a ao cap 61 #[] (λj=>vP (b.getD j (.word false))) (λj=>Z.jd (b.getD j (.word false))) w A (qo func61 (by kernel_rfl) rfl) z ?_ ?_).mono ?_
 ·intro u B;obtain⟨j,i,rfl⟩:=QB B;exact(d j i).form
 ·intro W j i r;have c:j<b.length:=by omega
  have:=zcR (b.getD j (.word false)) a[j] W (x.below r) ((d j i).below r) (y _ (by rw[zT,zn c];exact qm c))
  rw[show a[j]=a.getD j .nilIface by rw[zT,zn i];rfl]at this;exact this
 rintro e m⟨k,g,l,n,f,rfl,s,c,p,t,q⟩;refine⟨k,g,l,n,f,rfl,s,c,?_,t,?_⟩
 ·rw[o,Ux]at p;exact p
 rw[o,Ux]at q;rw[o];exact q
theorem one_cell{w W:J}{t:TypeId}{v:Y}(b:Below (w.alloc (L8 #[v] t)).heap.size (w.alloc (L8 #[v] t)) W):W.cell? (G8 w.heap.size 0)=some v/\W.frozen? (G8 w.heap.size 0)=false:=by
 have a:=jS b;exact⟨(zg a 0).1,(zg a 0).2⟩
theorem Ow(s:BY)(w:J)(EL:Y)(T:TypeId)(y:Y)(d:EL=.iface T y)(f:Yz w EL)(g:4000<s.size):R8 33 #[S9 s] w (Yr w EL (1,0) []):=by
 have a:=nbl w QX;have c:=zcT s (w.alloc QX) EL (f.below a).long g;subst d;unfold QX at a c;clear f g;go_enter func33,ntmps33;go_wp2_with(go_at_call 58;apply c.mono;rintro e j⟨rfl,b⟩;obtain⟨i,f0⟩:=one_cell b);exact zG (v := .tuple #[.agg #[R4],.iface T y]) (by simp[results,results33,go_sem,i]) rfl ⟨_,_,_,_,rfl,.long,(a.trans (b.mono (by simp))).setCell F7 _,λh=>by simp at h⟩
theorem Ou(s:BY)(w:J)(EL:Y)(c:Int)(q:Nat)(j:Yz w EL)(l:s.size<=4000)(i:Z.jB s.data.toList=.err c q):R8 33 #[S9 s] w (Yr w EL (c,q) []):=by
 have b:=nbl w QX;have d:=nT s (w.alloc QX) (j.below b).seq l;rw[i]at d;have a:=Z.dZ i;have m:=XL.text (EL:=EL) c q a;obtain⟨T,k⟩:=V7 c q;unfold XY at d;simp only at d;rw[k]at d m;have g:c≠0:=by rcases a with rfl|rfl|rfl<;>decide
 unfold QX at b d;clear j l i k a;go_enter func33,ntmps33;go_wp2_with(go_at_call 58;apply d.mono;rintro e o⟨rfl,f⟩;obtain⟨n,f0⟩:=one_cell f);exact zG (v := .tuple #[.agg #[R4],.iface T (.agg #[R9 (q:Int)])]) (by simp[results,results33,go_sem,n]) rfl ⟨_,_,_,_,rfl,m,(b.trans (f.mono (by simp))).setCell F7 _,λh=>absurd h g⟩
def Jy:Z.V->Nat
 | .obj a=>a.length
 | _=>0
def stX:Z.V->Option Z.V
 | .obj a=>Z.zm a Z.jF
 | _=>none
def qM:Option Z.V->List Z.V
 | some (.list vs)=>vs
 | _=>[]
theorem Ox(v:Z.V):Z.uO v=if Jy v≠1\/(qM (stX v)).length<1\/10<(qM (stX v)).length then (5,0) else Z.Qo ((qM (stX v)).map Z.yD) 0:=by
 match v with
 | .str s=>rfl
 | .word b=>rfl
 | .list a=>rfl
 | .obj c=>
  have key:∀X:Option Z.V,(match X with
    | some (.list a)=>if c.length≠1\/a.length<1\/10<a.length then ((5:Int),0) else Z.Qo (a.map Z.yD) 0
    | _=>(5,0))=if c.length≠1\/(qM X).length<1\/10<(qM X).length then (5,0) else Z.Qo ((qM X).map Z.yD) 0:=by
   intro X
   match X with
   | none=>simp[qM]
   | some (.str s)=>simp[qM]
   | some (.word b)=>simp[qM]
   | some (.obj m)=>simp[qM]
   | some (.list a)=>rfl
  exact key _
theorem DJ{w:J}{v:Z.V}{u:Y}(h:OAt w (some v) u)(k:Z.Good 4000 v):∃d a b j,(∀W,(Instr.typeAssert u 121 125 true).run prog W=.ok (.tuple #[TL d (Jy v) a,.bool b]) W) /\
  (∀W,BQ w W->R8 59 #[TL d (Jy v) a,S9 Z.jF] W (G5 j W))/\OAt w (stX v) j:=by
 by_cases ho:∃c,v=.obj c
 ·obtain⟨c,rfl⟩:=ho;obtain⟨o,d,a,rfl,f⟩:=Um h;have g:c.length<=4000:=by cases k with|obj _ h=>exact h
  refine⟨d,a,true,xW o Z.jF,λW=>?_,λW l=>?_,f.get Z.jF⟩
  ·show _=Result.ok (Value.tuple #[TL d c.length a,L6]) W;rw[<- f.len];exact oQ _ W
  have:=mW (w:=W) a (f.below l) g Z.jF
  rw[f.len]at this;exact this
 have i:∀c,some v≠some (.obj c):=λc e=>ho ⟨c,by simpa using e⟩
 have m:Jy v=0:=by
  cases v with
  | obj c=>exact absurd ⟨c,rfl⟩ ho
  | _=>rfl
 have n:stX v=none:=by
  cases v with
  | obj c=>exact absurd ⟨c,rfl⟩ ho
  | _=>rfl
 rw[m,n];exact⟨none,0,false,.nilIface,λW=>oP h i W,λW _=>lH [] none 0 Z.jF W (by simp) (.inl rfl) (by simp),rfl⟩
theorem Co{w:J}{x:Option Z.V}{u:Y}(h:OAt w x u):∃m c b,(∀W,(Instr.typeAssert u 121 128 true).run prog W=.ok (.tuple #[TL m (qM x).length c,.bool b]) W) /\
  ∃g:List Y,g.length=(qM x).length/\vV w m g/\∀(j:Nat) (v:Z.V) (u:Y),(qM x)[j]?=some v->g[j]?=some u->OAt w (some v) u:=by
 by_cases ho:∃a,x=some (.list a)
 ·obtain⟨a,rfl⟩:=ho;have f:ValAt w (λb=>b<w.heap.size) (.list a) u:=h
  cases f with
  | list _ g k c l i n=>
   refine⟨k,c,true,λW=>?_,g,l,?_,λj v u f q=>n j v u f q⟩
   ·show _=Result.ok (Value.tuple #[TL k a.length c,L6]) W;rw[<- l];exact oN _ W
   rcases i with i|⟨b,ha,_,hc⟩
   ·exact .inl i
   exact .inr ⟨b,0,ha,λj o=>by rw[qV];exact hc j _ (zn o)⟩
 have d:∀a,x≠some (.list a):=λa e=>ho ⟨a,e⟩
 have p:qM x=[]:=by
  match x with
  | none=>rfl
  | some (.str s)=>rfl
  | some (.word b)=>rfl
  | some (.obj ms)=>rfl
  | some (.list a)=>exact absurd rfl (d a)
 rw[p];exact⟨none,0,false,λW=>oO h d W,[],rfl,.inl rfl,λj v u f _=>by simp at f⟩
theorem Ot(s:BY)(w:J)(EL:Y)(v:Z.V)(q:Nat)(Q:Yz w EL)(R:s.size<=4000)(I:Z.jB s.data.toList=.ok v q)(l:Jy v≠1\/(qM (stX v)).length<1\/10<(qM (stX v)).length):R8 33 #[S9 s] w (Yr w EL (5,0) []):=by
 have j:=nbl w QX;have p:=nT s (w.alloc QX) (Q.below j).seq R;rw[I]at p;unfold XY at p;simp only at p;have z:=Z.ed I;rw[U.zF]at z
 have P:Z.Good 4000 v:=by
  clear p I l
  induction z with
  | str t h=>exact .str t (by omega)
  | word b=>exact .word b
  | list vs h _ M=>exact .list vs (by omega) M
  | obj ms h K h3 _ M=>exact .obj ms (by omega) K (λm E=>by have:=h3 m E;omega) M
 obtain⟨n,L⟩:=Nm (Jy v);obtain⟨m,E⟩:=Nm ((qM (stX v)).length);have c:=λW u (h:OAt W (some v) u)=>DJ h P;have d:=λW x (h:OAt W (stX v) x)=>Co h;rw[L,E]at l;simp only[L]at c;simp only[E]at d;unfold QX at j p;unfold Z.jF at c;clear Q R I L E z P
 by_cases h1:n=1
 ·subst h1
  by_cases K:m=0
  ·subst K;go_enter func33,ntmps33
   go_wp2_with(first
    |(go_at_call 59;apply(A i E9).mono;rintro e w2⟨rfl,k⟩;have a:=f.trans (k.mono f.size);obtain⟨F,f0⟩:=one_cell a)
    |(go_at_call 58;apply p.mono;rintro e i⟨u,rfl,g,f⟩;have C:OAt i (some v) u:=ValAt.move g (λ_ D=>D.2) (λ_ _=>rfl);obtain⟨N,B,O,x,H,A,o⟩:=c i u C;obtain⟨X,r,S,G,_⟩:=d i x o;obtain⟨T,y,rfl⟩:=ValAt.iface g))
   exact zG (v := .tuple #[.agg #[R4],.iface 132 (.agg #[S9 ⟨#[100,111,99,117,109,101,110,116]⟩])]) (by simp[results,results33,go_sem,F]) rfl ⟨_,_,_,_,rfl,.doc _,(j.trans (a.mono (by simp))).setCell F7 _,λh=>by simp at h⟩
  have d2:((m:Int)==0)=false:=by simp;omega
  have d3:decide ((10:Int)<(m:Int))=true:=by simp;omega
  go_enter func33,ntmps33
  go_wp2_with(first
   |(go_at_call 59;apply(A i E9).mono;rintro e w2⟨rfl,k⟩;have a:=f.trans (k.mono f.size);obtain⟨F,f0⟩:=one_cell a)
   |(go_at_call 58;apply p.mono;rintro e i⟨u,rfl,g,f⟩;have C:OAt i (some v) u:=ValAt.move g (λ_ D=>D.2) (λ_ _=>rfl);obtain⟨N,B,O,x,H,A,o⟩:=c i u C;obtain⟨X,r,S,G,_⟩:=d i x o;obtain⟨T,y,rfl⟩:=ValAt.iface g))
  exact zG (v := .tuple #[.agg #[R4],.iface 132 (.agg #[S9 ⟨#[100,111,99,117,109,101,110,116]⟩])]) (by simp[results,results33,go_sem,F]) rfl ⟨_,_,_,_,rfl,.doc _,(j.trans (a.mono (by simp))).setCell F7 _,λh=>by simp at h⟩
 have d1:((n:Int) != 1)=true:=by simp;omega
 clear l;go_enter func33,ntmps33
 go_wp2_with(first
  |(go_at_call 59;apply(A i E9).mono;rintro e w2⟨rfl,k⟩;have a:=f.trans (k.mono f.size);obtain⟨F,f0⟩:=one_cell a)
  |(go_at_call 58;apply p.mono;rintro e i⟨u,rfl,g,f⟩;have C:OAt i (some v) u:=ValAt.move g (λ_ D=>D.2) (λ_ _=>rfl);obtain⟨N,B,O,x,H,A,o⟩:=c i u C;obtain⟨X,r,S,G,_⟩:=d i x o;obtain⟨T,y,rfl⟩:=ValAt.iface g))
 exact zG (v := .tuple #[.agg #[R4],.iface 132 (.agg #[S9 ⟨#[100,111,99,117,109,101,110,116]⟩])]) (by simp[results,results33,go_sem,F]) rfl ⟨_,_,_,_,rfl,.doc _,(j.trans (a.mono (by simp))).setCell F7 _,λh=>by simp at h⟩
theorem RZ{L:Nat}(i:L<=4000){v:Z.V}(h:Z.Good L v):Z.Good 4000 v:=by
 induction h with
 | str t h=>exact .str t (by omega)
 | word b=>exact .word b
 | list g h _ a=>exact .list g (by omega) a
 | obj f h c d _ a=>exact .obj f (by omega) c (λm e=>by have:=d m e;omega) a
theorem jl.below{w w':J}{base:Nat}{b:Y}{c:List zS}(h:jl w base b c)(a:BQ w w'):jl w' base b c:=by
 obtain⟨g,d,e⟩:=h;exact⟨g,ownsRow_below d a,λj f=>(e j f).below a⟩
theorem jl.mono{w:J}{base a:Nat}{c:Y}{d:List zS}(h:jl w base c d)(b:a<=base):jl w a c d:=by
 obtain⟨i,e,f⟩:=h;exact⟨i,xS e b,λj g=>(f j g).mono b⟩
theorem jl.set{w:J}{base:Nat}{c:Y}{d:List zS}(h:jl w base c d){b:Nat}(f:b<base)(o:Nat)(u:Y):jl (w.setCell (G8 b o) u) base c d:=by
 obtain⟨k,a,e⟩:=h;exact⟨k,Ec a (by intro g;have:=(a.lt b g).1;omega) o u,λj i=>(e j i).set f o u⟩
theorem Dx{w W:J}{T:TypeId}{x:Y}{a o:Nat}(c:Below (w.alloc (L8 #[R4] 80)).heap.size (w.alloc (L8 #[R4] 80)) W)(h:W.cell? (G8 a o)=some (.iface T x))(y:Y):(W.setCell (G8 w.heap.size 0) y).cell? (G8 a o)=some (.iface T x):=by
 have d:a≠w.heap.size:=by
  intro e;subst e;have b:=(zg (jS c) o).1;rw[h]at b
  cases o with
  | zero=>simp at b
  | succ o=>simp at b
 rw[xu _ _ _ _ (by simp only[ne_eq,Addr.mk.injEq];omega)];exact h
theorem Ri(cs:List Nat)(b:List Y)(ao:Option Addr)(cap:Nat)(w:J)(k:b.length<=100000)(g:vV w ao b)(hF:FVs cs b):R8 62 #[TL ao b.length cap,.func (.func 63) #[] #[]] w λe h=>
   e=.returned (.tuple #[R9 (((zC (λj=>cs.getD j 0 != 0) cs.length).getD 0:Nat):Int),.bool (zC (λj=>cs.getD j 0 != 0) cs.length).isSome])/\BQ w h:=by
 have f:L9 63:=qo func63 (by kernel_rfl) rfl
 have c:=lD b ao cap _ (λj=>cs.getD j 0 != 0) w (by omega) f g hF.form (λW j d i=>by
  have:=BB _ _ W (hF.at j d)
  rw[show b[j]=b.getD j .nilIface by rw[zT,zn d];rfl]at this;exact this)
 rw[hF.1]at c |-;exact c
theorem Gy{L:Nat}{v:Z.V}(h:Z.Good L v):∀x ∈ qM (stX v),Z.Good L x:=by
 intro x a
 match v with
 | .str s=>simp[stX,qM]at a
 | .word b=>simp[stX,qM]at a
 | .list e=>simp[stX,qM]at a
 | .obj d=>
  cases hg:Z.zm d Z.jF with
  | none=>simp only[stX,hg,qM,gF]at a
  | some y=>
   have c:=Z.jr h Z.jF y hg
   cases y with
   | list e=>
    simp only[stX,hg,qM]at a
    cases c with|list _ _ h=>exact h x a
   | str s=>simp only[stX,hg,qM,gF]at a
   | word b=>simp only[stX,hg,qM,gF]at a
   | obj m=>simp only[stX,hg,qM,gF]at a
theorem Ov(s:BY)(w:J)(EL:Y)(v:Z.V)(q:Nat)(hQ:Yz w EL)(hs:s.size<=4000)(hr:Z.jB s.data.toList=.ok v q)(h1:Jy v=1)(h2:1<=(qM (stX v)).length)(h3:(qM (stX v)).length<=10):R8 33 #[S9 s] w (Yr w EL (Z.Xo ((qM (stX v)).map Z.jd) 0) ((qM (stX v)).map vP)):=by
 have z:=nbl w QX;have cc:=nT s (w.alloc QX) (hQ.below z).seq hs;rw[hr]at cc;unfold XY at cc;simp only at cc;have c1:=Z.ed hr;rw[U.zF]at c1;have hG:=RZ hs c1;have b8:=Gy hG;have f:=λW u (h:OAt W (some v) u)=>DJ h hG;have F:=λW gv (h:OAt W (stX v) gv)=>Co h;simp only[h1]at f;obtain⟨vs,c2⟩:=Nm (qM (stX v));rw[c2]at h2 h3 b8 |-;simp only[c2]at F;have cE:=λ(us:List Y) ao a3 W (hb:BQ w W)=>OT vs us ao a3 W (hQ.below hb).p
 have a5:∀c ∈ vs.map Z.jd,c<=2:=by
  intro c hc;rw[xI]at hc;obtain⟨x,_,rfl⟩:=hc;exact Z.zer x
 have b0:(vs.map Z.jd).length=vs.length:=by simp
 obtain⟨n,c0⟩:=Nm (vs.map Z.jd);have a2:=cE;simp only[c0]at a2;rw[c0]at a5 b0 |-;obtain⟨ss,a7⟩:=Nm (vs.map vP);have g6:ss.length=vs.length:=by rw[<- a7];simp
 simp only[a7]at a2;rw[a7];obtain⟨m,hm⟩:=Nm vs.length;rw[hm]at h2 h3 b0;have M:=λ(ys:List Y) fa fc W hn e7 hF=>Ri n ys fa fc W hn e7 hF;have⟨b3,b2,HE,i⟩:=M5 F b8 a2 hm;unfold QX at z cc;unfold Z.jF at f;have d2:((m:Int)==0)=false:=by simp;omega
 have d3:decide ((10:Int)<(m:Int))=false:=by simp;omega
 clear hQ hs hr c1 hG h1 c2 c0 a7 hm cE a2 F b8
 cases K:zC (λj=>n.getD j 0 != 0) n.length with
 | none=>
  have hz:Z.Xo n 0=(0,0):=Z.Ba n 0 (λc hc=>by
   obtain⟨j,hj,rfl⟩:=dK hc
   simpa using Kn K j hj)
  rw[hz];simp only[K,Xa,uB]at M;clear hz K a5;go_enter func33,ntmps33
  go_wp2_with(first
   |(go_at_call 62;apply t.mono;rintro e w4⟨rfl,B⟩;have g:=o.trans (B.mono o.size);obtain⟨r0,f0⟩:=one_cell g)
   |(go_at_call 60;apply r.mono;rintro e w3⟨oa,fa,oc,fc,ys,rfl,l,G,H,N,Q⟩;have o:=a.trans (N.mono a.size);have t:=M ys fa fc w3 (by omega) G H;rw[l]at t)
   |(go_at_call 59;apply(cG I E9).mono;rintro e w2⟨rfl,b⟩;have a:=A.trans (b.mono A.size);have L:BQ w w2:=z.trans (a.mono (by simp));have r:=HE.o us lo E w2 L d (by omega) (bY R b) (λj x y K hy=>(S j x y K hy).below b) b2.o;rw[d,i.o]at r)
   |(go_at_call 58;apply cc.mono;rintro e I⟨u,rfl,D,A⟩;have hO:OAt I (some v) u:=ValAt.move D (λ_ hb=>hb.2) (λ_ _=>rfl);obtain⟨ao,a3,bb,gv,d8,cG,P⟩:=f I u hO;obtain⟨lo,E,lb,X,us,d,R,S⟩:=b3.o I gv P;have b1:us.length=m:=d.trans i.o;rw[i.o]at X;obtain⟨T,y,rfl⟩:=ValAt.iface D))
  have f1:w.heap.size<w2.heap.size:=by have h:=a.size;simp at h;omega
  exact zG (v := .tuple #[.agg #[TL oa m oc],.nilIface]) (by simp[results,results33,go_sem,r0]) rfl ⟨_,_,_,_,rfl,.ok,(z.trans (g.mono (by simp))).setCell F7 _,λ_=>((Q.below B).set f1 _ _).mono (by omega)⟩
 | some k=>
  obtain⟨a6,c8,c9⟩:=cz K;have a4:n.getD k 0=n[k]:=by rw[zT,zn a6];rfl
  have c7:n[k]≠0:=by rw[<- a4];simpa using c8
  have d0:=a5 n[k] (qm a6)
  have hz:Z.Xo n 0=(if n[k]=1 then 5 else 6,0+k+1):=Z.Bb n 0 k a6 (λj hj=>by
   have:=c9 j hj
   rw[zT,zn (show j<n.length by omega)]at this
   simpa using this) c7 d0
  rw[hz,qV];simp only[K,yP,uC]at M;have g4:k<m:=by omega
  have g3:(k:Int)<(m:Int):=by omega
  have O:n[k]=1\/n[k]=2:=by omega
  obtain⟨ck,a9⟩:=Nm (n[k]);rw[a9]at O a4 |-;have c4:=G7 a4;clear hz K a5 c8 c9 a4 c7 d0 a9 a6
  rcases O with rfl|rfl
  ·simp only[qJ];go_enter func33,ntmps33
   go_upto_region 11 with(first
   |(go_at_call 62;apply t.mono;rintro e w4⟨rfl,B⟩;have g:=o.trans (B.mono o.size);obtain⟨r0,f0⟩:=one_cell g;have C:=(H.at k (by omega));rw[c4.o]at C;rcases C with⟨h,_⟩|⟨_,pp,hyk⟩|⟨h,_⟩;(exfalso;simp at h);rotate_left;(exfalso;simp at h);rcases G with hnil|⟨fb,fo,rfl,hfc⟩;(exfalso;rw[hnil]at l;simp at l;omega);have qk:=zi B (hfc k (by omega));rw[hyk]at qk;have f4:=Dx g qk)
   |(go_at_call 60;apply r.mono;rintro e w3⟨oa,fa,oc,fc,ys,rfl,l,G,H,N,Q⟩;have o:=a.trans (N.mono a.size);have t:=M ys fa fc w3 (by omega) G H;rw[l]at t)
   |(go_at_call 59;apply(cG I E9).mono;rintro e w2⟨rfl,b⟩;have a:=A.trans (b.mono A.size);have L:BQ w w2:=z.trans (a.mono (by simp));have r:=HE.o us lo E w2 L d (by omega) (bY R b) (λj x y K hy=>(S j x y K hy).below b) b2.o;rw[d,i.o]at r)
   |(go_at_call 58;apply cc.mono;rintro e I⟨u,rfl,D,A⟩;have hO:OAt I (some v) u:=ValAt.move D (λ_ hb=>hb.2) (λ_ _=>rfl);obtain⟨ao,a3,bb,gv,d8,cG,P⟩:=f I u hO;obtain⟨lo,E,lb,X,us,d,R,S⟩:=b3.o I gv P;have b1:us.length=m:=d.trans i.o;rw[i.o]at X;obtain⟨T,y,rfl⟩:=ValAt.iface D))
   go_region
   all_goals
    go_wp2_with fail;exact zG (v := .tuple #[.agg #[R4],.iface 146 (.agg #[R9 (((k+1:Nat)):Int),.iface 132 (.agg #[S9 pp])])]) (by simp[results,results33,go_sem,r0]) rfl ⟨_,_,_,_,rfl,.shape (k+1) pp,((z.trans (g.mono (by simp))).setCell F7 _).drew,λh=>by simp at h⟩
  simp only[show ¬(2:Nat)=1 by decide,xX];go_enter func33,ntmps33
  go_upto_region 11 with(first
  |(go_at_call 62;apply t.mono;rintro e w4⟨rfl,B⟩;have g:=o.trans (B.mono o.size);obtain⟨r0,f0⟩:=one_cell g;have C:=(H.at k (by omega));rw[c4.o]at C;rcases C with⟨h,_⟩|⟨h,_⟩|⟨_,pp,hyk⟩;(exfalso;simp at h);(exfalso;simp at h);rcases G with hnil|⟨fb,fo,rfl,hfc⟩;(exfalso;rw[hnil]at l;simp at l;omega);have qk:=zi B (hfc k (by omega));rw[hyk]at qk;have f4:=Dx g qk)
  |(go_at_call 60;apply r.mono;rintro e w3⟨oa,fa,oc,fc,ys,rfl,l,G,H,N,Q⟩;have o:=a.trans (N.mono a.size);have t:=M ys fa fc w3 (by omega) G H;rw[l]at t)
  |(go_at_call 59;apply(cG I E9).mono;rintro e w2⟨rfl,b⟩;have a:=A.trans (b.mono A.size);have L:BQ w w2:=z.trans (a.mono (by simp));have r:=HE.o us lo E w2 L d (by omega) (bY R b) (λj x y K hy=>(S j x y K hy).below b) b2.o;rw[d,i.o]at r)
  |(go_at_call 58;apply cc.mono;rintro e I⟨u,rfl,D,A⟩;have hO:OAt I (some v) u:=ValAt.move D (λ_ hb=>hb.2) (λ_ _=>rfl);obtain⟨ao,a3,bb,gv,d8,cG,P⟩:=f I u hO;obtain⟨lo,E,lb,X,us,d,R,S⟩:=b3.o I gv P;have b1:us.length=m:=d.trans i.o;rw[i.o]at X;obtain⟨T,y,rfl⟩:=ValAt.iface D))
  go_region
  all_goals
   go_wp2_with fail;exact zG (v := .tuple #[.agg #[R4],.iface 146 (.agg #[R9 (((k+1:Nat)):Int),.iface 188 (.agg #[R9 pp])])]) (by simp[results,results33,go_sem,r0]) rfl ⟨_,_,_,_,rfl,.pat (k+1) pp,((z.trans (g.mono (by simp))).setCell F7 _).drew,λh=>by simp at h⟩
def jK(s:BY):List zS:=if 4000<s.size then [] else match Z.jB s.data.toList with
 | .ok v _=>(qM (stX v)).map vP
 | .err _ _=>[]
theorem iW(s:BY)(w:J)(EL:Y)(T:TypeId)(y:Y)(b:EL=.iface T y)(a:Yz w EL):R8 33 #[S9 s] w (Yr w EL (Z.qC s) (jK s)):=by
 have f:Z.qC s=if 4000<s.size then (1,0) else match Z.jB s.data.toList with
  | .err e q=>(e,q)
  | .ok v _=>Z.uO v:=rfl
 have g:jK s=if 4000<s.size then [] else match Z.jB s.data.toList with
  | .ok v _=>(qM (stX v)).map vP
  | .err _ _=>[]:=rfl
 by_cases h:4000<s.size
 ·rw[f,g,zb h,zb h];exact Ow s w EL T y b a h
 rw[f,g,za h,za h]
 cases hr:Z.jB s.data.toList with
 | err c q=>exact Ou s w EL c q a (by omega) hr
 | ok v q=>
  simp only;rw[Ox];have d:=Z.ed hr
  by_cases hb:Jy v≠1\/(qM (stX v)).length<1\/10<(qM (stX v)).length
  ·rw[zb hb];apply(Ot s w EL v q a (by omega) hr hb).mono;rintro e o⟨l,n,m,u,i,j,k,_⟩;exact⟨l,n,m,u,i,j,k,λh=>by simp at h⟩
  rw[za hb,Z.AZ (L:=s.data.toList.length) _ 0 (Gy d)];exact Ov s w EL v q a (by omega) hr (by omega) (by omega) (by omega)
end Go.Proofs.YtfjpcldndaiifaaGreatDoor
