/- P -/
import Derived.Test.YtagnlbgbnfnapaaGreatDoorZ17
import Derived.Test.YtagnlbgbnfnapaaGreatDoorZ20
open Go.Proofs.Tryz
set_option maxRecDepth 100000
set_option maxHeartbeats 1000000
namespace Go.Proofs.YtagnlbgbnfnapaaGreatDoor
open Go.RowKit
def ZV(w:World)(base:Nat)(xs:List Value)(j:Nat)(s:zT):Prop:=
 ∃a b c d,xs[j*8]?=some (.string s.eff)/\xs[j*8+1]?=some (.bool s.who.1)/\xs[j*8+2]?=some a/\xs[j*8+3]?=some (.bool s.act.1)/\xs[j*8+4]?=some b/\xs[j*8+5]?=some (.bool s.on.1)/\xs[j*8+6]?=some c/\xs[j*8+7]?=some d /\
  zZ w base a s.who.2/\zZ w base b s.act.2/\zZ w base c s.on.2/\xJ w base d s.ifs
theorem ZV.below{w a:World}{base:Nat}{xs:List Value}{j:Nat}{s:zT}(h:ZV w base xs j s)(hb:Below w.heap.size w a):ZV a base xs j s:=by
 obtain⟨p,q,r,t,f,g,i,k,l,m,n,o,b,c,d,e⟩:=h;exact⟨p,q,r,t,f,g,i,k,l,m,n,o,b.below hb,c.below hb,d.below hb,e.below hb⟩
theorem ZV.set{w:World}{base:Nat}{xs:List Value}{j:Nat}{s:zT}(h:ZV w base xs j s){b:Nat}(hb:b<base)(o:Nat)(u:Value):ZV (w.setCell ⟨b,o,none⟩ u) base xs j s:=by
 obtain⟨q,r,t,v,f,g,i,k,l,m,n,p,a,c,d,e⟩:=h;exact⟨q,r,t,v,f,g,i,k,l,m,n,p,qb a hb o u,qb c hb o u,qb d hb o u,e.set hb o u⟩
theorem ZV.mono{w:World}{base a:Nat}{xs:List Value}{j:Nat}{s:zT}(h:ZV w base xs j s)(hb:a<=base):ZV w a xs j s:=by
 obtain⟨p,q,r,t,f,g,i,k,l,m,n,o,b,c,d,e⟩:=h;exact⟨p,q,r,t,f,g,i,k,l,m,n,o,b.mono hb,c.mono hb,d.mono hb,e.mono hb⟩
def jP(w:World)(base:Nat)(b:Value)(a:List zT):Prop:=
 ∃xs,w.ownsRow base 137 8 b a.length xs/\∀j,(h:j<a.length)->ZV w base xs j a[j]
def CY(g:Nat)(k:Array Value)(i:Nat->Value)(n:Nat)(cs:Nat->zT)(c:Nat->Nat)(w:World):Prop:=
 ∀W j,j<n->Below w.heap.size w W->Calls prog g (#[i j]++k) W λe a=>
  ∃b d f h u,e = .returned (.tuple #[.agg #[.string (cs j).eff,.bool (cs j).who.1,b,.bool (cs j).act.1,d,.bool (cs j).on.1,f,h],u])/\FV (c j) u/\Below W.heap.size W a /\
   zZ a W.heap.size b (cs j).who.2/\zZ a W.heap.size d (cs j).act.2/\zZ a W.heap.size f (cs j).on.2/\xJ a W.heap.size h (cs j).ifs
def Cx(w:World)(n:Nat)(cs:Nat->zT)(c:Nat->Nat)(e:Ending)(a:World):Prop:=
 ∃(oa d:Option Addr) (f g:Nat) (b:List Value),e = .returned (.tuple #[.slice oa n f,.slice d n g])/\b.length=n/\jF a d b/\FVs ((List.range n).map c) b/\Below w.heap.size w a /\
  jP a w.heap.size (.slice oa n f) ((List.range n).map cs)
theorem Mv:(prog.info? 137).map (λi=>(i.zero,i.size,i.bytes))=some (some (.agg #[.string ⟨#[]⟩,.bool false,.slice none 0 0,.bool false,.slice none 0 0,.bool false,.slice none 0 0,.slice none 0 0]),8,136):=by kernel_rfl
theorem wX{w:World}{base:Nat}{e:TypeId}{v:Value}{n:Nat}{xs:List Value}(h:w.ownsRow base e 8 v n xs){b:Nat}(hb:v.ownBlock≠some b)(o:Nat)(u:Value):(w.setCell ⟨b,o,none⟩ u).ownsRow base e 8 v n xs:=
 yh h (a:=⟨b,o,none⟩) hb u
theorem GV(J:List Value)(ao:Option Addr)(cap g:Nat)(lb:Array Value)(cs:Nat->zT)(c:Nat->Nat)(w:World)(hn:J.length<=1000)(eg:∀args w,(callFunc g args).run prog w = .ok (.enter g args) w)
  (hm:jF w ao J)(c2:∀u ∈ J,u = .nilIface\/∃T x,u = .iface T x)(hp:CY g lb (λj=>J.getD j .nilIface) J.length cs c w) :
  Calls prog 54 #[.slice ao J.length cap,.func (.func g) #[] lb] w (Cx w J.length cs c):=by
 obtain⟨i0,hi,f3,f4,f5⟩:=jl Mv;obtain⟨i1,W,f2,hy1,hy2⟩:=jl (show (prog.info? 86).map (λi=>(i.zero,i.size,i.bytes))=some (some .nilIface,1,16) by kernel_rfl);obtain⟨n,b1⟩:=Nm J.length;rw[b1] at hn hp |-;have HM:=hid hm;have e6:=hid c2;have HP:=hid hp;have e7:=hid b1;clear hm c2 hp b1;go_enter func54,ntmps54
 go_wp2_with (at_make;refine Us _ rfl _ _ 82 rfl w.heap.size 137 i0 (.agg #[.string ⟨#[]⟩,.bool false,.slice none 0 0,.bool false,.slice none 0 0,.bool false,.slice none 0 0,.slice none 0 0]) 8 underlying82 hi f3 f4 _ _ _ _ n rfl rfl ?_ ?_ ?_ ?_ ?_ ?_)
 ·omega
 ·omega
 ·rw[f5];omega
 ·unfold maxLen;omega
 ·omega
 intro w1 I K;obtain⟨zs,c6⟩:=Nm ((madeCells #[.string ⟨#[]⟩,.bool false,.slice none 0 0,.bool false,.slice none 0 0,.bool false,.slice none 0 0,.slice none 0 0] (n*8)).toList);rw[c6] at I;have H:Below w.heap.size w w1:=(zi _ w).grown K (ze _) (λk hk=>by cases hk);clear c6
 go_wp2_with (at_make;refine Us _ rfl _ _ 130 rfl w.heap.size 86 i1 .nilIface 1 underlying130 W f2 hy1 _ _ _ _ n rfl rfl ?_ ?_ ?_ ?_ ?_ ?_)
 ·omega
 ·omega
 ·rw[hy2];omega
 ·unfold maxLen;omega
 ·have:=H.size;omega
 intro w2 Y F
 have U:w2.ownsRow w.heap.size 86 1 (.slice (some ⟨w1.heap.size,0,none⟩) n n) n (List.replicate n .nilIface):=by
  rw[<- iR];exact Y
 have X:=I.kept F (.inr (by simp[Value.ownBlock]));have c3:w.heap.size<w1.heap.size:=(I.lt _ rfl).2;have V:Below w.heap.size w w2:=H.grown F H.size (λk hk=>by cases hk);have Q:w1.heap.size<w2.heap.size:=(U.lt _ rfl).2;obtain⟨s,c0⟩:=Nm w1.heap.size;rw[c0] at U c3 Q |-;have c4:w.heap.size≠s:=by omega
 have b7:=hid X;have b8:=hid U;have b4:=hid V;have b5:=hid Q;clear Y F K I H X U V c0 Q;go_wp2_with fail
 go_loopw [18] (λiv wr=>∃(k:Nat) (xs ys:List Value),k<=n/\iv = .int .i64 k/\uq c n k ys/\wr.ownsRow w.heap.size 137 8 (.slice (some ⟨w.heap.size,0,none⟩) n n) n xs/\wr.ownsRow w.heap.size 86 1 (.slice (some ⟨s,0,none⟩) n n) n ys/\Below w.heap.size w wr/\s<wr.heap.size/\(∀j,j<k->ZV wr (s+1) xs j (cs j))) (λiv _=>n-(intOf iv).toNat)
 case atStart=>exact⟨0,_,_,zU _,rfl,uq.start c n,b7.out,b8.out,b4.out,b5.out,λj W=>by omega⟩
 case round=>
  obtain⟨k,xs,ys,hk,rfl,c5,ro,re,rb,o2,rc⟩:=hrel;clear b7 b8 b4 b5;have RO:=hid ro;have RE:=hid re;have RB:=hid rb;have S:=hid c5;have RC:=hid rc;clear ro re rb c5 rc
  by_cases hlt:k<n
  ·have P:k<J.length:=by rw[e7.out];exact hlt
   have c1:J.getD k .nilIface=J[k]:=by rw[zQ,zt P];rfl
   have R:=HP.out wr k hlt RB.out;have hv:=e6.out J[k] (xg P)
   rcases HM.out with hnil|⟨b,o,hao,hc⟩
   ·rw[hnil] at P;simp at P
   subst hao;have q:=zh RB.out (hc k P);simp only[c1] at R;obtain⟨u,hu⟩:=Nm (J[k]);rw[hu] at q R hv;obtain⟨f,G⟩:∃x,(cs k).eff=x:=⟨_,rfl⟩;obtain⟨m,L⟩:∃x,(cs k).who.1=x:=⟨_,rfl⟩;obtain⟨p,M⟩:∃x,(cs k).act.1=x:=⟨_,rfl⟩;obtain⟨r,N⟩:∃x,(cs k).on.1=x:=⟨_,rfl⟩;rw[G,L,M,N] at R;have e0:=hid G;have e1:=hid L;have e2:=hid M;have e5:=hid N;clear hu hc c1 G L M N;have b2:xs.length=n*8:=RO.out.1;have b6:=hid b2;clear b2
   have cells:Hid (∀d,Below wr.heap.size wr d->(∃v,d.cell? ⟨w.heap.size,k*8,none⟩=some v)/\(∃v,d.cell? ⟨w.heap.size,k*8+1,none⟩=some v)/\(∃v,d.cell? ⟨w.heap.size,k*8+2,none⟩=some v)/\(∃v,d.cell? ⟨w.heap.size,k*8+3,none⟩=some v)/\(∃v,d.cell? ⟨w.heap.size,k*8+4,none⟩=some v)/\(∃v,d.cell? ⟨w.heap.size,k*8+5,none⟩=some v)/\(∃v,d.cell? ⟨w.heap.size,k*8+6,none⟩=some v)/\(∃v,d.cell? ⟨w.heap.size,k*8+7,none⟩=some v)/\d.frozen? ⟨w.heap.size,k*8,none⟩=false/\d.frozen? ⟨w.heap.size,k*8+1,none⟩=false/\d.frozen? ⟨w.heap.size,k*8+2,none⟩=false/\d.frozen? ⟨w.heap.size,k*8+3,none⟩=false/\d.frozen? ⟨w.heap.size,k*8+4,none⟩=false/\d.frozen? ⟨w.heap.size,k*8+5,none⟩=false/\d.frozen? ⟨w.heap.size,k*8+6,none⟩=false/\d.frozen? ⟨w.heap.size,k*8+7,none⟩=false/\d.cell? ⟨s,k,none⟩=some .nilIface/\d.frozen? ⟨s,k,none⟩=false):=by
    intro d h;have t:=ownsRow_below RO.out h;have e3:=ownsRow_below RE.out h;have hx:=b6.out
    exact⟨⟨_,(t.cellAt _ (by omega)).trans (zt (by omega))⟩,⟨_,(t.cellAt _ (by omega)).trans (zt (by omega))⟩,⟨_,(t.cellAt _ (by omega)).trans (zt (by omega))⟩,⟨_,(t.cellAt _ (by omega)).trans (zt (by omega))⟩,⟨_,(t.cellAt _ (by omega)).trans (zt (by omega))⟩,⟨_,(t.cellAt _ (by omega)).trans (zt (by omega))⟩,⟨_,(t.cellAt _ (by omega)).trans (zt (by omega))⟩,⟨_,(t.cellAt _ (by omega)).trans (zt (by omega))⟩,
     t.frozenAt _,t.frozenAt _,t.frozenAt _,t.frozenAt _,t.frozenAt _,t.frozenAt _,t.frozenAt _,t.frozenAt _,(e3.cellAt k (by omega)).trans (S.out.2.2 k (ze _) hlt),e3.frozenAt k⟩
   have fin:Hid (∀d B C D E x,Below wr.heap.size wr d->FV (c k) x->zZ d wr.heap.size B (cs k).who.2->zZ d wr.heap.size C (cs k).act.2->zZ d wr.heap.size D (cs k).on.2->xJ d wr.heap.size E (cs k).ifs ->
     uq c n (k+1) (ys.set k x) /\
     (((((((((d.setCell ⟨w.heap.size,k*8,none⟩ (.string f)).setCell ⟨w.heap.size,k*8+1,none⟩ (.bool m)).setCell ⟨w.heap.size,k*8+2,none⟩ B).setCell ⟨w.heap.size,k*8+3,none⟩ (.bool p)).setCell ⟨w.heap.size,k*8+4,none⟩ C).setCell ⟨w.heap.size,k*8+5,none⟩ (.bool r)).setCell ⟨w.heap.size,k*8+6,none⟩ D).setCell ⟨w.heap.size,k*8+7,none⟩ E).setCell ⟨s,k,none⟩ x).ownsRow w.heap.size 137 8 (.slice (some ⟨w.heap.size,0,none⟩) n n) n ((((((((xs.set (k*8) (.string f)).set (k*8+1) (.bool m)).set (k*8+2) B).set (k*8+3) (.bool p)).set (k*8+4) C).set (k*8+5) (.bool r)).set (k*8+6) D).set (k*8+7) E) /\
     (((((((((d.setCell ⟨w.heap.size,k*8,none⟩ (.string f)).setCell ⟨w.heap.size,k*8+1,none⟩ (.bool m)).setCell ⟨w.heap.size,k*8+2,none⟩ B).setCell ⟨w.heap.size,k*8+3,none⟩ (.bool p)).setCell ⟨w.heap.size,k*8+4,none⟩ C).setCell ⟨w.heap.size,k*8+5,none⟩ (.bool r)).setCell ⟨w.heap.size,k*8+6,none⟩ D).setCell ⟨w.heap.size,k*8+7,none⟩ E).setCell ⟨s,k,none⟩ x).ownsRow w.heap.size 86 1 (.slice (some ⟨s,0,none⟩) n n) n (ys.set k x) /\
     Below w.heap.size w (((((((((d.setCell ⟨w.heap.size,k*8,none⟩ (.string f)).setCell ⟨w.heap.size,k*8+1,none⟩ (.bool m)).setCell ⟨w.heap.size,k*8+2,none⟩ B).setCell ⟨w.heap.size,k*8+3,none⟩ (.bool p)).setCell ⟨w.heap.size,k*8+4,none⟩ C).setCell ⟨w.heap.size,k*8+5,none⟩ (.bool r)).setCell ⟨w.heap.size,k*8+6,none⟩ D).setCell ⟨w.heap.size,k*8+7,none⟩ E).setCell ⟨s,k,none⟩ x) /\
     s<(((((((((d.setCell ⟨w.heap.size,k*8,none⟩ (.string f)).setCell ⟨w.heap.size,k*8+1,none⟩ (.bool m)).setCell ⟨w.heap.size,k*8+2,none⟩ B).setCell ⟨w.heap.size,k*8+3,none⟩ (.bool p)).setCell ⟨w.heap.size,k*8+4,none⟩ C).setCell ⟨w.heap.size,k*8+5,none⟩ (.bool r)).setCell ⟨w.heap.size,k*8+6,none⟩ D).setCell ⟨w.heap.size,k*8+7,none⟩ E).setCell ⟨s,k,none⟩ x).heap.size /\
     (∀j,j<k+1->ZV (((((((((d.setCell ⟨w.heap.size,k*8,none⟩ (.string f)).setCell ⟨w.heap.size,k*8+1,none⟩ (.bool m)).setCell ⟨w.heap.size,k*8+2,none⟩ B).setCell ⟨w.heap.size,k*8+3,none⟩ (.bool p)).setCell ⟨w.heap.size,k*8+4,none⟩ C).setCell ⟨w.heap.size,k*8+5,none⟩ (.bool r)).setCell ⟨w.heap.size,k*8+6,none⟩ D).setCell ⟨w.heap.size,k*8+7,none⟩ E).setCell ⟨s,k,none⟩ x) (s+1) ((((((((xs.set (k*8) (.string f)).set (k*8+1) (.bool m)).set (k*8+2) B).set (k*8+3) (.bool p)).set (k*8+4) C).set (k*8+5) (.bool r)).set (k*8+6) D).set (k*8+7) E) j (cs j))):=by
    intro d B C D E x h hx Z g2 g3 g4;have t:=ownsRow_below RO.out h;have e3:=ownsRow_below RE.out h;have o4:=((((((((t.stored (k*8) (.string f)).1.stored (k*8+1) (.bool m)).1.stored (k*8+2) B).1.stored (k*8+3) (.bool p)).1.stored (k*8+4) C).1.stored (k*8+5) (.bool r)).1.stored (k*8+6) D).1.stored (k*8+7) E).1;have A:(Value.slice (some ⟨s,0,none⟩) n n).ownBlock≠some w.heap.size:=by simp only[Value.ownBlock];intro e;simp only[Option.some.injEq] at e;exact c4 e.symm
    have e4:=(yh (yh (yh (yh (yh (yh (yh (yh e3 (a:=⟨w.heap.size,k*8,none⟩) A (.string f)) (a:=⟨w.heap.size,k*8+1,none⟩) A (.bool m)) (a:=⟨w.heap.size,k*8+2,none⟩) A B) (a:=⟨w.heap.size,k*8+3,none⟩) A (.bool p)) (a:=⟨w.heap.size,k*8+4,none⟩) A C) (a:=⟨w.heap.size,k*8+5,none⟩) A (.bool r)) (a:=⟨w.heap.size,k*8+6,none⟩) A D) (a:=⟨w.heap.size,k*8+7,none⟩) A E);have hz:=h.size;have b2:=b6.out;refine⟨S.out.set hlt hx,wX o4 (by simp only[Value.ownBlock];intro e;simp only[Option.some.injEq] at e;exact c4 e) _ _,(e4.stored k x).1,(((((((((RB.out.trans (h.mono RB.out.size)).setCell (ze _) _).setCell (ze _) _).setCell (ze _) _).setCell (ze _) _).setCell (ze _) _).setCell (ze _) _).setCell (ze _) _).setCell (ze _) _).setCell (by show w.heap.size<=s;omega) _,by simp[World.setCell];omega,λj W=>?_⟩
    by_cases hjk:j=k
    ·subst hjk;refine⟨B,C,D,E,?_,?_,?_,?_,?_,?_,?_,?_,(qb (qb (qb (qb (qb (qb (qb (qb (qb (zZ.mono Z (by omega)) (by omega) _ _) (by omega) _ _) (by omega) _ _) (by omega) _ _) (by omega) _ _) (by omega) _ _) (by omega) _ _) (by omega) _ _) (by omega) _ _),(qb (qb (qb (qb (qb (qb (qb (qb (qb (zZ.mono g2 (by omega)) (by omega) _ _) (by omega) _ _) (by omega) _ _) (by omega) _ _) (by omega) _ _) (by omega) _ _) (by omega) _ _) (by omega) _ _) (by omega) _ _),(qb (qb (qb (qb (qb (qb (qb (qb (qb (zZ.mono g3 (by omega)) (by omega) _ _) (by omega) _ _) (by omega) _ _) (by omega) _ _) (by omega) _ _) (by omega) _ _) (by omega) _ _) (by omega) _ _) (by omega) _ _),((((((((((g4.mono (by omega)).set (by omega) _ _).set (by omega) _ _).set (by omega) _ _).set (by omega) _ _).set (by omega) _ _).set (by omega) _ _).set (by omega) _ _).set (by omega) _ _).set (by omega) _ _)⟩
     ·simp[List.getElem?_set,e0.out];omega
     ·simp[List.getElem?_set,e1.out];omega
     ·simp[List.getElem?_set];omega
     ·simp[List.getElem?_set,e2.out];omega
     ·simp[List.getElem?_set];omega
     ·simp[List.getElem?_set,e5.out];omega
     ·simp[List.getElem?_set];omega
     ·simp[List.getElem?_set];omega
    ·have e9:=(((((((((((RC.out j (by omega)).below h).set (b:=w.heap.size) (by omega) (k*8) (.string f)).set (b:=w.heap.size) (by omega) (k*8+1) (.bool m)).set (b:=w.heap.size) (by omega) (k*8+2) B).set (b:=w.heap.size) (by omega) (k*8+3) (.bool p)).set (b:=w.heap.size) (by omega) (k*8+4) C).set (b:=w.heap.size) (by omega) (k*8+5) (.bool r)).set (b:=w.heap.size) (by omega) (k*8+6) D).set (b:=w.heap.size) (by omega) (k*8+7) E).set (b:=s) (by omega) k x);obtain⟨m1,m2,m3,mc,h0,h1,h2,h3,h4,h5,h6,h7,n1,n2,n3,n4⟩:=e9;refine⟨m1,m2,m3,mc,?_,?_,?_,?_,?_,?_,?_,?_,n1,n2,n3,n4⟩
     ·rw[zB,za (by omega),zB,za (by omega),zB,za (by omega),zB,za (by omega),zB,za (by omega),zB,za (by omega),zB,za (by omega),zB,za (by omega)];exact h0
     ·rw[zB,za (by omega),zB,za (by omega),zB,za (by omega),zB,za (by omega),zB,za (by omega),zB,za (by omega),zB,za (by omega),zB,za (by omega)];exact h1
     ·rw[zB,za (by omega),zB,za (by omega),zB,za (by omega),zB,za (by omega),zB,za (by omega),zB,za (by omega),zB,za (by omega),zB,za (by omega)];exact h2
     ·rw[zB,za (by omega),zB,za (by omega),zB,za (by omega),zB,za (by omega),zB,za (by omega),zB,za (by omega),zB,za (by omega),zB,za (by omega)];exact h3
     ·rw[zB,za (by omega),zB,za (by omega),zB,za (by omega),zB,za (by omega),zB,za (by omega),zB,za (by omega),zB,za (by omega),zB,za (by omega)];exact h4
     ·rw[zB,za (by omega),zB,za (by omega),zB,za (by omega),zB,za (by omega),zB,za (by omega),zB,za (by omega),zB,za (by omega),zB,za (by omega)];exact h5
     ·rw[zB,za (by omega),zB,za (by omega),zB,za (by omega),zB,za (by omega),zB,za (by omega),zB,za (by omega),zB,za (by omega),zB,za (by omega)];exact h6
     ·rw[zB,za (by omega),zB,za (by omega),zB,za (by omega),zB,za (by omega),zB,za (by omega),zB,za (by omega),zB,za (by omega),zB,za (by omega)];exact h7
   rcases hv with rfl|⟨T,y,rfl⟩
   ·go_wp2_with (go_at_fn g;refine R.mono ?_;rintro e d ⟨B,C,D,E,x,rfl,O,h,Z,g2,g3,g4⟩;obtain⟨⟨v,d0⟩,⟨a1,d1⟩,⟨a2,d2⟩,⟨a3,d3⟩,⟨a4,d4⟩,⟨a5,d5⟩,⟨a6,d6⟩,⟨a7,d7⟩,z0,z1,z2,z3,z4,z5,z6,z7,d8,z8⟩:=cells.out d h;have l:=hid (fin.out d B C D E x h O Z g2 g3 g4);obtain⟨f7,g5,rfl⟩:=jV Z;obtain⟨f8,g6,rfl⟩:=jV g2;obtain⟨f9,g7,rfl⟩:=jV g3;obtain⟨g0,g8,rfl⟩:=g4.slice;rcases O.form with rfl|⟨T,z,rfl⟩)
    all_goals
     go_roundw
     case rel=>exact⟨k+1,_,_,by omega,by go_num,l.out.1,l.out.2.1,l.out.2.2.1,l.out.2.2.2.1,l.out.2.2.2.2.1,l.out.2.2.2.2.2⟩
     case measure=>simp[intOf];omega
   ·go_wp2_with (go_at_fn g;refine R.mono ?_;rintro e d ⟨B,C,D,E,x,rfl,O,h,Z,g2,g3,g4⟩;obtain⟨⟨v,d0⟩,⟨a1,d1⟩,⟨a2,d2⟩,⟨a3,d3⟩,⟨a4,d4⟩,⟨a5,d5⟩,⟨a6,d6⟩,⟨a7,d7⟩,z0,z1,z2,z3,z4,z5,z6,z7,d8,z8⟩:=cells.out d h;have l:=hid (fin.out d B C D E x h O Z g2 g3 g4);obtain⟨f7,g5,rfl⟩:=jV Z;obtain⟨f8,g6,rfl⟩:=jV g2;obtain⟨f9,g7,rfl⟩:=jV g3;obtain⟨g0,g8,rfl⟩:=g4.slice;rcases O.form with rfl|⟨T,z,rfl⟩)
    all_goals
     go_roundw
     case rel=>exact⟨k+1,_,_,by omega,by go_num,l.out.1,l.out.2.1,l.out.2.2.1,l.out.2.2.2.1,l.out.2.2.2.2.1,l.out.2.2.2.2.2⟩
     case measure=>simp[intOf];omega
  ·have f0:k=n:=by omega
   subst f0;have hE:=S.out.done;have hl:=S.out.1
   go_wp2
   go_ret2;refine⟨_,_,_,_,ys,rfl,hl,?_,hE,RB.out,xs,?_,?_⟩
   ·exact .inr ⟨s,0,rfl,λj W=>by rw[qM];exact (RE.out.cellAt j (by omega)).trans (zt W)⟩
   ·rw[qg,jM];exact RO.out
   ·intro j W;rw[qg,jM] at W;rw[ak,lV];exact (RC.out j W).mono (by omega)
inductive QR (EL:Value):Int->Nat->Value->Prop
 | ok:QR EL 0 0 .nilIface
 | long:QR EL 1 0 EL
 | text (c:Int) (q:Nat):Rd.Code c->QR EL c q (ZE c q)
 | doc (p:BA):QR EL 5 0 (.iface 129 (.agg #[.string p]))
 | shape (n:Nat) (p:BA):QR EL 5 n (.iface 143 (.agg #[.int .i64 (n:Int),.iface 129 (.agg #[.string p])]))
 | pat (n:Nat) (k:Int):QR EL 6 n (.iface 143 (.agg #[.int .i64 (n:Int),.iface 216 (.agg #[.int .i64 k])]))
def YO(w:World)(EL:Value)(a:Int×Nat)(f:List zT)(e:Ending)(d:World):Prop:=
 ∃b n c u,e = .returned (.tuple #[.agg #[.slice b n c],u])/\QR EL a.1 a.2 u/\Below w.heap.size w d/\(a.1=0->jP d w.heap.size (.slice b n c) f)
structure XB (w:World) (EL:Value):Prop where
 p:xK w
 seq:qG w
 long:w.cell? ⟨0,0,none⟩=some EL
theorem XB.below{w a:World}{EL:Value}(h:XB w EL)(hb:Below w.heap.size w a):XB a EL:=⟨h.p.below hb,h.seq.same (hb.block _ h.seq.lt),zh hb h.long⟩
def Qf:Obj := .cells #[.slice none 0 0] 84
theorem GX(b:List Rd.V)(a:List Value)(ao:Option Addr)(cap:Nat)(w:World)(s:xK w)(n:a.length=b.length)(y:a.length<=1000)
  (x:jF w ao a)(A:∀(j:Nat) (v:Rd.V) (u:Value),b[j]?=some v->a[j]?=some u->OAt w (some v) u)(t:∀v ∈ b,Rd.Good 4000 v) :
  Calls prog 54 #[.slice ao a.length cap,.func (.func 55) #[] #[]] w λe l=>
   ∃(oa g:Option Addr) (k m:Nat) (f:List Value),e = .returned (.tuple #[.slice oa a.length k,.slice g a.length m])/\f.length=a.length/\jF l g f/\FVs (b.map Rd.xM) f/\Below w.heap.size w l/\jP l w.heap.size (.slice oa a.length k) (b.map yx):=by
 have d:∀j,(h:j<a.length)->OAt w (some (b.getD j (.word false))) a[j]:=λj h=>by
  have c:j<b.length:=by omega
  rw[zQ,zt c];exact A j _ _ (zt c) (zt h)
 refine (GV a ao cap 55 #[] (λj=>yx (b.getD j (.word false))) (λj=>Rd.xM (b.getD j (.word false))) w y (qx func55 (by kernel_rfl) rfl) x ?_ ?_).mono ?_
 ·intro u z;obtain⟨j,i,rfl⟩:=Ql z;exact (d j i).form
 ·intro W j i hb;have c:j<b.length:=by omega
  have:=Sg (b.getD j (.word false)) a[j] W (s.below hb) ((d j i).below hb) (t _ (by rw[zQ,zt c];exact xg c))
  rw[show a[j]=a.getD j .nilIface by rw[zQ,zt i];rfl] at this;exact this
 ·rintro e l ⟨oa,g,k,m,f,rfl,q,c,o,r,p⟩;refine⟨oa,g,k,m,f,rfl,q,c,?_,r,?_⟩
  ·rw[n,Vl] at o;exact o
  ·rw[n,Vl] at p;rw[n];exact p
theorem one_cell{w W:World}{t:TypeId}{v:Value}(hb:Below (w.alloc (.cells #[v] t)).heap.size (w.alloc (.cells #[v] t)) W):W.cell? ⟨w.heap.size,0,none⟩=some v/\W.frozen? ⟨w.heap.size,0,none⟩=false:=by
 have a:=ja hb;exact⟨(zf a 0).1,(zf a 0).2⟩
theorem GA(s:BA)(w:World)(EL:Value)(T:TypeId)(y:Value)(d:EL = .iface T y)(f:XB w EL)(g:4000<s.size) :
  Calls prog 25 #[.string s] w (YO w EL (1,0) []):=by
 have a:=nB w Qf;have c:=Si s (w.alloc Qf) EL (f.below a).long g;subst d;unfold Qf at a c;clear f g;go_enter func25,ntmps25
 go_wp2_with (go_at_call 52;refine c.mono ?_;rintro e j ⟨rfl,b⟩;obtain⟨r0,i⟩:=one_cell b)
 exact qa (v := .tuple #[.agg #[.slice none 0 0],.iface T y]) (by simp[results,results25,go_sem,r0]) rfl ⟨_,_,_,_,rfl,.long,(a.trans (b.mono (by simp))).setCell (ze _) _,λh=>by simp at h⟩
theorem Gy(s:BA)(w:World)(EL:Value)(c:Int)(q:Nat)(j:XB w EL)(l:s.size<=4000)(i:Rd.yS s.data.toList = .err c q) :
  Calls prog 25 #[.string s] w (YO w EL (c,q) []):=by
 have b:=nB w Qf;have d:=gV s (w.alloc Qf) (j.below b).seq l;rw[i] at d;have a:=Rd.AY i;have m:=QR.text (EL:=EL) c q a;obtain⟨T,k⟩:=JU c q;unfold Q4 at d;simp only at d;rw[k] at d m;have g:c≠0:=by rcases a with rfl|rfl|rfl<;>decide
 unfold Qf at b d;clear j l i k a;go_enter func25,ntmps25
 go_wp2_with (go_at_call 52;refine d.mono ?_;rintro e o ⟨rfl,f⟩;obtain⟨r0,n⟩:=one_cell f)
 exact qa (v := .tuple #[.agg #[.slice none 0 0],.iface T (.agg #[.int .i64 (q:Int)])]) (by simp[results,results25,go_sem,r0]) rfl ⟨_,_,_,_,rfl,m,(b.trans (f.mono (by simp))).setCell (ze _) _,λh=>absurd h g⟩
end Go.Proofs.YtagnlbgbnfnapaaGreatDoor
