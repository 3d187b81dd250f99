/- P -/
import Derived.Test.YtagnlbgbnfnapaaGreatDoorK17
import Derived.Test.YtagnlbgbnfnapaaGreatDoorK20
open Go.Proofs.Tryz
set_option maxRecDepth 100000
set_option maxHeartbeats 1000000
namespace Go.Proofs.YtagnlbgbnfnapaaGreatDoor
open Go.RowKit
def Zf(w:World)(base:Nat)(xs:List Value)(j:Nat)(s:qp):Prop:=
 ∃a b c d,xs[j*8]?=some (.string s.eff)/\xs[j*8+1]?=some (.bool s.who.1)/\xs[j*8+2]?=some a/\xs[j*8+3]?=some (.bool s.act.1)/\xs[j*8+4]?=some b/\xs[j*8+5]?=some (.bool s.on.1)/\xs[j*8+6]?=some c/\xs[j*8+7]?=some d /\
  zz w base a s.who.2/\zz w base b s.act.2/\zz w base c s.on.2/\qR w base d s.ifs
theorem Zf.below{w w':World}{base:Nat}{xs:List Value}{j:Nat}{s:qp}(h:Zf w base xs j s)(hb:Below w.heap.size w w'):Zf w' base xs j s:=by
 obtain⟨o,p,q,r,e,f,g,i,k,l,m,n,a,b,c,d⟩:=h;exact⟨o,p,q,r,e,f,g,i,k,l,m,n,a.below hb,b.below hb,c.below hb,d.below hb⟩
theorem Zf.set{w:World}{base:Nat}{xs:List Value}{j:Nat}{s:qp}(h:Zf w base xs j s){b:Nat}(hb:b<base)(o:Nat)(u:Value):Zf (w.setCell ⟨b,o,none⟩ u) base xs j s:=by
 obtain⟨q,r,t,v,f,g,i,k,l,m,n,p,a,c,d,e⟩:=h;exact⟨q,r,t,v,f,g,i,k,l,m,n,p,zU a hb o u,zU c hb o u,zU d hb o u,e.set hb o u⟩
theorem Zf.mono{w:World}{base a:Nat}{xs:List Value}{j:Nat}{s:qp}(h:Zf w base xs j s)(hb:a<=base):Zf w a xs j s:=by
 obtain⟨p,q,r,t,f,g,i,k,l,m,n,o,b,c,d,e⟩:=h;exact⟨p,q,r,t,f,g,i,k,l,m,n,o,b.mono hb,c.mono hb,d.mono hb,e.mono hb⟩
def jc(w:World)(base:Nat)(lv:Value)(a:List qp):Prop:=
 ∃xs,w.ownsRow base 137 8 lv a.length xs/\∀j,(h:j<a.length)->Zf w base xs j a[j]
def wC(g:Nat)(i:Array Value)(h:Nat->Value)(n:Nat)(cs:Nat->qp)(c:Nat->Nat)(w:World):Prop:=
 ∀W j,j<n->Below w.heap.size w W->Calls prog g (#[h j]++i) W λe w'=>
  ∃a b d f u,e = .returned (.tuple #[.agg #[.string (cs j).eff,.bool (cs j).who.1,a,.bool (cs j).act.1,b,.bool (cs j).on.1,d,f],u])/\FV (c j) u/\Below W.heap.size W w' /\
   zz w' W.heap.size a (cs j).who.2/\zz w' W.heap.size b (cs j).act.2/\zz w' W.heap.size d (cs j).on.2/\qR w' W.heap.size f (cs j).ifs
def wu(w:World)(n:Nat)(cs:Nat->qp)(c:Nat->Nat)(e:Ending)(w':World):Prop:=
 ∃(d b:Option Addr) (f g:Nat) (a:List Value),e = .returned (.tuple #[.slice d n f,.slice b n g])/\a.length=n/\jA w' b a/\FVs ((List.range n).map c) a/\Below w.heap.size w w' /\
  jc w' w.heap.size (.slice d n f) ((List.range n).map cs)
theorem Gr:(prog.info? 137).map (λi=>(i.zero,i.size,i.bytes))=some (some (.agg #[.string ⟨#[]⟩,.bool false,.slice none 0 0,.bool false,.slice none 0 0,.bool false,.slice none 0 0,.slice none 0 0]),8,136):=by kernel_rfl
theorem oP{w:World}{base:Nat}{e:TypeId}{v:Value}{n:Nat}{xs:List Value}(h:w.ownsRow base e 8 v n xs){b:Nat}(hb:v.ownBlock≠some b)(o:Nat)(u:Value):(w.setCell ⟨b,o,none⟩ u).ownsRow base e 8 v n xs:=
 xE h (a:=⟨b,o,none⟩) hb u
theorem DT(J:List Value)(ao:Option Addr)(cap g:Nat)(lb:Array Value)(cs:Nat->qp)(c:Nat->Nat)(w:World)(hn:J.length<=1000)(eg:∀args w,(callFunc g args).run prog w = .ok (.enter g args) w)
  (hm:jA w ao J)(c2:∀u ∈ J,u = .nilIface\/∃T x,u = .iface T x)(hp:wC g lb (λj=>J.getD j .nilIface) J.length cs c w) :
  Calls prog 54 #[.slice ao J.length cap,.func (.func g) #[] lb] w (wu w J.length cs c):=by
 obtain⟨i0,hi,f4,f5,f6⟩:=qP Gr;obtain⟨i1,W,f1,f2,f3⟩:=qP (show (prog.info? 86).map (λi=>(i.zero,i.size,i.bytes))=some (some .nilIface,1,16) by kernel_rfl);obtain⟨n,b1⟩:=Nm J.length;rw[b1] at hn hp |-;have HM:=hid hm;have e5:=hid c2;have HP:=hid hp;have e6:=hid b1;clear hm c2 hp b1;go_enter func54,ntmps54
 go_wp2_with (at_make;refine Jf _ rfl _ _ 82 rfl w.heap.size 137 i0 (.agg #[.string ⟨#[]⟩,.bool false,.slice none 0 0,.bool false,.slice none 0 0,.bool false,.slice none 0 0,.slice none 0 0]) 8 underlying82 hi f4 f5 _ _ _ _ n rfl rfl ?_ ?_ ?_ ?_ ?_ ?_)
 ·omega
 ·omega
 ·rw[f6];omega
 ·unfold maxLen;omega
 ·omega
 intro w1 I K;obtain⟨zs,c6⟩:=Nm ((madeCells #[.string ⟨#[]⟩,.bool false,.slice none 0 0,.bool false,.slice none 0 0,.bool false,.slice none 0 0,.slice none 0 0] (n*8)).toList);rw[c6] at I;have H:Below w.heap.size w w1:=(zf _ w).grown K (ze _) (λk hk=>by cases hk);clear c6
 go_wp2_with (at_make;refine Jf _ rfl _ _ 130 rfl w.heap.size 86 i1 .nilIface 1 underlying130 W f1 f2 _ _ _ _ n rfl rfl ?_ ?_ ?_ ?_ ?_ ?_)
 ·omega
 ·omega
 ·rw[f3];omega
 ·unfold maxLen;omega
 ·have:=H.size;omega
 intro w2 Y F
 have U:w2.ownsRow w.heap.size 86 1 (.slice (some ⟨w1.heap.size,0,none⟩) n n) n (List.replicate n .nilIface):=by
  rw[<- UY];exact Y
 have X:=I.kept F (.inr (by simp[Value.ownBlock]));have c3:w.heap.size<w1.heap.size:=(I.lt _ rfl).2;have V:Below w.heap.size w w2:=H.grown F H.size (λk hk=>by cases hk);have Q:w1.heap.size<w2.heap.size:=(U.lt _ rfl).2;obtain⟨s,c0⟩:=Nm w1.heap.size;rw[c0] at U c3 Q |-;have c4:w.heap.size≠s:=by omega
 have b7:=hid X;have b8:=hid U;have b4:=hid V;have b5:=hid Q;clear Y F K I H X U V c0 Q;go_wp2_with fail
 go_loopw [18] (λiv wr=>∃(k:Nat) (xs ys:List Value),k<=n/\iv = .int .i64 k/\vP c n k ys/\wr.ownsRow w.heap.size 137 8 (.slice (some ⟨w.heap.size,0,none⟩) n n) n xs/\wr.ownsRow w.heap.size 86 1 (.slice (some ⟨s,0,none⟩) n n) n ys/\Below w.heap.size w wr/\s<wr.heap.size/\(∀j,j<k->Zf wr (s+1) xs j (cs j))) (λiv _=>n-(intOf iv).toNat)
 case atStart=>exact⟨0,_,_,zG _,rfl,vP.start c n,b7.out,b8.out,b4.out,b5.out,λj W=>by omega⟩
 case round=>
  obtain⟨k,xs,ys,hk,rfl,c5,ro,re,rb,o9,rc⟩:=hrel;clear b7 b8 b4 b5;have RO:=hid ro;have RE:=hid re;have RB:=hid rb;have S:=hid c5;have RC:=hid rc;clear ro re rb c5 rc
  by_cases hlt:k<n
  ·have P:k<J.length:=by rw[e6.out];exact hlt
   have c1:J.getD k .nilIface=J[k]:=by rw[zY,zn P];rfl
   have R:=HP.out wr k hlt RB.out;have hv:=e5.out J[k] (xB P)
   rcases HM.out with hnil|⟨b,o,hao,hc⟩
   ·rw[hnil] at P;simp at P
   subst hao;have q:=zi RB.out (hc k P);simp only[c1] at R;obtain⟨u,hu⟩:=Nm (J[k]);rw[hu] at q R hv;obtain⟨f,G⟩:∃x,(cs k).eff=x:=⟨_,rfl⟩;obtain⟨m,L⟩:∃x,(cs k).who.1=x:=⟨_,rfl⟩;obtain⟨p,M⟩:∃x,(cs k).act.1=x:=⟨_,rfl⟩;obtain⟨r,N⟩:∃x,(cs k).on.1=x:=⟨_,rfl⟩;rw[G,L,M,N] at R;have d9:=hid G;have e0:=hid L;have e1:=hid M;have e2:=hid N;clear hu hc c1 G L M N;have b2:xs.length=n*8:=RO.out.1;have b6:=hid b2;clear b2
   have cells:Hid (∀d,Below wr.heap.size wr d->(∃v,d.cell? ⟨w.heap.size,k*8,none⟩=some v)/\(∃v,d.cell? ⟨w.heap.size,k*8+1,none⟩=some v)/\(∃v,d.cell? ⟨w.heap.size,k*8+2,none⟩=some v)/\(∃v,d.cell? ⟨w.heap.size,k*8+3,none⟩=some v)/\(∃v,d.cell? ⟨w.heap.size,k*8+4,none⟩=some v)/\(∃v,d.cell? ⟨w.heap.size,k*8+5,none⟩=some v)/\(∃v,d.cell? ⟨w.heap.size,k*8+6,none⟩=some v)/\(∃v,d.cell? ⟨w.heap.size,k*8+7,none⟩=some v)/\d.frozen? ⟨w.heap.size,k*8,none⟩=false/\d.frozen? ⟨w.heap.size,k*8+1,none⟩=false/\d.frozen? ⟨w.heap.size,k*8+2,none⟩=false/\d.frozen? ⟨w.heap.size,k*8+3,none⟩=false/\d.frozen? ⟨w.heap.size,k*8+4,none⟩=false/\d.frozen? ⟨w.heap.size,k*8+5,none⟩=false/\d.frozen? ⟨w.heap.size,k*8+6,none⟩=false/\d.frozen? ⟨w.heap.size,k*8+7,none⟩=false/\d.cell? ⟨s,k,none⟩=some .nilIface/\d.frozen? ⟨s,k,none⟩=false):=by
    intro d h;have t:=ownsRow_below RO.out h;have e3:=ownsRow_below RE.out h;have hx:=b6.out
    exact⟨⟨_,(t.cellAt _ (by omega)).trans (zn (by omega))⟩,⟨_,(t.cellAt _ (by omega)).trans (zn (by omega))⟩,⟨_,(t.cellAt _ (by omega)).trans (zn (by omega))⟩,⟨_,(t.cellAt _ (by omega)).trans (zn (by omega))⟩,⟨_,(t.cellAt _ (by omega)).trans (zn (by omega))⟩,⟨_,(t.cellAt _ (by omega)).trans (zn (by omega))⟩,⟨_,(t.cellAt _ (by omega)).trans (zn (by omega))⟩,⟨_,(t.cellAt _ (by omega)).trans (zn (by omega))⟩,
     t.frozenAt _,t.frozenAt _,t.frozenAt _,t.frozenAt _,t.frozenAt _,t.frozenAt _,t.frozenAt _,t.frozenAt _,(e3.cellAt k (by omega)).trans (S.out.2.2 k (ze _) hlt),e3.frozenAt k⟩
   have fin:Hid (∀d B C D E x,Below wr.heap.size wr d->FV (c k) x->zz d wr.heap.size B (cs k).who.2->zz d wr.heap.size C (cs k).act.2->zz d wr.heap.size D (cs k).on.2->qR d wr.heap.size E (cs k).ifs ->
     vP c n (k+1) (ys.set k x) /\
     (((((((((d.setCell ⟨w.heap.size,k*8,none⟩ (.string f)).setCell ⟨w.heap.size,k*8+1,none⟩ (.bool m)).setCell ⟨w.heap.size,k*8+2,none⟩ B).setCell ⟨w.heap.size,k*8+3,none⟩ (.bool p)).setCell ⟨w.heap.size,k*8+4,none⟩ C).setCell ⟨w.heap.size,k*8+5,none⟩ (.bool r)).setCell ⟨w.heap.size,k*8+6,none⟩ D).setCell ⟨w.heap.size,k*8+7,none⟩ E).setCell ⟨s,k,none⟩ x).ownsRow w.heap.size 137 8 (.slice (some ⟨w.heap.size,0,none⟩) n n) n ((((((((xs.set (k*8) (.string f)).set (k*8+1) (.bool m)).set (k*8+2) B).set (k*8+3) (.bool p)).set (k*8+4) C).set (k*8+5) (.bool r)).set (k*8+6) D).set (k*8+7) E) /\
     (((((((((d.setCell ⟨w.heap.size,k*8,none⟩ (.string f)).setCell ⟨w.heap.size,k*8+1,none⟩ (.bool m)).setCell ⟨w.heap.size,k*8+2,none⟩ B).setCell ⟨w.heap.size,k*8+3,none⟩ (.bool p)).setCell ⟨w.heap.size,k*8+4,none⟩ C).setCell ⟨w.heap.size,k*8+5,none⟩ (.bool r)).setCell ⟨w.heap.size,k*8+6,none⟩ D).setCell ⟨w.heap.size,k*8+7,none⟩ E).setCell ⟨s,k,none⟩ x).ownsRow w.heap.size 86 1 (.slice (some ⟨s,0,none⟩) n n) n (ys.set k x) /\
     Below w.heap.size w (((((((((d.setCell ⟨w.heap.size,k*8,none⟩ (.string f)).setCell ⟨w.heap.size,k*8+1,none⟩ (.bool m)).setCell ⟨w.heap.size,k*8+2,none⟩ B).setCell ⟨w.heap.size,k*8+3,none⟩ (.bool p)).setCell ⟨w.heap.size,k*8+4,none⟩ C).setCell ⟨w.heap.size,k*8+5,none⟩ (.bool r)).setCell ⟨w.heap.size,k*8+6,none⟩ D).setCell ⟨w.heap.size,k*8+7,none⟩ E).setCell ⟨s,k,none⟩ x) /\
     s<(((((((((d.setCell ⟨w.heap.size,k*8,none⟩ (.string f)).setCell ⟨w.heap.size,k*8+1,none⟩ (.bool m)).setCell ⟨w.heap.size,k*8+2,none⟩ B).setCell ⟨w.heap.size,k*8+3,none⟩ (.bool p)).setCell ⟨w.heap.size,k*8+4,none⟩ C).setCell ⟨w.heap.size,k*8+5,none⟩ (.bool r)).setCell ⟨w.heap.size,k*8+6,none⟩ D).setCell ⟨w.heap.size,k*8+7,none⟩ E).setCell ⟨s,k,none⟩ x).heap.size /\
     (∀j,j<k+1->Zf (((((((((d.setCell ⟨w.heap.size,k*8,none⟩ (.string f)).setCell ⟨w.heap.size,k*8+1,none⟩ (.bool m)).setCell ⟨w.heap.size,k*8+2,none⟩ B).setCell ⟨w.heap.size,k*8+3,none⟩ (.bool p)).setCell ⟨w.heap.size,k*8+4,none⟩ C).setCell ⟨w.heap.size,k*8+5,none⟩ (.bool r)).setCell ⟨w.heap.size,k*8+6,none⟩ D).setCell ⟨w.heap.size,k*8+7,none⟩ E).setCell ⟨s,k,none⟩ x) (s+1) ((((((((xs.set (k*8) (.string f)).set (k*8+1) (.bool m)).set (k*8+2) B).set (k*8+3) (.bool p)).set (k*8+4) C).set (k*8+5) (.bool r)).set (k*8+6) D).set (k*8+7) E) j (cs j))):=by
    intro d B C D E x h hx Z g2 g3 g4;have t:=ownsRow_below RO.out h;have e3:=ownsRow_below RE.out h;have o4:=((((((((t.stored (k*8) (.string f)).1.stored (k*8+1) (.bool m)).1.stored (k*8+2) B).1.stored (k*8+3) (.bool p)).1.stored (k*8+4) C).1.stored (k*8+5) (.bool r)).1.stored (k*8+6) D).1.stored (k*8+7) E).1;have A:(Value.slice (some ⟨s,0,none⟩) n n).ownBlock≠some w.heap.size:=by simp only[Value.ownBlock];intro e;simp only[Option.some.injEq] at e;exact c4 e.symm
    have e4:=(xE (xE (xE (xE (xE (xE (xE (xE e3 (a:=⟨w.heap.size,k*8,none⟩) A (.string f)) (a:=⟨w.heap.size,k*8+1,none⟩) A (.bool m)) (a:=⟨w.heap.size,k*8+2,none⟩) A B) (a:=⟨w.heap.size,k*8+3,none⟩) A (.bool p)) (a:=⟨w.heap.size,k*8+4,none⟩) A C) (a:=⟨w.heap.size,k*8+5,none⟩) A (.bool r)) (a:=⟨w.heap.size,k*8+6,none⟩) A D) (a:=⟨w.heap.size,k*8+7,none⟩) A E);have hz:=h.size;have b2:=b6.out;refine⟨S.out.set hlt hx,oP o4 (by simp only[Value.ownBlock];intro e;simp only[Option.some.injEq] at e;exact c4 e) _ _,(e4.stored k x).1,(((((((((RB.out.trans (h.mono RB.out.size)).setCell (ze _) _).setCell (ze _) _).setCell (ze _) _).setCell (ze _) _).setCell (ze _) _).setCell (ze _) _).setCell (ze _) _).setCell (ze _) _).setCell (by show w.heap.size<=s;omega) _,by simp[World.setCell];omega,λj W=>?_⟩
    by_cases hjk:j=k
    ·subst hjk;refine⟨B,C,D,E,?_,?_,?_,?_,?_,?_,?_,?_,(zU (zU (zU (zU (zU (zU (zU (zU (zU (zz.mono Z (by omega)) (by omega) _ _) (by omega) _ _) (by omega) _ _) (by omega) _ _) (by omega) _ _) (by omega) _ _) (by omega) _ _) (by omega) _ _) (by omega) _ _),(zU (zU (zU (zU (zU (zU (zU (zU (zU (zz.mono g2 (by omega)) (by omega) _ _) (by omega) _ _) (by omega) _ _) (by omega) _ _) (by omega) _ _) (by omega) _ _) (by omega) _ _) (by omega) _ _) (by omega) _ _),(zU (zU (zU (zU (zU (zU (zU (zU (zU (zz.mono g3 (by omega)) (by omega) _ _) (by omega) _ _) (by omega) _ _) (by omega) _ _) (by omega) _ _) (by omega) _ _) (by omega) _ _) (by omega) _ _) (by omega) _ _),((((((((((g4.mono (by omega)).set (by omega) _ _).set (by omega) _ _).set (by omega) _ _).set (by omega) _ _).set (by omega) _ _).set (by omega) _ _).set (by omega) _ _).set (by omega) _ _).set (by omega) _ _)⟩
     ·simp[List.getElem?_set,d9.out];omega
     ·simp[List.getElem?_set,e0.out];omega
     ·simp[List.getElem?_set];omega
     ·simp[List.getElem?_set,e1.out];omega
     ·simp[List.getElem?_set];omega
     ·simp[List.getElem?_set,e2.out];omega
     ·simp[List.getElem?_set];omega
     ·simp[List.getElem?_set];omega
    ·have e8:=(((((((((((RC.out j (by omega)).below h).set (b:=w.heap.size) (by omega) (k*8) (.string f)).set (b:=w.heap.size) (by omega) (k*8+1) (.bool m)).set (b:=w.heap.size) (by omega) (k*8+2) B).set (b:=w.heap.size) (by omega) (k*8+3) (.bool p)).set (b:=w.heap.size) (by omega) (k*8+4) C).set (b:=w.heap.size) (by omega) (k*8+5) (.bool r)).set (b:=w.heap.size) (by omega) (k*8+6) D).set (b:=w.heap.size) (by omega) (k*8+7) E).set (b:=s) (by omega) k x);obtain⟨m1,m2,m3,mc,h0,h1,h2,h3,h4,h5,h6,h7,n1,n2,n3,n4⟩:=e8;refine⟨m1,m2,m3,mc,?_,?_,?_,?_,?_,?_,?_,?_,n1,n2,n3,n4⟩
     ·rw[zt,za (by omega),zt,za (by omega),zt,za (by omega),zt,za (by omega),zt,za (by omega),zt,za (by omega),zt,za (by omega),zt,za (by omega)];exact h0
     ·rw[zt,za (by omega),zt,za (by omega),zt,za (by omega),zt,za (by omega),zt,za (by omega),zt,za (by omega),zt,za (by omega),zt,za (by omega)];exact h1
     ·rw[zt,za (by omega),zt,za (by omega),zt,za (by omega),zt,za (by omega),zt,za (by omega),zt,za (by omega),zt,za (by omega),zt,za (by omega)];exact h2
     ·rw[zt,za (by omega),zt,za (by omega),zt,za (by omega),zt,za (by omega),zt,za (by omega),zt,za (by omega),zt,za (by omega),zt,za (by omega)];exact h3
     ·rw[zt,za (by omega),zt,za (by omega),zt,za (by omega),zt,za (by omega),zt,za (by omega),zt,za (by omega),zt,za (by omega),zt,za (by omega)];exact h4
     ·rw[zt,za (by omega),zt,za (by omega),zt,za (by omega),zt,za (by omega),zt,za (by omega),zt,za (by omega),zt,za (by omega),zt,za (by omega)];exact h5
     ·rw[zt,za (by omega),zt,za (by omega),zt,za (by omega),zt,za (by omega),zt,za (by omega),zt,za (by omega),zt,za (by omega),zt,za (by omega)];exact h6
     ·rw[zt,za (by omega),zt,za (by omega),zt,za (by omega),zt,za (by omega),zt,za (by omega),zt,za (by omega),zt,za (by omega),zt,za (by omega)];exact h7
   rcases hv with rfl|⟨T,y,rfl⟩
   ·go_wp2_with (go_at_fn g;refine R.mono ?_;rintro e d ⟨B,C,D,E,x,rfl,O,h,Z,g2,g3,g4⟩;obtain⟨⟨v,d0⟩,⟨a1,d1⟩,⟨a2,d2⟩,⟨a3,d3⟩,⟨a4,d4⟩,⟨a5,d5⟩,⟨a6,d6⟩,⟨a7,d7⟩,z0,z1,z2,z3,z4,z5,z6,z7,d8,z8⟩:=cells.out d h;have l:=hid (fin.out d B C D E x h O Z g2 g3 g4);obtain⟨f8,g6,rfl⟩:=qG Z;obtain⟨f9,g7,rfl⟩:=qG g2;obtain⟨g0,g8,rfl⟩:=qG g3;obtain⟨g5,g9,rfl⟩:=g4.slice;rcases O.form with rfl|⟨T,z,rfl⟩)
    all_goals
     go_roundw
     case rel=>exact⟨k+1,_,_,by omega,by go_num,l.out.1,l.out.2.1,l.out.2.2.1,l.out.2.2.2.1,l.out.2.2.2.2.1,l.out.2.2.2.2.2⟩
     case measure=>simp[intOf];omega
   ·go_wp2_with (go_at_fn g;refine R.mono ?_;rintro e d ⟨B,C,D,E,x,rfl,O,h,Z,g2,g3,g4⟩;obtain⟨⟨v,d0⟩,⟨a1,d1⟩,⟨a2,d2⟩,⟨a3,d3⟩,⟨a4,d4⟩,⟨a5,d5⟩,⟨a6,d6⟩,⟨a7,d7⟩,z0,z1,z2,z3,z4,z5,z6,z7,d8,z8⟩:=cells.out d h;have l:=hid (fin.out d B C D E x h O Z g2 g3 g4);obtain⟨f8,g6,rfl⟩:=qG Z;obtain⟨f9,g7,rfl⟩:=qG g2;obtain⟨g0,g8,rfl⟩:=qG g3;obtain⟨g5,g9,rfl⟩:=g4.slice;rcases O.form with rfl|⟨T,z,rfl⟩)
    all_goals
     go_roundw
     case rel=>exact⟨k+1,_,_,by omega,by go_num,l.out.1,l.out.2.1,l.out.2.2.1,l.out.2.2.2.1,l.out.2.2.2.2.1,l.out.2.2.2.2.2⟩
     case measure=>simp[intOf];omega
  ·have e9:k=n:=by omega
   subst e9;have hE:=S.out.done;have hl:=S.out.1
   go_wp2
   go_ret2;refine⟨_,_,_,_,ys,rfl,hl,?_,hE,RB.out,xs,?_,?_⟩
   ·exact .inr ⟨s,0,rfl,λj W=>by rw[yO];exact (RE.out.cellAt j (by omega)).trans (zn W)⟩
   ·rw[qB,Qb];exact RO.out
   ·intro j W;rw[qB,Qb] at W;rw[Kl,fE];exact (RC.out j W).mono (by omega)
inductive Z6 (EL:Value):Int->Nat->Value->Prop
 | ok:Z6 EL 0 0 .nilIface
 | long:Z6 EL 1 0 EL
 | text (c:Int) (q:Nat):Rd.Code c->Z6 EL c q (kJ c q)
 | doc (p:BY):Z6 EL 5 0 (.iface 129 (.agg #[.string p]))
 | shape (n:Nat) (p:BY):Z6 EL 5 n (.iface 143 (.agg #[.int .i64 (n:Int),.iface 129 (.agg #[.string p])]))
 | pat (n:Nat) (k:Int):Z6 EL 6 n (.iface 143 (.agg #[.int .i64 (n:Int),.iface 216 (.agg #[.int .i64 k])]))
def XJ(w:World)(EL:Value)(a:Int×Nat)(d:List qp)(e:Ending)(w':World):Prop:=
 ∃b n c u,e = .returned (.tuple #[.agg #[.slice b n c],u])/\Z6 EL a.1 a.2 u/\Below w.heap.size w w'/\(a.1=0->jc w' w.heap.size (.slice b n c) d)
structure QF (w:World) (EL:Value):Prop where
 p:Qh w
 seq:qx w
 long:w.cell? ⟨0,0,none⟩=some EL
theorem QF.below{w w':World}{EL:Value}(h:QF w EL)(hb:Below w.heap.size w w'):QF w' EL:=⟨h.p.below hb,h.seq.same (hb.block _ h.seq.lt),zi hb h.long⟩
def Zw:Obj := .cells #[.slice none 0 0] 84
theorem DU(b:List Rd.V)(a:List Value)(m:Option Addr)(cap:Nat)(w:World)(t:Qh w)(o:a.length=b.length)(z:a.length<=1000)
  (y:jA w m a)(B:∀(j:Nat) (v:Rd.V) (u:Value),b[j]?=some v->a[j]?=some u->OAt w (some v) u)(x:∀v ∈ b,Rd.Good 4000 v) :
  Calls prog 54 #[.slice m a.length cap,.func (.func 55) #[] #[]] w λe w'=>
   ∃(k g:Option Addr) (l n:Nat) (f:List Value),e = .returned (.tuple #[.slice k a.length l,.slice g a.length n])/\f.length=a.length/\jA w' g f/\FVs (b.map Rd.yu) f/\Below w.heap.size w w'/\jc w' w.heap.size (.slice k a.length l) (b.map jm):=by
 have d:∀j,(h:j<a.length)->OAt w (some (b.getD j (.word false))) a[j]:=λj h=>by
  have c:j<b.length:=by omega
  rw[zY,zn c];exact B j _ _ (zn c) (zn h)
 refine (DT a m cap 55 #[] (λj=>jm (b.getD j (.word false))) (λj=>Rd.yu (b.getD j (.word false))) w z (xg func55 (by kernel_rfl) rfl) y ?_ ?_).mono ?_
 ·intro u A;obtain⟨j,i,rfl⟩:=Qa A;exact (d j i).form
 ·intro W j i hb;have c:j<b.length:=by omega
  have:=Ou (b.getD j (.word false)) a[j] W (t.below hb) ((d j i).below hb) (x _ (by rw[zY,zn c];exact xB c))
  rw[show a[j]=a.getD j .nilIface by rw[zY,zn i];rfl] at this;exact this
 ·rintro e w' ⟨k,g,l,n,f,rfl,r,c,p,s,q⟩;refine⟨k,g,l,n,f,rfl,r,c,?_,s,?_⟩
  ·rw[o,Y8] at p;exact p
  ·rw[o,Y8] at q;rw[o];exact q
theorem one_cell{w W:World}{t:TypeId}{v:Value}(hb:Below (w.alloc (.cells #[v] t)).heap.size (w.alloc (.cells #[v] t)) W):W.cell? ⟨w.heap.size,0,none⟩=some v/\W.frozen? ⟨w.heap.size,0,none⟩=false:=by
 have a:=yT hb;exact⟨(zg a 0).1,(zg a 0).2⟩
theorem Dt(s:BY)(w:World)(EL:Value)(T:TypeId)(y:Value)(d:EL = .iface T y)(f:QF w EL)(g:4000<s.size) :
  Calls prog 25 #[.string s] w (XJ w EL (1,0) []):=by
 have a:=nbl w Zw;have c:=Ow s (w.alloc Zw) EL (f.below a).long g;subst d;unfold Zw at a c;clear f g;go_enter func25,ntmps25
 go_wp2_with (go_at_call 52;refine c.mono ?_;rintro e w1 ⟨rfl,b⟩;obtain⟨i,j⟩:=one_cell b)
 exact zN (v := .tuple #[.agg #[.slice none 0 0],.iface T y]) (by simp[results,results25,go_sem,i]) rfl ⟨_,_,_,_,rfl,.long,(a.trans (b.mono (by simp))).setCell (ze _) _,λh=>by simp at h⟩
theorem Dq(s:BY)(w:World)(EL:Value)(c:Int)(q:Nat)(j:QF w EL)(l:s.size<=4000)(i:Rd.yC s.data.toList = .err c q) :
  Calls prog 25 #[.string s] w (XJ w EL (c,q) []):=by
 have b:=nbl w Zw;have d:=di s (w.alloc Zw) (j.below b).seq l;rw[i] at d;have a:=Rd.UH i;have m:=Z6.text (EL:=EL) c q a;obtain⟨T,k⟩:=YR c q;unfold Qi at d;simp only at d;rw[k] at d m;have g:c≠0:=by rcases a with rfl|rfl|rfl<;>decide
 unfold Zw at b d;clear j l i k a;go_enter func25,ntmps25
 go_wp2_with (go_at_call 52;refine d.mono ?_;rintro e w1 ⟨rfl,f⟩;obtain⟨n,o⟩:=one_cell f)
 exact zN (v := .tuple #[.agg #[.slice none 0 0],.iface T (.agg #[.int .i64 (q:Int)])]) (by simp[results,results25,go_sem,n]) rfl ⟨_,_,_,_,rfl,m,(b.trans (f.mono (by simp))).setCell (ze _) _,λh=>absurd h g⟩
end Go.Proofs.YtagnlbgbnfnapaaGreatDoor
