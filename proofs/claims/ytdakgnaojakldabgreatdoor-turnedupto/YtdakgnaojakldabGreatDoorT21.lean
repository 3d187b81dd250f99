/- P -/
import Derived.Test.YtdakgnaojakldabGreatDoorT17
import Derived.Test.YtdakgnaojakldabGreatDoorT20
open Go.Proofs.Tryz
set_option maxRecDepth 100000
set_option maxHeartbeats 1000000
namespace Go.Proofs.YtdakgnaojakldabGreatDoor
open Go.RowKit
def uz(w:World)(base:Nat)(xs:List Value)(j:Nat)(s:zD):Prop:=
 ∃a b c d,xs[j*8]?=some (.string s.eff)/\xs[j*8+1]?=some (.bool s.who.1)/\xs[j*8+2]?=some a/\xs[j*8+3]?=some (.bool s.act.1)/\xs[j*8+4]?=some b/\xs[j*8+5]?=some (.bool s.on.1)/\xs[j*8+6]?=some c/\xs[j*8+7]?=some d /\
  zO w base a s.who.2/\zO w base b s.act.2/\zO w base c s.on.2/\qJ w base d s.ifs
theorem uz.below{w b:World}{base:Nat}{xs:List Value}{j:Nat}{s:zD}(h:uz w base xs j s)(a:Below w.heap.size w b):uz b base xs j s:=by
 obtain⟨q,r,t,u,g,i,k,l,m,n,o,p,c,d,e,f⟩:=h;exact⟨q,r,t,u,g,i,k,l,m,n,o,p,c.below a,d.below a,e.below a,f.below a⟩
theorem uz.set{w:World}{base:Nat}{xs:List Value}{j:Nat}{s:zD}(h:uz w base xs j s){b:Nat}(a:b<base)(o:Nat)(u:Value):uz (w.setCell ⟨b,o,none⟩ u) base xs j s:=by
 obtain⟨r,t,v,x,g,i,k,l,m,n,p,q,c,d,e,f⟩:=h;exact⟨r,t,v,x,g,i,k,l,m,n,p,q,zI c a o u,zI d a o u,zI e a o u,f.set a o u⟩
theorem uz.mono{w:World}{base a:Nat}{xs:List Value}{j:Nat}{s:zD}(h:uz w base xs j s)(b:a<=base):uz w a xs j s:=by
 obtain⟨q,r,t,u,g,i,k,l,m,n,o,p,c,d,e,f⟩:=h;exact⟨q,r,t,u,g,i,k,l,m,n,o,p,c.mono b,d.mono b,e.mono b,f.mono b⟩
def yD(w:World)(base:Nat)(b:Value)(a:List zD):Prop:=
 ∃xs,w.ownsRow base 104 8 b a.length xs/\∀j,(h:j<a.length)->uz w base xs j a[j]
def nU(g:Nat)(k:Array Value)(i:Nat->Value)(n:Nat)(cs:Nat->zD)(c:Nat->Nat)(w:World):Prop:=
 ∀W j,j<n->Below w.heap.size w W->Calls prog g (#[i j]++k) W λe a=>
  ∃b d f h u,e = .returned (.tuple #[.agg #[.string (cs j).eff,.bool (cs j).who.1,b,.bool (cs j).act.1,d,.bool (cs j).on.1,f,h],u])/\FV (c j) u/\Below W.heap.size W a /\
   zO a W.heap.size b (cs j).who.2/\zO a W.heap.size d (cs j).act.2/\zO a W.heap.size f (cs j).on.2/\qJ a W.heap.size h (cs j).ifs
def nP(w:World)(n:Nat)(cs:Nat->zD)(c:Nat->Nat)(e:Ending)(a:World):Prop:=
 ∃(f d:Option Addr) (g h:Nat) (b:List Value),e = .returned (.tuple #[.slice f n g,.slice d n h])/\b.length=n/\yt a d b/\FVs ((List.range n).map c) b/\Below w.heap.size w a /\
  yD a w.heap.size (.slice f n g) ((List.range n).map cs)
theorem Ec:(prog.info? 104).map (λi=>(i.zero,i.size,i.bytes))=some (some (.agg #[.string ⟨#[]⟩,.bool false,.slice none 0 0,.bool false,.slice none 0 0,.bool false,.slice none 0 0,.slice none 0 0]),8,136):=by kernel_rfl
theorem il{w:World}{base:Nat}{e:TypeId}{v:Value}{n:Nat}{xs:List Value}(h:w.ownsRow base e 8 v n xs){b:Nat}(c:v.ownBlock≠some b)(o:Nat)(u:Value):(w.setCell ⟨b,o,none⟩ u).ownsRow base e 8 v n xs:=
 ownsRow_setCell_other h (a:=⟨b,o,none⟩) c u
theorem AQ(J:List Value)(ao:Option Addr)(cap g:Nat)(lb:Array Value)(cs:Nat->zD)(c:Nat->Nat)(w:World)(hn:J.length<=1000)(eg:∀args w,(callFunc g args).run prog w = .ok (.enter g args) w)
  (hm:yt w ao J)(c2:∀u ∈ J,u = .nilIface\/∃T x,u = .iface T x)(hp:nU g lb (λj=>J.getD j .nilIface) J.length cs c w) :
  Calls prog 32 #[.slice ao J.length cap,.func (.func g) #[] lb] w (nP w J.length cs c):=by
 obtain⟨i0,hi,f3,f4,f5⟩:=info_parts Ec;obtain⟨i1,W,f2,hy1,hy2⟩:=info_parts (show (prog.info? 70).map (λi=>(i.zero,i.size,i.bytes))=some (some .nilIface,1,16) by kernel_rfl);obtain⟨n,b1⟩:=Nm J.length;rw[b1] at hn hp |-;have HM:=hid hm;have e6:=hid c2;have HP:=hid hp;have e7:=hid b1;clear hm c2 hp b1;go_enter func32,ntmps32
 go_wp2_with (at_make;refine wpList_make_full _ rfl _ _ 66 rfl w.heap.size 104 i0 (.agg #[.string ⟨#[]⟩,.bool false,.slice none 0 0,.bool false,.slice none 0 0,.bool false,.slice none 0 0,.slice none 0 0]) 8 underlying66 hi f3 f4 _ _ _ _ n rfl rfl ?_ ?_ ?_ ?_ ?_ ?_)
 ·omega
 ·omega
 ·rw[f5];omega
 ·unfold maxLen;omega
 ·omega
 intro w1 I K;obtain⟨zs,c6⟩:=Nm ((madeCells #[.string ⟨#[]⟩,.bool false,.slice none 0 0,.bool false,.slice none 0 0,.bool false,.slice none 0 0,.slice none 0 0] (n*8)).toList);rw[c6] at I;have H:Below w.heap.size w w1:=(Below.refl _ w).grown K (Nat.le_refl _) (λk hk=>by cases hk);clear c6
 go_wp2_with (at_make;refine wpList_make_full _ rfl _ _ 97 rfl w.heap.size 70 i1 .nilIface 1 underlying97 W f2 hy1 _ _ _ _ n rfl rfl ?_ ?_ ?_ ?_ ?_ ?_)
 ·omega
 ·omega
 ·rw[hy2];omega
 ·unfold maxLen;omega
 ·have:=H.size;omega
 intro w2 Y F
 have U:w2.ownsRow w.heap.size 70 1 (.slice (some ⟨w1.heap.size,0,none⟩) n n) n (List.replicate n .nilIface):=by
  rw[<- toList_madeCells_one];exact Y
 have X:=I.kept F (.inr (by simp[Value.ownBlock]));have c3:w.heap.size<w1.heap.size:=(I.lt _ rfl).2;have V:Below w.heap.size w w2:=H.grown F H.size (λk hk=>by cases hk);have Q:w1.heap.size<w2.heap.size:=(U.lt _ rfl).2;obtain⟨s,c0⟩:=Nm w1.heap.size;rw[c0] at U c3 Q |-;have c4:w.heap.size≠s:=by omega
 have b7:=hid X;have b8:=hid U;have b4:=hid V;have b5:=hid Q;clear Y F K I H X U V c0 Q;go_wp2_with fail
 go_loopw [18] (λiv wr=>∃(k:Nat) (xs ys:List Value),k<=n/\iv = .int .i64 k/\jy c n k ys/\wr.ownsRow w.heap.size 104 8 (.slice (some ⟨w.heap.size,0,none⟩) n n) n xs/\wr.ownsRow w.heap.size 70 1 (.slice (some ⟨s,0,none⟩) n n) n ys/\Below w.heap.size w wr/\s<wr.heap.size/\(∀j,j<k->uz wr (s+1) xs j (cs j))) (λiv _=>n-(intOf iv).toNat)
 case atStart=>exact⟨0,_,_,Nat.zero_le _,rfl,jy.start c n,b7.out,b8.out,b4.out,b5.out,λj W=>by omega⟩
 case round=>
  obtain⟨k,xs,ys,hk,rfl,c5,ro,re,rb,o5,rc⟩:=hrel;clear b7 b8 b4 b5;have RO:=hid ro;have RE:=hid re;have RB:=hid rb;have S:=hid c5;have RC:=hid rc;clear ro re rb c5 rc
  by_cases hlt:k<n
  ·have P:k<J.length:=by rw[e7.out];exact hlt
   have c1:J.getD k .nilIface=J[k]:=by rw[List.getD_eq_getElem?_getD,List.getElem?_eq_getElem P];rfl
   have R:=HP.out wr k hlt RB.out;have hv:=e6.out J[k] (List.getElem_mem P)
   rcases HM.out with hnil|⟨b,o,hao,hc⟩
   ·rw[hnil] at P;simp at P
   subst hao;have q:=zb RB.out (hc k P);simp only[c1] at R;obtain⟨u,hu⟩:=Nm (J[k]);rw[hu] at q R hv;obtain⟨f,G⟩:∃x,(cs k).eff=x:=⟨_,rfl⟩;obtain⟨m,L⟩:∃x,(cs k).who.1=x:=⟨_,rfl⟩;obtain⟨p,M⟩:∃x,(cs k).act.1=x:=⟨_,rfl⟩;obtain⟨r,N⟩:∃x,(cs k).on.1=x:=⟨_,rfl⟩;rw[G,L,M,N] at R;have e0:=hid G;have e1:=hid L;have e2:=hid M;have e5:=hid N;clear hu hc c1 G L M N;have b2:xs.length=n*8:=RO.out.1;have b6:=hid b2;clear b2
   have cells:Hid (∀d,Below wr.heap.size wr d->(∃v,d.cell? ⟨w.heap.size,k*8,none⟩=some v)/\(∃v,d.cell? ⟨w.heap.size,k*8+1,none⟩=some v)/\(∃v,d.cell? ⟨w.heap.size,k*8+2,none⟩=some v)/\(∃v,d.cell? ⟨w.heap.size,k*8+3,none⟩=some v)/\(∃v,d.cell? ⟨w.heap.size,k*8+4,none⟩=some v)/\(∃v,d.cell? ⟨w.heap.size,k*8+5,none⟩=some v)/\(∃v,d.cell? ⟨w.heap.size,k*8+6,none⟩=some v)/\(∃v,d.cell? ⟨w.heap.size,k*8+7,none⟩=some v)/\d.frozen? ⟨w.heap.size,k*8,none⟩=false/\d.frozen? ⟨w.heap.size,k*8+1,none⟩=false/\d.frozen? ⟨w.heap.size,k*8+2,none⟩=false/\d.frozen? ⟨w.heap.size,k*8+3,none⟩=false/\d.frozen? ⟨w.heap.size,k*8+4,none⟩=false/\d.frozen? ⟨w.heap.size,k*8+5,none⟩=false/\d.frozen? ⟨w.heap.size,k*8+6,none⟩=false/\d.frozen? ⟨w.heap.size,k*8+7,none⟩=false/\d.cell? ⟨s,k,none⟩=some .nilIface/\d.frozen? ⟨s,k,none⟩=false):=by
    intro d h;have t:=ownsRow_below RO.out h;have e3:=ownsRow_below RE.out h;have hx:=b6.out
    exact⟨⟨_,(t.cellAt _ (by omega)).trans (List.getElem?_eq_getElem (by omega))⟩,⟨_,(t.cellAt _ (by omega)).trans (List.getElem?_eq_getElem (by omega))⟩,⟨_,(t.cellAt _ (by omega)).trans (List.getElem?_eq_getElem (by omega))⟩,⟨_,(t.cellAt _ (by omega)).trans (List.getElem?_eq_getElem (by omega))⟩,⟨_,(t.cellAt _ (by omega)).trans (List.getElem?_eq_getElem (by omega))⟩,⟨_,(t.cellAt _ (by omega)).trans (List.getElem?_eq_getElem (by omega))⟩,⟨_,(t.cellAt _ (by omega)).trans (List.getElem?_eq_getElem (by omega))⟩,⟨_,(t.cellAt _ (by omega)).trans (List.getElem?_eq_getElem (by omega))⟩,
     t.frozenAt _,t.frozenAt _,t.frozenAt _,t.frozenAt _,t.frozenAt _,t.frozenAt _,t.frozenAt _,t.frozenAt _,(e3.cellAt k (by omega)).trans (S.out.2.2 k (Nat.le_refl _) hlt),e3.frozenAt k⟩
   have fin:Hid (∀d B C D E x,Below wr.heap.size wr d->FV (c k) x->zO d wr.heap.size B (cs k).who.2->zO d wr.heap.size C (cs k).act.2->zO d wr.heap.size D (cs k).on.2->qJ d wr.heap.size E (cs k).ifs ->
     jy c n (k+1) (ys.set k x) /\
     (((((((((d.setCell ⟨w.heap.size,k*8,none⟩ (.string f)).setCell ⟨w.heap.size,k*8+1,none⟩ (.bool m)).setCell ⟨w.heap.size,k*8+2,none⟩ B).setCell ⟨w.heap.size,k*8+3,none⟩ (.bool p)).setCell ⟨w.heap.size,k*8+4,none⟩ C).setCell ⟨w.heap.size,k*8+5,none⟩ (.bool r)).setCell ⟨w.heap.size,k*8+6,none⟩ D).setCell ⟨w.heap.size,k*8+7,none⟩ E).setCell ⟨s,k,none⟩ x).ownsRow w.heap.size 104 8 (.slice (some ⟨w.heap.size,0,none⟩) n n) n ((((((((xs.set (k*8) (.string f)).set (k*8+1) (.bool m)).set (k*8+2) B).set (k*8+3) (.bool p)).set (k*8+4) C).set (k*8+5) (.bool r)).set (k*8+6) D).set (k*8+7) E) /\
     (((((((((d.setCell ⟨w.heap.size,k*8,none⟩ (.string f)).setCell ⟨w.heap.size,k*8+1,none⟩ (.bool m)).setCell ⟨w.heap.size,k*8+2,none⟩ B).setCell ⟨w.heap.size,k*8+3,none⟩ (.bool p)).setCell ⟨w.heap.size,k*8+4,none⟩ C).setCell ⟨w.heap.size,k*8+5,none⟩ (.bool r)).setCell ⟨w.heap.size,k*8+6,none⟩ D).setCell ⟨w.heap.size,k*8+7,none⟩ E).setCell ⟨s,k,none⟩ x).ownsRow w.heap.size 70 1 (.slice (some ⟨s,0,none⟩) n n) n (ys.set k x) /\
     Below w.heap.size w (((((((((d.setCell ⟨w.heap.size,k*8,none⟩ (.string f)).setCell ⟨w.heap.size,k*8+1,none⟩ (.bool m)).setCell ⟨w.heap.size,k*8+2,none⟩ B).setCell ⟨w.heap.size,k*8+3,none⟩ (.bool p)).setCell ⟨w.heap.size,k*8+4,none⟩ C).setCell ⟨w.heap.size,k*8+5,none⟩ (.bool r)).setCell ⟨w.heap.size,k*8+6,none⟩ D).setCell ⟨w.heap.size,k*8+7,none⟩ E).setCell ⟨s,k,none⟩ x) /\
     s<(((((((((d.setCell ⟨w.heap.size,k*8,none⟩ (.string f)).setCell ⟨w.heap.size,k*8+1,none⟩ (.bool m)).setCell ⟨w.heap.size,k*8+2,none⟩ B).setCell ⟨w.heap.size,k*8+3,none⟩ (.bool p)).setCell ⟨w.heap.size,k*8+4,none⟩ C).setCell ⟨w.heap.size,k*8+5,none⟩ (.bool r)).setCell ⟨w.heap.size,k*8+6,none⟩ D).setCell ⟨w.heap.size,k*8+7,none⟩ E).setCell ⟨s,k,none⟩ x).heap.size /\
     (∀j,j<k+1->uz (((((((((d.setCell ⟨w.heap.size,k*8,none⟩ (.string f)).setCell ⟨w.heap.size,k*8+1,none⟩ (.bool m)).setCell ⟨w.heap.size,k*8+2,none⟩ B).setCell ⟨w.heap.size,k*8+3,none⟩ (.bool p)).setCell ⟨w.heap.size,k*8+4,none⟩ C).setCell ⟨w.heap.size,k*8+5,none⟩ (.bool r)).setCell ⟨w.heap.size,k*8+6,none⟩ D).setCell ⟨w.heap.size,k*8+7,none⟩ E).setCell ⟨s,k,none⟩ x) (s+1) ((((((((xs.set (k*8) (.string f)).set (k*8+1) (.bool m)).set (k*8+2) B).set (k*8+3) (.bool p)).set (k*8+4) C).set (k*8+5) (.bool r)).set (k*8+6) D).set (k*8+7) E) j (cs j))):=by
    intro d B C D E x h hx Z g2 g3 g4;have t:=ownsRow_below RO.out h;have e3:=ownsRow_below RE.out h;have o4:=((((((((t.stored (k*8) (.string f)).1.stored (k*8+1) (.bool m)).1.stored (k*8+2) B).1.stored (k*8+3) (.bool p)).1.stored (k*8+4) C).1.stored (k*8+5) (.bool r)).1.stored (k*8+6) D).1.stored (k*8+7) E).1;have A:(Value.slice (some ⟨s,0,none⟩) n n).ownBlock≠some w.heap.size:=by simp only[Value.ownBlock];intro e;simp only[Option.some.injEq] at e;exact c4 e.symm
    have e4:=(ownsRow_setCell_other (ownsRow_setCell_other (ownsRow_setCell_other (ownsRow_setCell_other (ownsRow_setCell_other (ownsRow_setCell_other (ownsRow_setCell_other (ownsRow_setCell_other e3 (a:=⟨w.heap.size,k*8,none⟩) A (.string f)) (a:=⟨w.heap.size,k*8+1,none⟩) A (.bool m)) (a:=⟨w.heap.size,k*8+2,none⟩) A B) (a:=⟨w.heap.size,k*8+3,none⟩) A (.bool p)) (a:=⟨w.heap.size,k*8+4,none⟩) A C) (a:=⟨w.heap.size,k*8+5,none⟩) A (.bool r)) (a:=⟨w.heap.size,k*8+6,none⟩) A D) (a:=⟨w.heap.size,k*8+7,none⟩) A E);have hz:=h.size;have b2:=b6.out;refine⟨S.out.set hlt hx,il o4 (by simp only[Value.ownBlock];intro e;simp only[Option.some.injEq] at e;exact c4 e) _ _,(e4.stored k x).1,(((((((((RB.out.trans (h.mono RB.out.size)).setCell (Nat.le_refl _) _).setCell (Nat.le_refl _) _).setCell (Nat.le_refl _) _).setCell (Nat.le_refl _) _).setCell (Nat.le_refl _) _).setCell (Nat.le_refl _) _).setCell (Nat.le_refl _) _).setCell (Nat.le_refl _) _).setCell (by show w.heap.size<=s;omega) _,by simp[World.setCell];omega,λj W=>?_⟩
    by_cases hjk:j=k
    ·subst hjk;refine⟨B,C,D,E,?_,?_,?_,?_,?_,?_,?_,?_,(zI (zI (zI (zI (zI (zI (zI (zI (zI (zO.mono Z (by omega)) (by omega) _ _) (by omega) _ _) (by omega) _ _) (by omega) _ _) (by omega) _ _) (by omega) _ _) (by omega) _ _) (by omega) _ _) (by omega) _ _),(zI (zI (zI (zI (zI (zI (zI (zI (zI (zO.mono g2 (by omega)) (by omega) _ _) (by omega) _ _) (by omega) _ _) (by omega) _ _) (by omega) _ _) (by omega) _ _) (by omega) _ _) (by omega) _ _) (by omega) _ _),(zI (zI (zI (zI (zI (zI (zI (zI (zI (zO.mono g3 (by omega)) (by omega) _ _) (by omega) _ _) (by omega) _ _) (by omega) _ _) (by omega) _ _) (by omega) _ _) (by omega) _ _) (by omega) _ _) (by omega) _ _),((((((((((g4.mono (by omega)).set (by omega) _ _).set (by omega) _ _).set (by omega) _ _).set (by omega) _ _).set (by omega) _ _).set (by omega) _ _).set (by omega) _ _).set (by omega) _ _).set (by omega) _ _)⟩
     ·simp[List.getElem?_set,e0.out];omega
     ·simp[List.getElem?_set,e1.out];omega
     ·simp[List.getElem?_set];omega
     ·simp[List.getElem?_set,e2.out];omega
     ·simp[List.getElem?_set];omega
     ·simp[List.getElem?_set,e5.out];omega
     ·simp[List.getElem?_set];omega
     ·simp[List.getElem?_set];omega
    ·have e9:=(((((((((((RC.out j (by omega)).below h).set (b:=w.heap.size) (by omega) (k*8) (.string f)).set (b:=w.heap.size) (by omega) (k*8+1) (.bool m)).set (b:=w.heap.size) (by omega) (k*8+2) B).set (b:=w.heap.size) (by omega) (k*8+3) (.bool p)).set (b:=w.heap.size) (by omega) (k*8+4) C).set (b:=w.heap.size) (by omega) (k*8+5) (.bool r)).set (b:=w.heap.size) (by omega) (k*8+6) D).set (b:=w.heap.size) (by omega) (k*8+7) E).set (b:=s) (by omega) k x);obtain⟨m1,m2,m3,mc,h0,h1,h2,h3,h4,h5,h6,h7,n1,n2,n3,n4⟩:=e9;refine⟨m1,m2,m3,mc,?_,?_,?_,?_,?_,?_,?_,?_,n1,n2,n3,n4⟩
     ·rw[List.getElem?_set,if_neg (by omega),List.getElem?_set,if_neg (by omega),List.getElem?_set,if_neg (by omega),List.getElem?_set,if_neg (by omega),List.getElem?_set,if_neg (by omega),List.getElem?_set,if_neg (by omega),List.getElem?_set,if_neg (by omega),List.getElem?_set,if_neg (by omega)];exact h0
     ·rw[List.getElem?_set,if_neg (by omega),List.getElem?_set,if_neg (by omega),List.getElem?_set,if_neg (by omega),List.getElem?_set,if_neg (by omega),List.getElem?_set,if_neg (by omega),List.getElem?_set,if_neg (by omega),List.getElem?_set,if_neg (by omega),List.getElem?_set,if_neg (by omega)];exact h1
     ·rw[List.getElem?_set,if_neg (by omega),List.getElem?_set,if_neg (by omega),List.getElem?_set,if_neg (by omega),List.getElem?_set,if_neg (by omega),List.getElem?_set,if_neg (by omega),List.getElem?_set,if_neg (by omega),List.getElem?_set,if_neg (by omega),List.getElem?_set,if_neg (by omega)];exact h2
     ·rw[List.getElem?_set,if_neg (by omega),List.getElem?_set,if_neg (by omega),List.getElem?_set,if_neg (by omega),List.getElem?_set,if_neg (by omega),List.getElem?_set,if_neg (by omega),List.getElem?_set,if_neg (by omega),List.getElem?_set,if_neg (by omega),List.getElem?_set,if_neg (by omega)];exact h3
     ·rw[List.getElem?_set,if_neg (by omega),List.getElem?_set,if_neg (by omega),List.getElem?_set,if_neg (by omega),List.getElem?_set,if_neg (by omega),List.getElem?_set,if_neg (by omega),List.getElem?_set,if_neg (by omega),List.getElem?_set,if_neg (by omega),List.getElem?_set,if_neg (by omega)];exact h4
     ·rw[List.getElem?_set,if_neg (by omega),List.getElem?_set,if_neg (by omega),List.getElem?_set,if_neg (by omega),List.getElem?_set,if_neg (by omega),List.getElem?_set,if_neg (by omega),List.getElem?_set,if_neg (by omega),List.getElem?_set,if_neg (by omega),List.getElem?_set,if_neg (by omega)];exact h5
     ·rw[List.getElem?_set,if_neg (by omega),List.getElem?_set,if_neg (by omega),List.getElem?_set,if_neg (by omega),List.getElem?_set,if_neg (by omega),List.getElem?_set,if_neg (by omega),List.getElem?_set,if_neg (by omega),List.getElem?_set,if_neg (by omega),List.getElem?_set,if_neg (by omega)];exact h6
     ·rw[List.getElem?_set,if_neg (by omega),List.getElem?_set,if_neg (by omega),List.getElem?_set,if_neg (by omega),List.getElem?_set,if_neg (by omega),List.getElem?_set,if_neg (by omega),List.getElem?_set,if_neg (by omega),List.getElem?_set,if_neg (by omega),List.getElem?_set,if_neg (by omega)];exact h7
   rcases hv with rfl|⟨T,y,rfl⟩
   ·go_wp2_with (go_at_fn g;refine R.mono ?_;rintro e d ⟨B,C,D,E,x,rfl,O,h,Z,g2,g3,g4⟩;obtain⟨⟨v,d0⟩,⟨a1,d1⟩,⟨a2,d2⟩,⟨a3,d3⟩,⟨a4,d4⟩,⟨a5,d5⟩,⟨a6,d6⟩,⟨a7,d7⟩,z0,z1,z2,z3,z4,z5,z6,z7,d8,z8⟩:=cells.out d h;have l:=hid (fin.out d B C D E x h O Z g2 g3 g4);obtain⟨f7,g5,rfl⟩:=yJ Z;obtain⟨f8,g6,rfl⟩:=yJ g2;obtain⟨f9,g7,rfl⟩:=yJ g3;obtain⟨g0,g8,rfl⟩:=g4.slice;rcases O.form with rfl|⟨T,z,rfl⟩)
    all_goals
     go_roundw
     case rel=>exact⟨k+1,_,_,by omega,by go_num,l.out.1,l.out.2.1,l.out.2.2.1,l.out.2.2.2.1,l.out.2.2.2.2.1,l.out.2.2.2.2.2⟩
     case measure=>simp[intOf];omega
   ·go_wp2_with (go_at_fn g;refine R.mono ?_;rintro e d ⟨B,C,D,E,x,rfl,O,h,Z,g2,g3,g4⟩;obtain⟨⟨v,d0⟩,⟨a1,d1⟩,⟨a2,d2⟩,⟨a3,d3⟩,⟨a4,d4⟩,⟨a5,d5⟩,⟨a6,d6⟩,⟨a7,d7⟩,z0,z1,z2,z3,z4,z5,z6,z7,d8,z8⟩:=cells.out d h;have l:=hid (fin.out d B C D E x h O Z g2 g3 g4);obtain⟨f7,g5,rfl⟩:=yJ Z;obtain⟨f8,g6,rfl⟩:=yJ g2;obtain⟨f9,g7,rfl⟩:=yJ g3;obtain⟨g0,g8,rfl⟩:=g4.slice;rcases O.form with rfl|⟨T,z,rfl⟩)
    all_goals
     go_roundw
     case rel=>exact⟨k+1,_,_,by omega,by go_num,l.out.1,l.out.2.1,l.out.2.2.1,l.out.2.2.2.1,l.out.2.2.2.2.1,l.out.2.2.2.2.2⟩
     case measure=>simp[intOf];omega
  ·have f0:k=n:=by omega
   subst f0;have hE:=S.out.done;have hl:=S.out.1
   go_wp2
   go_ret2;refine⟨_,_,_,_,ys,rfl,hl,?_,hE,RB.out,xs,?_,?_⟩
   ·exact .inr ⟨s,0,rfl,λj W=>by rw[Nat.zero_add];exact (RE.out.cellAt j (by omega)).trans (List.getElem?_eq_getElem W)⟩
   ·rw[List.length_map,List.length_range];exact RO.out
   ·intro j W;rw[List.length_map,List.length_range] at W;rw[List.getElem_map,List.getElem_range];exact (RC.out j W).mono (by omega)
inductive uw (EL:Value):Int->Nat->Value->Prop
 | ok:uw EL 0 0 .nilIface
 | long:uw EL 1 0 EL
 | text (c:Int) (q:Nat):Rd.Code c->uw EL c q (vY c q)
 | doc (p:BA):uw EL 5 0 (.iface 96 (.agg #[.string p]))
 | shape (n:Nat) (p:BA):uw EL 5 n (.iface 110 (.agg #[.int .i64 (n:Int),.iface 96 (.agg #[.string p])]))
 | pat (n:Nat) (k:Int):uw EL 6 n (.iface 110 (.agg #[.int .i64 (n:Int),.iface 165 (.agg #[.int .i64 k])]))
def QI(w:World)(EL:Value)(a:Int×Nat)(f:List zD)(e:Ending)(d:World):Prop:=
 ∃b n c u,e = .returned (.tuple #[.agg #[.slice b n c],u])/\uw EL a.1 a.2 u/\Below w.heap.size w d/\(a.1=0->yD d w.heap.size (.slice b n c) f)
structure ZG (w:World) (EL:Value):Prop where
 p:qR w
 seq:qb w
 long:w.cell? ⟨0,0,none⟩=some EL
theorem ZG.below{w b:World}{EL:Value}(h:ZG w EL)(a:Below w.heap.size w b):ZG b EL:=⟨h.p.below a,h.seq.same (a.block _ h.seq.lt),zb a h.long⟩
def uU:Obj := .cells #[.slice none 0 0] 68
theorem AR(b:List Rd.V)(a:List Value)(ao:Option Addr)(cap:Nat)(w:World)(x:qR w)(o:a.length=b.length)(A:a.length<=1000)
  (z:yt w ao a)(C:∀(j:Nat) (v:Rd.V) (u:Value),b[j]?=some v->a[j]?=some u->OAt w (some v) u)(y:∀v ∈ b,Rd.Good 4000 v) :
  Calls prog 32 #[.slice ao a.length cap,.func (.func 33) #[] #[]] w λe m=>
   ∃(k g:Option Addr) (l n:Nat) (f:List Value),e = .returned (.tuple #[.slice k a.length l,.slice g a.length n])/\f.length=a.length/\yt m g f/\FVs (b.map Rd.qP) f/\Below w.heap.size w m/\yD m w.heap.size (.slice k a.length l) (b.map xm):=by
 have d:∀j,(h:j<a.length)->OAt w (some (b.getD j (.word false))) a[j]:=λj h=>by
  have c:j<b.length:=by omega
  rw[List.getD_eq_getElem?_getD,List.getElem?_eq_getElem c];exact C j _ _ (List.getElem?_eq_getElem c) (List.getElem?_eq_getElem h)
 refine (AQ a ao cap 33 #[] (λj=>xm (b.getD j (.word false))) (λj=>Rd.qP (b.getD j (.word false))) w A (enters_of func33 (by kernel_rfl) rfl) z ?_ ?_).mono ?_
 ·intro u B;obtain⟨j,i,rfl⟩:=List.getElem_of_mem B;exact (d j i).form
 ·intro W j i r;have c:j<b.length:=by omega
  have:=Mk (b.getD j (.word false)) a[j] W (x.below r) ((d j i).below r) (y _ (by rw[List.getD_eq_getElem?_getD,List.getElem?_eq_getElem c];exact List.getElem_mem c))
  rw[show a[j]=a.getD j .nilIface by rw[List.getD_eq_getElem?_getD,List.getElem?_eq_getElem i];rfl] at this;exact this
 ·rintro e m ⟨k,g,l,n,f,rfl,s,c,p,t,q⟩;refine⟨k,g,l,n,f,rfl,s,c,?_,t,?_⟩
  ·rw[o,XU] at p;exact p
  ·rw[o,XU] at q;rw[o];exact q
theorem one_cell{w W:World}{t:TypeId}{v:Value}(b:Below (w.alloc (.cells #[v] t)).heap.size (w.alloc (.cells #[v] t)) W):W.cell? ⟨w.heap.size,0,none⟩=some v/\W.frozen? ⟨w.heap.size,0,none⟩=false:=by
 have a:=xU b;exact⟨(za a 0).1,(za a 0).2⟩
theorem Aq(s:BA)(w:World)(EL:Value)(T:TypeId)(y:Value)(d:EL = .iface T y)(f:ZG w EL)(g:4000<s.size) :
  Calls prog 18 #[.string s] w (QI w EL (1,0) []):=by
 have a:=nB w uU;have c:=Ml s (w.alloc uU) EL (f.below a).long g;subst d;unfold uU at a c;clear f g;go_enter func18,ntmps18
 go_wp2_with (go_at_call 30;refine c.mono ?_;rintro e j ⟨rfl,b⟩;obtain⟨r0,i⟩:=one_cell b)
 exact bodyPost_ret (v := .tuple #[.agg #[.slice none 0 0],.iface T y]) (by simp[results,results18,go_sem,r0]) rfl ⟨_,_,_,_,rfl,.long,(a.trans (b.mono (by simp))).setCell (Nat.le_refl _) _,λh=>by simp at h⟩
theorem Ao(s:BA)(w:World)(EL:Value)(c:Int)(q:Nat)(j:ZG w EL)(l:s.size<=4000)(i:Rd.xN s.data.toList = .err c q) :
  Calls prog 18 #[.string s] w (QI w EL (c,q) []):=by
 have b:=nB w uU;have d:=U9 s (w.alloc uU) (j.below b).seq l;rw[i] at d;have a:=Rd.lm i;have m:=uw.text (EL:=EL) c q a;obtain⟨T,k⟩:=QY c q;unfold Zh at d;simp only at d;rw[k] at d m;have g:c≠0:=by rcases a with rfl|rfl|rfl<;>decide
 unfold uU at b d;clear j l i k a;go_enter func18,ntmps18
 go_wp2_with (go_at_call 30;refine d.mono ?_;rintro e o ⟨rfl,f⟩;obtain⟨r0,n⟩:=one_cell f)
 exact bodyPost_ret (v := .tuple #[.agg #[.slice none 0 0],.iface T (.agg #[.int .i64 (q:Int)])]) (by simp[results,results18,go_sem,r0]) rfl ⟨_,_,_,_,rfl,m,(b.trans (f.mono (by simp))).setCell (Nat.le_refl _) _,λh=>absurd h g⟩
end Go.Proofs.YtdakgnaojakldabGreatDoor
