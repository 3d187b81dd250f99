/- P -/
import Derived.Test.YtagnlbgbnfnapaaGreatDoorK34
open Go.Proofs.Tryz
set_option maxRecDepth 100000
set_option maxHeartbeats 3200000
namespace Go.Proofs.YtagnlbgbnfnapaaGreatDoor
open Go.RowKit
attribute [local go_sem ↓] Go.wp_at_zero Go.wp_at_succ
theorem Tryz.infoStr:(prog.info? 9).map (λi=>(i.zero,i.size,i.bytes))=some (some (.string ⟨#[]⟩),1,16):=by kernel_rfl
theorem BH(m:Ref.zl)(base b:Nat)(ov nv:Value)(vs:List (Value×Value))(w:World)(h:zP w base b m ov nv vs)(z:Small m)(X:m.named=true->m.opn≠[]) :
  Calls prog 234 #[.pointer (some ⟨b,0,none⟩)] w (Stepped base b (Ref.closed m) w):=by
 obtain⟨R,I⟩:=Nm (Ref.closed m);rw[I];unfold Ref.closed at I;have HB:=hid h.hb;have c3:w.cell? ⟨b,3,none⟩=some (.bool m.named):=(h.cell 3).1;have c4:w.cell? ⟨b,4,none⟩=some (.string m.got):=(h.cell 4).1
 cases hnm:m.named with
 | false=>
  rw[zb hnm] at I;subst I;rw[hnm] at c3;have HM:=hid h;have HS:=hid z;clear h z X hnm;go_enter func234,ntmps234;go_wp2_with fail;refine (JZ m 3 m.got base b ov nv vs _ HM.out HS.out).mono ?_;rintro e B ⟨rfl,a6,i4,i5,M⟩;have d0:B.cell? ⟨b,0,none⟩=some (.int .i64 (Ref.lay m ⟨3,m.got,[],[]⟩).state):=(M.cell 0).1;have g0:B.frozen? ⟨b,0,none⟩=false:=(M.cell 0).2;have K:=hid (M.store 0 (.int .i64 6) (m':={ Ref.lay m ⟨3,m.got,[],[]⟩ with state:=6 }) rfl rfl rfl)
  have b9:=hid a6;clear M a6
  go_wp2
  go_ret;exact⟨rfl,b9.out.setCell HB.out _,λ_=>⟨_,_,_,K.out⟩⟩
 | true=>
  rw[za (by simp[hnm])] at I;rw[hnm] at c3;have Q:=X hnm;obtain⟨o,q,go,oc,r,cap,n,v,hq,l,ho,rfl,rfl,W,hv,co,_,a5,_,fz,h9,i3,h6⟩:=h.top z.top Q;have a9:Ref.Vo m=n.names:=by unfold Ref.Vo;rw[l,W];rfl
  rw[a9,l] at I;have d3:=z.nodes;have d4:=z.opn;rw[hq] at d4;have i:=h.names o n v W hv;have S:=z.names n (qL W);obtain⟨n0,F⟩:=Nm m.nodes.length;rw[F] at ho d3;obtain⟨ns,N⟩:=Nm n.names;rw[N] at I i S
  obtain⟨J,P,G⟩:∃a c,v.1 = .slice a ns.length c:=by
   rcases i.2 with ⟨e,e0⟩|⟨g,c,cur,e,_⟩
   ·rw[e0];exact⟨_,_,e⟩
   ·exact⟨_,_,e⟩
  rw[G] at i a5;have c1:w.cell? ⟨b,1,none⟩=some (.slice (some ⟨go,0,none⟩) (q+1) oc):=(h.cell 1).1;have o0:(0:Int)<=(o:Int):=zZ _;have o1:(o:Int)<(n0:Int):=by omega
  obtain⟨got,C⟩:∃g,m.got=g:=⟨_,rfl⟩;rw[C] at c4 I
  have facts:Hid (∀wr:World,zP wr base b m (.slice (some ⟨go,0,none⟩) (q+1) oc) (.slice (some ⟨r,0,none⟩) m.nodes.length cap) vs ->
    wr.cell? ⟨b,2,none⟩=some (.slice (some ⟨r,0,none⟩) n0 cap)/\wr.cell? ⟨b,4,none⟩=some (.string got)/\wr.cell? ⟨r,o*4+2,none⟩=some (.slice J ns.length P)/\wr.frozen? ⟨r,o*4+2,none⟩=false /\
    (∀k (hk:k<ns.length),∃U,J=some ⟨U,0,none⟩/\wr.cell? ⟨U,k,none⟩=some (.string ns[k]))/\wr.ownsRow base 9 1 (.slice J ns.length P) ns.length (Ref.strCells ns)):=by
   intro wr x;have V:=Us m.nodes vs x.len o n v W hv;have D:=x.names o n v W hv;rw[N,G] at D;refine⟨by rw[<- F];exact (x.cell 2).1,by rw[<- C];exact (x.cell 4).1,?_,x.ownN.frozenAt _,?_,D⟩
   ·rw[<- G];exact (x.ownN.cellAt _ (by rw[F];omega)).trans V.2.2.1
   ·intro k hk
    obtain⟨U,c,e⟩:∃U c,(Value.slice J ns.length P) = .slice (some ⟨U,0,none⟩) ns.length c:=by
     rcases D.2 with ⟨_,e0⟩|⟨g,c,cur,e,_⟩
     ·omega
     ·exact⟨g,c,e⟩
    simp only[Value.slice.injEq,true_and] at e;obtain⟨rfl,rfl⟩:=e;exact⟨U,rfl,(D.cellAt k (by omega)).trans (Ref.XD ns k hk)⟩
  have HM:=hid h;have HR:=hid I;have HN:=hid W;have HV:=hid hv;have c2:=hid N;have a3:=hid G;have g6:=hid F;have HG:=hid C;have c0:=hid l;clear h z X hnm Q I a9 W hv N G F C l i a5 fz hq;go_enter func234,ntmps234;go_wp2_with fail
  go_region
  go_wp2_with fail
  go_loopw [4] (λiv wr=>∃k:Nat,k<=ns.length/\iv = .int .i64 k/\zP wr base b m (.slice (some ⟨go,0,none⟩) (q+1) oc) (.slice (some ⟨r,0,none⟩) m.nodes.length cap) vs/\Below base w wr/\∀j (hj:j<ns.length),j<k->(ns[j].toList==got.toList)=false) (λiv _=>ns.length-(intOf iv).toNat)
  case atStart=>exact⟨0,by omega,rfl,HM.out.drew,(zf _ _).drew,λj _ h=>by omega⟩
  case round=>
   obtain⟨k,hk,rfl,rM,rB,b2⟩:=hrel;obtain⟨x2,x4,xn,xf,xk,xo⟩:=facts.out wr rM;have T:=hid rM;have RB:=hid rB;have L:=hid b2;have XK:=hid xk;clear rM rB b2 xk HM c1 c3 c4 co
   by_cases hlt:k<ns.length
   ·obtain⟨U,rfl,ck⟩:=XK.out k hlt;obtain⟨s,z⟩:=Nm (ns[k]);rw[z] at ck
    cases heq:(s.toList==got.toList) with
    | true=>
     have x:=HR.out;rw[zb (by rw[Xd];exact⟨ns[k],xB hlt,by rw[z];exact heq⟩)] at x;subst x;clear HR z facts;go_wp2_with fail
     go_region
     all_goals
      go_wp2
      go_ret;exact⟨rfl,RB.out.drew,by simp⟩
    | false=>
     have a4:Hid (∀j (hj:j<ns.length),j<k+1->(ns[j].toList==got.toList)=false):=by
      intro j hj h7
      by_cases e:j=k
      ·subst e;rw[z];exact heq
      ·exact L.out j hj (by omega)
     clear HR z facts L;go_wp2_with fail
     go_region
     all_goals
      go_wp2
      go_roundw
      case rel=>exact⟨k+1,by omega,by go_num,T.out.drew,RB.out.drew,a4.out⟩
      case measure=>simp[intOf];omega
   ·have x:=HR.out
    rw[za (by
     rw[Xd];rintro ⟨s,z,he⟩;obtain⟨j,hj,rfl⟩:=Qa z;rw[L.out j hj (by omega)] at he
     cases he)] at x
    subst x;clear HR facts L XK;obtain⟨j0,c9,d7,d8,d9⟩:=qP Tryz.infoStr;have e3:r<wr.heap.size:=(T.out.ownN.lt r rfl).2;have e2:b<wr.heap.size:=zy T.out.blk;have c8:base<=wr.heap.size:=qZ HB.out (XP e2);have kg:(Value.slice J ns.length P).ownBlock≠some r:=λe=>Yh xo T.out.ownN (by decide) e rfl;have kb:(Value.slice J ns.length P).ownBlock≠some b:=jQ xo T.out.blk (by decide);obtain⟨A,u⟩:=Nm ns.length;obtain⟨ks,a8⟩:=Nm (Ref.strCells ns);have XO:=hid xo;rw[u,a8] at xo;rw[u] at xn kg kb S
    have K:Hid (∀(O:Obj) (H f:Nat) (B:World),B.ownsRow base 9 1 (.slice (some ⟨H,0,none⟩) (A+1) f) (A+1) (ks++[.string got])->(wr.alloc O).drew.grownBy B (Value.slice J A P).ownBlock ->
      ((Value.slice J A P).ownBlock=some H\/H=wr.heap.size+1)->Below base w ((B.setCell ⟨r,o*4+2,none⟩ (.slice (some ⟨H,0,none⟩) (A+1) f)).setCell ⟨b,0,none⟩ (.int .i64 5)) /\
      (∃Z Y a0,zP ((B.setCell ⟨r,o*4+2,none⟩ (.slice (some ⟨H,0,none⟩) (A+1) f)).setCell ⟨b,0,none⟩ (.int .i64 5)) base b { m with nodes:=Ref.yj o got m.nodes,state:=5 } Z Y a0) /\
      (B.setCell ⟨r,o*4+2,none⟩ (.slice (some ⟨H,0,none⟩) (A+1) f)).cell? ⟨b,0,none⟩=some (.int .i64 m.state)/\(B.setCell ⟨r,o*4+2,none⟩ (.slice (some ⟨H,0,none⟩) (A+1) f)).frozen? ⟨b,0,none⟩=false):=by
     intro O H f B y d E;have bX:Below wr.heap.size wr (wr.alloc O).drew:=(nbl wr O).drew;have hX:=T.out.below bX
     have x:=zP.yj hX o _ _ HN.out HV.out (w1:=B) (kv := .slice (some ⟨H,0,none⟩) (A+1) f) (by rw[a3.out,u];exact d) got (by rw[c2.out,u,a8];exact y)
      (by rw[a3.out,u];rcases E with e|e
          ·exact .inl e.symm
          ·right;simp[Value.ownBlock,e]) r m.nodes.length cap rfl
     have d5:=x.store 0 (.int .i64 5) (m':={ m with nodes:=Ref.yj o got m.nodes,state:=5 }) rfl rfl rfl
     exact⟨(((RB.out.trans (bX.mono c8)).grown d (by have:=bX.size;omega) (λk d2=>(xo.lt k d2).1)).setCell (T.out.ownN.lt r rfl).1 _).setCell HB.out _,⟨_,_,_,d5⟩,(x.cell 0).1,(x.cell 0).2⟩
    have b4:=λO:Obj=>zi (nbl wr O) x2;have b6:=λO:Obj=>zi (nbl wr O) xn;have b5:=λO:Obj=>((nbl wr O).frozen (p:=⟨r,o*4+2,none⟩) e3).trans xf;have f0:¬k<A:=by omega
    go_wp2_with fail
    go_cut [] (λwc=>Below base w (wc.setCell ⟨b,0,none⟩ (.int .i64 5))/\(∃Z Y a0,zP (wc.setCell ⟨b,0,none⟩ (.int .i64 5)) base b { m with nodes:=Ref.yj o got m.nodes,state:=5 } Z Y a0)/\wc.cell? ⟨b,0,none⟩=some (.int .i64 m.state)/\wc.frozen? ⟨b,0,none⟩=false)
    case first=>
     go_region_law ((refine UU _ (by rfl) _ _ _ (by rfl) base 9 j0 _ 1 16 underlying48 c9 d7 d8 d9 rfl (by omega) (.slice J A P) A ks (by rfl) ((xo.alloc _).drew) ⟨wr.heap.size,0,none⟩ 1 1 [.string got] (by rfl) (by rfl) (KA (cs:=#[.string got]) (t:=9) (fr:=(0,0)) (zQ wr _)) (by simp[Value.oneCell']) (by omega) (by unfold maxLen;omega) (by omega) (by simp;omega) (wr.heap.size+1) (by simp) ?_;intro H f B y d E e9;have i2:B.cell? ⟨b,2,none⟩=some (.slice (some ⟨r,0,none⟩) n0 cap):=(d.cell_far _ (by simp;omega) (ja kb)).trans (by simp[b4]);have i1:B.cell? ⟨r,o*4+2,none⟩=some (.slice J A P):=(d.cell_far _ (by simp;omega) (ja kg)).trans (by simp[b6]);have h3:B.frozen? ⟨r,o*4+2,none⟩=false:=(d.frozen_far _ (by simp;omega) (ja kg)).trans (by simp[b5])))
     all_goals
      go_wp2_with fail
      go_meet
      case rel=>exact K.out _ _ _ _ y d E
    case rest=>
     obtain⟨r1,r2,r3,r4⟩:=hcut;have R1:=hid r1;have R2:=hid r2;clear r1 r2 b4 b6 b5 x2 x4 xn xf xo K
     go_wp2
     go_ret;exact⟨rfl,R1.out,λ_=>by have hx:=R2.out;rw[HG.out] at hx;exact hx⟩
end Go.Proofs.YtagnlbgbnfnapaaGreatDoor
