/- P -/
import Derived.Test.YtdakgnaojakldaaGreatDoorP30
open Go.Proofs.Tryz
set_option maxRecDepth 100000
set_option maxHeartbeats 3200000
namespace Go.Proofs.YtdakgnaojakldaaGreatDoor
open Go.RowKit
attribute [local go_sem ↓] Go.wp_at_zero Go.wp_at_succ
theorem Tryz.infoStr:(prog.info? 9).map (λi=>(i.zero,i.size,i.bytes))=some (some (.string ⟨#[]⟩),1,16):=by kernel_rfl
theorem GD(m:Ref.zk)(base b:Nat)(ov nv:Value)(vs:List (Value×Value))(w:World)(h:zO w base b m ov nv vs)(A:Small m)(Y:m.named=true->m.opn≠[]) :
  Calls prog 202 #[.pointer (some ⟨b,0,none⟩)] w (Stepped base b (Ref.closed m) w):=by
 obtain⟨R,J⟩:=Nm (Ref.closed m);rw[J];unfold Ref.closed at J;have HB:=hid h.hb;have c3:w.cell? ⟨b,3,none⟩=some (.bool m.named):=(h.cell 3).1;have c4:w.cell? ⟨b,4,none⟩=some (.string m.got):=(h.cell 4).1
 cases hnm:m.named with
 | false=>
  rw[zb hnm] at J;subst J;rw[hnm] at c3;have HM:=hid h;have HS:=hid A;clear h A Y hnm;go_enter func202,ntmps202;go_wp2_with fail;refine (Uz m 3 m.got base b ov nv vs _ HM.out HS.out).mono ?_;rintro e C ⟨rfl,a7,i5,i6,N⟩;have d0:C.cell? ⟨b,0,none⟩=some (.int .i64 (Ref.lay m ⟨3,m.got,[],[]⟩).state):=(N.cell 0).1;have g0:C.frozen? ⟨b,0,none⟩=false:=(N.cell 0).2;have L:=hid (N.store 0 (.int .i64 6) (m':={ Ref.lay m ⟨3,m.got,[],[]⟩ with state:=6 }) rfl rfl rfl)
  have c0:=hid a7;clear N a7
  go_wp2
  go_ret;exact⟨rfl,c0.out.setCell HB.out _,λ_=>⟨_,_,_,L.out⟩⟩
 | true=>
  rw[za (by simp[hnm])] at J;rw[hnm] at c3;have S:=Y hnm;obtain⟨o,q,go,oc,u,cap,n,v,hq,r,ho,rfl,rfl,X,hv,co,_,a6,_,fz,i0,i4,h7⟩:=h.top A.top S;have b0:Ref.UX m=n.names:=by unfold Ref.UX;rw[r,X];rfl
  rw[b0,r] at J;have d4:=A.nodes;have d5:=A.opn;rw[hq] at d5;have l:=h.names o n v X hv;have T:=A.names n (xE X);obtain⟨n0,G⟩:=Nm m.nodes.length;rw[G] at ho d4;obtain⟨i,P⟩:=Nm n.names;rw[P] at J l T
  obtain⟨K,Q,H⟩:∃a c,v.1 = .slice a i.length c:=by
   rcases l.2 with ⟨e,e0⟩|⟨g,c,cur,e,_⟩
   ·rw[e0];exact⟨_,_,e⟩
   ·exact⟨_,_,e⟩
  rw[H] at l a6;have c1:w.cell? ⟨b,1,none⟩=some (.slice (some ⟨go,0,none⟩) (q+1) oc):=(h.cell 1).1;have o0:(0:Int)<=(o:Int):=qz _;have o1:(o:Int)<(n0:Int):=by omega
  obtain⟨got,D⟩:∃g,m.got=g:=⟨_,rfl⟩;rw[D] at c4 J
  have facts:Hid (∀wr:World,zO wr base b m (.slice (some ⟨go,0,none⟩) (q+1) oc) (.slice (some ⟨u,0,none⟩) m.nodes.length cap) vs ->
    wr.cell? ⟨b,2,none⟩=some (.slice (some ⟨u,0,none⟩) n0 cap)/\wr.cell? ⟨b,4,none⟩=some (.string got)/\wr.cell? ⟨u,o*4+2,none⟩=some (.slice K i.length Q)/\wr.frozen? ⟨u,o*4+2,none⟩=false /\
    (∀k (hk:k<i.length),∃V,K=some ⟨V,0,none⟩/\wr.cell? ⟨V,k,none⟩=some (.string i[k]))/\wr.ownsRow base 9 1 (.slice K i.length Q) i.length (Ref.strCells i)):=by
   intro wr y;have W:=ag m.nodes vs y.len o n v X hv;have E:=y.names o n v X hv;rw[P,H] at E;refine⟨by rw[<- G];exact (y.cell 2).1,by rw[<- D];exact (y.cell 4).1,?_,y.ownN.frozenAt _,?_,E⟩
   ·rw[<- H];exact (y.ownN.cellAt _ (by rw[G];omega)).trans W.2.2.1
   ·intro k hk
    obtain⟨V,c,e⟩:∃V c,(Value.slice K i.length Q) = .slice (some ⟨V,0,none⟩) i.length c:=by
     rcases E.2 with ⟨_,e0⟩|⟨g,c,cur,e,_⟩
     ·omega
     ·exact⟨g,c,e⟩
    simp only[Value.slice.injEq,Q8] at e;obtain⟨rfl,rfl⟩:=e;exact⟨V,rfl,(E.cellAt k (by omega)).trans (Ref.JE i k hk)⟩
  have HM:=hid h;have HR:=hid J;have HN:=hid X;have HV:=hid hv;have c5:=hid P;have a4:=hid H;have g7:=hid G;have HG:=hid D;have c2:=hid r;clear h A Y hnm S J b0 X hv P H G D r l a6 fz hq;go_enter func202,ntmps202;go_wp2_with fail
  go_region
  go_wp2_with fail
  go_loopw [4] (λiv wr=>∃k:Nat,k<=i.length/\iv = .int .i64 k/\zO wr base b m (.slice (some ⟨go,0,none⟩) (q+1) oc) (.slice (some ⟨u,0,none⟩) m.nodes.length cap) vs/\Below base w wr/\∀j (hj:j<i.length),j<k->(i[j].toList==got.toList)=false) (λiv _=>i.length-(intOf iv).toNat)
  case atStart=>exact⟨0,by omega,rfl,HM.out.drew,(ze _ _).drew,λj _ h=>by omega⟩
  case round=>
   obtain⟨k,hk,rfl,rM,rB,b3⟩:=hrel;obtain⟨x2,x4,xn,xf,xk,xo⟩:=facts.out wr rM;have U:=hid rM;have RB:=hid rB;have M:=hid b3;have XK:=hid xk;clear rM rB b3 xk HM c1 c3 c4 co
   by_cases hlt:k<i.length
   ·obtain⟨V,rfl,ck⟩:=XK.out k hlt;obtain⟨s,A⟩:=Nm (i[k]);rw[A] at ck
    cases heq:(s.toList==got.toList) with
    | true=>
     have y:=HR.out;rw[zb (by rw[Qy];exact⟨i[k],qA hlt,by rw[A];exact heq⟩)] at y;subst y;clear HR A facts;go_wp2_with fail
     go_region
     all_goals
      go_wp2
      go_ret;exact⟨rfl,RB.out.drew,by simp⟩
    | false=>
     have a5:Hid (∀j (hj:j<i.length),j<k+1->(i[j].toList==got.toList)=false):=by
      intro j hj h8
      by_cases e:j=k
      ·subst e;rw[A];exact heq
      ·exact M.out j hj (by omega)
     clear HR A facts M;go_wp2_with fail
     go_region
     all_goals
      go_wp2
      go_roundw
      case rel=>exact⟨k+1,by omega,by go_num,U.out.drew,RB.out.drew,a5.out⟩
      case measure=>simp[intOf];omega
   ·have y:=HR.out
    rw[za (by
     rw[Qy];rintro ⟨s,A,he⟩;obtain⟨j,hj,rfl⟩:=Qb A;rw[M.out j hj (by omega)] at he
     cases he)] at y
    subst y;clear HR facts M XK;obtain⟨j0,d1,d8,d9,e1⟩:=xA Tryz.infoStr;have e4:u<wr.heap.size:=(U.out.ownN.lt u rfl).2;have e3:b<wr.heap.size:=zt U.out.blk;have c9:base<=wr.heap.size:=xu HB.out (Ja e3);have kg:(Value.slice K i.length Q).ownBlock≠some u:=λe=>Jz xo U.out.ownN (by decide) e rfl;have kb:(Value.slice K i.length Q).ownBlock≠some b:=vN xo U.out.blk (by decide);obtain⟨B,x⟩:=Nm i.length;obtain⟨ks,a9⟩:=Nm (Ref.strCells i);have XO:=hid xo;rw[x,a9] at xo;rw[x] at xn kg kb T
    have L:Hid (∀(O:Obj) (I f:Nat) (C:World),C.ownsRow base 9 1 (.slice (some ⟨I,0,none⟩) (B+1) f) (B+1) (ks++[.string got])->(wr.alloc O).drew.grownBy C (Value.slice K B Q).ownBlock ->
      ((Value.slice K B Q).ownBlock=some I\/I=wr.heap.size+1)->Below base w ((C.setCell ⟨u,o*4+2,none⟩ (.slice (some ⟨I,0,none⟩) (B+1) f)).setCell ⟨b,0,none⟩ (.int .i64 5)) /\
      (∃a0 Z a1,zO ((C.setCell ⟨u,o*4+2,none⟩ (.slice (some ⟨I,0,none⟩) (B+1) f)).setCell ⟨b,0,none⟩ (.int .i64 5)) base b { m with nodes:=Ref.yC o got m.nodes,state:=5 } a0 Z a1) /\
      (C.setCell ⟨u,o*4+2,none⟩ (.slice (some ⟨I,0,none⟩) (B+1) f)).cell? ⟨b,0,none⟩=some (.int .i64 m.state)/\(C.setCell ⟨u,o*4+2,none⟩ (.slice (some ⟨I,0,none⟩) (B+1) f)).frozen? ⟨b,0,none⟩=false):=by
     intro O I f C z d F;have bX:Below wr.heap.size wr (wr.alloc O).drew:=(nbl wr O).drew;have hX:=U.out.below bX
     have y:=zO.yC hX o _ _ HN.out HV.out (w1:=C) (kv := .slice (some ⟨I,0,none⟩) (B+1) f) (by rw[a4.out,x];exact d) got (by rw[c5.out,x,a9];exact z)
      (by rw[a4.out,x];rcases F with e|e
          ·exact .inl e.symm
          ·right;simp[Value.ownBlock,e]) u m.nodes.length cap rfl
     have d6:=y.store 0 (.int .i64 5) (m':={ m with nodes:=Ref.yC o got m.nodes,state:=5 }) rfl rfl rfl
     exact⟨(((RB.out.trans (bX.mono c9)).grown d (by have:=bX.size;omega) (λk d3=>(xo.lt k d3).1)).setCell (U.out.ownN.lt u rfl).1 _).setCell HB.out _,⟨_,_,_,d6⟩,(y.cell 0).1,(y.cell 0).2⟩
    have b5:=λO:Obj=>zh (nbl wr O) x2;have b7:=λO:Obj=>zh (nbl wr O) xn;have b6:=λO:Obj=>((nbl wr O).frozen (p:=⟨u,o*4+2,none⟩) e4).trans xf;have f1:¬k<B:=by omega
    go_wp2_with fail
    go_cut [] (λwc=>Below base w (wc.setCell ⟨b,0,none⟩ (.int .i64 5))/\(∃a0 Z a1,zO (wc.setCell ⟨b,0,none⟩ (.int .i64 5)) base b { m with nodes:=Ref.yC o got m.nodes,state:=5 } a0 Z a1)/\wc.cell? ⟨b,0,none⟩=some (.int .i64 m.state)/\wc.frozen? ⟨b,0,none⟩=false)
    case first=>
     go_region_law ((refine step_append_lies _ (by rfl) _ _ _ (by rfl) base 9 j0 _ 1 16 underlying42 d1 d8 d9 e1 rfl (by omega) (.slice K B Q) B ks (by rfl) ((xo.alloc _).drew) ⟨wr.heap.size,0,none⟩ 1 1 [.string got] (by rfl) (by rfl) (World.news_of_block (cs:=#[.string got]) (t:=9) (fr:=(0,0)) (zB wr _)) (by simp[Value.oneCell']) (by omega) (by unfold maxLen;omega) (by omega) (by simp;omega) (wr.heap.size+1) (by simp) ?_;intro I f C z d F f0;have i3:C.cell? ⟨b,2,none⟩=some (.slice (some ⟨u,0,none⟩) n0 cap):=(d.cell_far _ (by simp;omega) (jF kb)).trans (by simp[b5]);have i2:C.cell? ⟨u,o*4+2,none⟩=some (.slice K B Q):=(d.cell_far _ (by simp;omega) (jF kg)).trans (by simp[b7]);have h4:C.frozen? ⟨u,o*4+2,none⟩=false:=(d.frozen_far _ (by simp;omega) (jF kg)).trans (by simp[b6])))
     all_goals
      go_wp2_with fail
      go_meet
      case rel=>exact L.out _ _ _ _ z d F
    case rest=>
     obtain⟨r1,r2,r3,r4⟩:=hcut;have R1:=hid r1;have R2:=hid r2;clear r1 r2 b5 b7 b6 x2 x4 xn xf xo L
     go_wp2
     go_ret;exact⟨rfl,R1.out,λ_=>by have hx:=R2.out;rw[HG.out] at hx;exact hx⟩
end Go.Proofs.YtdakgnaojakldaaGreatDoor
