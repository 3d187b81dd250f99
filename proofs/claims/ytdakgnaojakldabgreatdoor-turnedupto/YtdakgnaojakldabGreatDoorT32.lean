/- P -/
import Derived.Test.YtdakgnaojakldabGreatDoorT31
import Derived.Deep.AppendLies
open Go.Proofs.Tryz
set_option maxRecDepth 100000
set_option maxHeartbeats 4000000
namespace Go.Proofs.YtdakgnaojakldabGreatDoor
open Go.RowKit
def KZ(w:World)(r:Ref.Req)(e:Ending)(a:World):Prop:=∃ao cap,e = .returned (Ref.qo r ao cap)/\xL a ao r.marks/\Below w.heap.size w a
theorem Gu{W:World}{B g cap:Nat}{n s:BA}(h:W.ownsRow B 59 2 (.slice (some ⟨g,0,none⟩) 1 cap) 1 [.string n,.string s]):xL W (some ⟨g,0,none⟩) [(n,s)]:=by
 have c0:=World.ownsRow.cellAt h 0 (by omega);have c1:=World.ownsRow.cellAt h 1 (by omega);refine .inr ⟨g,0,rfl,λj b=>?_⟩;have a:j=0:=by simp at b;exact b
 subst a;exact⟨c0,c1⟩
theorem Gv{W:World}{B g cap:Nat}{n s b c:BA}(h:W.ownsRow B 59 2 (.slice (some ⟨g,0,none⟩) 2 cap) 2 [.string n,.string s,.string b,.string c]):xL W (some ⟨g,0,none⟩) [(n,s),(b,c)]:=by
 have c0:=World.ownsRow.cellAt h 0 (by omega);have c1:=World.ownsRow.cellAt h 1 (by omega);have c2:=World.ownsRow.cellAt h 2 (by omega);have c3:=World.ownsRow.cellAt h 3 (by omega);refine .inr ⟨g,0,rfl,λj d=>?_⟩;have a:j=0\/j=1:=by simp at d;omega
 rcases a with rfl|rfl
 ·exact⟨c0,c1⟩
 ·exact⟨c2,c3⟩
theorem Gr:(prog.info? 59).map (λi=>(i.zero,i.size,i.bytes))=some (some (.agg #[.string ⟨#[]⟩,.string ⟨#[]⟩]),2,32):=by kernel_rfl
theorem pO(raw:List Int)(lv:Value)(w:World)(h:IntsIn w lv raw)(h4:3<raw.length) :
  Calls prog 8 #[lv] w (KZ w (Kp.qM raw)):=by
 have h0:0<raw.length:=by omega
 have X:=λ(i:Nat) (hi:i<=1000) (W:World) (hb:Below w.heap.size w W)=>nJ raw lv i W (h.below hb) h0 hi;have c0:=X 0 (by omega);have c1:=X 1 (by omega);have c2:=X 2 (by omega);have c3:=X 3 (by omega);have c4:=X 4 (by omega)
 have hv:Kp.qM raw=⟨Kp.xe raw 0,Kp.xe raw 1,Kp.xe raw 2,(⟨#[116,97,103]⟩,Kp.xe raw 3)::(if 4<raw.length then [(⟨#[97,103,101]⟩,Kp.xe raw 4)] else [])⟩:=by
  unfold Kp.qM;rw[if_neg (by omega),if_pos h4]
  rfl
 rw[hv];obtain⟨r,b0⟩:∃s,Kp.xe raw 0=s:=⟨_,rfl⟩;obtain⟨u,b6⟩:∃s,Kp.xe raw 1=s:=⟨_,rfl⟩;obtain⟨y,b8⟩:∃s,Kp.xe raw 2=s:=⟨_,rfl⟩;obtain⟨s3,b9⟩:∃s,Kp.xe raw 3=s:=⟨_,rfl⟩;obtain⟨s4,c5⟩:∃s,Kp.xe raw 4=s:=⟨_,rfl⟩;rw[b0] at c0 |-;rw[b6] at c1 |-;rw[b8] at c2 |-;rw[b9] at c3 |-;rw[c5] at c4 |-;obtain⟨a,c,rfl,_⟩:=h;obtain⟨W1,G⟩:∃W,w.alloc (yK (.string ⟨#[]⟩) (.string ⟨#[]⟩) (.string ⟨#[]⟩) (.slice none 0 0))=W:=⟨_,rfl⟩;have b1:Below w.heap.size w W1:=by rw[<- G];exact nB w _
 have n1:W1.heap[w.heap.size]?=some (yK (.string ⟨#[]⟩) (.string ⟨#[]⟩) (.string ⟨#[]⟩) (.slice none 0 0)):=by rw[<- G];exact heap_alloc_new w _
 have HW:Hid (w.alloc (.cells #[.string ⟨#[]⟩,.string ⟨#[]⟩,.string ⟨#[]⟩,.slice none 0 0] 42)=W1):=hid G;obtain⟨n,hn⟩:=Nm raw.length;rw[hn] at h0 h4 c0 c1 c2 c3 c4 |-;have k0:((n:Int)==0)=false:=by simp;omega
 have k3:decide ((3:Int)<(n:Int))=true:=decide_eq_true (by omega);have C0:=hid c0;have C1:=hid c1;have C2:=hid c2;have C3:=hid c3;have C4:=hid c4;have B1:=hid b1;have N1:=hid n1;obtain⟨i0,hi,c6,c7,c8⟩:=info_parts Gr;obtain⟨Ms,l⟩:∃M,(if 4<n then [((⟨#[97,103,101]⟩:BA),s4)] else [])=M:=⟨_,rfl⟩
 rw[l];have a1:=hid l;clear l;clear X c0 c1 c2 c3 c4 hv b0 b6 b8 b9 c5 G b1 n1 hn;go_enter func8,ntmps8
 go_upto_region 1 with fail
 rw[HW.out]
 go_upto_region 4 with (first
  | (go_at_call 16;refine (C2.out w3 B3.out).mono ?_;rintro e Z ⟨rfl,b4⟩;have B4:=hid (B3.out.trans (b4.mono B3.out.size));have N4:=hid ((b4.block _ (lt_of_block N3.out)).trans N3.out);clear b4)
  | (go_at_call 16;refine (C1.out w2 B2.out).mono ?_;rintro e w3 ⟨rfl,b3⟩;have B3:=hid (B2.out.trans (b3.mono B2.out.size));have N3:=hid ((b3.block _ (lt_of_block N2.out)).trans N2.out);clear b3)
  | (go_at_call 16;refine (C0.out W1 B1.out).mono ?_;rintro e w2 ⟨rfl,b2⟩;have B2:=hid (B1.out.trans (b2.mono B1.out.size));have N2:=hid ((b2.block _ (lt_of_block N1.out)).trans N1.out);clear b2))
 obtain⟨V,hV⟩:=Nm (Z.alloc (.cells #[.string r,.string u,.string y,.slice none 0 0] 42));rw[hV]
 go_upto_region 5 with fail
 have Y:V.heap[Z.heap.size]?=some (yK (.string r) (.string u) (.string y) (.slice none 0 0)):=by rw[<- hV];exact heap_alloc_new Z _
 have bV:Below w.heap.size w V:=by rw[<- hV];exact B4.out.alloc B4.out.size _
 have a3:V.heap[w.heap.size]?=some (yK (.string ⟨#[]⟩) (.string ⟨#[]⟩) (.string ⟨#[]⟩) (.slice none 0 0)):=by
  rw[<- hV];exact ((nB Z _).block _ (lt_of_block N4.out)).trans N4.out
 have zV:=lt_of_block Y;have S:w.heap.size<Z.heap.size:=lt_of_block N4.out;obtain⟨f,a9⟩:∃x,Z.heap.size=x:=⟨_,rfl⟩;rw[a9] at Y zV S |-;have B:=(za Y 3).1;have K:=(za Y 3).2;simp at B K;have NV:=hid Y;have U:=hid bV;have NW:=hid a3;clear hV Y bV a3 a9 N4 B4
 go_cut [] (λwc=>∃g cap,wc.heap[f]?=some (yK (.string r) (.string u) (.string y) (.slice (some ⟨g,0,none⟩) 1 cap))/\wc.ownsRow (f+1) 59 2 (.slice (some ⟨g,0,none⟩) 1 cap) 1 [.string ⟨#[116,97,103]⟩,.string s3]/\Below w.heap.size w wc/\wc.heap[w.heap.size]?=some (yK (.string ⟨#[]⟩) (.string ⟨#[]⟩) (.string ⟨#[]⟩) (.slice none 0 0)))
 case first=>
  go_region_law (first
   | (go_simp;go_at_call 16;refine (C3.out _ (by first|exact U.out.drew|exact U.out|exact U.out.drew.drew)).mono ?_;rintro e o ⟨rfl,z⟩;have Q:o.heap[f]?=some (yK (.string r) (.string u) (.string y) (.slice none 0 0)):=(z.block f zV).trans NV.out;have D:=(z.block w.heap.size (Nat.lt_trans S zV)).trans NW.out;have F:=lt_of_block Q;have g5:=zb z B;have f5:=(z.frozen (p:=⟨f,3,none⟩) zV).trans K;have N:=λO:Obj=>zb (nB o O) g5;have L:=λO:Obj=>((nB o O).frozen (p:=⟨f,3,none⟩) F).trans f5;have B5:Hid (Below w.heap.size w o):=hid (U.out.drew.trans (z.mono U.out.size));have N5:=hid Q;have A:=hid D;clear z Q D)
   | (refine step_append_lies _ (by rfl) _ _ _ (by rfl) (f+1) 59 i0 _ 2 32 underlying40 hi c6 c7 c8 rfl (by omega) (.slice none 0 0) 0 [] (by rfl) (World.ownsRow_nil _ _ _ _) ⟨o.heap.size,0,none⟩ 1 1 [.string ⟨#[116,97,103]⟩,.string s3] (by rfl) (by rfl) (World.news_of_block (cs:=#[.string ⟨#[116,97,103]⟩,.string s3]) (t:=59) (fr:=(0,0)) (heap_alloc_new o _)) (by simp[Value.oneCell']) (by omega) (by unfold maxLen;omega) (by omega) (by simp;omega) (o.heap.size+1) (by simp) ?_;intro P cap E j b a6 a8;have g6:E.cell? ⟨f,3,none⟩=some (.slice none 0 0):=(b.cell_far _ (by simp;omega) (by simp[Value.ownBlock])).trans (by simp[N]);have f6:E.frozen? ⟨f,3,none⟩=false:=(b.frozen_far _ (by simp;omega) (by simp[Value.ownBlock])).trans (by simp[L])))
  all_goals
   go_wp2_with fail
   go_meet
   case rel=>
    have hz:f+1<=P:=(World.ownsRow.lt j P (by rfl)).1;have n6:E.heap[f]?=some (yK (.string r) (.string u) (.string y) (.slice none 0 0)):=(b.block f (by simp;omega) (by simp[Value.ownBlock])).trans (((nB o _).block f F).trans N5.out);have R:=(b.block w.heap.size (by simp;omega) (by simp[Value.ownBlock])).trans (((nB o _).block w.heap.size (lt_of_block A.out)).trans A.out);refine⟨P,cap,heap_setCell_same E f 3 _ _ _ n6,ownsRow_setCell_other j (a:=⟨f,3,none⟩) (by simp only[Value.ownBlock];intro e;injection e with e;omega) _,?_,(Below.heap_setCell E ⟨f,3,none⟩ _ w.heap.size (by simp;omega)).trans R⟩
    exact (Below.grown (B5.out.alloc B5.out.size _) b (by simp;omega) (λk hk=>by simp[Value.ownBlock] at hk)).setCell (by simp;omega) _
 case rest=>
  obtain⟨g,cap,q,H,J,d⟩:=hcut;obtain⟨wo,rfl⟩:∃x,x=wc:=⟨_,rfl⟩;clear NV U NW C3 B K;have hg:=World.ownsRow.lt H g (by rfl)
  by_cases h5:4<n
  ·have l:=a1.out;rw[if_pos h5] at l;subst l;have k4:decide ((4:Int)<(n:Int))=true:=decide_eq_true (by omega);have zr:=lt_of_block q;have B:=(za q 3).1;have K:=(za q 3).2;simp at B K;have N7:=hid q;have T:=hid J;have O7:=hid H;have a2:=hid d
   have nb:(Value.slice (some ⟨g,0,none⟩) 1 cap).ownBlock≠some f:=λe=>by
    simp only[Value.ownBlock] at e;injection e with e
    omega
   have c9:(Value.slice (some ⟨g,0,none⟩) 1 cap).ownBlock≠some w.heap.size:=λe=>by
    simp only[Value.ownBlock] at e;injection e with e
    omega
   clear q J H d
   go_upto_region 7 with fail
   go_cut [] (λwc=>∃g cap,wc.heap[f]?=some (yK (.string r) (.string u) (.string y) (.slice (some ⟨g,0,none⟩) 2 cap))/\wc.ownsRow (f+1) 59 2 (.slice (some ⟨g,0,none⟩) 2 cap) 2 [.string ⟨#[116,97,103]⟩,.string s3,.string ⟨#[97,103,101]⟩,.string s4]/\Below w.heap.size w wc/\wc.heap[w.heap.size]?=some (yK (.string ⟨#[]⟩) (.string ⟨#[]⟩) (.string ⟨#[]⟩) (.slice none 0 0)))
   case first=>
    go_region_law (first
     | (go_simp;go_at_call 16;refine (C4.out _ (by first|exact T.out.drew|exact T.out|exact T.out.drew.drew)).mono ?_;rintro e o ⟨rfl,z⟩;have Q:o.heap[f]?=some (yK (.string r) (.string u) (.string y) (.slice (some ⟨g,0,none⟩) 1 cap)):=(z.block f zr).trans N7.out;have D:=(z.block w.heap.size (Nat.lt_trans S zr)).trans a2.out;have F:=lt_of_block Q;have g5:=zb z B;have f5:=(z.frozen (p:=⟨f,3,none⟩) zr).trans K;have N:=λO:Obj=>zb (nB o O) g5;have L:=λO:Obj=>((nB o O).frozen (p:=⟨f,3,none⟩) F).trans f5;have o5:=ownsRow_below (World.ownsRow.drew O7.out) z;have B5:Hid (Below w.heap.size w o):=hid (T.out.drew.trans (z.mono T.out.size));have N5:=hid Q;have A:=hid D;clear z Q D)
     | (refine step_append_lies _ (by rfl) _ _ _ (by rfl) (f+1) 59 i0 _ 2 32 underlying40 hi c6 c7 c8 rfl (by omega) (.slice (some ⟨g,0,none⟩) 1 cap) 1 [.string ⟨#[116,97,103]⟩,.string s3] (by rfl) (World.ownsRow.alloc o5 _) ⟨o.heap.size,0,none⟩ 1 1 [.string ⟨#[97,103,101]⟩,.string s4] (by rfl) (by rfl) (World.news_of_block (cs:=#[.string ⟨#[97,103,101]⟩,.string s4]) (t:=59) (fr:=(0,0)) (heap_alloc_new o _)) (by simp[Value.oneCell']) (by omega) (by unfold maxLen;omega) (by omega) (by simp;omega) (o.heap.size+1) (by simp) ?_;intro P a4 E j b a6 a8;have g6:E.cell? ⟨f,3,none⟩=some (.slice (some ⟨g,0,none⟩) 1 cap):=(b.cell_far _ (by simp;omega) (Ne.symm nb)).trans (by simp[N]);have f6:E.frozen? ⟨f,3,none⟩=false:=(b.frozen_far _ (by simp;omega) (Ne.symm nb)).trans (by simp[L])))
    all_goals
     go_wp2_with fail
     go_meet
     case rel=>
      have hz:f+1<=P:=(World.ownsRow.lt j P (by rfl)).1;have n6:E.heap[f]?=some (yK (.string r) (.string u) (.string y) (.slice (some ⟨g,0,none⟩) 1 cap)):=(b.block f (by simp;omega) (Ne.symm nb)).trans (((nB o _).block f F).trans N5.out);have R:=(b.block w.heap.size (by simp;omega) (Ne.symm c9)).trans (((nB o _).block w.heap.size (lt_of_block A.out)).trans A.out);refine⟨P,a4,heap_setCell_same E f 3 _ _ _ n6,ownsRow_setCell_other j (a:=⟨f,3,none⟩) (by simp only[Value.ownBlock];intro e;injection e with e;omega) _,?_,(Below.heap_setCell E ⟨f,3,none⟩ _ w.heap.size (by simp;omega)).trans R⟩
      exact (Below.grown (B5.out.alloc B5.out.size _) b (by simp;omega) (λk hk=>by simp only[Value.ownBlock] at hk;injection hk with hk;omega)).setCell (by simp;omega) _
   case rest=>
    clear hg nb c9 B K zr N7 T O7 a2;obtain⟨g,cap,q,H,J,d⟩:=hcut;have hg:=World.ownsRow.lt H g (by rfl);have g0:=(za q 0).1;have g1:=(za q 1).1;have g2:=(za q 2).1;have B:=(za q 3).1;have y0:=(za d 0).1;have y1:=(za d 1).1;have y2:=(za d 2).1;have y3:=(za d 3).1;have t0:=(za d 0).2;have t1:=(za d 1).2;have t2:=(za d 2).2;have t3:=(za d 3).2;simp at g0 g1 g2 B y0 y1 y2 y3 t0 t1 t2 t3;have C:=Kb d (.string r) (.string u) (.string y) (.slice (some ⟨g,0,none⟩) 2 cap);have r0:=(za C 0).1;have r1:=(za C 1).1;have r2:=(za C 2).1;have r3:=(za C 3).1;simp at r0 r1 r2 r3
    have m:∀k:Nat,(Value.slice (some ⟨g,0,none⟩) 2 cap).ownBlock≠some (⟨w.heap.size,k,none⟩:Addr).block:=λk e=>by
     simp only[Value.ownBlock] at e;injection e with e
     omega
    have HO:=hid (ownsRow_setCell_other (ownsRow_setCell_other (ownsRow_setCell_other (ownsRow_setCell_other H (m 0) (.string r)) (m 1) (.string u)) (m 2) (.string y)) (m 3) (.slice (some ⟨g,0,none⟩) 2 cap));have I:=hid ((((J.setCell (p:=⟨w.heap.size,0,none⟩) (Nat.le_refl _) (.string r)).setCell (p:=⟨w.heap.size,1,none⟩) (Nat.le_refl _) (.string u)).setCell (p:=⟨w.heap.size,2,none⟩) (Nat.le_refl _) (.string y)).setCell (p:=⟨w.heap.size,3,none⟩) (Nat.le_refl _) (.slice (some ⟨g,0,none⟩) 2 cap));clear C H J q d;go_wp2_with fail;exact bodyPost_ret (v := .agg #[.string r,.string u,.string y,.slice (some ⟨g,0,none⟩) 2 cap]) (by simp[results,results8,go_sem,r0,r1,r2,r3]) rfl ⟨some ⟨g,0,none⟩,cap,rfl,Gv HO.out,I.out⟩
  ·have l:=a1.out;rw[if_neg h5] at l;subst l;have k4:decide ((4:Int)<(n:Int))=false:=decide_eq_false (by omega);have g0:=(za q 0).1;have g1:=(za q 1).1;have g2:=(za q 2).1;have B:=(za q 3).1;have y0:=(za d 0).1;have y1:=(za d 1).1;have y2:=(za d 2).1;have y3:=(za d 3).1;have t0:=(za d 0).2;have t1:=(za d 1).2;have t2:=(za d 2).2;have t3:=(za d 3).2;simp at g0 g1 g2 B y0 y1 y2 y3 t0 t1 t2 t3;have C:=Kb d (.string r) (.string u) (.string y) (.slice (some ⟨g,0,none⟩) 1 cap);have r0:=(za C 0).1;have r1:=(za C 1).1;have r2:=(za C 2).1;have r3:=(za C 3).1;simp at r0 r1 r2 r3
   have m:∀k:Nat,(Value.slice (some ⟨g,0,none⟩) 1 cap).ownBlock≠some (⟨w.heap.size,k,none⟩:Addr).block:=λk e=>by
    simp only[Value.ownBlock] at e;injection e with e
    omega
   have HO:=hid (ownsRow_setCell_other (ownsRow_setCell_other (ownsRow_setCell_other (ownsRow_setCell_other H (m 0) (.string r)) (m 1) (.string u)) (m 2) (.string y)) (m 3) (.slice (some ⟨g,0,none⟩) 1 cap));have I:=hid ((((J.setCell (p:=⟨w.heap.size,0,none⟩) (Nat.le_refl _) (.string r)).setCell (p:=⟨w.heap.size,1,none⟩) (Nat.le_refl _) (.string u)).setCell (p:=⟨w.heap.size,2,none⟩) (Nat.le_refl _) (.string y)).setCell (p:=⟨w.heap.size,3,none⟩) (Nat.le_refl _) (.slice (some ⟨g,0,none⟩) 1 cap));clear C H J q d;go_wp2_with fail;exact bodyPost_ret (v := .agg #[.string r,.string u,.string y,.slice (some ⟨g,0,none⟩) 1 cap]) (by simp[results,results8,go_sem,r0,r1,r2,r3]) rfl ⟨some ⟨g,0,none⟩,cap,rfl,Gu HO.out,I.out⟩
theorem pV(raw:List Int)(b:Value)(w:World)(h:IntsIn w b raw) :
  Calls prog 8 #[b] w (KZ w (Kp.qM raw)):=by
 by_cases h0:raw.length=0
 ·obtain⟨a,c,rfl,_⟩:=h;have f:raw=[]:=List.length_eq_zero_iff.1 h0;subst f;refine (pQ w c a).mono ?_;rintro e g ⟨rfl,d⟩;exact⟨none,0,rfl,.inl rfl,d⟩
 ·by_cases h3:raw.length<=3
  ·refine (pR raw b w h (by omega) h3).mono ?_;rintro e g ⟨rfl,d⟩;exact⟨none,0,rfl,.inl (au h3),d⟩
  ·exact pO raw b w h (by omega)
end Go.Proofs.YtdakgnaojakldabGreatDoor
