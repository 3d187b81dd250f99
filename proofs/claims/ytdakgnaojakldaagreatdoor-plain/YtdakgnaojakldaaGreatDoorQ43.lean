/- P -/
import Derived.Test.YtdakgnaojakldaaGreatDoorQ42
import Derived.Lib.Bytealg
open Go.Proofs.Tryz
set_option maxRecDepth 100000
set_option maxHeartbeats 8000000
namespace Go.Proofs.YtdakgnaojakldaaGreatDoor
open Go.RowKit
def KZ(w:World)(e:Value)(l:List Kp.xA):Prop:=∃a c,e = .slice a l.length c/\∀(k:Nat) (p:Kp.xA),l[k]?=some p->I64 p.layer/\I64 p.name/\p.rules.length<=maxLen /\
 ∃b o d,a=some ⟨b,o,none⟩/\w.cell? ⟨b,o+k*3,none⟩=some (.int .i64 p.layer)/\w.cell? ⟨b,o+k*3+1,none⟩=some (.int .i64 p.name)/\w.cell? ⟨b,o+k*3+2,none⟩=some d/\Qw w d p.rules
structure Zl (w:World) (cb hb:Nat) (st:StO):Prop where
 cnt:∀i,i<4->w.cell? ⟨cb,i,none⟩=some (.int .i64 ((st i).length:Nat))/\w.frozen? ⟨cb,i,none⟩=false
 has:∀i,i<4->∀k,k<6->w.cell? ⟨hb,i*6+k,none⟩=some (.bool (zC (st i) (Kp.qp k)))/\w.frozen? ⟨hb,i*6+k,none⟩=false
theorem Zl.turn{w f:World}{c hb:Nat}{st:StO}{M:Nat->Prop}(h:Zl w c hb st)(e:zT M w f)(g:¬M c)(j:¬M hb):Zl f c hb st:=by
 have fr:∀(b k:Nat) (v:Value),¬M b->w.cell? ⟨b,k,none⟩=some v->w.frozen? ⟨b,k,none⟩=false->f.frozen? ⟨b,k,none⟩=false:=λb k v n l m=>
  (yQ (w:=w) (a:=⟨b,k,none⟩) (e.block b (Yp _ _ l) n)).trans m
 exact⟨λi hi=>⟨e.cell (x:=⟨c,i,none⟩) g (h.cnt i hi).1,fr _ _ _ g (h.cnt i hi).1 (h.cnt i hi).2⟩,λi hi k d=>⟨e.cell (x:=⟨hb,i*6+k,none⟩) j (h.has i hi k d).1,fr _ _ _ j (h.has i hi k d).1 (h.has i hi k d).2⟩⟩
theorem Zl.same{w:World}{c hb:Nat}{st st':StO}(h:Zl w c hb st)(e:∀a,a<4->(st' a).length=(st a).length)(f:∀a,a<4->∀b,b<6->zC (st' a) (Kp.qp b)=zC (st a) (Kp.qp b)):Zl w c hb st':=
 ⟨λi hi=>by rw[e i hi];exact h.cnt i hi,λi hi k d=>by rw[f i hi k d];exact h.has i hi k d⟩
theorem Zl.more{w:World}{g hb:Nat}{st st':StO}(h:Zl w g hb st)(k:g≠hb){i j:Nat}(hi:i<4)(o:j<6)(m:∀a,a<4->(st' a).length=if a=i then (st a).length+1 else (st a).length)(n:∀a,a<4->∀b,b<6->zC (st' a) (Kp.qp b)=(zC (st a) (Kp.qp b)||(decide (a=i)&&decide (b=j)))) :
  Zl ((w.setCell ⟨g,i,none⟩ (.int .i64 (((st i).length:Int)+1))).setCell ⟨hb,i*6+j,none⟩ (.bool true)) g hb st':=by
 refine⟨λa d=>⟨?_,by rw[World.frozen?_setCell,World.frozen?_setCell];exact (h.cnt a d).2⟩,λa d b f=>⟨?_,by rw[World.frozen?_setCell,World.frozen?_setCell];exact (h.has a d b f).2⟩⟩
 ·rw[xQ _ _ _ _ (by intro e;injection e with e;exact k e.symm),m a d]
  by_cases e:a=i
  ·subst e;rw[zb rfl,kU _ _ _ (h.cnt a d).1]
   simp
  ·rw[za e,xQ _ _ _ _ (by intro c;injection c with _ c;exact e c.symm)]
   exact (h.cnt a d).1
 ·have l:=(xQ w ⟨g,i,none⟩ ⟨hb,a*6+b,none⟩ (.int .i64 (((st i).length:Int)+1)) (by intro e;injection e with e;exact k e)).trans (h.has a d b f).1
  rw[n a d b f]
  by_cases e:a=i/\b=j
  ·obtain⟨rfl,rfl⟩:=e;rw[kU _ _ _ l]
   simp
  ·rw[xQ _ _ _ _ (by intro c;injection c with _ c;apply e;constructor<;>omega),l]
   have:(decide (a=i)&&decide (b=j))=false:=by
    rw[Bool.and_eq_false_iff]
    by_cases e1:a=i
    ·exact .inr (zH (λc=>e ⟨e1,c⟩))
    ·exact .inl (zH e1)
   rw[this,QS]
def OpM(c a b:Nat):Prop:=b=c\/b=a+1\/b=a+1+1
structure Y3 (w wr:World) (nb:Nat) (st:StO):Prop where
 below:Below w.heap.size w wr
 office:qP (OpM w.heap.size nb) wr w.heap.size st
 lt:w.heap.size<nb
 top:nb+2<wr.heap.size
 names:∀j,j<6->wr.cell? ⟨nb,j,none⟩=some (.string (Kp.qp j))
 counts:Zl wr (nb+1) (nb+1+1) st
def ic(w:World)(l:List Kp.xA)(e:Ending)(c:World):Prop:=∃a,e = .returned (.tuple #[.pointer (some ⟨a,0,none⟩),.bool true])/\w.heap.size<=a/\a<c.heap.size/\Below w.heap.size w c/\qP (λb=>b=a) c a (Kp.JI l)
theorem OP(l:List Kp.xA)(lv:Value)(aL:Addr)(w:World)(hC:Qk w aL)(h:KZ w lv l)(hm:l.length<=maxLen) :
  Calls prog 20 #[lv] w (ic w l):=by
 have cn:=dz (λb=>b=w.heap.size) w rfl;have cN:=λW=>NS W;obtain⟨a,cc,rfl,H⟩:=h;obtain⟨n,Z⟩:=Nm l.length;have z:=hid H;have HC:=hid hC;have CN:=hid cn;have a7:=hid cN;rw[Z] at hm |-;have HN:=hid Z;unfold maxLen at hm;clear H hC cn cN Z;go_enter func20,ntmps20
 go_upto_region 8 with (first
  | (go_at_call 28;refine (a7.out N).mono ?_;rintro e w2 ⟨rfl,Q⟩;rw[Q];clear Q)
  | (go_at_call 21;refine CN.out.mono ?_;rintro e N ⟨rfl,b1,o1⟩;have B1:=hid b1;have O1:=hid o1;clear b1 o1))
 have h1:w.heap.size<N.heap.size:=qF O1.out.row.choose_spec.1;obtain⟨d,G⟩:∃x,N.heap.size=x:=⟨_,rfl⟩;obtain⟨W3,B⟩:∃W,((N.alloc (.cells (Kp.Yz.map Value.string).toArray 9)).alloc (.cells #[.int .i64 0,.int .i64 0,.int .i64 0,.int .i64 0] 94)).alloc (.cells #[.bool false,.bool false,.bool false,.bool false,.bool false,.bool false,.bool false,.bool false,.bool false,.bool false,.bool false,.bool false,.bool false,.bool false,.bool false,.bool false,.bool false,.bool false,.bool false,.bool false,.bool false,.bool false,.bool false,.bool false] 96)=W:=⟨_,rfl⟩
 have V:Y3 w W3 d (Kp.vC l 0):=by
  have hb13:Below N.heap.size N W3:=by rw[<- B];exact ((nB N _).alloc (by simp) _).alloc (by simp;omega) _
  have j4:W3.heap.size=d+3:=by rw[<- B,<- G];simp
  have e0:Kp.vC l 0=xM:=rfl;rw[e0]
  have x1:W3.heap[d]?=some (.cells (Kp.Yz.map Value.string).toArray 9):=by
   rw[<- B,<- G,QR _ _ _ (by simp;omega),QR _ _ _ (by simp)];exact zM N _
  have x2:W3.heap[d+1]?=some (.cells #[.int .i64 0,.int .i64 0,.int .i64 0,.int .i64 0] 94):=by
   rw[<- B,<- G,QR _ _ _ (by simp)]
   have:=zM (N.alloc (.cells (Kp.Yz.map Value.string).toArray 9)) (.cells #[.int .i64 0,.int .i64 0,.int .i64 0,.int .i64 0] 94)
   simpa using this
  have x3:W3.heap[d+2]?=some (.cells #[.bool false,.bool false,.bool false,.bool false,.bool false,.bool false,.bool false,.bool false,.bool false,.bool false,.bool false,.bool false,.bool false,.bool false,.bool false,.bool false,.bool false,.bool false,.bool false,.bool false,.bool false,.bool false,.bool false,.bool false] 96):=by
   rw[<- B,<- G]
   have:=zM ((N.alloc (.cells (Kp.Yz.map Value.string).toArray 9)).alloc (.cells #[.int .i64 0,.int .i64 0,.int .i64 0,.int .i64 0] 94)) (.cells #[.bool false,.bool false,.bool false,.bool false,.bool false,.bool false,.bool false,.bool false,.bool false,.bool false,.bool false,.bool false,.bool false,.bool false,.bool false,.bool false,.bool false,.bool false,.bool false,.bool false,.bool false,.bool false,.bool false,.bool false] 96)
   simpa using this
  refine⟨B1.out.trans (hb13.mono B1.out.size),(O1.out.more (λb hb=>by rcases hb with h|h|h;exact .inl h;exact .inr (by omega);exact .inr (by omega)) (.inl rfl)).below hb13,by omega,by omega,λj hj=>?_,⟨λi hi=>?_,λi hi k hk=>?_⟩⟩
  ·rw[(zf x1 j).1]
   have:j=0\/j=1\/j=2\/j=3\/j=4\/j=5:=by omega
   rcases this with rfl|rfl|rfl|rfl|rfl|rfl<;>rfl
  ·obtain⟨c,f⟩:=zf x2 i;rw[c,f]
   have:i=0\/i=1\/i=2\/i=3:=by omega
   rcases this with rfl|rfl|rfl|rfl<;>exact⟨rfl,rfl⟩
  ·obtain⟨c,f⟩:=zf x3 (i*6+k);rw[c,f]
   have b0:∀m,m<24->(#[Value.bool false,.bool false,.bool false,.bool false,.bool false,.bool false,.bool false,.bool false,.bool false,.bool false,.bool false,.bool false,.bool false,.bool false,.bool false,.bool false,.bool false,.bool false,.bool false,.bool false,.bool false,.bool false,.bool false,.bool false]:Array Value)[m]?=some (.bool false):=by
    intro m hm;have d3:(List.replicate 24 (Value.bool false))[m]?=some (.bool false):=by rw[List.getElem?_replicate,zb hm]
    simpa using d3
   exact⟨b0 _ (by omega),rfl⟩
 rw[B];have a8:=hid V;rw[G];clear V B G B1 O1 CN a7
 go_loopw [8] (λiv wr=>∃k:Nat,k<=n/\iv = .int .i64 k/\Y3 w wr d (Kp.vC l k)) (λiv _=>n-(intOf iv).toNat)
 case atStart=>exact⟨0,zO _,rfl,a8.out⟩
 case round=>
  clear a8;obtain⟨k,hk,rfl,A⟩:=hrel
  by_cases hlt:k<n
  ·have b2:k<l.length:=by rw[HN.out];exact hlt
   obtain⟨i1,i2,a0,gb,o,rv,rfl,q0,q1,q2,a1⟩:=z.out k _ (zl b2);have g:=Kp.OO l k b2;obtain⟨hG,_⟩:=Kp.OM l k;obtain⟨st,b4⟩:∃s,Kp.vC l k=s:=⟨_,rfl⟩;rw[b4] at A g hG;obtain⟨p,hp⟩:=Nm (l[k]);rw[hp] at i1 i2 a0 q0 q1 a1 g;have p0:=zg A.below q0;have p1:=zg A.below q1;have p2:=zg A.below q2;have hi4:=Kp.UT p;have F:=Kp.VB p;have c1:=λW=>ZC p.layer 4 W i1 (by decide) (by decide);have c2:=λW=>ZC p.name 6 W i2 (by decide) (by decide);have hlen:=Kp.TI st p;have I:=λ(a b:Nat) (L:a<4) (hb:b<6)=>Kp.TG hG p L hb;have y:=Kp.JM st hi4 F (Kp.jh p.rules) (Kp.VI p.rules);have J:Kp.ZF st p=vG st (p.lay:Int) (Kp.qp p.num) (Kp.jh p.rules):=rfl;have cP:=λ(W:World) (hb:Below w.heap.size w W)=>rX p.rules rv W (a1.below hb) a0;unfold Kp.xA.nam at hlen;have e1:Kp.zo p.layer 4=p.lay:=rfl;have Q:Kp.zo p.name 6=p.num:=rfl;simp only[e1] at c1;simp only[Q] at c2;obtain⟨i,hi⟩:=Nm p.lay;obtain⟨j,hj⟩:=Nm p.num;simp only[hi,hj] at c1 c2 hi4 F hlen I y J;obtain⟨T,hT⟩:=Nm (Kp.jh p.rules);simp only[hT] at y J cP;have nj:=A.names j F;have jz:=Kp.pI j F;obtain⟨nm,R⟩:∃x,Kp.qp j=x:=⟨_,rfl⟩;rw[R] at nj jz y J;simp only[R] at hlen;have C1:Hid (∀W,Calls prog 19 #[.int .i64 p.layer,.int .i64 4] W λe w'=>e = .returned (.int .i64 (i:Int))/\w'=W):=hid c1;have C2:Hid (∀W,Calls prog 19 #[.int .i64 p.name,.int .i64 6] W λe w'=>e = .returned (.int .i64 (j:Int))/\w'=W):=hid c2;have CP:=hid cP;have K:=hid A;have HG:=hid hG;have r:=hid hlen;have q:=hid I;have t:=hid (g.trans J);have D:=hid g;have O:=hid y.1;have S:=hid (λ(W:World) (hb:Below w.heap.size w W) (ho:qP (OpM w.heap.size d) W w.heap.size st) (hz:d+2<W.heap.size)=>ed w.heap.size st (i:Int) nm T (OpM w.heap.size d) aL W (HC.out.below hb) ho (λb hb=>by have:=A.lt;rcases hb with h|h|h<;>omega) (by unfold maxLen;omega))
   have a9:=hid R;have U:=A.top;have v:=A.lt;have j2:(0:Int)<=(k:Int):=vP _;have j0:(0:Int)<=(i:Int):=vP _;have j1:(0:Int)<=(j:Int):=vP _;have g8:(i:Int)<4:=by omega
   have g9:(j:Int)<6:=by omega
   clear q0 q1 a1 hp c1 c2 cP A hG hlen I y J g b4 hi hj hT z HN R i1 i2 a0
   go_upto_region 11 with (go_at_call 19;refine (C1.out wr).mono ?_;rintro e w2 ⟨rfl,Q⟩;rw[Q];clear Q)
   go_upto_region 12 with (go_at_call 19;refine (C2.out wr).mono ?_;rintro e w3 ⟨rfl,e3⟩;rw[e3];clear e3)
   go_cut [11] (λv11 wc=>v11 = .int .i64 (ZE st (i:Int) nm T).1/\Below w.heap.size w wc/\qP (OpM w.heap.size d) wc w.heap.size (Kp.vC l (k+1))/\d+2<wc.heap.size/\(∀j,j<6->wc.cell? ⟨d,j,none⟩=some (.string (Kp.qp j)))/\Zl wc (d+1) (d+1+1) st)
   case first=>
    have cp:=hid (CP.out wr.drew K.out.below.drew);have g7:gb≠w.heap.size:=by have:=Yp _ _ q2;simp at this;omega
    go_region_held3 (λw'=>w'.cell? ⟨d,j,none⟩=some (.string nm)/\w'.cell? ⟨gb,o+k*3+2,none⟩=some rv) (go_keep) (first
     | (go_at_call 24;refine (S.out w5 B5.out O5.out z5).mono ?_;rintro e w6 ⟨rfl,t6,o6⟩;have n6:=t6.cell (x:=⟨d,j,none⟩) (by simp;omega) n5;have r6:=t6.cell (x:=⟨gb,o+k*3+2,none⟩) (by simp;omega) r5;have T6:=hid t6;have O6:=hid o6;clear t6 o6)
     | (go_at_call 18;refine cp.out.mono ?_;rintro e w5 ⟨rfl,X⟩;have n5:=zg X nj;have r5:=zg X p2;have B5:=hid (K.out.below.drew.trans (X.mono K.out.below.size));have O5:=hid ((K.out.office.below (zh _ wr).drew).below X);have z5:d+2<w5.heap.size:=uq U X.size;have c8:=hid X;clear X))
    all_goals
     go_wp2_with fail
     go_meet
     case rel=>
      have tt:=(zT.of (M:=λb=>b=w.heap.size) ((zh _ wr).drew)).trans ((zT.of c8.out).trans T6.out);refine⟨rfl,B5.out.trans (T6.out.below (λk hk e=>by omega) (by omega)),by rw[t.out];exact O6.out,?_,λj' Y=>tt.cell (x:=⟨d,j',none⟩) (by simp;omega) (K.out.names j' Y),K.out.counts.turn tt (by omega) (by omega)⟩
      have:=tt.size
      omega
   case rest=>
    obtain⟨rfl,b7,o7,z7,n7,P⟩:=hcut;have x1:=P.cnt i hi4;have x2:=P.has i hi4 j F;rw[a9.out] at x2;have b3:∀st':StO,Kp.vC l (k+1)=st'->Zl wc (d+1) (d+1+1) st'->Y3 w wc d (Kp.vC l (k+1)):=λst' e hc=>⟨b7,o7,v,z7,n7,by rw[e];exact hc⟩;have E:=O.out;have B7:=hid b7;have O7:=hid o7;have N7:=hid n7;have C:=hid P;obtain⟨f1,k1⟩:=x1;obtain⟨b8,k2⟩:=x2;clear b7 o7 n7 P S K CP C1 C2 b3
    cases hh:zC (st i) nm with
    | true=>
     rw[hh] at b8;rw[E,hh,Ye,zb rfl]
     have hinv:Y3 w wc d (Kp.vC l (k+1)):=by
      refine⟨B7.out,O7.out,v,z7,N7.out,?_⟩;rw[D.out];refine C.out.same (λa L=>?_) (λa L b hb=>?_)
      ·rw[r.out a,za (λh=>by rw[h.2.1] at hh;cases hh)]
      ·rw[q.out a b L hb]
       by_cases e:a=i/\b=j
       ·obtain⟨rfl,rfl⟩:=e;rw[a9.out,hh,Ye]
       ·have:(decide (a=i)&&decide (b=j))=false:=by
         rw[Bool.and_eq_false_iff]
         by_cases e1:a=i
         ·exact .inr (zH (λQ=>e ⟨e1,Q⟩))
         ·exact .inl (zH e1)
        rw[this,XA,QS]
     have u:=hid hinv;clear hinv r q C O7 N7 B7 D t O E;go_wp2_with fail
     go_roundw
     case rel=>exact⟨k+1,by omega,by go_num,u.out⟩
     case measure=>simp[intOf];omega
    | false=>
     rw[hh] at b8
     by_cases h4:(st i).length<4
     ·rw[E,hh,Yd,zF h4,zb rfl];have d4:(((st i).length:Int)==4)=false:=by simp;omega
      have hW:=((B7.out.setCell (p:=⟨d+1,i,none⟩) (by simp;omega) (.int .i64 (((st i).length:Int)+1))).setCell (p:=⟨d+1+1,i*6+j,none⟩) (by simp;omega) (.bool true));have tW:=(zT.set (M:=λb=>b=d+1\/b=d+1+1) wc (b:=d+1) (.inl rfl) i (.int .i64 (((st i).length:Int)+1))).trans (zT.set (M:=λb=>b=d+1\/b=d+1+1) _ (b:=d+1+1) (.inr rfl) (i*6+j) (.bool true))
      have hinv:Y3 w ((wc.setCell ⟨d+1,i,none⟩ (.int .i64 (((st i).length:Int)+1))).setCell ⟨d+1+1,i*6+j,none⟩ (.bool true)) d (Kp.vC l (k+1)):=by
       refine⟨hW,?_,v,by simp;omega,λj' Y=>tW.cell (x:=⟨d,j',none⟩) (by simp;omega) (N7.out j' Y),?_⟩
       ·exact (O7.out.other (zT.set (M:=λb=>b=d+1) wc (b:=d+1) rfl i _) (by omega) (.inr (.inl rfl))).other (zT.set (M:=λb=>b=d+1+1) _ (b:=d+1+1) rfl (i*6+j) _) (by omega) (.inr (.inr rfl))
       ·rw[D.out];refine C.out.more (by omega) hi4 F (λa L=>?_) (λa L b hb=>?_)
        ·rw[r.out a]
         by_cases e:a=i
         ·rw[zb ⟨e,hh,h4⟩,zb e]
         ·rw[za (λh=>e h.1),za e]
        ·rw[q.out a b L hb,zF h4,Yc]
      have u:=hid hinv;clear hinv hW tW r q C O7 N7 B7 D t O E;go_wp2_with fail
      go_roundw
      case rel=>exact⟨k+1,by omega,by go_num,u.out⟩
      case measure=>simp[intOf];omega
     ·rw[E,hh,Yd,zH h4,za (by simp)]
      have d7:(st i).length=4:=by
       have:=(HG.out i hi4).2.1
       omega
      rw[d7] at f1
      have hinv:Y3 w wc d (Kp.vC l (k+1)):=by
       refine⟨B7.out,O7.out,v,z7,N7.out,?_⟩;rw[D.out];refine C.out.same (λa L=>?_) (λa L b hb=>?_)
       ·rw[r.out a,za (λh=>h4 h.2.2)]
       ·rw[q.out a b L hb,zH h4,Bool.and_false,QS]
      have u:=hid hinv;clear hinv r q C O7 N7 B7 D t O E;go_wp2_with fail
      go_roundw
      case rel=>exact⟨k+1,by omega,by go_num,u.out⟩
      case measure=>simp[intOf];omega
  ·have d6:k=n:=by omega
   subst d6;rw[Kp.OL l k (by rw[HN.out];exact ze _)] at A;have K:=hid A;have U:=A.top;have v:=A.lt;clear A z HN;go_wp2_with fail;go_ret2;exact⟨w.heap.size,rfl,ze _,by omega,K.out.below,K.out.office.more (λb hb => .inl (.inl hb)) rfl⟩
namespace De
def ku(c:UInt8):Prop:=48<=c.toNat/\c.toNat<=57
def ik(n:Nat)(c:UInt8):Nat:=10*n+(c.toNat-48)
def ky(n:Nat)(l:List UInt8):Nat:=l.foldl ik n
def jy(l:List UInt8):Nat:=ky 0 l
theorem JC(n:Nat)(c:UInt8)(l:List UInt8):ky n (c::l)=ky (10*n+(c.toNat-48)) l:=by simp only[ky,List.foldl_cons,ik]
theorem pO:∀(a b:List UInt8) (n m:Nat),a.length=b.length->(∀c ∈ a,ku c)->(∀c ∈ b,ku c)->(ky n a<ky m b↔n<m\/(n=m/\Lib.compareBytes a b<0))
 | [],[],n,m,_,_,_=>by simp[ky,Lib.compareBytes]
 | [],_::_,_,_,h,_,_=>by simp at h
 | _::_,[],_,_,h,_,_=>by simp at h
 | x::a,y::b,n,m,h,ha,hb=>by
  have i:=ha x (by simp);have j:=hb y (by simp);unfold ku at i j;rw[JC,JC,pO a b _ _ (by simpa using h) (λc f=>ha c (by simp[f])) (λc f=>hb c (by simp[f])),Lib.compareBytes]
  by_cases c1:x<y
  ·have d:x.toNat<y.toNat:=c1;rw[zb c1]
   constructor
   ·intro h;omega
   ·intro h;omega
  ·have d:¬x.toNat<y.toNat:=c1;rw[za c1]
   by_cases c2:y<x
   ·have e:y.toNat<x.toNat:=c2;rw[zb c2]
    constructor
    ·intro h;omega
    ·intro h;omega
   ·have e:¬y.toNat<x.toNat:=c2;rw[za c2]
    constructor
    ·rintro (h|⟨h,g⟩)
     ·left;omega
     ·right;exact⟨by omega,g⟩
    ·rintro (h|⟨h,g⟩)
     ·left;omega
     ·right;exact⟨by omega,g⟩
theorem dw:∀(l:List UInt8) (n:Nat),(∀c ∈ l,ku c)->ky n l<(n+1)*10 ^ l.length
 | [],n,_=>by simp[ky]
 | x::l,n,h=>by
  have b:=h x (by simp);unfold ku at b
  have:=dw l (10*n+(x.toNat-48)) (λc a=>h c (by simp[a]))
  rw[JC];refine uq this ?_;rw[jl,Nat.pow_succ,Nat.mul_comm (10 ^ l.length) 10,<- Nat.mul_assoc];exact Q3 _ (by omega)
theorem dx:∀(l:List UInt8) (n:Nat),n*10 ^ l.length<=ky n l
 | [],n=>by simp[ky]
 | x::l,n=>by
  have:=dx l (10*n+(x.toNat-48))
  rw[JC];refine jC ?_ this;rw[jl,Nat.pow_succ,Nat.mul_comm (10 ^ l.length) 10,<- Nat.mul_assoc];exact Q3 _ (by omega)
theorem pQ{a b:List UInt8}(h:∀c ∈ a,ku c)(hb:∀c ∈ b,ku c)(e:a.length<b.length)(d:(b.getD 0 0).toNat≠48):jy a<jy b:=by
 match b,e,d with
 | y::b,e,d=>
  have i:=hb y (by simp);unfold ku at i;have f:y.toNat≠48:=d;have j:=dw a 0 h;have k:=dx b (10*0+(y.toNat-48));have g:jy (y::b)=ky (10*0+(y.toNat-48)) b:=JC 0 y b;have l:10 ^ a.length<=10 ^ b.length:=Nat.pow_le_pow_right (by omega) (by simp at e;omega);have m:1*10 ^ b.length<=(10*0+(y.toNat-48))*10 ^ b.length:=Q3 _ (by omega);rw[g];unfold jy;omega
def Xt(t:BA):Bool:=(t.toList==[48])||Ref.kD t
def U8(a b:BA):Bool:=if a.size=b.size then decide (Lib.compareBytes a.data.toList b.data.toList<0) else decide (a.size<b.size)
theorem U9{t:BA}(h:Xt t=true):(∀c ∈ t.data.toList,ku c)/\1<=t.size/\t.size<=18/\(1<t.size->(t.data.toList.getD 0 0).toNat≠48)/\(t.data.toList.getD 0 0).toNat≠45:=by
 have b:t.data.toList.length=t.size:=by simp
 unfold Xt at h
 rcases Bool.or_eq_true_iff.1 h with h|h
 ·have e:t.data.toList=[48]:=by
   have:=Jk h
   rwa [Qj] at this
  rw[e] at b |-;simp at b;refine⟨λc a=>?_,by omega,by omega,by omega,by simp⟩;simp at a;subst a;exact⟨by decide,by decide⟩
 ·unfold Ref.kD at h;simp only[um,je,bne_iff_ne] at h;obtain⟨⟨⟨d,f⟩,g⟩,i⟩:=h
  have hd:∀c ∈ t.data.toList,ku c:=λc a=>by
   have:=ve.1 i c a
   simp only[je] at this;exact this
  refine⟨hd,d,f,λ_=>g,?_⟩
  match hx:t.data.toList with
  | []=>rw[hx] at b;simp at b;omega
  | x::r=>
   have:=hd x (by rw[hx];simp)
   unfold ku at this
   simp
   omega
theorem sO{a b:BA}(g:Xt a=true)(hb:Xt b=true):U8 a b=decide (jy a.data.toList<jy b.data.toList):=by
 obtain⟨d,l,_,h,_⟩:=U9 g;obtain⟨f,m,_,i,_⟩:=U9 hb;have j:a.data.toList.length=a.size:=by simp
 have k:b.data.toList.length=b.size:=by simp
 unfold U8
 by_cases e:a.size=b.size
 ·rw[zb e]
  have:=pO a.data.toList b.data.toList 0 0 (by omega) d f
  simp only[Nat.lt_irrefl,false_or,true_and] at this;unfold jy;exact decide_eq_decide.2 this.symm
 ·rw[za e]
  by_cases c:a.size<b.size
  ·rw[zF c,zF (pQ d f (by omega) (i (by omega)))]
  ·have:=pQ f d (by omega) (h (by omega))
   rw[zH c,zH (by omega)]
def jf(s:BA):Bool:=decide (0<s.size)&&((s.data.toList.getD 0 0).toNat==45)
def uC(s:BA):BA:=if jf s then s.extract 1 s.size else s
def Z8(s:BA):Int:=if jf s then -((jy (uC s).data.toList:Nat):Int) else ((jy (uC s).data.toList:Nat):Int)
def X3(a b:BA):Bool:=if jf a=jf b then (if jf a then U8 (uC b) (uC a) else U8 (uC a) (uC b)) else jf a
theorem bR{s:BA}(h:Ref.xe s=true):Xt (uC s)=true/\(jf s=true->Ref.kD (uC s)=true):=by
 unfold Ref.xe at h
 rcases Bool.or_eq_true_iff.1 h with h|h
 ·have e:s.data.toList=[48]:=by
   have:=Jk h
   rwa [Qj] at this
  have b:jf s=false:=by unfold jf;rw[e];simp
  unfold uC;rw[b];refine⟨?_,λh=>by cases h⟩;unfold Xt;simp[h]
 ·cases b:jf s with
  | true=>
   have a:=b;unfold jf at a;simp only[um,je,kX] at a;rw[zb a] at h;unfold uC Xt;rw[b,zb rfl,h]
   simp
  | false=>
   have a:=b;unfold jf at a
   rw[za (by
    rintro ⟨c,d⟩;rw[zF c,d] at a;simp at a)] at h
   unfold uC Xt;rw[b];simp[h]
theorem NY{t:BA}(h:Ref.kD t=true):0<jy t.data.toList:=by
 have f:=U9 (t:=t) (by unfold Xt;simp[h]);obtain⟨hd,g,_,_,_⟩:=f;unfold Ref.kD at h;simp only[um,je,bne_iff_ne] at h;have c:t.data.toList.length=t.size:=by simp
 match hx:t.data.toList with
 | []=>rw[hx] at c;simp at c;omega
 | x::r=>
  have b:=h.1.2;rw[hx] at b;have d:x.toNat≠48:=b;have a:=hd x (by rw[hx];simp);unfold ku at a;have i:=dx r (10*0+(x.toNat-48));have e:jy (x::r)=ky (10*0+(x.toNat-48)) r:=JC 0 x r;have j:1*10 ^ r.length<=(10*0+(x.toNat-48))*10 ^ r.length:=Q3 _ (by omega);have k:0<10 ^ r.length:=Nat.pow_pos (by omega);rw[e];omega
theorem Tn{a b:BA}(e:Ref.xe a=true)(hb:Ref.xe b=true):X3 a b=decide (Z8 a<Z8 b):=by
 obtain⟨c,f⟩:=bR e;obtain⟨d,g⟩:=bR hb;unfold X3 Z8
 cases ea:jf a with
 | true=>
  have h:=NY (f ea)
  cases eb:jf b with
  | true=>
   simp only[qh];rw[sO d c];exact decide_eq_decide.2 (by omega)
  | false=>
   simp only[Bool.true_eq_false,qW,qh,xz];rw[zF (by omega)]
 | false=>
  cases eb:jf b with
  | true=>
   simp only[xz,qW,qh];rw[zH (by omega)]
  | false=>
   simp only[qh,xz,qW];rw[sO c d];exact decide_eq_decide.2 (by omega)
def yI(op:BA):Bool:=op.toList==[115,97,109,101]
def jw(op:BA):Bool:=op.toList==[98,101,108,111,119]
def X7(c:Bool×List BA)(word:BA)(r:Ref.Req):Bool:=(c.2.any λp=>Ref.vw p word r) != c.1
def Qf(x v:BA):Bool:=(x.toList==v.toList)||(decide (v.size<x.size)&&((x.data.toList.take v.size==v.data.toList)&&((x.data.toList.getD v.size 0).toNat==47)))
def YK(op x v:BA)(r:Ref.Req):Bool:=
 if Ref.xw op then Ref.vw v x r
 else if yI op then x.toList==v.toList
 else if jw op then Ref.xe x&&X3 x v
 else Qf x v
def Yr(op:BA)(vals:List BA)(r:Ref.Req):Option BA->Bool
 | none=>false
 | some x=>vals.any λv=>YK op x v r
end De
theorem RQ{r:Ref.Req}(h:Ref.yN r=true):r.marks.length<=10:=by
 unfold Ref.yN at h;simp only[um,je] at h;exact h.1.2
theorem YT{s:BA}(h:Ref.jM s=true):s.size<=100/\(Ref.chars s).isSome=true:=by
 unfold Ref.jM at h;simp at h;exact⟨h.2,h.1⟩
theorem tV{r:Ref.Req}(h:Ref.yN r=true):Ref.jM r.who=true/\Ref.jM r.act=true/\Ref.jM r.on=true:=by
 unfold Ref.yN at h;simp only[um,je] at h;exact⟨h.1.1.1.1,h.1.1.1.2,h.1.1.2⟩
theorem wB{r:Ref.Req}(h:Ref.yN r=true)(n v:BA)(a:Ref.says r n=some v):v.size<=100/\(Ref.chars v).isSome=true:=by
 obtain⟨b,c,d⟩:=tV h
 have e:r.marks.all Ref.ZA=true:=by
  unfold Ref.yN at h;simp only[um] at h;exact h.2
 refine YT ?_;unfold Ref.says at a
 split at a
 ·simp at a;subst a;exact b
 split at a
 ·simp at a;subst a;exact c
 split at a
 ·simp at a;subst a;exact d
 ·unfold Ref.Jy at a;obtain⟨m,f,rfl⟩:=vU.1 a
  have:=ve.1 e m (gW f)
  unfold Ref.ZA at this;simp only[um] at this;exact this.1.1.1.2
end Go.Proofs.YtdakgnaojakldaaGreatDoor
