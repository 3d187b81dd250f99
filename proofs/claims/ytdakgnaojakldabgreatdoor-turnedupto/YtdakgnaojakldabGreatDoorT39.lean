/- P -/
import Derived.Test.YtdakgnaojakldabGreatDoorT38
import Derived.Lib.Bytealg
open Go.Proofs.Tryz
set_option maxRecDepth 100000
set_option maxHeartbeats 8000000
namespace Go.Proofs.YtdakgnaojakldabGreatDoor
open Go.RowKit
def QK(w:World)(e:Value)(l:List Kp.zY):Prop:=∃a c,e = .slice a l.length c/\∀(k:Nat) (p:Kp.zY),l[k]?=some p->I64 p.layer/\I64 p.name/\p.rules.length<=maxLen /\
 ∃b o d,a=some ⟨b,o,none⟩/\w.cell? ⟨b,o+k*3,none⟩=some (.int .i64 p.layer)/\w.cell? ⟨b,o+k*3+1,none⟩=some (.int .i64 p.name)/\w.cell? ⟨b,o+k*3+2,none⟩=some d/\uY w d p.rules
theorem QK.below{w f:World}{d:Value}{l:List Kp.zY}(h:QK w d l)(b:Below w.heap.size w f):QK f d l:=by
 obtain⟨a,c,rfl,h⟩:=h;refine⟨a,c,rfl,λk p n=>?_⟩;obtain⟨i,j,m,g,o,r,e,c0,c1,c2,q⟩:=h k p n;exact⟨i,j,m,g,o,r,e,zb b c0,zb b c1,zb b c2,q.below b⟩
structure uu (w:World) (cb hb:Nat) (st:StO):Prop where
 cnt:∀i,i<4->w.cell? ⟨cb,i,none⟩=some (.int .i64 ((st i).length:Nat))/\w.frozen? ⟨cb,i,none⟩=false
 has:∀i,i<4->∀k,k<6->w.cell? ⟨hb,i*6+k,none⟩=some (.bool (zu (st i) (Kp.qi k)))/\w.frozen? ⟨hb,i*6+k,none⟩=false
theorem uu.turn{w j:World}{d e:Nat}{n:StO}{M:Nat->Prop}(h:uu w d e n)(g:zA M w j)(l:¬M d)(m:¬M e):uu j d e n:=by
 have fr:∀(b k:Nat) (v:Value),¬M b->w.cell? ⟨b,k,none⟩=some v->w.frozen? ⟨b,k,none⟩=false->j.frozen? ⟨b,k,none⟩=false:=λb k v q o p=>
  (World.frozen?_of_block (w:=w) (a:=⟨b,k,none⟩) (g.block b (World.block_lt_of_cell? _ _ o) q)).trans p
 exact⟨λi c=>⟨g.cell (x:=⟨d,i,none⟩) l (h.cnt i c).1,fr _ _ _ l (h.cnt i c).1 (h.cnt i c).2⟩,λi c k f=>⟨g.cell (x:=⟨e,i*6+k,none⟩) m (h.has i c k f).1,fr _ _ _ m (h.has i c k f).1 (h.has i c k f).2⟩⟩
theorem uu.same{w:World}{f g:Nat}{e c:StO}(h:uu w f g e)(l:∀a,a<4->(c a).length=(e a).length)(m:∀a,a<4->∀b,b<6->zu (c a) (Kp.qi b)=zu (e a) (Kp.qi b)):uu w f g c:=
 ⟨λi d=>by rw[l i d];exact h.cnt i d,λi d k j=>by rw[m i d k j];exact h.has i d k j⟩
theorem uu.more{w:World}{l m:Nat}{k g:StO}(h:uu w l m k)(n:l≠m){i j:Nat}(r:i<4)(s:j<6)(p:∀a,a<4->(g a).length=if a=i then (k a).length+1 else (k a).length)(q:∀a,a<4->∀b,b<6->zu (g a) (Kp.qi b)=(zu (k a) (Kp.qi b)||(decide (a=i)&&decide (b=j)))) :
  uu ((w.setCell ⟨l,i,none⟩ (.int .i64 (((k i).length:Int)+1))).setCell ⟨m,i*6+j,none⟩ (.bool true)) l m g:=by
 refine⟨λa d=>⟨?_,by rw[World.frozen?_setCell,World.frozen?_setCell];exact (h.cnt a d).2⟩,λa d b f=>⟨?_,by rw[World.frozen?_setCell,World.frozen?_setCell];exact (h.has a d b f).2⟩⟩
 ·rw[World.cell?_setCell_other _ _ _ _ (by intro e;injection e with e;exact n e.symm),p a d]
  by_cases e:a=i
  ·subst e;rw[if_pos rfl,World.cell?_setCell_same _ _ _ (h.cnt a d).1]
   simp
  ·rw[if_neg e,World.cell?_setCell_other _ _ _ _ (by intro c;injection c with _ c;exact e c.symm)]
   exact (h.cnt a d).1
 ·have o:=(World.cell?_setCell_other w ⟨l,i,none⟩ ⟨m,a*6+b,none⟩ (.int .i64 (((k i).length:Int)+1)) (by intro e;injection e with e;exact n e)).trans (h.has a d b f).1
  rw[q a d b f]
  by_cases e:a=i/\b=j
  ·obtain⟨rfl,rfl⟩:=e;rw[World.cell?_setCell_same _ _ _ o]
   simp
  ·rw[World.cell?_setCell_other _ _ _ _ (by intro c;injection c with _ c;apply e;constructor<;>omega),o]
   have:(decide (a=i)&&decide (b=j))=false:=by
    rw[Bool.and_eq_false_iff]
    by_cases e1:a=i
    ·exact .inr (decide_eq_false (λc=>e ⟨e1,c⟩))
    ·exact .inl (decide_eq_false e1)
   rw[this,Bool.or_false]
def OpM(c a b:Nat):Prop:=b=c\/b=a+1\/b=a+1+1
structure Xo (w wr:World) (nb:Nat) (st:StO):Prop where
 below:Below w.heap.size w wr
 office:qL (OpM w.heap.size nb) wr w.heap.size st
 lt:w.heap.size<nb
 top:nb+2<wr.heap.size
 names:∀j,j<6->wr.cell? ⟨nb,j,none⟩=some (.string (Kp.qi j))
 counts:uu wr (nb+1) (nb+1+1) st
def Vv(w:World)(l:List Kp.zY)(e:Ending)(c:World):Prop:=∃a,e = .returned (.tuple #[.pointer (some ⟨a,0,none⟩),.bool true])/\w.heap.size<=a/\a<c.heap.size/\Below w.heap.size w c/\qL (λb=>b=a) c a (Kp.ui l)
theorem ig(l:List Kp.zY)(lv:Value)(aL:Addr)(w:World)(hC:Zz w aL)(h:QK w lv l)(hm:l.length<=maxLen) :
  Calls prog 4 #[lv] w (Vv w l):=by
 have cn:=gz (λb=>b=w.heap.size) w rfl;have cN:=λW=>He W;obtain⟨a,cc,rfl,J⟩:=h;obtain⟨n,a1⟩:=Nm l.length;have A:=hid J;have HC:=hid hC;have CN:=hid cn;have b0:=hid cN;rw[a1] at hm |-;have HN:=hid a1;unfold maxLen at hm;clear J hC cn cN a1;go_enter func4,ntmps4
 go_upto_region 8 with (first
  | (go_at_call 11;refine (b0.out P).mono ?_;rintro e w2 ⟨rfl,S⟩;rw[S];clear S)
  | (go_at_call 10;refine CN.out.mono ?_;rintro e P ⟨rfl,b1,o1⟩;have B1:=hid b1;have O1:=hid o1;clear b1 o1))
 have h6:w.heap.size<P.heap.size:=lt_of_block O1.out.row.choose_spec.1;obtain⟨d,I⟩:∃x,P.heap.size=x:=⟨_,rfl⟩;obtain⟨W3,C⟩:∃W,((P.alloc (.cells (Kp.QV.map Value.string).toArray 9)).alloc (.cells #[.int .i64 0,.int .i64 0,.int .i64 0,.int .i64 0] 49)).alloc (.cells #[.bool false,.bool false,.bool false,.bool false,.bool false,.bool false,.bool false,.bool false,.bool false,.bool false,.bool false,.bool false,.bool false,.bool false,.bool false,.bool false,.bool false,.bool false,.bool false,.bool false,.bool false,.bool false,.bool false,.bool false] 51)=W:=⟨_,rfl⟩
 have Y:Xo w W3 d (Kp.jl l 0):=by
  have hb13:Below P.heap.size P W3:=by rw[<- C];exact ((nB P _).alloc (by simp) _).alloc (by simp;omega) _
  have j8:W3.heap.size=d+3:=by rw[<- C,<- I];simp
  have e0:Kp.jl l 0=qW:=rfl;rw[e0]
  have x1:W3.heap[d]?=some (.cells (Kp.QV.map Value.string).toArray 9):=by
   rw[<- C,<- I,Below.heap_alloc _ _ _ (by simp;omega),Below.heap_alloc _ _ _ (by simp)];exact heap_alloc_new P _
  have x2:W3.heap[d+1]?=some (.cells #[.int .i64 0,.int .i64 0,.int .i64 0,.int .i64 0] 49):=by
   rw[<- C,<- I,Below.heap_alloc _ _ _ (by simp)]
   have:=heap_alloc_new (P.alloc (.cells (Kp.QV.map Value.string).toArray 9)) (.cells #[.int .i64 0,.int .i64 0,.int .i64 0,.int .i64 0] 49)
   simpa using this
  have x3:W3.heap[d+2]?=some (.cells #[.bool false,.bool false,.bool false,.bool false,.bool false,.bool false,.bool false,.bool false,.bool false,.bool false,.bool false,.bool false,.bool false,.bool false,.bool false,.bool false,.bool false,.bool false,.bool false,.bool false,.bool false,.bool false,.bool false,.bool false] 51):=by
   rw[<- C,<- I]
   have:=heap_alloc_new ((P.alloc (.cells (Kp.QV.map Value.string).toArray 9)).alloc (.cells #[.int .i64 0,.int .i64 0,.int .i64 0,.int .i64 0] 49)) (.cells #[.bool false,.bool false,.bool false,.bool false,.bool false,.bool false,.bool false,.bool false,.bool false,.bool false,.bool false,.bool false,.bool false,.bool false,.bool false,.bool false,.bool false,.bool false,.bool false,.bool false,.bool false,.bool false,.bool false,.bool false] 51)
   simpa using this
  refine⟨B1.out.trans (hb13.mono B1.out.size),(O1.out.more (λb v=>by rcases v with h|h|h;exact .inl h;exact .inr (by omega);exact .inr (by omega)) (.inl rfl)).below hb13,by omega,by omega,λj hj=>?_,⟨λi hi=>?_,λi hi k hk=>?_⟩⟩
  ·rw[(za x1 j).1]
   have:j=0\/j=1\/j=2\/j=3\/j=4\/j=5:=by omega
   rcases this with rfl|rfl|rfl|rfl|rfl|rfl<;>rfl
  ·obtain⟨c,f⟩:=za x2 i;rw[c,f]
   have:i=0\/i=1\/i=2\/i=3:=by omega
   rcases this with rfl|rfl|rfl|rfl<;>exact⟨rfl,rfl⟩
  ·obtain⟨c,f⟩:=za x3 (i*6+k);rw[c,f]
   have b4:∀m,m<24->(#[Value.bool false,.bool false,.bool false,.bool false,.bool false,.bool false,.bool false,.bool false,.bool false,.bool false,.bool false,.bool false,.bool false,.bool false,.bool false,.bool false,.bool false,.bool false,.bool false,.bool false,.bool false,.bool false,.bool false,.bool false]:Array Value)[m]?=some (.bool false):=by
    intro m hm;have d8:(List.replicate 24 (Value.bool false))[m]?=some (.bool false):=by rw[List.getElem?_replicate,if_pos hm]
    simpa using d8
   exact⟨b4 _ (by omega),rfl⟩
 rw[C];have b2:=hid Y;rw[I];clear Y C I B1 O1 CN b0
 go_loopw [8] (λiv wr=>∃k:Nat,k<=n/\iv = .int .i64 k/\Xo w wr d (Kp.jl l k)) (λiv _=>n-(intOf iv).toNat)
 case atStart=>exact⟨0,Nat.zero_le _,rfl,b2.out⟩
 case round=>
  clear b2;obtain⟨k,hk,rfl,B⟩:=hrel
  by_cases hlt:k<n
  ·have b6:k<l.length:=by rw[HN.out];exact hlt
   obtain⟨i1,i2,a2,gb,o,rv,rfl,q0,q1,q2,a3⟩:=A.out k _ (List.getElem?_eq_getElem b6);have g:=Kp.IC l k b6;obtain⟨hG,_⟩:=Kp.IB l k;obtain⟨D,b9⟩:∃s,Kp.jl l k=s:=⟨_,rfl⟩;rw[b9] at B g hG;obtain⟨p,hp⟩:=Nm (l[k]);rw[hp] at i1 i2 a2 q0 q1 a3 g;have p0:=zb B.below q0;have p1:=zb B.below q1;have p2:=zb B.below q2;have hi4:=Kp.XD p;have H:=Kp.Q7 p;have c1:=λW=>vL p.layer 4 W i1 (by decide) (by decide);have c2:=λW=>vL p.name 6 W i2 (by decide) (by decide);have hlen:=Kp.Ot D p;have K:=λ(a b:Nat) (O:a<4) (v:b<6)=>Kp.Oq hG p O v;have z:=Kp.Xb D hi4 H (Kp.xh p.rules) (Kp.Xa p.rules);have L:Kp.ja D p=y9 D (p.lay:Int) (Kp.qi p.num) (Kp.xh p.rules):=rfl;have cP:=λ(W:World) (v:Below w.heap.size w W)=>iy p.rules rv W (a3.below v) a2;unfold Kp.zY.nam at hlen;have e1:Kp.zk p.layer 4=p.lay:=rfl;have S:Kp.zk p.name 6=p.num:=rfl;simp only[e1] at c1;simp only[S] at c2;obtain⟨i,hi⟩:=Nm p.lay;obtain⟨j,hj⟩:=Nm p.num;simp only[hi,hj] at c1 c2 hi4 H hlen K z L;obtain⟨T,hT⟩:=Nm (Kp.xh p.rules);simp only[hT] at z L cP;have nj:=B.names j H;have jz:=Kp.GZ j H;obtain⟨nm,U⟩:∃x,Kp.qi j=x:=⟨_,rfl⟩;rw[U] at nj jz z L;simp only[U] at hlen;have C1:Hid (∀W,Calls prog 5 #[.int .i64 p.layer,.int .i64 4] W λe w'=>e = .returned (.int .i64 (i:Int))/\w'=W):=hid c1;have C2:Hid (∀W,Calls prog 5 #[.int .i64 p.name,.int .i64 6] W λe w'=>e = .returned (.int .i64 (j:Int))/\w'=W):=hid c2;have CP:=hid cP;have N:=hid B;have HG:=hid hG;have r:=hid hlen;have q:=hid K;have t:=hid (g.trans L);have F:=hid g;have Q:=hid z.1;have V:=hid (λ(W:World) (v:Below w.heap.size w W) (ho:qL (OpM w.heap.size d) W w.heap.size D) (hz:d+2<W.heap.size)=>iQ w.heap.size D (i:Int) nm T (OpM w.heap.size d) aL W (HC.out.below v) ho (λb v=>by have:=B.lt;rcases v with h|h|h<;>omega) (by unfold maxLen;omega))
   have b3:=hid U;have X:=B.top;have y:=B.lt;have j6:(0:Int)<=(k:Int):=Int.natCast_nonneg _;have j4:(0:Int)<=(i:Int):=Int.natCast_nonneg _;have j5:(0:Int)<=(j:Int):=Int.natCast_nonneg _;have h2:(i:Int)<4:=by omega
   have h3:(j:Int)<6:=by omega
   clear q0 q1 a3 hp c1 c2 cP B hG hlen K z L g b9 hi hj hT A HN U i1 i2 a2
   go_upto_region 11 with (go_at_call 5;refine (C1.out wr).mono ?_;rintro e w2 ⟨rfl,S⟩;rw[S];clear S)
   go_upto_region 12 with (go_at_call 5;refine (C2.out wr).mono ?_;rintro e w3 ⟨rfl,e3⟩;rw[e3];clear e3)
   go_cut [11] (λv11 wc=>v11 = .int .i64 (kS D (i:Int) nm T).1/\Below w.heap.size w wc/\qL (OpM w.heap.size d) wc w.heap.size (Kp.jl l (k+1))/\d+2<wc.heap.size/\(∀j,j<6->wc.cell? ⟨d,j,none⟩=some (.string (Kp.qi j)))/\uu wc (d+1) (d+1+1) D)
   case first=>
    have cp:=hid (CP.out wr.drew N.out.below.drew);have h1:gb≠w.heap.size:=by have:=World.block_lt_of_cell? _ _ q2;simp at this;omega
    go_region_held3 (λw'=>w'.cell? ⟨d,j,none⟩=some (.string nm)/\w'.cell? ⟨gb,o+k*3+2,none⟩=some rv) (go_keep) (first
     | (go_at_call 12;refine (V.out w5 B5.out O5.out z5).mono ?_;rintro e w6 ⟨rfl,t6,o6⟩;have n6:=t6.cell (x:=⟨d,j,none⟩) (by simp;omega) n5;have r6:=t6.cell (x:=⟨gb,o+k*3+2,none⟩) (by simp;omega) r5;have T6:=hid t6;have O6:=hid o6;clear t6 o6)
     | (go_at_call 13;refine cp.out.mono ?_;rintro e w5 ⟨rfl,Z⟩;have n5:=zb Z nj;have r5:=zb Z p2;have B5:=hid (N.out.below.drew.trans (Z.mono N.out.below.size));have O5:=hid ((N.out.office.below (Below.refl _ wr).drew).below Z);have z5:d+2<w5.heap.size:=Nat.lt_of_lt_of_le X Z.size;have d2:=hid Z;clear Z))
    all_goals
     go_wp2_with fail
     go_meet
     case rel=>
      have tt:=(zA.of (M:=λb=>b=w.heap.size) ((Below.refl _ wr).drew)).trans ((zA.of d2.out).trans T6.out);refine⟨rfl,B5.out.trans (T6.out.below (λk hk e=>by omega) (by omega)),by rw[t.out];exact O6.out,?_,λj' a0=>tt.cell (x:=⟨d,j',none⟩) (by simp;omega) (N.out.names j' a0),N.out.counts.turn tt (by omega) (by omega)⟩
      have:=tt.size
      omega
   case rest=>
    obtain⟨rfl,b7,o7,z7,n7,R⟩:=hcut;have x1:=R.cnt i hi4;have x2:=R.has i hi4 j H;rw[b3.out] at x2;have b8:∀a4:StO,Kp.jl l (k+1)=a4->uu wc (d+1) (d+1+1) a4->Xo w wc d (Kp.jl l (k+1)):=λa4 e hc=>⟨b7,o7,y,z7,n7,by rw[e];exact hc⟩;have G:=Q.out;have B7:=hid b7;have O7:=hid o7;have N7:=hid n7;have E:=hid R;obtain⟨f5,k5⟩:=x1;obtain⟨c3,k6⟩:=x2;clear b7 o7 n7 R V N CP C1 C2 b8
    cases hh:zu (D i) nm with
    | true=>
     rw[hh] at c3;rw[G,hh,Bool.true_or,if_pos rfl]
     have hinv:Xo w wc d (Kp.jl l (k+1)):=by
      refine⟨B7.out,O7.out,y,z7,N7.out,?_⟩;rw[F.out];refine E.out.same (λa O=>?_) (λa O b v=>?_)
      ·rw[r.out a,if_neg (λh=>by rw[h.2.1] at hh;cases hh)]
      ·rw[q.out a b O v]
       by_cases e:a=i/\b=j
       ·obtain⟨rfl,rfl⟩:=e;rw[b3.out,hh,Bool.true_or]
       ·have:(decide (a=i)&&decide (b=j))=false:=by
         rw[Bool.and_eq_false_iff]
         by_cases e1:a=i
         ·exact .inr (decide_eq_false (λS=>e ⟨e1,S⟩))
         ·exact .inl (decide_eq_false e1)
        rw[this,Bool.false_and,Bool.or_false]
     have u:=hid hinv;clear hinv r q E O7 N7 B7 F t Q G;go_wp2_with fail
     go_roundw
     case rel=>exact⟨k+1,by omega,by go_num,u.out⟩
     case measure=>simp[intOf];omega
    | false=>
     rw[hh] at c3
     by_cases h4:(D i).length<4
     ·rw[G,hh,Bool.false_or,decide_eq_true h4,if_pos rfl];have d4:(((D i).length:Int)==4)=false:=by simp;omega
      have hW:=((B7.out.setCell (p:=⟨d+1,i,none⟩) (by simp;omega) (.int .i64 (((D i).length:Int)+1))).setCell (p:=⟨d+1+1,i*6+j,none⟩) (by simp;omega) (.bool true));have tW:=(zA.set (M:=λb=>b=d+1\/b=d+1+1) wc (b:=d+1) (.inl rfl) i (.int .i64 (((D i).length:Int)+1))).trans (zA.set (M:=λb=>b=d+1\/b=d+1+1) _ (b:=d+1+1) (.inr rfl) (i*6+j) (.bool true))
      have hinv:Xo w ((wc.setCell ⟨d+1,i,none⟩ (.int .i64 (((D i).length:Int)+1))).setCell ⟨d+1+1,i*6+j,none⟩ (.bool true)) d (Kp.jl l (k+1)):=by
       refine⟨hW,?_,y,by simp;omega,λj' a0=>tW.cell (x:=⟨d,j',none⟩) (by simp;omega) (N7.out j' a0),?_⟩
       ·exact (O7.out.other (zA.set (M:=λb=>b=d+1) wc (b:=d+1) rfl i _) (by omega) (.inr (.inl rfl))).other (zA.set (M:=λb=>b=d+1+1) _ (b:=d+1+1) rfl (i*6+j) _) (by omega) (.inr (.inr rfl))
       ·rw[F.out];refine E.out.more (by omega) hi4 H (λa O=>?_) (λa O b v=>?_)
        ·rw[r.out a]
         by_cases e:a=i
         ·rw[if_pos ⟨e,hh,h4⟩,if_pos e]
         ·rw[if_neg (λh=>e h.1),if_neg e]
        ·rw[q.out a b O v,decide_eq_true h4,Bool.and_true]
      have u:=hid hinv;clear hinv hW tW r q E O7 N7 B7 F t Q G;go_wp2_with fail
      go_roundw
      case rel=>exact⟨k+1,by omega,by go_num,u.out⟩
      case measure=>simp[intOf];omega
     ·rw[G,hh,Bool.false_or,decide_eq_false h4,if_neg (by simp)]
      have e5:(D i).length=4:=by
       have:=(HG.out i hi4).2.1
       omega
      rw[e5] at f5
      have hinv:Xo w wc d (Kp.jl l (k+1)):=by
       refine⟨B7.out,O7.out,y,z7,N7.out,?_⟩;rw[F.out];refine E.out.same (λa O=>?_) (λa O b v=>?_)
       ·rw[r.out a,if_neg (λh=>h4 h.2.2)]
       ·rw[q.out a b O v,decide_eq_false h4,Bool.and_false,Bool.or_false]
      have u:=hid hinv;clear hinv r q E O7 N7 B7 F t Q G;go_wp2_with fail
      go_roundw
      case rel=>exact⟨k+1,by omega,by go_num,u.out⟩
      case measure=>simp[intOf];omega
  ·have e4:k=n:=by omega
   subst e4;rw[Kp.IA l k (by rw[HN.out];exact Nat.le_refl _)] at B;have N:=hid B;have X:=B.top;have y:=B.lt;clear B A HN;go_wp2_with fail;go_ret2;exact⟨w.heap.size,rfl,Nat.le_refl _,by omega,N.out.below,N.out.office.more (λb v => .inl (.inl v)) rfl⟩
namespace De
def vI(c:UInt8):Prop:=48<=c.toNat/\c.toNat<=57
def aa(n:Nat)(c:UInt8):Nat:=10*n+(c.toNat-48)
def vJ(n:Nat)(l:List UInt8):Nat:=l.foldl aa n
def yw(l:List UInt8):Nat:=vJ 0 l
theorem XJ(n:Nat)(c:UInt8)(l:List UInt8):vJ n (c::l)=vJ (10*n+(c.toNat-48)) l:=by simp only[vJ,List.foldl_cons,aa]
theorem gp:∀(a b:List UInt8) (n m:Nat),a.length=b.length->(∀c ∈ a,vI c)->(∀c ∈ b,vI c)->(vJ n a<vJ m b↔n<m\/(n=m/\Lib.compareBytes a b<0))
 | [],[],n,m,_,_,_=>by simp[vJ,Lib.compareBytes]
 | [],_::_,_,_,h,_,_=>by simp at h
 | _::_,[],_,_,h,_,_=>by simp at h
 | x::a,y::b,n,m,h,ha,hb=>by
  have i:=ha x (by simp);have j:=hb y (by simp);unfold vI at i j;rw[XJ,XJ,gp a b _ _ (by simpa using h) (λc f=>ha c (by simp[f])) (λc f=>hb c (by simp[f])),Lib.compareBytes]
  by_cases c1:x<y
  ·have d:x.toNat<y.toNat:=c1;rw[if_pos c1]
   constructor
   ·intro h;omega
   ·intro h;omega
  ·have d:¬x.toNat<y.toNat:=c1;rw[if_neg c1]
   by_cases c2:y<x
   ·have e:y.toNat<x.toNat:=c2;rw[if_pos c2]
    constructor
    ·intro h;omega
    ·intro h;omega
   ·have e:¬y.toNat<x.toNat:=c2;rw[if_neg c2]
    constructor
    ·rintro (h|⟨h,g⟩)
     ·left;omega
     ·right;exact⟨by omega,g⟩
    ·rintro (h|⟨h,g⟩)
     ·left;omega
     ·right;exact⟨by omega,g⟩
theorem UH:∀(l:List UInt8) (n:Nat),(∀c ∈ l,vI c)->vJ n l<(n+1)*10 ^ l.length
 | [],n,_=>by simp[vJ]
 | x::l,n,h=>by
  have b:=h x (by simp);unfold vI at b
  have:=UH l (10*n+(x.toNat-48)) (λc a=>h c (by simp[a]))
  rw[XJ];refine Nat.lt_of_lt_of_le this ?_;rw[List.length_cons,Nat.pow_succ,Nat.mul_comm (10 ^ l.length) 10,<- Nat.mul_assoc];exact Nat.mul_le_mul_right _ (by omega)
theorem UI:∀(l:List UInt8) (n:Nat),n*10 ^ l.length<=vJ n l
 | [],n=>by simp[vJ]
 | x::l,n=>by
  have:=UI l (10*n+(x.toNat-48))
  rw[XJ];refine Nat.le_trans ?_ this;rw[List.length_cons,Nat.pow_succ,Nat.mul_comm (10 ^ l.length) 10,<- Nat.mul_assoc];exact Nat.mul_le_mul_right _ (by omega)
theorem gq{a b:List UInt8}(h:∀c ∈ a,vI c)(i:∀c ∈ b,vI c)(e:a.length<b.length)(d:(b.getD 0 0).toNat≠48):yw a<yw b:=by
 match b,e,d with
 | y::b,e,d=>
  have j:=i y (by simp);unfold vI at j;have f:y.toNat≠48:=d;have k:=UH a 0 h;have l:=UI b (10*0+(y.toNat-48));have g:yw (y::b)=vJ (10*0+(y.toNat-48)) b:=XJ 0 y b;have m:10 ^ a.length<=10 ^ b.length:=Nat.pow_le_pow_right (by omega) (by simp at e;omega);have n:1*10 ^ b.length<=(10*0+(y.toNat-48))*10 ^ b.length:=Nat.mul_le_mul_right _ (by omega);rw[g];unfold yw;omega
def Z8(t:BA):Bool:=(t.toList==[48])||Ref.vK t
def JV(a b:BA):Bool:=if a.size=b.size then decide (Lib.compareBytes a.data.toList b.data.toList<0) else decide (a.size<b.size)
theorem JW{t:BA}(h:Z8 t=true):(∀c ∈ t.data.toList,vI c)/\1<=t.size/\t.size<=18/\(1<t.size->(t.data.toList.getD 0 0).toNat≠48)/\(t.data.toList.getD 0 0).toNat≠45:=by
 have b:t.data.toList.length=t.size:=by simp
 unfold Z8 at h
 rcases Bool.or_eq_true_iff.1 h with h|h
 ·have e:t.data.toList=[48]:=by
   have:=eq_of_beq h
   rwa [ByteArray.toList_eq] at this
  rw[e] at b |-;simp at b;refine⟨λc a=>?_,by omega,by omega,by omega,by simp⟩;simp at a;subst a;exact⟨by decide,by decide⟩
 ·unfold Ref.vK at h;simp only[Bool.and_eq_true,decide_eq_true_eq,bne_iff_ne] at h;obtain⟨⟨⟨d,f⟩,g⟩,i⟩:=h
  have hd:∀c ∈ t.data.toList,vI c:=λc a=>by
   have:=List.all_eq_true.1 i c a
   simp only[decide_eq_true_eq] at this;exact this
  refine⟨hd,d,f,λ_=>g,?_⟩
  match hx:t.data.toList with
  | []=>rw[hx] at b;simp at b;omega
  | x::r=>
   have:=hd x (by rw[hx];simp)
   unfold vI at this
   simp
   omega
theorem iL{a b:BA}(g:Z8 a=true)(h:Z8 b=true):JV a b=decide (yw a.data.toList<yw b.data.toList):=by
 obtain⟨d,m,_,i,_⟩:=JW g;obtain⟨f,n,_,j,_⟩:=JW h;have k:a.data.toList.length=a.size:=by simp
 have l:b.data.toList.length=b.size:=by simp
 unfold JV
 by_cases e:a.size=b.size
 ·rw[if_pos e]
  have:=gp a.data.toList b.data.toList 0 0 (by omega) d f
  simp only[Nat.lt_irrefl,false_or,true_and] at this;unfold yw;exact decide_eq_decide.2 this.symm
 ·rw[if_neg e]
  by_cases c:a.size<b.size
  ·rw[decide_eq_true c,decide_eq_true (gq d f (by omega) (j (by omega)))]
  ·have:=gq f d (by omega) (i (by omega))
   rw[decide_eq_false c,decide_eq_false (by omega)]
def yc(s:BA):Bool:=decide (0<s.size)&&((s.data.toList.getD 0 0).toNat==45)
def jW(s:BA):BA:=if yc s then s.extract 1 s.size else s
def kL(s:BA):Int:=if yc s then -((yw (jW s).data.toList:Nat):Int) else ((yw (jW s).data.toList:Nat):Int)
def Qy(a b:BA):Bool:=if yc a=yc b then (if yc a then JV (jW b) (jW a) else JV (jW a) (jW b)) else yc a
theorem Uy{s:BA}(h:Ref.qE s=true):Z8 (jW s)=true/\(yc s=true->Ref.vK (jW s)=true):=by
 unfold Ref.qE at h
 rcases Bool.or_eq_true_iff.1 h with h|h
 ·have e:s.data.toList=[48]:=by
   have:=eq_of_beq h
   rwa [ByteArray.toList_eq] at this
  have b:yc s=false:=by unfold yc;rw[e];simp
  unfold jW;rw[b];refine⟨?_,λh=>by cases h⟩;unfold Z8;simp[h]
 ·cases b:yc s with
  | true=>
   have a:=b;unfold yc at a;simp only[Bool.and_eq_true,decide_eq_true_eq,beq_iff_eq] at a;rw[if_pos a] at h;unfold jW Z8;rw[b,if_pos rfl,h]
   simp
  | false=>
   have a:=b;unfold yc at a
   rw[if_neg (by
    rintro ⟨c,d⟩;rw[decide_eq_true c,d] at a;simp at a)] at h
   unfold jW Z8;rw[b];simp[h]
theorem Hl{t:BA}(h:Ref.vK t=true):0<yw t.data.toList:=by
 have f:=JW (t:=t) (by unfold Z8;simp[h]);obtain⟨hd,g,_,_,_⟩:=f;unfold Ref.vK at h;simp only[Bool.and_eq_true,decide_eq_true_eq,bne_iff_ne] at h;have c:t.data.toList.length=t.size:=by simp
 match hx:t.data.toList with
 | []=>rw[hx] at c;simp at c;omega
 | x::r=>
  have b:=h.1.2;rw[hx] at b;have d:x.toNat≠48:=b;have a:=hd x (by rw[hx];simp);unfold vI at a;have i:=UI r (10*0+(x.toNat-48));have e:yw (x::r)=vJ (10*0+(x.toNat-48)) r:=XJ 0 x r;have j:1*10 ^ r.length<=(10*0+(x.toNat-48))*10 ^ r.length:=Nat.mul_le_mul_right _ (by omega);have k:0<10 ^ r.length:=Nat.pow_pos (by omega);rw[e];omega
theorem NS{a b:BA}(e:Ref.qE a=true)(f:Ref.qE b=true):Qy a b=decide (kL a<kL b):=by
 obtain⟨c,g⟩:=Uy e;obtain⟨d,h⟩:=Uy f;unfold Qy kL
 cases ea:yc a with
 | true=>
  have i:=Hl (g ea)
  cases eb:yc b with
  | true=>
   simp only[if_true];rw[iL d c];exact decide_eq_decide.2 (by omega)
  | false=>
   simp only[Bool.true_eq_false,if_false,if_true,Bool.false_eq_true];rw[decide_eq_true (by omega)]
 | false=>
  cases eb:yc b with
  | true=>
   simp only[Bool.false_eq_true,if_false,if_true];rw[decide_eq_false (by omega)]
  | false=>
   simp only[if_true,Bool.false_eq_true,if_false];rw[iL c d];exact decide_eq_decide.2 (by omega)
def xJ(op:BA):Bool:=op.toList==[115,97,109,101]
def yu(op:BA):Bool:=op.toList==[98,101,108,111,119]
def jr(c:Bool×List BA)(word:BA)(r:Ref.Req):Bool:=(c.2.any λp=>Ref.jg p word r) != c.1
def kZ(x v:BA):Bool:=(x.toList==v.toList)||(decide (v.size<x.size)&&((x.data.toList.take v.size==v.data.toList)&&((x.data.toList.getD v.size 0).toNat==47)))
def Q8(op x v:BA)(r:Ref.Req):Bool:=
 if Ref.qD op then Ref.jg v x r
 else if xJ op then x.toList==v.toList
 else if yu op then Ref.qE x&&Qy x v
 else kZ x v
def QQ(op:BA)(vals:List BA)(r:Ref.Req):Option BA->Bool
 | none=>false
 | some x=>vals.any λv=>Q8 op x v r
end De
theorem MC{r:Ref.Req}(h:Ref.xO r=true):r.marks.length<=10:=by
 unfold Ref.xO at h;simp only[Bool.and_eq_true,decide_eq_true_eq] at h;exact h.1.2
theorem Xi{s:BA}(h:Ref.yQ s=true):s.size<=100/\(Ref.chars s).isSome=true:=by
 unfold Ref.yQ at h;simp at h;exact⟨h.2,h.1⟩
theorem lu{r:Ref.Req}(h:Ref.xO r=true):Ref.yQ r.who=true/\Ref.yQ r.act=true/\Ref.yQ r.on=true:=by
 unfold Ref.xO at h;simp only[Bool.and_eq_true,decide_eq_true_eq] at h;exact⟨h.1.1.1.1,h.1.1.1.2,h.1.1.2⟩
theorem lK{r:Ref.Req}(h:Ref.xO r=true)(n v:BA)(a:Ref.says r n=some v):v.size<=100/\(Ref.chars v).isSome=true:=by
 obtain⟨b,c,d⟩:=lu h
 have e:r.marks.all Ref.uP=true:=by
  unfold Ref.xO at h;simp only[Bool.and_eq_true] at h;exact h.2
 refine Xi ?_;unfold Ref.says at a
 split at a
 ·simp at a;subst a;exact b
 split at a
 ·simp at a;subst a;exact c
 split at a
 ·simp at a;subst a;exact d
 ·unfold Ref.XG at a;obtain⟨m,f,rfl⟩:=Option.map_eq_some_iff.1 a
  have:=List.all_eq_true.1 e m (List.mem_of_find?_eq_some f)
  unfold Ref.uP at this;simp only[Bool.and_eq_true] at this;exact this.1.1.1.2
end Go.Proofs.YtdakgnaojakldabGreatDoor
