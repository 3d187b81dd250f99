/- P -/
import Derived.Test.YtdakgnaojakldabGreatDoorT09
open Go.Proofs.Tryz
set_option maxRecDepth 100000
set_option maxHeartbeats 2000000
namespace Go.Proofs.YtdakgnaojakldabGreatDoor
open Go.RowKit
theorem uI{b w d:World}{R:Nat}(h:b.grownBy w (some R))(k:zC b.heap.size R w d):b.grownBy d (some R):=
 ⟨k.os.trans h.os,k.tape.trans h.tape,k.output.trans h.output,Nat.le_trans h.size k.size,λi c a=>(k.block i c (λe=>a (by rw[e]))).trans (h.block i c a)⟩
theorem yY{B R b o:Nat}(w:World)(v:Value)(c:B<=b):zC B R w (w.setCell ⟨b,o,none⟩ v):=
 ⟨rfl,rfl,rfl,by simp[World.setCell],λk a _=>Below.heap_setCell w ⟨b,o,none⟩ v k (λe=>by have:k=b:=e;omega)⟩
theorem Va(w:World)(b o:Nat)(v:Value)(k:Nat)(h:k≠b):(w.setCell ⟨b,o,none⟩ v).heap[k]?=w.heap[k]?:=Below.heap_setCell w ⟨b,o,none⟩ v k h
theorem Xv(w:World)(b:Nat)(u v:Value)(h:w.cell? ⟨b,0,none⟩=some u):(w.setCell ⟨b,0,none⟩ v).cell? ⟨b,0,none⟩=some v:=by
 unfold World.cell? World.setCell at *;simp only[Array.getElem?_modify,if_true];simp only at h
 cases hb:w.heap[b]? with
 | none=>rw[hb] at h;simp at h
 | some o=>
  rw[hb] at h
  cases o with
  | cells c t f=>
   simp at h |-;have a:=(Array.getElem?_eq_some_iff.1 h).1;simp[a]
  | _=>simp at h
theorem dJ(w:World)(b:Nat)(v:Value):(w.setCell ⟨b,0,none⟩ v).frozen? ⟨b,0,none⟩=w.frozen? ⟨b,0,none⟩:=by rw[dI]
theorem Gb(s:BA)(R d F:Nat)(m:World)(hs:s.size<=4000)(hR:R<m.heap.size)(a7:R≠5)(c8:5<m.heap.size)(hd:d<=8)(hv:kg s R F)(f:Nat)(acc:List Rd.V)(q:Nat)(w:World)(hf:f<F)
  (U:Zd m R s d acc q w)(hq:q<=s.size)(z:Rd.blank (Rd.ze s.data.toList q)=false)(b0:2*(s.size-q)<f) :
  Calls prog 106 #[.pointer (some ⟨m.heap.size,0,none⟩),.pointer (some ⟨m.heap.size+1,0,none⟩),.pointer (some ⟨m.heap.size+2,0,none⟩)] w λe H=>yR (Zd m R s d) (Xm m R) (Rd.stL s.data.toList d f acc q) e H:=by
 obtain⟨i0,a0,a1,a2,a3⟩:=info_parts Rk;obtain⟨lv,us,c1,c2,c3,c4⟩:=U.row;have cx:=U.cx;have cd:=U.cd;have e5:=U.size;have hlen:=U.len;have n:=hv f hf (d+1) q w U.rd U.seq hq (by omega) (by omega) z b0;rw[show ((d+1:Nat):Int)=(d:Int)+1 by omega] at n;have Q:Rd.stL s.data.toList d f acc q=Rd.stL s.data.toList d f acc q:=rfl
 conv at Q=>rhs;unfold Rd.stL
 have HI:=hid U;have b9:=hid c4;have y:=hid (λk C=>World.ownsRow.lt c3 k C);have d0:us.length=acc.length:=by have:=c3.1;omega
 have a6:=hid (λv q2 Z=>Rd.Vo (l:=s.data.toList) (f:=f) (d:=d+1) (p:=q) (q:=q2) (v:=v) (by omega) (by rw[Ref.zB];omega) z (by rw[Ref.zB];omega) Z);have Y:some (m.heap.size+2)≠lv.ownBlock:=λe=>by have:=(y.out _ e.symm).1;omega
 have G:=hid Y;have K:=hid c8;clear U z b0 hv c4 Y
 cases Z:Rd.zR s.data.toList f (d+1) q with
 | ok v q2=>
  rw[Z] at n Q;simp only at Q;have a8:=a6.out v q2 Z;rw[Ref.zB] at a8;have HE:=hid Q
  have t:=n.mono (R':=λe H=>∃T x,e = .returned (.tuple #[.iface T x,.nilIface])/\ValAt H (Blk w H) v (.iface T x)/\w.grownBy H (some R)/\zi H R s q2) (by
   rintro e H ⟨u,rfl,h1,P,h3⟩;obtain⟨T,x,rfl⟩:=h1.iface;exact⟨T,x,rfl,h1,P,h3⟩)
  clear n Z Q;go_enter func106,ntmps106
  go_wp2_with (first
   | (go_at_call 52;refine t.mono ?_;rintro e r ⟨T,x,rfl,d2,i,b1⟩;have k1:=i.cell c1 (by simp;omega);have o1:=jm c3 i (by omega))
   | (at_builtin;refine wpList_append_own_at _ rfl _ _ 92 rfl (m.heap.size+3) 85 i0 .nilIface 1 16 underlying92 a0 a1 a2 a3 rfl (by decide) _ _ _ rfl (o1.alloc _) ⟨r.heap.size,0,none⟩ 1 1 [.iface T x] rfl rfl ?c1 ?c2 ?c3 ?c4 ?c5 ?_))
  case c1=>exact cell_one_new _ _ _
  case c2=>intro u I;simp at I;subst I;rfl
  case c3=>unfold maxLen;omega
  case c4=>omega
  case c5=>have:=i.size;simp;omega
  intro v' A D o _ X
  obtain⟨N,O,rfl⟩:∃a c,v' = .slice a (acc.length+1) c:=by
   rcases D.2 with ⟨_,h⟩|⟨g,c,cur,h,_⟩
   ·omega
   ·exact⟨_,_,h⟩
  have S:=nB r (.cells #[.iface T x] 85);have L:m.heap.size+2<r.heap.size:=by have:=i.size;omega
  have k3:A.cell? ⟨m.heap.size+2,0,none⟩=some lv:=o.cell (zb S k1) G.out
  have f3:A.frozen? ⟨m.heap.size+2,0,none⟩=false:=by
   rw[World.frozen?_of_block (w:=r.alloc (.cells #[.iface T x] 85)) (a:=⟨m.heap.size+2,0,none⟩) (o.block _ (by simp;omega) G.out),World.frozen?_of_block (w:=r) (a:=⟨m.heap.size+2,0,none⟩) (S.block _ L),World.frozen?_of_block (w:=w) (a:=⟨m.heap.size+2,0,none⟩) (i.block _ (by show m.heap.size+2<_;omega) (by simp;omega))];exact c2
  have B:zC m.heap.size R w (A.setCell ⟨m.heap.size+2,0,none⟩ (.slice N (acc.length+1) O)):=
   (((zC.of i (by omega)).trans (zC.own (World.grownBy_alloc r _ none) (λk C=>by cases C) (by omega))).trans (zC.own o (λk C=>by have:=(y.out k C).1;omega) (by simp;omega))).trans (yY A _ (by omega))
  have J:=hid B;clear B
  have a9:∀b,b<r.heap.size->lv.ownBlock≠some b->b≠m.heap.size+2->(A.setCell ⟨m.heap.size+2,0,none⟩ (.slice N (acc.length+1) O)).heap[b]?=r.heap[b]?:=λb h1 P h3=>by
   rw[Va _ _ _ _ _ h3,o.block b (by simp;omega) (λe=>P e.symm),S.block b h1]
  have E:=hid a9;clear a9
  go_wp2
  go_ret;refine yR.of ?_ HE.out;have d9:=i.size;have b2:=o.size;simp at b2
  have d4:(A.setCell ⟨m.heap.size+2,0,none⟩ (.slice N (acc.length+1) O)).cell? ⟨m.heap.size,0,none⟩=some (.pointer (some ⟨R,0,none⟩)):=by
   rw[World.cell?_of_block (w:=r) (a:=⟨m.heap.size,0,none⟩) (E.out m.heap.size (by omega) (λe=>by have:=(y.out _ e).1;omega) (by omega))];exact i.cell cx (by simp;omega)
  have c7:(A.setCell ⟨m.heap.size+2,0,none⟩ (.slice N (acc.length+1) O)).cell? ⟨m.heap.size+1,0,none⟩=some (.int .i64 (d:Int)):=by
   rw[World.cell?_of_block (w:=r) (a:=⟨m.heap.size+1,0,none⟩) (E.out (m.heap.size+1) (by omega) (λe=>by have:=(y.out _ e).1;omega) (by omega))];exact i.cell cd (by simp;omega)
  have d3:∀k,(Value.slice N (acc.length+1) O).ownBlock=some k->m.heap.size+3<=k/\k<A.heap.size:=λk C=>World.ownsRow.lt D k C;refine⟨rfl,b1.same (E.out R (by have:=b1.lt;omega) (λe=>by have:=(y.out _ e).1;omega) (by omega)),(HI.out.seq.grown i a7).same (E.out _ (HI.out.seq.grown i a7).lt (λe=>by have:=(y.out _ e).1;have:=HI.out.seq.lt;have:=K.out;omega) (by have:=K.out;omega)),uI HI.out.grown J.out,by rw[Zr];omega,by simp;omega,d4,c7,.slice N (acc.length+1) O,us++[.iface T x],Xv _ _ _ _ k3,by rw[dJ];exact f3,?_,?_⟩
  ·rw[List.length_append];exact D.kept (xS _ _ _ _) (.inr (λe=>by have:=(d3 _ e).1;omega))
  ·intro j v2 u W c9
   rcases lG c9 with ⟨hj,I⟩|⟨hj,I⟩
   ·have d1:acc[j]?=some v2:=by
     rw[List.getElem?_append_left (by omega)] at W;exact W
    refine (b9.out j v2 u d1 I).move (λb z=>⟨z.1,by rw[Zr];omega,λe=>?_⟩) (λb z=>?_)
    ·rcases X with h|h
     ·exact z.2.2 (h.symm.trans e)
     ·rw[h] at e;simp at e;omega
    ·rw[E.out b (by omega) z.2.2 (by omega)];exact i.block b z.2.1 (by simp;omega)
   ·rw[d0] at hj;subst hj I;simp at W;subst W;refine d2.move (λb z=>⟨by have:=z.1;omega,by have:=z.2;rw[Zr];omega,λe=>?_⟩) (λb z=>?_)
    ·have h1:=z.1;have P:=z.2
     rcases X with h|h
     ·have:=(y.out b (h.symm.trans e)).2;omega
     ·rw[h] at e;simp at e;omega
    ·have h1:=z.1;have P:=z.2;exact E.out b P (λe=>by have:=(y.out b e).2;omega) (by omega)
 | err c q2=>
  rw[Z] at n Q;simp only at Q;obtain⟨T2,M⟩:=QY c q2;have HE:=hid Q;have HT:=hid M
  cases hsb:starts s q with
  | true=>
   rw[hsb] at n
   have t:=n.mono (R':=λe H=>(∃T x,e = .returned (.tuple #[.iface T x,.iface T2 (.agg #[.int .i64 (q2:Int)])]))/\w.grownBy H (some R)) (by
    rintro e H ⟨u,rfl,⟨ha,z⟩,P⟩;obtain⟨T,x,rfl⟩:=ha rfl;exact⟨⟨T,x,by rw[M]⟩,P⟩)
   clear n Z Q M;go_enter func106,ntmps106
   go_wp2_with (first
    | (go_at_call 52;refine t.mono ?_;rintro e r ⟨⟨T,x,rfl⟩,i⟩;have k1:=i.cell c1 (by simp;omega);have o1:=jm c3 i (by omega))
    | (at_builtin;refine wpList_append_own_at _ rfl _ _ 92 rfl (m.heap.size+3) 85 i0 .nilIface 1 16 underlying92 a0 a1 a2 a3 rfl (by decide) _ _ _ rfl (o1.alloc _) ⟨r.heap.size,0,none⟩ 1 1 [.iface T x] rfl rfl ?c1 ?c2 ?c3 ?c4 ?c5 ?_))
   case c1=>exact cell_one_new _ _ _
   case c2=>intro u I;simp at I;subst I;rfl
   case c3=>unfold maxLen;omega
   case c4=>omega
   case c5=>have:=i.size;simp;omega
   intro v' A D o _ _
   obtain⟨N,O,rfl⟩:∃a c,v' = .slice a (acc.length+1) c:=by
    rcases D.2 with ⟨_,h⟩|⟨g,c,cur,h,_⟩
    ·omega
    ·exact⟨_,_,h⟩
   have S:=nB r (.cells #[.iface T x] 85);have L:m.heap.size+2<r.heap.size:=by have:=i.size;omega
   have k3:A.cell? ⟨m.heap.size+2,0,none⟩=some lv:=o.cell (zb S k1) G.out
   have f3:A.frozen? ⟨m.heap.size+2,0,none⟩=false:=by
    rw[World.frozen?_of_block (w:=r.alloc (.cells #[.iface T x] 85)) (a:=⟨m.heap.size+2,0,none⟩) (o.block _ (by simp;omega) G.out),World.frozen?_of_block (w:=r) (a:=⟨m.heap.size+2,0,none⟩) (S.block _ L),World.frozen?_of_block (w:=w) (a:=⟨m.heap.size+2,0,none⟩) (i.block _ (by show m.heap.size+2<_;omega) (by simp;omega))];exact c2
   have B:zC m.heap.size R w (A.setCell ⟨m.heap.size+2,0,none⟩ (.slice N (acc.length+1) O)):=
    (((zC.of i (by omega)).trans (zC.own (World.grownBy_alloc r _ none) (λk C=>by cases C) (by omega))).trans (zC.own o (λk C=>by have:=(y.out k C).1;omega) (by simp;omega))).trans (yY A _ (by omega))
   have J:=hid B;clear B
   go_wp2
   go_ret;refine yR.of ?_ HE.out;exact⟨by rw[HT.out];rfl,uI HI.out.grown J.out,_,Xv _ _ _ _ k3⟩
  | false=>
   rw[hsb] at n
   have t:=n.mono (R':=λe H=>e = .returned (.tuple #[.nilIface,.iface T2 (.agg #[.int .i64 (q2:Int)])])/\w.grownBy H (some R)) (by
    rintro e H ⟨u,rfl,⟨ha,z⟩,P⟩;obtain rfl:=z rfl;exact⟨by rw[M],P⟩)
   clear n Z Q M;go_enter func106,ntmps106
   go_wp2_with (first
    | (go_at_call 52;refine t.mono ?_;rintro e r ⟨rfl,i⟩;have k1:=i.cell c1 (by simp;omega);have o1:=jm c3 i (by omega))
    | (at_builtin;refine wpList_append_own_at _ rfl _ _ 92 rfl (m.heap.size+3) 85 i0 .nilIface 1 16 underlying92 a0 a1 a2 a3 rfl (by decide) _ _ _ rfl (o1.alloc _) ⟨r.heap.size,0,none⟩ 1 1 [.nilIface] rfl rfl ?c1 ?c2 ?c3 ?c4 ?c5 ?_))
   case c1=>exact cell_one_new _ _ _
   case c2=>intro u I;simp at I;subst I;rfl
   case c3=>unfold maxLen;omega
   case c4=>omega
   case c5=>have:=i.size;simp;omega
   intro v' A D o _ _
   obtain⟨N,O,rfl⟩:∃a c,v' = .slice a (acc.length+1) c:=by
    rcases D.2 with ⟨_,h⟩|⟨g,c,cur,h,_⟩
    ·omega
    ·exact⟨_,_,h⟩
   have S:=nB r (.cells #[.nilIface] 85);have L:m.heap.size+2<r.heap.size:=by have:=i.size;omega
   have k3:A.cell? ⟨m.heap.size+2,0,none⟩=some lv:=o.cell (zb S k1) G.out
   have f3:A.frozen? ⟨m.heap.size+2,0,none⟩=false:=by
    rw[World.frozen?_of_block (w:=r.alloc (.cells #[.nilIface] 85)) (a:=⟨m.heap.size+2,0,none⟩) (o.block _ (by simp;omega) G.out),World.frozen?_of_block (w:=r) (a:=⟨m.heap.size+2,0,none⟩) (S.block _ L),World.frozen?_of_block (w:=w) (a:=⟨m.heap.size+2,0,none⟩) (i.block _ (by show m.heap.size+2<_;omega) (by simp;omega))];exact c2
   have B:zC m.heap.size R w (A.setCell ⟨m.heap.size+2,0,none⟩ (.slice N (acc.length+1) O)):=
    (((zC.of i (by omega)).trans (zC.own (World.grownBy_alloc r _ none) (λk C=>by cases C) (by omega))).trans (zC.own o (λk C=>by have:=(y.out k C).1;omega) (by simp;omega))).trans (yY A _ (by omega))
   have J:=hid B;clear B
   go_wp2
   go_ret;refine yR.of ?_ HE.out;exact⟨by rw[HT.out];rfl,uI HI.out.grown J.out,_,Xv _ _ _ _ k3⟩
def X8(w:World)(R:Nat)(s:BA)(r:Rd.Res (List Rd.V))(e:Ending)(a:World):Prop:=match r with
 | .ok d q=>∃b,e = .returned (.tuple #[b,.nilIface])/\ValAt a (Blk w a) (.list d) (.iface 92 b)/\w.grownBy a (some R)/\zi a R s q
 | .err c q=>∃b,e = .returned (.tuple #[b,vY c q])/\w.grownBy a (some R)
theorem X8.of{w b:World}{R:Nat}{s:BA}{r a:Rd.Res (List Rd.V)}{e:Ending}(h:X8 w R s r e b)(c:a=r):X8 w R s a e b:=c ▸ h
theorem Gd(s:BA)(R d F:Nat)(b:World)(t:s.size<=4000)(m:R<b.heap.size)(e:R≠5)(k:5<b.heap.size)(u:kg s R F) :
  Reads s R 106 #[.pointer (some ⟨b.heap.size,0,none⟩),.pointer (some ⟨b.heap.size+1,0,none⟩),.pointer (some ⟨b.heap.size+2,0,none⟩)] (Rd.stL s.data.toList d) F d (Zd b R s d) (Xm b R) where
 rd:=λ_ _ _ h=>h.rd
 mv:=λ_ _ _ _ _ h g o r=>h.mv m e g o r
 bad:=λ_ _ _ h=>by
  obtain⟨x,A,c1,_⟩:=h.row;exact⟨h.grown,x,c1⟩
 adv:=λf a q y z g i n h=>by
  unfold Rd.stL at h
  cases hx:Rd.zR s.data.toList f (d+1) q with
  | ok v q2=>
   rw[hx] at h;injection h with h1 h2
   have:=Rd.Vo (l:=s.data.toList) (f:=f) (d:=d+1) (by omega) (by rw[Ref.zB];omega) i (by rw[Ref.zB];omega) hx
   rw[Ref.zB] at this;rw[<- h2];exact this
  | err c q2=>rw[hx] at h;cases h
 one:=λf a q w n hd p g i j=>Gb s R d F b t m e k hd u f a q w n p g i j
theorem Zd.val{c:World}{R:Nat}{s:BA}{d:Nat}{acc:List Rd.V}{q:Nat}{w:World}(h:Zd c R s d acc q w):∃f,w.cell? ⟨c.heap.size+2,0,none⟩=some f/\ValAt w (Blk c w) (.list acc) (.iface 92 f):=by
 obtain⟨f,i,c1,c2,c3,c4⟩:=h.row;refine⟨f,c1,?_⟩;have p:=c3.1;have a:∀(j:Nat) (v:Rd.V) (u:Value),acc[j]?=some v->i[j]?=some u->ValAt w (Blk c w) v u:=λj v u o l=>(c4 j v u o l).move (λb m=>⟨by omega,m.2.1⟩) (λ_ _=>rfl)
 rcases c3.2 with ⟨rfl,h0⟩|⟨g,cap,cur,rfl,hB,hg,hrest⟩
 ·have e:i=[]:=List.eq_nil_of_length_eq_zero (by omega);subst e;exact .list acc [] none 0 (by simp;omega) (.inl rfl) a
 ·have n:=World.ownsRow.cells c3 (g:=g) rfl;have k:=(Array.getElem?_eq_some_iff.1 hg).1
  have:=ValAt.list (w:=w) (S:=Blk c w) acc i (some ⟨g,0,none⟩) cap (by omega) (.inr ⟨g,rfl,⟨by omega,k⟩,λj u l=>by have:=n j u l;rw[addr_add] at this;simpa using this⟩) a
  rwa [show i.length=acc.length by omega] at this
theorem VK(w:World)(a:Value)(t:TypeId):(w.alloc (.cells #[a] t)).cell? ⟨w.heap.size,0,none⟩=some a:=by
 simp only[World.cell?,heap_alloc_new w (.cells #[a] t)];rfl
theorem Cz(w:World)(a:Value)(t:TypeId):(w.alloc (.cells #[a] t)).frozen? ⟨w.heap.size,0,none⟩=false:=by
 simp only[World.frozen?,heap_alloc_new w (.cells #[a] t)];rfl
theorem size_alloc(w:World)(o:Obj):(w.alloc o).heap.size=w.heap.size+1:=by simp
theorem mR(w:World)(a b c:Value)(d e f:TypeId) :
  (((w.alloc (.cells #[a] d)).alloc (.cells #[b] e)).alloc (.cells #[c] f)).cell? ⟨w.heap.size,0,none⟩=some a /\
  (((w.alloc (.cells #[a] d)).alloc (.cells #[b] e)).alloc (.cells #[c] f)).cell? ⟨w.heap.size+1,0,none⟩=some b /\
  (((w.alloc (.cells #[a] d)).alloc (.cells #[b] e)).alloc (.cells #[c] f)).cell? ⟨w.heap.size+2,0,none⟩=some c /\
  (((w.alloc (.cells #[a] d)).alloc (.cells #[b] e)).alloc (.cells #[c] f)).frozen? ⟨w.heap.size+2,0,none⟩=false:=by
 have h:=size_alloc w (.cells #[a] d);have i:=size_alloc (w.alloc (.cells #[a] d)) (.cells #[b] e);have c1:=VK w a d;have c2:=VK (w.alloc (.cells #[a] d)) b e;have c3:=VK ((w.alloc (.cells #[a] d)).alloc (.cells #[b] e)) c f;have g:=Cz ((w.alloc (.cells #[a] d)).alloc (.cells #[b] e)) c f;rw[h] at c2;rw[i,h] at c3 g;exact⟨(World.grownBy_alloc _ _ none).cell ((World.grownBy_alloc _ _ none).cell c1 (by simp)) (by simp),(World.grownBy_alloc _ _ none).cell c2 (by simp),c3,g⟩
theorem Gc(s:BA)(R p d F:Nat)(w:World)(x:zi w R s p)(t:qb w)(k:R≠5)(I:p<s.size)(D:s.size<=4000)(hd:d<=9)(n:kg s R F)(hF:2*(s.size-(p+1))+1<F) :
  Calls prog 84 #[.pointer (some ⟨R,0,none⟩),.int .i64 (d:Int)] w λe b=>X8 w R s (Rd.jG s.data.toList (Rd.stL s.data.toList d) 93 F d [] p) e b:=by
 have H:=x.lt;have r:=t.lt;have E:∀args w,(callFunc 106 args).run prog w = .ok (.enter 106 args) w:=enters_of func106 (by kernel_rfl) rfl;have l:∀A B C:Obj,w.grownBy (((w.alloc A).alloc B).alloc C) (some R):=λA B C=>zH (zH (World.grownBy_alloc w A _) (World.grownBy_alloc _ B _)) (World.grownBy_alloc _ C _)
 have f:Zd w R s d [] p (((w.alloc (.cells #[.pointer (some ⟨R,0,none⟩)] 132)).alloc (.cells #[.int .i64 (d:Int)] 3)).alloc (.cells #[.slice none 0 0] 92)):=by
  have m:=mR w (.pointer (some ⟨R,0,none⟩)) (.int .i64 (d:Int)) (.slice none 0 0) 132 3 92;exact⟨((x.alloc _).alloc _).alloc _,t.grown (l _ _ _) k,l _ _ _,by simp,Nat.zero_le _,m.1,m.2.1,.slice none 0 0,[],m.2.2.1,m.2.2.2,World.ownsRow_nil _ _ _ _,λj v u n=>by simp at n⟩
 have hit:=eH s R p d 93 106 F _ (Rd.stL s.data.toList d) (Zd w R s d) (Xm w R) [] _ E (Gd s R d F w D H k r n) f I D (by omega) (by decide) (by decide) hF;clear f n x t
 cases hx:Rd.jG s.data.toList (Rd.stL s.data.toList d) 93 F d [] p with
 | ok K q=>
  rw[hx] at hit
  have g:=hit.mono (R':=λe b=>e = .returned .nilIface/\∃a,b.cell? ⟨w.heap.size+2,0,none⟩=some a/\ValAt b (Blk w b) (.list K) (.iface 92 a)/\w.grownBy b (some R)/\zi b R s q) (by
   rintro e b ⟨rfl,h⟩;obtain⟨a,o,G⟩:=h.val;exact⟨rfl,a,o,G,h.grown,h.rd⟩)
  clear hit hx;go_enter func84,ntmps84
  go_wp2_with (go_at_call 103;refine g.mono ?_;rintro e L ⟨rfl,a,J,z,i,y⟩)
  go_ret2;exact⟨a,rfl,z,i,y⟩
 | err c q=>
  rw[hx] at hit
  have g:=hit.mono (R':=λe b=>e = .returned (vY c q)/\∃a,b.cell? ⟨w.heap.size+2,0,none⟩=some a/\w.grownBy b (some R)) (by
   rintro e b ⟨rfl,h,a,o⟩;exact⟨rfl,a,o,h⟩)
  clear hit hx;go_enter func84,ntmps84
  go_wp2_with (go_at_call 103;refine g.mono ?_;rintro e L ⟨rfl,a,J,i⟩)
  go_ret2;exact⟨a,rfl,i⟩
end Go.Proofs.YtdakgnaojakldabGreatDoor
