/- P -/
import Derived.Test.YtagnlbgbnfnapaaGreatDoorK10
open Go.Proofs.Tryz
set_option maxRecDepth 100000
set_option maxHeartbeats 2000000
namespace Go.Proofs.YtagnlbgbnfnapaaGreatDoor
open Go.RowKit
theorem Zo{b w w':World}{R:Nat}(h:b.grownBy w (some R))(k:zM b.heap.size R w w'):b.grownBy w' (some R):=
 ⟨k.os.trans h.os,k.tape.trans h.tape,k.output.trans h.output,qZ h.size k.size,λi hi a=>(k.block i hi (λe=>a (by rw[e]))).trans (h.block i hi a)⟩
theorem jZ{B R b o:Nat}(w:World)(v:Value)(hb:B<=b):zM B R w (w.setCell ⟨b,o,none⟩ v):=
 ⟨rfl,rfl,rfl,by simp[World.setCell],λk a _=>qc w ⟨b,o,none⟩ v k (λe=>by have:k=b:=e;omega)⟩
theorem UQ(w:World)(b o:Nat)(v:Value)(k:Nat)(h:k≠b):(w.setCell ⟨b,o,none⟩ v).heap[k]?=w.heap[k]?:=qc w ⟨b,o,none⟩ v k h
theorem YK(w:World)(b:Nat)(u v:Value)(h:w.cell? ⟨b,0,none⟩=some u):(w.setCell ⟨b,0,none⟩ v).cell? ⟨b,0,none⟩=some v:=by
 unfold World.cell? World.setCell at *;simp only[Vr,xy];simp only at h
 cases hb:w.heap[b]? with
 | none=>rw[hb] at h;simp at h
 | some o=>
  rw[hb] at h
  cases o with
  | cells c t f=>
   simp at h |-;have a:=(XG.1 h).1;simp[a]
  | _=>simp at h
theorem lX(w:World)(b:Nat)(v:Value):(w.setCell ⟨b,0,none⟩ v).frozen? ⟨b,0,none⟩=w.frozen? ⟨b,0,none⟩:=by rw[lW]
theorem Lf(s:BY)(R d F:Nat)(m:World)(hs:s.size<=4000)(hR:R<m.heap.size)(a3:R≠5)(b8:5<m.heap.size)(hd:d<=8)(hv:ZE s R F)(f:Nat)(acc:List Rd.V)(q:Nat)(w:World)(hf:f<F)
  (hi:Z8 m R s d acc q w)(hq:q<=s.size)(hb:Rd.blank (Rd.zk s.data.toList q)=false)(a6:2*(s.size-q)<f) :
  Calls prog 186 #[.pointer (some ⟨m.heap.size,0,none⟩),.pointer (some ⟨m.heap.size+1,0,none⟩),.pointer (some ⟨m.heap.size+2,0,none⟩)] w λe w'=>jS (Z8 m R s d) (Yw m R) (Rd.stL s.data.toList d f acc q) e w':=by
 obtain⟨i0,W,X,Y,Z⟩:=qP SE;obtain⟨lv,us,c1,c2,c3,c4⟩:=hi.row;have cx:=hi.cx;have cd:=hi.cd;have e0:=hi.size;have hlen:=hi.len;have n:=hv f hf (d+1) q w hi.rd hi.seq hq (by omega) (by omega) hb a6;rw[show ((d+1:Nat):Int)=(d:Int)+1 by omega] at n;have N:Rd.stL s.data.toList d f acc q=Rd.stL s.data.toList d f acc q:=rfl
 conv at N=>rhs;unfold Rd.stL
 have HI:=hid hi;have b4:=hid c4;have t:=hid (λk A=>World.ownsRow.lt c3 k A);have c0:us.length=acc.length:=by have:=c3.1;omega
 have a2:=hid (λv q2 U=>Rd.UZ (l:=s.data.toList) (f:=f) (d:=d+1) (p:=q) (q:=q2) (v:=v) (by omega) (by rw[Ref.zA];omega) hb (by rw[Ref.zA];omega) U);have S:some (m.heap.size+2)≠lv.ownBlock:=λe=>by have:=(t.out _ e.symm).1;omega
 have D:=hid S;have H:=hid b8;clear hi hb a6 hv c4 S
 cases U:Rd.qm s.data.toList f (d+1) q with
 | ok v q2=>
  rw[U] at n N;simp only at N;have a4:=a2.out v q2 U;rw[Ref.zA] at a4;have HE:=hid N
  have r:=n.mono (R':=λe w'=>∃T x,e = .returned (.tuple #[.iface T x,.nilIface])/\ValAt w' (Blk w w') v (.iface T x)/\w.grownBy w' (some R)/\zu w' R s q2) (by
   rintro e w' ⟨u,rfl,h1,M,h3⟩;obtain⟨T,x,rfl⟩:=h1.iface;exact⟨T,x,rfl,h1,M,h3⟩)
  clear n U N;go_enter func186,ntmps186
  go_wp2_with (first
   | (go_at_call 92;refine r.mono ?_;rintro e w1 ⟨T,x,rfl,c7,i,a7⟩;have k1:=i.cell c1 (by simp;omega);have o1:=vL c3 i (by omega))
   | (at_builtin;refine Xa _ rfl _ _ 125 rfl (m.heap.size+3) 118 i0 .nilIface 1 16 underlying125 W X Y Z rfl (by decide) _ _ _ rfl (o1.alloc _) ⟨w1.heap.size,0,none⟩ 1 1 [.iface T x] rfl rfl ?c1 ?c2 ?c3 ?c4 ?c5 ?_))
  case c1=>exact JH _ _ _
  case c2=>intro u E;simp at E;subst E;rfl
  case c3=>unfold maxLen;omega
  case c4=>omega
  case c5=>have:=i.size;simp;omega
  intro v' y B o _ Q
  obtain⟨K,L,rfl⟩:∃a c,v' = .slice a (acc.length+1) c:=by
   rcases B.2 with ⟨_,h⟩|⟨g,c,cur,h,_⟩
   ·omega
   ·exact⟨_,_,h⟩
  have O:=nbl w1 (.cells #[.iface T x] 118);have I:m.heap.size+2<w1.heap.size:=by have:=i.size;omega
  have k3:y.cell? ⟨m.heap.size+2,0,none⟩=some lv:=o.cell (zi O k1) D.out
  have f3:y.frozen? ⟨m.heap.size+2,0,none⟩=false:=by
   rw[jd (w:=w1.alloc (.cells #[.iface T x] 118)) (a:=⟨m.heap.size+2,0,none⟩) (o.block _ (by simp;omega) D.out),jd (w:=w1) (a:=⟨m.heap.size+2,0,none⟩) (O.block _ I),jd (w:=w) (a:=⟨m.heap.size+2,0,none⟩) (i.block _ (by show m.heap.size+2<_;omega) (by simp;omega))];exact c2
  have z:zM m.heap.size R w (y.setCell ⟨m.heap.size+2,0,none⟩ (.slice K (acc.length+1) L)):=
   (((zM.of i (by omega)).trans (zM.own (xU w1 _ none) (λk A=>by cases A) (by omega))).trans (zM.own o (λk A=>by have:=(t.out k A).1;omega) (by simp;omega))).trans (jZ y _ (by omega))
  have G:=hid z;clear z
  have a5:∀b,b<w1.heap.size->lv.ownBlock≠some b->b≠m.heap.size+2->(y.setCell ⟨m.heap.size+2,0,none⟩ (.slice K (acc.length+1) L)).heap[b]?=w1.heap[b]?:=λb h1 M h3=>by
   rw[UQ _ _ _ _ _ h3,o.block b (by simp;omega) (λe=>M e.symm),O.block b h1]
  have C:=hid a5;clear a5
  go_wp2
  go_ret;refine jS.of ?_ HE.out;have d4:=i.size;have a8:=o.size;simp at a8
  have c9:(y.setCell ⟨m.heap.size+2,0,none⟩ (.slice K (acc.length+1) L)).cell? ⟨m.heap.size,0,none⟩=some (.pointer (some ⟨R,0,none⟩)):=by
   rw[QJ (w:=w1) (a:=⟨m.heap.size,0,none⟩) (C.out m.heap.size (by omega) (λe=>by have:=(t.out _ e).1;omega) (by omega))];exact i.cell cx (by simp;omega)
  have b7:(y.setCell ⟨m.heap.size+2,0,none⟩ (.slice K (acc.length+1) L)).cell? ⟨m.heap.size+1,0,none⟩=some (.int .i64 (d:Int)):=by
   rw[QJ (w:=w1) (a:=⟨m.heap.size+1,0,none⟩) (C.out (m.heap.size+1) (by omega) (λe=>by have:=(t.out _ e).1;omega) (by omega))];exact i.cell cd (by simp;omega)
  have c8:∀k,(Value.slice K (acc.length+1) L).ownBlock=some k->m.heap.size+3<=k/\k<y.heap.size:=λk A=>World.ownsRow.lt B k A;refine⟨rfl,a7.same (C.out R (by have:=a7.lt;omega) (λe=>by have:=(t.out _ e).1;omega) (by omega)),(HI.out.seq.grown i a3).same (C.out _ (HI.out.seq.grown i a3).lt (λe=>by have:=(t.out _ e).1;have:=HI.out.seq.lt;have:=H.out;omega) (by have:=H.out;omega)),Zo HI.out.grown G.out,by rw[Qv];omega,by simp;omega,c9,b7,.slice K (acc.length+1) L,us++[.iface T x],YK _ _ _ _ k3,by rw[lX];exact f3,?_,?_⟩
  ·rw[qA];exact B.kept (yS _ _ _ _) (.inr (λe=>by have:=(c8 _ e).1;omega))
  ·intro j v2 u P b9
   rcases rH b9 with ⟨hj,E⟩|⟨hj,E⟩
   ·have c6:acc[j]?=some v2:=by
     rw[xK (by omega)] at P;exact P
    refine (b4.out j v2 u c6 E).move (λb hb=>⟨hb.1,by rw[Qv];omega,λe=>?_⟩) (λb hb=>?_)
    ·rcases Q with h|h
     ·exact hb.2.2 (h.symm.trans e)
     ·rw[h] at e;simp at e;omega
    ·rw[C.out b (by omega) hb.2.2 (by omega)];exact i.block b hb.2.1 (by simp;omega)
   ·rw[c0] at hj;subst hj E;simp at P;subst P;refine c7.move (λb hb=>⟨by have:=hb.1;omega,by have:=hb.2;rw[Qv];omega,λe=>?_⟩) (λb hb=>?_)
    ·have h1:=hb.1;have M:=hb.2
     rcases Q with h|h
     ·have:=(t.out b (h.symm.trans e)).2;omega
     ·rw[h] at e;simp at e;omega
    ·have h1:=hb.1;have M:=hb.2;exact C.out b M (λe=>by have:=(t.out b e).2;omega) (by omega)
 | err c q2=>
  rw[U] at n N;simp only at N;obtain⟨T2,J⟩:=YR c q2;have HE:=hid N;have HT:=hid J
  cases hsb:starts s q with
  | true=>
   rw[hsb] at n
   have r:=n.mono (R':=λe w'=>(∃T x,e = .returned (.tuple #[.iface T x,.iface T2 (.agg #[.int .i64 (q2:Int)])]))/\w.grownBy w' (some R)) (by
    rintro e w' ⟨u,rfl,⟨ha,hb⟩,M⟩;obtain⟨T,x,rfl⟩:=ha rfl;exact⟨⟨T,x,by rw[J]⟩,M⟩)
   clear n U N J;go_enter func186,ntmps186
   go_wp2_with (first
    | (go_at_call 92;refine r.mono ?_;rintro e w1 ⟨⟨T,x,rfl⟩,i⟩;have k1:=i.cell c1 (by simp;omega);have o1:=vL c3 i (by omega))
    | (at_builtin;refine Xa _ rfl _ _ 125 rfl (m.heap.size+3) 118 i0 .nilIface 1 16 underlying125 W X Y Z rfl (by decide) _ _ _ rfl (o1.alloc _) ⟨w1.heap.size,0,none⟩ 1 1 [.iface T x] rfl rfl ?c1 ?c2 ?c3 ?c4 ?c5 ?_))
   case c1=>exact JH _ _ _
   case c2=>intro u E;simp at E;subst E;rfl
   case c3=>unfold maxLen;omega
   case c4=>omega
   case c5=>have:=i.size;simp;omega
   intro v' y B o _ _
   obtain⟨K,L,rfl⟩:∃a c,v' = .slice a (acc.length+1) c:=by
    rcases B.2 with ⟨_,h⟩|⟨g,c,cur,h,_⟩
    ·omega
    ·exact⟨_,_,h⟩
   have O:=nbl w1 (.cells #[.iface T x] 118);have I:m.heap.size+2<w1.heap.size:=by have:=i.size;omega
   have k3:y.cell? ⟨m.heap.size+2,0,none⟩=some lv:=o.cell (zi O k1) D.out
   have f3:y.frozen? ⟨m.heap.size+2,0,none⟩=false:=by
    rw[jd (w:=w1.alloc (.cells #[.iface T x] 118)) (a:=⟨m.heap.size+2,0,none⟩) (o.block _ (by simp;omega) D.out),jd (w:=w1) (a:=⟨m.heap.size+2,0,none⟩) (O.block _ I),jd (w:=w) (a:=⟨m.heap.size+2,0,none⟩) (i.block _ (by show m.heap.size+2<_;omega) (by simp;omega))];exact c2
   have z:zM m.heap.size R w (y.setCell ⟨m.heap.size+2,0,none⟩ (.slice K (acc.length+1) L)):=
    (((zM.of i (by omega)).trans (zM.own (xU w1 _ none) (λk A=>by cases A) (by omega))).trans (zM.own o (λk A=>by have:=(t.out k A).1;omega) (by simp;omega))).trans (jZ y _ (by omega))
   have G:=hid z;clear z
   go_wp2
   go_ret;refine jS.of ?_ HE.out;exact⟨by rw[HT.out];rfl,Zo HI.out.grown G.out,_,YK _ _ _ _ k3⟩
  | false=>
   rw[hsb] at n
   have r:=n.mono (R':=λe w'=>e = .returned (.tuple #[.nilIface,.iface T2 (.agg #[.int .i64 (q2:Int)])])/\w.grownBy w' (some R)) (by
    rintro e w' ⟨u,rfl,⟨ha,hb⟩,M⟩;obtain rfl:=hb rfl;exact⟨by rw[J],M⟩)
   clear n U N J;go_enter func186,ntmps186
   go_wp2_with (first
    | (go_at_call 92;refine r.mono ?_;rintro e w1 ⟨rfl,i⟩;have k1:=i.cell c1 (by simp;omega);have o1:=vL c3 i (by omega))
    | (at_builtin;refine Xa _ rfl _ _ 125 rfl (m.heap.size+3) 118 i0 .nilIface 1 16 underlying125 W X Y Z rfl (by decide) _ _ _ rfl (o1.alloc _) ⟨w1.heap.size,0,none⟩ 1 1 [.nilIface] rfl rfl ?c1 ?c2 ?c3 ?c4 ?c5 ?_))
   case c1=>exact JH _ _ _
   case c2=>intro u E;simp at E;subst E;rfl
   case c3=>unfold maxLen;omega
   case c4=>omega
   case c5=>have:=i.size;simp;omega
   intro v' y B o _ _
   obtain⟨K,L,rfl⟩:∃a c,v' = .slice a (acc.length+1) c:=by
    rcases B.2 with ⟨_,h⟩|⟨g,c,cur,h,_⟩
    ·omega
    ·exact⟨_,_,h⟩
   have O:=nbl w1 (.cells #[.nilIface] 118);have I:m.heap.size+2<w1.heap.size:=by have:=i.size;omega
   have k3:y.cell? ⟨m.heap.size+2,0,none⟩=some lv:=o.cell (zi O k1) D.out
   have f3:y.frozen? ⟨m.heap.size+2,0,none⟩=false:=by
    rw[jd (w:=w1.alloc (.cells #[.nilIface] 118)) (a:=⟨m.heap.size+2,0,none⟩) (o.block _ (by simp;omega) D.out),jd (w:=w1) (a:=⟨m.heap.size+2,0,none⟩) (O.block _ I),jd (w:=w) (a:=⟨m.heap.size+2,0,none⟩) (i.block _ (by show m.heap.size+2<_;omega) (by simp;omega))];exact c2
   have z:zM m.heap.size R w (y.setCell ⟨m.heap.size+2,0,none⟩ (.slice K (acc.length+1) L)):=
    (((zM.of i (by omega)).trans (zM.own (xU w1 _ none) (λk A=>by cases A) (by omega))).trans (zM.own o (λk A=>by have:=(t.out k A).1;omega) (by simp;omega))).trans (jZ y _ (by omega))
   have G:=hid z;clear z
   go_wp2
   go_ret;refine jS.of ?_ HE.out;exact⟨by rw[HT.out];rfl,Zo HI.out.grown G.out,_,YK _ _ _ _ k3⟩
def fe(w:World)(R:Nat)(s:BY)(r:Rd.Res (List Rd.V))(e:Ending)(w':World):Prop:=match r with
 | .ok a q=>∃lv,e = .returned (.tuple #[lv,.nilIface])/\ValAt w' (Blk w w') (.list a) (.iface 125 lv)/\w.grownBy w' (some R)/\zu w' R s q
 | .err c q=>∃lv,e = .returned (.tuple #[lv,kJ c q])/\w.grownBy w' (some R)
theorem Lh(s:BY)(R d F:Nat)(b:World)(r:s.size<=4000)(k:R<b.heap.size)(e:R≠5)(j:5<b.heap.size)(t:ZE s R F) :
  Reads s R 186 #[.pointer (some ⟨b.heap.size,0,none⟩),.pointer (some ⟨b.heap.size+1,0,none⟩),.pointer (some ⟨b.heap.size+2,0,none⟩)] (Rd.stL s.data.toList d) F d (Z8 b R s d) (Yw b R) where
 rd:=λ_ _ _ h=>h.rd
 mv:=λ_ _ _ _ _ h g o p=>h.mv k e g o p
 bad:=λ_ _ _ h=>by
  obtain⟨lv,y,c1,_⟩:=h.row;exact⟨h.grown,lv,c1⟩
 adv:=λf a q u x g hb m h=>by
  unfold Rd.stL at h
  cases hx:Rd.qm s.data.toList f (d+1) q with
  | ok v q2=>
   rw[hx] at h;injection h with h1 h2
   have:=Rd.UZ (l:=s.data.toList) (f:=f) (d:=d+1) (by omega) (by rw[Ref.zA];omega) hb (by rw[Ref.zA];omega) hx
   rw[Ref.zA] at this;rw[<- h2];exact this
  | err c q2=>rw[hx] at h;cases h
 one:=λf a q w m n hi g hb i=>Lf s R d F b r k e j n t f a q w m hi g hb i
theorem Z8.val{c:World}{R:Nat}{s:BY}{d:Nat}{acc:List Rd.V}{q:Nat}{w:World}(h:Z8 c R s d acc q w):∃lv,w.cell? ⟨c.heap.size+2,0,none⟩=some lv/\ValAt w (Blk c w) (.list acc) (.iface 125 lv):=by
 obtain⟨lv,f,c1,c2,c3,c4⟩:=h.row;refine⟨lv,c1,?_⟩;have n:=c3.1;have a:∀(j:Nat) (v:Rd.V) (u:Value),acc[j]?=some v->f[j]?=some u->ValAt w (Blk c w) v u:=λj v u m k=>(c4 j v u m k).move (λb hb=>⟨by omega,hb.2.1⟩) (λ_ _=>rfl)
 rcases c3.2 with ⟨rfl,h0⟩|⟨g,cap,cur,rfl,hB,hg,hrest⟩
 ·have e:f=[]:=Kg (by omega);subst e;exact .list acc [] none 0 (by simp;omega) (.inl rfl) a
 ·have l:=World.ownsRow.cells c3 (g:=g) rfl;have i:=(XG.1 hg).1
  have:=ValAt.list (w:=w) (S:=Blk c w) acc f (some ⟨g,0,none⟩) cap (by omega) (.inr ⟨g,rfl,⟨by omega,i⟩,λj u k=>by have:=l j u k;rw[addr_add] at this;simpa using this⟩) a
  rwa [show f.length=acc.length by omega] at this
theorem KP(w:World)(a:Value)(t:TypeId):(w.alloc (.cells #[a] t)).cell? ⟨w.heap.size,0,none⟩=some a:=by
 simp only[World.cell?,zQ w (.cells #[a] t)];rfl
theorem Fp(w:World)(a:Value)(t:TypeId):(w.alloc (.cells #[a] t)).frozen? ⟨w.heap.size,0,none⟩=false:=by
 simp only[World.frozen?,zQ w (.cells #[a] t)];rfl
theorem size_alloc(w:World)(o:Obj):(w.alloc o).heap.size=w.heap.size+1:=by simp
theorem tq(w:World)(a b c:Value)(d e f:TypeId) :
  (((w.alloc (.cells #[a] d)).alloc (.cells #[b] e)).alloc (.cells #[c] f)).cell? ⟨w.heap.size,0,none⟩=some a /\
  (((w.alloc (.cells #[a] d)).alloc (.cells #[b] e)).alloc (.cells #[c] f)).cell? ⟨w.heap.size+1,0,none⟩=some b /\
  (((w.alloc (.cells #[a] d)).alloc (.cells #[b] e)).alloc (.cells #[c] f)).cell? ⟨w.heap.size+2,0,none⟩=some c /\
  (((w.alloc (.cells #[a] d)).alloc (.cells #[b] e)).alloc (.cells #[c] f)).frozen? ⟨w.heap.size+2,0,none⟩=false:=by
 have h:=size_alloc w (.cells #[a] d);have i:=size_alloc (w.alloc (.cells #[a] d)) (.cells #[b] e);have c1:=KP w a d;have c2:=KP (w.alloc (.cells #[a] d)) b e;have c3:=KP ((w.alloc (.cells #[a] d)).alloc (.cells #[b] e)) c f;have g:=Fp ((w.alloc (.cells #[a] d)).alloc (.cells #[b] e)) c f;rw[h] at c2;rw[i,h] at c3 g;exact⟨(xU _ _ none).cell ((xU _ _ none).cell c1 (by simp)) (by simp),(xU _ _ none).cell c2 (by simp),c3,g⟩
theorem Lg(s:BY)(R p d F:Nat)(w:World)(r:zu w R s p)(o:qx w)(g:R≠5)(G:p<s.size)(y:s.size<=4000)(J:d<=9)(l:ZE s R F)(hF:2*(s.size-(p+1))+1<F) :
  Calls prog 142 #[.pointer (some ⟨R,0,none⟩),.int .i64 (d:Int)] w λe w'=>fe w R s (Rd.vV s.data.toList (Rd.stL s.data.toList d) 93 F d [] p) e w':=by
 have E:=r.lt;have n:=o.lt;have z:∀args w,(callFunc 186 args).run prog w = .ok (.enter 186 args) w:=xg func186 (by kernel_rfl) rfl;have i:∀A B C:Obj,w.grownBy (((w.alloc A).alloc B).alloc C) (some R):=λA B C=>zW (zW (xU w A _) (xU _ B _)) (xU _ C _)
 have a:Z8 w R s d [] p (((w.alloc (.cells #[.pointer (some ⟨R,0,none⟩)] 183)).alloc (.cells #[.int .i64 (d:Int)] 3)).alloc (.cells #[.slice none 0 0] 125)):=by
  have k:=tq w (.pointer (some ⟨R,0,none⟩)) (.int .i64 (d:Int)) (.slice none 0 0) 183 3 125;exact⟨((r.alloc _).alloc _).alloc _,o.grown (i _ _ _) g,i _ _ _,by simp,zG _,k.1,k.2.1,.slice none 0 0,[],k.2.2.1,k.2.2.2,qD _ _ _ _,λj v u l=>by simp at l⟩
 have hit:=mQ s R p d 93 186 F _ (Rd.stL s.data.toList d) (Z8 w R s d) (Yw w R) [] _ z (Lh s R d F w y E g n l) a G y (by omega) (by decide) (by decide) hF;clear a l r o
 cases hx:Rd.vV s.data.toList (Rd.stL s.data.toList d) 93 F d [] p with
 | ok I q=>
  rw[hx] at hit
  have b:=hit.mono (R':=λe w'=>e = .returned .nilIface/\∃lv,w'.cell? ⟨w.heap.size+2,0,none⟩=some lv/\ValAt w' (Blk w w') (.list I) (.iface 125 lv)/\w.grownBy w' (some R)/\zu w' R s q) (by
   rintro e w' ⟨rfl,h⟩;obtain⟨lv,m,D⟩:=h.val;exact⟨rfl,lv,m,D,h.grown,h.rd⟩)
  clear hit hx;go_enter func142,ntmps142
  go_wp2_with (go_at_call 183;refine b.mono ?_;rintro e w1 ⟨rfl,lv,H,x,f,t⟩)
  go_ret2;exact⟨lv,rfl,x,f,t⟩
 | err c q=>
  rw[hx] at hit
  have b:=hit.mono (R':=λe w'=>e = .returned (kJ c q)/\∃lv,w'.cell? ⟨w.heap.size+2,0,none⟩=some lv/\w.grownBy w' (some R)) (by
   rintro e w' ⟨rfl,h,lv,m⟩;exact⟨rfl,lv,m,h⟩)
  clear hit hx;go_enter func142,ntmps142
  go_wp2_with (go_at_call 183;refine b.mono ?_;rintro e w1 ⟨rfl,lv,H,f⟩)
  go_ret2;exact⟨lv,rfl,f⟩
end Go.Proofs.YtagnlbgbnfnapaaGreatDoor
