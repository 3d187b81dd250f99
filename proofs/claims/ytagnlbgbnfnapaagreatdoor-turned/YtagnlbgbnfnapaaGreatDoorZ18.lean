/- P -/
import Derived.Test.YtagnlbgbnfnapaaGreatDoorZ09
open Go.Proofs.Tryz
set_option maxRecDepth 100000
set_option maxHeartbeats 2000000
namespace Go.Proofs.YtagnlbgbnfnapaaGreatDoor
open Go.RowKit
theorem Z5{b w c:World}{R:Nat}(h:b.grownBy w (some R))(k:zS b.heap.size R w c):b.grownBy c (some R):=
 ⟨k.os.trans h.os,k.tape.trans h.tape,k.output.trans h.output,jy h.size k.size,λi hi a=>(k.block i hi (λe=>a (by rw[e]))).trans (h.block i hi a)⟩
theorem vI{B R b o:Nat}(w:World)(v:Value)(hb:B<=b):zS B R w (w.setCell ⟨b,o,none⟩ v):=
 ⟨rfl,rfl,rfl,by simp[World.setCell],λk a _=>X7 w ⟨b,o,none⟩ v k (λe=>by have:k=b:=e;omega)⟩
theorem KM(w:World)(b o:Nat)(v:Value)(k:Nat)(h:k≠b):(w.setCell ⟨b,o,none⟩ v).heap[k]?=w.heap[k]?:=X7 w ⟨b,o,none⟩ v k h
theorem JL(w:World)(b:Nat)(u v:Value)(h:w.cell? ⟨b,0,none⟩=some u):(w.setCell ⟨b,0,none⟩ v).cell? ⟨b,0,none⟩=some v:=by
 unfold World.cell? World.setCell at *;simp only[Ut,qO];simp only at h
 cases hb:w.heap[b]? with
 | none=>rw[hb] at h;simp at h
 | some o=>
  rw[hb] at h
  cases o with
  | cells c t f=>
   simp at h |-;have a:=(YI.1 h).1;simp[a]
  | _=>simp at h
theorem pK(w:World)(b:Nat)(v:Value):(w.setCell ⟨b,0,none⟩ v).frozen? ⟨b,0,none⟩=w.frozen? ⟨b,0,none⟩:=by rw[pJ]
theorem Ny(s:BA)(R d F:Nat)(m:World)(hs:s.size<=4000)(hR:R<m.heap.size)(a5:R≠5)(c6:5<m.heap.size)(hd:d<=8)(hv:Qr s R F)(f:Nat)(acc:List Rd.V)(q:Nat)(w:World)(hf:f<F)
  (hi:QT m R s d acc q w)(hq:q<=s.size)(hb:Rd.blank (Rd.zk s.data.toList q)=false)(a8:2*(s.size-q)<f) :
  Calls prog 186 #[.pointer (some ⟨m.heap.size,0,none⟩),.pointer (some ⟨m.heap.size+1,0,none⟩),.pointer (some ⟨m.heap.size+2,0,none⟩)] w λe G=>vB (QT m R s d) (Js m R) (Rd.stL s.data.toList d f acc q) e G:=by
 obtain⟨i0,Y,Z,a0,a1⟩:=jl zaO;obtain⟨lv,us,c1,c2,c3,c4⟩:=hi.row;have cx:=hi.cx;have cd:=hi.cd;have e2:=hi.size;have hlen:=hi.len;have n:=hv f hf (d+1) q w hi.rd hi.seq hq (by omega) (by omega) hb a8;rw[show ((d+1:Nat):Int)=(d:Int)+1 by omega] at n;have P:Rd.stL s.data.toList d f acc q=Rd.stL s.data.toList d f acc q:=rfl
 conv at P=>rhs;unfold Rd.stL
 have HI:=hid hi;have b7:=hid c4;have y:=hid (λk B=>World.ownsRow.lt c3 k B);have c8:us.length=acc.length:=by have:=c3.1;omega
 have a4:=hid (λv q2 X=>Rd.K3 (l:=s.data.toList) (f:=f) (d:=d+1) (p:=q) (q:=q2) (v:=v) (by omega) (by rw[Ref.zP];omega) hb (by rw[Ref.zP];omega) X);have W:some (m.heap.size+2)≠lv.ownBlock:=λe=>by have:=(y.out _ e.symm).1;omega
 have E:=hid W;have J:=hid c6;clear hi hb a8 hv c4 W
 cases X:Rd.qo s.data.toList f (d+1) q with
 | ok v q2=>
  rw[X] at n P;simp only at P;have a6:=a4.out v q2 X;rw[Ref.zP] at a6;have HE:=hid P
  have t:=n.mono (R':=λe G=>∃T x,e = .returned (.tuple #[.iface T x,.nilIface])/\ValAt G (Blk w G) v (.iface T x)/\w.grownBy G (some R)/\zz G R s q2) (by
   rintro e G ⟨u,rfl,h1,O,h3⟩;obtain⟨T,x,rfl⟩:=h1.iface;exact⟨T,x,rfl,h1,O,h3⟩)
  clear n X P;go_enter func186,ntmps186
  go_wp2_with (first
   | (go_at_call 92;refine t.mono ?_;rintro e r ⟨T,x,rfl,d0,i,a9⟩;have k1:=i.cell c1 (by simp;omega);have o1:=ug c3 i (by omega))
   | (at_builtin;refine QP _ rfl _ _ 125 rfl (m.heap.size+3) 118 i0 .nilIface 1 16 underlying125 Y Z a0 a1 rfl (by decide) _ _ _ rfl (o1.alloc _) ⟨r.heap.size,0,none⟩ 1 1 [.iface T x] rfl rfl ?c1 ?c2 ?c3 ?c4 ?c5 ?_))
  case c1=>exact cell_one_new _ _ _
  case c2=>intro u H;simp at H;subst H;rfl
  case c3=>unfold maxLen;omega
  case c4=>omega
  case c5=>have:=i.size;simp;omega
  intro v' z C o _ U
  obtain⟨M,N,rfl⟩:∃a c,v' = .slice a (acc.length+1) c:=by
   rcases C.2 with ⟨_,h⟩|⟨g,c,cur,h,_⟩
   ·omega
   ·exact⟨_,_,h⟩
  have Q:=nB r (.cells #[.iface T x] 118);have K:m.heap.size+2<r.heap.size:=by have:=i.size;omega
  have k3:z.cell? ⟨m.heap.size+2,0,none⟩=some lv:=o.cell (zh Q k1) E.out
  have f3:z.frozen? ⟨m.heap.size+2,0,none⟩=false:=by
   rw[yZ (w:=r.alloc (.cells #[.iface T x] 118)) (a:=⟨m.heap.size+2,0,none⟩) (o.block _ (by simp;omega) E.out),yZ (w:=r) (a:=⟨m.heap.size+2,0,none⟩) (Q.block _ K),yZ (w:=w) (a:=⟨m.heap.size+2,0,none⟩) (i.block _ (by show m.heap.size+2<_;omega) (by simp;omega))];exact c2
  have A:zS m.heap.size R w (z.setCell ⟨m.heap.size+2,0,none⟩ (.slice M (acc.length+1) N)):=
   (((zS.of i (by omega)).trans (zS.own (yD r _ none) (λk B=>by cases B) (by omega))).trans (zS.own o (λk B=>by have:=(y.out k B).1;omega) (by simp;omega))).trans (vI z _ (by omega))
  have I:=hid A;clear A
  have a7:∀b,b<r.heap.size->lv.ownBlock≠some b->b≠m.heap.size+2->(z.setCell ⟨m.heap.size+2,0,none⟩ (.slice M (acc.length+1) N)).heap[b]?=r.heap[b]?:=λb h1 O h3=>by
   rw[KM _ _ _ _ _ h3,o.block b (by simp;omega) (λe=>O e.symm),Q.block b h1]
  have D:=hid a7;clear a7
  go_wp2
  go_ret;refine vB.of ?_ HE.out;have d7:=i.size;have b0:=o.size;simp at b0
  have d2:(z.setCell ⟨m.heap.size+2,0,none⟩ (.slice M (acc.length+1) N)).cell? ⟨m.heap.size,0,none⟩=some (.pointer (some ⟨R,0,none⟩)):=by
   rw[XG (w:=r) (a:=⟨m.heap.size,0,none⟩) (D.out m.heap.size (by omega) (λe=>by have:=(y.out _ e).1;omega) (by omega))];exact i.cell cx (by simp;omega)
  have c0:(z.setCell ⟨m.heap.size+2,0,none⟩ (.slice M (acc.length+1) N)).cell? ⟨m.heap.size+1,0,none⟩=some (.int .i64 (d:Int)):=by
   rw[XG (w:=r) (a:=⟨m.heap.size+1,0,none⟩) (D.out (m.heap.size+1) (by omega) (λe=>by have:=(y.out _ e).1;omega) (by omega))];exact i.cell cd (by simp;omega)
  have d1:∀k,(Value.slice M (acc.length+1) N).ownBlock=some k->m.heap.size+3<=k/\k<z.heap.size:=λk B=>World.ownsRow.lt C k B;refine⟨rfl,a9.same (D.out R (by have:=a9.lt;omega) (λe=>by have:=(y.out _ e).1;omega) (by omega)),(HI.out.seq.grown i a5).same (D.out _ (HI.out.seq.grown i a5).lt (λe=>by have:=(y.out _ e).1;have:=HI.out.seq.lt;have:=J.out;omega) (by have:=J.out;omega)),Z5 HI.out.grown I.out,by rw[Xh];omega,by simp;omega,d2,c0,.slice M (acc.length+1) N,us++[.iface T x],JL _ _ _ _ k3,by rw[pK];exact f3,?_,?_⟩
  ·rw[qL];exact C.kept (y9 _ _ _ _) (.inr (λe=>by have:=(d1 _ e).1;omega))
  ·intro j v2 u S c7
   rcases Be c7 with ⟨hj,H⟩|⟨hj,H⟩
   ·have c9:acc[j]?=some v2:=by
     rw[kR (by omega)] at S;exact S
    refine (b7.out j v2 u c9 H).move (λb hb=>⟨hb.1,by rw[Xh];omega,λe=>?_⟩) (λb hb=>?_)
    ·rcases U with h|h
     ·exact hb.2.2 (h.symm.trans e)
     ·rw[h] at e;simp at e;omega
    ·rw[D.out b (by omega) hb.2.2 (by omega)];exact i.block b hb.2.1 (by simp;omega)
   ·rw[c8] at hj;subst hj H;simp at S;subst S;refine d0.move (λb hb=>⟨by have:=hb.1;omega,by have:=hb.2;rw[Xh];omega,λe=>?_⟩) (λb hb=>?_)
    ·have h1:=hb.1;have O:=hb.2
     rcases U with h|h
     ·have:=(y.out b (h.symm.trans e)).2;omega
     ·rw[h] at e;simp at e;omega
    ·have h1:=hb.1;have O:=hb.2;exact D.out b O (λe=>by have:=(y.out b e).2;omega) (by omega)
 | err c q2=>
  rw[X] at n P;simp only at P;obtain⟨T2,L⟩:=JU c q2;have HE:=hid P;have HT:=hid L
  cases hsb:starts s q with
  | true=>
   rw[hsb] at n
   have t:=n.mono (R':=λe G=>(∃T x,e = .returned (.tuple #[.iface T x,.iface T2 (.agg #[.int .i64 (q2:Int)])]))/\w.grownBy G (some R)) (by
    rintro e G ⟨u,rfl,⟨ha,hb⟩,O⟩;obtain⟨T,x,rfl⟩:=ha rfl;exact⟨⟨T,x,by rw[L]⟩,O⟩)
   clear n X P L;go_enter func186,ntmps186
   go_wp2_with (first
    | (go_at_call 92;refine t.mono ?_;rintro e r ⟨⟨T,x,rfl⟩,i⟩;have k1:=i.cell c1 (by simp;omega);have o1:=ug c3 i (by omega))
    | (at_builtin;refine QP _ rfl _ _ 125 rfl (m.heap.size+3) 118 i0 .nilIface 1 16 underlying125 Y Z a0 a1 rfl (by decide) _ _ _ rfl (o1.alloc _) ⟨r.heap.size,0,none⟩ 1 1 [.iface T x] rfl rfl ?c1 ?c2 ?c3 ?c4 ?c5 ?_))
   case c1=>exact cell_one_new _ _ _
   case c2=>intro u H;simp at H;subst H;rfl
   case c3=>unfold maxLen;omega
   case c4=>omega
   case c5=>have:=i.size;simp;omega
   intro v' z C o _ _
   obtain⟨M,N,rfl⟩:∃a c,v' = .slice a (acc.length+1) c:=by
    rcases C.2 with ⟨_,h⟩|⟨g,c,cur,h,_⟩
    ·omega
    ·exact⟨_,_,h⟩
   have Q:=nB r (.cells #[.iface T x] 118);have K:m.heap.size+2<r.heap.size:=by have:=i.size;omega
   have k3:z.cell? ⟨m.heap.size+2,0,none⟩=some lv:=o.cell (zh Q k1) E.out
   have f3:z.frozen? ⟨m.heap.size+2,0,none⟩=false:=by
    rw[yZ (w:=r.alloc (.cells #[.iface T x] 118)) (a:=⟨m.heap.size+2,0,none⟩) (o.block _ (by simp;omega) E.out),yZ (w:=r) (a:=⟨m.heap.size+2,0,none⟩) (Q.block _ K),yZ (w:=w) (a:=⟨m.heap.size+2,0,none⟩) (i.block _ (by show m.heap.size+2<_;omega) (by simp;omega))];exact c2
   have A:zS m.heap.size R w (z.setCell ⟨m.heap.size+2,0,none⟩ (.slice M (acc.length+1) N)):=
    (((zS.of i (by omega)).trans (zS.own (yD r _ none) (λk B=>by cases B) (by omega))).trans (zS.own o (λk B=>by have:=(y.out k B).1;omega) (by simp;omega))).trans (vI z _ (by omega))
   have I:=hid A;clear A
   go_wp2
   go_ret;refine vB.of ?_ HE.out;exact⟨by rw[HT.out];rfl,Z5 HI.out.grown I.out,_,JL _ _ _ _ k3⟩
  | false=>
   rw[hsb] at n
   have t:=n.mono (R':=λe G=>e = .returned (.tuple #[.nilIface,.iface T2 (.agg #[.int .i64 (q2:Int)])])/\w.grownBy G (some R)) (by
    rintro e G ⟨u,rfl,⟨ha,hb⟩,O⟩;obtain rfl:=hb rfl;exact⟨by rw[L],O⟩)
   clear n X P L;go_enter func186,ntmps186
   go_wp2_with (first
    | (go_at_call 92;refine t.mono ?_;rintro e r ⟨rfl,i⟩;have k1:=i.cell c1 (by simp;omega);have o1:=ug c3 i (by omega))
    | (at_builtin;refine QP _ rfl _ _ 125 rfl (m.heap.size+3) 118 i0 .nilIface 1 16 underlying125 Y Z a0 a1 rfl (by decide) _ _ _ rfl (o1.alloc _) ⟨r.heap.size,0,none⟩ 1 1 [.nilIface] rfl rfl ?c1 ?c2 ?c3 ?c4 ?c5 ?_))
   case c1=>exact cell_one_new _ _ _
   case c2=>intro u H;simp at H;subst H;rfl
   case c3=>unfold maxLen;omega
   case c4=>omega
   case c5=>have:=i.size;simp;omega
   intro v' z C o _ _
   obtain⟨M,N,rfl⟩:∃a c,v' = .slice a (acc.length+1) c:=by
    rcases C.2 with ⟨_,h⟩|⟨g,c,cur,h,_⟩
    ·omega
    ·exact⟨_,_,h⟩
   have Q:=nB r (.cells #[.nilIface] 118);have K:m.heap.size+2<r.heap.size:=by have:=i.size;omega
   have k3:z.cell? ⟨m.heap.size+2,0,none⟩=some lv:=o.cell (zh Q k1) E.out
   have f3:z.frozen? ⟨m.heap.size+2,0,none⟩=false:=by
    rw[yZ (w:=r.alloc (.cells #[.nilIface] 118)) (a:=⟨m.heap.size+2,0,none⟩) (o.block _ (by simp;omega) E.out),yZ (w:=r) (a:=⟨m.heap.size+2,0,none⟩) (Q.block _ K),yZ (w:=w) (a:=⟨m.heap.size+2,0,none⟩) (i.block _ (by show m.heap.size+2<_;omega) (by simp;omega))];exact c2
   have A:zS m.heap.size R w (z.setCell ⟨m.heap.size+2,0,none⟩ (.slice M (acc.length+1) N)):=
    (((zS.of i (by omega)).trans (zS.own (yD r _ none) (λk B=>by cases B) (by omega))).trans (zS.own o (λk B=>by have:=(y.out k B).1;omega) (by simp;omega))).trans (vI z _ (by omega))
   have I:=hid A;clear A
   go_wp2
   go_ret;refine vB.of ?_ HE.out;exact⟨by rw[HT.out];rfl,Z5 HI.out.grown I.out,_,JL _ _ _ _ k3⟩
def lQ(w:World)(R:Nat)(s:BA)(r:Rd.Res (List Rd.V))(e:Ending)(a:World):Prop:=match r with
 | .ok d q=>∃b,e = .returned (.tuple #[b,.nilIface])/\ValAt a (Blk w a) (.list d) (.iface 125 b)/\w.grownBy a (some R)/\zz a R s q
 | .err c q=>∃b,e = .returned (.tuple #[b,ZE c q])/\w.grownBy a (some R)
theorem NA(s:BA)(R d F:Nat)(b:World)(p:s.size<=4000)(k:R<b.heap.size)(e:R≠5)(j:5<b.heap.size)(r:Qr s R F) :
  Reads s R 186 #[.pointer (some ⟨b.heap.size,0,none⟩),.pointer (some ⟨b.heap.size+1,0,none⟩),.pointer (some ⟨b.heap.size+2,0,none⟩)] (Rd.stL s.data.toList d) F d (QT b R s d) (Js b R) where
 rd:=λ_ _ _ h=>h.rd
 mv:=λ_ _ _ _ _ h g n o=>h.mv k e g n o
 bad:=λ_ _ _ h=>by
  obtain⟨t,y,c1,_⟩:=h.row;exact⟨h.grown,t,c1⟩
 adv:=λf a q u x g hb m h=>by
  unfold Rd.stL at h
  cases hx:Rd.qo s.data.toList f (d+1) q with
  | ok v q2=>
   rw[hx] at h;injection h with h1 h2
   have:=Rd.K3 (l:=s.data.toList) (f:=f) (d:=d+1) (by omega) (by rw[Ref.zP];omega) hb (by rw[Ref.zP];omega) hx
   rw[Ref.zP] at this;rw[<- h2];exact this
  | err c q2=>rw[hx] at h;cases h
 one:=λf a q w m hd hi g hb i=>Ny s R d F b p k e j hd r f a q w m hi g hb i
theorem QT.val{c:World}{R:Nat}{s:BA}{d:Nat}{acc:List Rd.V}{q:Nat}{w:World}(h:QT c R s d acc q w):∃f,w.cell? ⟨c.heap.size+2,0,none⟩=some f/\ValAt w (Blk c w) (.list acc) (.iface 125 f):=by
 obtain⟨f,i,c1,c2,c3,c4⟩:=h.row;refine⟨f,c1,?_⟩;have o:=c3.1;have a:∀(j:Nat) (v:Rd.V) (u:Value),acc[j]?=some v->i[j]?=some u->ValAt w (Blk c w) v u:=λj v u n l=>(c4 j v u n l).move (λb hb=>⟨by omega,hb.2.1⟩) (λ_ _=>rfl)
 rcases c3.2 with ⟨rfl,h0⟩|⟨g,cap,cur,rfl,hB,hg,hrest⟩
 ·have e:i=[]:=Vx (by omega);subst e;exact .list acc [] none 0 (by simp;omega) (.inl rfl) a
 ·have m:=World.ownsRow.cells c3 (g:=g) rfl;have k:=(YI.1 hg).1
  have:=ValAt.list (w:=w) (S:=Blk c w) acc i (some ⟨g,0,none⟩) cap (by omega) (.inr ⟨g,rfl,⟨by omega,k⟩,λj u l=>by have:=m j u l;rw[addr_add] at this;simpa using this⟩) a
  rwa [show i.length=acc.length by omega] at this
theorem aW(w:World)(a:Value)(t:TypeId):(w.alloc (.cells #[a] t)).cell? ⟨w.heap.size,0,none⟩=some a:=by
 simp only[World.cell?,zL w (.cells #[a] t)];rfl
theorem Lj(w:World)(a:Value)(t:TypeId):(w.alloc (.cells #[a] t)).frozen? ⟨w.heap.size,0,none⟩=false:=by
 simp only[World.frozen?,zL w (.cells #[a] t)];rfl
theorem size_alloc(w:World)(o:Obj):(w.alloc o).heap.size=w.heap.size+1:=by simp
theorem BS(w:World)(a b c:Value)(d e f:TypeId) :
  (((w.alloc (.cells #[a] d)).alloc (.cells #[b] e)).alloc (.cells #[c] f)).cell? ⟨w.heap.size,0,none⟩=some a /\
  (((w.alloc (.cells #[a] d)).alloc (.cells #[b] e)).alloc (.cells #[c] f)).cell? ⟨w.heap.size+1,0,none⟩=some b /\
  (((w.alloc (.cells #[a] d)).alloc (.cells #[b] e)).alloc (.cells #[c] f)).cell? ⟨w.heap.size+2,0,none⟩=some c /\
  (((w.alloc (.cells #[a] d)).alloc (.cells #[b] e)).alloc (.cells #[c] f)).frozen? ⟨w.heap.size+2,0,none⟩=false:=by
 have h:=size_alloc w (.cells #[a] d);have i:=size_alloc (w.alloc (.cells #[a] d)) (.cells #[b] e);have c1:=aW w a d;have c2:=aW (w.alloc (.cells #[a] d)) b e;have c3:=aW ((w.alloc (.cells #[a] d)).alloc (.cells #[b] e)) c f;have g:=Lj ((w.alloc (.cells #[a] d)).alloc (.cells #[b] e)) c f;rw[h] at c2;rw[i,h] at c3 g;exact⟨(yD _ _ none).cell ((yD _ _ none).cell c1 (by simp)) (by simp),(yD _ _ none).cell c2 (by simp),c3,g⟩
theorem Nz(s:BA)(R p d F:Nat)(w:World)(x:zz w R s p)(t:qG w)(k:R≠5)(I:p<s.size)(D:s.size<=4000)(hd:d<=9)(n:Qr s R F)(hF:2*(s.size-(p+1))+1<F) :
  Calls prog 142 #[.pointer (some ⟨R,0,none⟩),.int .i64 (d:Int)] w λe b=>lQ w R s (Rd.uD s.data.toList (Rd.stL s.data.toList d) 93 F d [] p) e b:=by
 have H:=x.lt;have r:=t.lt;have E:∀args w,(callFunc 186 args).run prog w = .ok (.enter 186 args) w:=qx func186 (by kernel_rfl) rfl;have l:∀A B C:Obj,w.grownBy (((w.alloc A).alloc B).alloc C) (some R):=λA B C=>qc (qc (yD w A _) (yD _ B _)) (yD _ C _)
 have f:QT w R s d [] p (((w.alloc (.cells #[.pointer (some ⟨R,0,none⟩)] 183)).alloc (.cells #[.int .i64 (d:Int)] 3)).alloc (.cells #[.slice none 0 0] 125)):=by
  have m:=BS w (.pointer (some ⟨R,0,none⟩)) (.int .i64 (d:Int)) (.slice none 0 0) 183 3 125;exact⟨((x.alloc _).alloc _).alloc _,t.grown (l _ _ _) k,l _ _ _,by simp,zU _,m.1,m.2.1,.slice none 0 0,[],m.2.2.1,m.2.2.2,jR _ _ _ _,λj v u n=>by simp at n⟩
 have hit:=rJ s R p d 93 186 F _ (Rd.stL s.data.toList d) (QT w R s d) (Js w R) [] _ E (NA s R d F w D H k r n) f I D (by omega) (by decide) (by decide) hF;clear f n x t
 cases hx:Rd.uD s.data.toList (Rd.stL s.data.toList d) 93 F d [] p with
 | ok K q=>
  rw[hx] at hit
  have g:=hit.mono (R':=λe b=>e = .returned .nilIface/\∃a,b.cell? ⟨w.heap.size+2,0,none⟩=some a/\ValAt b (Blk w b) (.list K) (.iface 125 a)/\w.grownBy b (some R)/\zz b R s q) (by
   rintro e b ⟨rfl,h⟩;obtain⟨a,o,G⟩:=h.val;exact⟨rfl,a,o,G,h.grown,h.rd⟩)
  clear hit hx;go_enter func142,ntmps142
  go_wp2_with (go_at_call 183;refine g.mono ?_;rintro e L ⟨rfl,a,J,z,i,y⟩)
  go_ret2;exact⟨a,rfl,z,i,y⟩
 | err c q=>
  rw[hx] at hit
  have g:=hit.mono (R':=λe b=>e = .returned (ZE c q)/\∃a,b.cell? ⟨w.heap.size+2,0,none⟩=some a/\w.grownBy b (some R)) (by
   rintro e b ⟨rfl,h,a,o⟩;exact⟨rfl,a,o,h⟩)
  clear hit hx;go_enter func142,ntmps142
  go_wp2_with (go_at_call 183;refine g.mono ?_;rintro e L ⟨rfl,a,J,i⟩)
  go_ret2;exact⟨a,rfl,i⟩
end Go.Proofs.YtagnlbgbnfnapaaGreatDoor
