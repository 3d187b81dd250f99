/- P -/
import Derived.Test.YtfjpcldndaiifaaGreatDoorA06
open Go.Proofs.Tryz
set_option maxRecDepth 100000
set_option maxHeartbeats 2000000
namespace Go.Proofs.YtfjpcldndaiifaaGreatDoor
open Go.Shelf
def Tryz.lays242_ren:Go.Shelf.Ren:=⟨λ|242=>215|278=>228|n=>n,λ|37=>210|21=>21|51=>372|4=>4|5=>5|46=>277|n=>n,λ|n=>n⟩
theorem Tryz.lays242:Go.Proofs.Lays.n242 prog Tryz.lays242_ren:={
 mixed:=by kernel_rfl
 f242:=func215.trans (congrArg some (by kernel_rfl))
 f278:=func228.trans (congrArg some (by kernel_rfl))
 t4:=underlying4
 a4:=Tryz.isAgg4
 z4:=Tryz.sizeOf4
 v4:=Tryz.zeroValue4
 t5:=underlying5
 a5:=Tryz.isAgg5
 z5:=Tryz.sizeOf5
 v5:=Tryz.zeroValue5
 t21:=underlying21
 a21:=Tryz.isAgg21
 z21:=Tryz.sizeOf21
 v21:=Tryz.zeroValue21
 t37:=underlying210
 a37:=Tryz.isAgg210
 z37:=Tryz.sizeOf210
 v37:=Tryz.zeroValue210
 t46:=underlying277
 a46:=Tryz.isAgg277
 z46:=Tryz.sizeOf277
 v46:=Tryz.zeroValue277
 t51:=underlying372
 a51:=Tryz.isAgg372
 z51:=Tryz.sizeOf372
 v51:=Tryz.zeroValue372 }
end Go.Proofs.YtfjpcldndaiifaaGreatDoor
namespace Go.Proofs.YtfjpcldndaiifaaGreatDoor
open Go.RowKit
structure zQ (B R:Nat) (w w':J):Prop where
 os:w'.os=w.os
 tape:w'.tape=w.tape
 output:w'.output=w.output
 size:w.heap.size<=w'.heap.size
 block:∀k,k<B->k≠R->w'.heap[k]?=w.heap[k]?
theorem zQ.trans{B R:Nat}{a b c:J}(h:zQ B R a b)(k:zQ B R b c):zQ B R a c:=
 ⟨k.os.trans h.os,k.tape.trans h.tape,k.output.trans h.output,xD h.size k.size,λi d e=>(k.block i d e).trans (h.block i d e)⟩
theorem zQ.of{B R:Nat}{w w':J}(a:w.grownBy w' (some R))(d:B<=w.heap.size):zQ B R w w':=
 ⟨a.os,a.tape,a.output,a.size,λk c b=>a.block k (by omega) (by simp;exact b)⟩
theorem zQ.own{B R:Nat}{w w':J}{row:Option Nat}(a:w.grownBy w' row)(b:∀k,row=some k->B<=k)(d:B<=w.heap.size):zQ B R w w':=
 ⟨a.os,a.tape,a.output,a.size,λk c _=>a.block k (by omega) (λe=>by have:=b k e.symm;omega)⟩
theorem zQ.grown{B R:Nat}{w w':J}(h:zQ B R w w')(c:w.heap.size<=B):w.grownBy w' (some R):=
 ⟨h.os,h.tape,h.output,h.size,λk b a=>h.block k (by omega) (λe=>a (by rw[e]))⟩
theorem kL{w w':J}{B R n:Nat}{e:TypeId}{v:Y}{xs:List Y}{a:Nat}(h:w.ownsRow B e a v n xs)(b:w.grownBy w' (some R))(c:R<B):w'.ownsRow B e a v n xs:=
 h.kept b (.inr (λe=>by have:=(h.lt R e).1;omega))
theorem zw.own{w w':J}{R:Nat}{s:BY}{p B n:Nat}{e:TypeId}{v:Y}{xs:List Y}{c:Nat}(h:zw w R s p)(b:w.ownsRow B e c v n xs)(a:w.grownBy w' v.ownBlock)(d:R<B):zw w' R s p:=
 h.same (a.block R h.lt (λe=>by have:=(b.lt R e.symm).1;omega))
def vS(w:J)(B:Nat)(v:Y)(t:BY):Prop:=w.ownsRow B 5 1 v t.size (Z.jm t)
theorem bL:(prog.info? 5).map (λi=>(i.zero,i.size,i.bytes))=some (some (.int .u8 0),1,1):=by kernel_rfl
theorem sD(acc:BY)(N:Int)(n:0<=N)(p:N<=65535)(v:Y)(B R:Nat)(w:J)(a:vS w B v acc)(j:acc.size<=100000)(b:B<=w.heap.size)(t:R<B)(s:BY)(q:Nat)(m:zw w R s q):R8 215 #[v,.int .i32 N] w λe g=>∃f,e=.returned f/\(¬(55296<=N/\N<=57343)->vS g B f (acc++U.enc N))/\zQ B R w g/\zw g R s q:=by
 apply(Go.Proofs.Any.utf8_AppendRune_plain Tryz.lays242 bL B v acc.size (Z.jm acc) N (by omega) (by omega) w a (by omega) b).mono;rintro e g⟨f,rfl,l,o,i⟩;have c:∀k,v.ownBlock=some k->B<=k:=λk h=>(World.ownsRow.lt a k h).1;have d:zQ B R w (w.alloc o):=zQ.own (yG w o none) (λk h=>by cases h) b;refine⟨f,rfl,λr=>?_,d.trans (zQ.own i c (xD b d.size)),?_⟩
 ·rw[Z.zdb N n p r,Z.LG,<- Z.bJ]at l;unfold vS;rw[show (acc++U.enc N).size=acc.size+(U.enc N).size by simp];exact l
 exact(m.alloc o).same (i.block R (m.alloc o).lt (λe=>by have:=c R e.symm;omega))
def QZ(w:J)(R B:Nat)(s acc:BY)(r:Z.Res BY)(e:Ending)(w':J):Prop:=match r with
 | .ok u q=>(∃a,e=.returned (.tuple #[a,.nilIface])/\vS w' B a (acc++u))/\zQ B R w w'/\zw w' R s q/\q<=s.size
 | .err _ q=>(∃a,e=.returned (.tuple #[a,.iface 148 (.agg #[R9 (q:Int)])]))/\zQ B R w w'/\zw w' R s q/\q<=s.size
theorem QZ.of{w w':J}{R B:Nat}{s acc:BY}{r a:Z.Res BY}{e:Ending}(h:QZ w R B s acc r e w')(b:a=r):QZ w R B s acc a e w':=b ▸ h
theorem FT{P:Program}{h:Array Oper}{o:Oper}{a:Act}{w:J}{K:Act->J->Prop}{Q:Exit->Act->J->Prop}{E:Prop}
  (y:o.guard=none)(p x:Operand)(t u:TypeId)(m:o.op=Op.call { callee:=Callee.builtin Builtin.append,args:=#[p,x],argTypes:=#[t,u] })
  (base:Nat)(e:TypeId)(i:TypeInfo)(C:P.underlying t=some (.slice e))(D:P.underlying u=some .string)(z:P.info? e=some i)(H:i.zero=some (.int .u8 0))(d:i.size=1)(l:i.bytes=1)
  (v:Y)(n:Nat)(xs:List Y)(B:a.eval p=v)(g:w.ownsRow base e 1 v n xs)(b:BY)(G:a.eval x=S9 b)
  (f:n+b.size<=140737488355328)(c:base<=w.heap.size)
  (s:∀k j,j.ownsRow base e 1 k (n+b.size) (xs++Lib.strCells b)->w.grownBy j v.ownBlock->K (a.put o.dst k) j):if Region.wanted o (yielded h a.tmps)=true then Oper.wp P o a w K Q else E:=by
 have F:Region.wanted o (yielded h a.tmps)=true:=by simp[Region.wanted,y]
 rw[zb F];obtain⟨k,j,A,q,r,_⟩:=Lib.run_append_own_string (P:=P) w base t u o.type e i C D z H d l v n xs g b (by unfold maxLen;omega) f c;unfold Oper.wp;simp[execOp,m,resolve,invoke,builtin,B,G,A,Result.andThen];exact s k j q r
theorem PP(s:BY)(R p:Nat)(w:J)(j:zw w R s p)(i:p<=s.size)(k:s.size<=4000)(u:BY)(q:Nat)(h:Z.Zy s.data.toList p=.ok u q):R8 214 #[RG R 0] w λe a=>∃N:Int,e=.returned (.tuple #[.int .i32 N,.nilIface])/\(u=U.enc N/\0<=N/\N<=65535/\¬(55296<=N/\N<=57343))/\w.grownBy a (some R)/\zw a R s q/\q<=s.size:=by
 refine(AR s R p w j i k).mono ?_;intro e a b;rw[h]at b;obtain⟨⟨N,rfl,c⟩,d,f,g⟩:=b;exact⟨N,rfl,c,d,f,g⟩
theorem PO(s:BY)(R p:Nat)(w:J)(k:zw w R s p)(j:p<=s.size)(l:s.size<=4000)(c:Int)(q:Nat)(h:Z.Zy s.data.toList p=.err c q):R8 214 #[RG R 0] w λe a=>∃N:Int,e=.returned (.tuple #[.int .i32 N,.iface 148 (.agg #[R9 (q:Int)])])/\(0<=N/\N<=65535)/\w.grownBy a (some R)/\zw a R s q/\q<=s.size:=by
 refine(AR s R p w k j l).mono ?_;intro e a b;rw[h]at b;obtain⟨⟨N,rfl,d⟩,f,g,i⟩:=b;exact⟨N,rfl,d,f,g,i⟩
theorem Fy(s:BY)(R p:Nat)(w:J)(c:zw w R s p)(a:p<=s.size)(d:s.size<=4000)(b:qO w)(r:Z.Res BY)(h:Z.uW s.data.toList p=r):R8 216 #[RG R 0] w λe f=>YB w R s p r e f:=by
 rw[<- h];exact zdJ s R p w c a d b
theorem lm(s:BY)(p q:Nat):s.extract p q=Z.piece s.data.toList p q:=by
 apply XJ;rw[Vz];unfold Z.piece;apply Y3.1;rw[ay]
theorem Et(s:BY)(p q:Nat):(Z.piece s.data.toList p q).size<=q:=by
 unfold Z.piece
 have:(List.take (q-p) (List.drop p s.data.toList)).length<=q-p:=List.length_take_le _ _
 simp only[ByteArray.size,List.size_toArray];omega
theorem LU(w:J)(x:Y)(t:TypeId)(k:Nat)(a:k=w.heap.size):∀j u,[x][j]?=some u->(w.alloc (L8 #[x] t)).cell? (((G8 k 0):Addr).add j)=some u:=by
 subst a;exact VW w x t
theorem Yi(w:J)(a:Addr)(v:Y):(w.setCell a v).heap.size=w.heap.size:=by simp[World.setCell]
theorem Mi(s acc:BY)(R p B:Nat)(v:Y)(w:J)(hr:zw w R s p)(hp:p<=s.size)(hs:s.size<=4000)(hq:qO w)(b3:R≠5)(I:vS w B v acc)(c0:acc.size<=50000)(G:R<B)(b2:B<=w.heap.size):R8 192 #[RG R 0,v] w λe L=>QZ w R B s acc (Z.uI s.data.toList p) e L:=by
 obtain⟨i0,hi,W,X,a0⟩:=qU bL;have i:Z.uI s.data.toList p=Z.uI s.data.toList p:=rfl
 conv at i=>rhs;unfold Z.uI
 simp only at i;obtain⟨b,hb⟩:=Nm (Z.zk s.data.toList p)
 have o:R8 149 #[RG R 0] w λe L=>e=.returned (.int .u8 (b:Int))/\zw L R s p/\zQ B R w L/\qO L/\vS L B v acc/\B<=L.heap.size:=by
  apply(Uu s R p w hr hp).mono;rintro e L⟨rfl,h1,h2,h3,h4⟩;exact⟨by rw[hb],h1,zQ.of h2 b2,hq.grown h2 b3,kL I h2 G,by omega⟩
 rw[hb]at i;have c6:b<256:=by rw[<- hb];exact Z.XD _ _
 have K:b≠0->p<s.size:=λh=>by
  have:=Z.qH s.data.toList p (by rw[hb];exact h)
  rwa [U.zF]at this
 have a1:=G7 K;clear hb K hr I hq
 by_cases c1:b<32
 ·rw[zb c1]at i;have E:=G7 i;have d1:decide ((b:Int)<32)=true:=P5;clear i;go_enter func192,ntmps192
  go_wp2_with(first
   |(go_at_call 149;apply o.mono;rintro e C⟨rfl,a,l,y,g,f⟩)
   |(go_at_call 101;apply(Y2 s R p _ a).mono;rintro e M⟨rfl,rfl⟩))
  go_ret2;refine QZ.of ?_ E;exact⟨⟨v,rfl⟩,l,a,hp⟩
 rw[za c1]at i;have d1:decide ((b:Int)<32)=false:=P6;have d4:=a1 (by omega)
 by_cases c2:b=92
 ·rw[zb c2]at i;have hc:(b:Int)=92:=by omega
  cases hx:Z.Zy s.data.toList (p+1) with
  | ok u q=>
   rw[hx]at i;have⟨E,Q⟩:=D5 i hx;clear i hx;go_enter func192,ntmps192
   go_wp2_with(first
    |(go_at_call 149;apply o.mono;rintro e C⟨rfl,a,l,y,g,f⟩;have r:=G7 a;obtain⟨g1,g2,g3⟩:=a)
    |(go_at_call 214;apply(PP s R (p+1) _ (by have:=r.move (p+1);rwa [show ((p+1:Nat):Int)=(p:Int)+1 by omega]at this) (by omega) hs u q Q).mono;rintro e M⟨N,rfl,T,j,m,z⟩;have n:=qg (jR C R 1 (R9 ((p:Int)+1))) j)
    |(go_at_call 215;apply(sD acc N T.2.1 T.2.2.1 v B R _ (kL g n G) (by omega) (xD f n.size) G s q m).mono;rintro e P⟨H,rfl,x,t,A⟩))
   go_ret2;refine QZ.of ?_ E;exact⟨⟨H,rfl,by rw[T.1];exact x T.2.2.2⟩,(l.trans (zQ.of n f)).trans t,A,z⟩
  | err c q=>
   rw[hx]at i;have⟨E,Q⟩:=D5 i hx;clear i hx;go_enter func192,ntmps192
   go_wp2_with(first
    |(go_at_call 149;apply o.mono;rintro e C⟨rfl,a,l,y,g,f⟩;have r:=G7 a;obtain⟨g1,g2,g3⟩:=a)
    |(go_at_call 214;apply(PO s R (p+1) _ (by have:=r.move (p+1);rwa [show ((p+1:Nat):Int)=(p:Int)+1 by omega]at this) (by omega) hs c q Q).mono;rintro e M⟨N,rfl,T,j,m,z⟩;have n:=qg (jR C R 1 (R9 ((p:Int)+1))) j)
    |(go_at_call 215;apply(sD acc N T.1 T.2 v B R _ (kL g n G) (by omega) (xD f n.size) G s q m).mono;rintro e P⟨H,rfl,x,t,A⟩))
   go_ret2;refine QZ.of ?_ E;exact⟨⟨H,rfl⟩,(l.trans (zQ.of n f)).trans t,A,z⟩
 rw[za c2]at i;have d2:((b:Int)==92)=false:=by rw[qY];omega
 by_cases c3:b<128
 ·rw[zb c3]at i;have E:=G7 i;have d3:decide ((b:Int)<128)=true:=P5;clear i;go_enter func192,ntmps192
  go_wp2_with(first
   |(go_at_call 149;apply o.mono;rintro e C⟨rfl,a,l,y,g,f⟩;have r:=G7 a;obtain⟨g1,g2,g3⟩:=a;have n:=jR C R 1 (R9 ((p:Int)+1));have D:=kL g n G)
   | (at_builtin;refine yh _ rfl _ _ 210 rfl B 5 i0 (.int .u8 0) 1 1 underlying210 hi W X a0 rfl (by decide) _ _ _ rfl (D.alloc _) (R6 C 0) 1 1 [.int .u8 (b:Int)] rfl rfl ?c1 ?c2 ?c3 ?c4 ?c5 ?_))
  case c1=>exact LU _ _ _ _ (Yi _ _ _).symm
  case c2=>intro u hu;simp at hu;subst hu;rfl
  case c3=>unfold maxLen;omega
  case c4=>omega
  case c5=>simp;omega
  intro H P x d _;go_wp2;go_ret2;refine QZ.of ?_ E;have m:zw (C.setCell (G8 R 1) (R9 ((p:Int)+1))) R s (p+1):=by have:=r.move (p+1);rwa [show ((p+1:Nat):Int)=(p:Int)+1 by omega]at this
  have b5:zQ B R w (C.setCell (G8 R 1) (R9 ((p:Int)+1))):=l.trans (zQ.of n f);have b6:∀O,zQ B R w ((C.setCell (G8 R 1) (R9 ((p:Int)+1))).alloc O):=λO=>b5.trans (zQ.own (yG _ O none) (λk V=>by cases V) (by rw[Yi];exact f));refine⟨⟨H,rfl,?_⟩,(b6 _).trans (zQ.own d (λk V=>(World.ownsRow.lt g k V).1) (by simp;omega)),(m.alloc _).own (D.alloc _) d G,by omega⟩;unfold vS;rw[Z.bJ]
  have e1:Z.jm (U.one (b:Int))=[.int .u8 (b:Int)]:=by
   unfold Z.jm U.one;simp only[yO,Zr];rw[Z.byte_of b (by omega) (by omega)]
  rw[e1,show (acc++U.one (b:Int)).size=acc.size+1 by rw[zV];rfl];exact x
 rw[za c3]at i;have d3:decide ((b:Int)<128)=false:=P6
 cases hx:Z.uW s.data.toList p with
 | ok u q=>
  rw[hx]at i;have⟨E,Q⟩:=D5 i hx;clear i hx;go_enter func192,ntmps192
  go_wp2_with(first
   |(go_at_call 149;apply o.mono;rintro e C⟨rfl,a,l,y,g,f⟩;have r:=G7 a;obtain⟨g1,g2,g3⟩:=a)
   |(go_at_call 216;apply(Fy s R p C r hp hs y _ Q).mono;rintro e M⟨rfl,hu,j,m,z,b7⟩;have F:=G7 m;have D:=kL g j G;obtain⟨f1,f2,f3⟩:=m))
  have a3:(p:Int)<=(q:Int):=by omega
  have a4:(q:Int)<=(s.size:Int):=by omega
  have b8:(s.extract p q).size<=q:=by rw[lm];exact Et s p q
  have S:B<=M.heap.size:=xD f j.size;go_region_law ((refine FT (by rfl) _ _ _ _ (by rfl) B 5 i0 underlying210 underlying9 hi W X a0 v acc.size (Z.jm acc) (by rfl) D.drew (s.extract p q) (by rfl) (by omega) (by simp;omega) ?_;intro H P x d))
  all_goals
   go_wp2;go_ret2;refine QZ.of ?_ E;have t:zQ B R w P:=(l.trans (zQ.of j f)).trans (zQ.own (B:=B) (R:=R) (w:=M) ⟨d.os,d.tape,d.output,d.size,d.block⟩ (λk V=>(World.ownsRow.lt g k V).1) S);have A:zw P R s q:=F.same (d.block R F.lt (λe=>by have:=(World.ownsRow.lt g R e.symm).1;omega));refine⟨⟨H,rfl,?_⟩,t,A,z⟩;rw[hu,<- lm];unfold vS;rw[Z.bJ,zV];exact x
 | err c q=>
  rw[hx]at i;have⟨E,Q⟩:=D5 i hx;clear i hx;go_enter func192,ntmps192
  go_wp2_with(first
   |(go_at_call 149;apply o.mono;rintro e C⟨rfl,a,l,y,g,f⟩;have r:=G7 a;obtain⟨g1,g2,g3⟩:=a)
   |(go_at_call 216;apply(Fy s R p C r hp hs y _ Q).mono;rintro e M⟨rfl,j,m,z,b7⟩;have F:=G7 m;have D:=kL g j G;obtain⟨f1,f2,f3⟩:=m))
  have a3:(p:Int)<=(q:Int):=by omega
  have a4:(q:Int)<=(s.size:Int):=by omega
  have b8:(s.extract p q).size<=q:=by rw[lm];exact Et s p q
  have S:B<=M.heap.size:=xD f j.size;go_region_law ((refine FT (by rfl) _ _ _ _ (by rfl) B 5 i0 underlying210 underlying9 hi W X a0 v acc.size (Z.jm acc) (by rfl) D.drew (s.extract p q) (by rfl) (by omega) (by simp;omega) ?_;intro H P x d))
  all_goals
   go_wp2;go_ret2;refine QZ.of ?_ E;have t:zQ B R w P:=(l.trans (zQ.of j f)).trans (zQ.own (B:=B) (R:=R) (w:=M) ⟨d.os,d.tape,d.output,d.size,d.block⟩ (λk V=>(World.ownsRow.lt g k V).1) S);have A:zw P R s q:=F.same (d.block R F.lt (λe=>by have:=(World.ownsRow.lt g R e.symm).1;omega));exact⟨⟨H,rfl⟩,t,A,z⟩
theorem tq{w:J}{B:Nat}{v:Y}{t:BY}(h:vS w B v t):(convert 210 9 v).run prog w=.ok (S9 t) w:=by
 rcases h.2 with⟨rfl,h0⟩|⟨g,cap,cur,rfl,hB,hg,hrest⟩
 ·have e:t=⟨#[]⟩:=by
   apply XJ
   have:t.data.size=0:=h0
   exact Array.size_eq_zero_iff.1 this
  rw[e];rw[eD w _ _ _ none 0 0 underlying210 underlying5 underlying9]
  rfl
 have a:=World.ownsRow.cells h (g:=g) rfl
 have:=run_convert_bytes_back (P:=prog) w 210 9 5 (G8 g 0) cap t.data.toList underlying210 underlying5 underlying9 (λj b=>a j _ (by unfold Z.jm;rw[ui,zn b];rfl))
 rw[U.zF]at this;rw[this]
def Jb(w:J)(R:Nat)(s:BY)(r:Z.Res BY)(e:Ending)(w':J):Prop:=match r with
 | .ok t q=>e=.returned (.tuple #[S9 t,.nilIface])/\w.grownBy w' (some R)/\zw w' R s q/\q<=s.size
 | .err _ q=>e=.returned (.tuple #[R5,.iface 148 (.agg #[R9 (q:Int)])])/\w.grownBy w' (some R)/\zw w' R s q/\q<=s.size
theorem Jb.of{w w':J}{R:Nat}{s:BY}{r a:Z.Res BY}{e:Ending}(h:Jb w R s r e w')(b:a=r):Jb w R s a e w':=b ▸ h
theorem ww(s acc:BY)(R p B:Nat)(v:Y)(w:J)(j:zw w R s p)(g:p<=s.size)(k:s.size<=4000)(i:qO w)(d:R≠5)(b:vS w B v acc)(a:acc.size<=50000)(f:R<B)(c:B<=w.heap.size)(r:Z.Res BY)(h:Z.uI s.data.toList p=r):R8 192 #[RG R 0,v] w λe l=>QZ w R B s acc r e l:=by
 rw[<- h];exact Mi s acc R p B v w j g k i d b a f c
theorem JF(s t:BY)(R p:Nat)(w:J)(b:zw w R s p)(a:p<=s.size)(c:s.size<=4000)(d:t.size<=100)(f:∀k,k<t.size->(t.data.toList.getD k 0).toNat≠0)(r:Z.Res Unit)(h:Z.qG s.data.toList (t.data.toList.map UInt8.toNat) p=r):R8 153 #[RG R 0,S9 t] w λe g=>J2 w R s r e g:=by
 rw[<- h];exact zfd s t R p w b a c d f
theorem qO.keep{B R:Nat}{w w':J}(h:qO w)(c:zQ B R w w')(b:R≠5)(a:5<B):qO w':=h.same (c.block _ a (λe=>b e.symm))
theorem zcz(s:BY)(R p:Nat)(w:J)(S:zw w R s p)(hp:p<=s.size)(hs:s.size<=4000)(hq:qO w)(i:R≠5):R8 152 #[RG R 0] w λe h=>Jb w R s (Z.jI s.data.toList p) e h:=by
 have E:Z.jI s.data.toList p=Z.jI s.data.toList p:=rfl
 conv at E=>rhs;unfold Z.jI
 have a7:=hq.lt;have n:=S.lt
 by_cases c1:Z.zk s.data.toList p=34
 ·rw[zb c1]at E
  have m:Z.qG s.data.toList ((ByteArray.mk #[34]).data.toList.map UInt8.toNat) p=.ok () (p+1):=by
   have:=Z.EJ s.data.toList p
   rw[zb c1]at this;exact this
  have z:=JF s ⟨#[34]⟩ R p w S hp hs (by decide) (by decide) _ m
  have B:=z.mono (R':=λe h=>e=.returned .nilIface/\w.grownBy h (some R)/\zw h R s (p+1)/\p+1<=s.size/\qO h) (by
   rintro e h⟨rfl,h1,O,h3⟩;exact⟨rfl,h1,O,h3,hq.grown h1 i⟩)
  have HE:=G7 E;clear m z E c1 S hq;go_enter func152,ntmps152;go_wp2_with(go_at_call 153;apply B.mono;rintro e w1⟨rfl,r,x,F,Q⟩);have⟨L,N,M⟩:=M4 r x Q;clear r x Q B
  go_loopw [5] (λv wr=>∃(q f:Nat) (a:BY),vS wr w.heap.size v a/\zw wr R s q/\zQ w.heap.size R w wr/\qO wr/\q<=s.size/\p+1<=q/\a.size<=q-(p+1)/\s.size<q+f/\Z.Zl s.data.toList (p+1)=Z.xA s.data.toList f q a) (λ_ wr=>s.size-U5 wr R)
  case atStart=>exact⟨p+1,s.data.toList.length+1-(p+1),⟨#[]⟩,qF _ _ _ _,N,zQ.of L F7,M,F,ze _,zD _,by rw[U.zF];omega,rfl⟩
  case round=>
   obtain⟨q,f,a,A,T,hk,V,I,c3,c0,hf,W⟩:=hrel;have⟨HO,HR,HK,HS,D⟩:=M6 A T hk V W;clear A T hk V W L N M;obtain⟨f,rfl⟩:∃k,f=k+1:=⟨f-1,by omega⟩;obtain⟨b,o⟩:=Nm (Z.zk s.data.toList q);have b2:b<256:=by rw[<- o];exact Z.XD _ _
   have G:=(Uu s R q _ HR I).mono (R':=λe h=>e=.returned (.int .u8 (b:Int))/\zw h R s q/\zQ w.heap.size R w h/\qO h/\vS h w.heap.size u5 a) (by
    rintro e h⟨rfl,h1,O,_,_⟩;exact⟨by rw[o],h1,HK.trans (zQ.of O HK.size),HS.grown O i,kL HO O n⟩)
   by_cases c34:b=34
   ·have d34:((b:Int) != 34)=false:=by simp;omega
    have K:=G7 (D.trans (Z.zeN (by rw[o];exact c34)))
    have b5:q<s.size:=by
     have:=Z.qH s.data.toList q (by rw[o];omega)
     rwa [U.zF]at this
    clear o;go_wp2_with(go_at_call 149;apply G.mono;rintro e X⟨rfl,g,d,l,j⟩;have a4:=G7 g;have c2:=tq (kL j (jR X R 1 (R9 ((q:Int)+1))) n);obtain⟨g1,g2,g3⟩:=g);go_ret2;refine Jb.of ?_ (HE.trans K);refine⟨rfl,(d.trans (zQ.of (jR _ _ _ _) d.size)).grown F7,?_,by omega⟩
    have:=a4.move (q+1)
    rwa [show ((q+1:Nat):Int)=(q:Int)+1 by omega]at this
   have d34:((b:Int) != 34)=true:=by simp;omega
   cases hx:Z.uI s.data.toList q with
   | ok u q'=>
    have C:=G7 (D.trans (Z.zeP (by rw[o];exact c34) hx));have b1:=Z.tZ hx;have HX:=G7 hx;clear o hx
    go_wp2_with(first
     |(go_at_call 149;apply G.mono;rintro e X⟨rfl,g,d,l,j⟩)
     |(go_at_call 192;apply(ww s a R q w.heap.size u5 X g I hs l i j (by omega) n d.size _ HX).mono;rintro e w3⟨⟨v3,rfl,a8⟩,t,y,H⟩))
    have e1:(a++u).size=a.size+u.size:=zV;have a6:=HR.at;have P:=y.at;go_roundw
    case rel=>exact⟨q',f,a++u,a8,y,d.trans t,l.keep t i a7,H,by omega,by omega,by omega,C⟩
    case measure=>rw[a6,P];omega
   | err c q'=>
    have C:=G7 (D.trans (Z.zeO (by rw[o];exact c34) hx));have HX:=G7 hx;clear o hx
    go_wp2_with(first
     |(go_at_call 149;apply G.mono;rintro e X⟨rfl,g,d,l,j⟩)
     |(go_at_call 192;apply(ww s a R q w.heap.size u5 X g I hs l i j (by omega) n d.size _ HX).mono;rintro e w3⟨⟨v3,rfl⟩,t,y,H⟩))
    go_ret2;refine Jb.of ?_ (HE.trans C);exact⟨rfl,(d.trans t).grown F7,y,H⟩
 rw[za c1]at E
 have m:Z.qG s.data.toList ((ByteArray.mk #[34]).data.toList.map UInt8.toNat) p=.err 2 p:=by
  have:=Z.EJ s.data.toList p
  rw[za c1]at this;exact this
 have z:=JF s ⟨#[34]⟩ R p w S hp hs (by decide) (by decide) _ m;have HE:=G7 E;clear m E c1 S hq;go_enter func152,ntmps152;go_wp2_with(go_at_call 153;apply z.mono;rintro e w1⟨rfl,r,x,F⟩);go_ret2;refine Jb.of ?_ HE;exact⟨rfl,r,x,F⟩
def YN(w:J)(ao:Option Addr)(ms:List (BY×Y)):Prop:=
 ms=[]\/∃b o,ao=some (G8 b o)/\∀j,(h:j<ms.length)->w.cell? (G8 b (o+j*2))=some (S9 ms[j].1)/\w.cell? (G8 b (o+j*2+1))=some ms[j].2
theorem dL{w w':J}{ao:Option Addr}{ms:List (BY×Y)}(h:YN w ao ms)(a:BQ w w'):YN w' ao ms:=by
 rcases h with h|⟨b,o,ha,hc⟩
 ·exact .inl h
 exact .inr ⟨b,o,ha,λj c=>⟨zi a (hc j c).1,zi a (hc j c).2⟩⟩
def Xx(m:BY×Y):Y := .agg #[S9 m.1,m.2]
def kI(ms:List (BY×Y))(j:Nat):BY×Y:=ms.getD j (⟨#[]⟩,.nilIface)
theorem Jv(ms:List (BY×Y))(j:Nat)(h:j<ms.length):kI ms j=ms[j]:=by
 unfold kI;rw[zT,zn h];rfl
theorem Be(ms:List (BY×Y))(ao:Option Addr)(cap g:Nat)(B:Array Y)(p:Nat->Bool)(w:J)(I:ms.length<=100000000000)(G:L9 g)
  (D:YN w ao ms)(u:∀m ∈ ms,∃T x,m.2=.iface T x)(E:ul g B (λj=>Xx (kI ms j)) ms.length p w):R8 102 #[TL ao ms.length cap,.func (.func g) #[] B] w λe z=>
   e=.returned (.tuple #[R9 (((zC p ms.length).getD 0:Nat):Int),.bool (zC p ms.length).isSome])/\BQ w z:=by
 generalize hF:zC p ms.length=F;have A:=G7 hF;clear hF;go_enter func102,ntmps102;go_wp2
 go_loopw [10] (λi wr=>∃k:Nat,k<=ms.length/\i=R9 k/\(∀j,j<k->p j=false)/\BQ w wr) (λi _=>ms.length-(intOf i).toNat)
 case atStart=>exact⟨0,zD _,rfl,λj h=>by omega,zf _ _⟩
 case round=>
  obtain⟨k,H,rfl,s,r⟩:=hrel;have t:=G7 s;clear s
  by_cases hlt:k<ms.length
  ·rcases D with rfl|⟨b,o,rfl,hc⟩
   ·simp at hlt
   have a:=λW s=>E W k hlt s;simp only[Jv ms k hlt,Xx]at a;obtain⟨v,y⟩:=hc k hlt;obtain⟨K,l⟩:=Nm (ms[k].1);obtain⟨T,N,q⟩:=u ms[k] (qm hlt);rw[l]at v a;rw[q]at y a;have L:=zi r v;have M:=zi r y;clear l q hc v y;have c:=λO=>r.trans (nbl wr O |>.mono r.size)
   cases hpp:p k with
   | false=>
    rw[hpp]at a;have C:=G7 hpp;clear hpp;go_wp2_with(go_at_fn g;apply(a _ (c _)).mono;rintro e z⟨rfl,f⟩);refine⟨⟨k+1,by omega,by go_num,λj h=>?_,(c _).trans (f.mono (c _).size)⟩,by simp[intOf];omega⟩
    by_cases hj:j=k
    ·subst hj;exact C
    ·exact t j (by omega)
   | true=>
    rw[hpp]at a;have e:=Xp p ms.length k hlt t hpp;rw[A.o]at e;subst e;clear hpp;go_wp2_with(go_at_fn g;apply(a _ (c _)).mono;rintro e z⟨rfl,f⟩);go_ret2;exact⟨rfl,(c _).trans (f.mono (c _).size)⟩
  have e:=Xq p ms.length (λj h=>t j (by omega));rw[A.o]at e;subst e;go_wp2;go_ret2;exact⟨rfl,r⟩
theorem Iz(ms:List (BY×Y))(ao:Option Addr)(cap g:Nat)(f:Array Y)(p:Nat->Bool)(w:J)(l:ms.length<=100000000000)(i:L9 g)
  (k:YN w ao ms)(d:∀m ∈ ms,∃T x,m.2=.iface T x)(n:ul g f (λj=>Xx (kI ms j)) ms.length p w):R8 195 #[TL ao ms.length cap,.func (.func g) #[] f] w λe h=>
   e=.returned (.bool (zC p ms.length).isSome)/\BQ w h:=by
 have c:=Be ms ao cap g f p w l i k d n;generalize zC p ms.length=F at c;go_enter func195,ntmps195;go_wp2_with(go_at_call 102;apply c.mono;rintro e h⟨rfl,b⟩);go_ret;exact⟨rfl,b⟩
theorem Ig(g:Nat)(i:Array Y)(m:BY×Y)(B:Nat)(y:Bool)(w:J)(l:L9 g)
  (j:w.cell? (G8 B 0)=some (.func (.func g) #[] i))(h:∀W,BQ w W->R8 g (#[Xx m]++i) W (G5 (.bool y) W)):R8 196 #[Xx m,RG B 0] w (G5 (.bool (!y)) w):=by
 obtain⟨a,v⟩:=m;unfold Xx at h |-;simp only at h |-;have k:=λO:Obj=>zi (nbl w O) j;have c:=λO:Obj=>nbl w O;go_enter func196,ntmps196;go_wp2_with(go_at_fn g;apply(h _ (c _)).mono;rintro e d⟨rfl,f⟩);go_ret;exact⟨rfl,(c _).trans (f.mono (c _).size)⟩
theorem Ie(ms:List (BY×Y))(ao:Option Addr)(cap g:Nat)(b:Array Y)(p:Nat->Bool)(w:J)(s:ms.length<=100000000000)(n:L9 g)
  (r:YN w ao ms)(h:∀m ∈ ms,∃T x,m.2=.iface T x)(t:ul g b (λj=>Xx (kI ms j)) ms.length p w):R8 156 #[TL ao ms.length cap,.func (.func g) #[] b] w λe i=>
   e=.returned (.bool (Zc p ms.length))/\BQ w i:=by
 have l:L9 196:=qo func196 (by kernel_rfl) rfl
 have c:=Iz ms ao cap 196 #[R7 w 0] (λj=>!p j) (w.alloc (L8 #[.func (.func g) #[] b] 220)) s l
  (dL r (nbl w _)) h
  (λW j q d=>by
    refine Ig g b (kI ms j) w.heap.size (p j) W n ?_ (λk o=>t k j q (((nbl w _).trans (d.mono (by simp))).trans (o.mono (by have:=d.size;simp at this;omega))));exact zi d (by simp))
 rw[bE];generalize zC (λj=>!p j) ms.length=F at c;go_enter func156,ntmps156;go_wp2_with(go_at_call 195;apply c.mono;rintro e i⟨rfl,f⟩);go_ret;exact⟨rfl,(nbl w _).trans (f.mono (by simp))⟩
theorem RI(nm:BY)(m:BY×Y)(B:Nat)(w:J)(c:w.cell? (G8 B 0)=some (S9 nm)):R8 103 #[Xx m,RG B 0] w (G5 (.bool (m.1.toList==nm.toList)) w):=by
 obtain⟨a,v⟩:=m;unfold Xx;simp only;have d:=λO:Obj=>zi (nbl w O) c;have b:=λO:Obj=>nbl w O;go_enter func103,ntmps103;go_wp2;go_ret;exact⟨rfl,b _⟩
def xW(ms:List (BY×Y))(nm:BY):Y:=match ms.find? (λm=>m.1.toList==nm.toList) with
 | some m=>m.2
 | none => .nilIface
theorem RA(ms:List (BY×Y))(nm:BY):xW ms nm=match zC (λj=>(kI ms j).1.toList==nm.toList) ms.length with
  | some k=>(kI ms k).2
  | none => .nilIface:=by
 unfold xW
 cases hF:zC (λj=>(kI ms j).1.toList==nm.toList) ms.length with
 | none=>
  have:ms.find? (λm=>m.1.toList==nm.toList)=none:=by
   rw[Y5];intro m f;obtain⟨j,a,rfl⟩:=QB f;unfold zC at hF;rw[Y5]at hF
   have:=hF j (vk.2 a)
   rwa [Jv ms j a]at this
  rw[this]
 | some k=>
  unfold zC at hF;rw[UQ]at hF;obtain⟨c,d,e⟩:=hF;have b:k<ms.length:=by simpa using d
  have:ms.find? (λm=>m.1.toList==nm.toList)=some ms[k]:=by
   rw[List.find?_eq_some_iff_getElem];refine⟨by rw[Jv ms k b]at c;exact c,k,b,rfl,λj a=>?_⟩
   have:=e j a
   rw[Jv ms j (by omega)]at this;exact this
  rw[this];simp only;rw[Jv ms k b]
theorem lH(ms:List (BY×Y))(ao:Option Addr)(cap:Nat)(nm:BY)(w:J)(y:ms.length<=100000000000)(p:YN w ao ms)(i:∀m ∈ ms,∃T x,m.2=.iface T x):R8 59 #[TL ao ms.length cap,S9 nm] w (G5 (xW ms nm) w):=by
 have s:L9 103:=qo func103 (by kernel_rfl) rfl
 have c:=Be ms ao cap 103 #[R7 w 0] (λj=>(kI ms j).1.toList==nm.toList) (w.alloc (L8 #[S9 nm] 9)) y s
  (dL p (nbl w _)) i
  (λW j A t=>RI nm (kI ms j) w.heap.size W (zi t (by simp)))
 have f:=RA ms nm
 have hF:∀k,zC (λj=>(kI ms j).1.toList==nm.toList) ms.length=some k->k<ms.length:=λk h=>by
  unfold zC at h;rw[UQ]at h
  simpa using h.2.1
 have g:=λO:Obj=>nbl w O
 cases hf:zC (λj=>(kI ms j).1.toList==nm.toList) ms.length with
 | none=>
  rw[hf]at c f;simp only at f;rw[f];clear f hF hf;go_enter func59,ntmps59;go_wp2_with(go_at_call 102;apply c.mono;rintro e n⟨rfl,a⟩);go_ret;exact⟨rfl,(g _).trans (a.mono (by simp))⟩
 | some k=>
  rw[hf]at c f;simp only at f;have l:=hF k hf;rw[f,Jv ms k l]
  rcases p with rfl|⟨b,o,rfl,hc⟩
  ·simp at l
  obtain⟨z,r⟩:=hc k l;obtain⟨u,q⟩:=Nm (ms[k].2);rw[q]at r |-;have v:(k:Int)<(ms.length:Int):=by omega
  clear f hF hf hc z q;go_enter func59,ntmps59;go_wp2_with(go_at_call 102;apply c.mono;rintro e n⟨rfl,a⟩;have B:=zi ((g (L8 #[S9 nm] 9)).trans (a.mono (by simp))) r);go_ret;exact⟨rfl,(g _).trans (a.mono (by simp))⟩
def Qn(c:Int)(q:Nat):Y:=
 if c=3 then .iface 149 (.agg #[R9 (q:Int)])
 else if c=4 then .iface 150 (.agg #[R9 (q:Int)])
 else .iface 148 (.agg #[R9 (q:Int)])
theorem PU(q:Nat):Qn 4 q=.iface 150 (.agg #[R9 (q:Int)]):=rfl
theorem V7(c:Int)(q:Nat):∃T,Qn c q=.iface T (.agg #[R9 (q:Int)]):=by
 unfold Qn;split
 ·exact⟨_,rfl⟩
 split
 ·exact⟨_,rfl⟩
 exact⟨_,rfl⟩
def uD{α:Type}(Inv:α->Nat->J->Prop)(Bad:J->Prop)(r:Z.Res α)(e:Ending)(w':J):Prop:=match r with
 | .ok a q=>e=.returned .nilIface/\Inv a q w'
 | .err c q=>e=.returned (Qn c q)/\Bad w'
theorem uD.of{α:Type}{Inv:α->Nat->J->Prop}{Bad:J->Prop}{r a:Z.Res α}{e:Ending}{w':J}(h:uD Inv Bad r e w')(b:a=r):uD Inv Bad a e w':=b ▸ h
structure Reads {α:Type} (s:BY) (R g:Nat) (lb:Array Y) (st:Nat->α->Nat->Z.Res α) (F d:Nat) (Inv:α->Nat->J->Prop) (Bad:J->Prop):Prop where
 rd:∀a q w,Inv a q w->zw w R s q
 mv:∀a q q' w w',Inv a q w->q<=q'->w.grownBy w' (some R)->zw w' R s q'->Inv a q' w'
 bad:∀a q w,Inv a q w->Bad w
 adv:∀f a q a' q',q<=s.size->Z.blank (Z.zk s.data.toList q)=false->2*(s.size-q)<f->st f a q=.ok a' q'->q<q'/\q'<=s.size
 one:∀f a q w,f<F->d<=8->Inv a q w->q<=s.size->Z.blank (Z.zk s.data.toList q)=false->2*(s.size-q)<f->R8 g lb w λe w'=>uD Inv Bad (st f a q) e w'
theorem TN{α:Type}{l:List UInt8}{b:Nat->α->Nat->Z.Res α}{e f q q2:Nat}{a:α}{c:Int}(h:b f a q=.err c q2):Z.uo l b e (f+1) a q=.err c q2:=by rw[Z.uo,h]
theorem TP{α:Type}{l:List UInt8}{b:Nat->α->Nat->Z.Res α}{e f q q2:Nat}{a c:α}(h:b f a q=.ok c q2)(d:Z.zk l (Z.skip l q2)=44):Z.uo l b e (f+1) a q=Z.uo l b e f c (Z.skip l (Z.skip l q2+1)):=by
 rw[Z.uo,h];exact zb d
theorem TM{α:Type}{l:List UInt8}{c:Nat->α->Nat->Z.Res α}{e f q q2:Nat}{a b:α}(h:c f a q=.ok b q2)(d:Z.zk l (Z.skip l q2)=e)(g:e≠44):Z.uo l c e (f+1) a q=.ok b (Z.skip l q2+1):=by
 rw[Z.uo,h];exact(N8).trans (zb d)
theorem TK{α:Type}{l:List UInt8}{b:Nat->α->Nat->Z.Res α}{e f q q2:Nat}{a c:α}(h:b f a q=.ok c q2)(d:Z.zk l (Z.skip l q2)≠44)(g:Z.zk l (Z.skip l q2)≠e):Z.uo l b e (f+1) a q=.err 2 (Z.skip l q2):=by
 rw[Z.uo,h];exact(za d).trans (za g)
theorem BK{α:Type}(s:BY)(R p d e g F:Nat)(lb:Array Y)(st:Nat->α->Nat->Z.Res α)(Inv:α->Nat->J->Prop)(Bad:J->Prop)(a:α)(w:J)
  (eg:L9 g)(hR:Reads s R g lb st F d Inv Bad)
  (hi:Inv a p w)(hp:p<s.size)(hs:s.size<=4000)(hd:d<=100)(i0:e≠0)(e7:e≠44)(hF:2*(s.size-(p+1))+1<F):R8 188 #[RG R 0,R9 (d:Int),.int .u8 (e:Int),.func (.func g) #[] lb] w λi n=>uD Inv Bad (Z.Ze s.data.toList st e F d a p) i n:=by
 have hr:=hR.rd a p w hi;have⟨HI,j⟩:=D5 hi hR;clear hi hR;have C:Z.Ze s.data.toList st e F d a p=Z.Ze s.data.toList st e F d a p:=rfl
 conv at C=>rhs;unfold Z.Ze
 have d0:zw (w.setCell (G8 R 1) (R9 ((p:Int)+1))) R s (p+1):=by
  have:=hr.move (p+1)
  rwa [show ((p+1:Nat):Int)=(p:Int)+1 by omega]at this
 have c4:=G7 d0;obtain⟨h1,h2,h3⟩:=hr;clear d0
 by_cases c8:8<d
 ·rw[zb c8]at C;have X:=G7 C;have d8:decide (8<(d:Int))=true:=P5;clear C;go_enter func188,ntmps188;go_wp2;go_ret;refine uD.of ?_ X;exact⟨rfl,j.bad _ _ _ HI⟩
 rw[za c8]at C;have d8:decide (8<(d:Int))=false:=P6;have a9:=Z.uX s.data.toList (p+1) (by rw[U.zF];omega);rw[U.zF]at a9;have f2:=Z.jV s.data.toList (p+1);have a7:=Z.ZE s.data.toList (p+1);obtain⟨q,hq⟩:=Nm (Z.skip s.data.toList (p+1));have A:=Vq s R (p+1) _ c4 (by omega) hs;rw[hq]at C a9 f2 a7 A;obtain⟨b,hb⟩:=Nm (Z.zk s.data.toList q);have f6:b<256:=by rw[<- hb];exact Z.XD _ _
 rw[hb]at C
 have B:=A.mono (R':=λi n=>i=.returned (.tuple #[])/\w.grownBy n (some R)/\zw n R s q) (by
  rintro i n⟨rfl,V,W⟩;exact⟨rfl,qg (jR _ _ _ _) V,W⟩)
 have y:∀u,zw u R s q->w.grownBy u (some R)->R8 149 #[RG R 0] u λi n=>i=.returned (.int .u8 (b:Int))/\w.grownBy n (some R)/\zw n R s q:=λu h6 h7=>by
  apply(Uu s R q u h6 a9).mono;rintro i n⟨rfl,V,W,_,_⟩;exact⟨by rw[hb],qg h7 W,V⟩
 clear A
 by_cases ce:b=e
 ·rw[zb ce]at C;have X:=G7 C
  have d3:q<s.size:=by
   have:=Z.qH s.data.toList q (by rw[hb];omega)
   rwa [U.zF]at this
  have de:((b:Int)==(e:Int))=true:=by rw[vC];omega
  clear C hb hq a7;go_enter func188,ntmps188
  go_wp2_with(first
   |(go_at_call 99;apply B.mono;rintro i u⟨rfl,a4,a8⟩)
   |(go_at_call 149;apply(y u a8 a4).mono;rintro i w2⟨rfl,a5,O⟩;have a0:=G7 O;obtain⟨g1,g2,g3⟩:=O))
  go_ret;refine uD.of ?_ X;refine⟨rfl,j.mv a p _ w _ HI (by omega) (qg a5 (jR _ _ _ _)) ?_⟩
  have:=a0.move (q+1)
  rwa [show ((q+1:Nat):Int)=(q:Int)+1 by omega]at this
 rw[za ce]at C;have de:((b:Int)==(e:Int))=false:=by rw[qY];omega
 have⟨X,c5⟩:=D5 C a7;clear C hb hq a7;go_enter func188,ntmps188
 go_wp2_with(first
  |(go_at_call 99;apply B.mono;rintro i u⟨rfl,a4,a8⟩)
  |(go_at_call 149;apply(y u a8 a4).mono;rintro i w2⟨rfl,a5,O⟩))
 have⟨a0,c3⟩:=D5 O a5;clear a8 a4 O a5 y B h1 h2 h3
 go_loopw [38] (λ_ wr=>∃(f:Nat) (a':α) (q':Nat),f<=F/\Inv a' q' wr/\q'<=s.size/\Z.blank (Z.zk s.data.toList q')=false/\2*(s.size-q')+1<f/\Z.uo s.data.toList st e F a q=Z.uo s.data.toList st e f a' q') (λ_ wr=>s.size-U5 wr R)
 case atStart=>exact⟨F,a,q,ze _,j.mv a p q w w2 HI (by omega) c3 a0,a9,c5,by omega,rfl⟩
 case round=>
  obtain⟨f,a',q',i2,a6,d1,N,i1,d5⟩:=hrel;obtain⟨f,rfl⟩:∃k,f=k+1:=⟨f-1,by omega⟩;have x:=j.one f a' q' wr (by omega) (by omega) a6 d1 N (by omega);have e5:=G7 (j.rd _ _ _ a6).at;have⟨a1,g5⟩:=D5 d5 a6;have H:=G7 (λG E=>j.adv f a' q' G E d1 N (by omega));clear d5 a6 a0 c3 c5 c4 N
  cases hx:st f a' q' with
  | err c E=>
   rw[hx]at x;have c2:=G7 (X.trans (a1.trans (TN hx)));obtain⟨T,hT⟩:=V7 c E
   have o:=x.mono (R':=λi n=>i=.returned (.iface T (.agg #[R9 (E:Int)]))/\Bad n) (by
    rintro i n⟨rfl,h⟩;exact⟨by rw[hT],h⟩)
   have HT:=G7 hT;clear x hx H hT;go_wp2_with(go_at_fn g;apply o.mono;rintro i S⟨rfl,c7⟩);go_ret;refine uD.of ?_ c2;exact⟨by rw[HT.o];rfl,c7⟩
  | ok G E=>
   rw[hx]at x;obtain⟨e4,b6⟩:=H G E hx;have P:=Z.uX s.data.toList E (by rw[U.zF];omega);rw[U.zF]at P;have b4:=Z.jV s.data.toList E;have m:=λh=>G7 (X.trans (a1.trans (TP (e:=e) (l:=s.data.toList) hx h)));have v:=λh=>G7 (X.trans (a1.trans (TM (e:=e) (l:=s.data.toList) hx h e7)));have D:=λh h'=>G7 (X.trans (a1.trans (TK (e:=e) (l:=s.data.toList) hx h h')));have A:=λu (h:Inv G E u)=>Vq s R E u (j.rd _ _ _ h) b6 hs;obtain⟨t,d2⟩:=Nm (Z.skip s.data.toList E);simp only[d2]at P b4 m v D A;obtain⟨b3,I⟩:=Nm (Z.zk s.data.toList t);have e6:b3<256:=by rw[<- I];exact Z.XD _ _
   have r:b3≠0->t<s.size:=λh=>by
    have:=Z.qH s.data.toList t (by rw[I];exact h)
    rwa [U.zF]at this
   simp only[I]at m v D
   have o:=x.mono (R':=λi n=>i=.returned .nilIface/\Inv G E n) (by
    rintro i n⟨rfl,h⟩;exact⟨rfl,h⟩)
   have B:∀u,Inv G E u->R8 99 #[RG R 0] u λi n=>i=.returned (.tuple #[])/\Inv G t n:=λu h=>by
    apply(A u h).mono;rintro i n⟨rfl,V,W⟩;exact⟨rfl,j.mv _ _ _ _ _ h b4 V W⟩
   have y:∀u,Inv G t u->R8 149 #[RG R 0] u λi n=>i=.returned (.int .u8 (b3:Int))/\Inv G t n/\zw n R s t:=λu h=>by
    apply(Uu s R t u (j.rd _ _ _ h) P).mono;rintro i n⟨rfl,V,W,_,_⟩;exact⟨by rw[I],j.mv _ _ _ _ _ h F7 W V,V⟩
   clear x hx H A I d2
   by_cases c44:b3=44
   ·have d44:(b3:Int)=44:=by omega
    have HM:=m c44;have d3:=r (by omega);have Q:=Z.uX s.data.toList (t+1) (by rw[U.zF];omega);rw[U.zF]at Q;have d4:=Z.jV s.data.toList (t+1);have b1:=G7 (Z.ZE s.data.toList (t+1));clear m v D r c44;obtain⟨q4,b7⟩:=Nm (Z.skip s.data.toList (t+1));rw[b7]at Q d4 HM b1
    have f1:∀S,Inv G t S->zw S R s t->R8 99 #[RG R 0] (S.setCell (G8 R 1) (R9 ((t:Int)+1))) λi n=>i=.returned (.tuple #[])/\Inv G q4 n:=λS h h'=>by
     have hm:=h'.move (t+1);rw[show ((t+1:Nat):Int)=(t:Int)+1 by omega]at hm;apply(Vq s R (t+1) _ hm (by omega) hs).mono;rintro i n⟨rfl,V,W⟩;rw[b7]at W;exact⟨rfl,j.mv _ _ _ _ _ h (by omega) (qg (jR _ _ _ _) V) W⟩
    clear b7
    go_wp2_with(first
     |(go_at_fn g;apply o.mono;rintro i S⟨rfl,K⟩)
     |(go_at_call 99;apply(f1 w5 M b5).mono;rintro i w6⟨rfl,c9⟩)
     |(go_at_call 99;apply(B S K).mono;rintro i w4⟨rfl,L⟩)
     |(go_at_call 149;apply(y w4 L).mono;rintro i w5⟨rfl,M,z⟩;have b5:=G7 z;obtain⟨g1,g2,g3⟩:=z))
    have c6:=(j.rd _ _ _ c9).at;go_roundw
    case rel=>exact⟨f,G,q4,by omega,c9,Q,b1,by omega,X.symm.trans HM⟩
    case measure=>rw[e5.o,c6];omega
   have d44:((b3:Int)==44)=false:=by rw[qY];omega
   by_cases ce3:b3=e
   ·have e0:((b3:Int)==(e:Int))=true:=by rw[vC];omega
    have HM:=v ce3;have d3:=r (by omega);clear m v D r c44 ce3
    go_wp2_with(first
     |(go_at_fn g;apply o.mono;rintro i S⟨rfl,K⟩)
     |(go_at_call 99;apply(B S K).mono;rintro i w4⟨rfl,L⟩)
     |(go_at_call 149;apply(y w4 L).mono;rintro i w5⟨rfl,M,z⟩;have b5:=G7 z;obtain⟨g1,g2,g3⟩:=z))
    go_ret;refine uD.of ?_ HM;refine⟨rfl,j.mv _ _ _ _ _ M (by omega) (jR _ _ _ _) ?_⟩
    have:=b5.move (t+1)
    rwa [show ((t+1:Nat):Int)=(t:Int)+1 by omega]at this
   have e0:((b3:Int)==(e:Int))=false:=by rw[qY];omega
   have HM:=D c44 ce3;clear m v D r c44 ce3
   go_wp2_with(first
    |(go_at_fn g;apply o.mono;rintro i S⟨rfl,K⟩)
    |(go_at_call 99;apply(B S K).mono;rintro i w4⟨rfl,L⟩)
    |(go_at_call 149;apply(y w4 L).mono;rintro i w5⟨rfl,M,z⟩)
    |(go_at_call 101;apply(Y2 s R t w5 z).mono;rintro i w6⟨rfl,rfl⟩))
   go_ret;refine uD.of ?_ HM;exact⟨rfl,j.bad _ _ _ M⟩
inductive ValAt (w:J) (S:Nat->Prop):Z.V->Y->Prop
 | str (t:BY):ValAt w S (.str t) (.iface 289 (S9 t))
 | word (b:Bool):ValAt w S (.word b) (.iface 290 (.bool b))
 | list (vs:List Z.V) (us:List Y) (ao:Option Addr) (cap:Nat):us.length=vs.length ->
   (us=[]\/∃b,ao=some (G8 b 0)/\S b/\∀(j:Nat) (u:Y),us[j]?=some u->w.cell? (G8 b j)=some u) ->
   (∀(j:Nat) (v:Z.V) (u:Y),vs[j]?=some v->us[j]?=some u->ValAt w S v u)->ValAt w S (.list vs) (.iface 128 (TL ao us.length cap))
 | obj (ms:List (BY×Z.V)) (us:List (BY×Y)) (ao:Option Addr) (cap:Nat):us.map Prod.fst=ms.map Prod.fst ->
   (us=[]\/∃b,ao=some (G8 b 0)/\S b/\∀(j:Nat) (x:BY×Y),us[j]?=some x->w.cell? (G8 b (j*2))=some (S9 x.1)/\w.cell? (G8 b (j*2+1))=some x.2) ->
   (∀(j:Nat) (x:BY×Z.V) (u:BY×Y),ms[j]?=some x->us[j]?=some u->ValAt w S x.2 u.2)->ValAt w S (.obj ms) (.iface 125 (TL ao us.length cap))
theorem ValAt.move{w w':J}{S l:Nat->Prop}{v:Z.V}{u:Y}(h:ValAt w S v u)(m:∀b,S b->l b)(g:∀b,S b->w'.heap[b]?=w.heap[b]?):ValAt w' l v u:=by
 induction h with
 | str t=>exact .str t
 | word b=>exact .word b
 | list q k e c f d _ i=>
  refine .list q k e c f ?_ i
  rcases d with d|⟨b,ha,hb,hc⟩
  ·exact .inl d
  ·exact .inr ⟨b,ha,m b hb,λj u o=>by rw[Xd (a:=G8 b j) (g b hb)];exact hc j u o⟩
 | obj p k e c f d _ i=>
  refine .obj p k e c f ?_ i
  rcases d with d|⟨b,ha,hb,hc⟩
  ·exact .inl d
  exact .inr ⟨b,ha,m b hb,λj x n=>⟨by rw[Xd (a:=(G8 b (j*2))) (g b hb)];exact(hc j x n).1,by rw[Xd (a:=(G8 b (j*2+1))) (g b hb)];exact(hc j x n).2⟩⟩
theorem ValAt.iface{w:J}{S:Nat->Prop}{v:Z.V}{u:Y}(h:ValAt w S v u):∃T x,u=.iface T x:=by
 cases h with
 | str t=>exact⟨_,_,rfl⟩
 | word b=>exact⟨_,_,rfl⟩
 | list=>exact⟨_,_,rfl⟩
 | obj=>exact⟨_,_,rfl⟩
def Blk(w w':J)(b:Nat):Prop:=w.heap.size<=b/\b<w'.heap.size
def starts(s:BY)(p:Nat):Bool:=Z.zk s.data.toList p==123||Z.zk s.data.toList p==91||Z.zk s.data.toList p==34||Z.zk s.data.toList p==116||Z.zk s.data.toList p==102
def Zb(w:J)(R:Nat)(s:BY)(sb:Bool)(r:Z.Res Z.V)(e:Ending)(w':J):Prop:=match r with
 | .ok v q=>∃u,e=.returned (.tuple #[u,.nilIface])/\ValAt w' (Blk w w') v u/\w.grownBy w' (some R)/\zw w' R s q
 | .err c q=>∃u,e=.returned (.tuple #[u,Qn c q])/\((sb=true->∃T x,u=.iface T x)/\(sb=false->u=.nilIface))/\w.grownBy w' (some R)
theorem Zb.of{w w':J}{R:Nat}{s:BY}{sb:Bool}{r a:Z.Res Z.V}{e:Ending}(h:Zb w R s sb r e w')(b:a=r):Zb w R s sb a e w':=b ▸ h
def Xc(s:BY)(R F:Nat):Prop:=∀f,f<F->∀(d p:Nat) (w:J),zw w R s p->qO w->p<=s.size->1<=d->d<=9->Z.blank (Z.zk s.data.toList p)=false->2*(s.size-p)<f ->
 R8 100 #[RG R 0,R9 (d:Int)] w λe a=>Zb w R s (starts s p) (Z.qL s.data.toList f d p) e a
structure XM (w0:J) (R:Nat) (s:BY) (d:Nat) (acc:List Z.V) (q:Nat) (wr:J):Prop where
 rd:zw wr R s q
 seq:qO wr
 grown:w0.grownBy wr (some R)
 size:w0.heap.size+3<=wr.heap.size
 len:acc.length<=q
 cx:wr.cell? (R6 w0 0)=some (RG R 0)
 cd:wr.cell? (G8 (w0.heap.size+1) 0)=some (R9 (d:Int))
 row:∃lv us,wr.cell? (G8 (w0.heap.size+2) 0)=some lv/\wr.frozen? (G8 (w0.heap.size+2) 0)=false/\wr.ownsRow (w0.heap.size+3) 121 1 lv acc.length us /\
  ∀(j:Nat) (v:Z.V) (u:Y),acc[j]?=some v->us[j]?=some u->ValAt wr (λb=>w0.heap.size+3<=b/\b<wr.heap.size/\lv.ownBlock≠some b) v u
def VD(a:J)(R:Nat)(wr:J):Prop:=a.grownBy wr (some R)/\∃b,wr.cell? (G8 (a.heap.size+2) 0)=some b
theorem XM.mv{e:J}{R:Nat}{s:BY}{d:Nat}{acc:List Z.V}{q i:Nat}{w w':J}(t:R<e.heap.size)(g:R≠5)(h:XM e R s d acc q w)(x:q<=i)(c:w.grownBy w' (some R))(l:zw w' R s i):XM e R s d acc i w':=by
 obtain⟨p,r,c1,c2,c3,c4⟩:=h.row;have m:=h.size;have k:=c.size;refine⟨l,h.seq.grown c g,qg h.grown c,by omega,by have:=h.len;omega,c.cell h.cx (by simp;omega),c.cell h.cd (by simp;omega),p,r,c.cell c1 (by simp;omega),?_,kL c3 c (by omega),λj v u o n=>(c4 j v u o n).move (λb f=>⟨f.1,by omega,f.2.2⟩) (λb f=>c.block b f.2.1 (by simp;omega))⟩;rw[vw (w:=w) (a:=(G8 (e.heap.size+2) 0)) (c.block _ (by show e.heap.size+2<_;omega) (by simp;omega))];exact c2
theorem zfw:(prog.info? 121).map (λi=>(i.zero,i.size,i.bytes))=some (some .nilIface,1,16):=by kernel_rfl
theorem Ff{α:Type}{xs:List α}{x:α}{j:Nat}{u:α}(h:(xs++[x])[j]?=some u):(j<xs.length/\xs[j]?=some u)\/(j=xs.length/\u=x):=by
 rw[XQ]at h;split at h
 ·rename_i a;exact .inl ⟨a,h⟩
 have a:=(zU.1 h).1;simp at a;have e:j=xs.length:=by omega
 subst e;simp at h;exact .inr ⟨rfl,h.symm⟩
end Go.Proofs.YtfjpcldndaiifaaGreatDoor
