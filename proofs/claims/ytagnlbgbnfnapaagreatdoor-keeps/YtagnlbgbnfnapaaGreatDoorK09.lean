/- P -/
import Derived.Test.YtagnlbgbnfnapaaGreatDoorK08
open Go.Proofs.Tryz
set_option maxRecDepth 100000
set_option maxHeartbeats 2000000
namespace Go.Proofs.YtagnlbgbnfnapaaGreatDoor
open Go.Shelf
def Tryz.lays242_ren:Go.Shelf.Ren:=⟨λ|242=>226|278=>248|n=>n,λ|37=>181|21=>21|51=>398|4=>4|5=>5|46=>266|n=>n,λ|n=>n⟩
theorem Tryz.lays242:Go.Proofs.Lays.n242 prog Tryz.lays242_ren:={
 mixed:=by kernel_rfl
 f242:=func226.trans (congrArg some (by kernel_rfl))
 f278:=func248.trans (congrArg some (by kernel_rfl))
 t4:=underlying4
 a4:=Tryz.isAgg4
 z4:=Tryz.sizeOf4
 v4:=Tryz.zeroValue4
 t5:=underlying5
 a5:=Tryz.isAgg5
 z5:=Tryz.sizeOf5
 v5:=Tryz.zeroValue5
 t21:=underlying21
 a21:=Tryz.isAgg21
 z21:=Tryz.sizeOf21
 v21:=Tryz.zeroValue21
 t37:=underlying181
 a37:=Tryz.isAgg181
 z37:=Tryz.sizeOf181
 v37:=Tryz.zeroValue181
 t46:=underlying266
 a46:=Tryz.isAgg266
 z46:=Tryz.sizeOf266
 v46:=Tryz.zeroValue266
 t51:=underlying398
 a51:=Tryz.isAgg398
 z51:=Tryz.sizeOf398
 v51:=Tryz.zeroValue398 }
end Go.Proofs.YtagnlbgbnfnapaaGreatDoor
namespace Go.Proofs.YtagnlbgbnfnapaaGreatDoor
open Go.RowKit
structure zM (B R:Nat) (w w':World):Prop where
 os:w'.os=w.os
 tape:w'.tape=w.tape
 output:w'.output=w.output
 size:w.heap.size<=w'.heap.size
 block:∀k,k<B->k≠R->w'.heap[k]?=w.heap[k]?
theorem zM.trans{B R:Nat}{a b c:World}(h:zM B R a b)(k:zM B R b c):zM B R a c:=
 ⟨k.os.trans h.os,k.tape.trans h.tape,k.output.trans h.output,qZ h.size k.size,λi d e=>(k.block i d e).trans (h.block i d e)⟩
theorem zM.of{B R:Nat}{w w':World}(a:w.grownBy w' (some R))(d:B<=w.heap.size):zM B R w w':=
 ⟨a.os,a.tape,a.output,a.size,λk c b=>a.block k (by omega) (by simp;exact b)⟩
theorem zM.own{B R:Nat}{w w':World}{row:Option Nat}(a:w.grownBy w' row)(b:∀k,row=some k->B<=k)(d:B<=w.heap.size):zM B R w w':=
 ⟨a.os,a.tape,a.output,a.size,λk c _=>a.block k (by omega) (λe=>by have:=b k e.symm;omega)⟩
theorem zM.grown{B R:Nat}{w w':World}(h:zM B R w w')(c:w.heap.size<=B):w.grownBy w' (some R):=
 ⟨h.os,h.tape,h.output,h.size,λk b a=>h.block k (by omega) (λe=>a (by rw[e]))⟩
theorem vL{w w':World}{B R n:Nat}{e:TypeId}{v:Value}{xs:List Value}{a:Nat}(h:w.ownsRow B e a v n xs)(b:w.grownBy w' (some R))(c:R<B):w'.ownsRow B e a v n xs:=
 h.kept b (.inr (λe=>by have:=(h.lt R e).1;omega))
theorem zu.own{w w':World}{R:Nat}{s:BY}{p B n:Nat}{e:TypeId}{v:Value}{xs:List Value}{c:Nat}(h:zu w R s p)(b:w.ownsRow B e c v n xs)(a:w.grownBy w' v.ownBlock)(d:R<B):zu w' R s p:=
 h.same (a.block R h.lt (λe=>by have:=(b.lt R e.symm).1;omega))
def jq(w:World)(B:Nat)(v:Value)(t:BY):Prop:=w.ownsRow B 5 1 v t.size (Rd.yw t)
theorem VW:(prog.info? 5).map (λi=>(i.zero,i.size,i.bytes))=some (some (.int .u8 0),1,1):=by kernel_rfl
theorem gz(acc:BY)(N:Int)(l:0<=N)(m:N<=65535)(v:Value)(B R:Nat)(w:World)(a:jq w B v acc)(hlen:acc.size<=100000)(b:B<=w.heap.size)(p:R<B)(s:BY)(q:Nat)(j:zu w R s q) :
  Calls prog 226 #[v,.int .i32 N] w λe w'=>∃f,e = .returned f/\(¬(55296<=N/\N<=57343)->jq w' B f (acc++Ref.enc N))/\zM B R w w'/\zu w' R s q:=by
 refine (Go.Proofs.Any.utf8_AppendRune_plain Tryz.lays242 VW B v acc.size (Rd.yw acc) N (by omega) (by omega) w a (by omega) b).mono ?_;rintro e w' ⟨f,rfl,i,o,h⟩;have c:∀k,v.ownBlock=some k->B<=k:=λk g=>(World.ownsRow.lt a k g).1;have d:zM B R w (w.alloc o):=zM.own (xU w o none) (λk g=>by cases g) b;refine⟨f,rfl,λn=>?_,d.trans (zM.own h c (qZ b d.size)),?_⟩
 ·rw[Rd.OG N l m n,Rd.AY,<- Rd.VV] at i;unfold jq;rw[show (acc++Ref.enc N).size=acc.size+(Ref.enc N).size by simp];exact i
 ·exact (j.alloc o).same (h.block R (j.alloc o).lt (λe=>by have:=c R e.symm;omega))
def Zx(w:World)(R B:Nat)(s acc:BY)(r:Rd.Res BY)(e:Ending)(w':World):Prop:=match r with
 | .ok u q=>(∃a,e = .returned (.tuple #[a,.nilIface])/\jq w' B a (acc++u))/\zM B R w w'/\zu w' R s q/\q<=s.size
 | .err _ q=>(∃a,e = .returned (.tuple #[a,.iface 145 (.agg #[.int .i64 (q:Int)])]))/\zM B R w w'/\zu w' R s q/\q<=s.size
theorem Zx.of{w w':World}{R B:Nat}{s acc:BY}{r a:Rd.Res BY}{e:Ending}(h:Zx w R B s acc r e w')(b:a=r):Zx w R B s acc a e w':=b ▸ h
theorem su{P:Program}{ops:Array Oper}{o:Oper}{a:Act}{w:World}{K:Act->World->Prop}{Q:Exit->Act->World->Prop}{E:Prop}
  (p:o.guard=none)(j x:Operand)(t u:TypeId)(h:o.op=Op.call { callee:=Callee.builtin Builtin.append,args:=#[j,x],argTypes:=#[t,u] })
  (base:Nat)(e:TypeId)(i:TypeInfo)(s:P.underlying t=some (.slice e))(y:P.underlying u=some .string)(hi:P.info? e=some i)(B:i.zero=some (.int .u8 0))(c:i.size=1)(g:i.bytes=1)
  (v:Value)(n:Nat)(xs:List Value)(r:a.eval j=v)(d:w.ownsRow base e 1 v n xs)(str:BY)(A:a.eval x = .string str)
  (hlen:n+str.size<=140737488355328)(b:base<=w.heap.size)
  (m:∀f w',w'.ownsRow base e 1 f (n+str.size) (xs++Lib.strCells str)->w.grownBy w' v.ownBlock->K (a.put o.dst f) w') :
  if Region.wanted o (yielded ops a.tmps)=true then Oper.wp P o a w K Q else E:=by
 have z:Region.wanted o (yielded ops a.tmps)=true:=by simp[Region.wanted,p]
 rw[zb z];obtain⟨f,w',q,k,l,_⟩:=Lib.run_append_own_string (P:=P) w base t u o.type e i s y hi B c g v n xs d str (by unfold maxLen;omega) hlen b;unfold Oper.wp;simp[execOp,h,resolve,invoke,builtin,r,A,q,Result.andThen];exact m f w' k l
theorem EM(s:BY)(R p:Nat)(w:World)(i:zu w R s p)(g:p<=s.size)(j:s.size<=4000)(u:BY)(q:Nat)(h:Rd.uo s.data.toList p = .ok u q) :
  Calls prog 225 #[.pointer (some ⟨R,0,none⟩)] w λe w'=>∃N:Int,e = .returned (.tuple #[.int .i32 N,.nilIface])/\(u=Ref.enc N/\0<=N/\N<=65535/\¬(55296<=N/\N<=57343))/\w.grownBy w' (some R)/\zu w' R s q/\q<=s.size:=by
 refine (lJ s R p w i g j).mono ?_;intro e w' a;rw[h] at a;obtain⟨⟨N,rfl,b⟩,c,d,f⟩:=a;exact⟨N,rfl,b,c,d,f⟩
theorem EK(s:BY)(R p:Nat)(w:World)(j:zu w R s p)(i:p<=s.size)(k:s.size<=4000)(c:Int)(q:Nat)(h:Rd.uo s.data.toList p = .err c q) :
  Calls prog 225 #[.pointer (some ⟨R,0,none⟩)] w λe w'=>∃N:Int,e = .returned (.tuple #[.int .i32 N,.iface 145 (.agg #[.int .i64 (q:Int)])])/\(0<=N/\N<=65535)/\w.grownBy w' (some R)/\zu w' R s q/\q<=s.size:=by
 refine (lJ s R p w j i k).mono ?_;intro e w' a;rw[h] at a;obtain⟨⟨N,rfl,b⟩,d,f,g⟩:=a;exact⟨N,rfl,b,d,f,g⟩
theorem rT(s:BY)(R p:Nat)(w:World)(c:zu w R s p)(a:p<=s.size)(d:s.size<=4000)(b:qx w)(r:Rd.Res BY)(h:Rd.j6 s.data.toList p=r) :
  Calls prog 227 #[.pointer (some ⟨R,0,none⟩)] w λe w'=>QG w R s p r e w':=by
 rw[<- h];exact Pp s R p w c a d b
theorem ax(s:BY)(p q:Nat):s.extract p q=Rd.piece s.data.toList p q:=by
 apply Z4;rw[Jj];unfold Rd.piece;apply Xb.1;rw[U1]
theorem pM(s:BY)(p q:Nat):(Rd.piece s.data.toList p q).size<=q:=by
 unfold Rd.piece
 have:(List.take (q-p) (List.drop p s.data.toList)).length<=q-p:=List.length_take_le _ _
 simp only[ByteArray.size,List.size_toArray];omega
theorem Be(w:World)(x:Value)(t:TypeId)(k:Nat)(a:k=w.heap.size):∀j u,[x][j]?=some u->(w.alloc (.cells #[x] t)).cell? ((⟨k,0,none⟩:Addr).add j)=some u:=by
 subst a;exact JH w x t
theorem Qv(w:World)(a:Addr)(v:Value):(w.setCell a v).heap.size=w.heap.size:=by simp[World.setCell]
theorem Bv(s acc:BY)(R p B:Nat)(v:Value)(w:World)(hr:zu w R s p)(hp:p<=s.size)(hs:s.size<=4000)(hq:qx w)(a6:R≠5)(H:jq w B v acc)(b2:acc.size<=50000)(F:R<B)(a5:B<=w.heap.size) :
  Calls prog 187 #[.pointer (some ⟨R,0,none⟩),v] w λe w'=>Zx w R B s acc (Rd.jU s.data.toList p) e w':=by
 obtain⟨i0,hi,S,T,U⟩:=qP VW;have i:Rd.jU s.data.toList p=Rd.jU s.data.toList p:=rfl
 conv at i=>rhs;unfold Rd.jU
 simp only at i;obtain⟨b,hb⟩:=Nm (Rd.zk s.data.toList p)
 have o:Calls prog 140 #[.pointer (some ⟨R,0,none⟩)] w λe w'=>e = .returned (.int .u8 (b:Int))/\zu w' R s p/\zM B R w w'/\qx w'/\jq w' B v acc/\B<=w'.heap.size:=by
  refine (Y6 s R p w hr hp).mono ?_;rintro e w' ⟨rfl,h1,h2,h3,h4⟩;exact⟨by rw[hb],h1,zM.of h2 a5,hq.grown h2 a6,vL H h2 F,by omega⟩
 rw[hb] at i;have b3:b<256:=by rw[<- hb];exact Rd.ZW _ _
 have I:b≠0->p<s.size:=λh=>by
  have:=Rd.qj s.data.toList p (by rw[hb];exact h)
  rwa [Ref.zA] at this
 have V:=hid I;clear hb I hr H hq
 by_cases c1:b<32
 ·rw[zb c1] at i;have D:=hid i;have d1:decide ((b:Int)<32)=true:=zC (by omega);clear i;go_enter func187,ntmps187
  go_wp2_with (first
   | (go_at_call 140;refine o.mono ?_;rintro e w1 ⟨rfl,a,l,y,g,f⟩)
   | (go_at_call 93;refine (Q9 s R p _ a).mono ?_;rintro e J ⟨rfl,rfl⟩))
  go_ret2;refine Zx.of ?_ D.out;exact⟨⟨v,rfl⟩,l,a,hp⟩
 rw[za c1] at i;have d1:decide ((b:Int)<32)=false:=zO (by omega);have c6:=V.out (by omega)
 by_cases c2:b=92
 ·rw[zb c2] at i;have hc:(b:Int)=92:=by omega
  cases hx:Rd.uo s.data.toList (p+1) with
  | ok u q=>
   rw[hx] at i;have D:=hid i;have L:=hid hx;clear i hx;go_enter func187,ntmps187
   go_wp2_with (first
    | (go_at_call 140;refine o.mono ?_;rintro e w1 ⟨rfl,a,l,y,g,f⟩;have r:=hid a;obtain⟨Y,Z,g3⟩:=a)
    | (go_at_call 225;refine (EM s R (p+1) _ (by have:=r.out.move (p+1);rwa [show ((p+1:Nat):Int)=(p:Int)+1 by omega] at this) (by omega) hs u q L.out).mono ?_;rintro e J ⟨N,rfl,P,j,m,z⟩;have n:=zW (yS w1 R 1 (.int .i64 ((p:Int)+1))) j)
    | (go_at_call 226;refine (gz acc N P.2.1 P.2.2.1 v B R _ (vL g n F) (by omega) (qZ f n.size) F s q m).mono ?_;rintro e K ⟨G,rfl,x,t,A⟩))
   go_ret2;refine Zx.of ?_ D.out;exact⟨⟨G,rfl,by rw[P.1];exact x P.2.2.2⟩,(l.trans (zM.of n f)).trans t,A,z⟩
  | err c q=>
   rw[hx] at i;have D:=hid i;have L:=hid hx;clear i hx;go_enter func187,ntmps187
   go_wp2_with (first
    | (go_at_call 140;refine o.mono ?_;rintro e w1 ⟨rfl,a,l,y,g,f⟩;have r:=hid a;obtain⟨Y,Z,g3⟩:=a)
    | (go_at_call 225;refine (EK s R (p+1) _ (by have:=r.out.move (p+1);rwa [show ((p+1:Nat):Int)=(p:Int)+1 by omega] at this) (by omega) hs c q L.out).mono ?_;rintro e J ⟨N,rfl,P,j,m,z⟩;have n:=zW (yS w1 R 1 (.int .i64 ((p:Int)+1))) j)
    | (go_at_call 226;refine (gz acc N P.1 P.2 v B R _ (vL g n F) (by omega) (qZ f n.size) F s q m).mono ?_;rintro e K ⟨G,rfl,x,t,A⟩))
   go_ret2;refine Zx.of ?_ D.out;exact⟨⟨G,rfl⟩,(l.trans (zM.of n f)).trans t,A,z⟩
 rw[za c2] at i;have d2:((b:Int)==92)=false:=by rw[qI];omega
 by_cases c3:b<128
 ·rw[zb c3] at i;have D:=hid i;have d3:decide ((b:Int)<128)=true:=zC (by omega);clear i;go_enter func187,ntmps187
  go_wp2_with (first
   | (go_at_call 140;refine o.mono ?_;rintro e w1 ⟨rfl,a,l,y,g,f⟩;have r:=hid a;obtain⟨Y,Z,g3⟩:=a;have n:=yS w1 R 1 (.int .i64 ((p:Int)+1));have C:=vL g n F)
   | (at_builtin;refine yK _ rfl _ _ 181 rfl B 5 i0 (.int .u8 0) 1 1 underlying181 hi S T U rfl (by decide) _ _ _ rfl (C.alloc _) ⟨w1.heap.size,0,none⟩ 1 1 [.int .u8 (b:Int)] rfl rfl ?c1 ?c2 ?c3 ?c4 ?c5 ?_))
  case c1=>exact Be _ _ _ _ (Qv _ _ _).symm
  case c2=>intro u hu;simp at hu;subst hu;rfl
  case c3=>unfold maxLen;omega
  case c4=>omega
  case c5=>simp;omega
  intro G K x d _
  go_wp2
  go_ret2;refine Zx.of ?_ D.out;have m:zu (w1.setCell ⟨R,1,none⟩ (.int .i64 ((p:Int)+1))) R s (p+1):=by have:=r.out.move (p+1);rwa [show ((p+1:Nat):Int)=(p:Int)+1 by omega] at this
  have a7:zM B R w (w1.setCell ⟨R,1,none⟩ (.int .i64 ((p:Int)+1))):=l.trans (zM.of n f);have a8:∀O,zM B R w ((w1.setCell ⟨R,1,none⟩ (.int .i64 ((p:Int)+1))).alloc O):=λO=>a7.trans (zM.own (xU _ O none) (λk Q=>by cases Q) (by rw[Qv];exact f));refine⟨⟨G,rfl,?_⟩,(a8 _).trans (zM.own d (λk Q=>(World.ownsRow.lt g k Q).1) (by simp;omega)),(m.alloc _).own (C.alloc _) d F,by omega⟩;unfold jq;rw[Rd.VV]
  have e1:Rd.yw (Ref.one (b:Int))=[.int .u8 (b:Int)]:=by
   unfold Rd.yw Ref.one;simp only[yh,Zc];rw[Rd.byte_of b (by omega) (by omega)]
  rw[e1,show (acc++Ref.one (b:Int)).size=acc.size+1 by rw[zJ];rfl];exact x
 rw[za c3] at i;have d3:decide ((b:Int)<128)=false:=zO (by omega)
 cases hx:Rd.j6 s.data.toList p with
 | ok u q=>
  rw[hx] at i;have D:=hid i;have L:=hid hx;clear i hx;go_enter func187,ntmps187
  go_wp2_with (first
   | (go_at_call 140;refine o.mono ?_;rintro e w1 ⟨rfl,a,l,y,g,f⟩;have r:=hid a;obtain⟨Y,Z,g3⟩:=a)
   | (go_at_call 227;refine (rT s R p w1 r.out hp hs y _ L.out).mono ?_;rintro e J ⟨rfl,hu,j,m,z,a9⟩;have E:=hid m;have C:=vL g j F;obtain⟨f1,f2,f3⟩:=m))
  have W:(p:Int)<=(q:Int):=by omega
  have X:(q:Int)<=(s.size:Int):=by omega
  have b0:(s.extract p q).size<=q:=by rw[ax];exact pM s p q
  have M:B<=J.heap.size:=qZ f j.size
  go_region_law ((refine su (by rfl) _ _ _ _ (by rfl) B 5 i0 underlying181 underlying9 hi S T U v acc.size (Rd.yw acc) (by rfl) C.drew (s.extract p q) (by rfl) (by omega) (by simp;omega) ?_;intro G K x d))
  all_goals
   go_wp2
   go_ret2;refine Zx.of ?_ D.out;have t:zM B R w K:=(l.trans (zM.of j f)).trans (zM.own (B:=B) (R:=R) (w:=J) ⟨d.os,d.tape,d.output,d.size,d.block⟩ (λk Q=>(World.ownsRow.lt g k Q).1) M);have A:zu K R s q:=E.out.same (d.block R E.out.lt (λe=>by have:=(World.ownsRow.lt g R e.symm).1;omega));refine⟨⟨G,rfl,?_⟩,t,A,z⟩;rw[hu,<- ax];unfold jq;rw[Rd.VV,zJ];exact x
 | err c q=>
  rw[hx] at i;have D:=hid i;have L:=hid hx;clear i hx;go_enter func187,ntmps187
  go_wp2_with (first
   | (go_at_call 140;refine o.mono ?_;rintro e w1 ⟨rfl,a,l,y,g,f⟩;have r:=hid a;obtain⟨Y,Z,g3⟩:=a)
   | (go_at_call 227;refine (rT s R p w1 r.out hp hs y _ L.out).mono ?_;rintro e J ⟨rfl,j,m,z,a9⟩;have E:=hid m;have C:=vL g j F;obtain⟨f1,f2,f3⟩:=m))
  have W:(p:Int)<=(q:Int):=by omega
  have X:(q:Int)<=(s.size:Int):=by omega
  have b0:(s.extract p q).size<=q:=by rw[ax];exact pM s p q
  have M:B<=J.heap.size:=qZ f j.size
  go_region_law ((refine su (by rfl) _ _ _ _ (by rfl) B 5 i0 underlying181 underlying9 hi S T U v acc.size (Rd.yw acc) (by rfl) C.drew (s.extract p q) (by rfl) (by omega) (by simp;omega) ?_;intro G K x d))
  all_goals
   go_wp2
   go_ret2;refine Zx.of ?_ D.out;have t:zM B R w K:=(l.trans (zM.of j f)).trans (zM.own (B:=B) (R:=R) (w:=J) ⟨d.os,d.tape,d.output,d.size,d.block⟩ (λk Q=>(World.ownsRow.lt g k Q).1) M);have A:zu K R s q:=E.out.same (d.block R E.out.lt (λe=>by have:=(World.ownsRow.lt g R e.symm).1;omega));exact⟨⟨G,rfl⟩,t,A,z⟩
theorem gP{w:World}{B:Nat}{v:Value}{t:BY}(h:jq w B v t):(convert 181 9 v).run prog w = .ok (.string t) w:=by
 rcases h.2 with ⟨rfl,h0⟩|⟨g,cap,cur,rfl,hB,hg,hrest⟩
 ·have e:t=⟨#[]⟩:=by
   apply Z4
   have:t.data.size=0:=h0
   exact Array.size_eq_zero_iff.1 this
  rw[e];rw[UK w _ _ _ none 0 0 underlying181 underlying5 underlying9]
  rfl
 ·have a:=World.ownsRow.cells h (g:=g) rfl
  have:=run_convert_bytes_back (P:=prog) w 181 9 5 ⟨g,0,none⟩ cap t.data.toList underlying181 underlying5 underlying9 (λj b=>a j _ (by unfold Rd.yw;rw[vz,zn b];rfl))
  rw[Ref.zA] at this;rw[this]
def Xh(w:World)(R:Nat)(s:BY)(r:Rd.Res BY)(e:Ending)(w':World):Prop:=match r with
 | .ok t q=>e = .returned (.tuple #[.string t,.nilIface])/\w.grownBy w' (some R)/\zu w' R s q/\q<=s.size
 | .err _ q=>e = .returned (.tuple #[.string ⟨#[]⟩,.iface 145 (.agg #[.int .i64 (q:Int)])])/\w.grownBy w' (some R)/\zu w' R s q/\q<=s.size
theorem Xh.of{w w':World}{R:Nat}{s:BY}{r a:Rd.Res BY}{e:Ending}(h:Xh w R s r e w')(b:a=r):Xh w R s a e w':=b ▸ h
theorem iw(s acc:BY)(R p B:Nat)(v:Value)(w:World)(j:zu w R s p)(g:p<=s.size)(k:s.size<=4000)(i:qx w)(d:R≠5)(b:jq w B v acc)(a:acc.size<=50000)(f:R<B)(c:B<=w.heap.size)(r:Rd.Res BY)(h:Rd.jU s.data.toList p=r) :
  Calls prog 187 #[.pointer (some ⟨R,0,none⟩),v] w λe w'=>Zx w R B s acc r e w':=by
 rw[<- h];exact Bv s acc R p B v w j g k i d b a f c
theorem XE(s t:BY)(R p:Nat)(w:World)(b:zu w R s p)(a:p<=s.size)(c:s.size<=4000)(d:t.size<=100)(f:∀k,k<t.size->(t.data.toList.getD k 0).toNat≠0)(r:Rd.Res Unit)(h:Rd.qi s.data.toList (t.data.toList.map UInt8.toNat) p=r) :
  Calls prog 144 #[.pointer (some ⟨R,0,none⟩),.string t] w λe w'=>XV w R s r e w':=by
 rw[<- h];exact Sm s t R p w b a c d f
theorem qx.keep{B R:Nat}{w w':World}(h:qx w)(c:zM B R w w')(b:R≠5)(a:5<B):qx w':=h.same (c.block _ a (λe=>b e.symm))
theorem NU(s:BY)(R p:Nat)(w:World)(N:zu w R s p)(hp:p<=s.size)(W:s.size<=4000)(V:qx w)(g:R≠5) :
  Calls prog 143 #[.pointer (some ⟨R,0,none⟩)] w λe w'=>Xh w R s (Rd.yJ s.data.toList p) e w':=by
 have B:Rd.yJ s.data.toList p=Rd.yJ s.data.toList p:=rfl
 conv at B=>rhs;unfold Rd.yJ
 have a0:=V.lt;have l:=N.lt
 by_cases c1:Rd.zk s.data.toList p=34
 ·rw[zb c1] at B
  have j:Rd.qi s.data.toList ((ByteArray.mk #[34]).data.toList.map UInt8.toNat) p = .ok () (p+1):=by
   have:=Rd.pY s.data.toList p
   rw[zb c1] at this;exact this
  have t:=XE s ⟨#[34]⟩ R p w N hp W (by decide) (by decide) _ j
  have y:=t.mono (R':=λe w'=>e = .returned .nilIface/\w.grownBy w' (some R)/\zu w' R s (p+1)/\p+1<=s.size/\qx w') (by
   rintro e w' ⟨rfl,U,K,h3⟩;exact⟨rfl,U,K,h3,V.grown U g⟩)
  have T:=hid B;clear j t B c1 N V;go_enter func143,ntmps143
  go_wp2_with (go_at_call 144;refine y.mono ?_;rintro e w1 ⟨rfl,m,o,C,M⟩)
  have H:=hid m;have J:=hid o;have I:=hid M;clear m o M y
  go_loopw [5] (λv wr=>∃(q f:Nat) (acc:BY),jq wr w.heap.size v acc/\zu wr R s q/\zM w.heap.size R w wr/\qx wr/\q<=s.size/\p+1<=q/\acc.size<=q-(p+1)/\s.size<q+f/\Rd.vZ s.data.toList (p+1)=Rd.qO s.data.toList f q acc) (λ_ wr=>s.size-JD wr R)
  case atStart=>exact⟨p+1,s.data.toList.length+1-(p+1),⟨#[]⟩,qD _ _ _ _,J.out,zM.of H.out (ze _),I.out,C,ze _,zG _,by rw[Ref.zA];omega,rfl⟩
  case round=>
   obtain⟨q,f,acc,x,O,hk,P,F,b5,b3,hf,Q⟩:=hrel;have HO:=hid x;have HR:=hid O;have HK:=hid hk;have HS:=hid P;have A:=hid Q;clear x O hk P Q H J I;obtain⟨f,rfl⟩:∃k,f=k+1:=⟨f-1,by omega⟩;obtain⟨b,hb⟩:=Nm (Rd.zk s.data.toList q);have a5:b<256:=by rw[<- hb];exact Rd.ZW _ _
   have D:=(Y6 s R q _ HR.out F).mono (R':=λe w'=>e = .returned (.int .u8 (b:Int))/\zu w' R s q/\zM w.heap.size R w w'/\qx w'/\jq w' w.heap.size u5 acc) (by
    rintro e w' ⟨rfl,U,K,_,_⟩;exact⟨by rw[hb],U,HK.out.trans (zM.of K HK.out.size),HS.out.grown K g,vL HO.out K l⟩)
   by_cases c34:b=34
   ·have d34:((b:Int) != 34)=false:=by simp;omega
    have G:=hid (A.out.trans (Rd.Rz (by rw[hb];exact c34)))
    have a8:q<s.size:=by
     have:=Rd.qj s.data.toList q (by rw[hb];omega)
     rwa [Ref.zA] at this
    clear hb
    go_wp2_with (go_at_call 140;refine D.mono ?_;rintro e S ⟨rfl,d,a,i,h⟩;have X:=hid d;have b4:=gP (vL h (yS S R 1 (.int .i64 ((q:Int)+1))) l);obtain⟨g1,g2,g3⟩:=d)
    go_ret2;refine Xh.of ?_ (T.out.trans G.out);refine⟨rfl,(a.trans (zM.of (yS _ _ _ _) a.size)).grown (ze _),?_,by omega⟩
    have:=X.out.move (q+1)
    rwa [show ((q+1:Nat):Int)=(q:Int)+1 by omega] at this
   ·have d34:((b:Int) != 34)=true:=by simp;omega
    cases hx:Rd.jU s.data.toList q with
    | ok u q'=>
     have z:=hid (A.out.trans (Rd.RD (by rw[hb];exact c34) hx));have a4:=Rd.il hx;have Y:=hid hx;clear hb hx
     go_wp2_with (first
      | (go_at_call 140;refine D.mono ?_;rintro e S ⟨rfl,d,a,i,h⟩)
      | (go_at_call 187;refine (iw s acc R q w.heap.size u5 S d F W i g h (by omega) l a.size _ Y.out).mono ?_;rintro e w3 ⟨⟨v3,rfl,a1⟩,n,r,E⟩))
     have e1:(acc++u).size=acc.size+u.size:=zJ;have Z:=HR.out.at;have L:=r.at
     go_roundw
     case rel=>exact⟨q',f,acc++u,a1,r,a.trans n,i.keep n g a0,E,by omega,by omega,by omega,z.out⟩
     case measure=>rw[Z,L];omega
    | err c q'=>
     have z:=hid (A.out.trans (Rd.RA (by rw[hb];exact c34) hx));have Y:=hid hx;clear hb hx
     go_wp2_with (first
      | (go_at_call 140;refine D.mono ?_;rintro e S ⟨rfl,d,a,i,h⟩)
      | (go_at_call 187;refine (iw s acc R q w.heap.size u5 S d F W i g h (by omega) l a.size _ Y.out).mono ?_;rintro e w3 ⟨⟨v3,rfl⟩,n,r,E⟩))
     go_ret2;refine Xh.of ?_ (T.out.trans z.out);exact⟨rfl,(a.trans n).grown (ze _),r,E⟩
 ·rw[za c1] at B
  have j:Rd.qi s.data.toList ((ByteArray.mk #[34]).data.toList.map UInt8.toNat) p = .err 2 p:=by
   have:=Rd.pY s.data.toList p
   rw[za c1] at this;exact this
  have t:=XE s ⟨#[34]⟩ R p w N hp W (by decide) (by decide) _ j;have T:=hid B;clear j B c1 N V;go_enter func143,ntmps143
  go_wp2_with (go_at_call 144;refine t.mono ?_;rintro e w1 ⟨rfl,m,o,C⟩)
  go_ret2;refine Xh.of ?_ T.out;exact⟨rfl,m,o,C⟩
end Go.Proofs.YtagnlbgbnfnapaaGreatDoor
