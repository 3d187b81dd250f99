/- P -/
import Derived.Test.YtagnlbgbnfnapaaGreatDoorZ07
open Go.Proofs.Tryz
set_option maxRecDepth 100000
set_option maxHeartbeats 2000000
namespace Go.Proofs.YtagnlbgbnfnapaaGreatDoor
open Go.Shelf
def Tryz.lays242_ren:Go.Shelf.Ren:=⟨λ|242=>226|278=>248|n=>n,λ|37=>181|21=>21|51=>398|4=>4|5=>5|46=>266|n=>n,λ|n=>n⟩
theorem Tryz.lays242:Go.Proofs.Lays.n242 prog Tryz.lays242_ren:={
 mixed:=by kernel_rfl
 f242:=func226.trans (congrArg some (by kernel_rfl))
 f278:=func248.trans (congrArg some (by kernel_rfl))
 t4:=underlying4
 a4:=Tryz.isAgg4
 z4:=Tryz.sizeOf4
 v4:=Tryz.zeroValue4
 t5:=underlying5
 a5:=Tryz.isAgg5
 z5:=Tryz.sizeOf5
 v5:=Tryz.zeroValue5
 t21:=underlying21
 a21:=Tryz.isAgg21
 z21:=Tryz.sizeOf21
 v21:=Tryz.zeroValue21
 t37:=underlying181
 a37:=Tryz.isAgg181
 z37:=Tryz.sizeOf181
 v37:=Tryz.zeroValue181
 t46:=underlying266
 a46:=Tryz.isAgg266
 z46:=Tryz.sizeOf266
 v46:=Tryz.zeroValue266
 t51:=underlying398
 a51:=Tryz.isAgg398
 z51:=Tryz.sizeOf398
 v51:=Tryz.zeroValue398 }
end Go.Proofs.YtagnlbgbnfnapaaGreatDoor
namespace Go.Proofs.YtagnlbgbnfnapaaGreatDoor
open Go.RowKit
structure zS (B R:Nat) (w w':World):Prop where
 os:w'.os=w.os
 tape:w'.tape=w.tape
 output:w'.output=w.output
 size:w.heap.size<=w'.heap.size
 block:∀k,k<B->k≠R->w'.heap[k]?=w.heap[k]?
theorem zS.trans{B R:Nat}{a b c:World}(h:zS B R a b)(k:zS B R b c):zS B R a c:=
 ⟨k.os.trans h.os,k.tape.trans h.tape,k.output.trans h.output,jy h.size k.size,λi d e=>(k.block i d e).trans (h.block i d e)⟩
theorem zS.of{B R:Nat}{w b:World}(a:w.grownBy b (some R))(e:B<=w.heap.size):zS B R w b:=
 ⟨a.os,a.tape,a.output,a.size,λk d c=>a.block k (by omega) (by simp;exact c)⟩
theorem zS.own{B R:Nat}{w b:World}{row:Option Nat}(a:w.grownBy b row)(c:∀k,row=some k->B<=k)(f:B<=w.heap.size):zS B R w b:=
 ⟨a.os,a.tape,a.output,a.size,λk d _=>a.block k (by omega) (λe=>by have:=c k e.symm;omega)⟩
theorem zS.grown{B R:Nat}{w a:World}(h:zS B R w a)(d:w.heap.size<=B):w.grownBy a (some R):=
 ⟨h.os,h.tape,h.output,h.size,λk c b=>h.block k (by omega) (λe=>b (by rw[e]))⟩
theorem ug{w b:World}{B R n:Nat}{e:TypeId}{v:Value}{xs:List Value}{a:Nat}(h:w.ownsRow B e a v n xs)(c:w.grownBy b (some R))(d:R<B):b.ownsRow B e a v n xs:=
 h.kept c (.inr (λe=>by have:=(h.lt R e).1;omega))
theorem zz.own{w a:World}{R:Nat}{s:BA}{p B n:Nat}{e:TypeId}{v:Value}{xs:List Value}{d:Nat}(h:zz w R s p)(c:w.ownsRow B e d v n xs)(b:w.grownBy a v.ownBlock)(f:R<B):zz a R s p:=
 h.same (b.block R h.lt (λe=>by have:=(c.lt R e.symm).1;omega))
def ZN(w:World)(B:Nat)(v:Value)(t:BA):Prop:=w.ownsRow B 5 1 v t.size (Rd.ko t)
theorem nC:(prog.info? 5).map (λi=>(i.zero,i.size,i.bytes))=some (some (.int .u8 0),1,1):=by kernel_rfl
theorem mF(acc:BA)(N:Int)(m:0<=N)(n:N<=65535)(v:Value)(B R:Nat)(w:World)(a:ZN w B v acc)(hlen:acc.size<=100000)(b:B<=w.heap.size)(r:R<B)(s:BA)(q:Nat)(l:zz w R s q) :
  Calls prog 226 #[v,.int .i32 N] w λe g=>∃f,e = .returned f/\(¬(55296<=N/\N<=57343)->ZN g B f (acc++Ref.enc N))/\zS B R w g/\zz g R s q:=by
 refine (Go.Proofs.Any.utf8_AppendRune_plain Tryz.lays242 nC B v acc.size (Rd.ko acc) N (by omega) (by omega) w a (by omega) b).mono ?_;rintro e g ⟨f,rfl,j,o,i⟩;have c:∀k,v.ownBlock=some k->B<=k:=λk h=>(World.ownsRow.lt a k h).1;have d:zS B R w (w.alloc o):=zS.own (yD w o none) (λk h=>by cases h) b;refine⟨f,rfl,λp=>?_,d.trans (zS.own i c (jy b d.size)),?_⟩
 ·rw[Rd.SS N m n p,Rd.EF,<- Rd.aU] at j;unfold ZN;rw[show (acc++Ref.enc N).size=acc.size+(Ref.enc N).size by simp];exact j
 ·exact (l.alloc o).same (i.block R (l.alloc o).lt (λe=>by have:=c R e.symm;omega))
def Qi(w:World)(R B:Nat)(s acc:BA)(r:Rd.Res BA)(e:Ending)(a:World):Prop:=match r with
 | .ok u q=>(∃b,e = .returned (.tuple #[b,.nilIface])/\ZN a B b (acc++u))/\zS B R w a/\zz a R s q/\q<=s.size
 | .err _ q=>(∃b,e = .returned (.tuple #[b,.iface 145 (.agg #[.int .i64 (q:Int)])]))/\zS B R w a/\zz a R s q/\q<=s.size
theorem Qi.of{w b:World}{R B:Nat}{s acc:BA}{r a:Rd.Res BA}{e:Ending}(h:Qi w R B s acc r e b)(c:a=r):Qi w R B s acc a e b:=c ▸ h
theorem BF{P:Program}{ops:Array Oper}{o:Oper}{a:Act}{w:World}{K:Act->World->Prop}{Q:Exit->Act->World->Prop}{E:Prop}
  (q:o.guard=none)(k x:Operand)(t u:TypeId)(j:o.op=Op.call { callee:=Callee.builtin Builtin.append,args:=#[k,x],argTypes:=#[t,u] })
  (base:Nat)(e:TypeId)(i:TypeInfo)(y:P.underlying t=some (.slice e))(z:P.underlying u=some .string)(hi:P.info? e=some i)(C:i.zero=some (.int .u8 0))(c:i.size=1)(h:i.bytes=1)
  (v:Value)(n:Nat)(xs:List Value)(s:a.eval k=v)(d:w.ownsRow base e 1 v n xs)(str:BA)(B:a.eval x = .string str)
  (hlen:n+str.size<=140737488355328)(b:base<=w.heap.size)
  (p:∀g f,f.ownsRow base e 1 g (n+str.size) (xs++Lib.strCells str)->w.grownBy f v.ownBlock->K (a.put o.dst g) f) :
  if Region.wanted o (yielded ops a.tmps)=true then Oper.wp P o a w K Q else E:=by
 have A:Region.wanted o (yielded ops a.tmps)=true:=by simp[Region.wanted,q]
 rw[zb A];obtain⟨g,f,r,l,m,_⟩:=Lib.run_append_own_string (P:=P) w base t u o.type e i y z hi C c h v n xs d str (by unfold maxLen;omega) hlen b;unfold Oper.wp;simp[execOp,j,resolve,invoke,builtin,s,B,r,Result.andThen];exact p g f l m
theorem Iw(s:BA)(R p:Nat)(w:World)(j:zz w R s p)(i:p<=s.size)(k:s.size<=4000)(u:BA)(q:Nat)(h:Rd.vG s.data.toList p = .ok u q) :
  Calls prog 225 #[.pointer (some ⟨R,0,none⟩)] w λe a=>∃N:Int,e = .returned (.tuple #[.int .i32 N,.nilIface])/\(u=Ref.enc N/\0<=N/\N<=65535/\¬(55296<=N/\N<=57343))/\w.grownBy a (some R)/\zz a R s q/\q<=s.size:=by
 refine (oZ s R p w j i k).mono ?_;intro e a b;rw[h] at b;obtain⟨⟨N,rfl,c⟩,d,f,g⟩:=b;exact⟨N,rfl,c,d,f,g⟩
theorem Iu(s:BA)(R p:Nat)(w:World)(k:zz w R s p)(j:p<=s.size)(l:s.size<=4000)(c:Int)(q:Nat)(h:Rd.vG s.data.toList p = .err c q) :
  Calls prog 225 #[.pointer (some ⟨R,0,none⟩)] w λe a=>∃N:Int,e = .returned (.tuple #[.int .i32 N,.iface 145 (.agg #[.int .i64 (q:Int)])])/\(0<=N/\N<=65535)/\w.grownBy a (some R)/\zz a R s q/\q<=s.size:=by
 refine (oZ s R p w k j l).mono ?_;intro e a b;rw[h] at b;obtain⟨⟨N,rfl,d⟩,f,g,i⟩:=b;exact⟨N,rfl,d,f,g,i⟩
theorem Bp(s:BA)(R p:Nat)(w:World)(c:zz w R s p)(a:p<=s.size)(d:s.size<=4000)(b:qG w)(r:Rd.Res BA)(h:Rd.jY s.data.toList p=r) :
  Calls prog 227 #[.pointer (some ⟨R,0,none⟩)] w λe f=>XC w R s p r e f:=by
 rw[<- h];exact TJ s R p w c a d b
theorem cu(s:BA)(p q:Nat):s.extract p q=Rd.piece s.data.toList p q:=by
 apply uS;rw[Jn];unfold Rd.piece;apply Jm.1;rw[Uu]
theorem Al(s:BA)(p q:Nat):(Rd.piece s.data.toList p q).size<=q:=by
 unfold Rd.piece
 have:(List.take (q-p) (List.drop p s.data.toList)).length<=q-p:=List.length_take_le _ _
 simp only[ByteArray.size,List.size_toArray];omega
theorem EJ(w:World)(x:Value)(t:TypeId)(k:Nat)(a:k=w.heap.size):∀j u,[x][j]?=some u->(w.alloc (.cells #[x] t)).cell? ((⟨k,0,none⟩:Addr).add j)=some u:=by
 subst a;exact cell_one_new w x t
theorem Xh(w:World)(a:Addr)(v:Value):(w.setCell a v).heap.size=w.heap.size:=by simp[World.setCell]
theorem EZ(s acc:BA)(R p B:Nat)(v:Value)(w:World)(hr:zz w R s p)(hp:p<=s.size)(hs:s.size<=4000)(hq:qG w)(a8:R≠5)(I:ZN w B v acc)(b4:acc.size<=50000)(G:R<B)(a7:B<=w.heap.size) :
  Calls prog 187 #[.pointer (some ⟨R,0,none⟩),v] w λe K=>Qi w R B s acc (Rd.yE s.data.toList p) e K:=by
 obtain⟨i0,hi,U,V,W⟩:=jl nC;have i:Rd.yE s.data.toList p=Rd.yE s.data.toList p:=rfl
 conv at i=>rhs;unfold Rd.yE
 simp only at i;obtain⟨b,hb⟩:=Nm (Rd.zk s.data.toList p)
 have o:Calls prog 140 #[.pointer (some ⟨R,0,none⟩)] w λe K=>e = .returned (.int .u8 (b:Int))/\zz K R s p/\zS B R w K/\qG K/\ZN K B v acc/\B<=K.heap.size:=by
  refine (Vi s R p w hr hp).mono ?_;rintro e K ⟨rfl,h1,h2,h3,h4⟩;exact⟨by rw[hb],h1,zS.of h2 a7,hq.grown h2 a8,ug I h2 G,by omega⟩
 rw[hb] at i;have b5:b<256:=by rw[<- hb];exact Rd.QI _ _
 have J:b≠0->p<s.size:=λh=>by
  have:=Rd.qC s.data.toList p (by rw[hb];exact h)
  rwa [Ref.zP] at this
 have X:=hid J;clear hb J hr I hq
 by_cases c1:b<32
 ·rw[zb c1] at i;have E:=hid i;have d1:decide ((b:Int)<32)=true:=zF (by omega);clear i;go_enter func187,ntmps187
  go_wp2_with (first
   | (go_at_call 140;refine o.mono ?_;rintro e C ⟨rfl,a,l,y,g,f⟩)
   | (go_at_call 93;refine (X5 s R p _ a).mono ?_;rintro e L ⟨rfl,rfl⟩))
  go_ret2;refine Qi.of ?_ E.out;exact⟨⟨v,rfl⟩,l,a,hp⟩
 rw[za c1] at i;have d1:decide ((b:Int)<32)=false:=zH (by omega);have c8:=X.out (by omega)
 by_cases c2:b=92
 ·rw[zb c2] at i;have hc:(b:Int)=92:=by omega
  cases hx:Rd.vG s.data.toList (p+1) with
  | ok u q=>
   rw[hx] at i;have E:=hid i;have P:=hid hx;clear i hx;go_enter func187,ntmps187
   go_wp2_with (first
    | (go_at_call 140;refine o.mono ?_;rintro e C ⟨rfl,a,l,y,g,f⟩;have r:=hid a;obtain⟨g1,g2,g3⟩:=a)
    | (go_at_call 225;refine (Iw s R (p+1) _ (by have:=r.out.move (p+1);rwa [show ((p+1:Nat):Int)=(p:Int)+1 by omega] at this) (by omega) hs u q P.out).mono ?_;rintro e L ⟨N,rfl,S,j,m,z⟩;have n:=qc (y9 C R 1 (.int .i64 ((p:Int)+1))) j)
    | (go_at_call 226;refine (mF acc N S.2.1 S.2.2.1 v B R _ (ug g n G) (by omega) (jy f n.size) G s q m).mono ?_;rintro e M ⟨H,rfl,x,t,A⟩))
   go_ret2;refine Qi.of ?_ E.out;exact⟨⟨H,rfl,by rw[S.1];exact x S.2.2.2⟩,(l.trans (zS.of n f)).trans t,A,z⟩
  | err c q=>
   rw[hx] at i;have E:=hid i;have P:=hid hx;clear i hx;go_enter func187,ntmps187
   go_wp2_with (first
    | (go_at_call 140;refine o.mono ?_;rintro e C ⟨rfl,a,l,y,g,f⟩;have r:=hid a;obtain⟨g1,g2,g3⟩:=a)
    | (go_at_call 225;refine (Iu s R (p+1) _ (by have:=r.out.move (p+1);rwa [show ((p+1:Nat):Int)=(p:Int)+1 by omega] at this) (by omega) hs c q P.out).mono ?_;rintro e L ⟨N,rfl,S,j,m,z⟩;have n:=qc (y9 C R 1 (.int .i64 ((p:Int)+1))) j)
    | (go_at_call 226;refine (mF acc N S.1 S.2 v B R _ (ug g n G) (by omega) (jy f n.size) G s q m).mono ?_;rintro e M ⟨H,rfl,x,t,A⟩))
   go_ret2;refine Qi.of ?_ E.out;exact⟨⟨H,rfl⟩,(l.trans (zS.of n f)).trans t,A,z⟩
 rw[za c2] at i;have d2:((b:Int)==92)=false:=by rw[xh];omega
 by_cases c3:b<128
 ·rw[zb c3] at i;have E:=hid i;have d3:decide ((b:Int)<128)=true:=zF (by omega);clear i;go_enter func187,ntmps187
  go_wp2_with (first
   | (go_at_call 140;refine o.mono ?_;rintro e C ⟨rfl,a,l,y,g,f⟩;have r:=hid a;obtain⟨g1,g2,g3⟩:=a;have n:=y9 C R 1 (.int .i64 ((p:Int)+1));have D:=ug g n G)
   | (at_builtin;refine YF _ rfl _ _ 181 rfl B 5 i0 (.int .u8 0) 1 1 underlying181 hi U V W rfl (by decide) _ _ _ rfl (D.alloc _) ⟨C.heap.size,0,none⟩ 1 1 [.int .u8 (b:Int)] rfl rfl ?c1 ?c2 ?c3 ?c4 ?c5 ?_))
  case c1=>exact EJ _ _ _ _ (Xh _ _ _).symm
  case c2=>intro u hu;simp at hu;subst hu;rfl
  case c3=>unfold maxLen;omega
  case c4=>omega
  case c5=>simp;omega
  intro H M x d _
  go_wp2
  go_ret2;refine Qi.of ?_ E.out;have m:zz (C.setCell ⟨R,1,none⟩ (.int .i64 ((p:Int)+1))) R s (p+1):=by have:=r.out.move (p+1);rwa [show ((p+1:Nat):Int)=(p:Int)+1 by omega] at this
  have a9:zS B R w (C.setCell ⟨R,1,none⟩ (.int .i64 ((p:Int)+1))):=l.trans (zS.of n f);have b0:∀O,zS B R w ((C.setCell ⟨R,1,none⟩ (.int .i64 ((p:Int)+1))).alloc O):=λO=>a9.trans (zS.own (yD _ O none) (λk T=>by cases T) (by rw[Xh];exact f));refine⟨⟨H,rfl,?_⟩,(b0 _).trans (zS.own d (λk T=>(World.ownsRow.lt g k T).1) (by simp;omega)),(m.alloc _).own (D.alloc _) d G,by omega⟩;unfold ZN;rw[Rd.aU]
  have e1:Rd.ko (Ref.one (b:Int))=[.int .u8 (b:Int)]:=by
   unfold Rd.ko Ref.one;simp only[vw,Zv];rw[Rd.byte_of b (by omega) (by omega)]
  rw[e1,show (acc++Ref.one (b:Int)).size=acc.size+1 by rw[qD];rfl];exact x
 rw[za c3] at i;have d3:decide ((b:Int)<128)=false:=zH (by omega)
 cases hx:Rd.jY s.data.toList p with
 | ok u q=>
  rw[hx] at i;have E:=hid i;have P:=hid hx;clear i hx;go_enter func187,ntmps187
  go_wp2_with (first
   | (go_at_call 140;refine o.mono ?_;rintro e C ⟨rfl,a,l,y,g,f⟩;have r:=hid a;obtain⟨g1,g2,g3⟩:=a)
   | (go_at_call 227;refine (Bp s R p C r.out hp hs y _ P.out).mono ?_;rintro e L ⟨rfl,hu,j,m,z,b1⟩;have F:=hid m;have D:=ug g j G;obtain⟨f1,f2,f3⟩:=m))
  have Y:(p:Int)<=(q:Int):=by omega
  have Z:(q:Int)<=(s.size:Int):=by omega
  have b2:(s.extract p q).size<=q:=by rw[cu];exact Al s p q
  have Q:B<=L.heap.size:=jy f j.size
  go_region_law ((refine BF (by rfl) _ _ _ _ (by rfl) B 5 i0 underlying181 underlying9 hi U V W v acc.size (Rd.ko acc) (by rfl) D.drew (s.extract p q) (by rfl) (by omega) (by simp;omega) ?_;intro H M x d))
  all_goals
   go_wp2
   go_ret2;refine Qi.of ?_ E.out;have t:zS B R w M:=(l.trans (zS.of j f)).trans (zS.own (B:=B) (R:=R) (w:=L) ⟨d.os,d.tape,d.output,d.size,d.block⟩ (λk T=>(World.ownsRow.lt g k T).1) Q);have A:zz M R s q:=F.out.same (d.block R F.out.lt (λe=>by have:=(World.ownsRow.lt g R e.symm).1;omega));refine⟨⟨H,rfl,?_⟩,t,A,z⟩;rw[hu,<- cu];unfold ZN;rw[Rd.aU,qD];exact x
 | err c q=>
  rw[hx] at i;have E:=hid i;have P:=hid hx;clear i hx;go_enter func187,ntmps187
  go_wp2_with (first
   | (go_at_call 140;refine o.mono ?_;rintro e C ⟨rfl,a,l,y,g,f⟩;have r:=hid a;obtain⟨g1,g2,g3⟩:=a)
   | (go_at_call 227;refine (Bp s R p C r.out hp hs y _ P.out).mono ?_;rintro e L ⟨rfl,j,m,z,b1⟩;have F:=hid m;have D:=ug g j G;obtain⟨f1,f2,f3⟩:=m))
  have Y:(p:Int)<=(q:Int):=by omega
  have Z:(q:Int)<=(s.size:Int):=by omega
  have b2:(s.extract p q).size<=q:=by rw[cu];exact Al s p q
  have Q:B<=L.heap.size:=jy f j.size
  go_region_law ((refine BF (by rfl) _ _ _ _ (by rfl) B 5 i0 underlying181 underlying9 hi U V W v acc.size (Rd.ko acc) (by rfl) D.drew (s.extract p q) (by rfl) (by omega) (by simp;omega) ?_;intro H M x d))
  all_goals
   go_wp2
   go_ret2;refine Qi.of ?_ E.out;have t:zS B R w M:=(l.trans (zS.of j f)).trans (zS.own (B:=B) (R:=R) (w:=L) ⟨d.os,d.tape,d.output,d.size,d.block⟩ (λk T=>(World.ownsRow.lt g k T).1) Q);have A:zz M R s q:=F.out.same (d.block R F.out.lt (λe=>by have:=(World.ownsRow.lt g R e.symm).1;omega));exact⟨⟨H,rfl⟩,t,A,z⟩
theorem EE{w:World}{B:Nat}{v:Value}{t:BA}(h:ZN w B v t):(convert 181 9 v).run prog w = .ok (.string t) w:=by
 rcases h.2 with ⟨rfl,h0⟩|⟨g,cap,cur,rfl,hB,hg,hrest⟩
 ·have e:t=⟨#[]⟩:=by
   apply uS
   have:t.data.size=0:=h0
   exact Array.size_eq_zero_iff.1 this
  rw[e];rw[run_convert_bytes_string w _ _ _ none 0 0 underlying181 underlying5 underlying9]
  rfl
 ·have a:=World.ownsRow.cells h (g:=g) rfl
  have:=run_convert_bytes_back (P:=prog) w 181 9 5 ⟨g,0,none⟩ cap t.data.toList underlying181 underlying5 underlying9 (λj b=>a j _ (by unfold Rd.ko;rw[vv,zt b];rfl))
  rw[Ref.zP] at this;rw[this]
def Yb(w:World)(R:Nat)(s:BA)(r:Rd.Res BA)(e:Ending)(a:World):Prop:=match r with
 | .ok t q=>e = .returned (.tuple #[.string t,.nilIface])/\w.grownBy a (some R)/\zz a R s q/\q<=s.size
 | .err _ q=>e = .returned (.tuple #[.string ⟨#[]⟩,.iface 145 (.agg #[.int .i64 (q:Int)])])/\w.grownBy a (some R)/\zz a R s q/\q<=s.size
theorem Yb.of{w b:World}{R:Nat}{s:BA}{r a:Rd.Res BA}{e:Ending}(h:Yb w R s r e b)(c:a=r):Yb w R s a e b:=c ▸ h
theorem nN(s acc:BA)(R p B:Nat)(v:Value)(w:World)(j:zz w R s p)(g:p<=s.size)(k:s.size<=4000)(i:qG w)(d:R≠5)(b:ZN w B v acc)(a:acc.size<=50000)(f:R<B)(c:B<=w.heap.size)(r:Rd.Res BA)(h:Rd.yE s.data.toList p=r) :
  Calls prog 187 #[.pointer (some ⟨R,0,none⟩),v] w λe l=>Qi w R B s acc r e l:=by
 rw[<- h];exact EZ s acc R p B v w j g k i d b a f c
theorem YB(s t:BA)(R p:Nat)(w:World)(b:zz w R s p)(a:p<=s.size)(c:s.size<=4000)(d:t.size<=100)(f:∀k,k<t.size->(t.data.toList.getD k 0).toNat≠0)(r:Rd.Res Unit)(h:Rd.qj s.data.toList (t.data.toList.map UInt8.toNat) p=r) :
  Calls prog 144 #[.pointer (some ⟨R,0,none⟩),.string t] w λe g=>YU w R s r e g:=by
 rw[<- h];exact zax s t R p w b a c d f
theorem qG.keep{B R:Nat}{w a:World}(h:qG w)(d:zS B R w a)(c:R≠5)(b:5<B):qG a:=h.same (d.block _ b (λe=>c e.symm))
theorem RG(s:BA)(R p:Nat)(w:World)(O:zz w R s p)(hp:p<=s.size)(X:s.size<=4000)(W:qG w)(h:R≠5) :
  Calls prog 143 #[.pointer (some ⟨R,0,none⟩)] w λe g=>Yb w R s (Rd.yR s.data.toList p) e g:=by
 have C:Rd.yR s.data.toList p=Rd.yR s.data.toList p:=rfl
 conv at C=>rhs;unfold Rd.yR
 have a1:=W.lt;have m:=O.lt
 by_cases c1:Rd.zk s.data.toList p=34
 ·rw[zb c1] at C
  have l:Rd.qj s.data.toList ((ByteArray.mk #[34]).data.toList.map UInt8.toNat) p = .ok () (p+1):=by
   have:=Rd.Az s.data.toList p
   rw[zb c1] at this;exact this
  have x:=YB s ⟨#[34]⟩ R p w O hp X (by decide) (by decide) _ l
  have z:=x.mono (R':=λe g=>e = .returned .nilIface/\w.grownBy g (some R)/\zz g R s (p+1)/\p+1<=s.size/\qG g) (by
   rintro e g ⟨rfl,V,L,h3⟩;exact⟨rfl,V,L,h3,W.grown V h⟩)
  have U:=hid C;clear l x C c1 O W;go_enter func143,ntmps143
  go_wp2_with (go_at_call 144;refine z.mono ?_;rintro e w1 ⟨rfl,n,r,D,N⟩)
  have I:=hid n;have K:=hid r;have J:=hid N;clear n r N z
  go_loopw [5] (λv wr=>∃(q f:Nat) (acc:BA),ZN wr w.heap.size v acc/\zz wr R s q/\zS w.heap.size R w wr/\qG wr/\q<=s.size/\p+1<=q/\acc.size<=q-(p+1)/\s.size<q+f/\Rd.vM s.data.toList (p+1)=Rd.qV s.data.toList f q acc) (λ_ wr=>s.size-VK wr R)
  case atStart=>exact⟨p+1,s.data.toList.length+1-(p+1),⟨#[]⟩,jR _ _ _ _,K.out,zS.of I.out (ze _),J.out,D,ze _,zU _,by rw[Ref.zP];omega,rfl⟩
  case round=>
   obtain⟨q,f,acc,y,P,hk,Q,G,b6,b4,hf,S⟩:=hrel;have HO:=hid y;have HR:=hid P;have HK:=hid hk;have HS:=hid Q;have B:=hid S;clear y P hk Q S I K J;obtain⟨f,rfl⟩:∃k,f=k+1:=⟨f-1,by omega⟩;obtain⟨b,hb⟩:=Nm (Rd.zk s.data.toList q);have a6:b<256:=by rw[<- hb];exact Rd.QI _ _
   have E:=(Vi s R q _ HR.out G).mono (R':=λe g=>e = .returned (.int .u8 (b:Int))/\zz g R s q/\zS w.heap.size R w g/\qG g/\ZN g w.heap.size u5 acc) (by
    rintro e g ⟨rfl,V,L,_,_⟩;exact⟨by rw[hb],V,HK.out.trans (zS.of L HK.out.size),HS.out.grown L h,ug HO.out L m⟩)
   by_cases c34:b=34
   ·have d34:((b:Int) != 34)=false:=by simp;omega
    have H:=hid (B.out.trans (Rd.WW (by rw[hb];exact c34)))
    have a9:q<s.size:=by
     have:=Rd.qC s.data.toList q (by rw[hb];omega)
     rwa [Ref.zP] at this
    clear hb
    go_wp2_with (go_at_call 140;refine E.mono ?_;rintro e T ⟨rfl,d,a,j,i⟩;have Y:=hid d;have b5:=EE (ug i (y9 T R 1 (.int .i64 ((q:Int)+1))) m);obtain⟨g1,g2,g3⟩:=d)
    go_ret2;refine Yb.of ?_ (U.out.trans H.out);refine⟨rfl,(a.trans (zS.of (y9 _ _ _ _) a.size)).grown (ze _),?_,by omega⟩
    have:=Y.out.move (q+1)
    rwa [show ((q+1:Nat):Int)=(q:Int)+1 by omega] at this
   ·have d34:((b:Int) != 34)=true:=by simp;omega
    cases hx:Rd.yE s.data.toList q with
    | ok u q'=>
     have A:=hid (B.out.trans (Rd.WZ (by rw[hb];exact c34) hx));have a5:=Rd.nM hx;have Z:=hid hx;clear hb hx
     go_wp2_with (first
      | (go_at_call 140;refine E.mono ?_;rintro e T ⟨rfl,d,a,j,i⟩)
      | (go_at_call 187;refine (nN s acc R q w.heap.size u5 T d G X j h i (by omega) m a.size _ Z.out).mono ?_;rintro e w3 ⟨⟨v3,rfl,a2⟩,o,t,F⟩))
     have e1:(acc++u).size=acc.size+u.size:=qD;have a0:=HR.out.at;have M:=t.at
     go_roundw
     case rel=>exact⟨q',f,acc++u,a2,t,a.trans o,j.keep o h a1,F,by omega,by omega,by omega,A.out⟩
     case measure=>rw[a0,M];omega
    | err c q'=>
     have A:=hid (B.out.trans (Rd.WX (by rw[hb];exact c34) hx));have Z:=hid hx;clear hb hx
     go_wp2_with (first
      | (go_at_call 140;refine E.mono ?_;rintro e T ⟨rfl,d,a,j,i⟩)
      | (go_at_call 187;refine (nN s acc R q w.heap.size u5 T d G X j h i (by omega) m a.size _ Z.out).mono ?_;rintro e w3 ⟨⟨v3,rfl⟩,o,t,F⟩))
     go_ret2;refine Yb.of ?_ (U.out.trans A.out);exact⟨rfl,(a.trans o).grown (ze _),t,F⟩
 ·rw[za c1] at C
  have l:Rd.qj s.data.toList ((ByteArray.mk #[34]).data.toList.map UInt8.toNat) p = .err 2 p:=by
   have:=Rd.Az s.data.toList p
   rw[za c1] at this;exact this
  have x:=YB s ⟨#[34]⟩ R p w O hp X (by decide) (by decide) _ l;have U:=hid C;clear l C c1 O W;go_enter func143,ntmps143
  go_wp2_with (go_at_call 144;refine x.mono ?_;rintro e w1 ⟨rfl,n,r,D⟩)
  go_ret2;refine Yb.of ?_ U.out;exact⟨rfl,n,r,D⟩
end Go.Proofs.YtagnlbgbnfnapaaGreatDoor
