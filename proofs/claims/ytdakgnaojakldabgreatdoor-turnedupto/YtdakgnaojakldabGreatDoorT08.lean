/- P -/
import Derived.Shelf.Utf8.AppendRunePlain
import Derived.Test.YtdakgnaojakldabGreatDoorT07
import Derived.Lib.AppendStr
import Derived.Deep.RegionLaw
import Derived.OwnWalk
import Derived.Maps.AppendAt
import Derived.Laws.IdiomStrings
open Go.Proofs.Tryz
set_option maxRecDepth 100000
set_option maxHeartbeats 2000000
namespace Go.Proofs.YtdakgnaojakldabGreatDoor
open Go.Shelf
def Tryz.lays242_ren:Go.Shelf.Ren:=⟨λ|242=>123|278=>134|n=>n,λ|37=>130|21=>21|51=>266|4=>4|5=>5|46=>180|n=>n,λ|n=>n⟩
theorem Tryz.lays242:Go.Proofs.Lays.n242 prog Tryz.lays242_ren:={
 mixed:=by kernel_rfl
 f242:=func123.trans (congrArg some (by kernel_rfl))
 f278:=func134.trans (congrArg some (by kernel_rfl))
 t4:=underlying4
 a4:=Tryz.isAgg4
 z4:=Tryz.sizeOf4
 v4:=Tryz.zeroValue4
 t5:=underlying5
 a5:=Tryz.isAgg5
 z5:=Tryz.sizeOf5
 v5:=Tryz.zeroValue5
 t21:=underlying21
 a21:=Tryz.isAgg21
 z21:=Tryz.sizeOf21
 v21:=Tryz.zeroValue21
 t37:=underlying130
 a37:=Tryz.isAgg130
 z37:=Tryz.sizeOf130
 v37:=Tryz.zeroValue130
 t46:=underlying180
 a46:=Tryz.isAgg180
 z46:=Tryz.sizeOf180
 v46:=Tryz.zeroValue180
 t51:=underlying266
 a51:=Tryz.isAgg266
 z51:=Tryz.sizeOf266
 v51:=Tryz.zeroValue266 }
end Go.Proofs.YtdakgnaojakldabGreatDoor
namespace Go.Proofs.YtdakgnaojakldabGreatDoor
open Go.RowKit
structure zC (B R:Nat) (w w':World):Prop where
 os:w'.os=w.os
 tape:w'.tape=w.tape
 output:w'.output=w.output
 size:w.heap.size<=w'.heap.size
 block:∀k,k<B->k≠R->w'.heap[k]?=w.heap[k]?
theorem zC.refl(B R:Nat)(w:World):zC B R w w:=⟨rfl,rfl,rfl,Nat.le_refl _,λ_ _ _=>rfl⟩
theorem zC.trans{B R:Nat}{a b c:World}(h:zC B R a b)(k:zC B R b c):zC B R a c:=
 ⟨k.os.trans h.os,k.tape.trans h.tape,k.output.trans h.output,Nat.le_trans h.size k.size,λi d e=>(k.block i d e).trans (h.block i d e)⟩
theorem zC.of{B R:Nat}{w b:World}(a:w.grownBy b (some R))(e:B<=w.heap.size):zC B R w b:=
 ⟨a.os,a.tape,a.output,a.size,λk d c=>a.block k (by omega) (by simp;exact c)⟩
theorem zC.own{B R:Nat}{w b:World}{row:Option Nat}(a:w.grownBy b row)(c:∀k,row=some k->B<=k)(f:B<=w.heap.size):zC B R w b:=
 ⟨a.os,a.tape,a.output,a.size,λk d _=>a.block k (by omega) (λe=>by have:=c k e.symm;omega)⟩
theorem zC.grown{B R:Nat}{w a:World}(h:zC B R w a)(d:w.heap.size<=B):w.grownBy a (some R):=
 ⟨h.os,h.tape,h.output,h.size,λk c b=>h.block k (by omega) (λe=>b (by rw[e]))⟩
theorem jm{w b:World}{B R n:Nat}{e:TypeId}{v:Value}{xs:List Value}{a:Nat}(h:w.ownsRow B e a v n xs)(c:w.grownBy b (some R))(d:R<B):b.ownsRow B e a v n xs:=
 h.kept c (.inr (λe=>by have:=(h.lt R e).1;omega))
theorem zi.own{w a:World}{R:Nat}{s:BA}{p B n:Nat}{e:TypeId}{v:Value}{xs:List Value}{d:Nat}(h:zi w R s p)(c:w.ownsRow B e d v n xs)(b:w.grownBy a v.ownBlock)(f:R<B):zi a R s p:=
 h.same (b.block R h.lt (λe=>by have:=(c.lt R e.symm).1;omega))
def ut(w:World)(B:Nat)(v:Value)(t:BA):Prop:=w.ownsRow B 5 1 v t.size (Rd.jR t)
theorem aN:(prog.info? 5).map (λi=>(i.zero,i.size,i.bytes))=some (some (.int .u8 0),1,1):=by kernel_rfl
theorem ai(acc:BA)(N:Int)(m:0<=N)(n:N<=65535)(v:Value)(B R:Nat)(w:World)(a:ut w B v acc)(hlen:acc.size<=100000)(b:B<=w.heap.size)(r:R<B)(s:BA)(q:Nat)(l:zi w R s q) :
  Calls prog 123 #[v,.int .i32 N] w λe g=>∃f,e = .returned f/\(¬(55296<=N/\N<=57343)->ut g B f (acc++Ref.enc N))/\zC B R w g/\zi g R s q:=by
 refine (Go.Proofs.Any.utf8_AppendRune_plain Tryz.lays242 aN B v acc.size (Rd.jR acc) N (by omega) (by omega) w a (by omega) b).mono ?_;rintro e g ⟨f,rfl,j,o,i⟩;have c:∀k,v.ownBlock=some k->B<=k:=λk h=>(World.ownsRow.lt a k h).1;have d:zC B R w (w.alloc o):=zC.own (World.grownBy_alloc w o none) (λk h=>by cases h) b;refine⟨f,rfl,λp=>?_,d.trans (zC.own i c (Nat.le_trans b d.size)),?_⟩
 ·rw[Rd.MU N m n p,Rd.rW,<- Rd.VI] at j;unfold ut;rw[show (acc++Ref.enc N).size=acc.size+(Ref.enc N).size by simp];exact j
 ·exact (l.alloc o).same (i.block R (l.alloc o).lt (λe=>by have:=c R e.symm;omega))
def uW(w:World)(R B:Nat)(s acc:BA)(r:Rd.Res BA)(e:Ending)(a:World):Prop:=match r with
 | .ok u q=>(∃b,e = .returned (.tuple #[b,.nilIface])/\ut a B b (acc++u))/\zC B R w a/\zi a R s q/\q<=s.size
 | .err _ q=>(∃b,e = .returned (.tuple #[b,.iface 112 (.agg #[.int .i64 (q:Int)])]))/\zC B R w a/\zi a R s q/\q<=s.size
theorem uW.of{w b:World}{R B:Nat}{s acc:BA}{r a:Rd.Res BA}{e:Ending}(h:uW w R B s acc r e b)(c:a=r):uW w R B s acc a e b:=c ▸ h
theorem mh{P:Program}{ops:Array Oper}{o:Oper}{a:Act}{w:World}{K:Act->World->Prop}{Q:Exit->Act->World->Prop}{E:Prop}
  (q:o.guard=none)(k x:Operand)(t u:TypeId)(j:o.op=Op.call { callee:=Callee.builtin Builtin.append,args:=#[k,x],argTypes:=#[t,u] })
  (base:Nat)(e:TypeId)(i:TypeInfo)(z:P.underlying t=some (.slice e))(A:P.underlying u=some .string)(r:P.info? e=some i)(D:i.zero=some (.int .u8 0))(c:i.size=1)(h:i.bytes=1)
  (v:Value)(n:Nat)(xs:List Value)(y:a.eval k=v)(d:w.ownsRow base e 1 v n xs)(str:BA)(C:a.eval x = .string str)
  (hlen:n+str.size<=140737488355328)(b:base<=w.heap.size)
  (p:∀g f,f.ownsRow base e 1 g (n+str.size) (xs++Lib.strCells str)->w.grownBy f v.ownBlock->K (a.put o.dst g) f) :
  if Region.wanted o (yielded ops a.tmps)=true then Oper.wp P o a w K Q else E:=by
 have B:Region.wanted o (yielded ops a.tmps)=true:=by simp[Region.wanted,q]
 rw[if_pos B];obtain⟨g,f,s,l,m,_⟩:=Lib.run_append_own_string (P:=P) w base t u o.type e i z A r D c h v n xs d str (by unfold maxLen;omega) hlen b;unfold Oper.wp;simp[execOp,j,resolve,invoke,builtin,y,C,s,Result.andThen];exact p g f l m
theorem BM(s:BA)(R p:Nat)(w:World)(j:zi w R s p)(i:p<=s.size)(k:s.size<=4000)(u:BA)(q:Nat)(h:Rd.yX s.data.toList p = .ok u q) :
  Calls prog 122 #[.pointer (some ⟨R,0,none⟩)] w λe a=>∃N:Int,e = .returned (.tuple #[.int .i32 N,.nilIface])/\(u=Ref.enc N/\0<=N/\N<=65535/\¬(55296<=N/\N<=57343))/\w.grownBy a (some R)/\zi a R s q/\q<=s.size:=by
 refine (dw s R p w j i k).mono ?_;intro e a b;rw[h] at b;obtain⟨⟨N,rfl,c⟩,d,f,g⟩:=b;exact⟨N,rfl,c,d,f,g⟩
theorem BL(s:BA)(R p:Nat)(w:World)(k:zi w R s p)(j:p<=s.size)(l:s.size<=4000)(c:Int)(q:Nat)(h:Rd.yX s.data.toList p = .err c q) :
  Calls prog 122 #[.pointer (some ⟨R,0,none⟩)] w λe a=>∃N:Int,e = .returned (.tuple #[.int .i32 N,.iface 112 (.agg #[.int .i64 (q:Int)])])/\(0<=N/\N<=65535)/\w.grownBy a (some R)/\zi a R s q/\q<=s.size:=by
 refine (dw s R p w k j l).mono ?_;intro e a b;rw[h] at b;obtain⟨⟨N,rfl,d⟩,f,g,i⟩:=b;exact⟨N,rfl,d,f,g,i⟩
theorem lM(s:BA)(R p:Nat)(w:World)(c:zi w R s p)(a:p<=s.size)(d:s.size<=4000)(b:qb w)(r:Rd.Res BA)(h:Rd.yN s.data.toList p=r) :
  Calls prog 124 #[.pointer (some ⟨R,0,none⟩)] w λe f=>ZI w R s p r e f:=by
 rw[<- h];exact NJ s R p w c a d b
theorem Ue(s:BA)(p q:Nat):s.extract p q=Rd.piece s.data.toList p q:=by
 apply ByteArray.ext;rw[ByteArray.data_extract];unfold Rd.piece;apply Array.toList_inj.1;rw[Array.toList_extract]
theorem iK(s:BA)(p q:Nat):(Rd.piece s.data.toList p q).size<=q:=by
 unfold Rd.piece
 have:(List.take (q-p) (List.drop p s.data.toList)).length<=q-p:=List.length_take_le _ _
 simp only[ByteArray.size,List.size_toArray];omega
theorem sj(w:World)(x:Value)(t:TypeId)(k:Nat)(a:k=w.heap.size):∀j u,[x][j]?=some u->(w.alloc (.cells #[x] t)).cell? ((⟨k,0,none⟩:Addr).add j)=some u:=by
 subst a;exact cell_one_new w x t
theorem Zr(w:World)(a:Addr)(v:Value):(w.setCell a v).heap.size=w.heap.size:=by simp[World.setCell]
theorem sP(s acc:BA)(R p B:Nat)(v:Value)(w:World)(hr:zi w R s p)(hp:p<=s.size)(hs:s.size<=4000)(hq:qb w)(a9:R≠5)(I:ut w B v acc)(b6:acc.size<=50000)(G:R<B)(a8:B<=w.heap.size) :
  Calls prog 107 #[.pointer (some ⟨R,0,none⟩),v] w λe K=>uW w R B s acc (Rd.xw s.data.toList p) e K:=by
 obtain⟨i0,hi,U,V,W⟩:=info_parts aN;have i:Rd.xw s.data.toList p=Rd.xw s.data.toList p:=rfl
 conv at i=>rhs;unfold Rd.xw
 simp only at i;obtain⟨b,Y⟩:=Nm (Rd.ze s.data.toList p)
 have o:Calls prog 82 #[.pointer (some ⟨R,0,none⟩)] w λe K=>e = .returned (.int .u8 (b:Int))/\zi K R s p/\zC B R w K/\qb K/\ut K B v acc/\B<=K.heap.size:=by
  refine (XR s R p w hr hp).mono ?_;rintro e K ⟨rfl,h1,h2,h3,h4⟩;exact⟨by rw[Y],h1,zC.of h2 a8,hq.grown h2 a9,jm I h2 G,by omega⟩
 rw[Y] at i;have b7:b<256:=by rw[<- Y];exact Rd.kM _ _
 have J:b≠0->p<s.size:=λh=>by
  have:=Rd.zW s.data.toList p (by rw[Y];exact h)
  rwa [Ref.zB] at this
 have X:=hid J;clear Y J hr I hq
 by_cases c1:b<32
 ·rw[if_pos c1] at i;have E:=hid i;have d1:decide ((b:Int)<32)=true:=decide_eq_true (by omega);clear i;go_enter func107,ntmps107
  go_wp2_with (first
   | (go_at_call 82;refine o.mono ?_;rintro e C ⟨rfl,a,l,y,g,f⟩)
   | (go_at_call 53;refine (Qb s R p _ a).mono ?_;rintro e L ⟨rfl,rfl⟩))
  go_ret2;refine uW.of ?_ E.out;exact⟨⟨v,rfl⟩,l,a,hp⟩
 rw[if_neg c1] at i;have d1:decide ((b:Int)<32)=false:=decide_eq_false (by omega);have d0:=X.out (by omega)
 by_cases c2:b=92
 ·rw[if_pos c2] at i;have hc:(b:Int)=92:=by omega
  cases hx:Rd.yX s.data.toList (p+1) with
  | ok u q=>
   rw[hx] at i;have E:=hid i;have P:=hid hx;clear i hx;go_enter func107,ntmps107
   go_wp2_with (first
    | (go_at_call 82;refine o.mono ?_;rintro e C ⟨rfl,a,l,y,g,f⟩;have r:=hid a;obtain⟨g1,g2,g3⟩:=a)
    | (go_at_call 122;refine (BM s R (p+1) _ (by have:=r.out.move (p+1);rwa [show ((p+1:Nat):Int)=(p:Int)+1 by omega] at this) (by omega) hs u q P.out).mono ?_;rintro e L ⟨N,rfl,S,j,m,z⟩;have n:=zH (xS C R 1 (.int .i64 ((p:Int)+1))) j)
    | (go_at_call 123;refine (ai acc N S.2.1 S.2.2.1 v B R _ (jm g n G) (by omega) (Nat.le_trans f n.size) G s q m).mono ?_;rintro e M ⟨H,rfl,x,t,A⟩))
   go_ret2;refine uW.of ?_ E.out;exact⟨⟨H,rfl,by rw[S.1];exact x S.2.2.2⟩,(l.trans (zC.of n f)).trans t,A,z⟩
  | err c q=>
   rw[hx] at i;have E:=hid i;have P:=hid hx;clear i hx;go_enter func107,ntmps107
   go_wp2_with (first
    | (go_at_call 82;refine o.mono ?_;rintro e C ⟨rfl,a,l,y,g,f⟩;have r:=hid a;obtain⟨g1,g2,g3⟩:=a)
    | (go_at_call 122;refine (BL s R (p+1) _ (by have:=r.out.move (p+1);rwa [show ((p+1:Nat):Int)=(p:Int)+1 by omega] at this) (by omega) hs c q P.out).mono ?_;rintro e L ⟨N,rfl,S,j,m,z⟩;have n:=zH (xS C R 1 (.int .i64 ((p:Int)+1))) j)
    | (go_at_call 123;refine (ai acc N S.1 S.2 v B R _ (jm g n G) (by omega) (Nat.le_trans f n.size) G s q m).mono ?_;rintro e M ⟨H,rfl,x,t,A⟩))
   go_ret2;refine uW.of ?_ E.out;exact⟨⟨H,rfl⟩,(l.trans (zC.of n f)).trans t,A,z⟩
 rw[if_neg c2] at i;have d2:((b:Int)==92)=false:=by rw[beq_eq_false_iff_ne];omega
 by_cases c3:b<128
 ·rw[if_pos c3] at i;have E:=hid i;have d3:decide ((b:Int)<128)=true:=decide_eq_true (by omega);clear i;go_enter func107,ntmps107
  go_wp2_with (first
   | (go_at_call 82;refine o.mono ?_;rintro e C ⟨rfl,a,l,y,g,f⟩;have r:=hid a;obtain⟨g1,g2,g3⟩:=a;have n:=xS C R 1 (.int .i64 ((p:Int)+1));have D:=jm g n G)
   | (at_builtin;refine wpList_append_own _ rfl _ _ 130 rfl B 5 i0 (.int .u8 0) 1 1 underlying130 hi U V W rfl (by decide) _ _ _ rfl (D.alloc _) ⟨C.heap.size,0,none⟩ 1 1 [.int .u8 (b:Int)] rfl rfl ?c1 ?c2 ?c3 ?c4 ?c5 ?_))
  case c1=>exact sj _ _ _ _ (Zr _ _ _).symm
  case c2=>intro u hu;simp at hu;subst hu;rfl
  case c3=>unfold maxLen;omega
  case c4=>omega
  case c5=>simp;omega
  intro H M x d _
  go_wp2
  go_ret2;refine uW.of ?_ E.out;have m:zi (C.setCell ⟨R,1,none⟩ (.int .i64 ((p:Int)+1))) R s (p+1):=by have:=r.out.move (p+1);rwa [show ((p+1:Nat):Int)=(p:Int)+1 by omega] at this
  have b1:zC B R w (C.setCell ⟨R,1,none⟩ (.int .i64 ((p:Int)+1))):=l.trans (zC.of n f);have b2:∀O,zC B R w ((C.setCell ⟨R,1,none⟩ (.int .i64 ((p:Int)+1))).alloc O):=λO=>b1.trans (zC.own (World.grownBy_alloc _ O none) (λk T=>by cases T) (by rw[Zr];exact f));refine⟨⟨H,rfl,?_⟩,(b2 _).trans (zC.own d (λk T=>(World.ownsRow.lt g k T).1) (by simp;omega)),(m.alloc _).own (D.alloc _) d G,by omega⟩;unfold ut;rw[Rd.VI]
  have e1:Rd.jR (Ref.one (b:Int))=[.int .u8 (b:Int)]:=by
   unfold Rd.jR Ref.one;simp only[List.map_cons,List.map_nil];rw[Rd.byte_of b (by omega) (by omega)]
  rw[e1,show (acc++Ref.one (b:Int)).size=acc.size+1 by rw[ByteArray.size_append];rfl];exact x
 rw[if_neg c3] at i;have d3:decide ((b:Int)<128)=false:=decide_eq_false (by omega)
 cases hx:Rd.yN s.data.toList p with
 | ok u q=>
  rw[hx] at i;have E:=hid i;have P:=hid hx;clear i hx;go_enter func107,ntmps107
  go_wp2_with (first
   | (go_at_call 82;refine o.mono ?_;rintro e C ⟨rfl,a,l,y,g,f⟩;have r:=hid a;obtain⟨g1,g2,g3⟩:=a)
   | (go_at_call 124;refine (lM s R p C r.out hp hs y _ P.out).mono ?_;rintro e L ⟨rfl,hu,j,m,z,b3⟩;have F:=hid m;have D:=jm g j G;obtain⟨f1,f2,f3⟩:=m))
  have Z:(p:Int)<=(q:Int):=by omega
  have a0:(q:Int)<=(s.size:Int):=by omega
  have b4:(s.extract p q).size<=q:=by rw[Ue];exact iK s p q
  have Q:B<=L.heap.size:=Nat.le_trans f j.size
  go_region_law ((refine mh (by rfl) _ _ _ _ (by rfl) B 5 i0 underlying130 underlying9 hi U V W v acc.size (Rd.jR acc) (by rfl) D.drew (s.extract p q) (by rfl) (by omega) (by simp;omega) ?_;intro H M x d))
  all_goals
   go_wp2
   go_ret2;refine uW.of ?_ E.out;have t:zC B R w M:=(l.trans (zC.of j f)).trans (zC.own (B:=B) (R:=R) (w:=L) ⟨d.os,d.tape,d.output,d.size,d.block⟩ (λk T=>(World.ownsRow.lt g k T).1) Q);have A:zi M R s q:=F.out.same (d.block R F.out.lt (λe=>by have:=(World.ownsRow.lt g R e.symm).1;omega));refine⟨⟨H,rfl,?_⟩,t,A,z⟩;rw[hu,<- Ue];unfold ut;rw[Rd.VI,ByteArray.size_append];exact x
 | err c q=>
  rw[hx] at i;have E:=hid i;have P:=hid hx;clear i hx;go_enter func107,ntmps107
  go_wp2_with (first
   | (go_at_call 82;refine o.mono ?_;rintro e C ⟨rfl,a,l,y,g,f⟩;have r:=hid a;obtain⟨g1,g2,g3⟩:=a)
   | (go_at_call 124;refine (lM s R p C r.out hp hs y _ P.out).mono ?_;rintro e L ⟨rfl,j,m,z,b3⟩;have F:=hid m;have D:=jm g j G;obtain⟨f1,f2,f3⟩:=m))
  have Z:(p:Int)<=(q:Int):=by omega
  have a0:(q:Int)<=(s.size:Int):=by omega
  have b4:(s.extract p q).size<=q:=by rw[Ue];exact iK s p q
  have Q:B<=L.heap.size:=Nat.le_trans f j.size
  go_region_law ((refine mh (by rfl) _ _ _ _ (by rfl) B 5 i0 underlying130 underlying9 hi U V W v acc.size (Rd.jR acc) (by rfl) D.drew (s.extract p q) (by rfl) (by omega) (by simp;omega) ?_;intro H M x d))
  all_goals
   go_wp2
   go_ret2;refine uW.of ?_ E.out;have t:zC B R w M:=(l.trans (zC.of j f)).trans (zC.own (B:=B) (R:=R) (w:=L) ⟨d.os,d.tape,d.output,d.size,d.block⟩ (λk T=>(World.ownsRow.lt g k T).1) Q);have A:zi M R s q:=F.out.same (d.block R F.out.lt (λe=>by have:=(World.ownsRow.lt g R e.symm).1;omega));exact⟨⟨H,rfl⟩,t,A,z⟩
theorem rV{w:World}{B:Nat}{v:Value}{t:BA}(h:ut w B v t):(convert 130 9 v).run prog w = .ok (.string t) w:=by
 rcases h.2 with ⟨rfl,h0⟩|⟨g,cap,cur,rfl,hB,hg,hrest⟩
 ·have e:t=⟨#[]⟩:=by
   apply ByteArray.ext
   have:t.data.size=0:=h0
   exact Array.size_eq_zero_iff.1 this
  rw[e];rw[run_convert_bytes_string w _ _ _ none 0 0 underlying130 underlying5 underlying9]
  rfl
 ·have a:=World.ownsRow.cells h (g:=g) rfl
  have:=run_convert_bytes_back (P:=prog) w 130 9 5 ⟨g,0,none⟩ cap t.data.toList underlying130 underlying5 underlying9 (λj b=>a j _ (by unfold Rd.jR;rw[List.getElem?_map,List.getElem?_eq_getElem b];rfl))
  rw[Ref.zB] at this;rw[this]
def Qe(w:World)(R:Nat)(s:BA)(r:Rd.Res BA)(e:Ending)(a:World):Prop:=match r with
 | .ok t q=>e = .returned (.tuple #[.string t,.nilIface])/\w.grownBy a (some R)/\zi a R s q/\q<=s.size
 | .err _ q=>e = .returned (.tuple #[.string ⟨#[]⟩,.iface 112 (.agg #[.int .i64 (q:Int)])])/\w.grownBy a (some R)/\zi a R s q/\q<=s.size
theorem Qe.of{w b:World}{R:Nat}{s:BA}{r a:Rd.Res BA}{e:Ending}(h:Qe w R s r e b)(c:a=r):Qe w R s a e b:=c ▸ h
theorem aZ(s acc:BA)(R p B:Nat)(v:Value)(w:World)(j:zi w R s p)(g:p<=s.size)(k:s.size<=4000)(i:qb w)(d:R≠5)(b:ut w B v acc)(a:acc.size<=50000)(f:R<B)(c:B<=w.heap.size)(r:Rd.Res BA)(h:Rd.xw s.data.toList p=r) :
  Calls prog 107 #[.pointer (some ⟨R,0,none⟩),v] w λe l=>uW w R B s acc r e l:=by
 rw[<- h];exact sP s acc R p B v w j g k i d b a f c
theorem QB(s t:BA)(R p:Nat)(w:World)(b:zi w R s p)(a:p<=s.size)(c:s.size<=4000)(d:t.size<=100)(f:∀k,k<t.size->(t.data.toList.getD k 0).toNat≠0)(r:Rd.Res Unit)(h:Rd.zP s.data.toList (t.data.toList.map UInt8.toNat) p=r) :
  Calls prog 86 #[.pointer (some ⟨R,0,none⟩),.string t] w λe g=>QN w R s r e g:=by
 rw[<- h];exact PP s t R p w b a c d f
theorem qb.keep{B R:Nat}{w a:World}(h:qb w)(d:zC B R w a)(c:R≠5)(b:5<B):qb a:=h.same (d.block _ b (λe=>c e.symm))
theorem LP(s:BA)(R p:Nat)(w:World)(P:zi w R s p)(hp:p<=s.size)(Y:s.size<=4000)(X:qb w)(h:R≠5) :
  Calls prog 85 #[.pointer (some ⟨R,0,none⟩)] w λe g=>Qe w R s (Rd.xM s.data.toList p) e g:=by
 have D:Rd.xM s.data.toList p=Rd.xM s.data.toList p:=rfl
 conv at D=>rhs;unfold Rd.xM
 have a2:=X.lt;have m:=P.lt
 by_cases c1:Rd.ze s.data.toList p=34
 ·rw[if_pos c1] at D
  have l:Rd.zP s.data.toList ((ByteArray.mk #[34]).data.toList.map UInt8.toNat) p = .ok () (p+1):=by
   have:=Rd.iU s.data.toList p
   rw[if_pos c1] at this;exact this
  have y:=QB s ⟨#[34]⟩ R p w P hp Y (by decide) (by decide) _ l
  have A:=y.mono (R':=λe g=>e = .returned .nilIface/\w.grownBy g (some R)/\zi g R s (p+1)/\p+1<=s.size/\qb g) (by
   rintro e g ⟨rfl,W,M,h3⟩;exact⟨rfl,W,M,h3,X.grown W h⟩)
  have V:=hid D;clear l y D c1 P X;go_enter func85,ntmps85
  go_wp2_with (go_at_call 86;refine A.mono ?_;rintro e w1 ⟨rfl,o,t,E,O⟩)
  have J:=hid o;have L:=hid t;have K:=hid O;clear o t O A
  go_loopw [5] (λv wr=>∃(q f:Nat) (acc:BA),ut wr w.heap.size v acc/\zi wr R s q/\zC w.heap.size R w wr/\qb wr/\q<=s.size/\p+1<=q/\acc.size<=q-(p+1)/\s.size<q+f/\Rd.jb s.data.toList (p+1)=Rd.qh s.data.toList f q acc) (λ_ wr=>s.size-Yj wr R)
  case atStart=>exact⟨p+1,s.data.toList.length+1-(p+1),⟨#[]⟩,World.ownsRow_nil _ _ _ _,L.out,zC.of J.out (Nat.le_refl _),K.out,E,Nat.le_refl _,Nat.zero_le _,by rw[Ref.zB];omega,rfl⟩
  case round=>
   obtain⟨q,f,acc,z,Q,hk,S,H,b7,b5,hf,T⟩:=hrel;have HO:=hid z;have HR:=hid Q;have HK:=hid hk;have HS:=hid S;have C:=hid T;clear z Q hk S T J L K;obtain⟨f,rfl⟩:∃k,f=k+1:=⟨f-1,by omega⟩;obtain⟨b,n⟩:=Nm (Rd.ze s.data.toList q);have a7:b<256:=by rw[<- n];exact Rd.kM _ _
   have F:=(XR s R q _ HR.out H).mono (R':=λe g=>e = .returned (.int .u8 (b:Int))/\zi g R s q/\zC w.heap.size R w g/\qb g/\ut g w.heap.size u5 acc) (by
    rintro e g ⟨rfl,W,M,_,_⟩;exact⟨by rw[n],W,HK.out.trans (zC.of M HK.out.size),HS.out.grown M h,jm HO.out M m⟩)
   by_cases c34:b=34
   ·have d34:((b:Int) != 34)=false:=by simp;omega
    have I:=hid (C.out.trans (Rd.Ph (by rw[n];exact c34)))
    have b0:q<s.size:=by
     have:=Rd.zW s.data.toList q (by rw[n];omega)
     rwa [Ref.zB] at this
    clear n
    go_wp2_with (go_at_call 82;refine F.mono ?_;rintro e U ⟨rfl,d,a,j,i⟩;have Z:=hid d;have b6:=rV (jm i (xS U R 1 (.int .i64 ((q:Int)+1))) m);obtain⟨g1,g2,g3⟩:=d)
    go_ret2;refine Qe.of ?_ (V.out.trans I.out);refine⟨rfl,(a.trans (zC.of (xS _ _ _ _) a.size)).grown (Nat.le_refl _),?_,by omega⟩
    have:=Z.out.move (q+1)
    rwa [show ((q+1:Nat):Int)=(q:Int)+1 by omega] at this
   ·have d34:((b:Int) != 34)=true:=by simp;omega
    cases hx:Rd.xw s.data.toList q with
    | ok u q'=>
     have B:=hid (C.out.trans (Rd.Pj (by rw[n];exact c34) hx));have a6:=Rd.aY hx;have HX:=hid hx;clear n hx
     go_wp2_with (first
      | (go_at_call 82;refine F.mono ?_;rintro e U ⟨rfl,d,a,j,i⟩)
      | (go_at_call 107;refine (aZ s acc R q w.heap.size u5 U d H Y j h i (by omega) m a.size _ HX.out).mono ?_;rintro e w3 ⟨⟨v3,rfl,a3⟩,r,x,G⟩))
     have e1:(acc++u).size=acc.size+u.size:=ByteArray.size_append;have a1:=HR.out.at;have N:=x.at
     go_roundw
     case rel=>exact⟨q',f,acc++u,a3,x,a.trans r,j.keep r h a2,G,by omega,by omega,by omega,B.out⟩
     case measure=>rw[a1,N];omega
    | err c q'=>
     have B:=hid (C.out.trans (Rd.Pi (by rw[n];exact c34) hx));have HX:=hid hx;clear n hx
     go_wp2_with (first
      | (go_at_call 82;refine F.mono ?_;rintro e U ⟨rfl,d,a,j,i⟩)
      | (go_at_call 107;refine (aZ s acc R q w.heap.size u5 U d H Y j h i (by omega) m a.size _ HX.out).mono ?_;rintro e w3 ⟨⟨v3,rfl⟩,r,x,G⟩))
     go_ret2;refine Qe.of ?_ (V.out.trans B.out);exact⟨rfl,(a.trans r).grown (Nat.le_refl _),x,G⟩
 ·rw[if_neg c1] at D
  have l:Rd.zP s.data.toList ((ByteArray.mk #[34]).data.toList.map UInt8.toNat) p = .err 2 p:=by
   have:=Rd.iU s.data.toList p
   rw[if_neg c1] at this;exact this
  have y:=QB s ⟨#[34]⟩ R p w P hp Y (by decide) (by decide) _ l;have V:=hid D;clear l D c1 P X;go_enter func85,ntmps85
  go_wp2_with (go_at_call 86;refine y.mono ?_;rintro e w1 ⟨rfl,o,t,E⟩)
  go_ret2;refine Qe.of ?_ V.out;exact⟨rfl,o,t,E⟩
end Go.Proofs.YtdakgnaojakldabGreatDoor
