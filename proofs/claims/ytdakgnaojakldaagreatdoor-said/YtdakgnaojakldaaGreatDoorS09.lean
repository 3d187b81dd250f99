/- P -/
import Derived.Shelf.Utf8.AppendRunePlain
import Derived.Test.YtdakgnaojakldaaGreatDoorS08
import Derived.Lib.AppendStr
import Derived.Deep.RegionLaw
import Derived.OwnWalk
import Derived.Maps.AppendAt
import Derived.Laws.IdiomStrings
open Go.Proofs.Tryz
set_option maxRecDepth 100000
set_option maxHeartbeats 2000000
namespace Go.Proofs.YtdakgnaojakldaaGreatDoor
open Go.Shelf
def Tryz.lays242_ren:Go.Shelf.Ren:=⟨λ|242=>229|278=>250|n=>n,λ|37=>256|21=>21|51=>398|4=>4|5=>5|46=>321|n=>n,λ|n=>n⟩
theorem Tryz.lays242:Go.Proofs.Lays.n242 prog Tryz.lays242_ren:={
 mixed:=by kernel_rfl
 f242:=func229.trans (congrArg some (by kernel_rfl))
 f278:=func250.trans (congrArg some (by kernel_rfl))
 t4:=underlying4
 a4:=Tryz.isAgg4
 z4:=Tryz.sizeOf4
 v4:=Tryz.zeroValue4
 t5:=underlying5
 a5:=Tryz.isAgg5
 z5:=Tryz.sizeOf5
 v5:=Tryz.zeroValue5
 t21:=underlying21
 a21:=Tryz.isAgg21
 z21:=Tryz.sizeOf21
 v21:=Tryz.zeroValue21
 t37:=underlying256
 a37:=Tryz.isAgg256
 z37:=Tryz.sizeOf256
 v37:=Tryz.zeroValue256
 t46:=underlying321
 a46:=Tryz.isAgg321
 z46:=Tryz.sizeOf321
 v46:=Tryz.zeroValue321
 t51:=underlying398
 a51:=Tryz.isAgg398
 z51:=Tryz.sizeOf398
 v51:=Tryz.zeroValue398 }
end Go.Proofs.YtdakgnaojakldaaGreatDoor
namespace Go.Proofs.YtdakgnaojakldaaGreatDoor
open Go.RowKit
structure zu (B R:Nat) (w w':World):Prop where
 os:w'.os=w.os
 tape:w'.tape=w.tape
 output:w'.output=w.output
 size:w.heap.size<=w'.heap.size
 block:∀k,k<B->k≠R->w'.heap[k]?=w.heap[k]?
theorem zu.refl(B R:Nat)(w:World):zu B R w w:=⟨rfl,rfl,rfl,Nat.le_refl _,λ_ _ _=>rfl⟩
theorem zu.trans{B R:Nat}{a b c:World}(h:zu B R a b)(k:zu B R b c):zu B R a c:=
 ⟨k.os.trans h.os,k.tape.trans h.tape,k.output.trans h.output,Nat.le_trans h.size k.size,λi d e=>(k.block i d e).trans (h.block i d e)⟩
theorem zu.of{B R:Nat}{w b:World}(a:w.grownBy b (some R))(e:B<=w.heap.size):zu B R w b:=
 ⟨a.os,a.tape,a.output,a.size,λk d c=>a.block k (by omega) (by simp;exact c)⟩
theorem zu.own{B R:Nat}{w b:World}{row:Option Nat}(a:w.grownBy b row)(c:∀k,row=some k->B<=k)(f:B<=w.heap.size):zu B R w b:=
 ⟨a.os,a.tape,a.output,a.size,λk d _=>a.block k (by omega) (λe=>by have:=c k e.symm;omega)⟩
theorem zu.grown{B R:Nat}{w a:World}(h:zu B R w a)(d:w.heap.size<=B):w.grownBy a (some R):=
 ⟨h.os,h.tape,h.output,h.size,λk c b=>h.block k (by omega) (λe=>b (by rw[e]))⟩
theorem yN{w b:World}{B R n:Nat}{e:TypeId}{v:Value}{xs:List Value}{a:Nat}(h:w.ownsRow B e a v n xs)(c:w.grownBy b (some R))(d:R<B):b.ownsRow B e a v n xs:=
 h.kept c (.inr (λe=>by have:=(h.lt R e).1;omega))
theorem zk.own{w a:World}{R:Nat}{s:BY}{p B n:Nat}{e:TypeId}{v:Value}{xs:List Value}{d:Nat}(h:zk w R s p)(c:w.ownsRow B e d v n xs)(b:w.grownBy a v.ownBlock)(f:R<B):zk a R s p:=
 h.same (b.block R h.lt (λe=>by have:=(c.lt R e.symm).1;omega))
def vG(w:World)(B:Nat)(v:Value)(t:BY):Prop:=w.ownsRow B 5 1 v t.size (Rd.jf t)
theorem Ke:(prog.info? 5).map (λi=>(i.zero,i.size,i.bytes))=some (some (.int .u8 0),1,1):=by kernel_rfl
theorem UY(acc:BY)(N:Int)(m:0<=N)(n:N<=65535)(v:Value)(B R:Nat)(w:World)(a:vG w B v acc)(hlen:acc.size<=100000)(b:B<=w.heap.size)(r:R<B)(s:BY)(q:Nat)(l:zk w R s q) :
  Calls prog 229 #[v,.int .i32 N] w λe g=>∃f,e = .returned f/\(¬(55296<=N/\N<=57343)->vG g B f (acc++Ref.enc N))/\zu B R w g/\zk g R s q:=by
 refine (Go.Proofs.Any.utf8_AppendRune_plain Tryz.lays242 Ke B v acc.size (Rd.jf acc) N (by omega) (by omega) w a (by omega) b).mono ?_;rintro e g ⟨f,rfl,j,o,i⟩;have c:∀k,v.ownBlock=some k->B<=k:=λk h=>(World.ownsRow.lt a k h).1;have d:zu B R w (w.alloc o):=zu.own (World.grownBy_alloc w o none) (λk h=>by cases h) b;refine⟨f,rfl,λp=>?_,d.trans (zu.own i c (Nat.le_trans b d.size)),?_⟩
 ·rw[Rd.GD N m n p,Rd.mX,<- Rd.JL] at j;unfold vG;rw[show (acc++Ref.enc N).size=acc.size+(Ref.enc N).size by simp];exact j
 ·exact (l.alloc o).same (i.block R (l.alloc o).lt (λe=>by have:=c R e.symm;omega))
def vW(w:World)(R B:Nat)(s acc:BY)(r:Rd.Res BY)(e:Ending)(a:World):Prop:=match r with
 | .ok u q=>(∃b,e = .returned (.tuple #[b,.nilIface])/\vG a B b (acc++u))/\zu B R w a/\zk a R s q/\q<=s.size
 | .err _ q=>(∃b,e = .returned (.tuple #[b,.iface 140 (.agg #[.int .i64 (q:Int)])]))/\zu B R w a/\zk a R s q/\q<=s.size
theorem vW.of{w b:World}{R B:Nat}{s acc:BY}{r a:Rd.Res BY}{e:Ending}(h:vW w R B s acc r e b)(c:a=r):vW w R B s acc a e b:=c ▸ h
theorem gL{P:Program}{ops:Array Oper}{o:Oper}{a:Act}{w:World}{K:Act->World->Prop}{Q:Exit->Act->World->Prop}{E:Prop}
  (q:o.guard=none)(k x:Operand)(t u:TypeId)(j:o.op=Op.call { callee:=Callee.builtin Builtin.append,args:=#[k,x],argTypes:=#[t,u] })
  (base:Nat)(e:TypeId)(i:TypeInfo)(y:P.underlying t=some (.slice e))(z:P.underlying u=some .string)(hi:P.info? e=some i)(C:i.zero=some (.int .u8 0))(c:i.size=1)(h:i.bytes=1)
  (v:Value)(n:Nat)(xs:List Value)(s:a.eval k=v)(d:w.ownsRow base e 1 v n xs)(str:BY)(B:a.eval x = .string str)
  (hlen:n+str.size<=140737488355328)(b:base<=w.heap.size)
  (p:∀g f,f.ownsRow base e 1 g (n+str.size) (xs++Lib.strCells str)->w.grownBy f v.ownBlock->K (a.put o.dst g) f) :
  if Region.wanted o (yielded ops a.tmps)=true then Oper.wp P o a w K Q else E:=by
 have A:Region.wanted o (yielded ops a.tmps)=true:=by simp[Region.wanted,q]
 rw[if_pos A];obtain⟨g,f,r,l,m,_⟩:=Lib.run_append_own_string (P:=P) w base t u o.type e i y z hi C c h v n xs d str (by unfold maxLen;omega) hlen b;unfold Oper.wp;simp[execOp,j,resolve,invoke,builtin,s,B,r,Result.andThen];exact p g f l m
theorem sI(s:BY)(R p:Nat)(w:World)(j:zk w R s p)(i:p<=s.size)(k:s.size<=4000)(u:BY)(q:Nat)(h:Rd.jh s.data.toList p = .ok u q) :
  Calls prog 228 #[.pointer (some ⟨R,0,none⟩)] w λe a=>∃N:Int,e = .returned (.tuple #[.int .i32 N,.nilIface])/\(u=Ref.enc N/\0<=N/\N<=65535/\¬(55296<=N/\N<=57343))/\w.grownBy a (some R)/\zk a R s q/\q<=s.size:=by
 refine (ag s R p w j i k).mono ?_;intro e a b;rw[h] at b;obtain⟨⟨N,rfl,c⟩,d,f,g⟩:=b;exact⟨N,rfl,c,d,f,g⟩
theorem sH(s:BY)(R p:Nat)(w:World)(k:zk w R s p)(j:p<=s.size)(l:s.size<=4000)(c:Int)(q:Nat)(h:Rd.jh s.data.toList p = .err c q) :
  Calls prog 228 #[.pointer (some ⟨R,0,none⟩)] w λe a=>∃N:Int,e = .returned (.tuple #[.int .i32 N,.iface 140 (.agg #[.int .i64 (q:Int)])])/\(0<=N/\N<=65535)/\w.grownBy a (some R)/\zk a R s q/\q<=s.size:=by
 refine (ag s R p w k j l).mono ?_;intro e a b;rw[h] at b;obtain⟨⟨N,rfl,d⟩,f,g,i⟩:=b;exact⟨N,rfl,d,f,g,i⟩
theorem gu(s:BY)(R p:Nat)(w:World)(c:zk w R s p)(a:p<=s.size)(d:s.size<=4000)(b:zT w)(r:Rd.Res BY)(h:Rd.yD s.data.toList p=r) :
  Calls prog 230 #[.pointer (some ⟨R,0,none⟩)] w λe f=>kX w R s p r e f:=by
 rw[<- h];exact Ic s R p w c a d b
theorem Vg(s:BY)(p q:Nat):s.extract p q=Rd.piece s.data.toList p q:=by
 apply ByteArray.ext;rw[ByteArray.data_extract];unfold Rd.piece;apply Array.toList_inj.1;rw[Array.toList_extract]
theorem eQ(s:BY)(p q:Nat):(Rd.piece s.data.toList p q).size<=q:=by
 unfold Rd.piece
 have:(List.take (q-p) (List.drop p s.data.toList)).length<=q-p:=List.length_take_le _ _
 simp only[ByteArray.size,List.size_toArray];omega
theorem nu(w:World)(x:Value)(t:TypeId)(k:Nat)(a:k=w.heap.size):∀j u,[x][j]?=some u->(w.alloc (.cells #[x] t)).cell? ((⟨k,0,none⟩:Addr).add j)=some u:=by
 subst a;exact cell_one_new w x t
theorem kG(w:World)(a:Addr)(v:Value):(w.setCell a v).heap.size=w.heap.size:=by simp[World.setCell]
theorem nH(s acc:BY)(R p B:Nat)(v:Value)(w:World)(hr:zk w R s p)(hp:p<=s.size)(hs:s.size<=4000)(hq:zT w)(a8:R≠5)(I:vG w B v acc)(b4:acc.size<=50000)(G:R<B)(a7:B<=w.heap.size) :
  Calls prog 194 #[.pointer (some ⟨R,0,none⟩),v] w λe K=>vW w R B s acc (Rd.xU s.data.toList p) e K:=by
 obtain⟨i0,hi,U,V,W⟩:=info_parts Ke;have i:Rd.xU s.data.toList p=Rd.xU s.data.toList p:=rfl
 conv at i=>rhs;unfold Rd.xU
 simp only at i;obtain⟨b,hb⟩:=Nm (Rd.zf s.data.toList p)
 have o:Calls prog 143 #[.pointer (some ⟨R,0,none⟩)] w λe K=>e = .returned (.int .u8 (b:Int))/\zk K R s p/\zu B R w K/\zT K/\vG K B v acc/\B<=K.heap.size:=by
  refine (Xd s R p w hr hp).mono ?_;rintro e K ⟨rfl,h1,h2,h3,h4⟩;exact⟨by rw[hb],h1,zu.of h2 a7,hq.grown h2 a8,yN I h2 G,by omega⟩
 rw[hb] at i;have b5:b<256:=by rw[<- hb];exact Rd.uA _ _
 have J:b≠0->p<s.size:=λh=>by
  have:=Rd.zP s.data.toList p (by rw[hb];exact h)
  rwa [Ref.zx] at this
 have X:=hid J;clear hb J hr I hq
 by_cases c1:b<32
 ·rw[if_pos c1] at i;have E:=hid i;have d1:decide ((b:Int)<32)=true:=decide_eq_true (by omega);clear i;go_enter func194,ntmps194
  go_wp2_with (first
   | (go_at_call 143;refine o.mono ?_;rintro e C ⟨rfl,a,l,y,g,f⟩)
   | (go_at_call 94;refine (Zx s R p _ a).mono ?_;rintro e L ⟨rfl,rfl⟩))
  go_ret2;refine vW.of ?_ E.out;exact⟨⟨v,rfl⟩,l,a,hp⟩
 rw[if_neg c1] at i;have d1:decide ((b:Int)<32)=false:=decide_eq_false (by omega);have c8:=X.out (by omega)
 by_cases c2:b=92
 ·rw[if_pos c2] at i;have hc:(b:Int)=92:=by omega
  cases hx:Rd.jh s.data.toList (p+1) with
  | ok u q=>
   rw[hx] at i;have E:=hid i;have P:=hid hx;clear i hx;go_enter func194,ntmps194
   go_wp2_with (first
    | (go_at_call 143;refine o.mono ?_;rintro e C ⟨rfl,a,l,y,g,f⟩;have r:=hid a;obtain⟨g1,g2,g3⟩:=a)
    | (go_at_call 228;refine (sI s R (p+1) _ (by have:=r.out.move (p+1);rwa [show ((p+1:Nat):Int)=(p:Int)+1 by omega] at this) (by omega) hs u q P.out).mono ?_;rintro e L ⟨N,rfl,S,j,m,z⟩;have n:=zD (xE C R 1 (.int .i64 ((p:Int)+1))) j)
    | (go_at_call 229;refine (UY acc N S.2.1 S.2.2.1 v B R _ (yN g n G) (by omega) (Nat.le_trans f n.size) G s q m).mono ?_;rintro e M ⟨H,rfl,x,t,A⟩))
   go_ret2;refine vW.of ?_ E.out;exact⟨⟨H,rfl,by rw[S.1];exact x S.2.2.2⟩,(l.trans (zu.of n f)).trans t,A,z⟩
  | err c q=>
   rw[hx] at i;have E:=hid i;have P:=hid hx;clear i hx;go_enter func194,ntmps194
   go_wp2_with (first
    | (go_at_call 143;refine o.mono ?_;rintro e C ⟨rfl,a,l,y,g,f⟩;have r:=hid a;obtain⟨g1,g2,g3⟩:=a)
    | (go_at_call 228;refine (sH s R (p+1) _ (by have:=r.out.move (p+1);rwa [show ((p+1:Nat):Int)=(p:Int)+1 by omega] at this) (by omega) hs c q P.out).mono ?_;rintro e L ⟨N,rfl,S,j,m,z⟩;have n:=zD (xE C R 1 (.int .i64 ((p:Int)+1))) j)
    | (go_at_call 229;refine (UY acc N S.1 S.2 v B R _ (yN g n G) (by omega) (Nat.le_trans f n.size) G s q m).mono ?_;rintro e M ⟨H,rfl,x,t,A⟩))
   go_ret2;refine vW.of ?_ E.out;exact⟨⟨H,rfl⟩,(l.trans (zu.of n f)).trans t,A,z⟩
 rw[if_neg c2] at i;have d2:((b:Int)==92)=false:=by rw[beq_eq_false_iff_ne];omega
 by_cases c3:b<128
 ·rw[if_pos c3] at i;have E:=hid i;have d3:decide ((b:Int)<128)=true:=decide_eq_true (by omega);clear i;go_enter func194,ntmps194
  go_wp2_with (first
   | (go_at_call 143;refine o.mono ?_;rintro e C ⟨rfl,a,l,y,g,f⟩;have r:=hid a;obtain⟨g1,g2,g3⟩:=a;have n:=xE C R 1 (.int .i64 ((p:Int)+1));have D:=yN g n G)
   | (at_builtin;refine wpList_append_own _ rfl _ _ 256 rfl B 5 i0 (.int .u8 0) 1 1 underlying256 hi U V W rfl (by decide) _ _ _ rfl (D.alloc _) ⟨C.heap.size,0,none⟩ 1 1 [.int .u8 (b:Int)] rfl rfl ?c1 ?c2 ?c3 ?c4 ?c5 ?_))
  case c1=>exact nu _ _ _ _ (kG _ _ _).symm
  case c2=>intro u hu;simp at hu;subst hu;rfl
  case c3=>unfold maxLen;omega
  case c4=>omega
  case c5=>simp;omega
  intro H M x d _
  go_wp2
  go_ret2;refine vW.of ?_ E.out;have m:zk (C.setCell ⟨R,1,none⟩ (.int .i64 ((p:Int)+1))) R s (p+1):=by have:=r.out.move (p+1);rwa [show ((p+1:Nat):Int)=(p:Int)+1 by omega] at this
  have a9:zu B R w (C.setCell ⟨R,1,none⟩ (.int .i64 ((p:Int)+1))):=l.trans (zu.of n f);have b0:∀O,zu B R w ((C.setCell ⟨R,1,none⟩ (.int .i64 ((p:Int)+1))).alloc O):=λO=>a9.trans (zu.own (World.grownBy_alloc _ O none) (λk T=>by cases T) (by rw[kG];exact f));refine⟨⟨H,rfl,?_⟩,(b0 _).trans (zu.own d (λk T=>(World.ownsRow.lt g k T).1) (by simp;omega)),(m.alloc _).own (D.alloc _) d G,by omega⟩;unfold vG;rw[Rd.JL]
  have e1:Rd.jf (Ref.one (b:Int))=[.int .u8 (b:Int)]:=by
   unfold Rd.jf Ref.one;simp only[List.map_cons,List.map_nil];rw[Rd.byte_of b (by omega) (by omega)]
  rw[e1,show (acc++Ref.one (b:Int)).size=acc.size+1 by rw[ByteArray.size_append];rfl];exact x
 rw[if_neg c3] at i;have d3:decide ((b:Int)<128)=false:=decide_eq_false (by omega)
 cases hx:Rd.yD s.data.toList p with
 | ok u q=>
  rw[hx] at i;have E:=hid i;have P:=hid hx;clear i hx;go_enter func194,ntmps194
  go_wp2_with (first
   | (go_at_call 143;refine o.mono ?_;rintro e C ⟨rfl,a,l,y,g,f⟩;have r:=hid a;obtain⟨g1,g2,g3⟩:=a)
   | (go_at_call 230;refine (gu s R p C r.out hp hs y _ P.out).mono ?_;rintro e L ⟨rfl,hu,j,m,z,b1⟩;have F:=hid m;have D:=yN g j G;obtain⟨f1,f2,f3⟩:=m))
  have Y:(p:Int)<=(q:Int):=by omega
  have Z:(q:Int)<=(s.size:Int):=by omega
  have b2:(s.extract p q).size<=q:=by rw[Vg];exact eQ s p q
  have Q:B<=L.heap.size:=Nat.le_trans f j.size
  go_region_law ((refine gL (by rfl) _ _ _ _ (by rfl) B 5 i0 underlying256 underlying9 hi U V W v acc.size (Rd.jf acc) (by rfl) D.drew (s.extract p q) (by rfl) (by omega) (by simp;omega) ?_;intro H M x d))
  all_goals
   go_wp2
   go_ret2;refine vW.of ?_ E.out;have t:zu B R w M:=(l.trans (zu.of j f)).trans (zu.own (B:=B) (R:=R) (w:=L) ⟨d.os,d.tape,d.output,d.size,d.block⟩ (λk T=>(World.ownsRow.lt g k T).1) Q);have A:zk M R s q:=F.out.same (d.block R F.out.lt (λe=>by have:=(World.ownsRow.lt g R e.symm).1;omega));refine⟨⟨H,rfl,?_⟩,t,A,z⟩;rw[hu,<- Vg];unfold vG;rw[Rd.JL,ByteArray.size_append];exact x
 | err c q=>
  rw[hx] at i;have E:=hid i;have P:=hid hx;clear i hx;go_enter func194,ntmps194
  go_wp2_with (first
   | (go_at_call 143;refine o.mono ?_;rintro e C ⟨rfl,a,l,y,g,f⟩;have r:=hid a;obtain⟨g1,g2,g3⟩:=a)
   | (go_at_call 230;refine (gu s R p C r.out hp hs y _ P.out).mono ?_;rintro e L ⟨rfl,j,m,z,b1⟩;have F:=hid m;have D:=yN g j G;obtain⟨f1,f2,f3⟩:=m))
  have Y:(p:Int)<=(q:Int):=by omega
  have Z:(q:Int)<=(s.size:Int):=by omega
  have b2:(s.extract p q).size<=q:=by rw[Vg];exact eQ s p q
  have Q:B<=L.heap.size:=Nat.le_trans f j.size
  go_region_law ((refine gL (by rfl) _ _ _ _ (by rfl) B 5 i0 underlying256 underlying9 hi U V W v acc.size (Rd.jf acc) (by rfl) D.drew (s.extract p q) (by rfl) (by omega) (by simp;omega) ?_;intro H M x d))
  all_goals
   go_wp2
   go_ret2;refine vW.of ?_ E.out;have t:zu B R w M:=(l.trans (zu.of j f)).trans (zu.own (B:=B) (R:=R) (w:=L) ⟨d.os,d.tape,d.output,d.size,d.block⟩ (λk T=>(World.ownsRow.lt g k T).1) Q);have A:zk M R s q:=F.out.same (d.block R F.out.lt (λe=>by have:=(World.ownsRow.lt g R e.symm).1;omega));exact⟨⟨H,rfl⟩,t,A,z⟩
theorem mW{w:World}{B:Nat}{v:Value}{t:BY}(h:vG w B v t):(convert 256 9 v).run prog w = .ok (.string t) w:=by
 rcases h.2 with ⟨rfl,h0⟩|⟨g,cap,cur,rfl,hB,hg,hrest⟩
 ·have e:t=⟨#[]⟩:=by
   apply ByteArray.ext
   have:t.data.size=0:=h0
   exact Array.size_eq_zero_iff.1 this
  rw[e];rw[run_convert_bytes_string w _ _ _ none 0 0 underlying256 underlying5 underlying9]
  rfl
 ·have a:=World.ownsRow.cells h (g:=g) rfl
  have:=run_convert_bytes_back (P:=prog) w 256 9 5 ⟨g,0,none⟩ cap t.data.toList underlying256 underlying5 underlying9 (λj b=>a j _ (by unfold Rd.jf;rw[List.getElem?_map,List.getElem?_eq_getElem b];rfl))
  rw[Ref.zx] at this;rw[this]
def Zy(w:World)(R:Nat)(s:BY)(r:Rd.Res BY)(e:Ending)(a:World):Prop:=match r with
 | .ok t q=>e = .returned (.tuple #[.string t,.nilIface])/\w.grownBy a (some R)/\zk a R s q/\q<=s.size
 | .err _ q=>e = .returned (.tuple #[.string ⟨#[]⟩,.iface 140 (.agg #[.int .i64 (q:Int)])])/\w.grownBy a (some R)/\zk a R s q/\q<=s.size
theorem Zy.of{w b:World}{R:Nat}{s:BY}{r a:Rd.Res BY}{e:Ending}(h:Zy w R s r e b)(c:a=r):Zy w R s a e b:=c ▸ h
theorem Ko(s acc:BY)(R p B:Nat)(v:Value)(w:World)(j:zk w R s p)(g:p<=s.size)(k:s.size<=4000)(i:zT w)(d:R≠5)(b:vG w B v acc)(a:acc.size<=50000)(f:R<B)(c:B<=w.heap.size)(r:Rd.Res BY)(h:Rd.xU s.data.toList p=r) :
  Calls prog 194 #[.pointer (some ⟨R,0,none⟩),v] w λe l=>vW w R B s acc r e l:=by
 rw[<- h];exact nH s acc R p B v w j g k i d b a f c
theorem ZY(s t:BY)(R p:Nat)(w:World)(b:zk w R s p)(a:p<=s.size)(c:s.size<=4000)(d:t.size<=100)(f:∀k,k<t.size->(t.data.toList.getD k 0).toNat≠0)(r:Rd.Res Unit)(h:Rd.zK s.data.toList (t.data.toList.map UInt8.toNat) p=r) :
  Calls prog 147 #[.pointer (some ⟨R,0,none⟩),.string t] w λe g=>Qe w R s r e g:=by
 rw[<- h];exact LP s t R p w b a c d f
theorem zT.keep{B R:Nat}{w a:World}(h:zT w)(d:zu B R w a)(c:R≠5)(b:5<B):zT a:=h.same (d.block _ b (λe=>c e.symm))
theorem FK(s:BY)(R p:Nat)(w:World)(O:zk w R s p)(hp:p<=s.size)(X:s.size<=4000)(W:zT w)(h:R≠5) :
  Calls prog 146 #[.pointer (some ⟨R,0,none⟩)] w λe g=>Zy w R s (Rd.xw s.data.toList p) e g:=by
 have C:Rd.xw s.data.toList p=Rd.xw s.data.toList p:=rfl
 conv at C=>rhs;unfold Rd.xw
 have a1:=W.lt;have m:=O.lt
 by_cases c1:Rd.zf s.data.toList p=34
 ·rw[if_pos c1] at C
  have l:Rd.zK s.data.toList ((ByteArray.mk #[34]).data.toList.map UInt8.toNat) p = .ok () (p+1):=by
   have:=Rd.fD s.data.toList p
   rw[if_pos c1] at this;exact this
  have x:=ZY s ⟨#[34]⟩ R p w O hp X (by decide) (by decide) _ l
  have z:=x.mono (R':=λe g=>e = .returned .nilIface/\w.grownBy g (some R)/\zk g R s (p+1)/\p+1<=s.size/\zT g) (by
   rintro e g ⟨rfl,V,L,h3⟩;exact⟨rfl,V,L,h3,W.grown V h⟩)
  have U:=hid C;clear l x C c1 O W;go_enter func146,ntmps146
  go_wp2_with (go_at_call 147;refine z.mono ?_;rintro e w1 ⟨rfl,n,r,D,N⟩)
  have I:=hid n;have K:=hid r;have J:=hid N;clear n r N z
  go_loopw [5] (λv wr=>∃(q f:Nat) (acc:BY),vG wr w.heap.size v acc/\zk wr R s q/\zu w.heap.size R w wr/\zT wr/\q<=s.size/\p+1<=q/\acc.size<=q-(p+1)/\s.size<q+f/\Rd.yE s.data.toList (p+1)=Rd.qa s.data.toList f q acc) (λ_ wr=>s.size-XB wr R)
  case atStart=>exact⟨p+1,s.data.toList.length+1-(p+1),⟨#[]⟩,World.ownsRow_nil _ _ _ _,K.out,zu.of I.out (Nat.le_refl _),J.out,D,Nat.le_refl _,Nat.zero_le _,by rw[Ref.zx];omega,rfl⟩
  case round=>
   obtain⟨q,f,acc,y,P,hk,Q,G,b6,b4,hf,S⟩:=hrel;have HO:=hid y;have HR:=hid P;have HK:=hid hk;have HS:=hid Q;have B:=hid S;clear y P hk Q S I K J;obtain⟨f,rfl⟩:∃k,f=k+1:=⟨f-1,by omega⟩;obtain⟨b,hb⟩:=Nm (Rd.zf s.data.toList q);have a6:b<256:=by rw[<- hb];exact Rd.uA _ _
   have E:=(Xd s R q _ HR.out G).mono (R':=λe g=>e = .returned (.int .u8 (b:Int))/\zk g R s q/\zu w.heap.size R w g/\zT g/\vG g w.heap.size u5 acc) (by
    rintro e g ⟨rfl,V,L,_,_⟩;exact⟨by rw[hb],V,HK.out.trans (zu.of L HK.out.size),HS.out.grown L h,yN HO.out L m⟩)
   by_cases c34:b=34
   ·have d34:((b:Int) != 34)=false:=by simp;omega
    have H:=hid (B.out.trans (Rd.Lg (by rw[hb];exact c34)))
    have a9:q<s.size:=by
     have:=Rd.zP s.data.toList q (by rw[hb];omega)
     rwa [Ref.zx] at this
    clear hb
    go_wp2_with (go_at_call 143;refine E.mono ?_;rintro e T ⟨rfl,d,a,j,i⟩;have Y:=hid d;have b5:=mW (yN i (xE T R 1 (.int .i64 ((q:Int)+1))) m);obtain⟨g1,g2,g3⟩:=d)
    go_ret2;refine Zy.of ?_ (U.out.trans H.out);refine⟨rfl,(a.trans (zu.of (xE _ _ _ _) a.size)).grown (Nat.le_refl _),?_,by omega⟩
    have:=Y.out.move (q+1)
    rwa [show ((q+1:Nat):Int)=(q:Int)+1 by omega] at this
   ·have d34:((b:Int) != 34)=true:=by simp;omega
    cases hx:Rd.xU s.data.toList q with
    | ok u q'=>
     have A:=hid (B.out.trans (Rd.Li (by rw[hb];exact c34) hx));have a5:=Rd.Kn hx;have Z:=hid hx;clear hb hx
     go_wp2_with (first
      | (go_at_call 143;refine E.mono ?_;rintro e T ⟨rfl,d,a,j,i⟩)
      | (go_at_call 194;refine (Ko s acc R q w.heap.size u5 T d G X j h i (by omega) m a.size _ Z.out).mono ?_;rintro e w3 ⟨⟨v3,rfl,a2⟩,o,t,F⟩))
     have e1:(acc++u).size=acc.size+u.size:=ByteArray.size_append;have a0:=HR.out.at;have M:=t.at
     go_roundw
     case rel=>exact⟨q',f,acc++u,a2,t,a.trans o,j.keep o h a1,F,by omega,by omega,by omega,A.out⟩
     case measure=>rw[a0,M];omega
    | err c q'=>
     have A:=hid (B.out.trans (Rd.Lh (by rw[hb];exact c34) hx));have Z:=hid hx;clear hb hx
     go_wp2_with (first
      | (go_at_call 143;refine E.mono ?_;rintro e T ⟨rfl,d,a,j,i⟩)
      | (go_at_call 194;refine (Ko s acc R q w.heap.size u5 T d G X j h i (by omega) m a.size _ Z.out).mono ?_;rintro e w3 ⟨⟨v3,rfl⟩,o,t,F⟩))
     go_ret2;refine Zy.of ?_ (U.out.trans A.out);exact⟨rfl,(a.trans o).grown (Nat.le_refl _),t,F⟩
 ·rw[if_neg c1] at C
  have l:Rd.zK s.data.toList ((ByteArray.mk #[34]).data.toList.map UInt8.toNat) p = .err 2 p:=by
   have:=Rd.fD s.data.toList p
   rw[if_neg c1] at this;exact this
  have x:=ZY s ⟨#[34]⟩ R p w O hp X (by decide) (by decide) _ l;have U:=hid C;clear l C c1 O W;go_enter func146,ntmps146
  go_wp2_with (go_at_call 147;refine x.mono ?_;rintro e w1 ⟨rfl,n,r,D⟩)
  go_ret2;refine Zy.of ?_ U.out;exact⟨rfl,n,r,D⟩
end Go.Proofs.YtdakgnaojakldaaGreatDoor
