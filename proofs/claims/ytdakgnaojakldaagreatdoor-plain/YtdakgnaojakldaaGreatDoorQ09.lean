/- P -/
import Derived.Shelf.Utf8.AppendRunePlain
import Derived.Test.YtdakgnaojakldaaGreatDoorQ08
import Derived.Lib.AppendStr
import Derived.Deep.RegionLaw
import Derived.OwnWalk
import Derived.Maps.AppendAt
import Derived.Laws.IdiomStrings
open Go.Proofs.Tryz
set_option maxRecDepth 100000
set_option maxHeartbeats 2000000
namespace Go.Proofs.YtdakgnaojakldaaGreatDoor
open Go.Shelf
def Tryz.lays242_ren:Go.Shelf.Ren:=⟨λ|242=>229|278=>250|n=>n,λ|37=>256|21=>21|51=>398|4=>4|5=>5|46=>321|n=>n,λ|n=>n⟩
theorem Tryz.lays242:Go.Proofs.Lays.n242 prog Tryz.lays242_ren:={
 mixed:=by kernel_rfl
 f242:=func229.trans (congrArg some (by kernel_rfl))
 f278:=func250.trans (congrArg some (by kernel_rfl))
 t4:=underlying4
 a4:=Tryz.isAgg4
 z4:=Tryz.sizeOf4
 v4:=Tryz.zeroValue4
 t5:=underlying5
 a5:=Tryz.isAgg5
 z5:=Tryz.sizeOf5
 v5:=Tryz.zeroValue5
 t21:=underlying21
 a21:=Tryz.isAgg21
 z21:=Tryz.sizeOf21
 v21:=Tryz.zeroValue21
 t37:=underlying256
 a37:=Tryz.isAgg256
 z37:=Tryz.sizeOf256
 v37:=Tryz.zeroValue256
 t46:=underlying321
 a46:=Tryz.isAgg321
 z46:=Tryz.sizeOf321
 v46:=Tryz.zeroValue321
 t51:=underlying398
 a51:=Tryz.isAgg398
 z51:=Tryz.sizeOf398
 v51:=Tryz.zeroValue398 }
end Go.Proofs.YtdakgnaojakldaaGreatDoor
namespace Go.Proofs.YtdakgnaojakldaaGreatDoor
open Go.RowKit
structure zK (B R:Nat) (w w':World):Prop where
 os:w'.os=w.os
 tape:w'.tape=w.tape
 output:w'.output=w.output
 size:w.heap.size<=w'.heap.size
 block:∀k,k<B->k≠R->w'.heap[k]?=w.heap[k]?
theorem zK.trans{B R:Nat}{a b c:World}(h:zK B R a b)(k:zK B R b c):zK B R a c:=
 ⟨k.os.trans h.os,k.tape.trans h.tape,k.output.trans h.output,jC h.size k.size,λi d e=>(k.block i d e).trans (h.block i d e)⟩
theorem zK.of{B R:Nat}{w b:World}(a:w.grownBy b (some R))(e:B<=w.heap.size):zK B R w b:=
 ⟨a.os,a.tape,a.output,a.size,λk d c=>a.block k (by omega) (by simp;exact c)⟩
theorem zK.own{B R:Nat}{w b:World}{row:Option Nat}(a:w.grownBy b row)(c:∀k,row=some k->B<=k)(f:B<=w.heap.size):zK B R w b:=
 ⟨a.os,a.tape,a.output,a.size,λk d _=>a.block k (by omega) (λe=>by have:=c k e.symm;omega)⟩
theorem zK.grown{B R:Nat}{w a:World}(h:zK B R w a)(d:w.heap.size<=B):w.grownBy a (some R):=
 ⟨h.os,h.tape,h.output,h.size,λk c b=>h.block k (by omega) (λe=>b (by rw[e]))⟩
theorem vD{w b:World}{B R n:Nat}{e:TypeId}{v:Value}{xs:List Value}{a:Nat}(h:w.ownsRow B e a v n xs)(c:w.grownBy b (some R))(d:R<B):b.ownsRow B e a v n xs:=
 h.kept c (.inr (λe=>by have:=(h.lt R e).1;omega))
theorem zm.own{w a:World}{R:Nat}{s:BA}{p B n:Nat}{e:TypeId}{v:Value}{xs:List Value}{d:Nat}(h:zm w R s p)(c:w.ownsRow B e d v n xs)(b:w.grownBy a v.ownBlock)(f:R<B):zm a R s p:=
 h.same (b.block R h.lt (λe=>by have:=(c.lt R e.symm).1;omega))
def ji(w:World)(B:Nat)(v:Value)(t:BA):Prop:=w.ownsRow B 5 1 v t.size (Rd.yu t)
theorem Un:(prog.info? 5).map (λi=>(i.zero,i.size,i.bytes))=some (some (.int .u8 0),1,1):=by kernel_rfl
theorem iA(acc:BA)(N:Int)(m:0<=N)(n:N<=65535)(v:Value)(B R:Nat)(w:World)(a:ji w B v acc)(hlen:acc.size<=100000)(b:B<=w.heap.size)(r:R<B)(s:BA)(q:Nat)(l:zm w R s q) :
  Calls prog 229 #[v,.int .i32 N] w λe g=>∃f,e = .returned f/\(¬(55296<=N/\N<=57343)->ji g B f (acc++Ref.enc N))/\zK B R w g/\zm g R s q:=by
 refine (Go.Proofs.Any.utf8_AppendRune_plain Tryz.lays242 Un B v acc.size (Rd.yu acc) N (by omega) (by omega) w a (by omega) b).mono ?_;rintro e g ⟨f,rfl,j,o,i⟩;have c:∀k,v.ownBlock=some k->B<=k:=λk h=>(World.ownsRow.lt a k h).1;have d:zK B R w (w.alloc o):=zK.own (yt w o none) (λk h=>by cases h) b;refine⟨f,rfl,λp=>?_,d.trans (zK.own i c (jC b d.size)),?_⟩
 ·rw[Rd.Si N m n p,Rd.Dm,<- Rd.Um] at j;unfold ji;rw[show (acc++Ref.enc N).size=acc.size+(Ref.enc N).size by simp];exact j
 ·exact (l.alloc o).same (i.block R (l.alloc o).lt (λe=>by have:=c R e.symm;omega))
def ZH(w:World)(R B:Nat)(s acc:BA)(r:Rd.Res BA)(e:Ending)(a:World):Prop:=match r with
 | .ok u q=>(∃b,e = .returned (.tuple #[b,.nilIface])/\ji a B b (acc++u))/\zK B R w a/\zm a R s q/\q<=s.size
 | .err _ q=>(∃b,e = .returned (.tuple #[b,.iface 140 (.agg #[.int .i64 (q:Int)])]))/\zK B R w a/\zm a R s q/\q<=s.size
theorem ZH.of{w b:World}{R B:Nat}{s acc:BA}{r a:Rd.Res BA}{e:Ending}(h:ZH w R B s acc r e b)(c:a=r):ZH w R B s acc a e b:=c ▸ h
theorem wU{P:Program}{ops:Array Oper}{o:Oper}{a:Act}{w:World}{K:Act->World->Prop}{Q:Exit->Act->World->Prop}{E:Prop}
  (q:o.guard=none)(k x:Operand)(t u:TypeId)(j:o.op=Op.call { callee:=Callee.builtin Builtin.append,args:=#[k,x],argTypes:=#[t,u] })
  (base:Nat)(e:TypeId)(i:TypeInfo)(y:P.underlying t=some (.slice e))(z:P.underlying u=some .string)(hi:P.info? e=some i)(C:i.zero=some (.int .u8 0))(c:i.size=1)(h:i.bytes=1)
  (v:Value)(n:Nat)(xs:List Value)(s:a.eval k=v)(d:w.ownsRow base e 1 v n xs)(str:BA)(B:a.eval x = .string str)
  (hlen:n+str.size<=140737488355328)(b:base<=w.heap.size)
  (p:∀g f,f.ownsRow base e 1 g (n+str.size) (xs++Lib.strCells str)->w.grownBy f v.ownBlock->K (a.put o.dst g) f) :
  if Region.wanted o (yielded ops a.tmps)=true then Oper.wp P o a w K Q else E:=by
 have A:Region.wanted o (yielded ops a.tmps)=true:=by simp[Region.wanted,q]
 rw[zb A];obtain⟨g,f,r,l,m,_⟩:=Lib.run_append_own_string (P:=P) w base t u o.type e i y z hi C c h v n xs d str (by unfold maxLen;omega) hlen b;unfold Oper.wp;simp[execOp,j,resolve,invoke,builtin,s,B,r,Result.andThen];exact p g f l m
theorem Gn(s:BA)(R p:Nat)(w:World)(j:zm w R s p)(i:p<=s.size)(k:s.size<=4000)(u:BA)(q:Nat)(h:Rd.jS s.data.toList p = .ok u q) :
  Calls prog 228 #[.pointer (some ⟨R,0,none⟩)] w λe a=>∃N:Int,e = .returned (.tuple #[.int .i32 N,.nilIface])/\(u=Ref.enc N/\0<=N/\N<=65535/\¬(55296<=N/\N<=57343))/\w.grownBy a (some R)/\zm a R s q/\q<=s.size:=by
 refine (nk s R p w j i k).mono ?_;intro e a b;rw[h] at b;obtain⟨⟨N,rfl,c⟩,d,f,g⟩:=b;exact⟨N,rfl,c,d,f,g⟩
theorem Gm(s:BA)(R p:Nat)(w:World)(k:zm w R s p)(j:p<=s.size)(l:s.size<=4000)(c:Int)(q:Nat)(h:Rd.jS s.data.toList p = .err c q) :
  Calls prog 228 #[.pointer (some ⟨R,0,none⟩)] w λe a=>∃N:Int,e = .returned (.tuple #[.int .i32 N,.iface 140 (.agg #[.int .i64 (q:Int)])])/\(0<=N/\N<=65535)/\w.grownBy a (some R)/\zm a R s q/\q<=s.size:=by
 refine (nk s R p w k j l).mono ?_;intro e a b;rw[h] at b;obtain⟨⟨N,rfl,d⟩,f,g,i⟩:=b;exact⟨N,rfl,d,f,g,i⟩
theorem wD(s:BA)(R p:Nat)(w:World)(c:zm w R s p)(a:p<=s.size)(d:s.size<=4000)(b:qA w)(r:Rd.Res BA)(h:Rd.jJ s.data.toList p=r) :
  Calls prog 230 #[.pointer (some ⟨R,0,none⟩)] w λe f=>Q5 w R s p r e f:=by
 rw[<- h];exact Te s R p w c a d b
theorem bg(s:BA)(p q:Nat):s.extract p q=Rd.piece s.data.toList p q:=by
 apply jk;rw[XB];unfold Rd.piece;apply Xy.1;rw[YV]
theorem sI(s:BA)(p q:Nat):(Rd.piece s.data.toList p q).size<=q:=by
 unfold Rd.piece
 have:(List.take (q-p) (List.drop p s.data.toList)).length<=q-p:=List.length_take_le _ _
 simp only[ByteArray.size,List.size_toArray];omega
theorem Dt(w:World)(x:Value)(t:TypeId)(k:Nat)(a:k=w.heap.size):∀j u,[x][j]?=some u->(w.alloc (.cells #[x] t)).cell? ((⟨k,0,none⟩:Addr).add j)=some u:=by
 subst a;exact cell_one_new w x t
theorem QL(w:World)(a:Addr)(v:Value):(w.setCell a v).heap.size=w.heap.size:=by simp[World.setCell]
theorem DK(s acc:BA)(R p B:Nat)(v:Value)(w:World)(hr:zm w R s p)(hp:p<=s.size)(hs:s.size<=4000)(hq:qA w)(a8:R≠5)(I:ji w B v acc)(b4:acc.size<=50000)(G:R<B)(a7:B<=w.heap.size) :
  Calls prog 194 #[.pointer (some ⟨R,0,none⟩),v] w λe K=>ZH w R B s acc (Rd.yw s.data.toList p) e K:=by
 obtain⟨i0,hi,U,V,W⟩:=yU Un;have i:Rd.yw s.data.toList p=Rd.yw s.data.toList p:=rfl
 conv at i=>rhs;unfold Rd.yw
 simp only at i;obtain⟨b,hb⟩:=Nm (Rd.zi s.data.toList p)
 have o:Calls prog 143 #[.pointer (some ⟨R,0,none⟩)] w λe K=>e = .returned (.int .u8 (b:Int))/\zm K R s p/\zK B R w K/\qA K/\ji K B v acc/\B<=K.heap.size:=by
  refine (JL s R p w hr hp).mono ?_;rintro e K ⟨rfl,h1,h2,h3,h4⟩;exact⟨by rw[hb],h1,zK.of h2 a7,hq.grown h2 a8,vD I h2 G,by omega⟩
 rw[hb] at i;have b5:b<256:=by rw[<- hb];exact Rd.Z9 _ _
 have J:b≠0->p<s.size:=λh=>by
  have:=Rd.qy s.data.toList p (by rw[hb];exact h)
  rwa [Ref.zG] at this
 have X:=hid J;clear hb J hr I hq
 by_cases c1:b<32
 ·rw[zb c1] at i;have E:=hid i;have d1:decide ((b:Int)<32)=true:=zF (by omega);clear i;go_enter func194,ntmps194
  go_wp2_with (first
   | (go_at_call 143;refine o.mono ?_;rintro e C ⟨rfl,a,l,y,g,f⟩)
   | (go_at_call 94;refine (Xw s R p _ a).mono ?_;rintro e L ⟨rfl,rfl⟩))
  go_ret2;refine ZH.of ?_ E.out;exact⟨⟨v,rfl⟩,l,a,hp⟩
 rw[za c1] at i;have d1:decide ((b:Int)<32)=false:=zH (by omega);have c8:=X.out (by omega)
 by_cases c2:b=92
 ·rw[zb c2] at i;have hc:(b:Int)=92:=by omega
  cases hx:Rd.jS s.data.toList (p+1) with
  | ok u q=>
   rw[hx] at i;have E:=hid i;have P:=hid hx;clear i hx;go_enter func194,ntmps194
   go_wp2_with (first
    | (go_at_call 143;refine o.mono ?_;rintro e C ⟨rfl,a,l,y,g,f⟩;have r:=hid a;obtain⟨g1,g2,g3⟩:=a)
    | (go_at_call 228;refine (Gn s R (p+1) _ (by have:=r.out.move (p+1);rwa [show ((p+1:Nat):Int)=(p:Int)+1 by omega] at this) (by omega) hs u q P.out).mono ?_;rintro e L ⟨N,rfl,S,j,m,z⟩;have n:=zZ (yT C R 1 (.int .i64 ((p:Int)+1))) j)
    | (go_at_call 229;refine (iA acc N S.2.1 S.2.2.1 v B R _ (vD g n G) (by omega) (jC f n.size) G s q m).mono ?_;rintro e M ⟨H,rfl,x,t,A⟩))
   go_ret2;refine ZH.of ?_ E.out;exact⟨⟨H,rfl,by rw[S.1];exact x S.2.2.2⟩,(l.trans (zK.of n f)).trans t,A,z⟩
  | err c q=>
   rw[hx] at i;have E:=hid i;have P:=hid hx;clear i hx;go_enter func194,ntmps194
   go_wp2_with (first
    | (go_at_call 143;refine o.mono ?_;rintro e C ⟨rfl,a,l,y,g,f⟩;have r:=hid a;obtain⟨g1,g2,g3⟩:=a)
    | (go_at_call 228;refine (Gm s R (p+1) _ (by have:=r.out.move (p+1);rwa [show ((p+1:Nat):Int)=(p:Int)+1 by omega] at this) (by omega) hs c q P.out).mono ?_;rintro e L ⟨N,rfl,S,j,m,z⟩;have n:=zZ (yT C R 1 (.int .i64 ((p:Int)+1))) j)
    | (go_at_call 229;refine (iA acc N S.1 S.2 v B R _ (vD g n G) (by omega) (jC f n.size) G s q m).mono ?_;rintro e M ⟨H,rfl,x,t,A⟩))
   go_ret2;refine ZH.of ?_ E.out;exact⟨⟨H,rfl⟩,(l.trans (zK.of n f)).trans t,A,z⟩
 rw[za c2] at i;have d2:((b:Int)==92)=false:=by rw[qQ];omega
 by_cases c3:b<128
 ·rw[zb c3] at i;have E:=hid i;have d3:decide ((b:Int)<128)=true:=zF (by omega);clear i;go_enter func194,ntmps194
  go_wp2_with (first
   | (go_at_call 143;refine o.mono ?_;rintro e C ⟨rfl,a,l,y,g,f⟩;have r:=hid a;obtain⟨g1,g2,g3⟩:=a;have n:=yT C R 1 (.int .i64 ((p:Int)+1));have D:=vD g n G)
   | (at_builtin;refine vL _ rfl _ _ 256 rfl B 5 i0 (.int .u8 0) 1 1 underlying256 hi U V W rfl (by decide) _ _ _ rfl (D.alloc _) ⟨C.heap.size,0,none⟩ 1 1 [.int .u8 (b:Int)] rfl rfl ?c1 ?c2 ?c3 ?c4 ?c5 ?_))
  case c1=>exact Dt _ _ _ _ (QL _ _ _).symm
  case c2=>intro u hu;simp at hu;subst hu;rfl
  case c3=>unfold maxLen;omega
  case c4=>omega
  case c5=>simp;omega
  intro H M x d _
  go_wp2
  go_ret2;refine ZH.of ?_ E.out;have m:zm (C.setCell ⟨R,1,none⟩ (.int .i64 ((p:Int)+1))) R s (p+1):=by have:=r.out.move (p+1);rwa [show ((p+1:Nat):Int)=(p:Int)+1 by omega] at this
  have a9:zK B R w (C.setCell ⟨R,1,none⟩ (.int .i64 ((p:Int)+1))):=l.trans (zK.of n f);have b0:∀O,zK B R w ((C.setCell ⟨R,1,none⟩ (.int .i64 ((p:Int)+1))).alloc O):=λO=>a9.trans (zK.own (yt _ O none) (λk T=>by cases T) (by rw[QL];exact f));refine⟨⟨H,rfl,?_⟩,(b0 _).trans (zK.own d (λk T=>(World.ownsRow.lt g k T).1) (by simp;omega)),(m.alloc _).own (D.alloc _) d G,by omega⟩;unfold ji;rw[Rd.Um]
  have e1:Rd.yu (Ref.one (b:Int))=[.int .u8 (b:Int)]:=by
   unfold Rd.yu Ref.one;simp only[yn,vg];rw[Rd.byte_of b (by omega) (by omega)]
  rw[e1,show (acc++Ref.one (b:Int)).size=acc.size+1 by rw[zI];rfl];exact x
 rw[za c3] at i;have d3:decide ((b:Int)<128)=false:=zH (by omega)
 cases hx:Rd.jJ s.data.toList p with
 | ok u q=>
  rw[hx] at i;have E:=hid i;have P:=hid hx;clear i hx;go_enter func194,ntmps194
  go_wp2_with (first
   | (go_at_call 143;refine o.mono ?_;rintro e C ⟨rfl,a,l,y,g,f⟩;have r:=hid a;obtain⟨g1,g2,g3⟩:=a)
   | (go_at_call 230;refine (wD s R p C r.out hp hs y _ P.out).mono ?_;rintro e L ⟨rfl,hu,j,m,z,b1⟩;have F:=hid m;have D:=vD g j G;obtain⟨f1,f2,f3⟩:=m))
  have Y:(p:Int)<=(q:Int):=by omega
  have Z:(q:Int)<=(s.size:Int):=by omega
  have b2:(s.extract p q).size<=q:=by rw[bg];exact sI s p q
  have Q:B<=L.heap.size:=jC f j.size
  go_region_law ((refine wU (by rfl) _ _ _ _ (by rfl) B 5 i0 underlying256 underlying9 hi U V W v acc.size (Rd.yu acc) (by rfl) D.drew (s.extract p q) (by rfl) (by omega) (by simp;omega) ?_;intro H M x d))
  all_goals
   go_wp2
   go_ret2;refine ZH.of ?_ E.out;have t:zK B R w M:=(l.trans (zK.of j f)).trans (zK.own (B:=B) (R:=R) (w:=L) ⟨d.os,d.tape,d.output,d.size,d.block⟩ (λk T=>(World.ownsRow.lt g k T).1) Q);have A:zm M R s q:=F.out.same (d.block R F.out.lt (λe=>by have:=(World.ownsRow.lt g R e.symm).1;omega));refine⟨⟨H,rfl,?_⟩,t,A,z⟩;rw[hu,<- bg];unfold ji;rw[Rd.Um,zI];exact x
 | err c q=>
  rw[hx] at i;have E:=hid i;have P:=hid hx;clear i hx;go_enter func194,ntmps194
  go_wp2_with (first
   | (go_at_call 143;refine o.mono ?_;rintro e C ⟨rfl,a,l,y,g,f⟩;have r:=hid a;obtain⟨g1,g2,g3⟩:=a)
   | (go_at_call 230;refine (wD s R p C r.out hp hs y _ P.out).mono ?_;rintro e L ⟨rfl,j,m,z,b1⟩;have F:=hid m;have D:=vD g j G;obtain⟨f1,f2,f3⟩:=m))
  have Y:(p:Int)<=(q:Int):=by omega
  have Z:(q:Int)<=(s.size:Int):=by omega
  have b2:(s.extract p q).size<=q:=by rw[bg];exact sI s p q
  have Q:B<=L.heap.size:=jC f j.size
  go_region_law ((refine wU (by rfl) _ _ _ _ (by rfl) B 5 i0 underlying256 underlying9 hi U V W v acc.size (Rd.yu acc) (by rfl) D.drew (s.extract p q) (by rfl) (by omega) (by simp;omega) ?_;intro H M x d))
  all_goals
   go_wp2
   go_ret2;refine ZH.of ?_ E.out;have t:zK B R w M:=(l.trans (zK.of j f)).trans (zK.own (B:=B) (R:=R) (w:=L) ⟨d.os,d.tape,d.output,d.size,d.block⟩ (λk T=>(World.ownsRow.lt g k T).1) Q);have A:zm M R s q:=F.out.same (d.block R F.out.lt (λe=>by have:=(World.ownsRow.lt g R e.symm).1;omega));exact⟨⟨H,rfl⟩,t,A,z⟩
theorem iR{w:World}{B:Nat}{v:Value}{t:BA}(h:ji w B v t):(convert 256 9 v).run prog w = .ok (.string t) w:=by
 rcases h.2 with ⟨rfl,h0⟩|⟨g,cap,cur,rfl,hB,hg,hrest⟩
 ·have e:t=⟨#[]⟩:=by
   apply jk
   have:t.data.size=0:=h0
   exact Array.size_eq_zero_iff.1 this
  rw[e];rw[run_convert_bytes_string w _ _ _ none 0 0 underlying256 underlying5 underlying9]
  rfl
 ·have a:=World.ownsRow.cells h (g:=g) rfl
  have:=run_convert_bytes_back (P:=prog) w 256 9 5 ⟨g,0,none⟩ cap t.data.toList underlying256 underlying5 underlying9 (λj b=>a j _ (by unfold Rd.yu;rw[jN,zl b];rfl))
  rw[Ref.zG] at this;rw[this]
def XH(w:World)(R:Nat)(s:BA)(r:Rd.Res BA)(e:Ending)(a:World):Prop:=match r with
 | .ok t q=>e = .returned (.tuple #[.string t,.nilIface])/\w.grownBy a (some R)/\zm a R s q/\q<=s.size
 | .err _ q=>e = .returned (.tuple #[.string ⟨#[]⟩,.iface 140 (.agg #[.int .i64 (q:Int)])])/\w.grownBy a (some R)/\zm a R s q/\q<=s.size
theorem XH.of{w b:World}{R:Nat}{s:BA}{r a:Rd.Res BA}{e:Ending}(h:XH w R s r e b)(c:a=r):XH w R s a e b:=c ▸ h
theorem lu(s acc:BA)(R p B:Nat)(v:Value)(w:World)(j:zm w R s p)(g:p<=s.size)(k:s.size<=4000)(i:qA w)(d:R≠5)(b:ji w B v acc)(a:acc.size<=50000)(f:R<B)(c:B<=w.heap.size)(r:Rd.Res BA)(h:Rd.yw s.data.toList p=r) :
  Calls prog 194 #[.pointer (some ⟨R,0,none⟩),v] w λe l=>ZH w R B s acc r e l:=by
 rw[<- h];exact DK s acc R p B v w j g k i d b a f c
theorem X6(s t:BA)(R p:Nat)(w:World)(b:zm w R s p)(a:p<=s.size)(c:s.size<=4000)(d:t.size<=100)(f:∀k,k<t.size->(t.data.toList.getD k 0).toNat≠0)(r:Rd.Res Unit)(h:Rd.qf s.data.toList (t.data.toList.map UInt8.toNat) p=r) :
  Calls prog 147 #[.pointer (some ⟨R,0,none⟩),.string t] w λe g=>Yn w R s r e g:=by
 rw[<- h];exact WS s t R p w b a c d f
theorem qA.keep{B R:Nat}{w a:World}(h:qA w)(d:zK B R w a)(c:R≠5)(b:5<B):qA a:=h.same (d.block _ b (λe=>c e.symm))
theorem Ri(s:BA)(R p:Nat)(w:World)(O:zm w R s p)(hp:p<=s.size)(X:s.size<=4000)(W:qA w)(h:R≠5) :
  Calls prog 146 #[.pointer (some ⟨R,0,none⟩)] w λe g=>XH w R s (Rd.yM s.data.toList p) e g:=by
 have C:Rd.yM s.data.toList p=Rd.yM s.data.toList p:=rfl
 conv at C=>rhs;unfold Rd.yM
 have a1:=W.lt;have m:=O.lt
 by_cases c1:Rd.zi s.data.toList p=34
 ·rw[zb c1] at C
  have l:Rd.qf s.data.toList ((ByteArray.mk #[34]).data.toList.map UInt8.toNat) p = .ok () (p+1):=by
   have:=Rd.sW s.data.toList p
   rw[zb c1] at this;exact this
  have x:=X6 s ⟨#[34]⟩ R p w O hp X (by decide) (by decide) _ l
  have z:=x.mono (R':=λe g=>e = .returned .nilIface/\w.grownBy g (some R)/\zm g R s (p+1)/\p+1<=s.size/\qA g) (by
   rintro e g ⟨rfl,V,L,h3⟩;exact⟨rfl,V,L,h3,W.grown V h⟩)
  have U:=hid C;clear l x C c1 O W;go_enter func146,ntmps146
  go_wp2_with (go_at_call 147;refine z.mono ?_;rintro e w1 ⟨rfl,n,r,D,N⟩)
  have I:=hid n;have K:=hid r;have J:=hid N;clear n r N z
  go_loopw [5] (λv wr=>∃(q f:Nat) (acc:BA),ji wr w.heap.size v acc/\zm wr R s q/\zK w.heap.size R w wr/\qA wr/\q<=s.size/\p+1<=q/\acc.size<=q-(p+1)/\s.size<q+f/\Rd.jY s.data.toList (p+1)=Rd.qJ s.data.toList f q acc) (λ_ wr=>s.size-Vj wr R)
  case atStart=>exact⟨p+1,s.data.toList.length+1-(p+1),⟨#[]⟩,uw _ _ _ _,K.out,zK.of I.out (ze _),J.out,D,ze _,zO _,by rw[Ref.zG];omega,rfl⟩
  case round=>
   obtain⟨q,f,acc,y,P,hk,Q,G,b6,b4,hf,S⟩:=hrel;have HO:=hid y;have HR:=hid P;have HK:=hid hk;have HS:=hid Q;have B:=hid S;clear y P hk Q S I K J;obtain⟨f,rfl⟩:∃k,f=k+1:=⟨f-1,by omega⟩;obtain⟨b,hb⟩:=Nm (Rd.zi s.data.toList q);have a6:b<256:=by rw[<- hb];exact Rd.Z9 _ _
   have E:=(JL s R q _ HR.out G).mono (R':=λe g=>e = .returned (.int .u8 (b:Int))/\zm g R s q/\zK w.heap.size R w g/\qA g/\ji g w.heap.size u5 acc) (by
    rintro e g ⟨rfl,V,L,_,_⟩;exact⟨by rw[hb],V,HK.out.trans (zK.of L HK.out.size),HS.out.grown L h,vD HO.out L m⟩)
   by_cases c34:b=34
   ·have d34:((b:Int) != 34)=false:=by simp;omega
    have H:=hid (B.out.trans (Rd.Wq (by rw[hb];exact c34)))
    have a9:q<s.size:=by
     have:=Rd.qy s.data.toList q (by rw[hb];omega)
     rwa [Ref.zG] at this
    clear hb
    go_wp2_with (go_at_call 143;refine E.mono ?_;rintro e T ⟨rfl,d,a,j,i⟩;have Y:=hid d;have b5:=iR (vD i (yT T R 1 (.int .i64 ((q:Int)+1))) m);obtain⟨g1,g2,g3⟩:=d)
    go_ret2;refine XH.of ?_ (U.out.trans H.out);refine⟨rfl,(a.trans (zK.of (yT _ _ _ _) a.size)).grown (ze _),?_,by omega⟩
    have:=Y.out.move (q+1)
    rwa [show ((q+1:Nat):Int)=(q:Int)+1 by omega] at this
   ·have d34:((b:Int) != 34)=true:=by simp;omega
    cases hx:Rd.yw s.data.toList q with
    | ok u q'=>
     have A:=hid (B.out.trans (Rd.Wt (by rw[hb];exact c34) hx));have a5:=Rd.lq hx;have Z:=hid hx;clear hb hx
     go_wp2_with (first
      | (go_at_call 143;refine E.mono ?_;rintro e T ⟨rfl,d,a,j,i⟩)
      | (go_at_call 194;refine (lu s acc R q w.heap.size u5 T d G X j h i (by omega) m a.size _ Z.out).mono ?_;rintro e w3 ⟨⟨v3,rfl,a2⟩,o,t,F⟩))
     have e1:(acc++u).size=acc.size+u.size:=zI;have a0:=HR.out.at;have M:=t.at
     go_roundw
     case rel=>exact⟨q',f,acc++u,a2,t,a.trans o,j.keep o h a1,F,by omega,by omega,by omega,A.out⟩
     case measure=>rw[a0,M];omega
    | err c q'=>
     have A:=hid (B.out.trans (Rd.Ws (by rw[hb];exact c34) hx));have Z:=hid hx;clear hb hx
     go_wp2_with (first
      | (go_at_call 143;refine E.mono ?_;rintro e T ⟨rfl,d,a,j,i⟩)
      | (go_at_call 194;refine (lu s acc R q w.heap.size u5 T d G X j h i (by omega) m a.size _ Z.out).mono ?_;rintro e w3 ⟨⟨v3,rfl⟩,o,t,F⟩))
     go_ret2;refine XH.of ?_ (U.out.trans A.out);exact⟨rfl,(a.trans o).grown (ze _),t,F⟩
 ·rw[za c1] at C
  have l:Rd.qf s.data.toList ((ByteArray.mk #[34]).data.toList.map UInt8.toNat) p = .err 2 p:=by
   have:=Rd.sW s.data.toList p
   rw[za c1] at this;exact this
  have x:=X6 s ⟨#[34]⟩ R p w O hp X (by decide) (by decide) _ l;have U:=hid C;clear l C c1 O W;go_enter func146,ntmps146
  go_wp2_with (go_at_call 147;refine x.mono ?_;rintro e w1 ⟨rfl,n,r,D⟩)
  go_ret2;refine XH.of ?_ U.out;exact⟨rfl,n,r,D⟩
end Go.Proofs.YtdakgnaojakldaaGreatDoor
