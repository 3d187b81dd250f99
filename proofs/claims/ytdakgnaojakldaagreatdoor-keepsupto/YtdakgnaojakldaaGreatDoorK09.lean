/- P -/
import Derived.Shelf.Utf8.AppendRunePlain
import Derived.Test.YtdakgnaojakldaaGreatDoorK08
import Derived.Lib.AppendStr
import Derived.Deep.RegionLaw
import Derived.OwnWalk
import Derived.Maps.AppendAt
import Derived.Laws.IdiomStrings
open Go.Proofs.Tryz
set_option maxRecDepth 100000
set_option maxHeartbeats 2000000
namespace Go.Proofs.YtdakgnaojakldaaGreatDoor
open Go.Shelf
def Tryz.lays242_ren:Go.Shelf.Ren:=⟨λ|242=>229|278=>250|n=>n,λ|37=>256|21=>21|51=>398|4=>4|5=>5|46=>321|n=>n,λ|n=>n⟩
theorem Tryz.lays242:Go.Proofs.Lays.n242 prog Tryz.lays242_ren:={
 mixed:=by kernel_rfl
 f242:=func229.trans (congrArg some (by kernel_rfl))
 f278:=func250.trans (congrArg some (by kernel_rfl))
 t4:=underlying4
 a4:=Tryz.isAgg4
 z4:=Tryz.sizeOf4
 v4:=Tryz.zeroValue4
 t5:=underlying5
 a5:=Tryz.isAgg5
 z5:=Tryz.sizeOf5
 v5:=Tryz.zeroValue5
 t21:=underlying21
 a21:=Tryz.isAgg21
 z21:=Tryz.sizeOf21
 v21:=Tryz.zeroValue21
 t37:=underlying256
 a37:=Tryz.isAgg256
 z37:=Tryz.sizeOf256
 v37:=Tryz.zeroValue256
 t46:=underlying321
 a46:=Tryz.isAgg321
 z46:=Tryz.sizeOf321
 v46:=Tryz.zeroValue321
 t51:=underlying398
 a51:=Tryz.isAgg398
 z51:=Tryz.sizeOf398
 v51:=Tryz.zeroValue398 }
end Go.Proofs.YtdakgnaojakldaaGreatDoor
namespace Go.Proofs.YtdakgnaojakldaaGreatDoor
open Go.RowKit
structure zK (B R:Nat) (w w':World):Prop where
 os:w'.os=w.os
 tape:w'.tape=w.tape
 output:w'.output=w.output
 size:w.heap.size<=w'.heap.size
 block:∀k,k<B->k≠R->w'.heap[k]?=w.heap[k]?
theorem zK.refl(B R:Nat)(w:World):zK B R w w:=⟨rfl,rfl,rfl,ze _,λ_ _ _=>rfl⟩
theorem zK.trans{B R:Nat}{a b c:World}(h:zK B R a b)(k:zK B R b c):zK B R a c:=
 ⟨k.os.trans h.os,k.tape.trans h.tape,k.output.trans h.output,xe h.size k.size,λi d e=>(k.block i d e).trans (h.block i d e)⟩
theorem zK.of{B R:Nat}{w w':World}(a:w.grownBy w' (some R))(d:B<=w.heap.size):zK B R w w':=
 ⟨a.os,a.tape,a.output,a.size,λk c b=>a.block k (by omega) (by simp;exact b)⟩
theorem zK.own{B R:Nat}{w w':World}{row:Option Nat}(a:w.grownBy w' row)(b:∀k,row=some k->B<=k)(d:B<=w.heap.size):zK B R w w':=
 ⟨a.os,a.tape,a.output,a.size,λk c _=>a.block k (by omega) (λe=>by have:=b k e.symm;omega)⟩
theorem zK.grown{B R:Nat}{w w':World}(h:zK B R w w')(c:w.heap.size<=B):w.grownBy w' (some R):=
 ⟨h.os,h.tape,h.output,h.size,λk b a=>h.block k (by omega) (λe=>a (by rw[e]))⟩
theorem vJ{w w':World}{B R n:Nat}{e:TypeId}{v:Value}{xs:List Value}{a:Nat}(h:w.ownsRow B e a v n xs)(b:w.grownBy w' (some R))(c:R<B):w'.ownsRow B e a v n xs:=
 h.kept b (.inr (λe=>by have:=(h.lt R e).1;omega))
theorem zt.own{w w':World}{R:Nat}{s:BY}{p B n:Nat}{e:TypeId}{v:Value}{xs:List Value}{c:Nat}(h:zt w R s p)(b:w.ownsRow B e c v n xs)(a:w.grownBy w' v.ownBlock)(d:R<B):zt w' R s p:=
 h.same (a.block R h.lt (λe=>by have:=(b.lt R e.symm).1;omega))
def jh(w:World)(B:Nat)(v:Value)(t:BY):Prop:=w.ownsRow B 5 1 v t.size (Rd.yt t)
theorem VO:(prog.info? 5).map (λi=>(i.zero,i.size,i.bytes))=some (some (.int .u8 0),1,1):=by kernel_rfl
theorem fG(acc:BY)(N:Int)(l:0<=N)(m:N<=65535)(v:Value)(B R:Nat)(w:World)(a:jh w B v acc)(hlen:acc.size<=100000)(b:B<=w.heap.size)(p:R<B)(s:BY)(q:Nat)(j:zt w R s q) :
  Calls prog 229 #[v,.int .i32 N] w λe w'=>∃f,e = .returned f/\(¬(55296<=N/\N<=57343)->jh w' B f (acc++Ref.enc N))/\zK B R w w'/\zt w' R s q:=by
 refine (Go.Proofs.Any.utf8_AppendRune_plain Tryz.lays242 VO B v acc.size (Rd.yt acc) N (by omega) (by omega) w a (by omega) b).mono ?_;rintro e w' ⟨f,rfl,i,o,h⟩;have c:∀k,v.ownBlock=some k->B<=k:=λk g=>(World.ownsRow.lt a k g).1;have d:zK B R w (w.alloc o):=zK.own (xS w o none) (λk g=>by cases g) b;refine⟨f,rfl,λn=>?_,d.trans (zK.own h c (xe b d.size)),?_⟩
 ·rw[Rd.Oi N l m n,Rd.Am,<- Rd.VN] at i;unfold jh;rw[show (acc++Ref.enc N).size=acc.size+(Ref.enc N).size by simp];exact i
 ·exact (j.alloc o).same (h.block R (j.alloc o).lt (λe=>by have:=c R e.symm;omega))
def Zv(w:World)(R B:Nat)(s acc:BY)(r:Rd.Res BY)(e:Ending)(w':World):Prop:=match r with
 | .ok u q=>(∃a,e = .returned (.tuple #[a,.nilIface])/\jh w' B a (acc++u))/\zK B R w w'/\zt w' R s q/\q<=s.size
 | .err _ q=>(∃a,e = .returned (.tuple #[a,.iface 140 (.agg #[.int .i64 (q:Int)])]))/\zK B R w w'/\zt w' R s q/\q<=s.size
theorem Zv.of{w w':World}{R B:Nat}{s acc:BY}{r a:Rd.Res BY}{e:Ending}(h:Zv w R B s acc r e w')(b:a=r):Zv w R B s acc a e w':=b ▸ h
theorem rD{P:Program}{ops:Array Oper}{o:Oper}{a:Act}{w:World}{K:Act->World->Prop}{Q:Exit->Act->World->Prop}{E:Prop}
  (p:o.guard=none)(j x:Operand)(t u:TypeId)(h:o.op=Op.call { callee:=Callee.builtin Builtin.append,args:=#[j,x],argTypes:=#[t,u] })
  (base:Nat)(e:TypeId)(i:TypeInfo)(s:P.underlying t=some (.slice e))(y:P.underlying u=some .string)(hi:P.info? e=some i)(B:i.zero=some (.int .u8 0))(c:i.size=1)(g:i.bytes=1)
  (v:Value)(n:Nat)(xs:List Value)(r:a.eval j=v)(d:w.ownsRow base e 1 v n xs)(str:BY)(A:a.eval x = .string str)
  (hlen:n+str.size<=140737488355328)(b:base<=w.heap.size)
  (m:∀f w',w'.ownsRow base e 1 f (n+str.size) (xs++Lib.strCells str)->w.grownBy w' v.ownBlock->K (a.put o.dst f) w') :
  if Region.wanted o (yielded ops a.tmps)=true then Oper.wp P o a w K Q else E:=by
 have z:Region.wanted o (yielded ops a.tmps)=true:=by simp[Region.wanted,p]
 rw[zb z];obtain⟨f,w',q,k,l,_⟩:=Lib.run_append_own_string (P:=P) w base t u o.type e i s y hi B c g v n xs d str (by unfold maxLen;omega) hlen b;unfold Oper.wp;simp[execOp,h,resolve,invoke,builtin,r,A,q,Result.andThen];exact m f w' k l
theorem Eo(s:BY)(R p:Nat)(w:World)(i:zt w R s p)(g:p<=s.size)(j:s.size<=4000)(u:BY)(q:Nat)(h:Rd.uk s.data.toList p = .ok u q) :
  Calls prog 228 #[.pointer (some ⟨R,0,none⟩)] w λe w'=>∃N:Int,e = .returned (.tuple #[.int .i32 N,.nilIface])/\(u=Ref.enc N/\0<=N/\N<=65535/\¬(55296<=N/\N<=57343))/\w.grownBy w' (some R)/\zt w' R s q/\q<=s.size:=by
 refine (iV s R p w i g j).mono ?_;intro e w' a;rw[h] at a;obtain⟨⟨N,rfl,b⟩,c,d,f⟩:=a;exact⟨N,rfl,b,c,d,f⟩
theorem En(s:BY)(R p:Nat)(w:World)(j:zt w R s p)(i:p<=s.size)(k:s.size<=4000)(c:Int)(q:Nat)(h:Rd.uk s.data.toList p = .err c q) :
  Calls prog 228 #[.pointer (some ⟨R,0,none⟩)] w λe w'=>∃N:Int,e = .returned (.tuple #[.int .i32 N,.iface 140 (.agg #[.int .i64 (q:Int)])])/\(0<=N/\N<=65535)/\w.grownBy w' (some R)/\zt w' R s q/\q<=s.size:=by
 refine (iV s R p w j i k).mono ?_;intro e w' a;rw[h] at a;obtain⟨⟨N,rfl,b⟩,d,f,g⟩:=a;exact⟨N,rfl,b,d,f,g⟩
theorem pW(s:BY)(R p:Nat)(w:World)(c:zt w R s p)(a:p<=s.size)(d:s.size<=4000)(b:qx w)(r:Rd.Res BY)(h:Rd.j4 s.data.toList p=r) :
  Calls prog 230 #[.pointer (some ⟨R,0,none⟩)] w λe w'=>QC w R s p r e w':=by
 rw[<- h];exact OQ s R p w c a d b
theorem K8(s:BY)(p q:Nat):s.extract p q=Rd.piece s.data.toList p q:=by
 apply ZY;rw[Je];unfold Rd.piece;apply Q7.1;rw[UR]
theorem oL(s:BY)(p q:Nat):(Rd.piece s.data.toList p q).size<=q:=by
 unfold Rd.piece
 have:(List.take (q-p) (List.drop p s.data.toList)).length<=q-p:=List.length_take_le _ _
 simp only[ByteArray.size,List.size_toArray];omega
theorem Av(w:World)(x:Value)(t:TypeId)(k:Nat)(a:k=w.heap.size):∀j u,[x][j]?=some u->(w.alloc (.cells #[x] t)).cell? ((⟨k,0,none⟩:Addr).add j)=some u:=by
 subst a;exact cell_one_new w x t
theorem Qr(w:World)(a:Addr)(v:Value):(w.setCell a v).heap.size=w.heap.size:=by simp[World.setCell]
theorem Ba(s acc:BY)(R p B:Nat)(v:Value)(w:World)(hr:zt w R s p)(hp:p<=s.size)(hs:s.size<=4000)(hq:qx w)(a6:R≠5)(H:jh w B v acc)(b2:acc.size<=50000)(F:R<B)(a5:B<=w.heap.size) :
  Calls prog 194 #[.pointer (some ⟨R,0,none⟩),v] w λe w'=>Zv w R B s acc (Rd.jR s.data.toList p) e w':=by
 obtain⟨i0,hi,S,T,U⟩:=qO VO;have i:Rd.jR s.data.toList p=Rd.jR s.data.toList p:=rfl
 conv at i=>rhs;unfold Rd.jR
 simp only at i;obtain⟨b,hb⟩:=Nm (Rd.zi s.data.toList p)
 have o:Calls prog 143 #[.pointer (some ⟨R,0,none⟩)] w λe w'=>e = .returned (.int .u8 (b:Int))/\zt w' R s p/\zK B R w w'/\qx w'/\jh w' B v acc/\B<=w'.heap.size:=by
  refine (Y1 s R p w hr hp).mono ?_;rintro e w' ⟨rfl,h1,h2,h3,h4⟩;exact⟨by rw[hb],h1,zK.of h2 a5,hq.grown h2 a6,vJ H h2 F,by omega⟩
 rw[hb] at i;have b3:b<256:=by rw[<- hb];exact Rd.ZU _ _
 have I:b≠0->p<s.size:=λh=>by
  have:=Rd.qi s.data.toList p (by rw[hb];exact h)
  rwa [Ref.zz] at this
 have V:=hid I;clear hb I hr H hq
 by_cases c1:b<32
 ·rw[zb c1] at i;have D:=hid i;have d1:decide ((b:Int)<32)=true:=zB (by omega);clear i;go_enter func194,ntmps194
  go_wp2_with (first
   | (go_at_call 143;refine o.mono ?_;rintro e w1 ⟨rfl,a,l,y,g,f⟩)
   | (go_at_call 94;refine (Q6 s R p _ a).mono ?_;rintro e J ⟨rfl,rfl⟩))
  go_ret2;refine Zv.of ?_ D.out;exact⟨⟨v,rfl⟩,l,a,hp⟩
 rw[za c1] at i;have d1:decide ((b:Int)<32)=false:=zM (by omega);have c6:=V.out (by omega)
 by_cases c2:b=92
 ·rw[zb c2] at i;have hc:(b:Int)=92:=by omega
  cases hx:Rd.uk s.data.toList (p+1) with
  | ok u q=>
   rw[hx] at i;have D:=hid i;have L:=hid hx;clear i hx;go_enter func194,ntmps194
   go_wp2_with (first
    | (go_at_call 143;refine o.mono ?_;rintro e w1 ⟨rfl,a,l,y,g,f⟩;have r:=hid a;obtain⟨Y,Z,g3⟩:=a)
    | (go_at_call 228;refine (Eo s R (p+1) _ (by have:=r.out.move (p+1);rwa [show ((p+1:Nat):Int)=(p:Int)+1 by omega] at this) (by omega) hs u q L.out).mono ?_;rintro e J ⟨N,rfl,P,j,m,z⟩;have n:=zS (yO w1 R 1 (.int .i64 ((p:Int)+1))) j)
    | (go_at_call 229;refine (fG acc N P.2.1 P.2.2.1 v B R _ (vJ g n F) (by omega) (xe f n.size) F s q m).mono ?_;rintro e K ⟨G,rfl,x,t,A⟩))
   go_ret2;refine Zv.of ?_ D.out;exact⟨⟨G,rfl,by rw[P.1];exact x P.2.2.2⟩,(l.trans (zK.of n f)).trans t,A,z⟩
  | err c q=>
   rw[hx] at i;have D:=hid i;have L:=hid hx;clear i hx;go_enter func194,ntmps194
   go_wp2_with (first
    | (go_at_call 143;refine o.mono ?_;rintro e w1 ⟨rfl,a,l,y,g,f⟩;have r:=hid a;obtain⟨Y,Z,g3⟩:=a)
    | (go_at_call 228;refine (En s R (p+1) _ (by have:=r.out.move (p+1);rwa [show ((p+1:Nat):Int)=(p:Int)+1 by omega] at this) (by omega) hs c q L.out).mono ?_;rintro e J ⟨N,rfl,P,j,m,z⟩;have n:=zS (yO w1 R 1 (.int .i64 ((p:Int)+1))) j)
    | (go_at_call 229;refine (fG acc N P.1 P.2 v B R _ (vJ g n F) (by omega) (xe f n.size) F s q m).mono ?_;rintro e K ⟨G,rfl,x,t,A⟩))
   go_ret2;refine Zv.of ?_ D.out;exact⟨⟨G,rfl⟩,(l.trans (zK.of n f)).trans t,A,z⟩
 rw[za c2] at i;have d2:((b:Int)==92)=false:=by rw[qG];omega
 by_cases c3:b<128
 ·rw[zb c3] at i;have D:=hid i;have d3:decide ((b:Int)<128)=true:=zB (by omega);clear i;go_enter func194,ntmps194
  go_wp2_with (first
   | (go_at_call 143;refine o.mono ?_;rintro e w1 ⟨rfl,a,l,y,g,f⟩;have r:=hid a;obtain⟨Y,Z,g3⟩:=a;have n:=yO w1 R 1 (.int .i64 ((p:Int)+1));have C:=vJ g n F)
   | (at_builtin;refine yH _ rfl _ _ 256 rfl B 5 i0 (.int .u8 0) 1 1 underlying256 hi S T U rfl (by decide) _ _ _ rfl (C.alloc _) ⟨w1.heap.size,0,none⟩ 1 1 [.int .u8 (b:Int)] rfl rfl ?c1 ?c2 ?c3 ?c4 ?c5 ?_))
  case c1=>exact Av _ _ _ _ (Qr _ _ _).symm
  case c2=>intro u hu;simp at hu;subst hu;rfl
  case c3=>unfold maxLen;omega
  case c4=>omega
  case c5=>simp;omega
  intro G K x d _
  go_wp2
  go_ret2;refine Zv.of ?_ D.out;have m:zt (w1.setCell ⟨R,1,none⟩ (.int .i64 ((p:Int)+1))) R s (p+1):=by have:=r.out.move (p+1);rwa [show ((p+1:Nat):Int)=(p:Int)+1 by omega] at this
  have a7:zK B R w (w1.setCell ⟨R,1,none⟩ (.int .i64 ((p:Int)+1))):=l.trans (zK.of n f);have a8:∀O,zK B R w ((w1.setCell ⟨R,1,none⟩ (.int .i64 ((p:Int)+1))).alloc O):=λO=>a7.trans (zK.own (xS _ O none) (λk Q=>by cases Q) (by rw[Qr];exact f));refine⟨⟨G,rfl,?_⟩,(a8 _).trans (zK.own d (λk Q=>(World.ownsRow.lt g k Q).1) (by simp;omega)),(m.alloc _).own (C.alloc _) d F,by omega⟩;unfold jh;rw[Rd.VN]
  have e1:Rd.yt (Ref.one (b:Int))=[.int .u8 (b:Int)]:=by
   unfold Rd.yt Ref.one;simp only[yf,Za];rw[Rd.byte_of b (by omega) (by omega)]
  rw[e1,show (acc++Ref.one (b:Int)).size=acc.size+1 by rw[zH];rfl];exact x
 rw[za c3] at i;have d3:decide ((b:Int)<128)=false:=zM (by omega)
 cases hx:Rd.j4 s.data.toList p with
 | ok u q=>
  rw[hx] at i;have D:=hid i;have L:=hid hx;clear i hx;go_enter func194,ntmps194
  go_wp2_with (first
   | (go_at_call 143;refine o.mono ?_;rintro e w1 ⟨rfl,a,l,y,g,f⟩;have r:=hid a;obtain⟨Y,Z,g3⟩:=a)
   | (go_at_call 230;refine (pW s R p w1 r.out hp hs y _ L.out).mono ?_;rintro e J ⟨rfl,hu,j,m,z,a9⟩;have E:=hid m;have C:=vJ g j F;obtain⟨f1,f2,f3⟩:=m))
  have W:(p:Int)<=(q:Int):=by omega
  have X:(q:Int)<=(s.size:Int):=by omega
  have b0:(s.extract p q).size<=q:=by rw[K8];exact oL s p q
  have M:B<=J.heap.size:=xe f j.size
  go_region_law ((refine rD (by rfl) _ _ _ _ (by rfl) B 5 i0 underlying256 underlying9 hi S T U v acc.size (Rd.yt acc) (by rfl) C.drew (s.extract p q) (by rfl) (by omega) (by simp;omega) ?_;intro G K x d))
  all_goals
   go_wp2
   go_ret2;refine Zv.of ?_ D.out;have t:zK B R w K:=(l.trans (zK.of j f)).trans (zK.own (B:=B) (R:=R) (w:=J) ⟨d.os,d.tape,d.output,d.size,d.block⟩ (λk Q=>(World.ownsRow.lt g k Q).1) M);have A:zt K R s q:=E.out.same (d.block R E.out.lt (λe=>by have:=(World.ownsRow.lt g R e.symm).1;omega));refine⟨⟨G,rfl,?_⟩,t,A,z⟩;rw[hu,<- K8];unfold jh;rw[Rd.VN,zH];exact x
 | err c q=>
  rw[hx] at i;have D:=hid i;have L:=hid hx;clear i hx;go_enter func194,ntmps194
  go_wp2_with (first
   | (go_at_call 143;refine o.mono ?_;rintro e w1 ⟨rfl,a,l,y,g,f⟩;have r:=hid a;obtain⟨Y,Z,g3⟩:=a)
   | (go_at_call 230;refine (pW s R p w1 r.out hp hs y _ L.out).mono ?_;rintro e J ⟨rfl,j,m,z,a9⟩;have E:=hid m;have C:=vJ g j F;obtain⟨f1,f2,f3⟩:=m))
  have W:(p:Int)<=(q:Int):=by omega
  have X:(q:Int)<=(s.size:Int):=by omega
  have b0:(s.extract p q).size<=q:=by rw[K8];exact oL s p q
  have M:B<=J.heap.size:=xe f j.size
  go_region_law ((refine rD (by rfl) _ _ _ _ (by rfl) B 5 i0 underlying256 underlying9 hi S T U v acc.size (Rd.yt acc) (by rfl) C.drew (s.extract p q) (by rfl) (by omega) (by simp;omega) ?_;intro G K x d))
  all_goals
   go_wp2
   go_ret2;refine Zv.of ?_ D.out;have t:zK B R w K:=(l.trans (zK.of j f)).trans (zK.own (B:=B) (R:=R) (w:=J) ⟨d.os,d.tape,d.output,d.size,d.block⟩ (λk Q=>(World.ownsRow.lt g k Q).1) M);have A:zt K R s q:=E.out.same (d.block R E.out.lt (λe=>by have:=(World.ownsRow.lt g R e.symm).1;omega));exact⟨⟨G,rfl⟩,t,A,z⟩
theorem fV{w:World}{B:Nat}{v:Value}{t:BY}(h:jh w B v t):(convert 256 9 v).run prog w = .ok (.string t) w:=by
 rcases h.2 with ⟨rfl,h0⟩|⟨g,cap,cur,rfl,hB,hg,hrest⟩
 ·have e:t=⟨#[]⟩:=by
   apply ZY
   have:t.data.size=0:=h0
   exact Array.size_eq_zero_iff.1 this
  rw[e];rw[UC w _ _ _ none 0 0 underlying256 underlying5 underlying9]
  rfl
 ·have a:=World.ownsRow.cells h (g:=g) rfl
  have:=run_convert_bytes_back (P:=prog) w 256 9 5 ⟨g,0,none⟩ cap t.data.toList underlying256 underlying5 underlying9 (λj b=>a j _ (by unfold Rd.yt;rw[vv,zm b];rfl))
  rw[Ref.zz] at this;rw[this]
def Xd(w:World)(R:Nat)(s:BY)(r:Rd.Res BY)(e:Ending)(w':World):Prop:=match r with
 | .ok t q=>e = .returned (.tuple #[.string t,.nilIface])/\w.grownBy w' (some R)/\zt w' R s q/\q<=s.size
 | .err _ q=>e = .returned (.tuple #[.string ⟨#[]⟩,.iface 140 (.agg #[.int .i64 (q:Int)])])/\w.grownBy w' (some R)/\zt w' R s q/\q<=s.size
theorem Xd.of{w w':World}{R:Nat}{s:BY}{r a:Rd.Res BY}{e:Ending}(h:Xd w R s r e w')(b:a=r):Xd w R s a e w':=b ▸ h
theorem gK(s acc:BY)(R p B:Nat)(v:Value)(w:World)(j:zt w R s p)(g:p<=s.size)(k:s.size<=4000)(i:qx w)(d:R≠5)(b:jh w B v acc)(a:acc.size<=50000)(f:R<B)(c:B<=w.heap.size)(r:Rd.Res BY)(h:Rd.jR s.data.toList p=r) :
  Calls prog 194 #[.pointer (some ⟨R,0,none⟩),v] w λe w'=>Zv w R B s acc r e w':=by
 rw[<- h];exact Ba s acc R p B v w j g k i d b a f c
theorem Xy(s t:BY)(R p:Nat)(w:World)(b:zt w R s p)(a:p<=s.size)(c:s.size<=4000)(d:t.size<=100)(f:∀k,k<t.size->(t.data.toList.getD k 0).toNat≠0)(r:Rd.Res Unit)(h:Rd.qh s.data.toList (t.data.toList.map UInt8.toNat) p=r) :
  Calls prog 147 #[.pointer (some ⟨R,0,none⟩),.string t] w λe w'=>XM w R s r e w':=by
 rw[<- h];exact RL s t R p w b a c d f
theorem qx.keep{B R:Nat}{w w':World}(h:qx w)(c:zK B R w w')(b:R≠5)(a:5<B):qx w':=h.same (c.block _ a (λe=>b e.symm))
theorem Ny(s:BY)(R p:Nat)(w:World)(N:zt w R s p)(hp:p<=s.size)(W:s.size<=4000)(V:qx w)(g:R≠5) :
  Calls prog 146 #[.pointer (some ⟨R,0,none⟩)] w λe w'=>Xd w R s (Rd.yG s.data.toList p) e w':=by
 have B:Rd.yG s.data.toList p=Rd.yG s.data.toList p:=rfl
 conv at B=>rhs;unfold Rd.yG
 have a0:=V.lt;have l:=N.lt
 by_cases c1:Rd.zi s.data.toList p=34
 ·rw[zb c1] at B
  have j:Rd.qh s.data.toList ((ByteArray.mk #[34]).data.toList.map UInt8.toNat) p = .ok () (p+1):=by
   have:=Rd.oZ s.data.toList p
   rw[zb c1] at this;exact this
  have t:=Xy s ⟨#[34]⟩ R p w N hp W (by decide) (by decide) _ j
  have y:=t.mono (R':=λe w'=>e = .returned .nilIface/\w.grownBy w' (some R)/\zt w' R s (p+1)/\p+1<=s.size/\qx w') (by
   rintro e w' ⟨rfl,U,K,h3⟩;exact⟨rfl,U,K,h3,V.grown U g⟩)
  have T:=hid B;clear j t B c1 N V;go_enter func146,ntmps146
  go_wp2_with (go_at_call 147;refine y.mono ?_;rintro e w1 ⟨rfl,m,o,C,M⟩)
  have H:=hid m;have J:=hid o;have I:=hid M;clear m o M y
  go_loopw [5] (λv wr=>∃(q f:Nat) (acc:BY),jh wr w.heap.size v acc/\zt wr R s q/\zK w.heap.size R w wr/\qx wr/\q<=s.size/\p+1<=q/\acc.size<=q-(p+1)/\s.size<q+f/\Rd.vX s.data.toList (p+1)=Rd.qN s.data.toList f q acc) (λ_ wr=>s.size-Jv wr R)
  case atStart=>exact⟨p+1,s.data.toList.length+1-(p+1),⟨#[]⟩,qC _ _ _ _,J.out,zK.of H.out (ze _),I.out,C,ze _,zD _,by rw[Ref.zz];omega,rfl⟩
  case round=>
   obtain⟨q,f,acc,x,O,hk,P,F,b5,b3,hf,Q⟩:=hrel;have HO:=hid x;have HR:=hid O;have HK:=hid hk;have HS:=hid P;have A:=hid Q;clear x O hk P Q H J I;obtain⟨f,rfl⟩:∃k,f=k+1:=⟨f-1,by omega⟩;obtain⟨b,hb⟩:=Nm (Rd.zi s.data.toList q);have a5:b<256:=by rw[<- hb];exact Rd.ZU _ _
   have D:=(Y1 s R q _ HR.out F).mono (R':=λe w'=>e = .returned (.int .u8 (b:Int))/\zt w' R s q/\zK w.heap.size R w w'/\qx w'/\jh w' w.heap.size u5 acc) (by
    rintro e w' ⟨rfl,U,K,_,_⟩;exact⟨by rw[hb],U,HK.out.trans (zK.of K HK.out.size),HS.out.grown K g,vJ HO.out K l⟩)
   by_cases c34:b=34
   ·have d34:((b:Int) != 34)=false:=by simp;omega
    have G:=hid (A.out.trans (Rd.Rf (by rw[hb];exact c34)))
    have a8:q<s.size:=by
     have:=Rd.qi s.data.toList q (by rw[hb];omega)
     rwa [Ref.zz] at this
    clear hb
    go_wp2_with (go_at_call 143;refine D.mono ?_;rintro e S ⟨rfl,d,a,i,h⟩;have X:=hid d;have b4:=fV (vJ h (yO S R 1 (.int .i64 ((q:Int)+1))) l);obtain⟨g1,g2,g3⟩:=d)
    go_ret2;refine Xd.of ?_ (T.out.trans G.out);refine⟨rfl,(a.trans (zK.of (yO _ _ _ _) a.size)).grown (ze _),?_,by omega⟩
    have:=X.out.move (q+1)
    rwa [show ((q+1:Nat):Int)=(q:Int)+1 by omega] at this
   ·have d34:((b:Int) != 34)=true:=by simp;omega
    cases hx:Rd.jR s.data.toList q with
    | ok u q'=>
     have z:=hid (A.out.trans (Rd.Ri (by rw[hb];exact c34) hx));have a4:=Rd.gI hx;have Y:=hid hx;clear hb hx
     go_wp2_with (first
      | (go_at_call 143;refine D.mono ?_;rintro e S ⟨rfl,d,a,i,h⟩)
      | (go_at_call 194;refine (gK s acc R q w.heap.size u5 S d F W i g h (by omega) l a.size _ Y.out).mono ?_;rintro e w3 ⟨⟨v3,rfl,a1⟩,n,r,E⟩))
     have e1:(acc++u).size=acc.size+u.size:=zH;have Z:=HR.out.at;have L:=r.at
     go_roundw
     case rel=>exact⟨q',f,acc++u,a1,r,a.trans n,i.keep n g a0,E,by omega,by omega,by omega,z.out⟩
     case measure=>rw[Z,L];omega
    | err c q'=>
     have z:=hid (A.out.trans (Rd.Rh (by rw[hb];exact c34) hx));have Y:=hid hx;clear hb hx
     go_wp2_with (first
      | (go_at_call 143;refine D.mono ?_;rintro e S ⟨rfl,d,a,i,h⟩)
      | (go_at_call 194;refine (gK s acc R q w.heap.size u5 S d F W i g h (by omega) l a.size _ Y.out).mono ?_;rintro e w3 ⟨⟨v3,rfl⟩,n,r,E⟩))
     go_ret2;refine Xd.of ?_ (T.out.trans z.out);exact⟨rfl,(a.trans n).grown (ze _),r,E⟩
 ·rw[za c1] at B
  have j:Rd.qh s.data.toList ((ByteArray.mk #[34]).data.toList.map UInt8.toNat) p = .err 2 p:=by
   have:=Rd.oZ s.data.toList p
   rw[za c1] at this;exact this
  have t:=Xy s ⟨#[34]⟩ R p w N hp W (by decide) (by decide) _ j;have T:=hid B;clear j B c1 N V;go_enter func146,ntmps146
  go_wp2_with (go_at_call 147;refine t.mono ?_;rintro e w1 ⟨rfl,m,o,C⟩)
  go_ret2;refine Xd.of ?_ T.out;exact⟨rfl,m,o,C⟩
end Go.Proofs.YtdakgnaojakldaaGreatDoor
