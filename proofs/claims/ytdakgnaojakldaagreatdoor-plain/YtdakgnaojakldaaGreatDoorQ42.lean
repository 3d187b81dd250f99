/- P -/
import Derived.Deep.DrawnRows
import Derived.Test.YtdakgnaojakldaaGreatDoorQ41
import Derived.Test.YtdakgnaojakldaaGreatDoorQ32
open Go.Proofs.Tryz
set_option maxRecDepth 100000
set_option maxHeartbeats 1000000
namespace Go.Proofs.YtdakgnaojakldaaGreatDoor
open Go.RowKit
def pM(l:List Nat):List Value:=l.map λ(n:Nat)=>Value.int .i64 (n:Int)
def rq:List Ref.Node->List (Value×Value)->List Value
 | n::ns,v::vs => .int .i64 n.kind :: .string n.text::v.1::v.2::rq ns vs
 | _,_=>[]
def Nc(m:Ref.zn)(b a:Value):Array Value:=
 #[.int .i64 m.state,b,a,.bool m.named,.string m.got,.int .i64 m.need,.int .u8 m.low,.int .u8 m.high,.int .i64 m.number,.string m.word,.int .i64 m.root]
structure gZ (w:World) (base b:Nat) (m:Ref.zn) (ov nv:Value) (vs:List (Value×Value)):Prop where
 hb:base<=b
 blk:w.heap[b]?=some (.cells (Nc m ov nv) 155 (0,0))
 ownO:w.ownsRow base 3 1 ov m.opn.length (pM m.opn)
 ownN:w.ownsRow base 152 4 nv m.nodes.length (rq m.nodes vs)
 len:vs.length=m.nodes.length
 names:∀(i:Nat) (n:Ref.Node) (v:Value×Value),m.nodes[i]?=some n->vs[i]?=some v->w.ownsRow base 9 1 v.1 n.names.length (Ref.strCells n.names)
 kids:∀(i:Nat) (n:Ref.Node) (v:Value×Value),m.nodes[i]?=some n->vs[i]?=some v->w.ownsRow base 3 1 v.2 n.kids.length (pM n.kids)
 sepO:∀(i:Nat) (v:Value×Value) (g:Nat),vs[i]?=some v->v.2.ownBlock=some g->ov.ownBlock≠some g
 sepK:∀(i j:Nat) (v v':Value×Value) (g:Nat),vs[i]?=some v->vs[j]?=some v'->i≠j->v.2.ownBlock=some g->v'.2.ownBlock≠some g
 sepN:∀(i j:Nat) (v v':Value×Value) (g:Nat),vs[i]?=some v->vs[j]?=some v'->i≠j->v.1.ownBlock=some g->v'.1.ownBlock≠some g
attribute [local go_sem ↓] Go.wp_at_zero Go.wp_at_succ
attribute [local go_sem ↓] Go.wp_at_zero Go.wp_at_succ
def Stepped(base b:Nat)(r:Int×Ref.zn)(w:World)(e:Ending)(a:World):Prop:=
 e = .returned (.int .i64 r.1)/\Below base w a/\(r.1=0->∃d c f,gZ a base b r.2 d c f)
structure Small (m:Ref.zn):Prop where
 nodes:m.nodes.length<=100000
 opn:m.opn.length<=100000
 kids:∀n ∈ m.nodes,n.kids.length<=100000
 names:∀n ∈ m.nodes,n.names.length<=100000
 got:m.got.size<=1000000
 top:∀o ∈ m.opn,o<m.nodes.length
attribute [local go_sem ↓] Go.wp_at_zero Go.wp_at_succ
attribute [local go_sem ↓] Go.wp_at_zero Go.wp_at_succ
attribute [local go_sem ↓] Go.wp_at_zero Go.wp_at_succ
theorem Eu(w:World)(x:Int)(t:TypeId)(c:Nat):(convert 256 9 (.slice (some ⟨w.heap.size,0,none⟩) 1 c)).run prog (w.alloc (.cells #[.int .u8 x] t)).drew = .ok (.string ⟨#[UInt8.ofNat x.toNat]⟩) (w.alloc (.cells #[.int .u8 x] t)).drew:=by
 rw[run_convert_bytes_string _ _ _ _ _ _ _ underlying256 underlying5 underlying9];rw[run_bytesToString _ _ _ _ [x] (by simp[loadCells,go_sem])]
 rfl
attribute [local go_sem ↓] Go.wp_at_zero Go.wp_at_succ
attribute [local go_sem ↓] Go.wp_at_zero Go.wp_at_succ
attribute [local go_sem ↓] Go.wp_at_zero Go.wp_at_succ
structure Kp (B:Nat) (wx wy:World):Prop where
 size:wx.heap.size<=wy.heap.size
 keep:∀i,B<=i->i<wx.heap.size->wy.heap[i]?=wx.heap[i]?
structure Grown (A:World) where
 w:World
 b:Below A.heap.size A w
theorem ne_of_lt{a b:BA}(h:xL a b<0):a≠b:=λe=>by rw[e,Yw] at h;omega
theorem PT{L:List zy}(h:y9 L){k:Nat}{y:zy}(b:L[k]?=some y):qI L y.1=k:=by
 have d:k<L.length:=(qY.1 b).1;refine gp (ltN y.1) L k (Nat.le_of_lt d) (λj x c a=>?_) (λj x c a=>?_)
 ·unfold ltN;rw[je];exact h.at c a b
 ·unfold ltN;rw[mq]
  by_cases e:j=k
  ·subst e;rw[b] at a;injection a with a
   rw[<- a,Yw];omega
  ·have:=h.at (show k<j by omega) b a
   rw[lD] at this;omega
theorem bJ{L:List zy}(h:y9 L){y:zy}(c:y ∈ L):zC L y.1=true/\L[qI L y.1]?=some y:=by
 obtain⟨k,a⟩:=List.getElem?_of_mem c;have b:=PT h a;unfold zC;rw[b,a];exact⟨by simp[Yw],rfl⟩
theorem dm{L:List zy}{name:BA}(h:zC L name=true):∃e,(name,e) ∈ L/\L[qI L name]?=some (name,e):=by
 unfold zC at h
 split at h
 ·rename_i x c;have d:x.1=name:=lF (by simpa using h);obtain⟨a,b⟩:=x;simp only at d;subst d;exact⟨b,ZN c,c⟩
 ·cases h
theorem Tu{L:List zy}{p:Nat}{x:zy}(h:L[p]?=some x):L=L.take p++x::L.drop (p+1):=by
 obtain⟨a,rfl⟩:=qY.1 h;rw[<- uS a,V9]
theorem NB{L:List zy}(h:y9 L){name:BA}{y:zy}:(y ∈ L.take (qI L name)++L.drop (if zC L name then qI L name+1 else qI L name))↔y ∈ L/\y.1≠name:=by
 cases hh:zC L name with
 | true=>
  obtain⟨g,f,b⟩:=dm hh;have d:=Tu b;rw[zb rfl]
  constructor
  ·intro a
   rcases ZM.1 a with a|a
   ·exact⟨KU a,ne_of_lt (K4 a)⟩
   ·exact⟨gX a,Ne.symm (ne_of_lt (aa h (by rw[hh,zb rfl];exact a)))⟩
  ·rintro ⟨a,c⟩;rw[d] at a
   rcases ZM.1 a with a|a
   ·exact gV _ a
   ·rcases x8.1 a with rfl|a
    ·exact absurd rfl c
    ·exact List.mem_append_right _ a
 | false=>
  simp only[xz,qW];rw[V9];refine⟨λa=>⟨a,λe=>?_⟩,λa=>a.1⟩
  have:=(bJ h a).1
  rw[e,hh] at this
  cases this
theorem JA{L:List zy}(h:y9 L){name:BA}{b:List zB}{y:zy}:y ∈ jL L name b↔y=(name,b)\/(y ∈ L/\y.1≠name):=by
 rw[<- NB h];unfold jL;simp only[ZM,xE]
 constructor
 ·rintro ((a|a)|a)
  ·exact .inr (.inl a)
  ·exact .inl a
  ·exact .inr (.inr a)
 ·rintro (a|a|a)
  ·exact .inl (.inr a)
  ·exact .inl (.inl a)
  ·exact .inr a
theorem wJ:∀(A B:List zy),y9 A->y9 B->(∀y,y ∈ A↔y ∈ B)->A=B
 | [],[],_,_,_=>rfl
 | [],b::B,_,_,h=>by have:=(h b).2 (by simp);simp at this
 | a::A,[],_,_,h=>by have:=(h a).1 (by simp);simp at this
 | a::A,b::B,hA,hB,h=>by
  have c:=List.pairwise_cons.1 hA;have d:=List.pairwise_cons.1 hB
  have e:a=b:=by
   have g:=(h a).1 (by simp);have i:=(h b).2 (by simp)
   rcases x8.1 g with e|g
   ·exact e
   ·rcases x8.1 i with e|i
    ·exact e.symm
    ·have p:=c.1 b i;have q:=d.1 a g
     have:=Uu p q
     rw[Yw] at this;omega
  subst e
  have k:=wJ A B c.2 d.2 (λy=>by
   have j:=h y
   constructor
   ·intro f
    rcases x8.1 (j.1 (by simp[f])) with e|e
    ·subst e
     have:=c.1 _ f
     rw[Yw] at this;omega
    ·exact e
   ·intro f
    rcases x8.1 (j.2 (by simp[f])) with e|e
    ·subst e
     have:=d.1 _ f
     rw[Yw] at this;omega
    ·exact e)
  rw[k]
theorem nR{L:List zy}(h:y9 L){m:BA}:zC L m=true↔∃a,(m,a) ∈ L:=by
 constructor
 ·intro c;obtain⟨a,b,_⟩:=dm c;exact⟨a,b⟩
 ·rintro ⟨a,d⟩;exact (bJ h d).1
theorem nT{L:List zy}(h:y9 L)(n m:BA)(a:List zB):zC (jL L n a) m=(decide (m=n)||zC L m):=by
 have d:=h.with n a
 rw[vN,nR d,V5,je,nR h]
 constructor
 ·rintro ⟨c,b⟩
  rcases (JA h).1 b with e|⟨e,_⟩
  ·exact .inl (congrArg Prod.fst e)
  ·exact .inr ⟨c,e⟩
 ·rintro (rfl|⟨c,b⟩)
  ·exact⟨a,(JA h).2 (.inl rfl)⟩
  ·by_cases e:m=n
   ·subst e;exact⟨a,(JA h).2 (.inl rfl)⟩
   ·exact⟨c,(JA h).2 (.inr ⟨b,e⟩)⟩
theorem AQ(L:List zy)(n:BA)(a:List zB):(jL L n a).length=if zC L n then L.length else L.length+1:=by
 have b:=dX L n;unfold jL;simp only[xm,xC,ZK,y8]
 cases hh:zC L n with
 | true=>
  have:=Js hh
  simp only[qh];omega
 | false=>
  simp only[xz,qW];omega
namespace Kp
structure xA where
 layer:Int
 name:Int
 rules:List zt
def xA.lay(p:xA):Nat:=zo p.layer 4
def xA.num(p:xA):Nat:=zo p.name 6
def qp(k:Nat):BA:=Yz.getD k ⟨#[]⟩
def xA.nam(p:xA):BA:=qp p.num
def ZF(st:StO)(p:xA):StO:=vG st (p.lay:Int) p.nam (jh p.rules)
def vC(l:List xA)(n:Nat):StO:=(l.take n).foldl ZF xM
def JI(l:List xA):StO:=l.foldl ZF xM
theorem UT(p:xA):p.lay<4:=xK _ 4 (by decide)
theorem VB(p:xA):p.num<6:=xK _ 6 (by decide)
theorem NN{k:Nat}(h:k<6):Ref.qj (qp k)=true:=Fa k h
theorem NM:∀j,j<6->∀k,k<6->qp j=qp k->j=k:=by decide +kernel
theorem pI:∀k,k<6->(qp k).size<=12:=by decide
theorem dU{i k:Nat}(hi:i<4)(c:k<6):jX (i:Int) (qp k)=0:=by
 unfold jX kw;have a:decide ((0:Int)<=(i:Int))=true:=zF (by omega);have b:decide ((i:Int)<4)=true:=zF (by omega);rw[a,b,NN c]
 rfl
theorem JM(st:StO){i k:Nat}(hi:i<4)(b:k<6)(text:BA)(a:Rd.x9 text=(0,0)) :
  ZE st (i:Int) (qp k) text=(if zC (st i) (qp k)||decide ((st i).length<4) then (0,0) else (10,0)) /\
  vG st (i:Int) (qp k) text=(if zC (st i) (qp k)||decide ((st i).length<4) then upd st i (jL (st i) (qp k) (xP text)) else st):=by
 have c:=dU hi b;unfold ZE vG VL;simp only[Qm];rw[c,a];simp only[qh,decide_true,Qi,and_self]
def Zm(st:StO):Prop:=∀i,i<4->Yh (st i)
def Qr(st:StO):Prop:=∀i,i<4->∀x ∈ st i,(∃k,k<6/\x.1=qp k)/\∃l:List zt,x.2=qK l
theorem mM:Zm xM:=λi _=>⟨List.Pairwise.nil,by simp[xM],λx a=>by simp[xM] at a⟩
theorem mO:Qr xM:=λi _ x a=>by simp[xM] at a
theorem YS(st:StO)(i:Nat)(L:List zy):upd st i L i=L:=by unfold upd;rw[zb rfl]
theorem VW(st:StO){i j:Nat}(h:j≠i)(L:List zy):upd st i L j=st j:=by unfold upd;rw[za h]
theorem PZ{st:StO}(c:Zm st)(d:Qr st){i k:Nat}(hi:i<4)(g:k<6){text:BA}(f:Rd.x9 text=(0,0))(h:∃l:List zt,xP text=qK l):Zm (vG st (i:Int) (qp k) text)/\Qr (vG st (i:Int) (qp k) text):=by
 rw[(JM st hi g text f).2]
 cases hb:zC (st i) (qp k)||decide ((st i).length<4) with
 | false=>exact⟨c,d⟩
 | true=>
  simp only[qh]
  constructor
  ·intro j a
   by_cases e:j=i
   ·subst e;rw[YS];exact (c j a).with hb (Aw text (by rw[f]))
   ·rw[VW st e];exact c j a
  ·intro j a x b
   by_cases e:j=i
   ·subst e;rw[YS] at b
    rcases (JA (c j a).1).1 b with rfl|⟨b,_⟩
    ·exact⟨⟨k,g,rfl⟩,h⟩
    ·exact d j a x b
   ·rw[VW st e] at b;exact d j a x b
theorem wW{st:StO}(a:Zm st)(b:Qr st)(p:xA):Zm (ZF st p)/\Qr (ZF st p):=
 PZ a b (UT p) (VB p) (VI p.rules) ⟨p.rules,Au p.rules⟩
theorem bB:∀(l:List xA) (st:StO),Zm st->Qr st->Zm (l.foldl ZF st)/\Qr (l.foldl ZF st)
 | [],_,hg,hm=>⟨hg,hm⟩
 | p::l,_,hg,hm=>bB l _ (wW hg hm p).1 (wW hg hm p).2
theorem OJ(l:List xA):Zm (JI l)/\Qr (JI l):=bB l _ mM mO
theorem OM(l:List xA)(n:Nat):Zm (vC l n)/\Qr (vC l n):=bB _ _ mM mO
theorem OO(l:List xA)(n:Nat)(h:n<l.length):vC l (n+1)=ZF (vC l n) l[n]:=by
 unfold vC;rw[QZ h,List.foldl_append]
 rfl
theorem OL(l:List xA)(n:Nat)(h:l.length<=n):vC l n=JI l:=by
 unfold vC JI;rw[uW h]
theorem TI(st:StO)(p:xA)(i:Nat):(ZF st p i).length=if i=p.lay/\zC (st p.lay) p.nam=false/\(st p.lay).length<4 then (st i).length+1 else (st i).length:=by
 unfold ZF;show (vG st (p.lay:Int) (qp p.num) (jh p.rules) i).length=_;rw[(JM st (UT p) (VB p) _ (VI p.rules)).2];unfold xA.nam
 by_cases hi:i=p.lay
 ·subst hi
  cases hh:zC (st p.lay) (qp p.num) with
  | true=>
   simp only[Ye,qh];rw[YS,AQ,hh,zb rfl,za (by simp)]
  | false=>
   by_cases h4:(st p.lay).length<4
   ·rw[zb (by simp[h4]),YS,AQ,hh,za (by simp),zb ⟨rfl,rfl,h4⟩]
   ·rw[za (by simp[h4]),za (λh=>h4 h.2.2)]
 ·have a:¬(i=p.lay/\zC (st p.lay) (qp p.num)=false/\(st p.lay).length<4):=λh=>hi h.1;rw[za a]
  cases zC (st p.lay) (qp p.num)||decide ((st p.lay).length<4) with
  | true=>simp only[qh];rw[VW st hi]
  | false=>rfl
theorem TG{st:StO}(b:Zm st)(p:xA){i k:Nat}(hi:i<4)(c:k<6):zC (ZF st p i) (qp k)=(zC (st i) (qp k)||(decide (i=p.lay)&&decide (k=p.num)&&decide ((st p.lay).length<4))):=by
 unfold ZF;show zC (vG st (p.lay:Int) (qp p.num) (jh p.rules) i) (qp k)=_;rw[(JM st (UT p) (VB p) _ (VI p.rules)).2]
 by_cases e:i=p.lay
 ·have a:decide (qp k=qp p.num)=decide (k=p.num):=by
   by_cases ek:k=p.num
   ·rw[ek];simp
   ·rw[zH ek,zH (λh=>ek (NM k c _ (VB p) h))]
  subst e;rw[zF rfl,Qi]
  cases hh:zC (st p.lay) (qp p.num) with
  | true=>
   simp only[Ye,qh];rw[YS,nT (b _ hi).1,a]
   by_cases ek:k=p.num
   ·rw[ek,hh];simp
   ·rw[zH ek];simp
  | false=>
   by_cases h4:(st p.lay).length<4
   ·rw[zb (by simp[h4]),YS,nT (b _ hi).1,a,zF h4,Yc,Bool.or_comm]
   ·rw[za (by simp[h4]),zH h4];simp
 ·rw[zH e];simp only[XA,QS]
  split
  ·rw[VW st e]
  ·rfl
end Kp
end Go.Proofs.YtdakgnaojakldaaGreatDoor
