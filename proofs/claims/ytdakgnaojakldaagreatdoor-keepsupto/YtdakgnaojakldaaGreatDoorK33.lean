/- P -/
import Derived.Test.YtdakgnaojakldaaGreatDoorK04
import Derived.Deep.Light
import Derived.Maps.AppendAt
open Go.Proofs.Tryz
set_option maxRecDepth 100000
set_option maxHeartbeats 400000
namespace Go.Proofs.YtdakgnaojakldaaGreatDoor
open Go.RowKit
def xX(l:List Nat):List Value:=l.map λ(n:Nat)=>Value.int .i64 (n:Int)
def jC:List Ref.Node->List (Value×Value)->List Value
 | n::ns,v::vs => .int .i64 n.kind :: .string n.text::v.1::v.2::jC ns vs
 | _,_=>[]
def QO(m:Ref.zk)(b a:Value):Array Value:=
 #[.int .i64 m.state,b,a,.bool m.named,.string m.got,.int .i64 m.need,.int .u8 m.low,.int .u8 m.high,.int .i64 m.number,.string m.word,.int .i64 m.root]
structure zN (w:World) (base b:Nat) (m:Ref.zk) (ov nv:Value) (vs:List (Value×Value)):Prop where
 hb:base<=b
 blk:w.heap[b]?=some (.cells (QO m ov nv) 155 (0,0))
 ownO:w.ownsRow base 3 1 ov m.opn.length (xX m.opn)
 ownN:w.ownsRow base 152 4 nv m.nodes.length (jC m.nodes vs)
 len:vs.length=m.nodes.length
 names:∀(i:Nat) (n:Ref.Node) (v:Value×Value),m.nodes[i]?=some n->vs[i]?=some v->w.ownsRow base 9 1 v.1 n.names.length (Ref.strCells n.names)
 kids:∀(i:Nat) (n:Ref.Node) (v:Value×Value),m.nodes[i]?=some n->vs[i]?=some v->w.ownsRow base 3 1 v.2 n.kids.length (xX n.kids)
 sepO:∀(i:Nat) (v:Value×Value) (g:Nat),vs[i]?=some v->v.2.ownBlock=some g->ov.ownBlock≠some g
 sepK:∀(i j:Nat) (v v':Value×Value) (g:Nat),vs[i]?=some v->vs[j]?=some v'->i≠j->v.2.ownBlock=some g->v'.2.ownBlock≠some g
 sepN:∀(i j:Nat) (v v':Value×Value) (g:Nat),vs[i]?=some v->vs[j]?=some v'->i≠j->v.1.ownBlock=some g->v'.1.ownBlock≠some g
theorem J3{w:World}{base:Nat}{e:TypeId}{size:Nat}{v:Value}{n:Nat}{xs:List Value}{g:Nat}(h:w.ownsRow base e size v n xs)(a:v.ownBlock=some g):∃cur,w.heap[g]?=some (.cells cur e (0,0)):=by
 rcases h.2 with ⟨rfl,_⟩|⟨g',cap,cur,rfl,_,hh,_⟩
 ·simp[Value.ownBlock] at a
 ·simp only[Value.ownBlock,Option.some.injEq] at a;subst a;exact⟨cur,hh⟩
theorem Yd{w:World}{base a:Nat}{e k:TypeId}{size d:Nat}{v l:Value}{n q:Nat}{xs j:List Value}{g:Nat}(h:w.ownsRow base e size v n xs)(m:w.ownsRow a k d l q j)(i:e≠k)
  (p:v.ownBlock=some g):l.ownBlock≠some g:=by
 intro f;obtain⟨c,o⟩:=J3 h p;obtain⟨r,b⟩:=J3 m f;rw[o] at b;simp only[Option.some.injEq,Obj.cells.injEq] at b;exact i b.2.1
theorem jN{w:World}{base:Nat}{e t:TypeId}{size:Nat}{v:Value}{n:Nat}{xs:List Value}{b:Nat}{cs:Array Value}(h:w.ownsRow base e size v n xs)(hb:w.heap[b]?=some (.cells cs t (0,0)))(a:e≠t):v.ownBlock≠some b:=by
 intro f;obtain⟨c,d⟩:=J3 h f;rw[d] at hb;simp only[Option.some.injEq,Obj.cells.injEq] at hb;exact a hb.2.1
theorem zN.store{w:World}{base b:Nat}{m m':Ref.zk}{g f:Value}{r:List (Value×Value)}(h:zN w base b m g f r)(k:Nat)(u:Value)(c:(QO m g f).setIfInBounds k u=QO m' g f)
  (z:m'.opn=m.opn)(e:m'.nodes=m.nodes):zN (w.setCell ⟨b,k,none⟩ u) base b m' g f r:=by
 obtain⟨s,a,l,o,t,p,q,x,y,j⟩:=h;refine⟨s,?_,?_,?_,by rw[e];exact t,?_,?_,x,y,j⟩
 ·rw[yw w b k _ _ u a,c]
 ·rw[z];exact xB l (jN l a (by decide)) u
 ·rw[e];exact xB o (jN o a (by decide)) u
 ·rw[e];intro i n v hi d;exact xB (p i n v hi d) (jN (p i n v hi d) a (by decide)) u
 ·rw[e];intro i n v hi d;exact xB (q i n v hi d) (jN (q i n v hi d) a (by decide)) u
theorem zN.below{w w':World}{base b:Nat}{m:Ref.zk}{f e:Value}{g:List (Value×Value)}(h:zN w base b m f e g)(hb:Below w.heap.size w w'):zN w' base b m f e g:=by
 obtain⟨j,d,k,l,o,p,q,r,s,a⟩:=h;exact⟨j,(hb.block b (zx d)).trans d,ownsRow_below k hb,ownsRow_below l hb,o,λi n v hi c=>ownsRow_below (p i n v hi c) hb,λi n v hi c=>ownsRow_below (q i n v hi c) hb,r,s,a⟩
theorem Aj(b:Int)(w:World)(f:0<=b)(g:b<=255) :
  Calls prog 161 #[.int .u8 b] w λe w'=>e = .returned (.bool (Ref.QJ b))/\w'=w:=by
 obtain⟨P,a⟩:=Nm (Ref.QJ b);rw[a];unfold Ref.QJ at a;have c:=hid a;clear a;go_enter func161,ntmps161
 go_wp2
 all_goals
  go_ret;refine⟨Zr ?_,rfl⟩;have d:=c.out
  go_light
  rw[<- d]
  first
   | (symm;rw[Zh];omega)
   | (rw[XA];simp only[Bool.or_eq_true,ku,Zh];omega)
theorem FD(b:Int)(w:World)(f:0<=b)(g:b<=255) :
  Calls prog 204 #[.int .u8 b] w λe w'=>e = .returned (.int .i64 (Ref.zJ b))/\w'=w:=by
 obtain⟨P,a⟩:=Nm (Ref.zJ b);rw[a];unfold Ref.zJ at a;have c:=hid a;clear a;go_enter func204,ntmps204
 go_wp2
 all_goals
  go_ret;refine⟨Oa ?_,rfl⟩;have d:=c.out
  go_light
  (repeat' split at d)<;>omega
theorem BX(w:World)(x:Int)(t:TypeId)(c:Nat):(convert 256 9 (.slice (some ⟨w.heap.size,0,none⟩) 1 c)).run prog (w.alloc (.cells #[.int .u8 x] t)) = .ok (.string ⟨#[UInt8.ofNat x.toNat]⟩) (w.alloc (.cells #[.int .u8 x] t)):=by
 rw[UC _ _ _ _ _ _ _ underlying256 underlying5 underlying9];rw[bU _ _ _ _ [x] (by simp[loadCells,go_sem])]
 rfl
theorem Cc(w:World)(x y:Int)(t:TypeId)(c:Nat):(convert 256 9 (.slice (some ⟨w.heap.size,0,none⟩) 2 c)).run prog (w.alloc (.cells #[.int .u8 x,.int .u8 y] t)) = .ok (.string ⟨#[UInt8.ofNat x.toNat,UInt8.ofNat y.toNat]⟩) (w.alloc (.cells #[.int .u8 x,.int .u8 y] t)):=by
 rw[UC _ _ _ _ _ _ _ underlying256 underlying5 underlying9];rw[bU _ _ _ _ [x,y] (by simp[loadCells,go_sem])]
 rfl
theorem Cb(w:World)(x y z:Int)(t:TypeId)(c:Nat):(convert 256 9 (.slice (some ⟨w.heap.size,0,none⟩) 3 c)).run prog (w.alloc (.cells #[.int .u8 x,.int .u8 y,.int .u8 z] t)) = .ok (.string ⟨#[UInt8.ofNat x.toNat,UInt8.ofNat y.toNat,UInt8.ofNat z.toNat]⟩) (w.alloc (.cells #[.int .u8 x,.int .u8 y,.int .u8 z] t)):=by
 rw[UC _ _ _ _ _ _ _ underlying256 underlying5 underlying9];rw[bU _ _ _ _ [x,y,z] (by simp[loadCells,go_sem])]
 rfl
theorem DD(n:Int)(w:World)(h:0<=n)(i:n<65536) :
  Calls prog 205 #[.int .i64 n] w λe w'=>e = .returned (.string (Ref.enc n))/\Below w.heap.size w w':=by
 obtain⟨P,a⟩:=Nm (Ref.enc n);rw[a];unfold Ref.enc at a;have b:=hid a;clear a;have d:=BX;have f:=Cc;have g:=Cb;go_enter func205,ntmps205
 go_wp2
 all_goals
  go_ret;refine⟨Oc ?_,nbl _ _⟩;have c:=b.out
  go_light
  clear d f g;rw[<- c]
  first
   | (rw[zb (by omega)];rfl)
   | (rw[za (by omega),zb (by omega)])
   | (rw[za (by omega),za (by omega)])
theorem ni{α:Type}(l:List α)(f:α->α)(o i:Nat)(h:i≠o):(l.modify o f)[i]?=l[i]?:=by
 have a:o≠i:=λe=>h e.symm;rw[Zx];simp[a]
theorem nu{α:Type}(l:List α)(f:α->α)(o:Nat)(n:α)(h:l[o]?=some n):(l.modify o f)[o]?=some (f n):=by
 rw[Zx,h];simp
theorem LP(ns:List Ref.Node)(b:List (Value×Value))(n:Ref.Node)(v:Value×Value)(h:b.length=ns.length) :
  jC (ns++[n]) (b++[v])=jC ns b++[.int .i64 n.kind,.string n.text,v.1,v.2]:=by
 induction ns generalizing b with
 | nil=>
  cases b with
  | nil=>rfl
  | cons a l=>simp at h
 | cons a l d=>
  cases b with
  | nil=>simp at h
  | cons c t=>
   simp only[List.cons_append,jC];rw[d t (by simpa using h)]
theorem Uj(ns:List Ref.Node)(b:List (Value×Value))(h:b.length=ns.length)(o:Nat)(n:Ref.Node)(v:Value×Value)(d:ns[o]?=some n)(e:b[o]?=some v) :
  (jC ns b)[o*4]?=some (.int .i64 n.kind)/\(jC ns b)[o*4+1]?=some (.string n.text)/\(jC ns b)[o*4+2]?=some v.1/\(jC ns b)[o*4+3]?=some v.2:=by
 induction ns generalizing b o with
 | nil=>simp at d
 | cons a l f=>
  cases b with
  | nil=>simp at h
  | cons c t=>
   cases o with
   | zero=>
    simp only[jl,Option.some.injEq] at d e;subst d e;exact⟨rfl,rfl,rfl,rfl⟩
   | succ o=>
    simp only[uX] at d e
    have:=f t (by simpa using h) o d e
    simp only[jC];rw[show (o+1)*4=o*4+1+1+1+1 by omega];simp only[show o*4+1+1+1+1+1=(o*4+1)+1+1+1+1 by omega,show o*4+1+1+1+1+2=(o*4+2)+1+1+1+1 by omega,show o*4+1+1+1+1+3=(o*4+3)+1+1+1+1 by omega,uX];exact this
theorem LK(ns:List Ref.Node)(b:List (Value×Value))(h:b.length=ns.length)(o:Nat)(v:Value×Value)(d:b[o]?=some v)(kv:Value)(f:Ref.Node->Ref.Node)(e:∀n,(f n).kind=n.kind/\(f n).text=n.text) :
  (jC ns b).set (o*4+3) kv=jC (ns.modify o f) (b.set o (v.1,kv)):=by
 induction ns generalizing b o with
 | nil=>
  cases b with
  | nil=>simp at d
  | cons a l=>simp at h
 | cons a l g=>
  cases b with
  | nil=>simp at h
  | cons c t=>
   cases o with
   | zero=>
    simp only[jl,Option.some.injEq] at d;subst d;simp[jC,List.modify,List.modifyTailIdx,List.modifyTailIdx.go,(e a).1,(e a).2]
   | succ o=>
    simp only[uX] at d
    have:=g t (by simpa using h) o d
    rw[show (o+1)*4+3=(o*4+3)+1+1+1+1 by omega,List.modify_succ_cons,Vx];simp only[jC,Vx,this]
theorem LM(ns:List Ref.Node)(b:List (Value×Value))(h:b.length=ns.length)(o:Nat)(v:Value×Value)(d:b[o]?=some v)(kv:Value)(f:Ref.Node->Ref.Node)(e:∀n,(f n).kind=n.kind/\(f n).text=n.text) :
  (jC ns b).set (o*4+2) kv=jC (ns.modify o f) (b.set o (kv,v.2)):=by
 induction ns generalizing b o with
 | nil=>
  cases b with
  | nil=>simp at d
  | cons a l=>simp at h
 | cons a l g=>
  cases b with
  | nil=>simp at h
  | cons c t=>
   cases o with
   | zero=>
    simp only[jl,Option.some.injEq] at d;subst d;simp[jC,List.modify,List.modifyTailIdx,List.modifyTailIdx.go,(e a).1,(e a).2]
   | succ o=>
    simp only[uX] at d
    have:=g t (by simpa using h) o d
    rw[show (o+1)*4+2=(o*4+2)+1+1+1+1 by omega,List.modify_succ_cons,Vx];simp only[jC,Vx,this]
theorem zN.addNode{X w1:World}{base b:Nat}{m:Ref.zk}{z r k:Value}{B:List (Value×Value)}(h:zN X base b m z r B)(D:X.grownBy w1 r.ownBlock)(n:Ref.Node)(M:n.names=[])(L:n.kids=[])
  (p:w1.ownsRow base 152 4 k (m.nodes.length+1) (jC m.nodes B++[.int .i64 n.kind,.string n.text,.slice none 0 0,.slice none 0 0])) :
  zN (w1.setCell ⟨b,2,none⟩ k) base b { m with nodes:=m.nodes++[n] } z k (B++[(.slice none 0 0,.slice none 0 0)]):=by
 obtain⟨F,u,G,C,q,H,I,J,K,t⟩:=h;have w:r.ownBlock≠some b:=jN C u (by decide);have l:w1.heap[b]?=some (.cells (QO m z r) 155 (0,0)):=(D.block b (zx u) (λe=>w e.symm)).trans u
 have keep:∀{e:TypeId} {size n:Nat} {v:Value} {xs:List Value},X.ownsRow base e size v n xs->e≠152->w1.ownsRow base e size v n xs:=by
  intro e size n v xs a x;refine a.kept D ?_
  cases hvb:v.ownBlock with
  | none=>exact .inl rfl
  | some g=>exact .inr (λE=>Yd a C x hvb E.symm)
 have put:∀{e:TypeId} {size n:Nat} {v:Value} {xs:List Value},w1.ownsRow base e size v n xs->e≠155->(w1.setCell ⟨b,2,none⟩ k).ownsRow base e size v n xs:=
  λa x=>xB a (jN a l x) _
 refine⟨F,?_,put (keep G (by decide)) (by decide),?_,by simp[q],?_,?_,?_,?_,?_⟩
 ·rw[yw w1 b 2 _ _ k l];rfl
 ·simp only[qz,vO];rw[LP _ _ _ _ q];exact put p (by decide)
 ·intro i y v hi a;rw[Z5] at hi a;simp only[q] at a
  split at hi
  ·rename_i f;rw[zb f] at a;exact put (keep (H i y v hi a) (by decide)) (by decide)
  ·rename_i f;rw[za f] at a
   have s:i-m.nodes.length=0:=by
    have:=(zP.1 hi).1
    simp at this;omega
   rw[s] at hi a;simp only[jl,Option.some.injEq] at hi a;subst hi a;rw[M];exact qC _ _ _ _
 ·intro i y v hi a;rw[Z5] at hi a;simp only[q] at a
  split at hi
  ·rename_i f;rw[zb f] at a;exact put (keep (I i y v hi a) (by decide)) (by decide)
  ·rename_i f;rw[za f] at a
   have s:i-m.nodes.length=0:=by
    have:=(zP.1 hi).1
    simp at this;omega
   rw[s] at hi a;simp only[jl,Option.some.injEq] at hi a;subst hi a;rw[L];exact qC _ _ _ _
 ·intro i v g a d;rw[Z5] at a
  split at a
  ·exact J i v g a d
  ·have:=qJ a
   simp only[xK] at this;subst this;simp[Value.ownBlock] at d
 ·intro i j v A g a c o d;rw[Z5] at a c
  split at a
  ·split at c
   ·exact K i j v A g a c o d
   ·have:=qJ c
    simp only[xK] at this;subst this;simp[Value.ownBlock]
  ·have:=qJ a
   simp only[xK] at this;subst this;simp[Value.ownBlock] at d
 ·intro i j v A g a c o d;rw[Z5] at a c
  split at a
  ·split at c
   ·exact t i j v A g a c o d
   ·have:=qJ c
    simp only[xK] at this;subst this;simp[Value.ownBlock]
  ·have:=qJ a
   simp only[xK] at this;subst this;simp[Value.ownBlock] at d
theorem zN.xU{X w1:World}{base b:Nat}{m:Ref.zk}{ov Q kv:Value}{D:List (Value×Value)}(h:zN X base b m ov Q D)(o:Nat)(n:Ref.Node)(v:Value×Value)(I:m.nodes[o]?=some n)(x:D[o]?=some v)
  (hg:X.grownBy w1 v.2.ownBlock)(k:Nat)(L:w1.ownsRow base 3 1 kv (n.kids.length+1) (xX n.kids++[.int .i64 (k:Int)]))(B:kv.ownBlock=v.2.ownBlock\/kv.ownBlock=some X.heap.size)
  (g E cap:Nat)(J:Q = .slice (some ⟨g,0,none⟩) E cap) :
  zN (w1.setCell ⟨g,o*4+3,none⟩ kv) base b { m with nodes:=Ref.xU o k m.nodes } ov Q (D.set o (v.1,kv)):=by
 obtain⟨h1,R,h3,h4,M,N,O,S,P,z⟩:=h;have hold:=O o n v I x;have T:v.2.ownBlock≠some b:=jN hold R (by decide);have y:w1.heap[b]?=some (.cells (QO m ov Q) 155 (0,0)):=(hg.block b (zx R) (λe=>T e.symm)).trans R
 have keep:∀{e:TypeId} {size s:Nat} {f:Value} {xs:List Value},X.ownsRow base e size f s xs->(∀g,v.2.ownBlock=some g->f.ownBlock≠some g)->w1.ownsRow base e size f s xs:=by
  intro e size s f xs a a0;refine a.kept hg ?_
  cases hvb:f.ownBlock with
  | none=>exact .inl rfl
  | some l=>exact .inr (λe2=>a0 l e2.symm hvb)
 have apart:∀{e:TypeId} {size s:Nat} {f:Value} {xs:List Value},X.ownsRow base e size f s xs->3≠e->∀g,v.2.ownBlock=some g->f.ownBlock≠some g:=
  λa U g C=>Yd hold a U C
 have A:=keep h4 (apart h4 (by decide));have W:∃cur,w1.heap[g]?=some (.cells cur 152 (0,0)):=J3 A (by rw[J];rfl);obtain⟨cur,u⟩:=W
 have put:∀{e:TypeId} {size s:Nat} {f:Value} {xs:List Value},w1.ownsRow base e size f s xs->e≠152->(w1.setCell ⟨g,o*4+3,none⟩ kv).ownsRow base e size f s xs:=
  λa U=>xB a (jN a u U) _
 have V:g≠b:=by intro e;subst e;rw[y] at u;simp at u
 have a9:o<m.nodes.length:=(zP.1 I).1;have F:(Ref.xU o k m.nodes).length=m.nodes.length:=by unfold Ref.xU;rw[U8]
 have G:∀i,i≠o->(Ref.xU o k m.nodes)[i]?=m.nodes[i]?:=λi hi=>by unfold Ref.xU;exact ni _ _ _ _ hi
 have H:(Ref.xU o k m.nodes)[o]?=some { n with kids:=n.kids++[k] }:=by unfold Ref.xU;exact nu _ _ _ _ I
 have q:∀i,i≠o->(D.set o (v.1,kv))[i]?=D[i]?:=λi hi=>by rw[zq,za (λe=>hi e.symm)]
 have r:(D.set o (v.1,kv))[o]?=some (v.1,kv):=by rw[zq,zb rfl,zb (by omega)]
 have w:∀{e:TypeId} {size s:Nat} {f:Value} {xs:List Value},X.ownsRow base e size f s xs->∀g,f.ownBlock=some g->g<X.heap.size:=λa g C=>(a.lt g C).2;refine⟨h1,?_,put (keep h3 (λl d=>S o v l x d)) (by decide),?_,by simp[M,F],?_,?_,?_,?_,?_⟩
 ·rw[qb w1 ⟨g,o*4+3,none⟩ kv b (λe=>V e.symm),y];rfl
 ·simp only[F];subst J;rw[show Ref.xU o k m.nodes=m.nodes.modify o (λn=>{ n with kids:=n.kids++[k] }) from rfl]
  rw[<- LK m.nodes D M o v x kv (λn=>{ n with kids:=n.kids++[k] }) (λ_=>⟨rfl,rfl⟩)]
  have hc:E=m.nodes.length:=by
   rcases A.2 with ⟨e,_⟩|⟨g',cap',cur',e,_⟩
   ·cases e
   ·simp only[Value.slice.injEq] at e;exact e.2.1
  subst hc;exact (A.stored (o*4+3) kv).1
 ·intro i s f hi a
  by_cases hio:i=o
  ·subst hio;rw[H] at hi;rw[r] at a;simp only[Option.some.injEq] at hi a;subst hi a;exact put (keep (N i n v I x) (apart (N i n v I x) (by decide))) (by decide)
  ·rw[G i hio] at hi;rw[q i hio] at a;exact put (keep (N i s f hi a) (apart (N i s f hi a) (by decide))) (by decide)
 ·intro i s f hi a
  by_cases hio:i=o
  ·subst hio;rw[H] at hi;rw[r] at a;simp only[Option.some.injEq] at hi a;subst hi a;simp only[qz,vO]
   have:xX (n.kids++[k])=xX n.kids++[.int .i64 (k:Int)]:=by simp[xX]
   rw[this];exact put L (by decide)
  ·rw[G i hio] at hi;rw[q i hio] at a;exact put (keep (O i s f hi a) (λl d=>P o i v f l x a (λe=>hio e.symm) d)) (by decide)
 ·intro i f l a d
  by_cases hio:i=o
  ·subst hio;rw[r] at a;simp only[Option.some.injEq] at a;subst a
   rcases B with e|e
   ·exact S i v l x (e ▸ d)
   ·intro K;have l1:=w h3 l K;rw[show kv.ownBlock=some l from d] at e
    simp only[Option.some.injEq] at e;omega
  ·rw[q i hio] at a;exact S i f l a d
 ·intro i j f t l a c p d
  by_cases hio:i=o
  ·subst hio;rw[r] at a;simp only[Option.some.injEq] at a;subst a;rw[q j (λe=>p e.symm)] at c
   rcases B with e|e
   ·exact P i j v t l x c p (e ▸ d)
   ·intro K;have Z:j<m.nodes.length:=by rw[<- M];exact (zP.1 c).1
    have l1:=w (O j m.nodes[j] t (zm Z) c) l K;rw[show kv.ownBlock=some l from d] at e
    simp only[Option.some.injEq] at e;omega
  ·rw[q i hio] at a
   by_cases hjo:j=o
   ·subst hjo;rw[r] at c;simp only[Option.some.injEq] at c;subst c
    rcases B with e|e
    ·rw[show kv.ownBlock=v.2.ownBlock from e]
     exact P i j f v l a x p d
    ·intro K;have Y:i<m.nodes.length:=by rw[<- M];exact (zP.1 a).1
     have l1:=w (O i m.nodes[i] f (zm Y) a) l d;rw[show kv.ownBlock=some l from K] at e
     simp only[Option.some.injEq] at e;omega
   ·rw[q j hjo] at c;exact P i j f t l a c p d
 ·intro i j f t l a c p d
  by_cases hio:i=o
  ·subst hio;rw[r] at a;simp only[Option.some.injEq] at a;subst a;rw[q j (λe=>p e.symm)] at c;exact z i j v t l x c p d
  ·rw[q i hio] at a
   by_cases hjo:j=o
   ·subst hjo;rw[r] at c;simp only[Option.some.injEq] at c;subst c;exact z i j f v l a x p d
   ·rw[q j hjo] at c;exact z i j f t l a c p d
theorem zN.yg{X w1:World}{base b:Nat}{m:Ref.zk}{ov O kv:Value}{C:List (Value×Value)}(h:zN X base b m ov O C)(o:Nat)(n:Ref.Node)(v:Value×Value)(I:m.nodes[o]?=some n)(w:C[o]?=some v)
  (hg:X.grownBy w1 v.1.ownBlock)(k:BY)(K:w1.ownsRow base 9 1 kv (n.names.length+1) (Ref.strCells n.names++[.string k]))(E:kv.ownBlock=v.1.ownBlock\/kv.ownBlock=some X.heap.size)
  (g D cap:Nat)(J:O = .slice (some ⟨g,0,none⟩) D cap) :
  zN (w1.setCell ⟨g,o*4+2,none⟩ kv) base b { m with nodes:=Ref.yg o k m.nodes } ov O (C.set o (kv,v.2)):=by
 obtain⟨h1,P,h3,h4,L,M,N,h8,Q,x⟩:=h;have hold:=M o n v I w;have R:v.1.ownBlock≠some b:=jN hold P (by decide);have y:w1.heap[b]?=some (.cells (QO m ov O) 155 (0,0)):=(hg.block b (zx P) (λe=>R e.symm)).trans P
 have keep:∀{e:TypeId} {size s:Nat} {f:Value} {xs:List Value},X.ownsRow base e size f s xs->(∀g,v.1.ownBlock=some g->f.ownBlock≠some g)->w1.ownsRow base e size f s xs:=by
  intro e size s f xs a Y;refine a.kept hg ?_
  cases hvb:f.ownBlock with
  | none=>exact .inl rfl
  | some q=>exact .inr (λe2=>Y q e2.symm hvb)
 have apart:∀{e:TypeId} {size s:Nat} {f:Value} {xs:List Value},X.ownsRow base e size f s xs->9≠e->∀g,v.1.ownBlock=some g->f.ownBlock≠some g:=
  λa S g B=>Yd hold a S B
 have A:=keep h4 (apart h4 (by decide));have U:∃cur,w1.heap[g]?=some (.cells cur 152 (0,0)):=J3 A (by rw[J];rfl);obtain⟨cur,u⟩:=U
 have put:∀{e:TypeId} {size s:Nat} {f:Value} {xs:List Value},w1.ownsRow base e size f s xs->e≠152->(w1.setCell ⟨g,o*4+2,none⟩ kv).ownsRow base e size f s xs:=
  λa S=>xB a (jN a u S) _
 have T:g≠b:=by intro e;subst e;rw[y] at u;simp at u
 have a8:o<m.nodes.length:=(zP.1 I).1;have F:(Ref.yg o k m.nodes).length=m.nodes.length:=by unfold Ref.yg;rw[U8]
 have G:∀i,i≠o->(Ref.yg o k m.nodes)[i]?=m.nodes[i]?:=λi hi=>by unfold Ref.yg;exact ni _ _ _ _ hi
 have H:(Ref.yg o k m.nodes)[o]?=some { n with names:=n.names++[k] }:=by unfold Ref.yg;exact nu _ _ _ _ I
 have p:∀i,i≠o->(C.set o (kv,v.2))[i]?=C[i]?:=λi hi=>by rw[zq,za (λe=>hi e.symm)]
 have r:(C.set o (kv,v.2))[o]?=some (kv,v.2):=by rw[zq,zb rfl,zb (by omega)]
 have z:∀{e:TypeId} {size s:Nat} {f:Value} {xs:List Value},X.ownsRow base e size f s xs->∀g,f.ownBlock=some g->g<X.heap.size:=λa g B=>(a.lt g B).2;refine⟨h1,?_,put (keep h3 (apart h3 (by decide))) (by decide),?_,by simp[L,F],?_,?_,?_,?_,?_⟩
 ·rw[qb w1 ⟨g,o*4+2,none⟩ kv b (λe=>T e.symm),y];rfl
 ·simp only[F];subst J;rw[show Ref.yg o k m.nodes=m.nodes.modify o (λn=>{ n with names:=n.names++[k] }) from rfl]
  rw[<- LM m.nodes C L o v w kv (λn=>{ n with names:=n.names++[k] }) (λ_=>⟨rfl,rfl⟩)]
  have hc:D=m.nodes.length:=by
   rcases A.2 with ⟨e,_⟩|⟨g',cap',cur',e,_⟩
   ·cases e
   ·simp only[Value.slice.injEq] at e;exact e.2.1
  subst hc;exact (A.stored (o*4+2) kv).1
 ·intro i s f hi a
  by_cases hio:i=o
  ·subst hio;rw[H] at hi;rw[r] at a;simp only[Option.some.injEq] at hi a;subst hi a;simp only[qz,vO]
   have:Ref.strCells (n.names++[k])=Ref.strCells n.names++[.string k]:=by simp[Ref.strCells]
   rw[this];exact put K (by decide)
  ·rw[G i hio] at hi;rw[p i hio] at a;exact put (keep (M i s f hi a) (λq d=>x o i v f q w a (λe=>hio e.symm) d)) (by decide)
 ·intro i s f hi a
  by_cases hio:i=o
  ·subst hio;rw[H] at hi;rw[r] at a;simp only[Option.some.injEq] at hi a;subst hi a;exact put (keep (N i n v I w) (apart (N i n v I w) (by decide))) (by decide)
  ·rw[G i hio] at hi;rw[p i hio] at a;exact put (keep (N i s f hi a) (apart (N i s f hi a) (by decide))) (by decide)
 ·intro i f q a d
  by_cases hio:i=o
  ·subst hio;rw[r] at a;simp only[Option.some.injEq] at a;subst a;exact h8 i v q w d
  ·rw[p i hio] at a;exact h8 i f q a d
 ·intro i j f t q a c l d
  by_cases hio:i=o
  ·subst hio;rw[r] at a;simp only[Option.some.injEq] at a;subst a;rw[p j (λe=>l e.symm)] at c;exact Q i j v t q w c l d
  ·rw[p i hio] at a
   by_cases hjo:j=o
   ·subst hjo;rw[r] at c;simp only[Option.some.injEq] at c;subst c;exact Q i j f v q a w l d
   ·rw[p j hjo] at c;exact Q i j f t q a c l d
 ·intro i j f t q a c l d
  by_cases hio:i=o
  ·subst hio;rw[r] at a;simp only[Option.some.injEq] at a;subst a;rw[p j (λe=>l e.symm)] at c
   rcases E with e|e
   ·exact x i j v t q w c l (e ▸ d)
   ·intro Z;have W:j<m.nodes.length:=by rw[<- L];exact (zP.1 c).1
    have l1:=z (M j m.nodes[j] t (zm W) c) q Z;rw[show kv.ownBlock=some q from d] at e
    simp only[Option.some.injEq] at e;omega
  ·rw[p i hio] at a
   by_cases hjo:j=o
   ·subst hjo;rw[r] at c;simp only[Option.some.injEq] at c;subst c
    rcases E with e|e
    ·rw[show kv.ownBlock=v.1.ownBlock from e]
     exact x i j f v q a w l d
    ·intro Z;have V:i<m.nodes.length:=by rw[<- L];exact (zP.1 a).1
     have l1:=z (M i m.nodes[i] f (zm V) a) q d;rw[show kv.ownBlock=some q from Z] at e
     simp only[Option.some.injEq] at e;omega
   ·rw[p j hjo] at c;exact x i j f t q a c l d
theorem zN.push{X w1:World}{base b:Nat}{m:Ref.zk}{j a A:Value}{H:List (Value×Value)}(h:zN X base b m j A H)(G:X.grownBy w1 j.ownBlock)(k:Nat)
  (l:w1.ownsRow base 3 1 a (m.opn.length+1) (xX m.opn++[.int .i64 (k:Int)]))(t:a.ownBlock=j.ownBlock\/a.ownBlock=some X.heap.size) :
  zN (w1.setCell ⟨b,1,none⟩ a) base b { m with opn:=m.opn++[k] } a A H:=by
 obtain⟨K,r,s,B,C,D,E,F,L,q⟩:=h;have u:j.ownBlock≠some b:=jN s r (by decide);have f:w1.heap[b]?=some (.cells (QO m j A) 155 (0,0)):=(G.block b (zx r) (λe=>u e.symm)).trans r
 have keep:∀{e:TypeId} {size z:Nat} {p:Value} {xs:List Value},X.ownsRow base e size p z xs->(∀g,j.ownBlock=some g->p.ownBlock≠some g)->w1.ownsRow base e size p z xs:=by
  intro e size z p xs y x;refine y.kept G ?_
  cases hvb:p.ownBlock with
  | none=>exact .inl rfl
  | some J=>exact .inr (λI=>x J I.symm hvb)
 have put:∀{e:TypeId} {size n:Nat} {v:Value} {xs:List Value},w1.ownsRow base e size v n xs->e≠155->(w1.setCell ⟨b,1,none⟩ a).ownsRow base e size v n xs:=
  λc M=>xB c (jN c f M) _
 refine⟨K,?_,?_,put (keep B (λg d=>Yd s B (by decide) d)) (by decide),C,?_,?_,?_,L,q⟩
 ·rw[yw w1 b 1 _ _ a f];rfl
 ·simp only[qz,vO];rw[show xX (m.opn++[k])=xX m.opn++[.int .i64 (k:Int)] by simp[xX]];exact put l (by decide)
 ·intro i n v hi c;exact put (keep (D i n v hi c) (λg d=>Yd s (D i n v hi c) (by decide) d)) (by decide)
 ·intro i n v hi c;exact put (keep (E i n v hi c) (λg d e=>F i v g c e d)) (by decide)
 ·intro i v g c o
  rcases t with e|e
  ·rw[e];exact F i v g c o
  ·intro N;have w:i<m.nodes.length:=by rw[<- C];exact (zP.1 c).1
   have O:=((E i m.nodes[i] v (zm w) c).lt g o).2;rw[N] at e;simp only[Option.some.injEq] at e;omega
theorem zN.pop{w:World}{base b:Nat}{m:Ref.zk}{g cap:Nat}{j:Value}{k:List (Value×Value)}(h:zN w base b m (.slice (some ⟨g,0,none⟩) m.opn.length cap) j k)(st:Int) :
  zN ((w.setCell ⟨b,1,none⟩ (.slice (some ⟨g,0,none⟩) (m.opn.length-1) cap)).setCell ⟨b,0,none⟩ (.int .i64 st)) base b { m with opn:=m.opn.dropLast,state:=st } (.slice (some ⟨g,0,none⟩) (m.opn.length-1) cap) j k:=by
 obtain⟨o,d,p,q,r,s,t,u,x,c⟩:=h
 have put:∀{e:TypeId} {size n:Nat} {v:Value} {xs:List Value},w.ownsRow base e size v n xs->e≠155 ->
   ((w.setCell ⟨b,1,none⟩ (.slice (some ⟨g,0,none⟩) (m.opn.length-1) cap)).setCell ⟨b,0,none⟩ (.int .i64 st)).ownsRow base e size v n xs:=
  λa f=>xB (xB a (jN a d f) _) (jN a d f) _
 refine⟨o,?_,?_,put q (by decide),r,λi n v hi a=>put (s i n v hi a) (by decide),λi n v hi a=>put (t i n v hi a) (by decide),u,x,c⟩
 ·rw[yw _ b 0 _ _ _ (yw w b 1 _ _ _ d)];rfl
 ·have y:w.ownsRow base 3 1 (.slice (some ⟨g,0,none⟩) (m.opn.length-1) cap) (m.opn.length-1) (xX m.opn.dropLast):=by
   refine⟨by simp[xX],?_⟩
   rcases p.2 with ⟨e,_⟩|⟨g',cap',cur,e,hg,hh,hc,hm,hs,ht⟩
   ·cases e
   ·simp only[Value.slice.injEq,Option.some.injEq,Addr.mk.injEq,and_true,true_and] at e;obtain⟨rfl,rfl⟩:=e;refine .inr ⟨g,cap,cur,rfl,hg,hh,by omega,hm,hs,?_⟩
    have l:xX m.opn.dropLast=(xX m.opn).take (m.opn.length-1):=by
     unfold xX;rw[List.dropLast_eq_take,List.map_take]
    rw[l,<- ht,List.take_take];congr 1;omega
  simp only[List.length_dropLast];exact put y (by decide)
theorem zN.cell{w:World}{base b:Nat}{m:Ref.zk}{c a:Value}{d:List (Value×Value)}(h:zN w base b m c a d)(k:Nat):w.cell? ⟨b,k,none⟩=(QO m c a)[k]?/\w.frozen? ⟨b,k,none⟩=false:=zg h.blk k
end Go.Proofs.YtdakgnaojakldaaGreatDoor
