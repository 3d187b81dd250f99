/- P -/
import Derived.Test.YtdakgnaojakldaaGreatDoorS04
import Derived.Deep.Light
import Derived.Maps.AppendAt
set_option maxRecDepth 100000
namespace Go.Proofs.YtdakgnaojakldaaGreatDoor
open Go.RowKit
def ZQ(l:List Nat):List Value:=l.map λ(n:Nat)=>Value.int .i64 (n:Int)
def jq:List Ref.Node->List (Value×Value)->List Value
 | n::ns,v::vs => .int .i64 n.kind :: .string n.text::v.1::v.2::jq ns vs
 | _,_=>[]
def QY(m:Ref.zi)(b a:Value):Array Value:=
 #[.int .i64 m.state,b,a,.bool m.named,.string m.got,.int .i64 m.need,.int .u8 m.low,.int .u8 m.high,.int .i64 m.number,.string m.word,.int .i64 m.root]
structure xk (w:World) (base b:Nat) (m:Ref.zi) (ov nv:Value) (vs:List (Value×Value)):Prop where
 hb:base<=b
 blk:w.heap[b]?=some (.cells (QY m ov nv) 155 (0,0))
 ownO:w.ownsRow base 3 1 ov m.opn.length (ZQ m.opn)
 ownN:w.ownsRow base 152 4 nv m.nodes.length (jq m.nodes vs)
 len:vs.length=m.nodes.length
 names:∀(i:Nat) (n:Ref.Node) (v:Value×Value),m.nodes[i]?=some n->vs[i]?=some v->w.ownsRow base 9 1 v.1 n.names.length (Ref.strCells n.names)
 kids:∀(i:Nat) (n:Ref.Node) (v:Value×Value),m.nodes[i]?=some n->vs[i]?=some v->w.ownsRow base 3 1 v.2 n.kids.length (ZQ n.kids)
 sepO:∀(i:Nat) (v:Value×Value) (g:Nat),vs[i]?=some v->v.2.ownBlock=some g->ov.ownBlock≠some g
 sepK:∀(i j:Nat) (v v':Value×Value) (g:Nat),vs[i]?=some v->vs[j]?=some v'->i≠j->v.2.ownBlock=some g->v'.2.ownBlock≠some g
 sepN:∀(i j:Nat) (v v':Value×Value) (g:Nat),vs[i]?=some v->vs[j]?=some v'->i≠j->v.1.ownBlock=some g->v'.1.ownBlock≠some g
theorem X7{w:World}{base:Nat}{e:TypeId}{size:Nat}{v:Value}{n:Nat}{xs:List Value}{g:Nat}(h:w.ownsRow base e size v n xs)(a:v.ownBlock=some g):∃cur,w.heap[g]?=some (.cells cur e (0,0)):=by
 rcases h.2 with ⟨rfl,_⟩|⟨g',cap,cur,rfl,_,hh,_⟩
 ·simp[Value.ownBlock] at a
 ·simp only[Value.ownBlock,Option.some.injEq] at a;subst a;exact⟨cur,hh⟩
theorem dY{w:World}{base a:Nat}{e k:TypeId}{size d:Nat}{v l:Value}{n q:Nat}{xs j:List Value}{g:Nat}(h:w.ownsRow base e size v n xs)(m:w.ownsRow a k d l q j)(i:e≠k)
  (p:v.ownBlock=some g):l.ownBlock≠some g:=by
 intro f;obtain⟨c,o⟩:=X7 h p;obtain⟨r,b⟩:=X7 m f;rw[o] at b;simp only[Option.some.injEq,Obj.cells.injEq] at b;exact i b.2.1
theorem ZR{w:World}{base:Nat}{e t:TypeId}{size:Nat}{v:Value}{n:Nat}{xs:List Value}{b:Nat}{cs:Array Value}(h:w.ownsRow base e size v n xs)(hb:w.heap[b]?=some (.cells cs t (0,0)))(a:e≠t):v.ownBlock≠some b:=by
 intro f;obtain⟨c,d⟩:=X7 h f;rw[d] at hb;simp only[Option.some.injEq,Obj.cells.injEq] at hb;exact a hb.2.1
theorem xk.store{w:World}{base b:Nat}{m m':Ref.zi}{g f:Value}{r:List (Value×Value)}(h:xk w base b m g f r)(k:Nat)(u:Value)(c:(QY m g f).setIfInBounds k u=QY m' g f)
  (z:m'.opn=m.opn)(e:m'.nodes=m.nodes):xk (w.setCell ⟨b,k,none⟩ u) base b m' g f r:=by
 obtain⟨s,a,l,o,t,p,q,x,y,j⟩:=h;refine⟨s,?_,?_,?_,by rw[e];exact t,?_,?_,x,y,j⟩
 ·rw[heap_setCell_same w b k _ _ u a,c]
 ·rw[z];exact ownsRow_setCell_other l (ZR l a (by decide)) u
 ·rw[e];exact ownsRow_setCell_other o (ZR o a (by decide)) u
 ·rw[e];intro i n v hi d;exact ownsRow_setCell_other (p i n v hi d) (ZR (p i n v hi d) a (by decide)) u
 ·rw[e];intro i n v hi d;exact ownsRow_setCell_other (q i n v hi d) (ZR (q i n v hi d) a (by decide)) u
theorem xk.below{w j:World}{base b:Nat}{m:Ref.zi}{f e:Value}{g:List (Value×Value)}(h:xk w base b m f e g)(hb:Below w.heap.size w j):xk j base b m f e g:=by
 obtain⟨k,d,l,o,p,q,r,s,t,a⟩:=h;exact⟨k,(hb.block b (lt_of_block d)).trans d,ownsRow_below l hb,ownsRow_below o hb,p,λi n v hi c=>ownsRow_below (q i n v hi c) hb,λi n v hi c=>ownsRow_below (r i n v hi c) hb,s,t,a⟩
theorem bY{α:Type}(l:List α)(f:α->α)(o i:Nat)(h:i≠o):(l.modify o f)[i]?=l[i]?:=by
 have a:o≠i:=λe=>h e.symm;rw[List.getElem?_modify];simp[a]
theorem cu{α:Type}(l:List α)(f:α->α)(o:Nat)(n:α)(h:l[o]?=some n):(l.modify o f)[o]?=some (f n):=by
 rw[List.getElem?_modify,h];simp
theorem dC(d:List Ref.Node)(b:List (Value×Value))(h:b.length=d.length)(o:Nat)(n:Ref.Node)(v:Value×Value)(e:d[o]?=some n)(f:b[o]?=some v) :
  (jq d b)[o*4]?=some (.int .i64 n.kind)/\(jq d b)[o*4+1]?=some (.string n.text)/\(jq d b)[o*4+2]?=some v.1/\(jq d b)[o*4+3]?=some v.2:=by
 induction d generalizing b o with
 | nil=>simp at e
 | cons a l g=>
  cases b with
  | nil=>simp at h
  | cons c t=>
   cases o with
   | zero=>
    simp only[List.getElem?_cons_zero,Option.some.injEq] at e f;subst e f;exact⟨rfl,rfl,rfl,rfl⟩
   | succ o=>
    simp only[List.getElem?_cons_succ] at e f
    have:=g t (by simpa using h) o e f
    simp only[jq];rw[show (o+1)*4=o*4+1+1+1+1 by omega];simp only[show o*4+1+1+1+1+1=(o*4+1)+1+1+1+1 by omega,show o*4+1+1+1+1+2=(o*4+2)+1+1+1+1 by omega,show o*4+1+1+1+1+3=(o*4+3)+1+1+1+1 by omega,List.getElem?_cons_succ];exact this
theorem DZ(e:List Ref.Node)(b:List (Value×Value))(h:b.length=e.length)(o:Nat)(v:Value×Value)(d:b[o]?=some v)(i:Value)(f:Ref.Node->Ref.Node)(g:∀n,(f n).kind=n.kind/\(f n).text=n.text) :
  (jq e b).set (o*4+3) i=jq (e.modify o f) (b.set o (v.1,i)):=by
 induction e generalizing b o with
 | nil=>
  cases b with
  | nil=>simp at d
  | cons a l=>simp at h
 | cons a l j=>
  cases b with
  | nil=>simp at h
  | cons c t=>
   cases o with
   | zero=>
    simp only[List.getElem?_cons_zero,Option.some.injEq] at d;subst d;simp[jq,List.modify,List.modifyTailIdx,List.modifyTailIdx.go,(g a).1,(g a).2]
   | succ o=>
    simp only[List.getElem?_cons_succ] at d
    have:=j t (by simpa using h) o d
    rw[show (o+1)*4+3=(o*4+3)+1+1+1+1 by omega,List.modify_succ_cons,List.set_cons_succ];simp only[jq,List.set_cons_succ,this]
theorem Ea(e:List Ref.Node)(b:List (Value×Value))(h:b.length=e.length)(o:Nat)(v:Value×Value)(d:b[o]?=some v)(i:Value)(f:Ref.Node->Ref.Node)(g:∀n,(f n).kind=n.kind/\(f n).text=n.text) :
  (jq e b).set (o*4+2) i=jq (e.modify o f) (b.set o (i,v.2)):=by
 induction e generalizing b o with
 | nil=>
  cases b with
  | nil=>simp at d
  | cons a l=>simp at h
 | cons a l j=>
  cases b with
  | nil=>simp at h
  | cons c t=>
   cases o with
   | zero=>
    simp only[List.getElem?_cons_zero,Option.some.injEq] at d;subst d;simp[jq,List.modify,List.modifyTailIdx,List.modifyTailIdx.go,(g a).1,(g a).2]
   | succ o=>
    simp only[List.getElem?_cons_succ] at d
    have:=j t (by simpa using h) o d
    rw[show (o+1)*4+2=(o*4+2)+1+1+1+1 by omega,List.modify_succ_cons,List.set_cons_succ];simp only[jq,List.set_cons_succ,this]
theorem xk.yK{X z:World}{base b:Nat}{m:Ref.zi}{ov R r:Value}{F:List (Value×Value)}(h:xk X base b m ov R F)(o:Nat)(n:Ref.Node)(v:Value×Value)(J:m.nodes[o]?=some n)(y:F[o]?=some v)
  (hg:X.grownBy z v.2.ownBlock)(k:Nat)(M:z.ownsRow base 3 1 r (n.kids.length+1) (ZQ n.kids++[.int .i64 (k:Int)]))(D:r.ownBlock=v.2.ownBlock\/r.ownBlock=some X.heap.size)
  (g cnt cap:Nat)(K:R = .slice (some ⟨g,0,none⟩) cnt cap) :
  xk (z.setCell ⟨g,o*4+3,none⟩ r) base b { m with nodes:=Ref.yK o k m.nodes } ov R (F.set o (v.1,r)):=by
 obtain⟨h1,S,h3,h4,N,O,P,T,Q,B⟩:=h;have hold:=P o n v J y;have U:v.2.ownBlock≠some b:=ZR hold S (by decide);have A:z.heap[b]?=some (.cells (QY m ov R) 155 (0,0)):=(hg.block b (lt_of_block S) (λe=>U e.symm)).trans S
 have keep:∀{e:TypeId} {size t:Nat} {f:Value} {xs:List Value},X.ownsRow base e size f t xs->(∀g,v.2.ownBlock=some g->f.ownBlock≠some g)->z.ownsRow base e size f t xs:=by
  intro e size t f xs a a1;refine a.kept hg ?_
  cases hvb:f.ownBlock with
  | none=>exact .inl rfl
  | some l=>exact .inr (λe2=>a1 l e2.symm hvb)
 have apart:∀{e:TypeId} {size t:Nat} {f:Value} {xs:List Value},X.ownsRow base e size f t xs->3≠e->∀g,v.2.ownBlock=some g->f.ownBlock≠some g:=
  λa V g E=>dY hold a V E
 have C:=keep h4 (apart h4 (by decide));have Y:∃cur,z.heap[g]?=some (.cells cur 152 (0,0)):=X7 C (by rw[K];rfl);obtain⟨cur,w⟩:=Y
 have put:∀{e:TypeId} {size t:Nat} {f:Value} {xs:List Value},z.ownsRow base e size f t xs->e≠152->(z.setCell ⟨g,o*4+3,none⟩ r).ownsRow base e size f t xs:=
  λa V=>ownsRow_setCell_other a (ZR a w V) _
 have W:g≠b:=by intro e;subst e;rw[A] at w;simp at w
 have b0:o<m.nodes.length:=(List.getElem?_eq_some_iff.1 J).1;have G:(Ref.yK o k m.nodes).length=m.nodes.length:=by unfold Ref.yK;rw[List.length_modify]
 have H:∀i,i≠o->(Ref.yK o k m.nodes)[i]?=m.nodes[i]?:=λi hi=>by unfold Ref.yK;exact bY _ _ _ _ hi
 have I:(Ref.yK o k m.nodes)[o]?=some { n with kids:=n.kids++[k] }:=by unfold Ref.yK;exact cu _ _ _ _ J
 have q:∀i,i≠o->(F.set o (v.1,r))[i]?=F[i]?:=λi hi=>by rw[List.getElem?_set,if_neg (λe=>hi e.symm)]
 have s:(F.set o (v.1,r))[o]?=some (v.1,r):=by rw[List.getElem?_set,if_pos rfl,if_pos (by omega)]
 have x:∀{e:TypeId} {size t:Nat} {f:Value} {xs:List Value},X.ownsRow base e size f t xs->∀g,f.ownBlock=some g->g<X.heap.size:=λa g E=>(a.lt g E).2;refine⟨h1,?_,put (keep h3 (λl d=>T o v l y d)) (by decide),?_,by simp[N,G],?_,?_,?_,?_,?_⟩
 ·rw[Below.heap_setCell z ⟨g,o*4+3,none⟩ r b (λe=>W e.symm),A];rfl
 ·simp only[G];subst K;rw[show Ref.yK o k m.nodes=m.nodes.modify o (λn=>{ n with kids:=n.kids++[k] }) from rfl]
  rw[<- DZ m.nodes F N o v y r (λn=>{ n with kids:=n.kids++[k] }) (λ_=>⟨rfl,rfl⟩)]
  have hc:cnt=m.nodes.length:=by
   rcases C.2 with ⟨e,_⟩|⟨g',cap',cur',e,_⟩
   ·cases e
   ·simp only[Value.slice.injEq] at e;exact e.2.1
  subst hc;exact (C.stored (o*4+3) r).1
 ·intro i t f hi a
  by_cases hio:i=o
  ·subst hio;rw[I] at hi;rw[s] at a;simp only[Option.some.injEq] at hi a;subst hi a;exact put (keep (O i n v J y) (apart (O i n v J y) (by decide))) (by decide)
  ·rw[H i hio] at hi;rw[q i hio] at a;exact put (keep (O i t f hi a) (apart (O i t f hi a) (by decide))) (by decide)
 ·intro i t f hi a
  by_cases hio:i=o
  ·subst hio;rw[I] at hi;rw[s] at a;simp only[Option.some.injEq] at hi a;subst hi a;simp only[List.length_append,List.length_singleton]
   have:ZQ (n.kids++[k])=ZQ n.kids++[.int .i64 (k:Int)]:=by simp[ZQ]
   rw[this];exact put M (by decide)
  ·rw[H i hio] at hi;rw[q i hio] at a;exact put (keep (P i t f hi a) (λl d=>Q o i v f l y a (λe=>hio e.symm) d)) (by decide)
 ·intro i f l a d
  by_cases hio:i=o
  ·subst hio;rw[s] at a;simp only[Option.some.injEq] at a;subst a
   rcases D with e|e
   ·exact T i v l y (e ▸ d)
   ·intro L;have l1:=x h3 l L;rw[show r.ownBlock=some l from d] at e
    simp only[Option.some.injEq] at e;omega
  ·rw[q i hio] at a;exact T i f l a d
 ·intro i j f u l a c p d
  by_cases hio:i=o
  ·subst hio;rw[s] at a;simp only[Option.some.injEq] at a;subst a;rw[q j (λe=>p e.symm)] at c
   rcases D with e|e
   ·exact Q i j v u l y c p (e ▸ d)
   ·intro L;have a0:j<m.nodes.length:=by rw[<- N];exact (List.getElem?_eq_some_iff.1 c).1
    have l1:=x (P j m.nodes[j] u (List.getElem?_eq_getElem a0) c) l L;rw[show r.ownBlock=some l from d] at e
    simp only[Option.some.injEq] at e;omega
  ·rw[q i hio] at a
   by_cases hjo:j=o
   ·subst hjo;rw[s] at c;simp only[Option.some.injEq] at c;subst c
    rcases D with e|e
    ·rw[show r.ownBlock=v.2.ownBlock from e]
     exact Q i j f v l a y p d
    ·intro L;have Z:i<m.nodes.length:=by rw[<- N];exact (List.getElem?_eq_some_iff.1 a).1
     have l1:=x (P i m.nodes[i] f (List.getElem?_eq_getElem Z) a) l d;rw[show r.ownBlock=some l from L] at e
     simp only[Option.some.injEq] at e;omega
   ·rw[q j hjo] at c;exact Q i j f u l a c p d
 ·intro i j f u l a c p d
  by_cases hio:i=o
  ·subst hio;rw[s] at a;simp only[Option.some.injEq] at a;subst a;rw[q j (λe=>p e.symm)] at c;exact B i j v u l y c p d
  ·rw[q i hio] at a
   by_cases hjo:j=o
   ·subst hjo;rw[s] at c;simp only[Option.some.injEq] at c;subst c;exact B i j f v l a y p d
   ·rw[q j hjo] at c;exact B i j f u l a c p d
theorem xk.yV{X z:World}{base b:Nat}{m:Ref.zi}{ov P s:Value}{E:List (Value×Value)}(h:xk X base b m ov P E)(o:Nat)(n:Ref.Node)(v:Value×Value)(J:m.nodes[o]?=some n)(x:E[o]?=some v)
  (hg:X.grownBy z v.1.ownBlock)(k:BY)(L:z.ownsRow base 9 1 s (n.names.length+1) (Ref.strCells n.names++[.string k]))(F:s.ownBlock=v.1.ownBlock\/s.ownBlock=some X.heap.size)
  (g cnt cap:Nat)(K:P = .slice (some ⟨g,0,none⟩) cnt cap) :
  xk (z.setCell ⟨g,o*4+2,none⟩ s) base b { m with nodes:=Ref.yV o k m.nodes } ov P (E.set o (s,v.2)):=by
 obtain⟨h1,Q,h3,h4,M,N,O,h8,R,y⟩:=h;have hold:=N o n v J x;have S:v.1.ownBlock≠some b:=ZR hold Q (by decide);have A:z.heap[b]?=some (.cells (QY m ov P) 155 (0,0)):=(hg.block b (lt_of_block Q) (λe=>S e.symm)).trans Q
 have keep:∀{e:TypeId} {size t:Nat} {f:Value} {xs:List Value},X.ownsRow base e size f t xs->(∀g,v.1.ownBlock=some g->f.ownBlock≠some g)->z.ownsRow base e size f t xs:=by
  intro e size t f xs a Z;refine a.kept hg ?_
  cases hvb:f.ownBlock with
  | none=>exact .inl rfl
  | some q=>exact .inr (λe2=>Z q e2.symm hvb)
 have apart:∀{e:TypeId} {size t:Nat} {f:Value} {xs:List Value},X.ownsRow base e size f t xs->9≠e->∀g,v.1.ownBlock=some g->f.ownBlock≠some g:=
  λa T g D=>dY hold a T D
 have C:=keep h4 (apart h4 (by decide));have V:∃cur,z.heap[g]?=some (.cells cur 152 (0,0)):=X7 C (by rw[K];rfl);obtain⟨cur,w⟩:=V
 have put:∀{e:TypeId} {size t:Nat} {f:Value} {xs:List Value},z.ownsRow base e size f t xs->e≠152->(z.setCell ⟨g,o*4+2,none⟩ s).ownsRow base e size f t xs:=
  λa T=>ownsRow_setCell_other a (ZR a w T) _
 have U:g≠b:=by intro e;subst e;rw[A] at w;simp at w
 have a9:o<m.nodes.length:=(List.getElem?_eq_some_iff.1 J).1;have G:(Ref.yV o k m.nodes).length=m.nodes.length:=by unfold Ref.yV;rw[List.length_modify]
 have H:∀i,i≠o->(Ref.yV o k m.nodes)[i]?=m.nodes[i]?:=λi hi=>by unfold Ref.yV;exact bY _ _ _ _ hi
 have I:(Ref.yV o k m.nodes)[o]?=some { n with names:=n.names++[k] }:=by unfold Ref.yV;exact cu _ _ _ _ J
 have p:∀i,i≠o->(E.set o (s,v.2))[i]?=E[i]?:=λi hi=>by rw[List.getElem?_set,if_neg (λe=>hi e.symm)]
 have r:(E.set o (s,v.2))[o]?=some (s,v.2):=by rw[List.getElem?_set,if_pos rfl,if_pos (by omega)]
 have B:∀{e:TypeId} {size t:Nat} {f:Value} {xs:List Value},X.ownsRow base e size f t xs->∀g,f.ownBlock=some g->g<X.heap.size:=λa g D=>(a.lt g D).2;refine⟨h1,?_,put (keep h3 (apart h3 (by decide))) (by decide),?_,by simp[M,G],?_,?_,?_,?_,?_⟩
 ·rw[Below.heap_setCell z ⟨g,o*4+2,none⟩ s b (λe=>U e.symm),A];rfl
 ·simp only[G];subst K;rw[show Ref.yV o k m.nodes=m.nodes.modify o (λn=>{ n with names:=n.names++[k] }) from rfl]
  rw[<- Ea m.nodes E M o v x s (λn=>{ n with names:=n.names++[k] }) (λ_=>⟨rfl,rfl⟩)]
  have hc:cnt=m.nodes.length:=by
   rcases C.2 with ⟨e,_⟩|⟨g',cap',cur',e,_⟩
   ·cases e
   ·simp only[Value.slice.injEq] at e;exact e.2.1
  subst hc;exact (C.stored (o*4+2) s).1
 ·intro i t f hi a
  by_cases hio:i=o
  ·subst hio;rw[I] at hi;rw[r] at a;simp only[Option.some.injEq] at hi a;subst hi a;simp only[List.length_append,List.length_singleton]
   have:Ref.strCells (n.names++[k])=Ref.strCells n.names++[.string k]:=by simp[Ref.strCells]
   rw[this];exact put L (by decide)
  ·rw[H i hio] at hi;rw[p i hio] at a;exact put (keep (N i t f hi a) (λq d=>y o i v f q x a (λe=>hio e.symm) d)) (by decide)
 ·intro i t f hi a
  by_cases hio:i=o
  ·subst hio;rw[I] at hi;rw[r] at a;simp only[Option.some.injEq] at hi a;subst hi a;exact put (keep (O i n v J x) (apart (O i n v J x) (by decide))) (by decide)
  ·rw[H i hio] at hi;rw[p i hio] at a;exact put (keep (O i t f hi a) (apart (O i t f hi a) (by decide))) (by decide)
 ·intro i f q a d
  by_cases hio:i=o
  ·subst hio;rw[r] at a;simp only[Option.some.injEq] at a;subst a;exact h8 i v q x d
  ·rw[p i hio] at a;exact h8 i f q a d
 ·intro i j f u q a c l d
  by_cases hio:i=o
  ·subst hio;rw[r] at a;simp only[Option.some.injEq] at a;subst a;rw[p j (λe=>l e.symm)] at c;exact R i j v u q x c l d
  ·rw[p i hio] at a
   by_cases hjo:j=o
   ·subst hjo;rw[r] at c;simp only[Option.some.injEq] at c;subst c;exact R i j f v q a x l d
   ·rw[p j hjo] at c;exact R i j f u q a c l d
 ·intro i j f u q a c l d
  by_cases hio:i=o
  ·subst hio;rw[r] at a;simp only[Option.some.injEq] at a;subst a;rw[p j (λe=>l e.symm)] at c
   rcases F with e|e
   ·exact y i j v u q x c l (e ▸ d)
   ·intro ho;have Y:j<m.nodes.length:=by rw[<- M];exact (List.getElem?_eq_some_iff.1 c).1
    have l1:=B (N j m.nodes[j] u (List.getElem?_eq_getElem Y) c) q ho;rw[show s.ownBlock=some q from d] at e
    simp only[Option.some.injEq] at e;omega
  ·rw[p i hio] at a
   by_cases hjo:j=o
   ·subst hjo;rw[r] at c;simp only[Option.some.injEq] at c;subst c
    rcases F with e|e
    ·rw[show s.ownBlock=v.1.ownBlock from e]
     exact y i j f v q a x l d
    ·intro ho;have W:i<m.nodes.length:=by rw[<- M];exact (List.getElem?_eq_some_iff.1 a).1
     have l1:=B (N i m.nodes[i] f (List.getElem?_eq_getElem W) a) q d;rw[show s.ownBlock=some q from ho] at e
     simp only[Option.some.injEq] at e;omega
   ·rw[p j hjo] at c;exact y i j f u q a c l d
theorem xk.cell{w:World}{base b:Nat}{m:Ref.zi}{c a:Value}{d:List (Value×Value)}(h:xk w base b m c a d)(k:Nat):w.cell? ⟨b,k,none⟩=(QY m c a)[k]?/\w.frozen? ⟨b,k,none⟩=false:=ze h.blk k
end Go.Proofs.YtdakgnaojakldaaGreatDoor
