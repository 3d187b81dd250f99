/- P -/
import Derived.Test.YtagnlbgbnfnapaaGreatDoorK04
open Go.Proofs.Tryz
set_option maxRecDepth 100000
set_option maxHeartbeats 400000
namespace Go.Proofs.YtagnlbgbnfnapaaGreatDoor
open Go.RowKit
def xY(l:List Nat):List Value:=l.map λ(n:Nat)=>Value.int .i64 (n:Int)
def jF:List Ref.Node->List (Value×Value)->List Value
 | n::ns,v::vs => .int .i64 n.kind :: .string n.text::v.1::v.2::jF ns vs
 | _,_=>[]
def QR(m:Ref.zl)(b a:Value):Array Value:=
 #[.int .i64 m.state,b,a,.bool m.named,.string m.got,.int .i64 m.need,.int .u8 m.low,.int .u8 m.high,.int .i64 m.number,.string m.word,.int .i64 m.root]
structure zP (w:World) (base b:Nat) (m:Ref.zl) (ov nv:Value) (vs:List (Value×Value)):Prop where
 hb:base<=b
 blk:w.heap[b]?=some (.cells (QR m ov nv) 244 (0,0))
 ownO:w.ownsRow base 3 1 ov m.opn.length (xY m.opn)
 ownN:w.ownsRow base 241 4 nv m.nodes.length (jF m.nodes vs)
 len:vs.length=m.nodes.length
 names:∀(i:Nat) (n:Ref.Node) (v:Value×Value),m.nodes[i]?=some n->vs[i]?=some v->w.ownsRow base 9 1 v.1 n.names.length (Ref.strCells n.names)
 kids:∀(i:Nat) (n:Ref.Node) (v:Value×Value),m.nodes[i]?=some n->vs[i]?=some v->w.ownsRow base 3 1 v.2 n.kids.length (xY n.kids)
 sepO:∀(i:Nat) (v:Value×Value) (g:Nat),vs[i]?=some v->v.2.ownBlock=some g->ov.ownBlock≠some g
 sepK:∀(i j:Nat) (v v':Value×Value) (g:Nat),vs[i]?=some v->vs[j]?=some v'->i≠j->v.2.ownBlock=some g->v'.2.ownBlock≠some g
 sepN:∀(i j:Nat) (v v':Value×Value) (g:Nat),vs[i]?=some v->vs[j]?=some v'->i≠j->v.1.ownBlock=some g->v'.1.ownBlock≠some g
theorem Va{w:World}{base:Nat}{e:TypeId}{size:Nat}{v:Value}{n:Nat}{xs:List Value}{g:Nat}(h:w.ownsRow base e size v n xs)(a:v.ownBlock=some g):∃cur,w.heap[g]?=some (.cells cur e (0,0)):=by
 rcases h.2 with ⟨rfl,_⟩|⟨g',cap,cur,rfl,_,hh,_⟩
 ·simp[Value.ownBlock] at a
 ·simp only[Value.ownBlock,Option.some.injEq] at a;subst a;exact⟨cur,hh⟩
theorem Yh{w:World}{base a:Nat}{e k:TypeId}{size d:Nat}{v l:Value}{n q:Nat}{xs j:List Value}{g:Nat}(h:w.ownsRow base e size v n xs)(m:w.ownsRow a k d l q j)(i:e≠k)
  (p:v.ownBlock=some g):l.ownBlock≠some g:=by
 intro f;obtain⟨c,o⟩:=Va h p;obtain⟨r,b⟩:=Va m f;rw[o] at b;simp only[Option.some.injEq,Obj.cells.injEq] at b;exact i b.2.1
theorem jQ{w:World}{base:Nat}{e t:TypeId}{size:Nat}{v:Value}{n:Nat}{xs:List Value}{b:Nat}{cs:Array Value}(h:w.ownsRow base e size v n xs)(hb:w.heap[b]?=some (.cells cs t (0,0)))(a:e≠t):v.ownBlock≠some b:=by
 intro f;obtain⟨c,d⟩:=Va h f;rw[d] at hb;simp only[Option.some.injEq,Obj.cells.injEq] at hb;exact a hb.2.1
theorem zP.store{w:World}{base b:Nat}{m m':Ref.zl}{g f:Value}{r:List (Value×Value)}(h:zP w base b m g f r)(k:Nat)(u:Value)(c:(QR m g f).setIfInBounds k u=QR m' g f)
  (z:m'.opn=m.opn)(e:m'.nodes=m.nodes):zP (w.setCell ⟨b,k,none⟩ u) base b m' g f r:=by
 obtain⟨s,a,l,o,t,p,q,x,y,j⟩:=h;refine⟨s,?_,?_,?_,by rw[e];exact t,?_,?_,x,y,j⟩
 ·rw[yz w b k _ _ u a,c]
 ·rw[z];exact xE l (jQ l a (by decide)) u
 ·rw[e];exact xE o (jQ o a (by decide)) u
 ·rw[e];intro i n v hi d;exact xE (p i n v hi d) (jQ (p i n v hi d) a (by decide)) u
 ·rw[e];intro i n v hi d;exact xE (q i n v hi d) (jQ (q i n v hi d) a (by decide)) u
theorem zP.below{w w':World}{base b:Nat}{m:Ref.zl}{f e:Value}{g:List (Value×Value)}(h:zP w base b m f e g)(hb:Below w.heap.size w w'):zP w' base b m f e g:=by
 obtain⟨j,d,k,l,o,p,q,r,s,a⟩:=h;exact⟨j,(hb.block b (zy d)).trans d,ownsRow_below k hb,ownsRow_below l hb,o,λi n v hi c=>ownsRow_below (p i n v hi c) hb,λi n v hi c=>ownsRow_below (q i n v hi c) hb,r,s,a⟩
theorem AR(b:Int)(w:World)(f:0<=b)(g:b<=255) :
  Calls prog 207 #[.int .u8 b] w λe w'=>e = .returned (.bool (Ref.QM b))/\w'=w:=by
 obtain⟨P,a⟩:=Nm (Ref.QM b);rw[a];unfold Ref.QM at a;have c:=hid a;clear a;go_enter func207,ntmps207
 go_wp2
 all_goals
  go_ret;refine⟨Zu ?_,rfl⟩;have d:=c.out
  go_light
  rw[<- d]
  first
   | (symm;rw[Zj];omega)
   | (rw[XH];simp only[Bool.or_eq_true,kH,Zj];omega)
theorem Gb(b:Int)(w:World)(f:0<=b)(g:b<=255) :
  Calls prog 235 #[.int .u8 b] w λe w'=>e = .returned (.int .i64 (Ref.zL b))/\w'=w:=by
 obtain⟨P,a⟩:=Nm (Ref.zL b);rw[a];unfold Ref.zL at a;have c:=hid a;clear a;go_enter func235,ntmps235
 go_wp2
 all_goals
  go_ret;refine⟨Oy ?_,rfl⟩;have d:=c.out
  go_light
  (repeat' split at d)<;>omega
theorem Ct(w:World)(x:Int)(t:TypeId)(c:Nat):(convert 181 9 (.slice (some ⟨w.heap.size,0,none⟩) 1 c)).run prog (w.alloc (.cells #[.int .u8 x] t)) = .ok (.string ⟨#[UInt8.ofNat x.toNat]⟩) (w.alloc (.cells #[.int .u8 x] t)):=by
 rw[UK _ _ _ _ _ _ _ underlying181 underlying5 underlying9];rw[dx _ _ _ _ [x] (by simp[loadCells,go_sem])]
 rfl
theorem Cx(w:World)(x y:Int)(t:TypeId)(c:Nat):(convert 181 9 (.slice (some ⟨w.heap.size,0,none⟩) 2 c)).run prog (w.alloc (.cells #[.int .u8 x,.int .u8 y] t)) = .ok (.string ⟨#[UInt8.ofNat x.toNat,UInt8.ofNat y.toNat]⟩) (w.alloc (.cells #[.int .u8 x,.int .u8 y] t)):=by
 rw[UK _ _ _ _ _ _ _ underlying181 underlying5 underlying9];rw[dx _ _ _ _ [x,y] (by simp[loadCells,go_sem])]
 rfl
theorem Cw(w:World)(x y z:Int)(t:TypeId)(c:Nat):(convert 181 9 (.slice (some ⟨w.heap.size,0,none⟩) 3 c)).run prog (w.alloc (.cells #[.int .u8 x,.int .u8 y,.int .u8 z] t)) = .ok (.string ⟨#[UInt8.ofNat x.toNat,UInt8.ofNat y.toNat,UInt8.ofNat z.toNat]⟩) (w.alloc (.cells #[.int .u8 x,.int .u8 y,.int .u8 z] t)):=by
 rw[UK _ _ _ _ _ _ _ underlying181 underlying5 underlying9];rw[dx _ _ _ _ [x,y,z] (by simp[loadCells,go_sem])]
 rfl
theorem Ed(n:Int)(w:World)(h:0<=n)(i:n<65536) :
  Calls prog 236 #[.int .i64 n] w λe w'=>e = .returned (.string (Ref.enc n))/\Below w.heap.size w w':=by
 obtain⟨P,a⟩:=Nm (Ref.enc n);rw[a];unfold Ref.enc at a;have b:=hid a;clear a;have d:=Ct;have f:=Cx;have g:=Cw;go_enter func236,ntmps236
 go_wp2
 all_goals
  go_ret;refine⟨OA ?_,nbl _ _⟩;have c:=b.out
  go_light
  clear d f g;rw[<- c]
  first
   | (rw[zb (by omega)];rfl)
   | (rw[za (by omega),zb (by omega)])
   | (rw[za (by omega),za (by omega)])
theorem nR{α:Type}(l:List α)(f:α->α)(o i:Nat)(h:i≠o):(l.modify o f)[i]?=l[i]?:=by
 have a:o≠i:=λe=>h e.symm;rw[Zz];simp[a]
theorem nS{α:Type}(l:List α)(f:α->α)(o:Nat)(n:α)(h:l[o]?=some n):(l.modify o f)[o]?=some (f n):=by
 rw[Zz,h];simp
theorem Ml(ns:List Ref.Node)(b:List (Value×Value))(n:Ref.Node)(v:Value×Value)(h:b.length=ns.length) :
  jF (ns++[n]) (b++[v])=jF ns b++[.int .i64 n.kind,.string n.text,v.1,v.2]:=by
 induction ns generalizing b with
 | nil=>
  cases b with
  | nil=>rfl
  | cons a l=>simp at h
 | cons a l d=>
  cases b with
  | nil=>simp at h
  | cons c t=>
   simp only[List.cons_append,jF];rw[d t (by simpa using h)]
theorem Us(ns:List Ref.Node)(b:List (Value×Value))(h:b.length=ns.length)(o:Nat)(n:Ref.Node)(v:Value×Value)(d:ns[o]?=some n)(e:b[o]?=some v) :
  (jF ns b)[o*4]?=some (.int .i64 n.kind)/\(jF ns b)[o*4+1]?=some (.string n.text)/\(jF ns b)[o*4+2]?=some v.1/\(jF ns b)[o*4+3]?=some v.2:=by
 induction ns generalizing b o with
 | nil=>simp at d
 | cons a l f=>
  cases b with
  | nil=>simp at h
  | cons c t=>
   cases o with
   | zero=>
    simp only[jr,Option.some.injEq] at d e;subst d e;exact⟨rfl,rfl,rfl,rfl⟩
   | succ o=>
    simp only[ko] at d e
    have:=f t (by simpa using h) o d e
    simp only[jF];rw[show (o+1)*4=o*4+1+1+1+1 by omega];simp only[show o*4+1+1+1+1+1=(o*4+1)+1+1+1+1 by omega,show o*4+1+1+1+1+2=(o*4+2)+1+1+1+1 by omega,show o*4+1+1+1+1+3=(o*4+3)+1+1+1+1 by omega,ko];exact this
theorem Mj(ns:List Ref.Node)(b:List (Value×Value))(h:b.length=ns.length)(o:Nat)(v:Value×Value)(d:b[o]?=some v)(kv:Value)(f:Ref.Node->Ref.Node)(e:∀n,(f n).kind=n.kind/\(f n).text=n.text) :
  (jF ns b).set (o*4+3) kv=jF (ns.modify o f) (b.set o (v.1,kv)):=by
 induction ns generalizing b o with
 | nil=>
  cases b with
  | nil=>simp at d
  | cons a l=>simp at h
 | cons a l g=>
  cases b with
  | nil=>simp at h
  | cons c t=>
   cases o with
   | zero=>
    simp only[jr,Option.some.injEq] at d;subst d;simp[jF,List.modify,List.modifyTailIdx,List.modifyTailIdx.go,(e a).1,(e a).2]
   | succ o=>
    simp only[ko] at d
    have:=g t (by simpa using h) o d
    rw[show (o+1)*4+3=(o*4+3)+1+1+1+1 by omega,List.modify_succ_cons,VG];simp only[jF,VG,this]
theorem Mk(ns:List Ref.Node)(b:List (Value×Value))(h:b.length=ns.length)(o:Nat)(v:Value×Value)(d:b[o]?=some v)(kv:Value)(f:Ref.Node->Ref.Node)(e:∀n,(f n).kind=n.kind/\(f n).text=n.text) :
  (jF ns b).set (o*4+2) kv=jF (ns.modify o f) (b.set o (kv,v.2)):=by
 induction ns generalizing b o with
 | nil=>
  cases b with
  | nil=>simp at d
  | cons a l=>simp at h
 | cons a l g=>
  cases b with
  | nil=>simp at h
  | cons c t=>
   cases o with
   | zero=>
    simp only[jr,Option.some.injEq] at d;subst d;simp[jF,List.modify,List.modifyTailIdx,List.modifyTailIdx.go,(e a).1,(e a).2]
   | succ o=>
    simp only[ko] at d
    have:=g t (by simpa using h) o d
    rw[show (o+1)*4+2=(o*4+2)+1+1+1+1 by omega,List.modify_succ_cons,VG];simp only[jF,VG,this]
theorem zP.addNode{X w1:World}{base b:Nat}{m:Ref.zl}{z r k:Value}{B:List (Value×Value)}(h:zP X base b m z r B)(D:X.grownBy w1 r.ownBlock)(n:Ref.Node)(M:n.names=[])(L:n.kids=[])
  (p:w1.ownsRow base 241 4 k (m.nodes.length+1) (jF m.nodes B++[.int .i64 n.kind,.string n.text,.slice none 0 0,.slice none 0 0])) :
  zP (w1.setCell ⟨b,2,none⟩ k) base b { m with nodes:=m.nodes++[n] } z k (B++[(.slice none 0 0,.slice none 0 0)]):=by
 obtain⟨F,u,G,C,q,H,I,J,K,t⟩:=h;have w:r.ownBlock≠some b:=jQ C u (by decide);have l:w1.heap[b]?=some (.cells (QR m z r) 244 (0,0)):=(D.block b (zy u) (λe=>w e.symm)).trans u
 have keep:∀{e:TypeId} {size n:Nat} {v:Value} {xs:List Value},X.ownsRow base e size v n xs->e≠241->w1.ownsRow base e size v n xs:=by
  intro e size n v xs a x;refine a.kept D ?_
  cases hvb:v.ownBlock with
  | none=>exact .inl rfl
  | some g=>exact .inr (λE=>Yh a C x hvb E.symm)
 have put:∀{e:TypeId} {size n:Nat} {v:Value} {xs:List Value},w1.ownsRow base e size v n xs->e≠244->(w1.setCell ⟨b,2,none⟩ k).ownsRow base e size v n xs:=
  λa x=>xE a (jQ a l x) _
 refine⟨F,?_,put (keep G (by decide)) (by decide),?_,by simp[q],?_,?_,?_,?_,?_⟩
 ·rw[yz w1 b 2 _ _ k l];rfl
 ·simp only[qA,vQ];rw[Ml _ _ _ _ q];exact put p (by decide)
 ·intro i y v hi a;rw[Z9] at hi a;simp only[q] at a
  split at hi
  ·rename_i f;rw[zb f] at a;exact put (keep (H i y v hi a) (by decide)) (by decide)
  ·rename_i f;rw[za f] at a
   have s:i-m.nodes.length=0:=by
    have:=(zR.1 hi).1
    simp at this;omega
   rw[s] at hi a;simp only[jr,Option.some.injEq] at hi a;subst hi a;rw[M];exact qD _ _ _ _
 ·intro i y v hi a;rw[Z9] at hi a;simp only[q] at a
  split at hi
  ·rename_i f;rw[zb f] at a;exact put (keep (I i y v hi a) (by decide)) (by decide)
  ·rename_i f;rw[za f] at a
   have s:i-m.nodes.length=0:=by
    have:=(zR.1 hi).1
    simp at this;omega
   rw[s] at hi a;simp only[jr,Option.some.injEq] at hi a;subst hi a;rw[L];exact qD _ _ _ _
 ·intro i v g a d;rw[Z9] at a
  split at a
  ·exact J i v g a d
  ·have:=qL a
   simp only[xL] at this;subst this;simp[Value.ownBlock] at d
 ·intro i j v A g a c o d;rw[Z9] at a c
  split at a
  ·split at c
   ·exact K i j v A g a c o d
   ·have:=qL c
    simp only[xL] at this;subst this;simp[Value.ownBlock]
  ·have:=qL a
   simp only[xL] at this;subst this;simp[Value.ownBlock] at d
 ·intro i j v A g a c o d;rw[Z9] at a c
  split at a
  ·split at c
   ·exact t i j v A g a c o d
   ·have:=qL c
    simp only[xL] at this;subst this;simp[Value.ownBlock]
  ·have:=qL a
   simp only[xL] at this;subst this;simp[Value.ownBlock] at d
theorem zP.xV{X w1:World}{base b:Nat}{m:Ref.zl}{ov Q kv:Value}{D:List (Value×Value)}(h:zP X base b m ov Q D)(o:Nat)(n:Ref.Node)(v:Value×Value)(I:m.nodes[o]?=some n)(x:D[o]?=some v)
  (hg:X.grownBy w1 v.2.ownBlock)(k:Nat)(L:w1.ownsRow base 3 1 kv (n.kids.length+1) (xY n.kids++[.int .i64 (k:Int)]))(B:kv.ownBlock=v.2.ownBlock\/kv.ownBlock=some X.heap.size)
  (g E cap:Nat)(J:Q = .slice (some ⟨g,0,none⟩) E cap) :
  zP (w1.setCell ⟨g,o*4+3,none⟩ kv) base b { m with nodes:=Ref.xV o k m.nodes } ov Q (D.set o (v.1,kv)):=by
 obtain⟨h1,R,h3,h4,M,N,O,S,P,z⟩:=h;have hold:=O o n v I x;have T:v.2.ownBlock≠some b:=jQ hold R (by decide);have y:w1.heap[b]?=some (.cells (QR m ov Q) 244 (0,0)):=(hg.block b (zy R) (λe=>T e.symm)).trans R
 have keep:∀{e:TypeId} {size s:Nat} {f:Value} {xs:List Value},X.ownsRow base e size f s xs->(∀g,v.2.ownBlock=some g->f.ownBlock≠some g)->w1.ownsRow base e size f s xs:=by
  intro e size s f xs a a0;refine a.kept hg ?_
  cases hvb:f.ownBlock with
  | none=>exact .inl rfl
  | some l=>exact .inr (λe2=>a0 l e2.symm hvb)
 have apart:∀{e:TypeId} {size s:Nat} {f:Value} {xs:List Value},X.ownsRow base e size f s xs->3≠e->∀g,v.2.ownBlock=some g->f.ownBlock≠some g:=
  λa U g C=>Yh hold a U C
 have A:=keep h4 (apart h4 (by decide));have W:∃cur,w1.heap[g]?=some (.cells cur 241 (0,0)):=Va A (by rw[J];rfl);obtain⟨cur,u⟩:=W
 have put:∀{e:TypeId} {size s:Nat} {f:Value} {xs:List Value},w1.ownsRow base e size f s xs->e≠241->(w1.setCell ⟨g,o*4+3,none⟩ kv).ownsRow base e size f s xs:=
  λa U=>xE a (jQ a u U) _
 have V:g≠b:=by intro e;subst e;rw[y] at u;simp at u
 have a9:o<m.nodes.length:=(zR.1 I).1;have F:(Ref.xV o k m.nodes).length=m.nodes.length:=by unfold Ref.xV;rw[Km]
 have G:∀i,i≠o->(Ref.xV o k m.nodes)[i]?=m.nodes[i]?:=λi hi=>by unfold Ref.xV;exact nR _ _ _ _ hi
 have H:(Ref.xV o k m.nodes)[o]?=some { n with kids:=n.kids++[k] }:=by unfold Ref.xV;exact nS _ _ _ _ I
 have q:∀i,i≠o->(D.set o (v.1,kv))[i]?=D[i]?:=λi hi=>by rw[zt,za (λe=>hi e.symm)]
 have r:(D.set o (v.1,kv))[o]?=some (v.1,kv):=by rw[zt,zb rfl,zb (by omega)]
 have w:∀{e:TypeId} {size s:Nat} {f:Value} {xs:List Value},X.ownsRow base e size f s xs->∀g,f.ownBlock=some g->g<X.heap.size:=λa g C=>(a.lt g C).2;refine⟨h1,?_,put (keep h3 (λl d=>S o v l x d)) (by decide),?_,by simp[M,F],?_,?_,?_,?_,?_⟩
 ·rw[qc w1 ⟨g,o*4+3,none⟩ kv b (λe=>V e.symm),y];rfl
 ·simp only[F];subst J;rw[show Ref.xV o k m.nodes=m.nodes.modify o (λn=>{ n with kids:=n.kids++[k] }) from rfl]
  rw[<- Mj m.nodes D M o v x kv (λn=>{ n with kids:=n.kids++[k] }) (λ_=>⟨rfl,rfl⟩)]
  have hc:E=m.nodes.length:=by
   rcases A.2 with ⟨e,_⟩|⟨g',cap',cur',e,_⟩
   ·cases e
   ·simp only[Value.slice.injEq] at e;exact e.2.1
  subst hc;exact (A.stored (o*4+3) kv).1
 ·intro i s f hi a
  by_cases hio:i=o
  ·subst hio;rw[H] at hi;rw[r] at a;simp only[Option.some.injEq] at hi a;subst hi a;exact put (keep (N i n v I x) (apart (N i n v I x) (by decide))) (by decide)
  ·rw[G i hio] at hi;rw[q i hio] at a;exact put (keep (N i s f hi a) (apart (N i s f hi a) (by decide))) (by decide)
 ·intro i s f hi a
  by_cases hio:i=o
  ·subst hio;rw[H] at hi;rw[r] at a;simp only[Option.some.injEq] at hi a;subst hi a;simp only[qA,vQ]
   have:xY (n.kids++[k])=xY n.kids++[.int .i64 (k:Int)]:=by simp[xY]
   rw[this];exact put L (by decide)
  ·rw[G i hio] at hi;rw[q i hio] at a;exact put (keep (O i s f hi a) (λl d=>P o i v f l x a (λe=>hio e.symm) d)) (by decide)
 ·intro i f l a d
  by_cases hio:i=o
  ·subst hio;rw[r] at a;simp only[Option.some.injEq] at a;subst a
   rcases B with e|e
   ·exact S i v l x (e ▸ d)
   ·intro K;have l1:=w h3 l K;rw[show kv.ownBlock=some l from d] at e
    simp only[Option.some.injEq] at e;omega
  ·rw[q i hio] at a;exact S i f l a d
 ·intro i j f t l a c p d
  by_cases hio:i=o
  ·subst hio;rw[r] at a;simp only[Option.some.injEq] at a;subst a;rw[q j (λe=>p e.symm)] at c
   rcases B with e|e
   ·exact P i j v t l x c p (e ▸ d)
   ·intro K;have Z:j<m.nodes.length:=by rw[<- M];exact (zR.1 c).1
    have l1:=w (O j m.nodes[j] t (zn Z) c) l K;rw[show kv.ownBlock=some l from d] at e
    simp only[Option.some.injEq] at e;omega
  ·rw[q i hio] at a
   by_cases hjo:j=o
   ·subst hjo;rw[r] at c;simp only[Option.some.injEq] at c;subst c
    rcases B with e|e
    ·rw[show kv.ownBlock=v.2.ownBlock from e]
     exact P i j f v l a x p d
    ·intro K;have Y:i<m.nodes.length:=by rw[<- M];exact (zR.1 a).1
     have l1:=w (O i m.nodes[i] f (zn Y) a) l d;rw[show kv.ownBlock=some l from K] at e
     simp only[Option.some.injEq] at e;omega
   ·rw[q j hjo] at c;exact P i j f t l a c p d
 ·intro i j f t l a c p d
  by_cases hio:i=o
  ·subst hio;rw[r] at a;simp only[Option.some.injEq] at a;subst a;rw[q j (λe=>p e.symm)] at c;exact z i j v t l x c p d
  ·rw[q i hio] at a
   by_cases hjo:j=o
   ·subst hjo;rw[r] at c;simp only[Option.some.injEq] at c;subst c;exact z i j f v l a x p d
   ·rw[q j hjo] at c;exact z i j f t l a c p d
theorem zP.yj{X w1:World}{base b:Nat}{m:Ref.zl}{ov O kv:Value}{C:List (Value×Value)}(h:zP X base b m ov O C)(o:Nat)(n:Ref.Node)(v:Value×Value)(I:m.nodes[o]?=some n)(w:C[o]?=some v)
  (hg:X.grownBy w1 v.1.ownBlock)(k:BY)(K:w1.ownsRow base 9 1 kv (n.names.length+1) (Ref.strCells n.names++[.string k]))(E:kv.ownBlock=v.1.ownBlock\/kv.ownBlock=some X.heap.size)
  (g D cap:Nat)(J:O = .slice (some ⟨g,0,none⟩) D cap) :
  zP (w1.setCell ⟨g,o*4+2,none⟩ kv) base b { m with nodes:=Ref.yj o k m.nodes } ov O (C.set o (kv,v.2)):=by
 obtain⟨h1,P,h3,h4,L,M,N,h8,Q,x⟩:=h;have hold:=M o n v I w;have R:v.1.ownBlock≠some b:=jQ hold P (by decide);have y:w1.heap[b]?=some (.cells (QR m ov O) 244 (0,0)):=(hg.block b (zy P) (λe=>R e.symm)).trans P
 have keep:∀{e:TypeId} {size s:Nat} {f:Value} {xs:List Value},X.ownsRow base e size f s xs->(∀g,v.1.ownBlock=some g->f.ownBlock≠some g)->w1.ownsRow base e size f s xs:=by
  intro e size s f xs a Y;refine a.kept hg ?_
  cases hvb:f.ownBlock with
  | none=>exact .inl rfl
  | some q=>exact .inr (λe2=>Y q e2.symm hvb)
 have apart:∀{e:TypeId} {size s:Nat} {f:Value} {xs:List Value},X.ownsRow base e size f s xs->9≠e->∀g,v.1.ownBlock=some g->f.ownBlock≠some g:=
  λa S g B=>Yh hold a S B
 have A:=keep h4 (apart h4 (by decide));have U:∃cur,w1.heap[g]?=some (.cells cur 241 (0,0)):=Va A (by rw[J];rfl);obtain⟨cur,u⟩:=U
 have put:∀{e:TypeId} {size s:Nat} {f:Value} {xs:List Value},w1.ownsRow base e size f s xs->e≠241->(w1.setCell ⟨g,o*4+2,none⟩ kv).ownsRow base e size f s xs:=
  λa S=>xE a (jQ a u S) _
 have T:g≠b:=by intro e;subst e;rw[y] at u;simp at u
 have a8:o<m.nodes.length:=(zR.1 I).1;have F:(Ref.yj o k m.nodes).length=m.nodes.length:=by unfold Ref.yj;rw[Km]
 have G:∀i,i≠o->(Ref.yj o k m.nodes)[i]?=m.nodes[i]?:=λi hi=>by unfold Ref.yj;exact nR _ _ _ _ hi
 have H:(Ref.yj o k m.nodes)[o]?=some { n with names:=n.names++[k] }:=by unfold Ref.yj;exact nS _ _ _ _ I
 have p:∀i,i≠o->(C.set o (kv,v.2))[i]?=C[i]?:=λi hi=>by rw[zt,za (λe=>hi e.symm)]
 have r:(C.set o (kv,v.2))[o]?=some (kv,v.2):=by rw[zt,zb rfl,zb (by omega)]
 have z:∀{e:TypeId} {size s:Nat} {f:Value} {xs:List Value},X.ownsRow base e size f s xs->∀g,f.ownBlock=some g->g<X.heap.size:=λa g B=>(a.lt g B).2;refine⟨h1,?_,put (keep h3 (apart h3 (by decide))) (by decide),?_,by simp[L,F],?_,?_,?_,?_,?_⟩
 ·rw[qc w1 ⟨g,o*4+2,none⟩ kv b (λe=>T e.symm),y];rfl
 ·simp only[F];subst J;rw[show Ref.yj o k m.nodes=m.nodes.modify o (λn=>{ n with names:=n.names++[k] }) from rfl]
  rw[<- Mk m.nodes C L o v w kv (λn=>{ n with names:=n.names++[k] }) (λ_=>⟨rfl,rfl⟩)]
  have hc:D=m.nodes.length:=by
   rcases A.2 with ⟨e,_⟩|⟨g',cap',cur',e,_⟩
   ·cases e
   ·simp only[Value.slice.injEq] at e;exact e.2.1
  subst hc;exact (A.stored (o*4+2) kv).1
 ·intro i s f hi a
  by_cases hio:i=o
  ·subst hio;rw[H] at hi;rw[r] at a;simp only[Option.some.injEq] at hi a;subst hi a;simp only[qA,vQ]
   have:Ref.strCells (n.names++[k])=Ref.strCells n.names++[.string k]:=by simp[Ref.strCells]
   rw[this];exact put K (by decide)
  ·rw[G i hio] at hi;rw[p i hio] at a;exact put (keep (M i s f hi a) (λq d=>x o i v f q w a (λe=>hio e.symm) d)) (by decide)
 ·intro i s f hi a
  by_cases hio:i=o
  ·subst hio;rw[H] at hi;rw[r] at a;simp only[Option.some.injEq] at hi a;subst hi a;exact put (keep (N i n v I w) (apart (N i n v I w) (by decide))) (by decide)
  ·rw[G i hio] at hi;rw[p i hio] at a;exact put (keep (N i s f hi a) (apart (N i s f hi a) (by decide))) (by decide)
 ·intro i f q a d
  by_cases hio:i=o
  ·subst hio;rw[r] at a;simp only[Option.some.injEq] at a;subst a;exact h8 i v q w d
  ·rw[p i hio] at a;exact h8 i f q a d
 ·intro i j f t q a c l d
  by_cases hio:i=o
  ·subst hio;rw[r] at a;simp only[Option.some.injEq] at a;subst a;rw[p j (λe=>l e.symm)] at c;exact Q i j v t q w c l d
  ·rw[p i hio] at a
   by_cases hjo:j=o
   ·subst hjo;rw[r] at c;simp only[Option.some.injEq] at c;subst c;exact Q i j f v q a w l d
   ·rw[p j hjo] at c;exact Q i j f t q a c l d
 ·intro i j f t q a c l d
  by_cases hio:i=o
  ·subst hio;rw[r] at a;simp only[Option.some.injEq] at a;subst a;rw[p j (λe=>l e.symm)] at c
   rcases E with e|e
   ·exact x i j v t q w c l (e ▸ d)
   ·intro Z;have W:j<m.nodes.length:=by rw[<- L];exact (zR.1 c).1
    have l1:=z (M j m.nodes[j] t (zn W) c) q Z;rw[show kv.ownBlock=some q from d] at e
    simp only[Option.some.injEq] at e;omega
  ·rw[p i hio] at a
   by_cases hjo:j=o
   ·subst hjo;rw[r] at c;simp only[Option.some.injEq] at c;subst c
    rcases E with e|e
    ·rw[show kv.ownBlock=v.1.ownBlock from e]
     exact x i j f v q a w l d
    ·intro Z;have V:i<m.nodes.length:=by rw[<- L];exact (zR.1 a).1
     have l1:=z (M i m.nodes[i] f (zn V) a) q d;rw[show kv.ownBlock=some q from Z] at e
     simp only[Option.some.injEq] at e;omega
   ·rw[p j hjo] at c;exact x i j f t q a c l d
theorem zP.push{X w1:World}{base b:Nat}{m:Ref.zl}{j a A:Value}{H:List (Value×Value)}(h:zP X base b m j A H)(G:X.grownBy w1 j.ownBlock)(k:Nat)
  (l:w1.ownsRow base 3 1 a (m.opn.length+1) (xY m.opn++[.int .i64 (k:Int)]))(t:a.ownBlock=j.ownBlock\/a.ownBlock=some X.heap.size) :
  zP (w1.setCell ⟨b,1,none⟩ a) base b { m with opn:=m.opn++[k] } a A H:=by
 obtain⟨K,r,s,B,C,D,E,F,L,q⟩:=h;have u:j.ownBlock≠some b:=jQ s r (by decide);have f:w1.heap[b]?=some (.cells (QR m j A) 244 (0,0)):=(G.block b (zy r) (λe=>u e.symm)).trans r
 have keep:∀{e:TypeId} {size z:Nat} {p:Value} {xs:List Value},X.ownsRow base e size p z xs->(∀g,j.ownBlock=some g->p.ownBlock≠some g)->w1.ownsRow base e size p z xs:=by
  intro e size z p xs y x;refine y.kept G ?_
  cases hvb:p.ownBlock with
  | none=>exact .inl rfl
  | some J=>exact .inr (λI=>x J I.symm hvb)
 have put:∀{e:TypeId} {size n:Nat} {v:Value} {xs:List Value},w1.ownsRow base e size v n xs->e≠244->(w1.setCell ⟨b,1,none⟩ a).ownsRow base e size v n xs:=
  λc M=>xE c (jQ c f M) _
 refine⟨K,?_,?_,put (keep B (λg d=>Yh s B (by decide) d)) (by decide),C,?_,?_,?_,L,q⟩
 ·rw[yz w1 b 1 _ _ a f];rfl
 ·simp only[qA,vQ];rw[show xY (m.opn++[k])=xY m.opn++[.int .i64 (k:Int)] by simp[xY]];exact put l (by decide)
 ·intro i n v hi c;exact put (keep (D i n v hi c) (λg d=>Yh s (D i n v hi c) (by decide) d)) (by decide)
 ·intro i n v hi c;exact put (keep (E i n v hi c) (λg d e=>F i v g c e d)) (by decide)
 ·intro i v g c o
  rcases t with e|e
  ·rw[e];exact F i v g c o
  ·intro N;have w:i<m.nodes.length:=by rw[<- C];exact (zR.1 c).1
   have O:=((E i m.nodes[i] v (zn w) c).lt g o).2;rw[N] at e;simp only[Option.some.injEq] at e;omega
theorem zP.pop{w:World}{base b:Nat}{m:Ref.zl}{g cap:Nat}{j:Value}{k:List (Value×Value)}(h:zP w base b m (.slice (some ⟨g,0,none⟩) m.opn.length cap) j k)(st:Int) :
  zP ((w.setCell ⟨b,1,none⟩ (.slice (some ⟨g,0,none⟩) (m.opn.length-1) cap)).setCell ⟨b,0,none⟩ (.int .i64 st)) base b { m with opn:=m.opn.dropLast,state:=st } (.slice (some ⟨g,0,none⟩) (m.opn.length-1) cap) j k:=by
 obtain⟨o,d,p,q,r,s,t,u,x,c⟩:=h
 have put:∀{e:TypeId} {size n:Nat} {v:Value} {xs:List Value},w.ownsRow base e size v n xs->e≠244 ->
   ((w.setCell ⟨b,1,none⟩ (.slice (some ⟨g,0,none⟩) (m.opn.length-1) cap)).setCell ⟨b,0,none⟩ (.int .i64 st)).ownsRow base e size v n xs:=
  λa f=>xE (xE a (jQ a d f) _) (jQ a d f) _
 refine⟨o,?_,?_,put q (by decide),r,λi n v hi a=>put (s i n v hi a) (by decide),λi n v hi a=>put (t i n v hi a) (by decide),u,x,c⟩
 ·rw[yz _ b 0 _ _ _ (yz w b 1 _ _ _ d)];rfl
 ·have y:w.ownsRow base 3 1 (.slice (some ⟨g,0,none⟩) (m.opn.length-1) cap) (m.opn.length-1) (xY m.opn.dropLast):=by
   refine⟨by simp[xY],?_⟩
   rcases p.2 with ⟨e,_⟩|⟨g',cap',cur,e,hg,hh,hc,hm,hs,ht⟩
   ·cases e
   ·simp only[Value.slice.injEq,Option.some.injEq,Addr.mk.injEq,and_true,true_and] at e;obtain⟨rfl,rfl⟩:=e;refine .inr ⟨g,cap,cur,rfl,hg,hh,by omega,hm,hs,?_⟩
    have l:xY m.opn.dropLast=(xY m.opn).take (m.opn.length-1):=by
     unfold xY;rw[List.dropLast_eq_take,List.map_take]
    rw[l,<- ht,List.take_take];congr 1;omega
  simp only[List.length_dropLast];exact put y (by decide)
theorem zP.cell{w:World}{base b:Nat}{m:Ref.zl}{c a:Value}{d:List (Value×Value)}(h:zP w base b m c a d)(k:Nat):w.cell? ⟨b,k,none⟩=(QR m c a)[k]?/\w.frozen? ⟨b,k,none⟩=false:=zg h.blk k
end Go.Proofs.YtagnlbgbnfnapaaGreatDoor
