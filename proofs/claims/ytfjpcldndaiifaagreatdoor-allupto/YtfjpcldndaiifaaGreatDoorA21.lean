/- P -/
import Derived.Test.YtfjpcldndaiifaaGreatDoorA03
open Go.Proofs.Tryz
set_option maxRecDepth 100000
set_option maxHeartbeats 400000
namespace Go.Proofs.YtfjpcldndaiifaaGreatDoor
open Go.RowKit
def yK(l:List Nat):List Y:=l.map λ(n:Nat)=>Value.int .i64 (n:Int)
def uf:List U.Node->List (Y×Y)->List Y
 | n::ns,v::vs => R9 n.kind :: S9 n.text::v.1::v.2::uf ns vs
 | _,_=>[]
def YL(m:U.zl)(b a:Y):Array Y:=
 #[R9 m.state,b,a,.bool m.named,S9 m.got,R9 m.need,.int .u8 m.low,.int .u8 m.high,R9 m.number,S9 m.word,R9 m.root]
structure zW (w:J) (base b:Nat) (m:U.zl) (ov nv:Y) (vs:List (Y×Y)):Prop where
 hb:base<=b
 blk:w.heap[b]?=some (.cells (YL m ov nv) 168 (0,0))
 ownO:w.ownsRow base 3 1 ov m.opn.length (yK m.opn)
 ownN:w.ownsRow base 165 4 nv m.nodes.length (uf m.nodes vs)
 len:vs.length=m.nodes.length
 names:∀(i:Nat) (n:U.Node) (v:Y×Y),m.nodes[i]?=some n->vs[i]?=some v->w.ownsRow base 9 1 v.1 n.names.length (U.strCells n.names)
 kids:∀(i:Nat) (n:U.Node) (v:Y×Y),m.nodes[i]?=some n->vs[i]?=some v->w.ownsRow base 3 1 v.2 n.kids.length (yK n.kids)
 sepO:∀(i:Nat) (v:Y×Y) (g:Nat),vs[i]?=some v->v.2.ownBlock=some g->ov.ownBlock≠some g
 sepK:∀(i j:Nat) (v v':Y×Y) (g:Nat),vs[i]?=some v->vs[j]?=some v'->i≠j->v.2.ownBlock=some g->v'.2.ownBlock≠some g
 sepN:∀(i j:Nat) (v v':Y×Y) (g:Nat),vs[i]?=some v->vs[j]?=some v'->i≠j->v.1.ownBlock=some g->v'.1.ownBlock≠some g
theorem KR{w:J}{base:Nat}{e:TypeId}{size:Nat}{v:Y}{n:Nat}{xs:List Y}{g:Nat}(h:w.ownsRow base e size v n xs)(b:v.ownBlock=some g):∃a,w.heap[g]?=some (.cells a e (0,0)):=by
 rcases h.2 with⟨rfl,_⟩|⟨g',cap,a,rfl,_,hh,_⟩
 ·simp[Value.ownBlock]at b
 simp only[Value.ownBlock,Option.some.injEq]at b;subst b;exact⟨a,hh⟩
theorem Vo{w:J}{base a:Nat}{e k:TypeId}{size d:Nat}{v l:Y}{n q:Nat}{xs j:List Y}{g:Nat}(h:w.ownsRow base e size v n xs)(m:w.ownsRow a k d l q j)(i:e≠k)
  (p:v.ownBlock=some g):l.ownBlock≠some g:=by
 intro f;obtain⟨c,o⟩:=KR h p;obtain⟨r,b⟩:=KR m f;rw[o]at b;simp only[Option.some.injEq,Obj.cells.injEq]at b;exact i b.2.1
theorem uu{w:J}{base:Nat}{e t:TypeId}{size:Nat}{v:Y}{n:Nat}{xs:List Y}{b:Nat}{cs:Array Y}(h:w.ownsRow base e size v n xs)(a:w.heap[b]?=some (.cells cs t (0,0)))(d:e≠t):v.ownBlock≠some b:=by
 intro g;obtain⟨c,f⟩:=KR h g;rw[f]at a;simp only[Option.some.injEq,Obj.cells.injEq]at a;exact d a.2.1
theorem zW.store{w:J}{base b:Nat}{m m':U.zl}{j g:Y}{s:List (Y×Y)}(h:zW w base b m j g s)(k:Nat)(u:Y)(c:(YL m j g).setIfInBounds k u=YL m' j g)
  (A:m'.opn=m.opn)(f:m'.nodes=m.nodes):zW (w.setCell (G8 b k) u) base b m' j g s:=by
 obtain⟨t,a,o,p,x,q,r,y,z,l⟩:=h;refine⟨t,?_,?_,?_,by rw[f];exact x,?_,?_,y,z,l⟩
 ·rw[yC w b k _ _ u a,c]
 ·rw[A];exact xz o (uu o a (by decide)) u
 ·rw[f];exact xz p (uu p a (by decide)) u
 ·rw[f];intro i n v d e;exact xz (q i n v d e) (uu (q i n v d e) a (by decide)) u
 rw[f];intro i n v d e;exact xz (r i n v d e) (uu (r i n v d e) a (by decide)) u
theorem zW.below{w w':J}{base b:Nat}{m:U.zl}{j g:Y}{k:List (Y×Y)}(h:zW w base b m j g k)(a:BQ w w'):zW w' base b m j g k:=by
 obtain⟨l,f,o,p,q,r,s,t,u,c⟩:=h;exact⟨l,(a.block b (zt f)).trans f,ownsRow_below o a,ownsRow_below p a,q,λi n v d e=>ownsRow_below (r i n v d e) a,λi n v d e=>ownsRow_below (s i n v d e) a,t,u,c⟩
theorem Lx(b:Int)(w:J)(g:0<=b)(h:b<=255):R8 168 #[.int .u8 b] w λe f=>e=.returned (.bool (U.YG b))/\f=w:=by
 obtain⟨P,a⟩:=Nm (U.YG b);rw[a];unfold U.YG at a;have c:=G7 a;clear a;go_enter func168,ntmps168;go_wp2
 all_goals
  go_ret;refine⟨Z4 ?_,rfl⟩;have d:=c.o
  go_light
  rw[<- d]
  first
   | (symm;rw[vJ];omega)
   | (rw[Zp];simp only[fM,vC,vJ];omega)
theorem Sw(b:Int)(w:J)(g:0<=b)(h:b<=255):R8 202 #[.int .u8 b] w λe f=>e=.returned (R9 (U.zP b))/\f=w:=by
 obtain⟨P,a⟩:=Nm (U.zP b);rw[a];unfold U.zP at a;have c:=G7 a;clear a;go_enter func202,ntmps202;go_wp2
 all_goals
  go_ret;refine⟨zcY ?_,rfl⟩;have d:=c.o
  go_light
  (repeat' split at d)<;>omega
theorem Ns(w:J)(x:Int)(t:TypeId)(c:Nat):(convert 210 9 (TL (some (R6 w 0)) 1 c)).run prog (w.alloc (L8 #[.int .u8 x] t))=.ok (S9 ⟨#[UInt8.ofNat x.toNat]⟩) (w.alloc (L8 #[.int .u8 x] t)):=by
 rw[eD _ _ _ _ _ _ _ underlying210 underlying5 underlying9];rw[nY _ _ _ _ [x] (by simp[loadCells,go_sem])]
 rfl
theorem Nw(w:J)(x y:Int)(t:TypeId)(c:Nat):(convert 210 9 (TL (some (R6 w 0)) 2 c)).run prog (w.alloc (L8 #[.int .u8 x,.int .u8 y] t))=.ok (S9 ⟨#[UInt8.ofNat x.toNat,UInt8.ofNat y.toNat]⟩) (w.alloc (L8 #[.int .u8 x,.int .u8 y] t)):=by
 rw[eD _ _ _ _ _ _ _ underlying210 underlying5 underlying9];rw[nY _ _ _ _ [x,y] (by simp[loadCells,go_sem])]
 rfl
theorem Nv(w:J)(x y z:Int)(t:TypeId)(c:Nat):(convert 210 9 (TL (some (R6 w 0)) 3 c)).run prog (w.alloc (L8 #[.int .u8 x,.int .u8 y,.int .u8 z] t))=.ok (S9 ⟨#[UInt8.ofNat x.toNat,UInt8.ofNat y.toNat,UInt8.ofNat z.toNat]⟩) (w.alloc (L8 #[.int .u8 x,.int .u8 y,.int .u8 z] t)):=by
 rw[eD _ _ _ _ _ _ _ underlying210 underlying5 underlying9];rw[nY _ _ _ _ [x,y,z] (by simp[loadCells,go_sem])]
 rfl
theorem Pf(n:Int)(w:J)(i:0<=n)(j:n<65536):R8 203 #[R9 n] w (G5 (S9 (U.enc n)) w):=by
 obtain⟨P,a⟩:=Nm (U.enc n);rw[a];unfold U.enc at a;have b:=G7 a;clear a;have d:=Ns;have f:=Nw;have g:=Nv;go_enter func203,ntmps203;go_wp2
 all_goals
  go_ret;refine⟨zc0 ?_,nbl _ _⟩;have c:=b.o
  go_light
  clear d f g;rw[<- c]
  first
   | (rw[N9];rfl)
   | (rw[N8,N9])
   | (rw[N8,N8])
theorem Dc{α:Type}(l:List α)(f:α->α)(o i:Nat)(h:i≠o):(l.modify o f)[i]?=l[i]?:=by
 have a:o≠i:=λe=>h e.symm;rw[Q7];simp[a]
theorem Df{α:Type}(l:List α)(f:α->α)(o:Nat)(n:α)(h:l[o]?=some n):(l.modify o f)[o]?=some (f n):=by
 rw[Q7,h];simp
theorem zbn(ns:List U.Node)(b:List (Y×Y))(n:U.Node)(v:Y×Y)(h:b.length=ns.length):uf (ns++[n]) (b++[v])=uf ns b++[R9 n.kind,S9 n.text,v.1,v.2]:=by
 induction ns generalizing b with
 | nil=>
  cases b with
  | nil=>rfl
  | cons a l=>simp at h
 | cons a l d=>
  cases b with
  | nil=>simp at h
  | cons c t=>
   simp only[gm,uf];rw[d t (by simpa using h)]
theorem dN(ns:List U.Node)(b:List (Y×Y))(h:b.length=ns.length)(o:Nat)(n:U.Node)(v:Y×Y)(d:ns[o]?=some n)(e:b[o]?=some v):(uf ns b)[o*4]?=some (R9 n.kind)/\(uf ns b)[o*4+1]?=some (S9 n.text)/\(uf ns b)[o*4+2]?=some v.1/\(uf ns b)[o*4+3]?=some v.2:=by
 induction ns generalizing b o with
 | nil=>simp at d
 | cons a l f=>
  cases b with
  | nil=>simp at h
  | cons c t=>
   cases o with
   | zero=>
    simp only[jE,Option.some.injEq]at d e;subst d e;exact⟨rfl,rfl,rfl,rfl⟩
   | succ o=>
    simp only[kW]at d e
    have:=f t (by simpa using h) o d e
    simp only[uf];rw[show (o+1)*4=o*4+1+1+1+1 by omega];simp only[show o*4+1+1+1+1+1=(o*4+1)+1+1+1+1 by omega,show o*4+1+1+1+1+2=(o*4+2)+1+1+1+1 by omega,show o*4+1+1+1+1+3=(o*4+3)+1+1+1+1 by omega,kW];exact this
theorem zbl(ns:List U.Node)(b:List (Y×Y))(h:b.length=ns.length)(o:Nat)(v:Y×Y)(d:b[o]?=some v)(kv:Y)(f:U.Node->U.Node)(e:∀n,(f n).kind=n.kind/\(f n).text=n.text):(uf ns b).set (o*4+3) kv=uf (ns.modify o f) (b.set o (v.1,kv)):=by
 induction ns generalizing b o with
 | nil=>
  cases b with
  | nil=>simp at d
  | cons a l=>simp at h
 | cons a l g=>
  cases b with
  | nil=>simp at h
  | cons c t=>
   cases o with
   | zero=>
    simp only[jE,Option.some.injEq]at d;subst d;simp[uf,List.modify,List.modifyTailIdx,List.modifyTailIdx.go,(e a).1,(e a).2]
   | succ o=>
    simp only[kW]at d
    have:=g t (by simpa using h) o d
    rw[show (o+1)*4+3=(o*4+3)+1+1+1+1 by omega,List.modify_succ_cons,aR];simp only[uf,aR,this]
theorem zbm(ns:List U.Node)(b:List (Y×Y))(h:b.length=ns.length)(o:Nat)(v:Y×Y)(d:b[o]?=some v)(kv:Y)(f:U.Node->U.Node)(e:∀n,(f n).kind=n.kind/\(f n).text=n.text):(uf ns b).set (o*4+2) kv=uf (ns.modify o f) (b.set o (kv,v.2)):=by
 induction ns generalizing b o with
 | nil=>
  cases b with
  | nil=>simp at d
  | cons a l=>simp at h
 | cons a l g=>
  cases b with
  | nil=>simp at h
  | cons c t=>
   cases o with
   | zero=>
    simp only[jE,Option.some.injEq]at d;subst d;simp[uf,List.modify,List.modifyTailIdx,List.modifyTailIdx.go,(e a).1,(e a).2]
   | succ o=>
    simp only[kW]at d
    have:=g t (by simpa using h) o d
    rw[show (o+1)*4+2=(o*4+2)+1+1+1+1 by omega,List.modify_succ_cons,aR];simp only[uf,aR,this]
theorem zW.addNode{X w1:J}{base b:Nat}{m:U.zl}{B t l:Y}{D:List (Y×Y)}(h:zW X base b m B t D)(F:X.grownBy w1 t.ownBlock)(n:U.Node)(P:n.names=[])(O:n.kids=[])
  (r:w1.ownsRow base 165 4 l (m.nodes.length+1) (uf m.nodes D++[R9 n.kind,S9 n.text,R4,R4])):zW (w1.setCell (G8 b 2) l) base b { m with nodes:=m.nodes++[n] } B l (D++[(TL none 0 0,TL none 0 0)]):=by
 obtain⟨H,x,I,E,s,K,L,M,N,w⟩:=h;have y:t.ownBlock≠some b:=uu E x (by decide);have o:w1.heap[b]?=some (.cells (YL m B t) 168 (0,0)):=(F.block b (zt x) (λe=>y e.symm)).trans x
 have keep:∀{e:TypeId} {size n:Nat} {v:Y} {q:List Y},X.ownsRow base e size v n q->e≠165->w1.ownsRow base e size v n q:=by
  intro e size n v q a z;refine a.kept F ?_
  cases hvb:v.ownBlock with
  | none=>exact .inl rfl
  | some g=>exact .inr (λG=>Vo a E z hvb G.symm)
 have put:∀{e:TypeId} {size n:Nat} {v:Y} {q:List Y},w1.ownsRow base e size v n q->e≠168->(w1.setCell (G8 b 2) l).ownsRow base e size v n q:=
  λa z=>xz a (uu a o z) _
 refine⟨H,?_,put (keep I (by decide)) (by decide),?_,by simp[s],?_,?_,?_,?_,?_⟩
 ·rw[yC w1 b 2 _ _ l o];rfl
 ·simp only[qE,kX];rw[zbn _ _ _ _ s];exact put r (by decide)
 ·intro i A v f a;rw[XQ]at f a;simp only[s]at a;split at f
  ·rename_i k;rw[zb k]at a;exact put (keep (K i A v f a) (by decide)) (by decide)
  rename_i k;rw[za k]at a
  have u:i-m.nodes.length=0:=by
   have:=(zU.1 f).1
   simp at this;omega
  rw[u]at f a;simp only[jE,Option.some.injEq]at f a;subst f a;rw[P];exact qF _ _ _ _
 ·intro i A v f a;rw[XQ]at f a;simp only[s]at a;split at f
  ·rename_i k;rw[zb k]at a;exact put (keep (L i A v f a) (by decide)) (by decide)
  rename_i k;rw[za k]at a
  have u:i-m.nodes.length=0:=by
   have:=(zU.1 f).1
   simp at this;omega
  rw[u]at f a;simp only[jE,Option.some.injEq]at f a;subst f a;rw[O];exact qF _ _ _ _
 ·intro i v g a d;rw[XQ]at a;split at a
  ·exact M i v g a d
  have:=xC a
  simp only[yx]at this;subst this;simp[Value.ownBlock]at d
 ·intro i j v C g a c p d;rw[XQ]at a c;split at a
  ·split at c
   ·exact N i j v C g a c p d
   have:=xC c
   simp only[yx]at this;subst this;simp[Value.ownBlock]
  have:=xC a
  simp only[yx]at this;subst this;simp[Value.ownBlock]at d
 intro i j v C g a c p d;rw[XQ]at a c;split at a
 ·split at c
  ·exact w i j v C g a c p d
  have:=xC c
  simp only[yx]at this;subst this;simp[Value.ownBlock]
 have:=xC a
 simp only[yx]at this;subst this;simp[Value.ownBlock]at d
theorem zW.yH{X w1:J}{base b:Nat}{m:U.zl}{ov nv kv:Y}{H:List (Y×Y)}(h:zW X base b m ov nv H)(o:Nat)(n:U.Node)(v:Y×Y)(O:m.nodes[o]?=some n)(z:H[o]?=some v)
  (hg:X.grownBy w1 v.2.ownBlock)(k:Nat)(R:w1.ownsRow base 3 1 kv (n.kids.length+1) (yK n.kids++[R9 (k:Int)]))(F:kv.ownBlock=v.2.ownBlock\/kv.ownBlock=some X.heap.size)
  (g I cap:Nat)(P:nv=TL (some (G8 g 0)) I cap):zW (w1.setCell (G8 g (o*4+3)) kv) base b { m with nodes:=U.yH o k m.nodes } ov nv (H.set o (v.1,kv)):=by
 obtain⟨h1,h2,h3,h4,S,T,V,h8,W,D⟩:=h;have C:=V o n v O z;have a3:v.2.ownBlock≠some b:=uu C h2 (by decide);have B:w1.heap[b]?=some (.cells (YL m ov nv) 168 (0,0)):=(hg.block b (zt h2) (λe=>a3 e.symm)).trans h2
 have keep:∀{e:TypeId} {size u:Nat} {f:Y} {A:List Y},X.ownsRow base e size f u A->(∀g,v.2.ownBlock=some g->f.ownBlock≠some g)->w1.ownsRow base e size f u A:=by
  intro e size u f A a a9;refine a.kept hg ?_
  cases hvb:f.ownBlock with
  | none=>exact .inl rfl
  | some l=>exact .inr (λe2=>a9 l e2.symm hvb)
 have s:∀{e:TypeId} {size u:Nat} {f:Y} {A:List Y},X.ownsRow base e size f u A->3≠e->∀g,v.2.ownBlock=some g->f.ownBlock≠some g:=
  λa he g G=>Vo C a he G
 have E:=keep h4 (s h4 (by decide));have a6:∃K,w1.heap[g]?=some (.cells K 165 (0,0)):=KR E (by rw[P];rfl);obtain⟨K,x⟩:=a6
 have put:∀{e:TypeId} {size u:Nat} {f:Y} {A:List Y},w1.ownsRow base e size f u A->e≠165->(w1.setCell (G8 g (o*4+3)) kv).ownsRow base e size f u A:=
  λa he=>xz a (uu a x he) _
 have a5:g≠b:=by intro e;subst e;rw[B]at x;simp at x
 have b8:o<m.nodes.length:=(zU.1 O).1;have L:(U.yH o k m.nodes).length=m.nodes.length:=by unfold U.yH;rw[gB]
 have M:∀i,i≠o->(U.yH o k m.nodes)[i]?=m.nodes[i]?:=λi r=>by unfold U.yH;exact Dc _ _ _ _ r
 have N:(U.yH o k m.nodes)[o]?=some { n with kids:=n.kids++[k] }:=by unfold U.yH;exact Df _ _ _ _ O
 have q:∀i,i≠o->(H.set o (v.1,kv))[i]?=H[i]?:=λi r=>by rw[zu,za (λe=>r e.symm)]
 have t:(H.set o (v.1,kv))[o]?=some (v.1,kv):=by rw[zu,zb rfl,N9]
 have y:∀{e:TypeId} {size u:Nat} {f:Y} {A:List Y},X.ownsRow base e size f u A->∀g,f.ownBlock=some g->g<X.heap.size:=λa g G=>(a.lt g G).2;refine⟨h1,?_,put (keep h3 (λl d=>h8 o v l z d)) (by decide),?_,by simp[S,L],?_,?_,?_,?_,?_⟩
 ·rw[qy w1 (G8 g (o*4+3)) kv b (λe=>a5 e.symm),B];rfl
 ·simp only[L];subst P;rw[show U.yH o k m.nodes=m.nodes.modify o (λn=>{ n with kids:=n.kids++[k] }) from rfl]
  rw[<- zbl m.nodes H S o v z kv (λn=>{ n with kids:=n.kids++[k] }) (λ_=>⟨rfl,rfl⟩)]
  have hc:I=m.nodes.length:=by
   rcases E.2 with⟨e,_⟩|⟨g',cap',cur',e,_⟩
   ·cases e
   simp only[Value.slice.injEq]at e;exact e.2.1
  subst hc;exact(E.stored (o*4+3) kv).1
 ·intro i u f r a
  by_cases hio:i=o
  ·subst hio;rw[N]at r;rw[t]at a;simp only[Option.some.injEq]at r a;subst r a;exact put (keep (T i n v O z) (s (T i n v O z) (by decide))) (by decide)
  rw[M i hio]at r;rw[q i hio]at a;exact put (keep (T i u f r a) (s (T i u f r a) (by decide))) (by decide)
 ·intro i u f r a
  by_cases hio:i=o
  ·subst hio;rw[N]at r;rw[t]at a;simp only[Option.some.injEq]at r a;subst r a;simp only[qE,kX]
   have:yK (n.kids++[k])=yK n.kids++[R9 (k:Int)]:=by simp[yK]
   rw[this];exact put R (by decide)
  rw[M i hio]at r;rw[q i hio]at a;exact put (keep (V i u f r a) (λl d=>W o i v f l z a (λe=>hio e.symm) d)) (by decide)
 ·intro i f l a d
  by_cases hio:i=o
  ·subst hio;rw[t]at a;simp only[Option.some.injEq]at a;subst a
   rcases F with e|e
   ·exact h8 i v l z (e ▸ d)
   intro Q;have l1:=y h3 l Q;rw[show kv.ownBlock=some l from d]at e
   simp only[Option.some.injEq]at e;omega
  rw[q i hio]at a;exact h8 i f l a d
 ·intro i j f w l a c p d
  by_cases hio:i=o
  ·subst hio;rw[t]at a;simp only[Option.some.injEq]at a;subst a;rw[q j (λe=>p e.symm)]at c
   rcases F with e|e
   ·exact W i j v w l z c p (e ▸ d)
   intro Q;have a8:j<m.nodes.length:=by rw[<- S];exact(zU.1 c).1
   have l1:=y (V j m.nodes[j] w (zn a8) c) l Q;rw[show kv.ownBlock=some l from d]at e
   simp only[Option.some.injEq]at e;omega
  rw[q i hio]at a
  by_cases hjo:j=o
  ·subst hjo;rw[t]at c;simp only[Option.some.injEq]at c;subst c
   rcases F with e|e
   ·rw[show kv.ownBlock=v.2.ownBlock from e]
    exact W i j f v l a z p d
   intro Q;have a7:i<m.nodes.length:=by rw[<- S];exact(zU.1 a).1
   have l1:=y (V i m.nodes[i] f (zn a7) a) l d;rw[show kv.ownBlock=some l from Q]at e
   simp only[Option.some.injEq]at e;omega
  rw[q j hjo]at c;exact W i j f w l a c p d
 intro i j f w l a c p d
 by_cases hio:i=o
 ·subst hio;rw[t]at a;simp only[Option.some.injEq]at a;subst a;rw[q j (λe=>p e.symm)]at c;exact D i j v w l z c p d
 rw[q i hio]at a
 by_cases hjo:j=o
 ·subst hjo;rw[t]at c;simp only[Option.some.injEq]at c;subst c;exact D i j f v l a z p d
 rw[q j hjo]at c;exact D i j f w l a c p d
theorem zW.yU{X w1:J}{base b:Nat}{m:U.zl}{ov V kv:Y}{G:List (Y×Y)}(h:zW X base b m ov V G)(o:Nat)(n:U.Node)(v:Y×Y)(O:m.nodes[o]?=some n)(y:G[o]?=some v)
  (hg:X.grownBy w1 v.1.ownBlock)(k:BY)(Q:w1.ownsRow base 9 1 kv (n.names.length+1) (U.strCells n.names++[S9 k]))(K:kv.ownBlock=v.1.ownBlock\/kv.ownBlock=some X.heap.size)
  (g H cap:Nat)(P:V=TL (some (G8 g 0)) H cap):zW (w1.setCell (G8 g (o*4+2)) kv) base b { m with nodes:=U.yU o k m.nodes } ov V (G.set o (kv,v.2)):=by
 obtain⟨h1,W,h3,h4,R,S,T,h8,h9,A⟩:=h;have D:=S o n v O y;have a1:v.1.ownBlock≠some b:=uu D W (by decide);have B:w1.heap[b]?=some (.cells (YL m ov V) 168 (0,0)):=(hg.block b (zt W) (λe=>a1 e.symm)).trans W
 have keep:∀{e:TypeId} {size u:Nat} {f:Y} {z:List Y},X.ownsRow base e size f u z->(∀g,v.1.ownBlock=some g->f.ownBlock≠some g)->w1.ownsRow base e size f u z:=by
  intro e size u f z a a7;refine a.kept hg ?_
  cases hvb:f.ownBlock with
  | none=>exact .inl rfl
  | some r=>exact .inr (λe2=>a7 r e2.symm hvb)
 have l:∀{e:TypeId} {size u:Nat} {f:Y} {z:List Y},X.ownsRow base e size f u z->9≠e->∀g,v.1.ownBlock=some g->f.ownBlock≠some g:=
  λa he g F=>Vo D a he F
 have E:=keep h4 (l h4 (by decide));have a4:∃I,w1.heap[g]?=some (.cells I 165 (0,0)):=KR E (by rw[P];rfl);obtain⟨I,x⟩:=a4
 have put:∀{e:TypeId} {size u:Nat} {f:Y} {z:List Y},w1.ownsRow base e size f u z->e≠165->(w1.setCell (G8 g (o*4+2)) kv).ownsRow base e size f u z:=
  λa he=>xz a (uu a x he) _
 have a3:g≠b:=by intro e;subst e;rw[B]at x;simp at x
 have b7:o<m.nodes.length:=(zU.1 O).1;have L:(U.yU o k m.nodes).length=m.nodes.length:=by unfold U.yU;rw[gB]
 have M:∀i,i≠o->(U.yU o k m.nodes)[i]?=m.nodes[i]?:=λi s=>by unfold U.yU;exact Dc _ _ _ _ s
 have N:(U.yU o k m.nodes)[o]?=some { n with names:=n.names++[k] }:=by unfold U.yU;exact Df _ _ _ _ O
 have q:∀i,i≠o->(G.set o (kv,v.2))[i]?=G[i]?:=λi s=>by rw[zu,za (λe=>s e.symm)]
 have t:(G.set o (kv,v.2))[o]?=some (kv,v.2):=by rw[zu,zb rfl,N9]
 have C:∀{e:TypeId} {size u:Nat} {f:Y} {z:List Y},X.ownsRow base e size f u z->∀g,f.ownBlock=some g->g<X.heap.size:=λa g F=>(a.lt g F).2;refine⟨h1,?_,put (keep h3 (l h3 (by decide))) (by decide),?_,by simp[R,L],?_,?_,?_,?_,?_⟩
 ·rw[qy w1 (G8 g (o*4+2)) kv b (λe=>a3 e.symm),B];rfl
 ·simp only[L];subst P;rw[show U.yU o k m.nodes=m.nodes.modify o (λn=>{ n with names:=n.names++[k] }) from rfl]
  rw[<- zbm m.nodes G R o v y kv (λn=>{ n with names:=n.names++[k] }) (λ_=>⟨rfl,rfl⟩)]
  have hc:H=m.nodes.length:=by
   rcases E.2 with⟨e,_⟩|⟨g',cap',cur',e,_⟩
   ·cases e
   simp only[Value.slice.injEq]at e;exact e.2.1
  subst hc;exact(E.stored (o*4+2) kv).1
 ·intro i u f s a
  by_cases hio:i=o
  ·subst hio;rw[N]at s;rw[t]at a;simp only[Option.some.injEq]at s a;subst s a;simp only[qE,kX]
   have:U.strCells (n.names++[k])=U.strCells n.names++[S9 k]:=by simp[U.strCells]
   rw[this];exact put Q (by decide)
  rw[M i hio]at s;rw[q i hio]at a;exact put (keep (S i u f s a) (λr d=>A o i v f r y a (λe=>hio e.symm) d)) (by decide)
 ·intro i u f s a
  by_cases hio:i=o
  ·subst hio;rw[N]at s;rw[t]at a;simp only[Option.some.injEq]at s a;subst s a;exact put (keep (T i n v O y) (l (T i n v O y) (by decide))) (by decide)
  rw[M i hio]at s;rw[q i hio]at a;exact put (keep (T i u f s a) (l (T i u f s a) (by decide))) (by decide)
 ·intro i f r a d
  by_cases hio:i=o
  ·subst hio;rw[t]at a;simp only[Option.some.injEq]at a;subst a;exact h8 i v r y d
  rw[q i hio]at a;exact h8 i f r a d
 ·intro i j f w r a c p d
  by_cases hio:i=o
  ·subst hio;rw[t]at a;simp only[Option.some.injEq]at a;subst a;rw[q j (λe=>p e.symm)]at c;exact h9 i j v w r y c p d
  rw[q i hio]at a
  by_cases hjo:j=o
  ·subst hjo;rw[t]at c;simp only[Option.some.injEq]at c;subst c;exact h9 i j f v r a y p d
  rw[q j hjo]at c;exact h9 i j f w r a c p d
 intro i j f w r a c p d
 by_cases hio:i=o
 ·subst hio;rw[t]at a;simp only[Option.some.injEq]at a;subst a;rw[q j (λe=>p e.symm)]at c
  rcases K with e|e
  ·exact A i j v w r y c p (e ▸ d)
  intro ho;have a6:j<m.nodes.length:=by rw[<- R];exact(zU.1 c).1
  have l1:=C (S j m.nodes[j] w (zn a6) c) r ho;rw[show kv.ownBlock=some r from d]at e
  simp only[Option.some.injEq]at e;omega
 rw[q i hio]at a
 by_cases hjo:j=o
 ·subst hjo;rw[t]at c;simp only[Option.some.injEq]at c;subst c
  rcases K with e|e
  ·rw[show kv.ownBlock=v.1.ownBlock from e]
   exact A i j f v r a y p d
  intro ho;have a5:i<m.nodes.length:=by rw[<- R];exact(zU.1 a).1
  have l1:=C (S i m.nodes[i] f (zn a5) a) r d;rw[show kv.ownBlock=some r from ho]at e
  simp only[Option.some.injEq]at e;omega
 rw[q j hjo]at c;exact A i j f w r a c p d
theorem zW.push{X w1:J}{base b:Nat}{m:U.zl}{j a C:Y}{K:List (Y×Y)}(h:zW X base b m j C K)(I:X.grownBy w1 j.ownBlock)(k:Nat)
  (o:w1.ownsRow base 3 1 a (m.opn.length+1) (yK m.opn++[R9 (k:Int)]))(w:a.ownBlock=j.ownBlock\/a.ownBlock=some X.heap.size):zW (w1.setCell (G8 b 1) a) base b { m with opn:=m.opn++[k] } a C K:=by
 obtain⟨N,t,u,D,E,F,G,H,O,s⟩:=h;have x:j.ownBlock≠some b:=uu u t (by decide);have f:w1.heap[b]?=some (.cells (YL m j C) 168 (0,0)):=(I.block b (zt t) (λe=>x e.symm)).trans t
 have keep:∀{e:TypeId} {size B:Nat} {q:Y} {l:List Y},X.ownsRow base e size q B l->(∀g,j.ownBlock=some g->q.ownBlock≠some g)->w1.ownsRow base e size q B l:=by
  intro e size B q l A z;refine A.kept I ?_
  cases hvb:q.ownBlock with
  | none=>exact .inl rfl
  | some M=>exact .inr (λL=>z M L.symm hvb)
 have put:∀{e:TypeId} {size n:Nat} {v:Y} {l:List Y},w1.ownsRow base e size v n l->e≠168->(w1.setCell (G8 b 1) a).ownsRow base e size v n l:=
  λc P=>xz c (uu c f P) _
 refine⟨N,?_,?_,put (keep D (λg d=>Vo u D (by decide) d)) (by decide),E,?_,?_,?_,O,s⟩
 ·rw[yC w1 b 1 _ _ a f];rfl
 ·simp only[qE,kX];rw[show yK (m.opn++[k])=yK m.opn++[R9 (k:Int)] by simp[yK]];exact put o (by decide)
 ·intro i n v r c;exact put (keep (F i n v r c) (λg d=>Vo u (F i n v r c) (by decide) d)) (by decide)
 ·intro i n v r c;exact put (keep (G i n v r c) (λg d e=>H i v g c e d)) (by decide)
 intro i v g c p
 rcases w with e|e
 ·rw[e];exact H i v g c p
 intro Q;have y:i<m.nodes.length:=by rw[<- E];exact(zU.1 c).1
 have R:=((G i m.nodes[i] v (zn y) c).lt g p).2;rw[Q]at e;simp only[Option.some.injEq]at e;omega
theorem zW.pop{w:J}{base b:Nat}{m:U.zl}{g cap:Nat}{l:Y}{o:List (Y×Y)}(h:zW w base b m (TL (some (G8 g 0)) m.opn.length cap) l o)(j:Int):zW ((w.setCell (G8 b 1) (TL (some (G8 g 0)) (m.opn.length-1) cap)).setCell (G8 b 0) (R9 j)) base b { m with opn:=m.opn.dropLast,state:=j } (TL (some (G8 g 0)) (m.opn.length-1) cap) l o:=by
 obtain⟨r,d,s,t,u,x,y,z,A,c⟩:=h
 have put:∀{e:TypeId} {size n:Nat} {v:Y} {p:List Y},w.ownsRow base e size v n p->e≠168 ->
   ((w.setCell (G8 b 1) (TL (some (G8 g 0)) (m.opn.length-1) cap)).setCell (G8 b 0) (R9 j)).ownsRow base e size v n p:=
  λa k=>xz (xz a (uu a d k) _) (uu a d k) _
 refine⟨r,?_,?_,put t (by decide),u,λi n v f a=>put (x i n v f a) (by decide),λi n v f a=>put (y i n v f a) (by decide),z,A,c⟩
 ·rw[yC _ b 0 _ _ _ (yC w b 1 _ _ _ d)];rfl
 have B:w.ownsRow base 3 1 (TL (some (G8 g 0)) (m.opn.length-1) cap) (m.opn.length-1) (yK m.opn.dropLast):=by
  refine⟨by simp[yK],?_⟩
  rcases s.2 with⟨e,_⟩|⟨g',cap',cur,e,hg,hh,hc,hm,hs,ht⟩
  ·cases e
  simp only[Value.slice.injEq,Option.some.injEq,Addr.mk.injEq,J4,QW]at e;obtain⟨rfl,rfl⟩:=e;refine .inr ⟨g,cap,cur,rfl,hg,hh,by omega,hm,hs,?_⟩
  have q:yK m.opn.dropLast=(yK m.opn).take (m.opn.length-1):=by
   unfold yK;rw[List.dropLast_eq_take,List.map_take]
  rw[q,<- ht,gG];congr 1;omega
 simp only[List.length_dropLast];exact put B (by decide)
theorem zW.cell{w:J}{base b:Nat}{m:U.zl}{c a:Y}{d:List (Y×Y)}(h:zW w base b m c a d)(k:Nat):w.cell? (G8 b k)=(YL m c a)[k]?/\w.frozen? (G8 b k)=false:=zg h.blk k
end Go.Proofs.YtfjpcldndaiifaaGreatDoor
