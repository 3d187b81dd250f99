/- P -/
import Derived.Test.YtfjpcldndaiifaaGreatDoorA17
open Go.Proofs.Tryz
set_option maxRecDepth 100000
set_option maxHeartbeats 4000000
namespace Go.Proofs.YtfjpcldndaiifaaGreatDoor
open Go.RowKit
structure zx (M:Nat->Prop) (w w':J):Prop where
 os:w'.os=w.os
 tape:w'.tape=w.tape
 output:w'.output=w.output
 size:w.heap.size<=w'.heap.size
 block:∀k,k<w.heap.size->¬M k->w'.heap[k]?=w.heap[k]?
theorem zx.refl(M:Nat->Prop)(w:J):zx M w w:=⟨rfl,rfl,rfl,ze _,λ_ _ _=>rfl⟩
theorem zx.of{M:Nat->Prop}{w w':J}(h:BQ w w'):zx M w w':=⟨h.os,h.tape,h.output,h.size,λk a _=>h.block k a⟩
theorem zx.trans{M:Nat->Prop}{a b c:J}(h:zx M a b)(k:zx M b c):zx M a c:=
 ⟨k.os.trans h.os,k.tape.trans h.tape,k.output.trans h.output,xD h.size k.size,λx e d=>(k.block x (xO e h.size) d).trans (h.block x e d)⟩
theorem zx.wide{M M':Nat->Prop}{a b:J}(h:zx M a b)(e:∀k,k<a.heap.size->M k->M' k):zx M' a b:=
 ⟨h.os,h.tape,h.output,h.size,λk d f=>h.block k d (λc=>f (e k d c))⟩
theorem zx.below{M:Nat->Prop}{B:Nat}{a b:J}(h:zx M a b)(e:∀k,k<B->¬M k)(d:B<=a.heap.size):Below B a b:=
 ⟨h.os,h.tape,h.output,h.size,λk c=>h.block k (xO c d) (e k c)⟩
theorem zx.set{M:Nat->Prop}(w:J){b:Nat}(a:M b)(o:Nat)(u:Y):zx M w (w.setCell (G8 b o) u):=by
 exact⟨rfl,rfl,rfl,by simp[World.setCell],λk _ c=>qy _ _ _ _ (λe=>c (by simp only at e;rw[e];exact a))⟩
theorem zx.cell{M:Nat->Prop}{a b:J}(h:zx M a b){x:Addr}{v:Y}(e:¬M x.block)(c:a.cell? x=some v):b.cell? x=some v:=by
 have d:x.block<a.heap.size:=Qj _ _ c
 have:=h.block x.block d e
 unfold World.cell? at c |-;rw[this];exact c
def Same(base:Nat)(w w':J):Prop:=∀b,base<=b->b<w.heap.size->w'.heap[b]?=w.heap[b]?
theorem ny{w w':J}{base:Nat}{e:TypeId}{size:Nat}{v:Y}{n:Nat}{xs:List Y}(h:w.ownsRow base e size v n xs)(c:Same base w w'):w'.ownsRow base e size v n xs:=by
 obtain⟨b,a⟩:=h;refine⟨b,?_⟩
 rcases a with a|⟨g,cap,cur,hv,hg,hh,h3⟩
 ·exact .inl a
 exact .inr ⟨g,cap,cur,hv,hg,by rw[c g hg (zt hh)];exact hh,h3⟩
theorem zJ.same{w w':J}{base:Nat}{a:Y}{b:List BY}(h:zJ w base a b)(c:Same base w w'):zJ w' base a b:=ny h c
theorem xB.same{w w':J}{base:Nat}{b:Y}{cs:List qj}(h:xB w base b cs)(a:Same base w w'):xB w' base b cs:=by
 obtain⟨n,i,k⟩:=h;refine⟨n,ny i a,λj l=>?_⟩;obtain⟨m,c,d,e,f,g⟩:=k j l;exact⟨m,c,d,e,f,g.same a⟩
theorem jl.same{w w':J}{base:Nat}{d:Y}{e:List zS}(h:jl w base d e)(a:Same base w w'):jl w' base d e:=by
 obtain⟨x,b,c⟩:=h;refine⟨x,ny b a,λj r=>?_⟩;obtain⟨s,t,u,v,l,b,c,m,n,o,p,q,f,g,i,k⟩:=c j r;exact⟨s,t,u,v,l,b,c,m,n,o,p,q,f.same a,g.same a,i.same a,k.same a⟩
def jf(M:Nat->Prop)(W:J)(c:Y)(d:List zS):Prop:=
 ∃base a,jl a base c d/\a.heap.size<=W.heap.size/\∀b,base<=b->b<a.heap.size->¬M b/\W.heap[b]?=a.heap[b]?
theorem jf.at{M:Nat->Prop}{W:J}{a:Y}{c:List zS}(h:jf M W a c):∃base,jl W base a c:=by
 obtain⟨base,i,d,_,e⟩:=h;exact⟨base,d.same (λb f g=>(e b f g).2)⟩
theorem jf.turn{M:Nat->Prop}{W W':J}{e:Y}{g:List zS}(h:jf M W e g)(k:zx M W W'):jf M W' e g:=by
 obtain⟨base,i,j,f,c⟩:=h;exact⟨base,i,j,xD f k.size,λb d a=>⟨(c b d a).1,(k.block b (xO a f) (c b d a).1).trans (c b d a).2⟩⟩
theorem jf.of{M:Nat->Prop}{W:J}{a:Y}{c:List zS}{base:Nat}(h:jl W base a c)(d:∀b,M b->b<base):jf M W a c:=
 ⟨base,W,h,ze _,λb f _=>⟨λe=>absurd (d b e) (by omega),rfl⟩⟩
theorem jf.more{M M':Nat->Prop}{W:J}{a:Y}{f:List zS}(h:jf M W a f)(k:∀b,M' b->M b\/W.heap.size<=b):jf M' W a f:=by
 obtain⟨base,g,i,j,c⟩:=h;refine⟨base,g,i,j,λb d e=>⟨λl=>?_,(c b d e).2⟩⟩
 rcases k b l with h|h
 ·exact(c b d e).1 h
 omega
abbrev zH:=BY×List zS
def xZ(M:Nat->Prop)(W:J)(e:Y)(L:List zH):Prop:=
 ∃a c,e=TL a L.length c/\L.length<=c/\c<=maxLen/\(a=none->c=0)/\∀(k:Nat) (x:zH),L[k]?=some x->∃b o d,a=some (G8 b o)/\¬M b/\W.cell? (G8 b (o+k*2))=some (S9 x.1)/\W.cell? (G8 b (o+k*2+1))=some d/\jf M W d x.2
theorem xZ.turn{M:Nat->Prop}{W W':J}{f:Y}{L:List zH}(h:xZ M W f L)(k:zx M W W'):xZ M W' f L:=by
 obtain⟨a,c,rfl,m,n,q,p⟩:=h;refine⟨a,c,rfl,m,n,q,λj x r=>?_⟩;obtain⟨l,o,i,e,b,g,c1,d⟩:=p j x r;exact⟨l,o,i,e,b,k.cell b g,k.cell b c1,d.turn k⟩
theorem xZ.more{M M':Nat->Prop}{W:J}{l:Y}{L:List zH}(h:xZ M W l L)(k:∀b,M' b->M b\/W.heap.size<=b):xZ M' W l L:=by
 obtain⟨a,c,rfl,n,p,r,q⟩:=h;refine⟨a,c,rfl,n,p,r,λj x t=>?_⟩;obtain⟨f,o,m,e,s,i,c1,d⟩:=q j x t;refine⟨f,o,m,e,λg=>?_,i,c1,d.more k⟩;have u:f<W.heap.size:=Qj _ _ i
 rcases k f g with h|h
 ·exact s h
 omega
theorem Cc(M:Nat->Prop)(W:J):xZ M W R4 []:=⟨none,0,rfl,ze _,by unfold maxLen;omega,λ_=>rfl,λk x a=>by simp at a⟩
def qI(a b:BY):Int:=Lib.compareBytes a.data.toList b.data.toList
def ltN(name:BY)(x:zH):Bool:=decide (qI x.1 name<0)
def qQ(L:List zH)(name:BY):Nat:=(L.takeWhile (ltN name)).length
def zq(L:List zH)(name:BY):Bool:=match L[qQ L name]? with
 | some x=>qI x.1 name==0
 | none=>false
def Down(L:List zH)(name:BY):Prop:=∀(a b:Nat) (x y:zH),a<b->L[a]?=some x->L[b]?=some y->ltN name y=true->ltN name x=true
theorem pq{α:Type}(p:α->Bool):∀(l:List α) (i:Nat),i<=l.length->(∀(k:Nat) (x:α),k<i->l[k]?=some x->p x=true)->(∀(k:Nat) (x:α),i<=k->l[k]?=some x->p x=false)->(l.takeWhile p).length=i
 | [],i,h,_,_=>by simp at h;simp[h]
 | a::l,0,_,_,h2=>by
  have:=h2 0 a F7 rfl
  rw[rG,this]
  rfl
 | a::l,i+1,h,h1,h2=>by
  have c:=h1 0 a (Nat.succ_pos _) rfl
  have:=pq p l i (by simpa using h) (λk x d b=>h1 (k+1) x (by omega) (by simpa using b)) (λk x d b=>h2 (k+1) x (by omega) (by simpa using b))
  rw[rG,c];simp[this]
theorem EA(L:List zH)(name:BY):qQ L name<=L.length:=by
 unfold qQ;exact(List.takeWhile_prefix _).length_le
theorem wG(a b:BY):qI a b = -1\/qI a b=0\/qI a b=1:=by
 unfold qI;generalize a.data.toList=x;generalize b.data.toList=y
 induction x generalizing y with
 | nil=>cases y<;>simp[Lib.compareBytes]
 | cons p x c=>
  cases y with
  | nil=>simp[Lib.compareBytes]
  | cons q y=>
   unfold Lib.compareBytes;split
   ·exact .inl rfl
   split
   ·exact .inr (.inr rfl)
   exact c y
theorem wH(nm name:BY)(a:Option Addr)(n c:Nat)(w:J):R8 117 #[.agg #[S9 nm,TL a n c],S9 name] w (G5 (.int .i64 (qI nm name)) w):=by
 have d:=λW=>Any.strings_Compare Tryz.lays106 nm name W;have g:G6 (∀W,R8 118 #[S9 nm,S9 name] W λe b=>e=.returned (.int .i64 (qI nm name))/\b=W):=G7 d;clear d;go_enter func117,ntmps117;go_wp2_with(go_at_call 118;apply(g.o _).mono;rintro e h⟨rfl,f⟩;rw[f];clear f);go_ret;exact⟨rfl,nbl w _⟩
theorem PW:∀a w,(callFunc 117 a).run prog w=.ok (.enter 117 a) w:=qo func117 (by kernel_rfl) rfl
theorem xZ.cells{M:Nat->Prop}{W:J}{a:Option Addr}{n c:Nat}{L:List zH}(h:xZ M W (TL a n c) L):n=L.length/\n<=c/\c<=maxLen/\∀(k:Nat) (x:zH),L[k]?=some x->∃l o f j i,a=some (G8 l o)/\¬M l/\W.cell? (G8 l (o+k*2))=some (S9 x.1)/\W.cell? (G8 l (o+k*2+1))=some (TL f j i)/\jf M W (TL f j i) x.2:=by
 obtain⟨D,E,e,y,z,_,p⟩:=h;injection e with e1 e2 e3
 subst e1 e2 e3;refine⟨rfl,y,z,λk x q=>?_⟩;obtain⟨l,o,u,e,A,r,c1,d⟩:=p k x q;obtain⟨base,C,⟨G,B,_⟩,_⟩:=d
 have:∃f j i,u=TL f j i:=by
  rcases B.2 with⟨e,_⟩|⟨g,cap,cur,e,_⟩
  ·exact⟨_,_,_,e⟩
  exact⟨_,_,_,e⟩
 obtain⟨f,j,i,rfl⟩:=this
 exact⟨l,o,f,j,i,e,A,r,c1,(p k x q).elim (λw ⟨F,v,m,_,s,b,t⟩=>by
  rw[e]at m;injection m with m
  injection m with g1 g2
  subst g1 g2;rw[c1]at b;injection b with b
  rw[b];exact t)⟩
theorem zdl(L:List zH)(lv:Y)(name:BY)(M:Nat->Prop)(w:J)(h:xZ M w lv L)(hn:L.length<=1000000)(hd:Down L name):R8 116 #[lv,S9 name,.func (.func 117) #[] #[]] w (G5 (.tuple #[.int .i64 (qQ L name:Int),.bool (zq L name)]) w):=by
 obtain⟨a,c,rfl,h1,h2⟩:∃a c,lv=TL a L.length c/\L.length<=c/\c<=maxLen:=by obtain⟨a,c,e,h1,h2,_⟩:=h;exact⟨a,c,e,h1,h2⟩
 have hc:=h.cells.2.2.2;obtain⟨n,A⟩:=Nm L.length;have t:∀i,i<=n->(∀(k:Nat) (x:zH),k<i->L[k]?=some x->ltN name x=true)->(∀(k:Nat) (x:zH),i<=k->L[k]?=some x->ltN name x=false)->qQ L name=i:=λi hi Q R=>pq (ltN name) L i (by omega) Q R;rw[A]at h1 hn |-;have⟨N,C,O,K⟩:=M5 t hc A hd;have eg:=PW;clear hc A h hd t;go_enter func116,ntmps116;go_wp2
 go_loopw [9,10] (λiv jv wr=>∃i j:Nat,i<=j/\j<=n/\iv=R9 i/\jv=R9 j/\(∀(k:Nat) (x:zH),k<i->L[k]?=some x->ltN name x=true)/\(∀(k:Nat) (x:zH),j<=k->L[k]?=some x->ltN name x=false)/\BQ w wr) (λiv jv _=>(intOf jv).toNat-(intOf iv).toNat)
 case atStart=>exact⟨0,n,zD _,ze _,rfl,rfl,λk x hk=>by omega,λk x hk g=>by have:=(zU.1 g).1;rw[O.o]at this;omega,zf _ _⟩
 case round=>
  obtain⟨i,j,b5,E,rfl,rfl,Q,R,hb⟩:=hrel;have⟨l,H,I⟩:=M4 hb Q R;clear hb Q R
  by_cases hlt:i<j
  ·go_upto_region 5 with fail
   obtain⟨m,hm⟩:∃m:Nat,((i:Int)+(j:Int)) / 2=(m:Int):=⟨(i+j) / 2,by omega⟩;have a3:i<=m:=by omega
   have b6:m<j:=by omega
   rw[hm];have v:m<L.length:=by rw[O.o];omega
   have g:=zn v;obtain⟨gb,o,W,dn,X,rfl,_,B,F,_⟩:=C.o m _ g;obtain⟨x,q⟩:=Nm (L[m]);rw[q]at B g;have p0:=zi l.o B;have p1:=zi l.o F;have u:=wH x.1 name W dn X wr;obtain⟨z,S⟩:=Nm (qI x.1 name);rw[S]at u;have⟨G,P⟩:=D5 u g;have k0:(0:Int)<=(m:Int):=qd _;have k1:(m:Int)<(n:Int):=by omega
   have f:ltN name x=decide (z<0):=by unfold ltN;rw[S]
   clear u g B F q C N hm
   by_cases hzn:z<0
   ·rw[zB hzn]at f;go_wp2_with(go_at_fn 117;apply G.o.mono;rintro e w2⟨rfl,s⟩;have p:=G7 (l.o.trans (s.mono l.o.size));clear s);go_roundw
    case rel=>
     refine⟨m+1,j,by omega,E,by go_num,rfl,λk y hk r=>?_,I.o,p.o⟩
     by_cases hkm:k<m
     ·exact K.o k m y x hkm r P.o f
     have:k=m:=by omega
     subst this;rw[P.o]at r;injection r with r
     rw[<- r];exact f
    case measure=>simp[intOf];omega
   rw[zI hzn]at f;go_wp2_with(go_at_fn 117;apply G.o.mono;rintro e w2⟨rfl,s⟩;have p:=G7 (l.o.trans (s.mono l.o.size));clear s);go_roundw
   case rel=>
    refine⟨i,m,a3,by omega,rfl,rfl,H.o,λk y hk r=>?_,p.o⟩
    by_cases hkm:m<k
    ·cases hly:ltN name y with
     | false=>rfl
     | true=>
      have:=K.o m k x y hkm P.o r hly
      rw[f]at this
      cases this
    have:k=m:=by omega
    subst this;rw[P.o]at r;injection r with r
    rw[<- r];exact f
   case measure=>simp[intOf];omega
  have D:i=j:=by omega
  subst D;have d:=N.o i E H.o I.o
  have b:zq L name=match L[i]? with
   | some x=>qI x.1 name==0
   | none=>false:=by unfold zq;rw[d]
  by_cases hin:i<n
  ·have v:i<L.length:=by rw[O.o];omega
   have g:=zn v;obtain⟨gb,o,W,dn,X,rfl,_,B,F,_⟩:=C.o i _ g;rw[g]at b;obtain⟨x,q⟩:=Nm (L[i]);rw[q]at B b;have p0:=zi l.o B;have p1:=zi l.o F;have u:=wH x.1 name W dn X wr;simp only at b;obtain⟨z,S⟩:=Nm (qI x.1 name);rw[S]at u b;have⟨G,V,T⟩:=M4 u d b;have k0:(0:Int)<=(i:Int):=qd _;have k1:(i:Int)<(n:Int):=by omega
   clear u g B F q C N d b K H I hlt;go_wp2_with(go_at_fn 117;apply G.o.mono;rintro e w2⟨rfl,s⟩;have p:=G7 (l.o.trans (s.mono l.o.size));clear s);go_ret2;exact⟨by rw[V.o,T.o];rfl,p.o⟩
  have g:L[i]?=none:=aK (by rw[O.o];omega);rw[g]at b;have⟨V,T⟩:=D5 d b;clear g C N d b K H I hlt;go_wp2_with fail;go_ret2;exact⟨by rw[V.o,T.o];rfl,l.o⟩
theorem lq(L:List zH)(d:Y)(name:BY)(M:Nat->Prop)(w:J)(h:xZ M w d L)(l:L.length<=1000000)(k:Down L name):R8 67 #[d,S9 name] w (G5 (.tuple #[.int .i64 (qQ L name:Int),.bool (zq L name)]) w):=by
 have c1:=zdl L d name M w h l k;obtain⟨a,c,rfl,_⟩:=h;obtain⟨P,i⟩:=Nm (qQ L name);obtain⟨B,g⟩:=Nm (zq L name);rw[i,g]at c1 |-;have j:=G7 c1;clear c1 i g;go_enter func67,ntmps67;go_wp2_with(go_at_call 116;apply j.o.mono;rintro e n⟨rfl,f⟩;have b:=G7 f;clear f);go_ret2;exact⟨rfl,b.o⟩
def Qc(W:J)(v:Y)(xs:List Y):Prop:=
 ∃a n c,v=TL a n c/\xs.length=n*2/\n<=c/\c<=maxLen/\(a=none->n=0/\c=0)/\(∀u ∈ xs,u.oneCell'=true)/\∀(j:Nat) (u:Y),xs[j]?=some u->∃b o,a=some (G8 b o)/\W.cell? (G8 b (o+j))=some u
theorem Qc.below{W W':J}{v:Y}{xs:List Y}(h:Qc W v xs)(m:BQ W W'):Qc W' v xs:=by
 obtain⟨a,n,c,e,d,f,g,i,k,l⟩:=h;exact⟨a,n,c,e,d,f,g,i,k,λj u q=>by obtain⟨b,o,e,p⟩:=l j u q;exact⟨b,o,e,zi m p⟩⟩
def sumTo(a:List (List Y)):Nat->Nat
 | 0=>0
 | k+1=>sumTo a k+(a.getD k []).length / 2
def cZ(a:List (List Y)):Nat->List Y
 | 0=>[]
 | k+1=>cZ a k++a.getD k []
theorem zeV(c:List (List Y)){a b:Nat}(h:a<=b):sumTo c a<=sumTo c b:=by
 induction b with
 | zero=>have:a=0:=by omega
         subst this;exact ze _
 | succ b d=>
  by_cases e:a=b+1
  ·subst e;exact ze _
  have:=d (by omega)
  rw[sumTo];omega
theorem lV:(prog.info? 159).map (λi=>(i.zero,i.size,i.bytes))=some (some (.agg #[R5,R4]),2,40):=by kernel_rfl
theorem GD(z:Array Y)(n:Nat):(Builtin.zeroCells z n).size=n*z.size:=by
 unfold Builtin.zeroCells
 simp
theorem Sj(n:Nat)(w:J)(p:n<=1000):R8 120 #[R4,R9 (n:Int)] w λe b=>∃v,e=.returned v/\b.ownsRow w.heap.size 159 2 v 0 []/\BQ w b:=by
 obtain⟨o,l,g,m,i⟩:=qU lV
 by_cases h0:n=0
 ·subst h0;apply(Any8.slices_Grow_room Tryz.lays8grow none 0 0 0 w F7 (by omega) (by omega) (by omega)).mono;rintro e b⟨rfl,rfl⟩;exact⟨_,rfl,⟨rfl,.inl ⟨rfl,rfl⟩⟩,zf _ _⟩
 have c:=Any8.slices_Grow_grow Tryz.lays8grow o _ l g (by omega) none 0 0 n [] w F7 (by omega) (by rw[i];omega) (by omega) (by simp) (λ_=>rfl) (λa h=>by cases h);apply c.mono;rintro e b⟨rfl,rfl⟩;have d:=grownCap_ge w (0+n) 0 159;have f:=grownCap_le_maxLen w (0+n) 0 159 (by unfold maxLen;omega);refine⟨_,rfl,⟨by simp,.inr ⟨w.heap.size,_,_,rfl,ze _,zA w.drew _,zD _,f,?_,by simp⟩⟩,((zf _ w).drew).alloc F7 _⟩;have k:(Value.agg #[Value.string ⟨#[]⟩,Value.slice none 0 0]).cells.size=2:=by kernel_rfl
 have j:0+n<=grownCap w (0+n) 0 (Tryz.lays8grow_ren.t 25):=d;rw[Array.size_append,Array.size_append,GD,GD,k];show 0+(0+n-0)*2+(grownCap w (0+n) 0 (Tryz.lays8grow_ren.t 25)-(0+n))*2=grownCap w (0+n) 0 (Tryz.lays8grow_ren.t 25)*2;omega
theorem iP(g:List Y)(b:List (List Y))(pb:Nat)(w:J)(hl:g.length=b.length)(hp:∀(k:Nat) (v:Y),g[k]?=some v->w.cell? (G8 pb k)=some v)(hc:∀(k:Nat) (v:Y) (h:List Y),g[k]?=some v->b[k]?=some h->Qc w v h)(hn:g.length<=10)(hs:sumTo b g.length<=1000):R8 69 #[TL (some (G8 pb 0)) g.length g.length] w λe w'=>∃v,e=.returned v/\w'.ownsRow w.heap.size 159 2 v (sumTo b g.length) (cZ b g.length)/\BQ w w':=by
 obtain⟨i0,hi,b4,b5,b6⟩:=qU lV;obtain⟨n,V⟩:=Nm g.length;obtain⟨S,R⟩:∃S:Nat->Nat,sumTo b=S:=⟨_,rfl⟩;obtain⟨T,hT⟩:∃T:Nat->List Y,cZ b=T:=⟨_,rfl⟩;have S0:S 0=0:=by rw[<- R];rfl
 have T0:T 0=[]:=by rw[<- hT];rfl
 have r:∀k,k<=n->S k<=S n:=λk y=>by rw[<- R];exact zeV b y
 have x:∀k,k<n->∃v h a m c,g[k]?=some v/\v=TL a m c/\h.length=m*2/\(a=none->m=0/\c=0)/\(∀u ∈ h,u.oneCell'=true)/\S (k+1)=S k+m/\T (k+1)=T k++h/\m<=c/\c<=maxLen /\
   (∀(j:Nat) (u:Y),h[j]?=some u->∃gb o,a=some (G8 gb o)/\w.cell? (G8 gb (o+j))=some u):=by
  intro k y;have h1:=zn (l:=g) (i:=k) (by omega);have h2:=zn (l:=b) (i:=k) (by omega);obtain⟨a,m,c,e,g1,g2,g3,g4,g5,g6⟩:=hc k _ _ h1 h2;have hg:b.getD k []=b[k]'(by omega):=by rw[zT,h2];rfl
  refine⟨_,_,a,m,c,h1,e,g1,g4,g5,?_,?_,g2,g3,g6⟩
  ·rw[<- R,sumTo,hg,g1];omega
  rw[<- hT,cZ,hg]
 rw[V]at hn hs |-;rw[R]at hs |-;rw[hT];have a0:∀(k:Nat) (v:Y),g[k]?=some v->∀W,BQ w W->W.cell? (G8 pb k)=some v:=λk v A W G=>zi G (hp k v A);have cg:=λW=>Sj (S n) W hs;have⟨M,N,B,CG,D,E⟩:=M7 x a0 r cg S0 T0;clear x a0 r cg S0 T0 hp hc hl V R hT;go_enter func69,ntmps69;go_wp2
 go_loopw [3,5,11] (λsv _ K wr=>∃k:Nat,k<=n/\K=R9 k/\sv=R9 (S k:Int)/\wr=w) (λ_ _ K _=>n-(intOf K).toNat)
 case atStart=>exact⟨0,zD _,rfl,by rw[D.o];rfl,rfl⟩
 case round=>
  obtain⟨k,y,rfl,rfl,a1⟩:=hrel;rw[a1];clear a1
  by_cases hlt:k<n
  ·obtain⟨v,h,a,m,c,A,rfl,_,_,_,f,_,_,_,_⟩:=M.o k hlt;have p0:=N.o k _ A w E9;have hz:=B.o k y;have d0:=B.o (k+1) hlt;have a8:=G7 f;have k0:(0:Int)<=(k:Int):=qd _;have k1:(k:Int)<(n:Int):=by omega
   have e2:¬((S k:Int)+(m:Int)<0):=by omega
   have b2:S k+m<=1000:=by omega
   clear f M N B CG E A;go_wp2_with fail;go_roundw
   case rel=>exact⟨k+1,by omega,by go_num,by rw[a8.o];go_num,by trivial⟩
   case measure=>simp[intOf];omega
  have H:n=k:=by omega
  subst H;clear hlt y;go_wp2_with(go_at_call 120;apply(CG.o _).mono;rintro e w1⟨gv,rfl,X,G⟩;have⟨Q,O⟩:=D5 X G;clear X G)
  go_loopw [6,8,27] (λov _ K wr=>∃k:Nat,k<=n/\K=R9 k/\wr.ownsRow w.heap.size 159 2 ov (S k) (T k)/\BQ w wr) (λ_ _ K _=>n-(intOf K).toNat)
  case atStart=>exact⟨0,zD _,rfl,by rw[D.o,E.o];exact Q.o,O.o⟩
  case round=>
   obtain⟨k,y,rfl,X,G⟩:=hrel;have⟨P,L⟩:=D5 X G;have b7:=L.o.size;clear X G Q O D E CG
   by_cases hlt:k<n
   ·obtain⟨v,h,a,m,c,A,b3,a2,I,s,f,F,_,_,d⟩:=M.o k hlt;subst b3;have p0:=N.o k _ A wr L.o;have hz:=B.o (k+1) hlt;have k0:(0:Int)<=(k:Int):=qd _;have k1:(k:Int)<(n:Int):=by omega
    have p:G6 (S (k+1)=S k+m/\T (k+1)=T k++h):=⟨f,F⟩;have b2:S k+m<=1000:=by omega
    cases a with
    | none=>
     obtain⟨rfl,rfl⟩:=I rfl;have a3:h=[]:=Y6.1 (by omega);have C:G6 (wr.ownsRow w.heap.size 159 2 u6 (S (k+1)) (T (k+1))):=G7 (by rw[p.o.1,p.o.2,a3,List.append_nil];exact P.o);clear d I s f F M N B A a3 a2 p;go_wp2_with (at_builtin;refine wpList_append_own_none rfl _ _ 68 rfl w.heap.size 159 i0 2 underlying68 hi _ (S k) (T k) rfl P.o rfl ?_);go_wp2_with fail;go_roundw
     case rel=>exact⟨k+1,by omega,by go_num,C.o,L.o⟩
     case measure=>simp[intOf];omega
    | some ad=>
     have z:∀(j:Nat) (u:Y),h[j]?=some u->wr.cell? (ad.add j)=some u:=λj u hu=>by
      obtain⟨gb,o,e,hq⟩:=d j u hu;injection e with e
      subst e;rw[addr_add];exact zi L.o hq
     have⟨a9,a7⟩:=D5 z s;clear d I s f F M N B A z;go_wp2_with (at_builtin;refine yh _ rfl _ _ 68 rfl w.heap.size 159 i0 (.agg #[R5,R4]) 2 40 underlying68 hi b4 b5 b6 rfl (by decide) _ (S k) (T k) rfl P.o ad m c h rfl a2 a9.o a7.o ?_ ?_ ?_ ?_)
     ·unfold maxLen;omega
     ·omega
     ·omega
     intro v' w3 t q _;have C:G6 (w3.ownsRow w.heap.size 159 2 v' (S (k+1)) (T (k+1))):=G7 (by rw[p.o.1,p.o.2];exact t);have a6:G6 (BQ w w3):=L.o.grown q b7 (λk y=>(World.ownsRow.lt P.o k y).1);clear t q;go_wp2_with fail;go_roundw
     case rel=>exact⟨k+1,by omega,by go_num,C.o,a6.o⟩
     case measure=>simp[intOf];omega
   have H:n=k:=by omega
   subst H;clear M N B hlt;go_wp2_with fail;go_ret;exact⟨_,rfl,P.o,L.o⟩
def jM(M:Nat->Prop)(W:J)(xs:List Y)(L:List zH):Prop:=
 xs.length=L.length*2/\∀(k:Nat) (x:zH),L[k]?=some x->∃a c b,xs[k*2]?=some (S9 x.1)/\xs[k*2+1]?=some (TL a c b)/\jf M W (TL a c b) x.2
theorem jM.turn{M:Nat->Prop}{W W':J}{xs:List Y}{L:List zH}(h:jM M W xs L)(k:zx M W W'):jM M W' xs L:=
 ⟨h.1,λj x g=>by obtain⟨a,c,b,d,e,f⟩:=h.2 j x g;exact⟨a,c,b,d,e,f.turn k⟩⟩
theorem jM.one{M:Nat->Prop}{W:J}{b:Option Addr}{d c:Nat}{x:zH}(h:jf M W (TL b d c) x.2):jM M W [S9 x.1,TL b d c] [x]:=by
 refine⟨rfl,λk y a=>?_⟩
 match k,a with
 | 0,a=>
  simp only[jE,Option.some.injEq]at a;subst a;exact⟨b,d,c,rfl,rfl,h⟩
 | k+1,a=>simp at a
theorem jM.nil{M:Nat->Prop}{W:J}:jM M W [] []:=⟨rfl,λk x a=>by simp at a⟩
theorem jM.take{M:Nat->Prop}{W:J}{xs:List Y}{L:List zH}(h:jM M W xs L)(p:Nat):jM M W (xs.take (p*2)) (L.take p):=by
 refine⟨by rw[jg,jg,h.1];omega,λk x a=>?_⟩;rw[Qe]at a;split at a
 ·rename_i i;obtain⟨b,d,c,e,f,g⟩:=h.2 k x a;exact⟨b,d,c,by rw[Qe,N9];exact e,by rw[Qe,N9];exact f,g⟩
 cases a
theorem jM.drop{M:Nat->Prop}{W:J}{xs:List Y}{L:List zH}(h:jM M W xs L)(p:Nat):jM M W (xs.drop (p*2)) (L.drop p):=by
 refine⟨by rw[ve,ve,h.1];omega,λk x a=>?_⟩;rw[Q6]at a;obtain⟨b,d,c,e,f,g⟩:=h.2 (p+k) x a;exact⟨b,d,c,by rw[Q6,show p*2+k*2=(p+k)*2 by omega];exact e,by rw[Q6,show p*2+(k*2+1)=(p+k)*2+1 by omega];exact f,g⟩
theorem jM.app{M:Nat->Prop}{W:J}{xs j:List Y}{L N:List zH}(h:jM M W xs L)(g:jM M W j N):jM M W (xs++j) (L++N):=by
 refine⟨by rw[qE,qE,h.1,g.1];omega,λk x a=>?_⟩
 by_cases hk:k<L.length
 ·rw[yw hk]at a;obtain⟨b,d,c,e,f,i⟩:=h.2 k x a;exact⟨b,d,c,by rw[yw (by rw[h.1];omega)];exact e,by rw[yw (by rw[h.1];omega)];exact f,i⟩
 rw[P8]at a;obtain⟨b,d,c,e,f,i⟩:=g.2 (k-L.length) x a;exact⟨b,d,c,by rw[yN (by rw[h.1];omega),h.1,show k*2-L.length*2=(k-L.length)*2 by omega];exact e,by rw[yN (by rw[h.1];omega),h.1,show k*2+1-L.length*2=(k-L.length)*2+1 by omega];exact f,i⟩
theorem xZ.flat{M:Nat->Prop}{W:J}{t:Y}{L:List zH}(h:xZ M W t L):∃v,Qc W t v/\jM M W v L:=by
 obtain⟨a,c,rfl,y,r,z,D⟩:=id h;have m:=h.cells.2.2.2
 by_cases h0:L.length=0
 ·have A:L=[]:=Y6.1 h0;subst A;exact⟨[],⟨a,0,c,rfl,rfl,zD _,r,λe=>⟨rfl,z e⟩,by simp,λj u b=>by simp at b⟩,jM.nil⟩
 obtain⟨g,o,_,_,_,w,_⟩:=m 0 _ (P7);subst w
 have cell:∀j,j<L.length*2->∃u,W.cell? (G8 g (o+j))=some u/\u.oneCell'=true:=by
  intro j f;obtain⟨l,C,n,q,p,e,_,i,c1,_⟩:=m (j / 2) _ (P7);injection e with e
  injection e with e1 e2
  subst e1 e2
  by_cases he:j % 2=0
  ·have:j=j / 2*2:=by omega
   rw[this];exact⟨_,i,rfl⟩
  have:o+j=o+j / 2*2+1:=by omega
  rw[this];exact⟨_,c1,rfl⟩
 have get:∀j,j<L.length*2->((List.range (L.length*2)).map λj=>(W.cell? (G8 g (o+j))).getD undef)[j]?=W.cell? (G8 g (o+j)):=by
  intro j f;obtain⟨u,b,_⟩:=cell j f;rw[ui,aM f];simp only[Ja];rw[b]
  rfl
 refine⟨(List.range (L.length*2)).map λj=>(W.cell? (G8 g (o+j))).getD undef,⟨some (G8 g o),L.length,c,rfl,by simp,y,r,(λe=>by cases e),?_,?_⟩,by simp,?_⟩
 ·intro u b;obtain⟨j,f,rfl⟩:=xI.1 b;obtain⟨u,b,B⟩:=cell j (vk.1 f);rw[b];exact B
 ·intro j u b
  have f:j<L.length*2:=by
   have:=(zU.1 b).1
   simpa using this
  rw[get j f]at b;exact⟨g,o,rfl,b⟩
 intro k x s;have E:k<L.length:=(zU.1 s).1;obtain⟨l,C,n,q,p,e,_,i,c1,d⟩:=m k x s;injection e with e
 injection e with e1 e2
 subst e1 e2;exact⟨n,q,p,by rw[get _ (by omega)];exact i,by rw[get _ (by omega)];exact c1,d⟩
theorem mD{M:Nat->Prop}{W:J}{base:Nat}{v:Y}{n:Nat}{xs:List Y}{L:List zH}(h:W.ownsRow base 159 2 v n xs)(c:jM M W xs L)(r:∀b,M b->b<base):xZ M W v L:=by
 have t:n=L.length:=by have:=h.1;have:=c.1;omega
 subst t;have a:=λg cap (e:v=.slice (some ⟨g,0,none⟩) L.length cap)=>World.ownsRow.cellAt (w:=W) (base:=base) (e:=159) (size:=2) (n:=L.length) (xs:=xs) (g:=g) (cap:=cap) (by rw[<- e];exact h)
 rcases h.2 with⟨e,h0⟩|⟨g,cap,cur,e,hg,hh,h1,h2,_⟩
 ·have q:L=[]:=Y6.1 h0;subst q;rw[e];exact Cc M W
 refine⟨some ⟨g,0,none⟩,cap,e,h1,h2,(λe=>by cases e),λk x f=>?_⟩;have u:k<L.length:=(zU.1 f).1;obtain⟨i,l,j,m,o,p⟩:=c.2 k x f;have d:=a g cap e;refine⟨g,0,.slice i l j,rfl,λs=>absurd (r g s) (by omega),?_,?_,p⟩
 ·rw[qV,d _ (by have:=c.1;omega)];exact m
 rw[qV,d _ (by have:=c.1;omega)];exact o
theorem Qc.take{W:J}{a:Option Addr}{n c:Nat}{xs:List Y}(h:Qc W (TL a n c) xs){p:Nat}(q:p<=n):Qc W (TL a p c) (xs.take (p*2)):=by
 obtain⟨l,r,m,e,f,o,g,d,i,k⟩:=h;injection e with e1 e2 e3
 subst e1 e2 e3;refine⟨a,p,c,rfl,by rw[jg,f];omega,by omega,g,λe=>⟨by have:=(d e).1;omega,(d e).2⟩,λu b=>i u (UT b),λj u b=>?_⟩;rw[Qe]at b;split at b
 ·exact k j u b
 cases b
theorem Qc.drop{W:J}{a:Option Addr}{n c:Nat}{xs:List Y}(h:Qc W (TL a n c) xs){p:Nat}(y:p<=n):Qc W (TL (if c=p then a else a.map λx=>x.add (p*2)) (n-p) (c-p)) (xs.drop (p*2)):=by
 obtain⟨s,z,t,e,d,v,w,i,k,l⟩:=h;injection e with e1 e2 e3
 subst e1 e2 e3;refine⟨_,n-p,c-p,rfl,by rw[ve,d];omega,by omega,by omega,λe=>?_,λu b=>k u (aP b),λj u b=>?_⟩
 ·have m:a=none:=by
   split at e
   ·exact e
   exact Option.map_eq_none_iff.1 e
  have:=i m
  exact⟨by omega,by omega⟩
 have r:j<(xs.drop (p*2)).length:=(zU.1 b).1;rw[ve,d]at r;rw[Q6]at b;obtain⟨g,o,f,q⟩:=l _ u b;refine⟨g,o+p*2,?_,by rw[JV];exact q⟩;rw[N8,f];simp only[Ja,addr_add]
end Go.Proofs.YtfjpcldndaiifaaGreatDoor
