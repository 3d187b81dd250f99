/- P -/
import Derived.Test.YtagnlbgbnfnapaaGreatDoorK46
import Derived.Test.YtagnlbgbnfnapaaGreatDoorK47
open Go.Proofs.Tryz
set_option maxRecDepth 100000
set_option maxHeartbeats 4000000
namespace Go.Proofs.YtagnlbgbnfnapaaGreatDoor
open Go.RowKit
def X4(k:Nat):BY:=(⟨#[48,49,50,51,52,53,54,55,56,57]⟩:BY).extract k (k+1)
def Un:Nat->Nat->BY->BY
 | 0,_,s=>s
 | f+1,i,s=>if i / 10=0 then s++X4 (i % 10) else Un f (i / 10) (s++X4 (i % 10))
def Yc(i:Nat):BY:=Un (i+1) i ⟨#[40,109,105,110,101,32]⟩
theorem Da{k:Nat}(h:k<10):(X4 k).size=1:=by
 unfold X4;rw[jI];show min (k+1) 10-k=1;omega
theorem nL(i:Nat)(w:World)(hi:i<=10000000000000) :
  Calls prog 44 #[.int .i64 (i:Int)] w λe w'=>e = .returned (.string (Yc i))/\w'=w:=by
 obtain⟨R,j⟩:=Nm (Yc i);rw[j];unfold Yc at j;have m:=hid j;clear j;go_enter func44,ntmps44
 go_wp2
 go_loopw [0,3] (λq v wr=>∃(k f:Nat) (s:BY),q = .int .i64 (k:Int)/\v = .string s/\k<f/\Un f k s=R/\s.size+k<=6+i/\k<=i/\wr=w) (λq _ _=>(intOf q).toNat)
 case atStart=>exact⟨i,i+1,_,rfl,rfl,by omega,m.out,by show 6+i<=6+i;omega,ze _,rfl⟩
 case round=>
  obtain⟨k,f,s,rfl,rfl,r,a,u,t,h⟩:=hrel;rw[h];clear h;obtain⟨g,rfl⟩:∃g,f=g+1:=⟨f-1,by omega⟩;rw[Un] at a;have c:=Da (k:=k % 10) (by omega);have b:X4 (k % 10)=(⟨#[48,49,50,51,52,53,54,55,56,57]⟩:BY).extract (k % 10) (k % 10+1):=rfl;have x:(0:Int)<=(k:Int):=zZ _
  go_upto_if 15 with fail
  rw[<- b];have p:(s++X4 (k % 10)).size=s.size+1:=by rw[zJ,c]
  obtain⟨S,n⟩:=Nm (s++X4 (k % 10));rw[n] at a p |-;have o:((k:Int) / 10)=((k / 10:Nat):Int):=rfl
  by_cases hz:k / 10=0
  ·rw[zb hz] at a;have d:((k:Int) / 10==0)=true:=by rw[o,hz];rfl
   rw[d];have l:=hid a;clear a n b c m;go_wp2_with fail;go_ret;exact⟨by rw[<- l.out];rfl,rfl⟩
  ·rw[za hz] at a;have d:((k:Int) / 10==0)=false:=by rw[o];simp;omega
   rw[d];have l:=hid a;clear a n b c m;go_wp2_with fail
   go_roundw
   case rel=>exact⟨k / 10,g,S,by rw[o],rfl,by omega,l.out,by omega,by omega,by trivial⟩
   case measure=>simp[intOf];omega
theorem OH(A:List BY)(y z:Value)(C D:Nat)(w:World)(r:zz w C y A)(hb:zz w D z A)(G:A.length<=10000000000000) :
  Calls prog 41 #[y,z] w λe w'=>e = .returned (.bool true)/\Below w.heap.size w w':=by
 have cell:∀{v:Value} {base:Nat},zz w base v A->∃a c,v = .slice a A.length c/\∀(k:Nat) (x:BY),A[k]?=some x->∃i,a=some ⟨i,0,none⟩/\w.cell? ⟨i,k,none⟩=some (.string x):=by
  intro v base h;obtain⟨a,c,rfl⟩:=qG h;refine⟨a,c,rfl,λk x l=>?_⟩;have F:k<A.length:=(zR.1 l).1
  rcases h.2 with ⟨e,h0⟩|⟨i,cap,cur,e,_⟩
  ·omega
  ·have E:=World.ownsRow.cellAt (g:=i) (cap:=cap) (by rw[<- e];exact h) k (by omega);injection e with e1 e2 e3
   exact⟨i,e1,by rw[E];simp[List.getElem?_map,l]⟩
 obtain⟨K,c1,rfl,s⟩:=cell r;obtain⟨L,c2,rfl,t⟩:=cell hb;obtain⟨n,f⟩:=Nm A.length;rw[f] at G |-;have o:=hid s;have p:=hid t;have B:=hid f;have H:((n:Int) != (n:Int))=false:=by simp
 clear cell s t f r hb;go_enter func41,ntmps41
 go_wp2
 go_loopw [5] (λq wr=>∃k:Nat,k<=n/\q = .int .i64 k/\Below w.heap.size w wr) (λq _=>n-(intOf q).toNat)
 case atStart=>exact⟨0,zG _,rfl,zf _ _⟩
 case round=>
  obtain⟨k,F,rfl,b⟩:=hrel;have m:=hid b;clear b
  by_cases hlt:k<n
  ·have j:k<A.length:=by rw[B.out];exact hlt
   obtain⟨N,rfl,u⟩:=o.out k _ (zn j);obtain⟨O,rfl,q2⟩:=p.out k _ (zn j);have I:=zi m.out u;have J:=zi m.out q2;obtain⟨x,l⟩:=Nm (A[k]);rw[l] at I J;have P:(0:Int)<=(k:Int):=zZ _;have Q:(k:Int)<(n:Int):=by omega
   have d:(x.toList==x.toList)=true:=by simp
   have M:(x.toList != x.toList)=false:=by simp
   clear u q2 l o p;go_wp2_with fail
   go_quiet (fail)
   go_wp2
   go_roundw
   case rel=>exact⟨k+1,by omega,by go_num,below_drewN m.out nq⟩
   case measure=>simp[intOf];omega
  ·clear o p
   go_wp2
   go_ret;exact⟨rfl,m.out⟩
theorem UB(c:Int)(n:Nat)(w:World)(a:I64 c)(g:0<n)(f:n<=10000000000000) :
  Calls prog 35 #[.int .i64 c,.int .i64 (n:Int)] w λe w'=>e = .returned (.int .i64 (Kp.vM c n:Int))/\w'=w:=by
 obtain⟨b,d⟩:=a
 by_cases h0:c<0
 ·have e:=hid (Nr c n h0);go_enter func35,ntmps35
  go_wp2
  go_ret;exact⟨by rw[<- e.out];rfl,rfl⟩
 ·have e:=hid (Ns c n (by omega));go_enter func35,ntmps35
  go_wp2
  go_ret;exact⟨by rw[<- e.out];rfl,rfl⟩
def XM(M:Nat->Prop)(W:World)(v:Value)(z:BY):Prop:=
 ∃a n c,v = .slice a n c/\n<=10000000000000/\∀j,j<n->∃b,a=some ⟨b,0,none⟩/\¬M b/\W.cell? ⟨b,j,none⟩=some (.string z)
def Xf(M:Nat->Prop)(W:World)(v:Value)(z:BY):Prop:=
 ∃a c,∃b:Nat->Value,v = .slice (some ⟨a,0,none⟩) 4 c/\¬M a/\∀k,k<4->W.cell? ⟨a,k,none⟩=some (b k)/\XM M W (b k) z
def Yq(M:Nat->Prop)(W:World)(a:Value)(m:Nat):Prop:=
 ∃b,W.ownsRow 0 111 1 a m b/\∀(i:Nat) (v:Value),b[i]?=some v->Xf M W v (Yc i)
theorem XM.turn{M:Nat->Prop}{W W':World}{v:Value}{z:BY}(h:XM M W v z)(k:zw M W W'):XM M W' v z:=by
 obtain⟨a,n,c,e,l,f⟩:=h;exact⟨a,n,c,e,l,λj i=>by obtain⟨d,e,b,g⟩:=f j i;exact⟨d,e,b,k.cell b g⟩⟩
theorem Xf.turn{M:Nat->Prop}{W W':World}{v:Value}{z:BY}(h:Xf M W v z)(k:zw M W W'):Xf M W' v z:=by
 obtain⟨f,c,g,e,d,a⟩:=h;exact⟨f,c,g,e,d,λj b=>⟨k.cell d (a j b).1,(a j b).2.turn k⟩⟩
theorem XM.more{M M':Nat->Prop}{W:World}{v:Value}{z:BY}(h:XM M W v z)(k:∀b,M' b->M b\/W.heap.size<=b):XM M' W v z:=by
 obtain⟨a,n,c,e,o,i⟩:=h;refine⟨a,n,c,e,o,λj l=>?_⟩;obtain⟨d,e,m,g⟩:=i j l;have p:d<W.heap.size:=XX _ _ g;exact⟨d,e,λf=>(k d f).elim m (λx=>by omega),g⟩
theorem Xf.more{M M':Nat->Prop}{W:World}{v:Value}{z:BY}(h:Xf M W v z)(g:∀b,M' b->M b\/W.heap.size<=b):Xf M' W v z:=by
 obtain⟨a,c,l,e,k,d⟩:=h;have m:a<W.heap.size:=XX _ _ (d 0 (by omega)).1;exact⟨a,c,l,e,λf=>(g a f).elim k (λx=>by omega),λj i=>⟨(d j i).1,(d j i).2.more g⟩⟩
theorem Tg(M:Nat->Prop)(w:World)(J m:Nat)(t:Value)(U:w.cell? ⟨J,1,none⟩=some t)(h:Yq M w t m)(L:m<=10000000000000) :
  Calls prog 20 #[.pointer (some ⟨J,1,none⟩)] w λe w'=>e = .returned (.bool true)/\w'=w:=by
 obtain⟨P,b,x⟩:=h;obtain⟨a,c,rfl⟩:=qG b
 have n:∀i,i<m->∃r v,a=some ⟨r,0,none⟩/\w.cell? ⟨r,i,none⟩=some v/\Xf M w v (Yc i):=by
  intro i hi;have Y:=b.1
  rcases b.2 with ⟨e,h0⟩|⟨r,cap,cur,e,_⟩
  ·omega
  ·have o:=World.ownsRow.cellAt (g:=r) (cap:=cap) (by rw[<- e];exact b) i (by omega);injection e with e1 B e3
   have H:=zn (l:=P) (i:=i) (by omega);exact⟨r,_,e1,o.trans H,x i _ H⟩
 have G:=λi (hi:i<=m) W=>nL i W (qZ hi L);have F:=hid n;have E:=hid G;clear n b x G;go_enter func20,ntmps20
 go_wp2
 go_loopw [3,4,5,6] (λC _ _ _ wr=>∃i:Nat,i<=m/\C = .int .i64 i/\wr=w) (λC _ _ _ _=>m-(intOf C).toNat)
 case atStart=>exact⟨0,zG _,rfl,rfl⟩
 case round=>
  obtain⟨i,hi,rfl,f⟩:=hrel;rw[f];clear f
  by_cases hlt:i<m
  ·obtain⟨r,v,rfl,q0,T,lc,vs,rfl,_,q⟩:=F.out i hlt;have p:=E.out i hi;obtain⟨z,I⟩:=Nm (Yc i);simp only[I] at p q;have A:=hid p;have K:=hid q;have Z:(0:Int)<=(i:Int):=zZ _;have i1:(i:Int)<(m:Int):=by omega
   clear p q I F E
   go_wp2_with (go_at_call 44;refine (A.out _).mono ?_;rintro e w2 ⟨rfl,B⟩;rw[B];clear B)
   go_loopw [5,6] (λkv _ wr=>∃k:Nat,k<=4/\kv = .int .i64 k/\wr=w) (λkv _ _=>4-(intOf kv).toNat)
   case atStart=>exact⟨0,zG _,rfl,rfl⟩
   case round=>
    obtain⟨k,X,rfl,f⟩:=hrel;rw[f];clear f
    by_cases hlk:k<4
    ·obtain⟨O,Q,y,c2,u,N,o⟩:=K.out k hlk;rw[u] at O;have s:=hid o;have k0:(0:Int)<=(k:Int):=zZ _;have k1:(k:Int)<4:=by omega
     clear o u;go_wp2_with fail
     go_loopw [6] (λD wr=>∃j:Nat,j<=y/\D = .int .i64 j/\wr=w) (λD _=>y-(intOf D).toNat)
     case atStart=>exact⟨0,zG _,rfl,rfl⟩
     case round=>
      obtain⟨j,V,rfl,f⟩:=hrel;rw[f];clear f
      by_cases hlj:j<y
      ·obtain⟨S,rfl,_,q2⟩:=s.out j hlj;have j0:(0:Int)<=(j:Int):=zZ _;have j1:(j:Int)<(y:Int):=by omega
       have d:(z.toList==z.toList)=true:=by simp
       have R:(z.toList != z.toList)=false:=by simp
       clear s;go_wp2_with fail
       go_roundw
       case rel=>exact⟨j+1,by omega,by go_num,by trivial⟩
       case measure=>simp[intOf];omega
      ·go_wp2_with fail
       go_roundw
       case rel=>exact⟨k+1,by omega,by go_num,by trivial⟩
       case measure=>simp[intOf];omega
    ·go_wp2_with fail
     go_roundw
     case rel=>exact⟨i+1,by omega,by go_num,by trivial⟩
     case measure=>simp[intOf];omega
  ·go_wp2_with fail;go_ret;exact⟨rfl,rfl⟩
theorem KG(w:World)(t:TypeId)(base:Nat)(v:Value)(n:Nat)(xs:List Value)(a:w.ownsRow base 9 1 v n xs)(o:Addr)(m c:Nat)(news:List Value)(G:news.length=m)(d:∀j u,news[j]?=some u->w.cell? (o.add j)=some u)(z:∀u ∈ news,u.oneCell'=true)(H:0<m)(hb:n+m<=2000000000)(i:base<=w.heap.size) :
  ∃l w',(Builtin.append_ #[48,48] t #[v,.slice (some o) m c]).run prog w = .ok l w'/\w'.ownsRow base 9 1 l (n+m) (xs++news)/\w'.ownsRow base 9 1 v n xs/\w.grownBy w' v.ownBlock /\
   ((∃g cap,v = .slice (some ⟨g,0,none⟩) n cap/\l = .slice (some ⟨g,0,none⟩) (n+m) cap/\n+m<=cap)\/(Below w.heap.size w w'/\∃y,l.ownBlock=some y/\w.heap.size<=y)):=by
 obtain⟨s,hi,p,f,q⟩:=qP Jd;obtain⟨l,w',x,A,r,F,B⟩:=run_append_own_at (P:=prog) w base 48 t 9 s (.string ⟨#[]⟩) 1 16 underlying48 hi p f q rfl (by decide) v n xs a o m c news (by omega) d z (by unfold maxLen;omega) (by omega) i;refine⟨l,w',x,A,?_⟩;have E:=a.1
 rcases a.2 with ⟨rfl,h0⟩|⟨g,cap,cur,rfl,hbg,hg,hnc,hcm,hcs,htake⟩
 ·have b:Below w.heap.size w w':=(zf _ w).grown r (ze _) (λk C=>by cases C);refine⟨ownsRow_below a b,r,.inr ⟨b,?_⟩⟩
  rcases B with e|e
  ·rcases A.2 with ⟨e2,h02⟩|⟨g2,cap2,cur2,e2,hb2,_⟩
   ·omega
   ·rw[e2] at e;simp[Value.ownBlock] at e
  ·exact⟨_,e,ze _⟩
 ·by_cases hroom:n+m<=cap
  ·have h:=run_append_room (P:=prog) w 48 t 9 s underlying48 hi g n cap cur hg o m c news (by rw[f];omega) d z hroom (by rw[f];omega);rw[x] at h;injection h with e1 e2
   refine⟨⟨E,.inr ⟨g,cap,_,rfl,hbg,by rw[e2];exact setRow_heap w g cur _ _ _ hg,hnc,hcm,?_,?_⟩⟩,r,.inl ⟨g,cap,rfl,e1,hroom⟩⟩
   ·simp only[List.size_toArray,qA,yZ,jw,Array.length_toList,f];omega
   ·have D:(cur.toList.take (n*s.size))=xs:=by rw[f];exact htake
    rw[D];simp only[Ke];rw[show n*1=xs.length by omega];exact List.take_left
  ·have holds:∀j u,xs[j]?=some u->w.cell? ((⟨g,0,none⟩:Addr).add j)=some u:=a.cells (g:=g) rfl;have h:=run_append_grow (P:=prog) w 48 t 9 s (.string ⟨#[]⟩) underlying48 hi p ⟨g,0,none⟩ n cap xs (by rw[f];omega) holds o m c news (by rw[f];omega) d (by omega) (by omega) (growslice_fits (by omega) (by rw[q];omega));rw[x] at h;injection h with e1 e2
   have b:Below w.heap.size w w':=by
    rw[e2];exact ((zf _ w).drew).alloc (ze _) _
   exact⟨ownsRow_below a b,r,.inr ⟨b,w.heap.size,by rw[e1];rfl,ze _⟩⟩
theorem bQ{N:Nat->Prop}{W W':World}{base:Nat}{e:TypeId}{size:Nat}{v:Value}{n:Nat}{xs:List Value}(h:W.ownsRow base e size v n xs)(k:zw N W W')(c:∀g,v.ownBlock=some g->¬N g):W'.ownsRow base e size v n xs:=by
 obtain⟨b,a⟩:=h;refine⟨b,?_⟩
 rcases a with a|⟨g,cap,cur,hv,hg,hh,h3⟩
 ·exact .inl a
 ·exact .inr ⟨g,cap,cur,hv,hg,(k.block g (zy hh) (c g (by rw[hv];rfl))).trans hh,h3⟩
def Sh(N:Nat->Prop)(W:World)(v:Value)(n:Nat):Prop:=
 ∃a c,v = .slice a n c/\(0<n->∃g cur,a=some ⟨g,0,none⟩/\N g/\W.heap[g]?=some (.cells cur 9 (0,0))/\n<=cur.size)
theorem Sh.of{W:World}{base:Nat}{v:Value}{n:Nat}{xs:List Value}(h:W.ownsRow base 9 1 v n xs){N:Nat->Prop}(a:∀g,v.ownBlock=some g->N g):Sh N W v n:=by
 rcases h.2 with ⟨rfl,h0⟩|⟨g,cap,cur,rfl,_,hg,hnc,_,hcs,_⟩
 ·exact⟨none,0,by rw[h0],λe=>by omega⟩
 ·exact⟨_,_,rfl,λ_=>⟨g,cur,rfl,a g rfl,hg,by omega⟩⟩
theorem Sh.below{N:Nat->Prop}{W W':World}{v:Value}{n:Nat}(h:Sh N W v n)(hb:Below W.heap.size W W'):Sh N W' v n:=by
 obtain⟨a,c,e,h⟩:=h;refine⟨a,c,e,λf=>?_⟩;obtain⟨g,cur,d,j,b,i⟩:=h f;exact⟨g,cur,d,j,(hb.block g (zy b)).trans b,i⟩
theorem Sh.grown{N:Nat->Prop}{W W':World}{v:Value}{n:Nat}(h:Sh N W v n){r:Option Nat}(hb:W.grownBy W' r)(b:∀g,v.ownBlock=some g->some g≠r):Sh N W' v n:=by
 obtain⟨a,c,e,h⟩:=h;refine⟨a,c,e,λi=>?_⟩;obtain⟨g,cur,d,k,f,j⟩:=h i;exact⟨g,cur,d,k,(hb.block g (zy f) (b g (by rw[e,d];rfl))).trans f,j⟩
theorem Sh.set{N:Nat->Prop}{W:World}{v:Value}{n:Nat}(h:Sh N W v n)(d j:Nat)(u:Value):Sh N (W.setCell ⟨d,j,none⟩ u) v n:=by
 obtain⟨a,c,e,h⟩:=h;refine⟨a,c,e,λl=>?_⟩;obtain⟨g,cur,b,k,f,i⟩:=h l
 by_cases eg:g=d
 ·subst eg;exact⟨g,_,b,k,yz W g j _ _ u f,by simp;exact i⟩
 ·exact⟨g,cur,b,k,(qc _ _ _ _ eg).trans f,i⟩
structure Wrote (N:Nat->Prop) (W4 wr:World) (vs:Nat->Value) (ns:Nat->Nat) (z:BY) (K J:Nat):Prop where
 turn:zw N W4 wr
 sh:∀k,k<4->Sh N wr (vs k) (ns k)
 done:∀k j,k<4->j<ns k->(k<K\/(k=K/\j<J))->∃g,(vs k).ownBlock=some g/\wr.cell? ⟨g,j,none⟩=some (.string z)
theorem Wrote.start{N:Nat->Prop}{W:World}{a:Nat->Value}{ns:Nat->Nat}{z:BY}(h:∀k,k<4->Sh N W (a k) (ns k)):Wrote N W W a ns z 0 0:=
 ⟨zw.refl _ _,h,λk j _ _ e=>by omega⟩
theorem Wrote.row{N:Nat->Prop}{a wr:World}{b:Nat->Value}{ns:Nat->Nat}{z:BY}{K J:Nat}(h:Wrote N a wr b ns z K J)(f:ns K<=J):Wrote N a wr b ns z (K+1) 0:=
 ⟨h.turn,h.sh,λk j d c e=>h.done k j d c (by
  rcases e with e|⟨_,e⟩
  ·by_cases ek:k=K
   ·subst ek;exact .inr ⟨rfl,by omega⟩
   ·exact .inl (by omega)
  ·omega)⟩
theorem gY(W:World)(g j b c:Nat)(z:BY)(cur:Array Value)(t:TypeId)(d:W.heap[g]?=some (.cells cur t (0,0)))(h:j<cur.size)(a:W.cell? ⟨b,c,none⟩=some (.string z)\/(b=g/\c=j)):(W.setCell ⟨g,j,none⟩ (.string z)).cell? ⟨b,c,none⟩=some (.string z):=by
 by_cases eg:b=g
 ·subst eg;have f:=(zg (yz W b j _ _ (.string z) d) c).1;rw[f,Array.getElem?_setIfInBounds]
  by_cases ej:j=c
  ·rw[zb ej,zb (by omega)]
  ·rw[za ej]
   rcases a with a|⟨_,e⟩
   ·rw[<- a,(zg d c).1]
   ·exact absurd e.symm ej
 ·rcases a with a|⟨e,_⟩
  ·have hb:=qc W ⟨g,j,none⟩ (.string z) b (by exact eg);unfold World.cell? at a |-;rw[hb];exact a
  ·exact absurd e eg
theorem Wrote.next{N:Nat->Prop}{f wr:World}{d:Nat->Value}{ns:Nat->Nat}{z:BY}{K J:Nat}(h:Wrote N f wr d ns z K J)(r:K<4)(q:J<ns K){g:Nat}{cur:Array Value}(l:wr.heap[g]?=some (.cells cur 9 (0,0)))(m:J<cur.size)(p:(d K).ownBlock=some g)(n:N g):Wrote N f (wr.setCell ⟨g,J,none⟩ (.string z)) d ns z K (J+1):=by
 refine⟨h.turn.trans (zw.set wr n J _),λk b=>(h.sh k b).set g J _,λk j b a e=>?_⟩
 by_cases e2:k=K/\j=J
 ·obtain⟨rfl,rfl⟩:=e2;exact⟨g,p,gY wr g j g j z cur _ l m (.inr ⟨rfl,rfl⟩)⟩
 ·obtain⟨i,c,o⟩:=h.done k j b a (by omega);exact⟨i,c,gY wr g J i j z cur _ l m (.inl o)⟩
def fO(M:Nat->Prop)(f:World)(h m:Nat)(d c:Value)(e:Ending)(w':World):Prop:=
 ∃a r,e = .returned r/\zw (λb=>b=h\/c.ownBlock=some b) f w'/\w'.heap[h]?=some (.cells #[d,a] 65)/\Yq (yY M a) w' a (m+1)/\(∀g,a.ownBlock=some g->c.ownBlock=some g\/f.heap.size<=g)
theorem Gp:(prog.info? 111).map (λi=>(i.zero,i.size,i.bytes))=some (some (.slice none 0 0),1,24):=by kernel_rfl
theorem dD{d w' b:World}{base:Nat}{v c:Value}{n m:Nat}{xs l:List Value}(o:w'.ownsRow base 9 1 c (n+m) l)(j:b.ownsRow base 9 1 v n xs)
  (k:(∃g cap,v = .slice (some ⟨g,0,none⟩) n cap/\c = .slice (some ⟨g,0,none⟩) (n+m) cap/\n+m<=cap)\/(Below d.heap.size d w'/\∃f,c.ownBlock=some f/\d.heap.size<=f))(h:w'.grownBy b v.ownBlock)(i:∀g,v.ownBlock=some g->g<d.heap.size) :
  Sh (λg=>base<=g/\g<b.heap.size) b c (n+m):=by
 rcases k with ⟨g,cap,rfl,rfl,hr⟩|⟨_,f,e',hg'⟩
 ·rcases j.2 with ⟨e,_⟩|⟨g2,cap2,cur,e,hbg,a,hnc,hcm,hcs,_⟩
  ·cases e
  ·cases e
   exact⟨_,_,rfl,λ_=>⟨g,cur,rfl,⟨hbg,zy a⟩,a,by omega⟩⟩
 ·refine (Sh.of o (N:=λg=>base<=g/\g<b.heap.size) (λg a=>?_)).grown h (λg a e=>?_)
  ·rcases o.2 with ⟨rfl,_⟩|⟨g2,cap2,cur,rfl,hbg,hg2,_⟩
   ·cases a
   ·have:g2=g:=by simpa [Value.ownBlock] using a
    subst this;exact⟨hbg,xM (zy hg2) h.size⟩
  ·have:=i g e.symm
   rw[a] at e';injection e' with e'
   omega
theorem Pq{a:World}{base:Nat}{v:Value}{n:Nat}{xs:List Value}(c:a.ownsRow base 9 1 v n xs):Sh (λg=>base<=g/\g<a.heap.size) a v n:=
 Sh.of c (λg b=>by
  rcases c.2 with ⟨rfl,_⟩|⟨g2,cap2,cur,rfl,hbg,hg2,_⟩
  ·cases b
  ·have:g2=g:=by simpa [Value.ownBlock] using b
   subst this;exact⟨hbg,zy hg2⟩)
theorem MX{w:World}{base:Nat}{t:TypeId}{v:Value}{n:Nat}{xs:List Value}(h:w.ownsRow base t 1 v n xs):∀g,v.ownBlock=some g->g<w.heap.size/\base<=g:=λg a=>by
 rcases h.2 with ⟨rfl,_⟩|⟨g2,cap2,cur,rfl,hbg,hg2,_⟩
 ·cases a
 ·have:g2=g:=by simpa [Value.ownBlock] using a
  subst this;exact⟨zy hg2,hbg⟩
def four(a b c d:Value)(k:Nat):Value:=if k=0 then a else if k=1 then b else if k=2 then c else d
theorem Sr(M:Nat->Prop)(p w:World)(q m:Nat)(e4 T l:Value)(a4:List BY)(U:∀b,M b->b<p.heap.size)(y:M q)(d:p.heap[q]?=some (.cells #[e4,T] 65))(h6:Yq M p T m)(b0:∀g,T.ownBlock=some g->M g/\g≠q)(h0:Below p.heap.size p w)(hl:zz w p.heap.size l a4)(hn:a4.length<=1000)(hm:m<=5000000000000) :
  Calls prog 42 #[.pointer (some ⟨q,1,none⟩),l] w (fO M p q m e4 T):=by
 obtain⟨i1,hj,i5,i6,i7⟩:=qP Gp;obtain⟨ys,o,a0⟩:=h6;obtain⟨ba,bc,rfl⟩:=qG o;have C:=(h0.block q (U q y)).trans d;have c1:=(zg C 1).1;simp at c1;have cm:=λW=>nL m W (by omega);obtain⟨z,hz⟩:=Nm (Yc m);simp only[hz] at cm;have CM:=hid cm;have HZ:=hid hz;obtain⟨n,d7⟩:=Nm a4.length;have Z:w.ownsRow p.heap.size 9 1 l n (a4.map Value.string):=by rw[<- d7];exact hl
 rw[d7] at hn;obtain⟨la,lc,i0⟩:=qG Z;have p7:=h0.size;have A1:=KG (w.alloc (.cells #[.string z] 9)) 48 p.heap.size l n _ (Z.alloc _) ⟨w.heap.size,0,none⟩ 1 1 [.string z] rfl (vG _ _ _) (by simp[Value.oneCell']) (by omega) (by omega) (by simp;omega);obtain⟨v1,w1,r1,o1,l1,g1,k1⟩:=A1;have z1:w.heap.size+1<=w1.heap.size:=by have:=g1.size;simpa using this
 have A2:=KG (w1.alloc (.cells #[.string z,.string z] 9)) 48 p.heap.size l n _ (l1.alloc _) ⟨w1.heap.size,0,none⟩ 2 2 [.string z,.string z] rfl (vG _ _ _) (by simp[Value.oneCell']) (by omega) (by omega) (by simp;omega);obtain⟨v2,w2,r2,o2,l2,g2,k2⟩:=A2;have z2:w1.heap.size+1<=w2.heap.size:=by have:=g2.size;simpa using this
 have A3:=KG (w2.alloc (.cells #[.string z,.string z,.string z] 9)) 48 p.heap.size l n _ (l2.alloc _) ⟨w2.heap.size,0,none⟩ 3 3 [.string z,.string z,.string z] rfl (vG _ _ _) (by simp[Value.oneCell']) (by omega) (by omega) (by simp;omega);obtain⟨v3,s,r3,o3,l3,g3,k3⟩:=A3;have z3:w2.heap.size+1<=s.heap.size:=by have:=g3.size;simpa using this
 have D:=MX Z;have b7:w1.grownBy s l.ownBlock:=((xU w1 _ _).trans g2).trans ((xU w2 _ _).trans g3);have G3:w2.grownBy s l.ownBlock:=(xU w2 _ _).trans g3;have S1:=dD o1 l3 k1 b7 (λg A=>by have:=D g A;simp;omega);have S2:=dD o2 l3 k2 G3 (λg A=>by have:=D g A;simp;omega);have S3:=dD o3 l3 k3 ⟨rfl,rfl,rfl,ze _,λ_ _ _=>rfl⟩ (λg A=>by have:=D g A;simp;omega);have S0:=Pq l3;have b4:Below p.heap.size p s:=(((((h0.alloc (by omega) _).grown g1 (by simp;omega) (λk r=>(D k r).2)).alloc (by omega) _).grown g2 (by simp;omega) (λk r=>(D k r).2)).alloc (by omega) _).grown g3 (by simp;omega) (λk r=>(D k r).2);obtain⟨a1,o8,e1⟩:=qG o1;obtain⟨a2,o9,e2⟩:=qG o2;obtain⟨a3,p0,e3⟩:=qG o3;obtain⟨N,hN⟩:∃N,N=λg=>p.heap.size<=g/\g<s.heap.size:=⟨_,rfl⟩;rw[<- hN] at S0 S1 S2 S3;obtain⟨W4,X⟩:∃W,s.alloc (.cells #[l,v1,v2,v3] 48)=W:=⟨_,rfl⟩;have F:Below s.heap.size s W4:=by rw[<- X];exact nbl s _
 have O:W4.heap[s.heap.size]?=some (.cells #[l,v1,v2,v3] 48):=by rw[<- X];exact zQ s _
 have b5:∀k,k<4->Sh N W4 (four l v1 v2 v3 k) (n+k):=λk r=>by
  rcases (show k=0\/k=1\/k=2\/k=3 by omega) with rfl|rfl|rfl|rfl
  ·exact S0.below F
  ·exact S1.below F
  ·exact S2.below F
  ·exact S3.below F
 have d3:∀k,k<4->(#[l,v1,v2,v3]:Array Value)[k]?=some (four l v1 v2 v3 k):=λk r=>by
  rcases (show k=0\/k=1\/k=2\/k=3 by omega) with rfl|rfl|rfl|rfl<;>rfl
 have d2:Below p.heap.size p W4:=b4.trans (F.mono (b4.size));have a7:¬N s.heap.size:=by rw[hN];exact λh=>by omega
 have L:∀wr K J,Wrote N W4 wr (four l v1 v2 v3) (λk=>n+k) z K J->∀k,k<4->wr.cell? ⟨s.heap.size,k,none⟩=some (four l v1 v2 v3 k):=λwr K J h k r=>by
  rw[(zg ((h.turn.block _ (zy O) a7).trans O) k).1];exact d3 k r
 have c3:=hid (Wrote.start (z:=z) (ns:=λk=>n+k) b5);obtain⟨vs,d8⟩:=Nm (four l v1 v2 v3);rw[d8] at c3 L b5;have b9:=hid L;have HN:=hid hN;have b8:=hid d2;have c6:=hid X;have HB:=hid (uA o a0);have HW:=hid b0;have HH:=hid (uA U (uA y d));have o5:=hid O;have R1:=hid r1;have R2:=hid r2;have R3:=hid r3;have j7:Hid (0=0):=hid rfl;have j8:Hid (0=0):=hid rfl;have j9:Hid (0=0):=hid rfl;have z34:s.heap.size<W4.heap.size:=zy O;clear cm hz r1 r2 r3 o1 o2 o3 l1 l2 l3 g1 g2 g3 k1 k2 k3 o a0 b0 Z hl U y d O X d2 hN L b5 d3 d8 a7 F b4 S0 S1 S2 S3 b7 G3 D C;subst i0;subst e1;subst e2;subst e3;go_enter func42,ntmps42
 go_upto_region 1 with (go_at_call 44;refine (CM.out _).mono ?_;rintro e wm ⟨rfl,em⟩;rw[em];clear em)
 go_wp2_with (first
  | (at_builtin;clear j7;refine fq _ rfl _ _ _ _ rfl _ _ rfl rfl _ _ R1.out ?_)
  | (at_builtin;clear j8;refine fq _ rfl _ _ _ _ rfl _ _ rfl rfl _ _ R2.out ?_)
  | (at_builtin;clear j9;refine fq _ rfl _ _ _ _ rfl _ _ rfl rfl _ _ R3.out ?_))
 rw[c6.out];clear c6 R1 R2 R3
 go_loopw [6,7] (λkv _ wr=>∃k:Nat,k<=4/\kv = .int .i64 k/\Wrote N W4 wr vs (λk=>n+k) z k 0) (λkv _ _=>4-(intOf kv).toNat)
 case atStart=>exact⟨0,zG _,rfl,c3.out⟩
 case round=>
  obtain⟨k,r,rfl,t⟩:=hrel;have t:=hid t;obtain⟨R,rfl⟩:∃x,x=wr:=⟨_,rfl⟩
  by_cases hlk:k<4
  ·have k0:(0:Int)<=(k:Int):=zZ _;have k1:(k:Int)<4:=by omega
   have i3:n+k<=2000:=by omega
   have HK:=hid hlk;go_wp2_with fail
   go_loopw [7] (λjv wr=>∃j:Nat,j<=n+k/\jv = .int .i64 j/\Wrote N W4 wr vs (λk=>n+k) z k j) (λjv _=>n+k-(intOf jv).toNat)
   case atStart=>exact⟨0,zG _,rfl,t.out⟩
   case round=>
    obtain⟨j,hj,rfl,E⟩:=hrel;obtain⟨a,c,H,G⟩:=E.sh k HK.out;have q1:=b9.out wr k j E k HK.out;rw[H] at q1;have HV:=hid H;have E:=hid E;obtain⟨nk,P⟩:∃x,n+k=x:=⟨_,rfl⟩;have S:=hid P;simp only[P] at q1 G hj i3;clear H P
    by_cases hlj:j<nk
    ·obtain⟨g,cur,rfl,V,A,p5⟩:=G (by omega);have d6:j<cur.size:=by omega
     have q2:=(zg A j).1;have f2:=(zg A j).2;rw[eF d6] at q2;obtain⟨u,hu⟩:=Nm (cur[j]);rw[hu] at q2;have HG:=hid A;have j0:(0:Int)<=(j:Int):=zZ _;have j1:(j:Int)<(nk:Int):=by omega
     clear A G hu;go_wp2_with fail
     go_roundw
     case rel=>exact⟨j+1,by have:=S.out;omega,by go_num,E.out.next HK.out (by rw[S.out];exact hlj) HG.out d6 (by rw[HV.out];rfl) V⟩
     case measure=>have:=S.out;simp[intOf];omega
    ·clear G;go_wp2_with fail
     go_roundw
     case rel=>exact⟨k+1,by have:=HK.out;omega,by go_num,E.out.row (by rw[S.out];omega)⟩
     case measure=>have:=HK.out;simp[intOf];omega
  ·have h9:k=4:=by omega
   subst h9;obtain⟨U,y,d⟩:=HH.out;have d9:=U q y;have I:Below p.heap.size p R:=b8.out.trans (t.out.turn.below (λk r=>by rw[HN.out];exact λh=>by omega) (b8.out.size));have C:=(I.block q d9).trans d;have c2:=(zg C 1).1;have f2:=(zg C 1).2;simp at c2;have BR:=hid (ownsRow_below HB.out.1 I);have f3:=hid I;have f6:=hid C;have p4:=I.size;have i4:s.heap.size<R.heap.size:=xM z34 t.out.turn.size;clear I C U y d
   go_wp2_with (at_builtin;refine Xa _ rfl _ _ 61 rfl 0 111 i1 (.slice none 0 0) 1 24 underlying61 hj i5 i6 i7 rfl (by decide) (.slice ba m bc) m ys rfl (World.ownsRow.alloc BR.out _) ⟨R.heap.size,0,none⟩ 1 1 [.slice (some ⟨s.heap.size,0,none⟩) 4 4] rfl rfl (vG _ _ _) (by simp[Value.oneCell']) (by unfold maxLen;omega) (by omega) (zG _) ?_;intro v5 w5 Q B _ c8;obtain⟨a5,c5,e5⟩:=qG Q;subst e5;have Y:=(B.block q (by simp;omega) (λe=>(HW.out q e.symm).2 rfl)).trans (((nbl R _).block q (by omega)).trans f6.out);have q5:=(zg Y 1).1;have f5:=(zg Y 1).2;simp at q5;have c7:=hid Q;have f:=hid B;have f1:=hid c8;have f4:=hid Y;clear Q B c8 Y)
   go_end0
   obtain⟨U,y,d⟩:=HH.out;obtain⟨o,a0⟩:=HB.out;have L:=b9.out R 4 0 t.out;have h3:=HN.out;have h4:=HZ.out;obtain⟨W,hW⟩:=Nm (w5.setCell ⟨q,1,none⟩ (.slice a5 (m+1) c5));rw[hW]
   have tS:zw (λb=>b=q\/(Value.slice ba m bc).ownBlock=some b) R W:=by
    rw[<- hW];exact ((zw.of (nbl R _)).trans ⟨f.out.os,f.out.tape,f.out.output,f.out.size,λk r i2=>f.out.block k r (λe=>i2 (.inr e.symm))⟩).trans (zw.set w5 (.inl rfl) 1 _)
   have tA:zw (λb=>b=q\/(Value.slice ba m bc).ownBlock=some b) p W:=(zw.of f3.out).trans tS
   have h5:∀g,(Value.slice a5 (m+1) c5).ownBlock=some g->(Value.slice ba m bc).ownBlock=some g\/R.heap.size<=g:=λg A=>by
    rcases f1.out with e|e
    ·exact .inl (by rw[<- e];exact A)
    ·rw[A] at e;injection e with e
     exact .inr (by rw[e];simp)
   have a9:∀b,yY M (.slice a5 (m+1) c5) b->M b\/R.heap.size<=b:=λb hb=>hb.elim .inl (λe=>(h5 b e).imp (λe=>(HW.out b e).1) id)
   have a8:∀g,p.heap.size<=g->g<R.heap.size->¬yY M (.slice a5 (m+1) c5) g/\¬(g=q\/(Value.slice ba m bc).ownBlock=some g):=λg h1 h2=>
    ⟨λh=>by
     rcases a9 g h with h|h
     ·have:=U g h;omega
     ·omega,λh=>by
     rcases h with h|h
     ·omega
     ·have:=U g (HW.out g h).1;omega⟩
   have hlen:ys.length=m:=by have:=o.1;omega
   refine⟨_,_,rfl,tA,?_,⟨ys++[.slice (some ⟨s.heap.size,0,none⟩) 4 4],?_,?_⟩,λg A=>(h5 g A).imp id (λe=>by omega)⟩
   ·rw[<- hW];exact yz w5 q 1 _ _ _ f4.out
   ·rw[<- hW]
    exact xE c7.out (a:=⟨q,1,none⟩) (λe=>by
     rcases h5 q e with e|e
     ·exact (HW.out q e).2 rfl
     ·omega) _
   ·intro i v H
    by_cases hi:i<m
    ·rw[xK (by omega)] at H
     exact ((a0 i v H).more (λb hb=>(a9 b hb).imp id (λe=>by omega))).turn (tA.wide (λk _ e => .inl (by
      rcases e with e|e
      ·rw[e];exact y
      ·exact (HW.out k e).1)))
    ·have h8:i=m:=by
      have:=(zR.1 H).1
      simp at this;omega
     subst h8;rw[xZ (by omega),hlen] at H;simp at H;subst H;have d4:=a8 s.heap.size (by omega) i4;refine⟨_,_,vs,rfl,d4.1,λk r=>⟨tS.cell d4.2 (L k r),?_⟩⟩;obtain⟨a,c,H,G⟩:=t.out.sh k r;refine⟨a,n+k,c,H,by omega,λj hj=>?_⟩;obtain⟨g,cur,ea,V,A,_⟩:=G (by omega);obtain⟨g',eg,h7⟩:=t.out.done k j r hj (.inl r)
     have e2:g'=g:=by
      rw[H,ea] at eg
      simpa [Value.ownBlock] using eg.symm
     subst e2;rw[h3] at V;have hf:=a8 g' V.1 (by omega);exact⟨g',ea,hf.1,by rw[h4];exact tS.cell hf.2 h7⟩
end Go.Proofs.YtagnlbgbnfnapaaGreatDoor
