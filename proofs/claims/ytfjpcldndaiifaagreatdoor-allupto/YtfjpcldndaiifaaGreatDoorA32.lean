/- P -/
import Derived.Test.YtfjpcldndaiifaaGreatDoorA31
open Go.Proofs.Tryz
set_option maxRecDepth 100000
set_option maxHeartbeats 4000000
namespace Go.Proofs.YtfjpcldndaiifaaGreatDoor
namespace Kp
def kM(c:Int)(n:Nat):Nat:=((if c<0 then -(c+1) else c) % (n:Int)).toNat
theorem zca(c:Int)(n:Nat)(h:0<n):kM c n<n:=by
 unfold kM;have a:=Int.emod_nonneg (if c<0 then -(c+1) else c) (show (n:Int)≠0 by omega)
 have b:=Int.emod_lt_of_pos (if c<0 then -(c+1) else c) (show (0:Int)<n by omega)
 omega
end Kp
end Go.Proofs.YtfjpcldndaiifaaGreatDoor
namespace Go.Proofs.YtfjpcldndaiifaaGreatDoor
open Go.RowKit
def I64(x:Int):Prop:=-9223372036854775808<=x/\x<=9223372036854775807
theorem zcb(c:Int)(n:Nat)(h:c<0):-(c+1).tmod (n:Int)=(Kp.kM c n:Int):=by
 unfold Kp.kM;rw[zb h,<- Int.neg_tmod,Int.tmod_eq_emod_of_nonneg (by omega)];have a:=Int.emod_nonneg (-(c+1)) (b:=(n:Int))
 by_cases hn:(n:Int)=0
 ·rw[hn,Int.emod_zero];omega
 have:=a hn;omega
theorem zcc(c:Int)(n:Nat)(h:0<=c):c % (n:Int)=(Kp.kM c n:Int):=by
 unfold Kp.kM;rw[N8];have a:=Int.emod_nonneg c (b:=(n:Int))
 by_cases hn:(n:Int)=0
 ·rw[hn,Int.emod_zero];omega
 have:=a hn;omega
def Va(k:Nat):BY:=(⟨#[48,49,50,51,52,53,54,55,56,57]⟩:BY).extract k (k+1)
def dJ:Nat->Nat->BY->BY
 | 0,_,s=>s
 | f+1,i,s=>if i / 10=0 then s++Va (i % 10) else dJ f (i / 10) (s++Va (i % 10))
def Vj(i:Nat):BY:=dJ (i+1) i ⟨#[40,109,105,110,101,32]⟩
theorem NZ{k:Nat}(h:k<10):(Va k).size=1:=by
 unfold Va;rw[yM];show min (k+1) 10-k=1;omega
theorem Cv(i:Nat)(w:J)(y:i<=1000000000):R8 23 #[R9 (i:Int)] w λe x=>e=.returned (.string (Vj i))/\x=w:=by
 obtain⟨R,j⟩:=Nm (Vj i);rw[j];unfold Vj at j;have m:=G7 j;clear j;go_enter func23,ntmps23;go_wp2
 go_loopw [0,3] (λq v wr=>∃(k f:Nat) (s:BY),q=R9 (k:Int)/\v=S9 s/\k<f/\dJ f k s=R/\s.size+k<=6+i/\k<=i/\wr=w) (λq _ _=>(intOf q).toNat)
 case atStart=>exact⟨i,i+1,_,rfl,rfl,by omega,m.o,by show 6+i<=6+i;omega,ze _,rfl⟩
 case round=>
  obtain⟨k,f,s,rfl,rfl,r,a,u,t,h⟩:=hrel;rw[h];clear h;obtain⟨g,rfl⟩:∃g,f=g+1:=⟨f-1,by omega⟩;rw[dJ]at a;have c:=NZ (k:=k % 10) (by omega);have b:Va (k % 10)=(⟨#[48,49,50,51,52,53,54,55,56,57]⟩:BY).extract (k % 10) (k % 10+1):=rfl;have z:(0:Int)<=(k:Int):=qd _
  go_upto_if 15 with fail
  rw[<- b];have p:(s++Va (k % 10)).size=s.size+1:=by rw[zV,c]
  obtain⟨S,n⟩:=Nm (s++Va (k % 10));rw[n]at a p |-;have o:((k:Int) / 10)=((k / 10:Nat):Int):=rfl
  by_cases hz:k / 10=0
  ·rw[zb hz]at a;have d:((k:Int) / 10==0)=true:=by rw[o,hz];rfl
   rw[d];have l:=G7 a;clear a n b c m;go_wp2_with fail;go_ret;exact⟨by rw[<- l.o];rfl,rfl⟩
  rw[za hz]at a;have d:((k:Int) / 10==0)=false:=by rw[o];simp;omega
  rw[d];have l:=G7 a;clear a n b c m;go_wp2_with fail;go_roundw
  case rel=>exact⟨k / 10,g,S,by rw[o],rfl,by omega,l.o,by omega,by omega,by trivial⟩
  case measure=>simp[intOf];omega
theorem zdf(A:List BY)(B C:Y)(E F:Nat)(w:J)(r:zJ w E B A)(s:zJ w F C A)(I:A.length<=1000000000):R8 20 #[B,C] w (G5 (.bool true) w):=by
 have cell:∀{v:Y} {base:Nat},zJ w base v A->∃a c,v=TL a A.length c/\∀(k:Nat) (x:BY),A[k]?=some x->∃i,a=some (G8 i 0)/\w.cell? (G8 i k)=some (S9 x):=by
  intro v base h;obtain⟨a,c,rfl⟩:=xe h;refine⟨a,c,rfl,λk x l=>?_⟩;have H:k<A.length:=(zU.1 l).1
  rcases h.2 with⟨e,h0⟩|⟨i,cap,cur,e,_⟩
  ·omega
  have G:=World.ownsRow.cellAt (g:=i) (cap:=cap) (by rw[<- e];exact h) k (by omega);injection e with e1 e2 e3
  exact⟨i,e1,by rw[G];simp[List.getElem?_map,l]⟩
 obtain⟨O,c1,rfl,t⟩:=cell r;obtain⟨P,c2,rfl,u⟩:=cell s;obtain⟨n,f⟩:=Nm A.length;rw[f]at I |-;have⟨o,p,D⟩:=M4 t u f;have K:((n:Int) != (n:Int))=false:=by simp
 clear cell t u f r s;go_enter func20,ntmps20;go_wp2
 go_loopw [5] (λq wr=>∃k:Nat,k<=n/\q=R9 k/\BQ w wr) (λq _=>n-(intOf q).toNat)
 case atStart=>exact⟨0,zD _,rfl,zf _ _⟩
 case round=>
  obtain⟨k,H,rfl,b⟩:=hrel;have m:=G7 b;clear b
  by_cases hlt:k<n
  ·have j:k<A.length:=by rw[D.o];exact hlt
   obtain⟨Q,rfl,y⟩:=o.o k _ (zn j);obtain⟨R,rfl,z⟩:=p.o k _ (zn j);have L:=zi m.o y;have M:=zi m.o z;obtain⟨x,l⟩:=Nm (A[k]);rw[l]at L M;have S:(0:Int)<=(k:Int):=qd _;have T:(k:Int)<(n:Int):=by omega
   have d:(x.toList==x.toList)=true:=by simp
   have d2:(x.toList != x.toList)=false:=by simp
   clear y z l o p;go_wp2_with fail
   go_quiet (fail)
   go_wp2;go_roundw
   case rel=>exact⟨k+1,by omega,by go_num,below_drewN m.o nq⟩
   case measure=>simp[intOf];omega
  clear o p;go_wp2;go_ret;exact⟨rfl,m.o⟩
theorem KV(c:Int)(n:Nat)(w:J)(a:I64 c)(h:0<n)(g:n<=1000000000):R8 11 #[R9 c,R9 (n:Int)] w λe b=>e=.returned (.int .i64 (Kp.kM c n:Int))/\b=w:=by
 obtain⟨d,f⟩:=a
 by_cases h0:c<0
 ·have e:=G7 (zcb c n h0);go_enter func11,ntmps11;go_wp2;go_ret;exact⟨by rw[<- e.o];rfl,rfl⟩
 have e:=G7 (zcc c n (by omega));go_enter func11,ntmps11;go_wp2;go_ret;exact⟨by rw[<- e.o];rfl,rfl⟩
def JS(M:Nat->Prop)(W:J)(v:Y)(z:BY):Prop:=
 ∃a n c,v=TL a n c/\n<=1000000000/\∀j,j<n->∃b,a=some (G8 b 0)/\¬M b/\W.cell? (G8 b j)=some (S9 z)
def Y7(M:Nat->Prop)(W:J)(v:Y)(z:BY):Prop:=
 ∃a c,∃b:Nat->Y,v=TL (some (G8 a 0)) 4 c/\¬M a/\∀k,k<4->W.cell? (G8 a k)=some (b k)/\JS M W (b k) z
def Vx(M:Nat->Prop)(W:J)(a:Y)(m:Nat):Prop:=
 ∃b,W.ownsRow 0 66 1 a m b/\∀(i:Nat) (v:Y),b[i]?=some v->Y7 M W v (Vj i)
theorem JS.turn{M:Nat->Prop}{W W':J}{v:Y}{z:BY}(h:JS M W v z)(k:zx M W W'):JS M W' v z:=by
 obtain⟨a,n,c,e,l,f⟩:=h;exact⟨a,n,c,e,l,λj i=>by obtain⟨d,e,b,g⟩:=f j i;exact⟨d,e,b,k.cell b g⟩⟩
theorem Y7.turn{M:Nat->Prop}{W W':J}{v:Y}{z:BY}(h:Y7 M W v z)(k:zx M W W'):Y7 M W' v z:=by
 obtain⟨f,c,g,e,d,a⟩:=h;exact⟨f,c,g,e,d,λj b=>⟨k.cell d (a j b).1,(a j b).2.turn k⟩⟩
theorem JS.more{M M':Nat->Prop}{W:J}{v:Y}{z:BY}(h:JS M W v z)(k:∀b,M' b->M b\/W.heap.size<=b):JS M' W v z:=by
 obtain⟨a,n,c,e,o,i⟩:=h;refine⟨a,n,c,e,o,λj l=>?_⟩;obtain⟨d,e,m,g⟩:=i j l;have p:d<W.heap.size:=Qj _ _ g;exact⟨d,e,λf=>(k d f).elim m (λx=>by omega),g⟩
theorem Y7.more{M M':Nat->Prop}{W:J}{v:Y}{z:BY}(h:Y7 M W v z)(g:∀b,M' b->M b\/W.heap.size<=b):Y7 M' W v z:=by
 obtain⟨a,c,l,e,k,d⟩:=h;have m:a<W.heap.size:=Qj _ _ (d 0 (by omega)).1;exact⟨a,c,l,e,λf=>(g a f).elim k (λx=>by omega),λj i=>⟨(d j i).1,(d j i).2.more g⟩⟩
theorem zfO(M:Nat->Prop)(w:J)(N m:Nat)(t:Y)(hc:w.cell? (G8 N 1)=some t)(h:Vx M w t m)(P:m<=1000000000):R8 6 #[RG N 1] w λe S=>e=.returned (.bool true)/\S=w:=by
 obtain⟨T,b,x⟩:=h;obtain⟨a,c,rfl⟩:=xe b
 have n:∀i,i<m->∃r v,a=some (G8 r 0)/\w.cell? (G8 r i)=some v/\Y7 M w v (Vj i):=by
  intro i y;have hl:=b.1
  rcases b.2 with⟨e,h0⟩|⟨r,cap,cur,e,_⟩
  ·omega
  have o:=World.ownsRow.cellAt (g:=r) (cap:=cap) (by rw[<- e];exact b) i (by omega);injection e with e1 C e3
  have K:=zn (l:=T) (i:=i) (by omega);exact⟨r,_,e1,o.trans K,x i _ K⟩
 have I:=λi (y:i<=m) W=>Cv i W (xD y P);have⟨H,G⟩:=D5 n I;clear n b x I;go_enter func6,ntmps6;go_wp2
 go_loopw [3,4,5,6] (λD _ _ _ wr=>∃i:Nat,i<=m/\D=R9 i/\wr=w) (λD _ _ _ _=>m-(intOf D).toNat)
 case atStart=>exact⟨0,zD _,rfl,rfl⟩
 case round=>
  obtain⟨i,y,rfl,f⟩:=hrel;rw[f];clear f
  by_cases hlt:i<m
  ·obtain⟨r,v,rfl,q0,gi,lc,vs,rfl,_,q⟩:=H.o i hlt;have p:=G.o i y;obtain⟨z,L⟩:=Nm (Vj i);simp only[L]at p q;have⟨B,O⟩:=D5 p q;have i0:(0:Int)<=(i:Int):=qd _;have i1:(i:Int)<(m:Int):=by omega
   clear p q L H G;go_wp2_with(go_at_call 23;apply(B.o _).mono;rintro e w2⟨rfl,C⟩;rw[C];clear C)
   go_loopw [5,6] (λF _ wr=>∃k:Nat,k<=4/\F=R9 k/\wr=w) (λF _ _=>4-(intOf F).toNat)
   case atStart=>exact⟨0,zD _,rfl,rfl⟩
   case round=>
    obtain⟨k,hk,rfl,f⟩:=hrel;rw[f];clear f
    by_cases hlk:k<4
    ·obtain⟨R,V,A,c2,u,Q,o⟩:=O.o k hlk;rw[u]at R;have s:=G7 o;have k0:(0:Int)<=(k:Int):=qd _;have k1:(k:Int)<4:=by omega
     clear o u;go_wp2_with fail
     go_loopw [6] (λE wr=>∃j:Nat,j<=A/\E=R9 j/\wr=w) (λE _=>A-(intOf E).toNat)
     case atStart=>exact⟨0,zD _,rfl,rfl⟩
     case round=>
      obtain⟨j,hj,rfl,f⟩:=hrel;rw[f];clear f
      by_cases hlj:j<A
      ·obtain⟨X,rfl,_,q2⟩:=s.o j hlj;have j0:(0:Int)<=(j:Int):=qd _;have j1:(j:Int)<(A:Int):=by omega
       have d:(z.toList==z.toList)=true:=by simp
       have d2:(z.toList != z.toList)=false:=by simp
       clear s;go_wp2_with fail;go_roundw
       case rel=>exact⟨j+1,by omega,by go_num,by trivial⟩
       case measure=>simp[intOf];omega
      go_wp2_with fail;go_roundw
      case rel=>exact⟨k+1,by omega,by go_num,by trivial⟩
      case measure=>simp[intOf];omega
    go_wp2_with fail;go_roundw
    case rel=>exact⟨i+1,by omega,by go_num,by trivial⟩
    case measure=>simp[intOf];omega
  go_wp2_with fail;go_ret;exact⟨rfl,rfl⟩
theorem gZ(w:J)(A:TypeId)(base:Nat)(v:Y)(n:Nat)(xs:List Y)(b:w.ownsRow base 9 1 v n xs)(s:Addr)(m c:Nat)(a:List Y)(N:a.length=m)(h:∀j u,a[j]?=some u->w.cell? (s.add j)=some u)(E:∀u ∈ a,u.oneCell'=true)(O:0<m)(M:n+m<=2000000000)(p:base<=w.heap.size):∃r o,(Builtin.append_ #[57,57] A #[v,TL (some s) m c]).run prog w=.ok r o/\o.ownsRow base 9 1 r (n+m) (xs++a)/\o.ownsRow base 9 1 v n xs/\w.grownBy o v.ownBlock /\
   ((∃g d,v=TL (some (G8 g 0)) n d/\r=TL (some (G8 g 0)) (n+m) d/\n+m<=d)\/(BQ w o/\∃D,r.ownBlock=some D/\w.heap.size<=D)):=by
 obtain⟨z,B,t,i,x⟩:=qU UE;obtain⟨r,o,C,F,y,L,G⟩:=run_append_own_at (P:=prog) w base 57 A 9 z R5 1 16 underlying57 B t i x rfl (by decide) v n xs b s m c a (by omega) h E (by unfold maxLen;omega) (by omega) p;refine⟨r,o,C,F,?_⟩;have K:=b.1
 rcases b.2 with⟨rfl,h0⟩|⟨g,d,cur,rfl,hbg,hg,hnc,hcm,hcs,htake⟩
 ·have f:BQ w o:=(zf _ w).grown y F7 (λk H=>by cases H);refine⟨ownsRow_below b f,y,.inr ⟨f,?_⟩⟩
  rcases G with e|e
  ·rcases F.2 with⟨e2,h02⟩|⟨g2,cap2,cur2,e2,hb2,_⟩
   ·omega
   rw[e2]at e;simp[Value.ownBlock]at e
  exact⟨_,e,ze _⟩
 by_cases hroom:n+m<=d
 ·have l:=run_append_room (P:=prog) w 57 A 9 z underlying57 B g n d cur hg s m c a (by rw[i];omega) h E hroom (by rw[i];omega);rw[C]at l;injection l with e1 e2
  refine⟨⟨K,.inr ⟨g,d,_,rfl,hbg,by rw[e2];exact setRow_heap w g cur _ _ _ hg,hnc,hcm,?_,?_⟩⟩,y,.inl ⟨g,d,rfl,e1,hroom⟩⟩
  ·simp only[List.size_toArray,qE,jg,ve,Array.length_toList,i];omega
  have I:(cur.toList.take (n*z.size))=xs:=by rw[i];exact htake
  rw[I];simp only[fZ];rw[show n*1=xs.length by omega];exact aU
 have q:∀j u,xs[j]?=some u->w.cell? (((G8 g 0):Addr).add j)=some u:=b.cells (g:=g) rfl;have l:=run_append_grow (P:=prog) w 57 A 9 z R5 underlying57 B t (G8 g 0) n d xs (by rw[i];omega) q s m c a (by rw[i];omega) h (by omega) (by omega) (growslice_fits (by omega) (by rw[x];omega));rw[C]at l;injection l with e1 e2
 have f:BQ w o:=by
  rw[e2];exact((zf _ w).drew).alloc F7 _
 exact⟨ownsRow_below b f,y,.inr ⟨f,w.heap.size,by rw[e1];rfl,ze _⟩⟩
theorem nz{N:Nat->Prop}{W W':J}{base:Nat}{e:TypeId}{size:Nat}{v:Y}{n:Nat}{xs:List Y}(h:W.ownsRow base e size v n xs)(k:zx N W W')(c:∀g,v.ownBlock=some g->¬N g):W'.ownsRow base e size v n xs:=by
 obtain⟨b,a⟩:=h;refine⟨b,?_⟩
 rcases a with a|⟨g,cap,cur,hv,hg,hh,h3⟩
 ·exact .inl a
 exact .inr ⟨g,cap,cur,hv,hg,(k.block g (zt hh) (c g (by rw[hv];rfl))).trans hh,h3⟩
def Sh(N:Nat->Prop)(W:J)(v:Y)(n:Nat):Prop:=
 ∃a c,v=TL a n c/\(0<n->∃g b,a=some (G8 g 0)/\N g/\W.heap[g]?=some (.cells b 9 (0,0))/\n<=b.size)
theorem Sh.of{W:J}{base:Nat}{v:Y}{n:Nat}{xs:List Y}(h:W.ownsRow base 9 1 v n xs){N:Nat->Prop}(a:∀g,v.ownBlock=some g->N g):Sh N W v n:=by
 rcases h.2 with⟨rfl,h0⟩|⟨g,cap,cur,rfl,_,hg,hnc,_,hcs,_⟩
 ·exact⟨none,0,by rw[h0],λe=>by omega⟩
 exact⟨_,_,rfl,λ_=>⟨g,cur,rfl,a g rfl,hg,by omega⟩⟩
theorem Sh.below{N:Nat->Prop}{W W':J}{v:Y}{n:Nat}(h:Sh N W v n)(j:BQ W W'):Sh N W' v n:=by
 obtain⟨a,c,e,h⟩:=h;refine⟨a,c,e,λi=>?_⟩;obtain⟨g,b,f,l,d,k⟩:=h i;exact⟨g,b,f,l,(j.block g (zt d)).trans d,k⟩
theorem Sh.grown{N:Nat->Prop}{W W':J}{v:Y}{n:Nat}(h:Sh N W v n){r:Option Nat}(k:W.grownBy W' r)(d:∀g,v.ownBlock=some g->some g≠r):Sh N W' v n:=by
 obtain⟨a,c,e,h⟩:=h;refine⟨a,c,e,λj=>?_⟩;obtain⟨g,b,f,m,i,l⟩:=h j;exact⟨g,b,f,m,(k.block g (zt i) (d g (by rw[e,f];rfl))).trans i,l⟩
theorem Sh.set{N:Nat->Prop}{W:J}{v:Y}{n:Nat}(h:Sh N W v n)(f j:Nat)(u:Y):Sh N (W.setCell (G8 f j) u) v n:=by
 obtain⟨a,c,e,h⟩:=h;refine⟨a,c,e,λm=>?_⟩;obtain⟨g,b,d,l,i,k⟩:=h m
 by_cases eg:g=f
 ·subst eg;exact⟨g,_,d,l,yC W g j _ _ u i,by simp;exact k⟩
 exact⟨g,b,d,l,(qy _ _ _ _ eg).trans i,k⟩
structure Wrote (N:Nat->Prop) (W4 wr:J) (vs:Nat->Y) (ns:Nat->Nat) (z:BY) (K Jqq:Nat):Prop where
 turn:zx N W4 wr
 sh:∀k,k<4->Sh N wr (vs k) (ns k)
 done:∀k j,k<4->j<ns k->(k<K\/(k=K/\j<Jqq))->∃g,(vs k).ownBlock=some g/\wr.cell? (G8 g j)=some (S9 z)
theorem Wrote.start{N:Nat->Prop}{W:J}{a:Nat->Y}{ns:Nat->Nat}{z:BY}(h:∀k,k<4->Sh N W (a k) (ns k)):Wrote N W W a ns z 0 0:=
 ⟨zx.refl _ _,h,λk j _ _ e=>by omega⟩
theorem Wrote.row{N:Nat->Prop}{b wr:J}{c:Nat->Y}{ns:Nat->Nat}{z:BY}{K a:Nat}(h:Wrote N b wr c ns z K a)(g:ns K<=a):Wrote N b wr c ns z (K+1) 0:=
 ⟨h.turn,h.sh,λk j f d e=>h.done k j f d (by
  rcases e with e|⟨_,e⟩
  ·by_cases ek:k=K
   ·subst ek;exact .inr ⟨rfl,by omega⟩
   exact .inl (by omega)
  omega)⟩
theorem tN(W:J)(g j b c:Nat)(z:BY)(d:Array Y)(t:TypeId)(f:W.heap[g]?=some (.cells d t (0,0)))(k:j<d.size)(a:W.cell? (G8 b c)=some (S9 z)\/(b=g/\c=j)):(W.setCell (G8 g j) (S9 z)).cell? (G8 b c)=some (S9 z):=by
 by_cases eg:b=g
 ·subst eg;have h:=(zg (yC W b j _ _ (S9 z) f) c).1;rw[h,Array.getElem?_setIfInBounds]
  by_cases ej:j=c
  ·rw[zb ej,N9]
  rw[za ej]
  rcases a with a|⟨_,e⟩
  ·rw[<- a,(zg f c).1]
  exact absurd e.symm ej
 rcases a with a|⟨e,_⟩
 ·have i:=qy W (G8 g j) (S9 z) b (by exact eg);unfold World.cell? at a |-;rw[i];exact a
 exact absurd e eg
theorem Wrote.next{N:Nat->Prop}{l wr:J}{i:Nat->Y}{ns:Nat->Nat}{z:BY}{K a:Nat}(h:Wrote N l wr i ns z K a)(t:K<4)(s:a<ns K){g:Nat}{b:Array Y}(n:wr.heap[g]?=some (.cells b 9 (0,0)))(o:a<b.size)(r:(i K).ownBlock=some g)(p:N g):Wrote N l (wr.setCell (G8 g a) (S9 z)) i ns z K (a+1):=by
 refine⟨h.turn.trans (zx.set wr p a _),λk d=>(h.sh k d).set g a _,λk j d c e=>?_⟩
 by_cases e2:k=K/\j=a
 ·obtain⟨rfl,rfl⟩:=e2;exact⟨g,r,tN wr g j g j z b _ n o (.inr ⟨rfl,rfl⟩)⟩
 obtain⟨m,f,q⟩:=h.done k j d c (by omega);exact⟨m,f,tN wr g a m j z b _ n o (.inl q)⟩
def rJ(M:Nat->Prop)(f:J)(h m:Nat)(d c:Y)(e:Ending)(w':J):Prop:=
 ∃a r,e=.returned r/\zx (λb=>b=h\/c.ownBlock=some b) f w'/\w'.heap[h]?=some (L8 #[d,a] 32)/\Vx (jW M a) w' a (m+1)/\(∀g,a.ownBlock=some g->c.ownBlock=some g\/f.heap.size<=g)
theorem Tf:(prog.info? 66).map (λi=>(i.zero,i.size,i.bytes))=some (some R4,1,24):=by kernel_rfl
theorem oo{f w' c:J}{base:Nat}{v d:Y}{n m:Nat}{xs p:List Y}(o:w'.ownsRow base 9 1 d (n+m) p)(l:c.ownsRow base 9 1 v n xs)
  (k:(∃g a,v=TL (some (G8 g 0)) n a/\d=TL (some (G8 g 0)) (n+m) a/\n+m<=a)\/(BQ f w'/\∃h,d.ownBlock=some h/\f.heap.size<=h))(i:w'.grownBy c v.ownBlock)(j:∀g,v.ownBlock=some g->g<f.heap.size):Sh (λg=>base<=g/\g<c.heap.size) c d (n+m):=by
 rcases k with⟨g,a,rfl,rfl,hr⟩|⟨_,h,e',hg'⟩
 ·rcases l.2 with⟨e,_⟩|⟨g2,cap2,cur,e,hbg,b,hnc,hcm,hcs,_⟩
  ·cases e
  cases e
  exact⟨_,_,rfl,λ_=>⟨g,cur,rfl,⟨hbg,zt b⟩,b,by omega⟩⟩
 refine(Sh.of o (N:=λg=>base<=g/\g<c.heap.size) (λg b=>?_)).grown i (λg b e=>?_)
 ·rcases o.2 with⟨rfl,_⟩|⟨g2,cap2,cur,rfl,hbg,hg2,_⟩
  ·cases b
  have:g2=g:=by simpa [Value.ownBlock] using b
  subst this;exact⟨hbg,xO (zt hg2) i.size⟩
 have:=j g e.symm
 rw[b]at e';injection e' with e'
 omega
theorem zdL{a:J}{base:Nat}{v:Y}{n:Nat}{xs:List Y}(c:a.ownsRow base 9 1 v n xs):Sh (λg=>base<=g/\g<a.heap.size) a v n:=
 Sh.of c (λg b=>by
  rcases c.2 with⟨rfl,_⟩|⟨g2,cap2,cur,rfl,hbg,hg2,_⟩
  ·cases b
  have:g2=g:=by simpa [Value.ownBlock] using b
  subst this;exact⟨hbg,zt hg2⟩)
theorem zbU{w:J}{base:Nat}{t:TypeId}{v:Y}{n:Nat}{xs:List Y}(h:w.ownsRow base t 1 v n xs):∀g,v.ownBlock=some g->g<w.heap.size/\base<=g:=λg a=>by
 rcases h.2 with⟨rfl,_⟩|⟨g2,cap2,cur,rfl,hbg,hg2,_⟩
 ·cases a
 have:g2=g:=by simpa [Value.ownBlock] using a
 subst this;exact⟨zt hg2,hbg⟩
def four(a b c d:Y)(k:Nat):Y:=if k=0 then a else if k=1 then b else if k=2 then c else d
theorem zfj(M:Nat->Prop)(p w:J)(q m:Nat)(f3 T l:Y)(a8:List BY)(V:∀b,M b->b<p.heap.size)(y:M q)(d:p.heap[q]?=some (L8 #[f3,T] 32))(i5:Vx M p T m)(b3:∀g,T.ownBlock=some g->M g/\g≠q)(h0:BQ p w)(hl:zJ w p.heap.size l a8)(hn:a8.length<=1000)(hm:m<=100000000):R8 21 #[RG q 1,l] w (rJ M p q m f3 T):=by
 obtain⟨i1,hj,j5,j6,j7⟩:=qU Tf;obtain⟨ys,o,a7⟩:=i5;obtain⟨ba,bc,rfl⟩:=xe o;have C:=(h0.block q (V q y)).trans d;have c1:=(zg C 1).1;simp at c1;have cm:=λW=>Cv m W (by omega);obtain⟨z,hz⟩:=Nm (Vj m);simp only[hz]at cm;have⟨CM,HZ⟩:=D5 cm hz;obtain⟨n,e8⟩:=Nm a8.length;have a6:w.ownsRow p.heap.size 9 1 l n (a8.map Value.string):=by rw[<- e8];exact hl
 rw[e8]at hn;obtain⟨la,lc,i9⟩:=xe a6;have q7:=h0.size;have A1:=gZ (w.alloc (L8 #[S9 z] 9)) 57 p.heap.size l n _ (a6.alloc _) (G8 w.heap.size 0) 1 1 [S9 z] rfl (uQ _ _ _) (by simp[Value.oneCell']) (by omega) (by omega) (by simp;omega);obtain⟨v1,w1,r1,o1,l1,g1,k1⟩:=A1;have z1:w.heap.size+1<=w1.heap.size:=by have:=g1.size;simpa using this
 have A2:=gZ (w1.alloc (L8 #[S9 z,S9 z] 9)) 57 p.heap.size l n _ (l1.alloc _) (G8 w1.heap.size 0) 2 2 [S9 z,S9 z] rfl (uQ _ _ _) (by simp[Value.oneCell']) (by omega) (by omega) (by simp;omega);obtain⟨v2,w2,r2,o2,l2,g2,k2⟩:=A2;have z2:w1.heap.size+1<=w2.heap.size:=by have:=g2.size;simpa using this
 have A3:=gZ (w2.alloc (L8 #[S9 z,S9 z,S9 z] 9)) 57 p.heap.size l n _ (l2.alloc _) (G8 w2.heap.size 0) 3 3 [S9 z,S9 z,S9 z] rfl (uQ _ _ _) (by simp[Value.oneCell']) (by omega) (by omega) (by simp;omega);obtain⟨v3,s,r3,o3,l3,g3,k3⟩:=A3;have z3:w2.heap.size+1<=s.heap.size:=by have:=g3.size;simpa using this
 have D:=zbU a6;have c4:w1.grownBy s l.ownBlock:=((yG w1 _ _).trans g2).trans ((yG w2 _ _).trans g3);have G3:w2.grownBy s l.ownBlock:=(yG w2 _ _).trans g3;have S1:=oo o1 l3 k1 c4 (λg A=>by have:=D g A;simp;omega);have S2:=oo o2 l3 k2 G3 (λg A=>by have:=D g A;simp;omega);have S3:=oo o3 l3 k3 ⟨rfl,rfl,rfl,ze _,λ_ _ _=>rfl⟩ (λg A=>by have:=D g A;simp;omega);have S0:=zdL l3;have b8:BQ p s:=(((((h0.alloc (by omega) _).grown g1 (by simp;omega) (λk r=>(D k r).2)).alloc (by omega) _).grown g2 (by simp;omega) (λk r=>(D k r).2)).alloc (by omega) _).grown g3 (by simp;omega) (λk r=>(D k r).2);obtain⟨a1,p5,e1⟩:=xe o1;obtain⟨a2,p6,e2⟩:=xe o2;obtain⟨a3,p7,e3⟩:=xe o3;obtain⟨N,hN⟩:∃N,N=λg=>p.heap.size<=g/\g<s.heap.size:=⟨_,rfl⟩;rw[<- hN]at S0 S1 S2 S3;obtain⟨W4,a0⟩:=Nm (s.alloc (L8 #[l,v1,v2,v3] 57));have F:BQ s W4:=by rw[<- a0];exact nbl s _
 have O:W4.heap[s.heap.size]?=some (L8 #[l,v1,v2,v3] 57):=by rw[<- a0];exact zA s _
 have b9:∀k,k<4->Sh N W4 (four l v1 v2 v3 k) (n+k):=λk r=>by
  rcases (show k=0\/k=1\/k=2\/k=3 by omega) with rfl|rfl|rfl|rfl
  ·exact S0.below F
  ·exact S1.below F
  ·exact S2.below F
  exact S3.below F
 have d9:∀k,k<4->(#[l,v1,v2,v3]:Array Y)[k]?=some (four l v1 v2 v3 k):=λk r=>by
  rcases (show k=0\/k=1\/k=2\/k=3 by omega) with rfl|rfl|rfl|rfl<;>rfl
 have d8:BQ p W4:=b8.trans (F.mono (b8.size));have b0:¬N s.heap.size:=by rw[hN];exact λh=>by omega
 have L:∀wr K d2,Wrote N W4 wr (four l v1 v2 v3) (λk=>n+k) z K d2->∀k,k<4->wr.cell? (G8 s.heap.size k)=some (four l v1 v2 v3 k):=λwr K d2 h k r=>by
  rw[(zg ((h.turn.block _ (zt O) b0).trans O) k).1];exact d9 k r
 have c9:=G7 (Wrote.start (z:=z) (ns:=λk=>n+k) b9);obtain⟨vs,e9⟩:=Nm (four l v1 v2 v3);rw[e9]at c9 L b9;have⟨c7,HN,c6,d1⟩:=M5 L hN d8 a0;have HB:=G7 (ZH o a7);have HW:=G7 b3;have HH:=G7 (ZH V (ZH y d));have⟨p2,R1,R2,R3⟩:=M5 O r1 r2 r3;have k6:G6 (0=0):=G7 rfl;have k7:G6 (0=0):=G7 rfl;have k8:G6 (0=0):=G7 rfl;have l8:s.heap.size<W4.heap.size:=zt O;clear cm hz r1 r2 r3 o1 o2 o3 l1 l2 l3 g1 g2 g3 k1 k2 k3 o a7 b3 a6 hl V y d O a0 d8 hN L b9 d9 e9 b0 F b8 S0 S1 S2 S3 c4 G3 D C;subst i9;subst e1;subst e2;subst e3;go_enter func21,ntmps21
 go_upto_region 1 with(go_at_call 23;apply(CM.o _).mono;rintro e wm⟨rfl,em⟩;rw[em];clear em)
 go_wp2_with(first
  | (at_builtin;clear k6;refine rq _ rfl _ _ _ _ rfl _ _ rfl rfl _ _ R1.o ?_)
  | (at_builtin;clear k7;refine rq _ rfl _ _ _ _ rfl _ _ rfl rfl _ _ R2.o ?_)
  | (at_builtin;clear k8;refine rq _ rfl _ _ _ _ rfl _ _ rfl rfl _ _ R3.o ?_))
 rw[d1.o];clear d1 R1 R2 R3
 go_loopw [6,7] (λkv _ wr=>∃k:Nat,k<=4/\kv=R9 k/\Wrote N W4 wr vs (λk=>n+k) z k 0) (λkv _ _=>4-(intOf kv).toNat)
 case atStart=>exact⟨0,zD _,rfl,c9.o⟩
 case round=>
  obtain⟨k,r,rfl,t⟩:=hrel;have t:=G7 t;obtain⟨R,rfl⟩:∃x,x=wr:=⟨_,rfl⟩
  by_cases hlk:k<4
  ·have k0:(0:Int)<=(k:Int):=qd _;have k1:(k:Int)<4:=by omega
   have j3:n+k<=2000:=by omega
   have HK:=G7 hlk;go_wp2_with fail
   go_loopw [7] (λjv wr=>∃j:Nat,j<=n+k/\jv=R9 j/\Wrote N W4 wr vs (λk=>n+k) z k j) (λjv _=>n+k-(intOf jv).toNat)
   case atStart=>exact⟨0,zD _,rfl,t.o⟩
   case round=>
    obtain⟨j,hj,rfl,E⟩:=hrel;obtain⟨a,c,H,G⟩:=E.sh k HK.o;have q1:=c7.o wr k j E k HK.o;rw[H]at q1;have⟨HV,E⟩:=D5 H E;obtain⟨nk,P⟩:=Nm (n+k);have S:=G7 P;simp only[P]at q1 G hj j3;clear H P
    by_cases hlj:j<nk
    ·obtain⟨g,b7,rfl,X,A,q4⟩:=G (by omega);have e6:j<b7.size:=by omega
     have q2:=(zg A j).1;have f2:=(zg A j).2;rw[pK e6]at q2;obtain⟨u,hu⟩:=Nm (b7[j]);rw[hu]at q2;have HG:=G7 A;have j0:(0:Int)<=(j:Int):=qd _;have j1:(j:Int)<(nk:Int):=by omega
     clear A G hu;go_wp2_with fail;go_roundw
     case rel=>exact⟨j+1,by have:=S.o;omega,by go_num,E.o.next HK.o (by rw[S.o];exact hlj) HG.o e6 (by rw[HV.o];rfl) X⟩
     case measure=>have:=S.o;simp[intOf];omega
    clear G;go_wp2_with fail;go_roundw
    case rel=>exact⟨k+1,by have:=HK.o;omega,by go_num,E.o.row (by rw[S.o];omega)⟩
    case measure=>have:=HK.o;simp[intOf];omega
  have i8:k=4:=by omega
  subst i8;obtain⟨V,y,d⟩:=HH.o;have f0:=V q y;have I:BQ p R:=c6.o.trans (t.o.turn.below (λk r=>by rw[HN.o];exact λh=>by omega) (c6.o.size));have C:=(I.block q f0).trans d;have c2:=(zg C 1).1;have f2:=(zg C 1).2;simp at c2;have BR:=G7 (ownsRow_below HB.o.1 I);have⟨g4,g6⟩:=D5 I C;have q3:=I.size;have j4:s.heap.size<R.heap.size:=xO l8 t.o.turn.size;clear I C V y d;go_wp2_with (at_builtin;refine Yp _ rfl _ _ 28 rfl 0 66 i1 R4 1 24 underlying28 hj j5 j6 j7 rfl (by decide) (TL ba m bc) m ys rfl (World.ownsRow.alloc BR.o _) (G8 R.heap.size 0) 1 1 [TL (some (G8 s.heap.size 0)) 4 4] rfl rfl (uQ _ _ _) (by simp[Value.oneCell']) (by unfold maxLen;omega) (by omega) I4 ?_;intro v5 w5 Q B _ d4;obtain⟨a5,c5,e5⟩:=xe Q;subst e5;have a4:=(B.block q (by simp;omega) (λe=>(HW.o q e.symm).2 rfl)).trans (((nbl R _).block q (by omega)).trans g6.o);have q5:=(zg a4 1).1;have f5:=(zg a4 1).2;simp at q5;have⟨d3,f,g0,g5⟩:=M5 Q B d4 a4;clear Q B d4 a4)
  go_end0
  obtain⟨V,y,d⟩:=HH.o;obtain⟨o,a7⟩:=HB.o;have L:=c7.o R 4 0 t.o;have i2:=HN.o;have i3:=HZ.o;obtain⟨W,hW⟩:=Nm (w5.setCell (G8 q 1) (TL a5 (m+1) c5));rw[hW]
  have tS:zx (λb=>b=q\/(Value.slice ba m bc).ownBlock=some b) R W:=by
   rw[<- hW];exact((zx.of (nbl R _)).trans ⟨f.o.os,f.o.tape,f.o.output,f.o.size,λk r j2=>f.o.block k r (λe=>j2 (.inr e.symm))⟩).trans (zx.set w5 (.inl rfl) 1 _)
  have tA:zx (λb=>b=q\/(Value.slice ba m bc).ownBlock=some b) p W:=(zx.of g4.o).trans tS
  have h5:∀g,(Value.slice a5 (m+1) c5).ownBlock=some g->(Value.slice ba m bc).ownBlock=some g\/R.heap.size<=g:=λg A=>by
   rcases g0.o with e|e
   ·exact .inl (by rw[<- e];exact A)
   rw[A]at e;injection e with e
   exact .inr (by rw[e];simp)
  have b2:∀b,jW M (TL a5 (m+1) c5) b->M b\/R.heap.size<=b:=λb hb=>hb.elim .inl (λe=>(h5 b e).imp (λe=>(HW.o b e).1) id)
  have b1:∀g,p.heap.size<=g->g<R.heap.size->¬jW M (TL a5 (m+1) c5) g/\¬(g=q\/(Value.slice ba m bc).ownBlock=some g):=λg h1 h2=>
   ⟨λh=>by
    rcases b2 g h with h|h
    ·have:=V g h;omega
    ·omega,λh=>by
    rcases h with h|h
    ·omega
    have:=V g (HW.o g h).1;omega⟩
  have e7:ys.length=m:=by have:=o.1;omega
  refine⟨_,_,rfl,tA,?_,⟨ys++[TL (some (G8 s.heap.size 0)) 4 4],?_,?_⟩,λg A=>(h5 g A).imp id (λe=>by omega)⟩
  ·rw[<- hW];exact yC w5 q 1 _ _ _ g5.o
  ·rw[<- hW]
   exact xz d3.o (a:=G8 q 1) (λe=>by
    rcases h5 q e with e|e
    ·exact(HW.o q e).2 rfl
    omega) _
  intro i v H
  by_cases hi:i<m
  ·rw[P9]at H
   exact((a7 i v H).more (λb hb=>(b2 b hb).imp id (λe=>by omega))).turn (tA.wide (λk _ e => .inl (by
    rcases e with e|e
    ·rw[e];exact y
    exact(HW.o k e).1)))
  have i7:i=m:=by
   have:=(zU.1 H).1
   simp at this;omega
  subst i7;rw[P8,e7]at H;simp at H;subst H;have e0:=b1 s.heap.size (by omega) j4;refine⟨_,_,vs,rfl,e0.1,λk r=>⟨tS.cell e0.2 (L k r),?_⟩⟩;obtain⟨a,c,H,G⟩:=t.o.sh k r;refine⟨a,n+k,c,H,by omega,λj hj=>?_⟩;obtain⟨g,b7,ea,X,A,_⟩:=G (by omega);obtain⟨g',eg,i6⟩:=t.o.done k j r hj (.inl r)
  have e2:g'=g:=by
   rw[H,ea]at eg
   simpa [Value.ownBlock] using eg.symm
  subst e2;rw[i2]at X;have hf:=b1 g' X.1 (by omega);exact⟨g',ea,hf.1,by rw[i3];exact tS.cell hf.2 i6⟩
end Go.Proofs.YtfjpcldndaiifaaGreatDoor
