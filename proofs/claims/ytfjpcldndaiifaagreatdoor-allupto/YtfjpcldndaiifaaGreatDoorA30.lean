/- P -/
import Derived.Test.YtfjpcldndaiifaaGreatDoorA20
import Derived.Test.YtfjpcldndaiifaaGreatDoorA29
open Go.Proofs.Tryz
set_option maxRecDepth 100000
set_option maxHeartbeats 8000000
namespace Go.Proofs.YtfjpcldndaiifaaGreatDoor
open Go.RowKit
theorem iy(a b:List UInt8):∀(k:Nat),k<=a.length->k<=b.length->a.take k=b.take k->Lib.compareBytes a b=Lib.compareBytes (a.drop k) (b.drop k)
 | 0,_,_,_=>rfl
 | k+1,ha,hb,h=>by
  match a,b,ha,hb with
  | x::a,y::b,ha,hb=>
   simp only[List.take_succ_cons,List.cons.injEq]at h;obtain⟨rfl,h⟩:=h;have c:=iy a b k (by simpa using ha) (by simpa using hb) h;rw[List.drop_succ_cons,List.drop_succ_cons,<- c,Lib.compareBytes,za (gT x),za (gT x)]
theorem zaj(a b:BY)(k:Nat)(m:k<a.size)(n:k<b.size)(h:a.data.toList.take k=b.data.toList.take k)(l:a[k].toNat≠b[k].toNat):decide (qI a b<0)=decide (a[k].toNat<b[k].toNat):=by
 unfold qI;have o:a.data.toList.length=a.size:=by simp
 have p:b.data.toList.length=b.size:=by simp
 have f:k<a.data.toList.length:=by omega
 have g:k<b.data.toList.length:=by omega
 rw[iy _ _ k (by omega) (by omega) h,jD f,jD g];have i:a.data.toList[k]'f=a[k]:=rfl;have j:b.data.toList[k]'g=b[k]:=rfl;rw[i,j,Lib.compareBytes]
 by_cases c:a[k]<b[k]
 ·have e:a[k].toNat<b[k].toNat:=c;rw[zb c,zB e];rfl
 have e:¬a[k].toNat<b[k].toNat:=c;have d:b[k]<a[k]:=by show b[k].toNat<a[k].toNat;omega
 rw[za c,zb d,zI e];rfl
theorem zak(a b:BY)(k:Nat)(g:k<=a.size)(i:k<=b.size)(h:a.data.toList.take k=b.data.toList.take k)(j:k=a.size\/k=b.size):decide (qI a b<0)=decide (a.size<b.size):=by
 unfold qI;have e:a.data.toList.length=a.size:=by simp
 have f:b.data.toList.length=b.size:=by simp
 rw[iy _ _ k (by omega) (by omega) h];have c:(a.data.toList.drop k).length=a.size-k:=by rw[ve,e]
 have d:(b.data.toList.drop k).length=b.size-k:=by rw[ve,f]
 generalize a.data.toList.drop k=x at c;generalize b.data.toList.drop k=y at d
 match x,y,c,d with
 | [],[],c,d=>
  have:¬a.size<b.size:=by simp at c d;omega
  rw[zI this];rfl
 | [],_::_,c,d=>
  have:a.size<b.size:=by simp at c d;omega
  rw[zB this];rfl
 | _::_,[],c,d=>
  have:¬a.size<b.size:=by simp at c d;omega
  rw[zI this];rfl
 | _::_,_::_,c,d=>simp at c d;omega
theorem zfb(a b:BY)(k:Nat)(i:k<a.size)(j:k<b.size)(h:a.data.toList.take k=b.data.toList.take k)(g:a[k].toNat=b[k].toNat):a.data.toList.take (k+1)=b.data.toList.take (k+1):=by
 have l:a.data.toList.length=a.size:=by simp
 have m:b.data.toList.length=b.size:=by simp
 have c:k<a.data.toList.length:=by omega
 have d:k<b.data.toList.length:=by omega
 rw[Q9 c,Q9 d,h];have e:a.data.toList[k]'c=a[k]:=rfl;have f:b.data.toList[k]'d=b[k]:=rfl;rw[e,f,bn.1 g]
theorem Ch(a b:BY)(w:J)(B:a.size<=maxLen):R8 74 #[S9 a,S9 b] w (G5 (.bool (decide (qI a b<0))) w):=by
 have v:=zaj a b;have x:=zak a b;have y:=zfb a b;unfold maxLen at B;have⟨i,j,l⟩:=M4 v x y;clear v x y;go_enter func74,ntmps74;go_wp2
 go_loopw [5] (λt wr=>∃k:Nat,k<=a.size/\k<=b.size/\t=R9 k/\a.data.toList.take k=b.data.toList.take k/\BQ w wr) (λt _=>a.size-(intOf t).toNat)
 case atStart=>exact⟨0,zD _,zD _,rfl,rfl,zf _ _⟩
 case round=>
  obtain⟨k,r,s,rfl,f,c⟩:=hrel;have⟨n,m⟩:=D5 f c;clear f c
  by_cases hlt:k<a.size/\k<b.size
  ·obtain⟨g,h⟩:=hlt;have D:(0:Int)<=(k:Int):=qd _;have E:(k:Int)<(a.size:Int):=by omega
   have F:(k:Int)<(b.size:Int):=by omega
   have p:=i.o k g h n.o;have q:=l.o k g h n.o
   by_cases hne:a[k].toNat=b[k].toNat
   ·have o:=G7 (q hne);have d:((a[k].toNat:Int)==(b[k].toNat:Int))=true:=by simp[hne]
    have d2:((a[k].toNat:Int) != (b[k].toNat:Int))=false:=by simp[hne]
    clear p q i j l hne;go_wp2_with fail
    go_quiet (fail)
    go_wp2;go_roundw
    case rel=>exact⟨k+1,by omega,by omega,by go_num,o.o,below_drewN m.o nq⟩
    case measure=>simp[intOf];omega
   have o:=G7 (p hne);have d:((a[k].toNat:Int)==(b[k].toNat:Int))=false:=by simp;omega
   have d2:((a[k].toNat:Int) != (b[k].toNat:Int))=true:=by simp;omega
   clear p q i j l;go_wp2_with fail
   go_quiet (fail)
   go_wp2_with fail
   go_quiet (fail)
   go_wp2;go_ret;exact⟨by rw[o.o];rfl,below_drewN (below_drewN m.o _) _⟩
  have z:=j.o k r s n.o (by omega);have u:=G7 z;clear z i j l n
  by_cases g:k<a.size
  ·have A:decide ((k:Int)<(b.size:Int))=false:=by simp;omega
   go_wp2_with fail;go_ret;exact⟨by rw[u.o];simp,m.o⟩
  have A:decide ((k:Int)<(a.size:Int))=false:=by simp;omega
  go_wp2_with fail;go_ret;exact⟨by rw[u.o];simp,m.o⟩
theorem mP(l:Int)(name:BY)(w:J)(f:name.size<=maxLen):R8 36 #[R9 l,S9 name] w λe g=>e=.returned (.int .i64 (qN l name))/\g=w:=by
 have c2:=λW=>dx name W f;unfold qN vL;obtain⟨b,a⟩:=Nm (U.ql name);simp only[a]at c2;simp only[a];have d:=G7 c2;clear c2 a
 by_cases h1:l<0
 ·have d1:decide (0<=l)=false:=by simp;omega
  rw[d1];go_enter func36,ntmps36;go_wp2_with fail;go_ret;exact⟨rfl,rfl⟩
 have d1:decide (0<=l)=true:=by simp;omega
 by_cases h2:4<=l
 ·have d2:decide (l<4)=false:=by simp;omega
  rw[d1,d2];go_enter func36,ntmps36;go_wp2_with fail;go_ret;exact⟨rfl,rfl⟩
 have d2:decide (l<4)=true:=by simp;omega
 rw[d1,d2]
 cases b
 all_goals
  go_enter func36,ntmps36;go_wp2_with(go_at_call 70;apply(d.o _).mono;rintro e h⟨rfl,c⟩;rw[c];clear c);go_ret;exact⟨rfl,rfl⟩
def vU(M:Nat->Prop)(W:J)(c:Y)(d:List Z.qi):Prop:=
 ∃base a,jh a base c d/\a.heap.size<=W.heap.size/\∀b,base<=b->b<a.heap.size->¬M b/\W.heap[b]?=a.heap[b]?
theorem vU.at{M:Nat->Prop}{W:J}{a:Y}{c:List Z.qi}(h:vU M W a c):∃base,jh W base a c:=by
 obtain⟨base,i,d,_,e⟩:=h;exact⟨base,d.kept (λb f g=>(e b f g).2)⟩
theorem vU.turn{M:Nat->Prop}{W W':J}{e:Y}{g:List Z.qi}(h:vU M W e g)(k:zx M W W'):vU M W' e g:=by
 obtain⟨base,i,j,f,c⟩:=h;exact⟨base,i,j,xD f k.size,λb d a=>⟨(c b d a).1,(k.block b (xO a f) (c b d a).1).trans (c b d a).2⟩⟩
theorem vU.of{M:Nat->Prop}{W:J}{a:Y}{c:List Z.qi}{base:Nat}(h:jh W base a c)(d:∀b,M b->b<base):vU M W a c:=
 ⟨base,W,h,ze _,λb f _=>⟨λe=>absurd (d b e) (by omega),rfl⟩⟩
theorem vU.more{M M':Nat->Prop}{W:J}{a:Y}{f:List Z.qi}(h:vU M W a f)(k:∀b,M' b->M b\/W.heap.size<=b):vU M' W a f:=by
 obtain⟨base,g,i,j,c⟩:=h;refine⟨base,g,i,j,λb d e=>⟨λl=>?_,(c b d e).2⟩⟩
 rcases k b l with h|h
 ·exact(c b d e).1 h
 omega
structure zy where
 layer:Int
 name:BY
 rs:List Z.qi
def xV(M:Nat->Prop)(W:J)(xs:List Y)(d:List zy):Prop:=
 xs.length=d.length*3/\∀(k:Nat) (x:zy),d[k]?=some x->∃a c b,xs[k*3]?=some (R9 x.layer)/\xs[k*3+1]?=some (S9 x.name)/\xs[k*3+2]?=some (TL a c b)/\vU M W (TL a c b) x.rs
theorem xV.turn{M:Nat->Prop}{W W':J}{xs:List Y}{L:List zy}(h:xV M W xs L)(k:zx M W W'):xV M W' xs L:=
 ⟨h.1,λj x i=>by obtain⟨a,c,b,d,e,f,g⟩:=h.2 j x i;exact⟨a,c,b,d,e,f,g.turn k⟩⟩
theorem xV.more{M M':Nat->Prop}{W:J}{xs:List Y}{L:List zy}(h:xV M W xs L)(k:∀b,M' b->M b\/W.heap.size<=b):xV M' W xs L:=
 ⟨h.1,λj x l=>by obtain⟨a,d,c,e,f,g,i⟩:=h.2 j x l;exact⟨a,d,c,e,f,g,i.more k⟩⟩
theorem xV.nil{M:Nat->Prop}{W:J}:xV M W [] []:=⟨rfl,λk x a=>by simp at a⟩
theorem xV.one{M:Nat->Prop}{W:J}{b:Option Addr}{d c:Nat}{x:zy}(h:vU M W (TL b d c) x.rs):xV M W [R9 x.layer,S9 x.name,TL b d c] [x]:=by
 refine⟨rfl,λk y a=>?_⟩
 match k,a with
 | 0,a=>
  simp only[jE,Option.some.injEq]at a;subst a;exact⟨b,d,c,rfl,rfl,rfl,h⟩
 | k+1,a=>simp at a
theorem xV.take{M:Nat->Prop}{W:J}{xs:List Y}{L:List zy}(h:xV M W xs L)(p:Nat):xV M W (xs.take (p*3)) (L.take p):=by
 refine⟨by rw[jg,jg,h.1];omega,λk x a=>?_⟩;rw[Qe]at a;split at a
 ·rename_i j;obtain⟨b,d,c,e,f,g,i⟩:=h.2 k x a;exact⟨b,d,c,by rw[Qe,N9];exact e,by rw[Qe,N9];exact f,by rw[Qe,N9];exact g,i⟩
 cases a
theorem xV.drop{M:Nat->Prop}{W:J}{xs:List Y}{L:List zy}(h:xV M W xs L)(p:Nat):xV M W (xs.drop (p*3)) (L.drop p):=by
 refine⟨by rw[ve,ve,h.1];omega,λk x a=>?_⟩;rw[Q6]at a;obtain⟨b,d,c,e,f,g,i⟩:=h.2 (p+k) x a;exact⟨b,d,c,by rw[Q6,show p*3+k*3=(p+k)*3 by omega];exact e,by rw[Q6,show p*3+(k*3+1)=(p+k)*3+1 by omega];exact f,by rw[Q6,show p*3+(k*3+2)=(p+k)*3+2 by omega];exact g,i⟩
theorem xV.app{M:Nat->Prop}{W:J}{xs l:List Y}{L N:List zy}(h:xV M W xs L)(g:xV M W l N):xV M W (xs++l) (L++N):=by
 refine⟨by rw[qE,qE,h.1,g.1];omega,λk x a=>?_⟩
 by_cases hk:k<L.length
 ·rw[yw hk]at a;obtain⟨b,d,c,e,f,i,j⟩:=h.2 k x a;exact⟨b,d,c,by rw[yw (by rw[h.1];omega)];exact e,by rw[yw (by rw[h.1];omega)];exact f,by rw[yw (by rw[h.1];omega)];exact i,j⟩
 rw[P8]at a;obtain⟨b,d,c,e,f,i,j⟩:=g.2 (k-L.length) x a;exact⟨b,d,c,by rw[yN (by rw[h.1];omega),h.1,show k*3-L.length*3=(k-L.length)*3 by omega];exact e,by rw[yN (by rw[h.1];omega),h.1,show k*3+1-L.length*3=(k-L.length)*3+1 by omega];exact f,by rw[yN (by rw[h.1];omega),h.1,show k*3+2-L.length*3=(k-L.length)*3+2 by omega];exact i,j⟩
structure xM (M:Nat->Prop) (W:J) (cb:Nat) (lv:Y) (ks:List zy):Prop where
 mine:M cb
 cell:W.heap[cb]?=some (L8 #[lv] 45)
 rows:∃xs,W.ownsRow 0 93 3 lv ks.length xs/\xV M W xs ks
 own:∀g,lv.ownBlock=some g->M g/\g≠cb
theorem xM.below{M:Nat->Prop}{W W':J}{cb:Nat}{c:Y}{b:List zy}(h:xM M W cb c b)(a:BQ W W'):xM M W' cb c b:=by
 obtain⟨f,d,e⟩:=h.rows;exact⟨h.mine,(a.block cb (zt h.cell)).trans h.cell,⟨f,ownsRow_below d a,e.turn (zx.of a)⟩,h.own⟩
theorem xM.cells{M:Nat->Prop}{W:J}{cb:Nat}{q:Y}{b:List zy}(h:xM M W cb q b):∃a c,q=TL a b.length c/\∀(k:Nat) (x:zy),b[k]?=some x->∃l d j f,a=some (G8 l 0)/\W.cell? (G8 l (k*3))=some (R9 x.layer)/\W.cell? (G8 l (k*3+1))=some (S9 x.name)/\W.cell? (G8 l (k*3+2))=some (TL d j f)/\vU M W (TL d j f) x.rs:=by
 obtain⟨w,o,v⟩:=h.rows
 rcases o.2 with⟨e,h0⟩|⟨g,cap,cur,e,_⟩
 ·have p:b=[]:=Y6.1 h0;subst p;exact⟨none,0,e,λk x m=>by simp at m⟩
 refine⟨some (G8 g 0),cap,e,λk x m=>?_⟩;have p:k<b.length:=(zU.1 m).1;obtain⟨d,j,f,r,s,t,u⟩:=v.2 k x m;have n:∀i,i<b.length*3->W.cell? (G8 g i)=w[i]?:=λi y=>World.ownsRow.cellAt (g:=g) (cap:=cap) (by rw[<- e];exact o) i (by omega);exact⟨g,d,j,f,rfl,by rw[n _ (by omega)];exact r,by rw[n _ (by omega)];exact s,by rw[n _ (by omega)];exact t,u⟩
def isR(l:Int)(name:BY)(x:zy):Bool:=(x.layer==l)&&(x.name.toList==name.toList)
def Vg(a:List zy)(l:Int)(name:BY):Int:=match a.findIdx? (isR l name) with
 | some k=>(k:Int)
 | none=>-1
theorem AX{α:Type}(p:α->Bool):∀(l:List α) (k:Nat) (x:α),l[k]?=some x->p x=true->(∀(j:Nat) (y:α),j<k->l[j]?=some y->p y=false)->l.findIdx? p=some k
 | [],_,_,h,_,_=>by simp at h
 | a::l,0,x,h,hp,_=>by
  simp only[jE,Option.some.injEq]at h;subst h;rw[List.findIdx?_cons,hp];rfl
 | a::l,k+1,x,h,hp,hn=>by
  have b:=hn 0 a (Nat.succ_pos _) rfl
  have:=AX p l k x (by simpa using h) hp (λj y d c=>hn (j+1) y (by omega) (by simpa using c))
  rw[List.findIdx?_cons,b,this];rfl
theorem PV{α:Type}(p:α->Bool)(l:List α)(h:∀(j:Nat) (y:α),l[j]?=some y->p y=false):l.findIdx? p=none:=by
 rw[gu];intro x b;obtain⟨j,a⟩:=Q8 b;exact h j x a
theorem cu(cb:Nat)(W:Y)(i:List zy)(l:Int)(name:BY)(M:Nat->Prop)(w:J)(h:xM M w cb W i)(S:i.length<=maxLen):R8 38 #[RG cb 0,R9 l,S9 name] w λe X=>e=.returned (.int .i64 (Vg i l name))/\X=w:=by
 obtain⟨a,c,rfl,b⟩:=h.cells;have O:=(zg h.cell 0).1;simp at O;obtain⟨n,r⟩:=Nm i.length;rw[r]at S O;unfold maxLen at S;have p:=AX (isR l name) i;have g:=PV (isR l name) i;obtain⟨R,o⟩:=Nm (Vg i l name);rw[o];unfold Vg at o;have m:=G7 o;clear o;have⟨E,N,F,G⟩:=M5 b r p g;clear b r p g h;go_enter func38,ntmps38;go_wp2
 go_loopw [7] (λK wr=>∃k:Nat,k<=n/\K=R9 k/\(∀(j:Nat) (y:zy),j<k->i[j]?=some y->isR l name y=false)/\wr=w) (λK _=>n-(intOf K).toNat)
 case atStart=>exact⟨0,zD _,rfl,λj y Q=>by omega,rfl⟩
 case round=>
  obtain⟨k,hk,rfl,v,z⟩:=hrel;rw[z];have f:=G7 v;clear z v
  by_cases hlt:k<n
  ·have I:k<i.length:=by rw[N.o];exact hlt
   have D:=zn I;obtain⟨gb,da,dn,dc,rfl,T,V,_,_⟩:=E.o k _ D;obtain⟨x,A⟩:=Nm (i[k]);rw[A]at T V D;have H:=G7 D;obtain⟨B,C,L⟩:=x;simp only at T V;have k0:(0:Int)<=(k:Int):=qd _;have k1:(k:Int)<(n:Int):=by omega
   have P:isR l name ⟨B,C,L⟩=((B==l)&&(C.toList==name.toList)):=rfl;have t:=G7 P;clear D A P E
   cases hb1:(B==l) with
   | false=>
    have q:G6 (isR l name ⟨B,C,L⟩=false):=G7 (by rw[t.o,hb1];rfl);clear t;go_wp2_with fail;go_roundw
    case rel=>
     refine⟨k+1,by omega,by go_num,λj y Q d=>?_,by trivial⟩
     by_cases hjk:j<k
     ·exact f.o j y hjk d
     have:j=k:=by omega
     subst this;rw[H.o]at d;injection d with d
     rw[<- d];exact q.o
    case measure=>simp[intOf];omega
   | true=>
    cases hb2:(C.toList==name.toList) with
    | false=>
     have q:G6 (isR l name ⟨B,C,L⟩=false):=G7 (by rw[t.o,hb1,hb2];rfl);clear t;go_wp2_with fail;go_roundw
     case rel=>
      refine⟨k+1,by omega,by go_num,λj y Q d=>?_,by trivial⟩
      by_cases hjk:j<k
      ·exact f.o j y hjk d
      have:j=k:=by omega
      subst this;rw[H.o]at d;injection d with d
      rw[<- d];exact q.o
     case measure=>simp[intOf];omega
    | true=>
     have u:=F.o k _ H.o (by rw[t.o,hb1,hb2];rfl) f.o;have s:=m.o;rw[u]at s;have q:G6 (R=(k:Int)):=G7 s.symm;clear t u F G f s m;go_wp2_with fail;go_ret;exact⟨by rw[q.o];rfl,rfl⟩
  have u:=G.o (λj y d=>f.o j y (by have:=(zU.1 d).1;rw[N.o]at this;omega) d);have s:=m.o;rw[u]at s;have q:G6 (R = -1):=G7 s.symm;clear u F G f E s m;go_wp2_with fail;go_ret;exact⟨by rw[q.o];rfl,rfl⟩
def nameAt(a:List zy)(i:Nat):BY:=match a[i]? with
 | some x=>x.name
 | none=>⟨#[]⟩
def KF(a:List zy)(l:Int)(i:Nat):Bool:=match a[i]? with
 | some x=>x.layer==l
 | none=>false
def Zd(a:List zy)(l:Int)(ts:List Bool)(i:Nat):Bool:=KF a l i && !(ts.getD i false)
def QF(a:List zy)(l:Int)(ts:List Bool):Nat->Option Nat
 | 0=>none
 | i+1=>if Zd a l ts i then (match QF a l ts i with
  | none=>some i
  | some b=>if qI (nameAt a i) (nameAt a b)<0 then some i else some b) else QF a l ts i
def U8:Option Nat->Int
 | none=>-1
 | some b=>(b:Int)
theorem U7(c:List zy)(l:Int)(ts:List Bool):∀n,(QF c l ts n=none->∀i,i<n->Zd c l ts i=false)/\(∀b,QF c l ts n=some b->b<n/\Zd c l ts b=true/\∀i,i<n->Zd c l ts i=true->¬qI (nameAt c i) (nameAt c b)<0)
 | 0=>⟨λ_ i d=>by omega,λb h=>by simp[QF]at h⟩
 | n+1=>by
  obtain⟨j,k⟩:=U7 c l ts n;rw[QF]
  cases hc:Zd c l ts n with
  | false=>
   simp only[yu,xX];refine⟨λh i d=>?_,λb h=>?_⟩
   ·by_cases e:i=n
    ·subst e;exact hc
    exact j h i (by omega)
   ·obtain⟨o,g,f⟩:=k b h;refine⟨by omega,g,λi d a=>?_⟩
    by_cases e:i=n
    ·subst e;rw[hc]at a;cases a
    ·exact f i (by omega) a
  | true=>
   simp only[qJ]
   cases hb:QF c l ts n with
   | none=>
    refine⟨(λh=>by cases h),λb h=>?_⟩;simp only[Option.some.injEq]at h;subst h;refine⟨by omega,hc,λi d a=>?_⟩
    by_cases e:i=n
    ·subst e;rw[Ji];omega
    ·rw[j hb i (by omega)]at a;cases a
   | some b0=>
    obtain⟨o,g,f⟩:=k b0 hb;simp only
    by_cases hlt:qI (nameAt c n) (nameAt c b0)<0
    ·rw[zb hlt];refine⟨(λh=>by cases h),λb h=>?_⟩;simp only[Option.some.injEq]at h;subst h;refine⟨by omega,hc,λi d a m=>?_⟩
     by_cases e:i=n
     ·subst e;rw[Ji]at m;omega
     exact f i (by omega) a (Kc m hlt)
    rw[za hlt];refine⟨(λh=>by cases h),λb h=>?_⟩;simp only[Option.some.injEq]at h;subst h;refine⟨by omega,g,λi d a=>?_⟩
    by_cases e:i=n
    ·subst e;exact hlt
    exact f i (by omega) a
def QT(a:List zy)(b:List Nat):List zy:=b.filterMap λp=>a[p]?
structure Taken (ks:List zy) (l:Int) (ps:List Nat) (ts:List Bool):Prop where
 len:ts.length=ks.length
 nodup:ps.Nodup
 mem:∀i,i<ks.length->(ts.getD i false=true↔i ∈ ps)
 ok:∀p ∈ ps,p<ks.length/\KF ks l p=true
 sorted:ps.Pairwise λa b=>¬qI (nameAt ks b) (nameAt ks a)<0
 ahead:∀p ∈ ps,∀i,i<ks.length->Zd ks l ts i=true->¬qI (nameAt ks i) (nameAt ks p)<0
theorem Taken.start(b:List zy)(l:Int):Taken b l [] (List.replicate b.length false):=
 ⟨by simp,List.nodup_nil,λi c=>by simp[List.getD_eq_getElem?_getD,c],λp a=>by simp at a,fV,λp a=>by simp at a⟩
theorem LM{c:List zy}{l:Int}{ts:List Bool}{b i:Nat}(h:Zd c l (ts.set b true) i=true):Zd c l ts i=true/\i≠b\/Zd c l ts i=true/\ts.length<=b:=by
 unfold Zd at h |-;rw[jX]at h |-;obtain⟨d,a⟩:=h;rw[zT,zu]at a
 by_cases e:b=i
 ·subst e
  by_cases hb:b<ts.length
  ·rw[zb rfl,zb hb]at a;simp at a
  exact .inr ⟨⟨d,by rw[zT,aK (by omega)];rfl⟩,by omega⟩
 rw[za e]at a;exact .inl ⟨⟨d,by rw[zT];exact a⟩,λx=>e x.symm⟩
theorem Taken.next{f:List zy}{l:Int}{n:List Nat}{ts:List Bool}(h:Taken f l n ts){b:Nat}(q:QF f l ts f.length=some b):Taken f l (n++[b]) (ts.set b true):=by
 obtain⟨k,c,o⟩:=(U7 f l ts f.length).2 b q
 have g:b ∉ n:=by
  intro s
  have:=(h.mem b k).2 s
  unfold Zd at c;rw[this]at c;simp at c
 refine⟨by rw[ZL];exact h.len,?_,λi d=>?_,λp a=>?_,?_,λp a i d r=>?_⟩
 ·rw[List.nodup_append];exact⟨h.nodup,by simp,λx m y j=>by simp at j;subst j;intro e;subst e;exact g m⟩
 ·rw[zT,zu]
  by_cases e:b=i
  ·subst e;rw[zb rfl,zb (by rw[h.len];exact d)]
   simp
  rw[za e,<- zT,h.mem i d];simp only[vg,yx];exact⟨λx => .inl x,λx=>x.elim id (λy=>absurd y.symm e)⟩
 ·rcases vg.1 a with a|a
  ·exact h.ok p a
  rw[yx]at a;subst a;refine⟨k,?_⟩;unfold Zd at c;rw[jX]at c;exact c.1
 ·rw[rE];refine⟨h.sorted,by simp,λx m y j=>?_⟩;rw[yx]at j;subst j;exact h.ahead x m y k c
 rcases LM r with⟨hc1,_⟩|⟨hc1,_⟩
 ·rcases vg.1 a with a|a
  ·exact h.ahead p a i d hc1
  rw[yx]at a;subst a;exact o i d hc1
 rcases vg.1 a with a|a
 ·exact h.ahead p a i d hc1
 rw[yx]at a;subst a;exact o i d hc1
theorem Taken.small{a:List zy}{l:Int}{b:List Nat}{ts:List Bool}(h:Taken a l b ts):b.length<=a.length:=by
 have:=h.nodup.length_le_of_subset (l₂:=List.range a.length) (λp c=>vk.2 (h.ok p c).1)
 simpa using this
theorem Taken.room{a:List zy}{l:Int}{c:List Nat}{ts:List Bool}(h:Taken a l c ts){b:Nat}(d:QF a l ts a.length=some b):c.length<a.length:=by
 have:=(h.next d).small
 rw[qE,kX]at this;omega
theorem Ea{b:List zy}{a:List Nat}(h:∀p ∈ a,p<b.length):(QT b a).length=a.length:=by
 unfold QT
 induction a with
 | nil=>rfl
 | cons p a d=>
  rw[List.filterMap_cons,zn (h p (by simp))];simp[d (λq c=>h q (by simp[c]))]
theorem zbT(a:List zy)(c:List Nat){b:Nat}{x:zy}(h:a[b]?=some x):QT a (c++[b])=QT a c++[x]:=by
 unfold QT;rw[List.filterMap_append];simp[h]
def VB(c:List zy)(l:Int)(out:List zy):Prop:=∃d:List Nat,d.Nodup/\(∀p,p ∈ d↔p<c.length/\KF c l p=true)/\(d.Pairwise λa b=>¬qI (nameAt c b) (nameAt c a)<0)/\out=QT c d
theorem Taken.done{a:List zy}{l:Int}{c:List Nat}{ts:List Bool}(h:Taken a l c ts)(e:QF a l ts a.length=none):VB a l (QT a c):=by
 have d:=(U7 a l ts a.length).1 e;refine⟨c,h.nodup,λp=>⟨λb=>h.ok p b,λ⟨b,f⟩=>?_⟩,h.sorted,rfl⟩
 have:=d p b
 unfold Zd at this;rw[f,jY]at this;exact(h.mem p b).1 (by simpa using this)
def mJ:Y->Nat
 | .slice _ n _=>n
 | _=>0
theorem Td:(prog.info? 4).map (λi=>(i.zero,i.size,i.bytes))=some (some T9,1,1):=by kernel_rfl
theorem di:(prog.info? 93).map (λi=>(i.zero,i.size,i.bytes))=some (some (.agg #[R9 0,R5,R4]),3,48):=by kernel_rfl
theorem mr{a:List zy}{l:Int}{i:Nat}{x:zy}(h:a[i]?=some x):KF a l i=(x.layer==l):=by unfold KF;rw[h]
theorem dM{a:List zy}{i:Nat}{x:zy}(h:a[i]?=some x):nameAt a i=x.name:=by unfold nameAt;rw[h]
structure VQ (M:Nat->Prop) (w wr:J) (tb n:Nat) (ks:List zy) (ps:List Nat) (ts:List Bool) (ov:Y):Prop where
 took:wr.ownsRow w.heap.size 4 1 (TL (some (G8 tb 0)) n n) n (ts.map Value.bool)
 o:∃xs,wr.ownsRow w.heap.size 93 3 ov ps.length xs/\xV M w xs (QT ks ps)
 bel:BQ w wr
theorem VQ.below{M:Nat->Prop}{w wr a:J}{f n:Nat}{c:List zy}{e:List Nat}{ts:List Bool}{d:Y}(h:VQ M w wr f n c e ts d)(b:BQ wr a):VQ M w a f n c e ts d:=by
 obtain⟨j,g,i⟩:=h.o;exact⟨ownsRow_below h.took b,⟨j,ownsRow_below g b,i⟩,h.bel.trans (b.mono h.bel.size)⟩
structure JN (A:J) where
 w:J
 b:BQ A w
theorem dh(cb:Nat)(lv:Y)(m:List zy)(l:Int)(M:Nat->Prop)(w:J)(h:xM M w cb lv m)(hn:m.length<=1000000000)(hN:∀x ∈ m,x.name.size<=maxLen)(hM:∀b,M b->b<w.heap.size):R8 39 #[RG cb 0,R9 l] w λe w'=>∃v xs c9,e=.returned v/\VB m l c9/\w'.ownsRow w.heap.size 93 3 v c9.length xs/\xV M w' xs c9/\BQ w w':=by
 obtain⟨i0,hi,i9,j0,j1⟩:=qU Td;obtain⟨i1,hj,i6,i7,i8⟩:=qU di;obtain⟨a,c,rfl,G⟩:=h.cells;have c0:=(zg h.cell 0).1;simp at c0;obtain⟨n,c8⟩:=Nm m.length;rw[c8]at hn c0;have⟨HC,HN,b9,HM⟩:=M5 G c8 hN hM;clear G c8 h hN hM;go_enter func39,ntmps39;go_wp2_with (at_make;refine JH _ rfl _ _ 178 rfl w.heap.size 4 i0 T9 1 underlying178 hi i9 j0 _ _ _ _ n rfl rfl ?_ ?_ ?_ ?_ ?_ ?_)
 ·omega
 ·omega
 ·rw[j1];omega
 ·unfold maxLen;omega
 ·omega
 intro w1 b6 N
 have g3:w1.ownsRow w.heap.size 4 1 (TL (some (G8 w.heap.size 0)) n n) n ((List.replicate n false).map Value.bool):=by
  rw[List.map_replicate,<- UG];exact b6
 have b4:BQ w w1:=(zf _ w).grown N F7 (λk hk=>by cases hk);have HS:G6 (VQ M w w1 w.heap.size n m [] (List.replicate n false) R4):=⟨g3,⟨[],qF _ _ _ _,xV.nil⟩,b4⟩;have HT:G6 (Taken m l [] (List.replicate n false)):=G7 (by rw[<- HN.o];exact Taken.start m l);clear b6 N g3 b4;go_wp2_with fail
 go_loopw [5,7,8,9] (λov _ _ _ wr=>∃F r,Taken m l F r/\VQ M w wr w.heap.size n m F r ov/\mJ ov=F.length) (λov _ _ _ _=>n-mJ ov)
 case atStart=>exact⟨[],List.replicate n false,HT.o,HS.o,rfl⟩
 case round=>
  obtain⟨F,r,s,f8,f4⟩:=hrel;obtain⟨wo,rfl⟩:∃x,x=wr:=⟨_,rfl⟩;have⟨u,c2⟩:=D5 s f8;clear s f8 HS HT;have e7:=λi=>(U7 m l r i).2;have a5:=G7 e7;obtain⟨BT,a7⟩:∃f:Nat->Option Nat,QF m l r=f:=⟨_,rfl⟩;have e4:BT 0=none:=by rw[<- a7];rfl
  have e5:∀i,BT (i+1)=if Zd m l r i then (match BT i with
   | none=>some i
   | some b=>if qI (nameAt m i) (nameAt m b)<0 then some i else some b) else BT i:=λi=>by subst a7;rfl
  have⟨d6,a4,a6⟩:=M4 e4 e5 a7;clear e4 e5 a7 e7;have h4:=G7 (zi c2.o.bel c0);go_wp2_with fail
  go_loopw [7,8,9] (λbv iv _ wi=>∃i:Nat,i<=n/\iv=R9 i/\bv=R9 (U8 (BT i))/\BQ wo wi) (λ_ iv _ _=>n-(intOf iv).toNat)
  case atStart=>exact⟨0,zD _,rfl,by rw[d6.o];rfl,zf _ _⟩
  case round=>
   obtain⟨i,m5,rfl,rfl,O⟩:=hrel;have H:=G7 O;have j:=G7 (c2.o.below O);have d0:=zi O h4.o;clear O d6
   by_cases hlt:i<n
   ·have f3:i<m.length:=by rw[HN.o];exact hlt
    have hx:=zn f3;obtain⟨gb,da,dn,dc,rfl,q0,q1,_,_⟩:=HC.o i _ hx;obtain⟨x,a2⟩:=Nm (m[i]);rw[a2]at q0 q1 hx;have p0:=zi j.o.bel q0;have p1:=zi j.o.bel q1;have W:i<r.length:=by rw[u.o.len];exact f3
    have t0:wr.cell? (G8 w.heap.size i)=some (.bool (r.getD i false)):=by
     rw[j.o.took.cellAt i (by omega),ui,zn W,zT,zn W];rfl
    have d:=a4.o i;have P:Zd m l r i=((x.layer==l) && !(r.getD i false)):=by unfold Zd;rw[mr hx]
    have T:=dM hx;rw[P]at d;obtain⟨tk,s⟩:=Nm (r.getD i false);rw[s]at t0 d;have k0:(0:Int)<=(i:Int):=qd _;have k1:(i:Int)<(n:Int):=by omega
    cases hb1:(x.layer==l) with
    | false=>
     rw[hb1]at d;have o:G6 (BT (i+1)=BT i):=G7 (by rw[d];rfl);have j3:(x.layer != l)=true:=by simp only[bne,hb1,aB]
     clear d P T a2 hx s q0 q1;go_wp2_with fail;go_roundw
     case rel=>exact⟨i+1,by omega,by go_num,by rw[o.o],H.o⟩
     case measure=>simp[intOf];omega
    | true=>
     have j3:(x.layer != l)=false:=by simp only[bne,hb1,aC]
     cases tk with
     | true=>
      rw[hb1]at d;have o:G6 (BT (i+1)=BT i):=G7 (by rw[d];rfl);clear d P T a2 hx s q0 q1;go_wp2_with fail;go_roundw
      case rel=>exact⟨i+1,by omega,by go_num,by rw[o.o],H.o⟩
      case measure=>simp[intOf];omega
     | false=>
      rw[hb1]at d;simp only[aB,JJ,qJ]at d
      cases hbi2:BT i with
      | none=>
       rw[hbi2]at d;have o:=G7 d;have A:U8 none = -1:=rfl;rw[A];clear d P T a2 hx s q0 q1;go_wp2_with fail;go_roundw
       case rel=>exact⟨i+1,by omega,by go_num,by rw[o.o];rfl,H.o⟩
       case measure=>simp[intOf];omega
      | some b=>
       rw[hbi2]at d;simp only at d;have a9:=a5.o i b (by rw[a6.o];exact hbi2);obtain⟨k7,c6,_⟩:=a9;have i4:b<m.length:=by omega
       have hy:=zn i4;obtain⟨m0,l5,l7,l6,e2,_,r1,_,_⟩:=HC.o b _ hy;injection e2 with e2
       injection e2 with e2
       subst e2;obtain⟨y,a3⟩:=Nm (m[b]);rw[a3]at r1 hy;have p2:=zi j.o.bel r1;rw[T,dM hy]at d
       have HQ:G6 (∀X:JN wr,R8 74 #[S9 x.name,S9 y.name] X.w λe d2=>e=.returned (.bool (decide (qI x.name y.name<0)))/\∃h9:JN wr,d2=h9.w):=
        G7 (λX=>(Ch x.name y.name X.w (b9.o x (xC hx))).mono (λe d2 ⟨he,hb⟩=>⟨he,⟨d2,X.b.trans (hb.mono X.b.size)⟩,rfl⟩))
       have A:U8 (some b)=(b:Int):=rfl;rw[A];have k2:(0:Int)<=(b:Int):=qd _;have k3:(b:Int)<(n:Int):=by omega
       obtain⟨xn,g1⟩:=Nm x.name;obtain⟨yn,g2⟩:=Nm y.name;rw[g1]at p1 HQ d;rw[g2]at p2 HQ d;have o:=G7 d;clear d P T a2 hx s q0 q1 r1 hy a3 c6 g1 g2 a5 a4
       go_upto_region 10 with fail
       have f0:∀X:JN wr,X.w.cell? (G8 cb 0)=some (TL (some (G8 gb 0)) n c):=λX=>zi X.b d0;have f1:∀X:JN wr,X.w.cell? (G8 gb (i*3+1))=some (S9 xn):=λX=>zi X.b p1;have f2:∀X:JN wr,X.w.cell? (G8 gb (b*3+1))=some (S9 yn):=λX=>zi X.b p2;have NE:Nonempty (JN wr):=⟨⟨wr,zf _ _⟩⟩;refine pI (C:=λW'=>∃X:JN wr,W'=X.w) (by kernel_rfl) (by kernel_rfl) ⟨⟨_,(zf _ wr).drew⟩,rfl⟩ ?_;simp only
       repeat (go_big_quiet_step (fail))
       go_big_quiet_step (exact HQ.o _)
       repeat (go_big_quiet_step (fail))
       refine wpQuiet_nil ?_;intro w' i5;obtain⟨X,rfl⟩:=i5;have e8:=H.o.trans (X.b.mono H.o.size);have d7:=G7 e8;clear e8
       by_cases hls:qI xn yn<0
       ·have dl:decide (qI xn yn<0)=true:=zB hls;have d:=o.o;rw[zb hls]at d;have L:=G7 d;clear d o;rw[dl];go_wp2_with fail;go_roundw
        case rel=>exact⟨i+1,by omega,by go_num,by rw[L.o];rfl,d7.o⟩
        case measure=>simp[intOf];omega
       have dl:decide (qI xn yn<0)=false:=zI hls;have d:=o.o;rw[za hls]at d;have L:=G7 d;clear d o;rw[dl];go_wp2_with fail;go_roundw
       case rel=>exact⟨i+1,by omega,by go_num,by rw[L.o];rfl,d7.o⟩
       case measure=>simp[intOf];omega
   have e9:i=n:=by omega
   subst e9;have b0:=a6.o
   cases hb:BT i with
   | none=>
    have R:=u.o.done (by rw[HN.o,b0];exact hb);have A:U8 none = -1:=rfl;rw[A];have h5:=G7 R;obtain⟨xs,q,a1⟩:=j.o.o;have f7:(QT m F).length=F.length:=Ea (λp hp=>(u.o.ok p hp).1);rw[<- f7]at q;have⟨h6,c3⟩:=D5 q a1;have K:=G7 j.o.bel;clear R q a1 f7 b0 a6 a5 a4 HC HM b9;go_wp2_with fail;go_ret;exact⟨_,xs,QT m F,rfl,h5.o,h6.o,c3.o.turn (zx.of K.o),K.o⟩
   | some b=>
    have a8:QF m l r m.length=some b:=by rw[HN.o,b0];exact hb
    obtain⟨I,c6,_⟩:=(U7 m l r m.length).2 b a8;have S:=u.o.next a8;have E:=u.o.room a8;have hy:=zn I;obtain⟨gb,da,dn,dc,rfl,r0,r1,r2,Q⟩:=HC.o b _ hy;obtain⟨y,a3⟩:=Nm (m[b]);rw[a3]at r0 r1 hy Q;have A:U8 (some b)=(b:Int):=rfl;rw[A];have W:b<r.length:=by rw[u.o.len];exact I
    have u0:=(j.o.took.cellAt b (by rw[HN.o]at I;omega));rw[ui,zn W]at u0;have u1:=j.o.took.frozenAt b;have f9:=(j.o.took.stored b L6).1;obtain⟨xs,q,a1⟩:=j.o.o;have V:=YU j.o.took q (by decide) ((j.o.took.stored b L6).2);have n0:=j.o.bel.size;have e6:=j.o.bel.setCell (p:=G8 w.heap.size b) F7 L6;have e0:=zi j.o.bel r0;have e1:=zi j.o.bel r1;have e2:=zi j.o.bel r2;have m3:gb<w.heap.size:=Qj _ _ r0;have m1:cb<w.heap.size:=Qj _ _ c0;have b3:=a1.app (xV.one (x:=y) Q);rw[<- zbT m F hy]at b3;obtain⟨yl,yn,yr⟩:=y;simp only at e0 e1 e2 b3;simp only[Ja]at u0;have⟨o,e3,c1,c3,K⟩:=M6 S f9 V b3 e6;obtain⟨tv,g0⟩:=Nm (r[b]);rw[g0]at u0;have f6:(r.map Value.bool).set b L6=(r.set b true).map Value.bool:=by rw[List.map_set]
    rw[f6]at e3;have n1:gb≠w.heap.size:=by omega
    have n2:cb≠w.heap.size:=by omega
    have n3:w.heap.size≠gb:=by omega
    have n4:w.heap.size≠cb:=by omega
    have O:b<i:=by rw[HN.o]at I;exact I
    have k2:(0:Int)<=(b:Int):=qd _;have k3:(b:Int)<(i:Int):=by omega
    have m9:F.length<i:=by rw[HN.o]at E;exact E
    clear S f9 V b3 e6 q a1 f6 g0 E I c6 a8 b0 a3 hy r0 r1 r2 Q a5 a4 a6 HC b9 HM j H c2 u W;go_wp2_with (at_builtin;refine yh _ rfl _ _ 43 rfl w.heap.size 93 i1 (.agg #[R9 0,R5,R4]) 3 48 underlying43 hj i6 i7 i8 rfl (by decide) _ F.length xs rfl (World.ownsRow.alloc c1.o _) (G8 wr.heap.size 0) 1 1 [R9 yl,S9 yn,TL da dn dc] rfl rfl ?_ ?_ ?_ ?_ ?_ ?_)
    ·exact⟨rfl,rfl,rfl⟩
    ·unfold maxLen;omega
    ·omega
    ·omega
    intro v' w3 D B _;have hA:=World.ownsRow.alloc c1.o (L8 #[R9 yl,S9 yn,TL da dn dc] 93);have hB:=World.ownsRow.alloc e3.o (L8 #[R9 yl,S9 yn,TL da dn dc] 93);have a0:=YU hA hB (by decide) B;have b5:BQ w w3:=(K.o.alloc K.o.size _).grown B (by simp;omega) (λk hk=>(World.ownsRow.lt c1.o k hk).1);have c7:(F++[b]).length=F.length+1:=by simp
    have h8:G6 (VQ M w w3 w.heap.size i m (F++[b]) (r.set b true) v'):=⟨a0,⟨_,by rw[c7];exact D,c3.o⟩,b5⟩
    have f5:mJ v'=(F++[b]).length:=by
     rcases D.2 with⟨rfl,h0⟩|⟨g,cap,cur,rfl,_⟩
     ·omega
     rw[c7];rfl
    have d9:=G7 f5;clear hA hB a0 b5 D B f5 c7;go_wp2_with fail;go_roundw
    case rel=>exact⟨F++[b],r.set b true,o.o,h8.o,d9.o⟩
    case measure=>rw[d9.o,f4];simp;omega
end Go.Proofs.YtfjpcldndaiifaaGreatDoor
