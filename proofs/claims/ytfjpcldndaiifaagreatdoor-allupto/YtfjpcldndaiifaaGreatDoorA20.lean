/- P -/
import Derived.Test.YtfjpcldndaiifaaGreatDoorA19
open Go.Proofs.Tryz
set_option maxRecDepth 100000
set_option maxHeartbeats 4000000
namespace Go.Proofs.YtfjpcldndaiifaaGreatDoor
def Yt(c:qj):Prop:=(U.xR c.op=true/\c.vals=[])\/(U.xR c.op=false/\U.ZU c.op c.vals=true/\(U.xE c.op=true->∀v ∈ c.vals,U.qD v=true))
structure JM (s:zS):Prop where
 who:∀p ∈ s.who.2,U.qD p=true
 act:∀p ∈ s.act.2,U.qD p=true
 on:∀p ∈ s.on.2,U.qD p=true
 ifs:∀c ∈ s.ifs,Yt c
theorem MU(v:Z.V)(c:(Z.xQ v).sh=false)(e:(Z.xQ v).pt=false):Yt (toS (Z.xQ v)):=by
 match v with
 | .str s=>exact absurd c (by simp[Z.xQ,U.yR])
 | .word b=>exact absurd c (by simp[Z.xQ,U.yR])
 | .list l=>exact absurd c (by simp[Z.xQ,U.yR])
 | .obj f=>
  obtain⟨R,a⟩:=Nm (Z.xQ (.obj f));rw[a]at c e |-;simp only[Z.xQ,Z.Jj]at a
  cases h1:Z.opV (Z.zm f U.bOp) with
  | none=>rw[h1]at a;subst a;simp[U.yR]at c
  | some op=>
   rw[h1]at a
   cases h2:Z.opV (Z.zm f U.zL) with
   | none=>rw[h2]at a;subst a;simp[U.yR]at c
   | some key=>
    rw[h2]at a;simp only at a
    by_cases ca:U.xR op=true
    ·rw[zb ca]at a;subst a;exact .inl ⟨ca,rfl⟩
    rw[za ca]at a;subst a;simp only[pO,fJ]at c;refine .inr ⟨Bool.eq_false_iff.2 ca,c.1.1.2.2,λg v h=>?_⟩;have d:U.xE op=true:=g;simp only[d,jY,fJ]at e;exact Zq.1 e v h
theorem iC{c:Bool×Option (List BY)}(h:Z.chP c=false):∀p ∈ (Z.chD c).2,U.qD p=true:=by
 unfold Z.chP at h;rw[fJ]at h;exact λp a=>Zq.1 h p a
theorem Nk(x:Option Z.V)(a:(Z.x8 x).sh=false)(e:(Z.x8 x).pt=false):∀c ∈ (Z.x8 x).cs.map toS,Yt c:=by
 intro c d
 match x with
 | none=>simp[Z.x8]at d
 | some (.str s)=>simp[Z.x8]at a
 | some (.word b)=>simp[Z.x8]at a
 | some (.obj ms)=>simp[Z.x8]at a
 | some (.list vs)=>
  simp only[Z.x8]at a e d
  by_cases c5:5<vs.length
  ·rw[zb c5]at a;simp at a
  rw[za c5]at a e d;simp only[XP,VG,Function.comp]at a e;simp only[kY,xI,Function.comp]at d;obtain⟨v,f,rfl⟩:=d;exact MU v (by simpa using a v f) (by simpa using e v f)
theorem zeA(v:Z.V)(a:(Z.yD v).sh=false)(c:(Z.yD v).pt=false):JM (vQ (Z.yD v)):=by
 match v with
 | .str s=>exact absurd a (by simp[Z.yD,Z.vN])
 | .word b=>exact absurd a (by simp[Z.yD,Z.vN])
 | .list l=>exact absurd a (by simp[Z.yD,Z.vN])
 | .obj j=>
  simp only[Z.yD,Z.JC]at a c |-;split at a
  ·rename_i eff d e;rw[d,e]at c;simp only[Z.YO,pO]at a c;obtain⟨⟨⟨f,g⟩,h⟩,i⟩:=c;exact⟨iC f,iC g,iC h,Nk _ a.2 i⟩
  simp[Z.vN]at a
theorem Ra(s:BY)(h:(Z.qC s).1=0):∀r ∈ yo s,JM (vQ r):=by
 unfold Z.qC at h;unfold yo
 by_cases h1:4000<s.size
 ·rw[zb h1]at h;simp at h
 rw[za h1]at h;rw[za h1]
 cases hm:Z.jB s.data.toList with
 | err e q=>intro r d;simp at d
 | ok v q=>
  rw[hm]at h;simp only at h |-
  match v with
  | .str t=>simp[Z.uO]at h
  | .word b=>simp[Z.uO]at h
  | .list l=>simp[Z.uO]at h
  | .obj f=>
   simp only[Z.uO]at h
   match hx:Z.zm f Z.jF with
   | none=>rw[hx]at h;simp at h
   | some (.str t)=>rw[hx]at h;simp at h
   | some (.word b)=>rw[hx]at h;simp at h
   | some (.obj f)=>rw[hx]at h;simp at h
   | some (.list vs)=>
    rw[hx]at h;simp only at h;have g:qM (stX (.obj f))=vs:=by simp[qM,stX,hx]
    rw[g]
    by_cases c:f.length≠1\/vs.length<1\/10<vs.length
    ·rw[zb c]at h;simp at h
    rw[za c]at h;intro r d;obtain⟨a,b⟩:=lu _ _ h r d;rw[xI]at d;obtain⟨v,g,rfl⟩:=d;exact zeA v a b
end Go.Proofs.YtfjpcldndaiifaaGreatDoor
namespace Go.Proofs.YtfjpcldndaiifaaGreatDoor
open Go.RowKit
abbrev StO:=Nat->List zH
def upd(a:StO)(i:Nat)(L:List zH):StO:=λj=>if j=i then L else a j
def XZ(a:List zS):Prop:=a.length<=10/\(∀s ∈ a,YC s)/\∀s ∈ a,JM s
def QA(L:List zH):Prop:=vv L/\L.length<=4/\∀x ∈ L,XZ x.2
theorem QA.less{L:List zH}(h:QA L)(p:Nat):QA (Qp L p):=
 ⟨h.1.less p,zai p h.2.1,λx a=>h.2.2 x (by
  unfold Qp at a
  rcases vg.1 a with a|a
  ·exact UT a
  exact aP a)⟩
theorem QA.with{L:List zH}(h:QA L){name:BY}{b:List zS}(c:(zq L name||decide (L.length<4))=true)(d:XZ b):QA (Zo L name b):=
 ⟨h.1.with name b,zfP h.2.1 c,λx a=>by
  unfold Zo at a
  rcases vg.1 a with a|a
  ·rcases vg.1 a with a|a
   ·exact h.2.2 x (UT a)
   rw[yx]at a;subst a;exact d
  exact h.2.2 x (aP a)⟩
structure yz (M:Nat->Prop) (W:J) (ob:Nat) (st:StO):Prop where
 mine:M ob
 row:∃vs:Nat->Y,W.heap[ob]?=some (L8 #[vs 0,vs 1,vs 2,vs 3] 71)/\∀i,i<4->xZ M W (vs i) (st i)
 good:∀i,i<4->QA (st i)
theorem lt4{i:Nat}(h:i<4):i=0\/i=1\/i=2\/i=3:=by omega
theorem yz.below{M:Nat->Prop}{W W':J}{a:Nat}{d:StO}(h:yz M W a d)(c:BQ W W'):yz M W' a d:=by
 obtain⟨g,b,e⟩:=h.row;exact⟨h.mine,⟨g,(c.block a (zt b)).trans b,λi f=>(e i f).turn (zx.of c)⟩,h.good⟩
theorem X7(a:Nat->Y){i:Nat}(h:i<4):(#[a 0,a 1,a 2,a 3]:Array Y)[i]?=some (a i):=by
 rcases lt4 h with rfl|rfl|rfl|rfl<;>rfl
theorem Ru(a:Nat->Y)(v:Y){i:Nat}(h:i<4):(#[a 0,a 1,a 2,a 3]:Array Y).setIfInBounds i v=#[if 0=i then v else a 0,if 1=i then v else a 1,if 2=i then v else a 2,if 3=i then v else a 3]:=by
 rcases lt4 h with rfl|rfl|rfl|rfl<;>rfl
theorem yz.set{M:Nat->Prop}{W:J}{a:Nat}{c:StO}(h:yz M W a c){i:Nat}(m:i<4){v:Y}{L:List zH}(n:xZ M W v L)(l:QA L):yz M (W.setCell (G8 a i) v) a (upd c i L):=by
 obtain⟨d,g,k⟩:=h.row;have f:=zx.set (M:=M) W h.mine i v;refine⟨h.mine,⟨λj=>if j=i then v else d j,?_,λj b=>?_⟩,λj b=>?_⟩
 ·have:=yC W a i _ _ v g
  rw[Ru d v m]at this;exact this
 ·show xZ M _ (if j=i then v else d j) (if j=i then L else c j)
  by_cases e:j=i
  ·rw[zb e,zb e];exact n.turn f
  rw[za e,za e];exact(k j b).turn f
 unfold upd
 by_cases e:j=i
 ·rw[zb e];exact l
 rw[za e];exact h.good j b
def Xl:StO:=λ_=>[]
theorem zbh(M:Nat->Prop)(w:J)(d:M w.heap.size):R8 7 #[] w λe b=>e=.returned (RG w.heap.size 0)/\BQ w b/\yz M b w.heap.size Xl:=by
 have a:yz M (w.alloc (L8 #[R4,R4,R4,R4] 71)) w.heap.size Xl:=
  ⟨d,⟨λ_ => TL none 0 0,zA w _,λi _=>Cc M _⟩,λi _=>⟨fV,by simp[Xl],λx f=>by simp[Xl]at f⟩⟩
 have c:=G7 a;clear a;go_enter func7,ntmps7;go_wp2;go_ret;exact⟨rfl,nbl w _,c.o⟩
def YI(a:StO)(l:Int)(name:BY):Int:=if qN l name=0 then (if zq (a l.toNat) name then 0 else 9) else qN l name
def YJ(a:StO)(l:Int)(name:BY):StO:=if qN l name=0/\zq (a l.toNat) name=true then upd a l.toNat (Qp (a l.toNat) (qQ (a l.toNat) name)) else a
theorem Uv{l:Int}{name:BY}(h:qN l name=0):∃i:Nat,l=(i:Int)/\i<4/\U.ql name=true:=by
 unfold qN at h
 cases h1:vL l with
 | false=>rw[h1]at h;simp at h
 | true=>
  rw[h1]at h
  cases h2:U.ql name with
  | false=>rw[h2]at h;simp at h
  | true=>
   unfold vL at h1;rw[jX,vJ,vJ]at h1;exact⟨l.toNat,by omega,by omega,rfl⟩
theorem OI(p:Nat)(k:StO)(l:Int)(name:BY)(M:Nat->Prop)(w:J)(h:yz M w p k)(G:∀b,M b->b<w.heap.size)(hs:name.size<=maxLen):R8 14 #[RG p 0,R9 l,S9 name] w λe K=>e=.returned (.int .i64 (YI k l name))/\zx (λb=>b=p) w K/\yz M K p (YJ k l name):=by
 have B:=nL l name w hs
 by_cases hpl:qN l name=0
 ·obtain⟨i,rfl,r,T⟩:=Uv hpl;have hA:YI k (i:Int) name=if zq (k i) name then 0 else 9:=by unfold YI;rw[zb hpl];rfl
  have hS:YJ k (i:Int) name=if zq (k i) name=true then upd k i (Qp (k i) (qQ (k i) name)) else k:=by
   unfold YJ;simp only[yE,hpl,QW]
  rw[hA,hS];rw[hpl]at B;have⟨L,u,HM⟩:=M4 B h G;have b0:p<w.heap.size:=G p h.mine
  have R:∀(W:J) (v:Y),yz M W p k->BQ w W->xZ M W v (k i)->R8 40 #[v,S9 name] W λe K=>∃v,e=.returned (.tuple #[v,.bool (zq (k i) name)])/\BQ W K/\(zq (k i) name=true->xZ M K v (Qp (k i) (qQ (k i) name))):=λW v hO H hl=>
   zfR (k i) v name M W hl (by have:=(hO.good i r).2.1;omega) ((hO.good i r).1.down name) (λb S=>xO (G b S) H.size)
  have hg:=(h.good i r);have z:=hg.less (qQ (k i) name);obtain⟨b,H⟩:=Nm (zq (k i) name);obtain⟨LN,s⟩:=Nm (Qp (k i) (qQ (k i) name));simp only[H,s]at R;simp only[H,s];rw[s]at z;clear hA hS;have⟨N,HG⟩:=D5 R z;have k0:(0:Int)<=(i:Int):=qd _;have k1:(i:Int)<4:=by omega
  clear B R hg z hpl H s G T
  cases b with
  | false=>
   simp only[yu,xX];go_enter func14,ntmps14
   go_upto_region 4 with(go_at_call 32;apply L.o.mono;rintro e D⟨rfl,y⟩;have f:=G7 y;clear y)
   obtain⟨t,j,g⟩:=(u.o.below f.o).row;have O:D.cell? (G8 p i)=some (t i):=(zg j i).1.trans (X7 t r);obtain⟨la,ln,lc,C⟩:∃a n c,t i=TL a n c:=by obtain⟨a,c,e,_⟩:=g i r;exact⟨a,_,c,e⟩
   have m:=g i r;rw[C]at O m;have P:=G7 (N.o D _ (u.o.below f.o) f.o m);clear j g C m N;go_wp2_with(go_at_call 40;apply P.o.mono;rintro e X⟨v,rfl,A,_⟩;have q:=G7 (f.o.trans (A.mono f.o.size));clear A);go_ret;exact⟨rfl,zx.of q.o,u.o.below q.o⟩
  | true=>
   simp only[qJ];go_enter func14,ntmps14
   go_upto_region 4 with(go_at_call 32;apply L.o.mono;rintro e D⟨rfl,y⟩;have f:=G7 y;clear y)
   obtain⟨t,j,g⟩:=(u.o.below f.o).row;have O:D.cell? (G8 p i)=some (t i):=(zg j i).1.trans (X7 t r);obtain⟨la,ln,lc,C⟩:∃a n c,t i=TL a n c:=by obtain⟨a,c,e,_⟩:=g i r;exact⟨a,_,c,e⟩
   have m:=g i r;have Q:=G7 j;rw[C]at O m;have P:=G7 (N.o D _ (u.o.below f.o) f.o m);have f1:=(zg j i).2;clear j g m N
   go_upto_region 7 with(go_at_call 40;apply P.o.mono;rintro e X⟨v,rfl,A,I⟩;have HL:=G7 (I (by trivial));have F:=G7 A;have q:=G7 (f.o.trans (A.mono f.o.size));clear A I)
   have o:=(F.o.block p (by have:=f.o.size;omega)).trans Q.o;have d0:X.cell? (G8 p i)=some (t i):=(zg o i).1.trans (X7 t r);have f2:=(zg o i).2;obtain⟨va,vn,vc,V⟩:∃a n c,v=TL a n c:=by obtain⟨a,c,e,_⟩:=HL.o;exact⟨a,_,c,e⟩
   subst V;have HF:=G7 ((u.o.below q.o).set r HL.o HG.o);have HT:=G7 ((zx.of (M:=λb=>b=p) q.o).trans (zx.set (M:=λb=>b=p) X rfl i (TL va vn vc)));rw[C]at d0;clear o C O f1;go_wp2_with fail;go_ret;exact⟨rfl,HT.o,HF.o⟩
 unfold YI YJ;rw[za hpl,za (λe=>hpl e.1)];obtain⟨E,hE⟩:=Nm (qN l name);rw[hE]at B hpl |-;have⟨L,u⟩:=D5 B h;have d:(E==0)=false:=by simpa using hpl
 have d2:(E != 0)=true:=by simpa using hpl
 clear B hE h G;go_enter func14,ntmps14;go_wp2_with(go_at_call 32;apply L.o.mono;rintro e D⟨rfl,y⟩;have f:=G7 y;clear y);go_ret;exact⟨rfl,zx.of f.o,u.o.below f.o⟩
def YP(l:Int):Int:=if vL l then 0 else 7
def Jw(a:StO)(l:Int):List BY:=if vL l then (a l.toNat).map Prod.fst else []
theorem zbd(p:Nat)(q:StO)(l:Int)(M:Nat->Prop)(w:J)(h:yz M w p q):R8 18 #[RG p 0,R9 l] w λe v=>∃k,e=.returned (.tuple #[k,.int .i64 (YP l)])/\zJ v w.heap.size k (Jw q l)/\BQ w v:=by
 have c1:=BC l w;unfold YP Jw
 cases hl:vL l with
 | false=>
  rw[hl]at c1;have o:=G7 c1;simp only[yu,xX];clear c1 h hl;go_enter func18,ntmps18;go_wp2_with(go_at_call 44;apply o.o.mono;rintro e B⟨rfl,f⟩;rw[f];clear f);go_ret2;exact⟨_,rfl,⟨rfl,.inl ⟨rfl,rfl⟩⟩,zf _ _⟩
 | true=>
  rw[hl]at c1;have o:=G7 c1;simp only[qJ];unfold vL at hl;rw[jX,vJ,vJ]at hl;obtain⟨i,rfl⟩:∃i:Nat,l=(i:Int):=⟨l.toNat,by omega⟩;have j:i<4:=by omega
  obtain⟨m,d,b⟩:=h.row;have A:w.cell? (G8 p i)=some (m i):=(zg d i).1.trans (X7 m j);have g:=zaa (q i) (m i) M w (b i j) (by have:=(h.good i j).2.1;omega);obtain⟨E,G,F,u⟩:∃a n c,m i=TL a n c:=by obtain⟨a,c,e,_⟩:=b i j;exact⟨a,_,c,e⟩
  rw[u]at A g;unfold JU at g;have r:((i:Int)).toNat=i:=yE i;rw[r];have x:=G7 g;have C:(0:Int)<=(i:Int):=qd _;have D:(i:Int)<4:=by omega
  clear c1 h hl d b g u r;go_enter func18,ntmps18
  go_wp2_with(first
   |(go_at_call 45;apply x.o.mono;rintro e H⟨k,rfl,t,s⟩;have⟨z,y⟩:=D5 t s;clear t s)
   |(go_at_call 44;apply o.o.mono;rintro e B⟨rfl,f⟩;rw[f];clear f))
  go_ret2;exact⟨k,rfl,z.o,y.o⟩
def YX(a:StO)(l:Int)(name:BY):Int:=if qN l name=0 then (if zq (a l.toNat) name then 0 else 9) else qN l name
def Vb(a:StO)(l:Int)(name:BY):List zS:=match (a l.toNat)[qQ (a l.toNat) name]? with
 | some x=>x.2
 | none=>[]
def YW(a:StO)(l:Int)(name:BY):BY:=if qN l name=0/\zq (a l.toNat) name=true then Xj (Vb a l name) else ⟨#[]⟩
theorem zdR(X:Nat)(j:StO)(l:Int)(name:BY)(M:Nat->Prop)(w:J)(h:yz M w X j)(hs:name.size<=maxLen):R8 16 #[RG X 0,R9 l,S9 name] w (G5 (.tuple #[.string (YW j l name),.int .i64 (YX j l name)]) w):=by
 have z:=nL l name w hs
 by_cases hpl:qN l name=0
 ·obtain⟨i,rfl,p,a6⟩:=Uv hpl;have I:YX j (i:Int) name=if zq (j i) name then 0 else 9:=by unfold YX;rw[zb hpl];rfl
  have hA:YW j (i:Int) name=if zq (j i) name=true then Xj (Vb j (i:Int) name) else ⟨#[]⟩:=by
   unfold YW;simp only[yE,hpl,QW]
  rw[I,hA];rw[hpl]at z;have⟨R,HO⟩:=D5 z h;have r:∀x,(j i)[qQ (j i) name]?=some x->Vb j (i:Int) name=x.2:=λx u=>by unfold Vb;simp only[yE];rw[u]
  have O:∀x,(j i)[qQ (j i) name]?=some x->XZ x.2:=λx u=>(h.good i p).2.2 x (xC u)
  have cg:∀(W:J) (v:Y),BQ w W->xZ M W v (j i)->R8 41 #[v,S9 name] W λe w'=>∃F H G,e=.returned (.tuple #[.agg #[.slice F H G],.bool (zq (j i) name)])/\BQ W w'/\(zq (j i) name=true->∃x,(j i)[qQ (j i) name]?=some x/\jf M w' (TL F H G) x.2):=λW v V hl=>
   WZ (j i) v name M W hl (by have:=(h.good i p).2.1;omega) ((h.good i p).1.down name)
  obtain⟨b,V⟩:=Nm (zq (j i) name);simp only[V]at cg;simp only[V];have⟨T,HD,HS⟩:=M4 cg r O;have k0:(0:Int)<=(i:Int):=qd _;have k1:(i:Int)<4:=by omega
  clear z cg r O hpl V a6 hA I
  cases b with
  | false=>
   simp only[yu,xX];go_enter func16,ntmps16
   go_upto_region 4 with(go_at_call 32;apply R.o.mono;rintro e A⟨rfl,q⟩;have f:=G7 q;clear q)
   obtain⟨y,k,g⟩:=(HO.o.below f.o).row;have c0:A.cell? (G8 X i)=some (y i):=(zg k i).1.trans (X7 y p);obtain⟨la,ln,lc,P⟩:∃a n c,y i=TL a n c:=by obtain⟨a,c,e,_⟩:=g i p;exact⟨a,_,c,e⟩
   have m:=g i p;rw[P]at c0 m;have S:=G7 (T.o A _ f.o m);clear k g P m T;go_wp2_with(go_at_call 41;apply S.o.mono;rintro e Q⟨F,H,G,rfl,D,_⟩;have o:=G7 (f.o.trans (D.mono f.o.size));clear D);go_ret2;exact⟨rfl,o.o.alloc o.o.size _⟩
  | true=>
   simp only[qJ];go_enter func16,ntmps16
   go_upto_region 4 with(go_at_call 32;apply R.o.mono;rintro e A⟨rfl,q⟩;have f:=G7 q;clear q)
   obtain⟨y,k,g⟩:=(HO.o.below f.o).row;have c0:A.cell? (G8 X i)=some (y i):=(zg k i).1.trans (X7 y p);obtain⟨la,ln,lc,P⟩:∃a n c,y i=TL a n c:=by obtain⟨a,c,e,_⟩:=g i p;exact⟨a,_,c,e⟩
   have m:=g i p;rw[P]at c0 m;have S:=G7 (T.o A _ f.o m);clear k g P m T
   go_upto_region 7 with(go_at_call 41;apply S.o.mono;rintro e Q⟨F,H,G,rfl,D,N⟩;have C:=G7 (N (by trivial));have o:=G7 (f.o.trans (D.mono f.o.size));clear D N)
   obtain⟨x,u,L⟩:=C.o;have bA:BQ Q (Q.alloc (L8 #[TL F H G] 80)):=nbl Q _;obtain⟨base,K⟩:=(L.turn (zx.of bA)).at;have t:=HS.o x u;have s:=Eu x.2 _ base _ K t.1 t.2.1;rw[<- HD.o x u]at s;have a1:=G7 s;have B:=G7 (o.o.trans (bA.mono o.o.size));clear s K t L u bA C S;go_wp2_with(go_at_call 42;apply a1.o.mono;rintro e w5⟨rfl,b5⟩;have a2:=G7 (B.o.trans (b5.mono B.o.size));clear b5);go_ret2;exact⟨rfl,a2.o⟩
 unfold YX YW;rw[za hpl,za (λe=>hpl e.1)];obtain⟨E,I⟩:=Nm (qN l name);rw[I]at z hpl |-;have R:=G7 z;have d:(E==0)=false:=by simpa using hpl
 have d2:(E != 0)=true:=by simpa using hpl
 clear z I h;go_enter func16,ntmps16;go_wp2_with(go_at_call 32;apply R.o.mono;rintro e A⟨rfl,q⟩;have f:=G7 q;clear q);go_ret2;exact⟨rfl,f.o⟩
def YS(b:StO)(l:Int)(name a:BY):Bool:=decide (qN l name=0)&&decide ((Z.qC a).1=0)&&(zq (b l.toNat) name||decide ((b l.toNat).length<4))
def ZA(b:StO)(l:Int)(name a:BY):Int×Nat:=if qN l name=0 then (if (Z.qC a).1=0 then (if zq (b l.toNat) name||decide ((b l.toNat).length<4) then (0,0) else (10,0)) else Z.qC a) else (qN l name,0)
def ZZ(b:StO)(l:Int)(name a:BY):StO:=if YS b l name a then upd b l.toNat (Zo (b l.toNat) name (jK a)) else b
theorem zfp(s:BY)(c:(Z.qC s).1=0):XZ (jK s):=by
 obtain⟨d,e,f⟩:=eZ s c;have g:jK s=(yo s).map vQ:=f;rw[g];refine⟨by rw[qf];exact e,λx a=>?_,λx a=>?_⟩
 ·rw[xI]at a;obtain⟨r,b,rfl⟩:=a;exact FL (d r b).2
 rw[xI]at a;obtain⟨r,b,rfl⟩:=a;exact Ra s c r b
theorem zcv(N:Nat)(j:StO)(l:Int)(name f:BY)(M:Nat->Prop)(aL:Addr)(w:J)(hC:jL w aL)(h:yz M w N j)(hM:∀b,M b->b<w.heap.size)(hs:name.size<=maxLen):R8 12 #[RG N 0,R9 l,S9 name,S9 f] w λe w'=>e=.returned (.tuple #[.int .i64 (ZA j l name f).1,.int .i64 ((ZA j l name f).2:Int)])/\zx (λb=>b=N) w w'/\yz M w' N (ZZ j l name f):=by
 have cp:=nL l name w hs
 by_cases hpl:qN l name=0
 ·obtain⟨i,rfl,hi,a5⟩:=Uv hpl;rw[hpl]at cp;have⟨CP,HO,e9⟩:=M4 cp h hC;have f7:N<w.heap.size:=hM N h.mine;have cr:=λW (K:BQ w W)=>iW f W _ _ _ rfl (hC.below K).q;have t:=zfp f;have k0:(0:Int)<=(i:Int):=qd _;have k1:(i:Int)<4:=by omega
  by_cases hd:(Z.qC f).1=0
  ·have hA:ZA j (i:Int) name f=if (zq (j i) name||decide ((j i).length<4))=true then (0,0) else (10,0):=by
    unfold ZA;rw[zb hpl,zb hd]
    rfl
   have hS:ZZ j (i:Int) name f=if (zq (j i) name||decide ((j i).length<4))=true then upd j i (Zo (j i) name (jK f)) else j:=by
    unfold ZZ YS;rw[zB hpl,zB hd];simp only[yE,jY]
   rw[hA,hS]
   have c7:name.size<=281474976710656:=by
    by_cases e:1<=name.size/\name.size<=12
    ·omega
    rw[U.Kw name e]at a5;cases a5
   have cw:∀(W:J) (v:Y) (z:Option Addr) (n A:Nat),BQ w W->xZ M W v (j i)->jf M W (TL z n A) (jK f)->R8 35 #[v,S9 name,.agg #[TL z n A]] W λe w'=>∃v,e=.returned (.tuple #[v,.bool (zq (j i) name||decide ((j i).length<4))])/\BQ W w'/\((zq (j i) name||decide ((j i).length<4))=true->xZ M w' v (Zo (j i) name (jK f))):=λW v z n A K hl d7=>
    zfQ (j i) v name z n A (jK f) M W hl (by have:=(h.good i hi).2.1;omega) ((h.good i hi).1.down name) (λb d6=>xO (hM b d6) K.size) d7 c7
   have b9:(zq (j i) name||decide ((j i).length<4))=true->QA (Zo (j i) name (jK f)):=λho=>(h.good i hi).with ho (t hd)
   obtain⟨b,K⟩:=Nm ((zq (j i) name||decide ((j i).length<4)));simp only[K]at cw b9;simp only[K];obtain⟨⟨c,q⟩,H⟩:∃x,Z.qC f=x:=⟨_,rfl⟩;rw[H]at hd;simp only[H]at cr;unfold Yr at cr;simp only at hd cr;subst hd;have⟨CR,HW,d1,HM⟩:=M5 cr cw b9 hM;clear cp cr cw b9 hA hS K H t h hC hM hpl a5
   cases b with
   | false=>
    simp only[yu,xX];go_enter func12,ntmps12
    go_upto_region 4 with(go_at_call 32;apply CP.o.mono;rintro e w1⟨rfl,R⟩;have g:=G7 R;clear R)
    have HR:=G7 (CR.o w1 g.o);clear CR
    go_upto_region 5 with(go_at_call 33;apply HR.o.mono;rintro e G⟨z,n,A,u,rfl,F,b2,a0⟩;have P:=G7 (a0 (by trivial));have L:=G7 F;have B:=G7 (g.o.trans (b2.mono g.o.size));clear b2 F a0)
    obtain rfl:u=.nilIface:=by
     rcases Kk rfl L.o with⟨_,e⟩|⟨e,_⟩
     ·exact e
     exact absurd rfl e
    obtain⟨k,o⟩:=Nm (G.alloc (L8 #[TL z n A] 80));have m:G6 (BQ w k):=G7 (by rw[<- o];exact B.o.alloc B.o.size _);have S:BQ G k:=by rw[<- o];exact nbl G _
    have e0:k.cell? (G8 G.heap.size 0)=some (TL z n A):=by rw[<- o];exact(zg (zA G _) 0).1
    have D:jf M k (TL z n A) (jK f):=jf.of (P.o.below S) (λb K=>xO (HM.o b K) g.o.size);obtain⟨vs,s,r⟩:=(HO.o.below m.o).row;have c0:k.cell? (G8 N i)=some (vs i):=(zg s i).1.trans (X7 vs hi);obtain⟨xa,xn,xc,hv⟩:∃a n c,vs i=TL a n c:=by obtain⟨a,c,e,_⟩:=r i hi;exact⟨a,_,c,e⟩
    have bD:BQ k k.drew:=(zf _ k).drew;have Q:=G7 (HW.o k.drew (vs i) z n A (m.o.trans (bD.mono m.o.size)) ((r i hi).turn (zx.of bD)) (D.turn (zx.of bD)));have c4:=G7 s;rw[hv]at c0 Q;rw[o];clear s r D HW P HR bD S o
    go_upto_region 7 with fail
    go_region_held3 (λw'=>w'.cell? (G8 N i)=some (TL xa xn xc)/\w'.cell? (G8 G.heap.size 0)=some (TL z n A)) (go_keep) (first|((go_at_call 35);apply Q.o.mono;rintro e w5⟨v,rfl,O,V⟩;have b4:=G7 V;have g0:=zi O c0;have g1:=zi O e0;have I:G6 (BQ k w5):=(((zf _ k).drew).trans O);have C:=G7 (m.o.trans (I.o.mono m.o.size));clear O V))
    go_wp2_with fail;go_ret2;exact⟨rfl,zx.of C.o,HO.o.below C.o⟩
   | true=>
    simp only[qJ];go_enter func12,ntmps12
    go_upto_region 4 with(go_at_call 32;apply CP.o.mono;rintro e w1⟨rfl,R⟩;have g:=G7 R;clear R)
    have HR:=G7 (CR.o w1 g.o);clear CR
    go_upto_region 5 with(go_at_call 33;apply HR.o.mono;rintro e G⟨z,n,A,u,rfl,F,b2,a0⟩;have P:=G7 (a0 (by trivial));have L:=G7 F;have B:=G7 (g.o.trans (b2.mono g.o.size));clear b2 F a0)
    obtain rfl:u=.nilIface:=by
     rcases Kk rfl L.o with⟨_,e⟩|⟨e,_⟩
     ·exact e
     exact absurd rfl e
    obtain⟨k,o⟩:=Nm (G.alloc (L8 #[TL z n A] 80));have m:G6 (BQ w k):=G7 (by rw[<- o];exact B.o.alloc B.o.size _);have S:BQ G k:=by rw[<- o];exact nbl G _
    have e0:k.cell? (G8 G.heap.size 0)=some (TL z n A):=by rw[<- o];exact(zg (zA G _) 0).1
    have D:jf M k (TL z n A) (jK f):=jf.of (P.o.below S) (λb K=>xO (HM.o b K) g.o.size);obtain⟨vs,s,r⟩:=(HO.o.below m.o).row;have c0:k.cell? (G8 N i)=some (vs i):=(zg s i).1.trans (X7 vs hi);obtain⟨xa,xn,xc,hv⟩:∃a n c,vs i=TL a n c:=by obtain⟨a,c,e,_⟩:=r i hi;exact⟨a,_,c,e⟩
    have bD:BQ k k.drew:=(zf _ k).drew;have Q:=G7 (HW.o k.drew (vs i) z n A (m.o.trans (bD.mono m.o.size)) ((r i hi).turn (zx.of bD)) (D.turn (zx.of bD)));have c4:=G7 s;rw[hv]at c0 Q;rw[o];clear s r D HW P HR bD S o
    go_upto_region 7 with fail
    go_region_held3 (λw'=>w'.cell? (G8 N i)=some (TL xa xn xc)/\w'.cell? (G8 G.heap.size 0)=some (TL z n A)) (go_keep) (first|((go_at_call 35);apply Q.o.mono;rintro e w5⟨v,rfl,O,V⟩;have b4:=G7 V;have g0:=zi O c0;have g1:=zi O e0;have I:G6 (BQ k w5):=(((zf _ k).drew).trans O);have C:=G7 (m.o.trans (I.o.mono m.o.size));clear O V))
    have HL:=G7 (b4.o (by trivial));have X:=(I.o.block N (by have:=m.o.size;omega)).trans c4.o;have f2:=(zg X i).2;obtain⟨va,vn,vc,d9⟩:∃a n c,v=TL a n c:=by obtain⟨a,c,e,_⟩:=HL.o;exact⟨a,_,c,e⟩
    subst d9;have HF:=G7 ((HO.o.below C.o).set hi HL.o (d1.o (by trivial)));have HT:=G7 ((zx.of (M:=λb=>b=N) C.o).trans (zx.set (M:=λb=>b=N) w5 rfl i (TL va vn vc)));clear X b4 HL;go_wp2_with fail;go_ret2;exact⟨rfl,HT.o,HF.o⟩
  have hA:ZA j (i:Int) name f=Z.qC f:=by
   unfold ZA;rw[zb hpl,za hd]
  have hS:ZZ j (i:Int) name f=j:=by
   unfold ZZ YS;rw[zI hd]
   simp
  rw[hA,hS];obtain⟨⟨c,q⟩,H⟩:∃x,Z.qC f=x:=⟨_,rfl⟩;rw[H]at hd |-;simp only[H]at cr;unfold Yr at cr;simp only at hd cr |-;have ce:=λW u (K:BQ w W) h=>lh c q u aL W (hC.below K).q.p.d.err (hC.below K).q.long h;have⟨CR,CE⟩:=D5 cr ce;clear cp cr ce hA hS H t h hC hM hpl a5;go_enter func12,ntmps12
  go_upto_region 4 with(go_at_call 32;apply CP.o.mono;rintro e w1⟨rfl,R⟩;have g:=G7 R;clear R)
  have HR:=G7 (CR.o w1 g.o);clear CR
  go_upto_region 5 with(go_at_call 33;apply HR.o.mono;rintro e G⟨z,n,A,u,rfl,F,b2,_⟩;have L:=G7 F;have B:=G7 (g.o.trans (b2.mono g.o.size));clear b2 F)
  obtain⟨T,y,rfl⟩:∃T y,u=.iface T y:=by
   rcases Kk rfl L.o with⟨e,_⟩|⟨_,T,y,e⟩
   ·exact absurd e hd
   exact⟨T,y,e⟩
  have b3:=G7 (B.o.alloc B.o.size (L8 #[TL z n A] 80));have d0:=G7 (CE.o _ _ b3.o L.o);clear CE HR;go_wp2_with(go_at_call 34;apply d0.o.mono;rintro e w5⟨rfl,O⟩;have C:=G7 (b3.o.trans (O.mono b3.o.size));clear O);go_ret2;exact⟨rfl,zx.of C.o,HO.o.below C.o⟩
 unfold ZA
 have hS:ZZ j l name f=j:=by
  unfold ZZ YS;rw[zI hpl]
  simp
 rw[za hpl,hS];obtain⟨E,hE⟩:=Nm (qN l name);rw[hE]at cp hpl |-;have⟨CP,HO⟩:=D5 cp h;have d:(E==0)=false:=by simpa using hpl
 have d2:(E != 0)=true:=by simpa using hpl
 clear cp hE h hM hC hS;go_enter func12,ntmps12;go_wp2_with(go_at_call 32;apply CP.o.mono;rintro e w1⟨rfl,R⟩;have g:=G7 R;clear R);go_ret2;exact⟨rfl,zx.of g.o,HO.o.below g.o⟩
end Go.Proofs.YtfjpcldndaiifaaGreatDoor
