/- P -/
import Derived.Test.YtfjpcldndaiifaaGreatDoorA23
open Go.Proofs.Tryz
set_option maxRecDepth 100000
set_option maxHeartbeats 1000000
namespace Go.Proofs.YtfjpcldndaiifaaGreatDoor
open Go.RowKit
def Xz(n:U.Node)(v:Y×Y):Y := .agg #[R9 n.kind,S9 n.text,v.1,v.2]
theorem jU{w:J}{base:Nat}{e:TypeId}{v:Y}{n:Nat}{xs:List Y}(h:w.ownsRow base e 1 v n xs):∃a c,v=TL a n c/\∀k,k<n->∃g,a=some (G8 g 0)/\w.cell? (G8 g k)=xs[k]?:=by
 rcases h.2 with⟨rfl,rfl⟩|⟨g,c,cur,rfl,_⟩
 ·exact⟨_,_,rfl,λk b=>by omega⟩
 exact⟨_,_,rfl,λk b=>⟨g,rfl,h.cellAt k (by omega)⟩⟩
def uj(w wr:J)(cs:Array Y)(t:TypeId):Prop:=wr.heap[w.heap.size]?=some (.cells cs t (0,0))/\BQ w wr
theorem uj.start(w:J)(cs:Array Y)(t:TypeId):uj w (w.alloc (.cells cs t)) cs t:=⟨zA w _,nbl _ _⟩
theorem uj.drew{w wr:J}{cs:Array Y}{t:TypeId}(h:uj w wr cs t):uj w wr.drew cs t:=⟨h.1,h.2.drew⟩
theorem uj.cell{w wr:J}{cs:Array Y}{t:TypeId}(h:uj w wr cs t)(k:Nat):wr.cell? (G8 w.heap.size k)=cs[k]?:=(zg h.1 k).1
theorem uj.old{w wr:J}{cs:Array Y}{t:TypeId}(h:uj w wr cs t){p:Addr}{v:Y}(a:w.cell? p=some v):wr.cell? p=some v:=zi h.2 a
theorem Sq(n:U.Node)(v:Y×Y)(name:BY)(base:Nat)(w:J)(F:w.ownsRow base 9 1 v.1 n.names.length (U.strCells n.names))(E:w.ownsRow base 3 1 v.2 n.kids.length (yK n.kids))
  (G:n.names.length<=n.kids.length)(M:n.kids.length<=4000):R8 72 #[Xz n v,S9 name] w (G5 (R9 (U.zq n name)) w):=by
 obtain⟨P,p⟩:=Nm (U.zq n name);rw[p];obtain⟨t,x,f,d⟩:=n;unfold U.zq at p;simp only at p F E G M;obtain⟨T,V,q,D⟩:=jU F;obtain⟨N,O,r,C⟩:=jU E;unfold Xz;rw[q,r];simp only;obtain⟨u,c⟩:=Nm f.length;obtain⟨Q,b⟩:=Nm d.length;rw[c]at D G;rw[b]at C G M;rw[c,b];have⟨HP,X,W,o,B⟩:=M6 p D C c b;clear p F E q r D C c b;go_enter func72,ntmps72;go_wp2_with fail
 go_loopw [5] (λi wr=>∃k:Nat,k<=u/\i=R9 k/\P=U.vW (f.drop k) (d.drop k) name/\uj w wr #[R9 t,S9 x,TL T u V,TL N Q O] 165) (λi _=>u-(intOf i).toNat)
 case atStart=>exact⟨0,zD _,rfl,by rw[<- HP.o];rfl,uj.start _ _ _⟩
 case round=>
  obtain⟨k,hk,rfl,L,a⟩:=hrel;have A:=G7 L;have c2:wr.cell? (G8 w.heap.size 2)=some (TL T u V):=a.cell 2;have c3:wr.cell? (G8 w.heap.size 3)=some (TL N Q O):=a.cell 3;have m:=G7 a;clear L a
  by_cases hlt:k<u
  ·obtain⟨g,rfl,y⟩:=X.o k hlt;obtain⟨g2,rfl,z⟩:=W.o k (by omega);have R:k<f.length:=by rw[o.o];exact hlt
   have S:k<d.length:=by rw[B.o];omega
   rw[U.JE f k R]at y;rw[yK,U.KI d k S]at z;obtain⟨s,l⟩:=Nm (f[k]);obtain⟨j,h⟩:=Nm (d[k]);rw[l]at y;rw[h]at z;have⟨H,HJ,I,K⟩:=M5 l h R S;have q3:=m.o.old y;have q4:=m.o.old z;clear l h y z
   cases heq:(s.toList==name.toList) with
   | true=>
    have e:=U.Sl f d name k I.o K.o (by rw[H.o];exact heq);rw[<- A.o,HJ.o]at e;subst e;go_wp2;go_ret;exact⟨rfl,m.o.2⟩
   | false=>
    have e:=U.Sm f d name k I.o K.o (by rw[H.o];exact heq);go_wp2;go_roundw
    case rel=>exact⟨k+1,by omega,by go_num,A.o.trans e,m.o⟩
    case measure=>simp[intOf];omega
  have e:=U.Sk f d name k (by rw[o.o];exact hlt);rw[<- A.o]at e;subst e;go_wp2;go_ret;exact⟨rfl,m.o.2⟩
theorem DV(n:U.Node)(v:Y×Y)(ts:List BY)(sl:Y)(base o:Nat)(w:J)(M:w.ownsRow base 9 1 v.1 n.names.length (U.strCells n.names))(X:w.ownsRow o 9 1 sl ts.length (U.strCells ts))
  (hl:n.names.length<=4000)(hs:ts.length<=4000):R8 122 #[Xz n v,sl] w (G5 (.bool (U.jA n ts)) w):=by
 obtain⟨P,z⟩:=Nm (U.jA n ts);rw[z];obtain⟨c,m,l,ks⟩:=n;unfold U.jA at z;simp only at z M hl;obtain⟨na,F,B,K⟩:=jU M;obtain⟨ta,tc,C,L⟩:=jU X;unfold Xz;rw[B,C];simp only;obtain⟨v2,h⟩:=Nm v.2;rw[h];obtain⟨r,d⟩:=Nm l.length;obtain⟨Q,f⟩:=Nm ts.length;rw[d]at K hl;rw[f]at L hs;rw[d,f];have⟨S,CN,CT,u,y⟩:=M6 z K L d f;clear z M X B C h K L d f;go_enter func122,ntmps122;go_wp2_with fail
 go_loopw [5] (λi wr=>∃k:Nat,k<=r/\i=R9 k/\((l.take k).all (λs=>ts.any λt=>t.toList==s.toList))=true/\uj w wr #[R9 c,S9 m,TL na r F,v2] 165) (λi _=>r-(intOf i).toNat)
 case atStart=>exact⟨0,zD _,rfl,by simp,uj.start _ _ _⟩
 case round=>
  obtain⟨k,hk,rfl,hb,a⟩:=hrel;have R:=G7 hb;have c2:wr.cell? (G8 w.heap.size 2)=some (TL na r F):=a.cell 2;have c0:wr.cell? (G8 w.heap.size 0)=some (R9 c):=a.cell 0;have H:=G7 a;clear hb a
  by_cases hlt:k<r
  ·obtain⟨g,rfl,D⟩:=CN.o k hlt;have l1:k<l.length:=by rw[u.o];exact hlt
   rw[U.JE l k l1]at D;obtain⟨s,p⟩:=Nm (l[k]);rw[p]at D;have⟨T,W⟩:=D5 p l1;have q3:=H.o.old D;have Q1:=G7 D;clear p D;go_wp2_with fail
   go_loopw [6,7] (λfv N wx=>∃(j:Nat) (x:Bool),j<=Q/\N=R9 j/\fv=.bool x/\(x=(ts.take j).any λt=>t.toList==s.toList)/\uj w wx #[R9 c,S9 m,TL (some (G8 g 0)) r F,v2] 165) (λ_ N _=>Q-(intOf N).toNat)
   case atStart=>exact⟨0,false,zD _,rfl,rfl,by simp,H.o⟩
   case round=>
    obtain⟨j,x,hj,rfl,rfl,hx,a⟩:=hrel;have⟨I,b⟩:=D5 hx a;have q5:=b.o.old Q1.o;have d2:wr.cell? (G8 w.heap.size 2)=some (TL (some (G8 g 0)) r F):=a.cell 2;clear hx c2 c0 q3 a
    by_cases hjt:j<Q
    ·obtain⟨g2,rfl,G⟩:=CT.o j hjt;have O:j<ts.length:=by rw[y.o];exact hjt
     rw[U.JE ts j O]at G;obtain⟨t,q⟩:=Nm (ts[j]);rw[q]at G;have V:=G7 q;have q4:=b.o.old G;clear q G
     cases heq:(t.toList==s.toList) with
     | true=>
      have e:=G7 (U.su ts s j O x I.o true (by rw[V.o];exact heq))
      cases x with
      | true=>
       go_wp2_with fail;go_region
       all_goals
        go_wp2;go_roundw
        case rel=>exact⟨j+1,true,by omega,by go_num,rfl,e.o,b.o.drew⟩
        case measure=>simp[intOf];omega
      | false=>
       go_wp2_with fail;go_region
       all_goals
        go_wp2;go_roundw
        case rel=>exact⟨j+1,true,by omega,by go_num,rfl,e.o,b.o.drew⟩
        case measure=>simp[intOf];omega
     | false=>
      have e:=G7 (U.su ts s j O x I.o false (by rw[V.o];exact heq))
      cases x with
      | true=>
       go_wp2_with fail;go_region
       all_goals
        go_wp2;go_roundw
        case rel=>exact⟨j+1,true,by omega,by go_num,rfl,e.o,b.o.drew⟩
        case measure=>simp[intOf];omega
      | false=>
       go_wp2_with fail;go_region
       all_goals
        go_wp2;go_roundw
        case rel=>exact⟨j+1,false,by omega,by go_num,rfl,e.o,b.o.drew⟩
        case measure=>simp[intOf];omega
    have e:=G7 (U.Ir ts s j (by rw[y.o];exact hjt) x I.o)
    cases x with
    | true=>
     have E:=G7 (U.rX l (λs=>ts.any λt=>t.toList==s.toList) k W.o R.o (by rw[T.o];exact e.o));go_wp2;go_roundw
     case rel=>exact⟨k+1,by omega,by go_num,E.o,b.o⟩
     case measure=>simp[intOf];omega
    | false=>
     have E:=U.rY l (λs=>ts.any λt=>t.toList==s.toList) k W.o (by rw[T.o];exact e.o);have A:=S.o;rw[E,kS]at A;subst A;clear E;go_wp2;go_ret;exact⟨rfl,b.o.2⟩
  have e:=U.rW l (λs=>ts.any λt=>t.toList==s.toList) k (by rw[u.o];exact hlt) R.o;have A:=S.o;rw[e,jY]at A;subst A;clear e;go_wp2;go_ret;exact⟨rfl,H.o.2⟩
structure ZM (w:J) (base b gg cap:Nat) (ns:List U.Node):Prop where
 lt:b<w.heap.size/\gg<w.heap.size
 slice:w.cell? (G8 b 2)=some (TL (some (G8 gg 0)) ns.length cap)
 node:∀(i:Nat) (n:U.Node),ns[i]?=some n->∃v:Y×Y,w.cell? (G8 gg (i*4))=some (R9 n.kind)/\w.cell? (G8 gg (i*4+1))=some (S9 n.text)/\w.cell? (G8 gg (i*4+2))=some v.1/\w.cell? (G8 gg (i*4+3))=some v.2 /\
  w.ownsRow base 9 1 v.1 n.names.length (U.strCells n.names)/\w.ownsRow base 3 1 v.2 n.kids.length (yK n.kids)
 ev:U.Ev ns
 len:ns.length<=4000
 small:∀(i:Nat) (n:U.Node),ns[i]?=some n->n.kids.length<=4000/\n.names.length<=4000/\n.text.size<=12000
theorem ZM.below{w w':J}{base b c cap:Nat}{ns:List U.Node}(h:ZM w base b c cap ns)(a:BQ w w'):ZM w' base b c cap ns:=by
 have m:=a.size;refine⟨⟨by have:=h.lt.1;omega,by have:=h.lt.2;omega⟩,zi a h.slice,λi n l=>?_,h.ev,h.len,h.small⟩;obtain⟨v,d,e,f,g,j,k⟩:=h.node i n l;exact⟨v,zi a d,zi a e,zi a f,zi a g,ownsRow_below j a,ownsRow_below k a⟩
theorem ZM.kid{w:J}{base b a cap:Nat}{ns:List U.Node}(h:ZM w base b a cap ns){i:Nat}{n:U.Node}(c:ns[i]?=some n)(j:Nat)(d:j<n.kids.length):n.kids[j]<ns.length:=(h.ev i n c).1 _ (qm d)
theorem uj.grown2{w wr w1:J}{cs:Array Y}{t e:TypeId}{size n:Nat}{v:Y}{xs:List Y}(h:uj w wr cs t)(c:wr.ownsRow (w.heap.size+1) e size v n xs)(a b:Obj)(f:((wr.alloc a).alloc b).drew.grownBy w1 v.ownBlock):uj w w1 cs t:=by
 have i:w.heap.size<wr.heap.size:=zt h.1;have d:Below (w.heap.size+1) wr w1:=(((zf _ wr).alloc (by omega) a).alloc (by simp;omega) b).drew.grown f (by simp;omega) (λk g=>(c.lt k g).1);exact⟨(d.block _ (by omega)).trans h.1,h.2.trans (d.mono (by omega))⟩
theorem Fg(w:J)(O:Obj)(t:TypeId)(s:BY):((w.alloc O).alloc (L8 #[S9 s] t)).ownsRow w.heap.size t 1 (TL (some (G8 (w.heap.size+1) 0)) 1 1) 1 [S9 s]:=by
 have h:=bB (base:=w.heap.size) (e:=t) (size:=1) (w.alloc O) #[S9 s] 1 (by simp) (by decide) rfl;rw[uH]at h;exact h
theorem LQ(w:J)(O:Obj)(t:TypeId)(s:BY):∀(j:Nat) (u:Y),[Value.string s][j]?=some u->((w.alloc O).alloc (L8 #[S9 s] t)).drew.cell? (((G8 (w.heap.size+1) 0):Addr).add j)=some u:=
 λj u h=>(Fg w O t s).cells (g:=w.heap.size+1) rfl j u h
def bi(w:J)(R:Option (List BY))(e:Ending)(w':J):Prop:=
 ∃a,e=.returned (.tuple #[a,.bool R.isSome])/\BQ w w'/\w'.ownsRow w.heap.size 9 1 a (R.getD []).length (U.strCells (R.getD []))
theorem Gi(k:Int)(base b gg cap:Nat)(ns:List U.Node)(w:J)(h:ZM w base b gg cap ns)(hk:k<ns.length)(d8:-1<=k):R8 205 #[RG b 0,R9 k] w (bi w (U.xq ns k)):=by
 obtain⟨R,q⟩:=Nm (U.xq ns k);rw[q];unfold U.xq at q
 by_cases hneg:k<0
 ·rw[zb hneg]at q;subst q;go_enter func205,ntmps205;go_wp2;go_ret2;exact⟨_,rfl,zf _ _,qF _ _ _ _⟩
 rw[za hneg]at q;obtain⟨i,rfl⟩:∃i:Nat,k=i:=⟨k.toNat,by omega⟩;have z:i<ns.length:=by omega
 simp only[yE,zn z]at q;have T:=zn z;obtain⟨v,a1,a2,a3,a4,M,N⟩:=h.node i _ T;have E:=h.small i _ T;obtain⟨n,V⟩:=Nm (ns[i]);rw[V]at q T a1 a2 M N E;obtain⟨v1,v2⟩:=v;simp only at a3 a4 M N;have W:=h.slice;obtain⟨nl,B⟩:=Nm ns.length;have S:=h.len;rw[B]at W z hk S;obtain⟨l,a7,ss,y⟩:=n;simp only at q a1 a2 a3 a4 M N E;obtain⟨ka,kc,F,cK⟩:=jU N;obtain⟨na,nc,rfl,_⟩:=jU M;obtain⟨m,A⟩:=Nm y.length;rw[A]at F cK E q;rw[F]at a4;have⟨CK,HH,G,H,HN,I⟩:=M7 cK h q A T B;have i0:(0:Int)<=(i:Int):=qd _;have i1:(i:Int)<(nl:Int):=by omega
 clear h q V T B A M N cK d8 hk F;go_enter func205,ntmps205
 by_cases h3:l=3
 ·have p:=G.o;rw[zb h3]at p;subst p;subst h3;go_wp2;go_ret2;exact⟨_,rfl,(nbl _ _).alloc (by simp) _,Fg _ _ _ _⟩
 have g2:(l==3)=false:=by simp[h3]
 have p:=G.o;rw[za h3]at p
 by_cases h2:l≠2
 ·rw[zb (.inl h2)]at p;subst p;have g1:(l != 2)=true:=by simp[h2]
  clear G;go_wp2;go_ret2;exact⟨_,rfl,nbl _ _,qF _ _ _ _⟩
 rw[Ne,aG]at h2;subst h2
 by_cases hk1:m<1
 ·rw[zb (.inr (.inl hk1))]at p;subst p;have Q:decide ((m:Int)<1)=true:=by simp;omega
  clear G;go_wp2;go_ret2;exact⟨_,rfl,nbl _ _,qF _ _ _ _⟩
 by_cases hk10:10<m
 ·rw[zb (.inr (.inr hk10))]at p;subst p;have Q:decide ((m:Int)<1)=false:=by simp;omega
  have d9:decide (10<(m:Int))=true:=by simp;omega
  clear G;go_wp2;go_ret2;exact⟨_,rfl,nbl _ _,qF _ _ _ _⟩
 rw[N8]at p;have K:=G7 p;have Q:decide ((m:Int)<1)=false:=by simp;omega
 have d9:decide (10<(m:Int))=false:=by simp;omega
 clear p G;obtain⟨i0,hi,e1,e2,e3⟩:=qU Tryz.infoStr;go_wp2_with fail
 go_loopw [7,8] (λlv jv wr=>∃(j:Nat) (done:List BY),j<=m/\jv=R9 j/\done.length=j/\R=(U.uY ns (y.drop j)).map (λb=>done++b)/\wr.ownsRow (w.heap.size+1) 9 1 lv done.length (U.strCells done) /\
   uj w wr #[R9 2,S9 a7,TL na ss.length nc,TL ka m kc] 165) (λ_ jv _=>m-(intOf jv).toNat)
 case atStart=>exact⟨0,[],by omega,rfl,rfl,by rw[<- K.o];simp,qF _ _ _ _,uj.start _ _ _⟩
 case round=>
  obtain⟨j,done,hj,rfl,d7,P,f,a⟩:=hrel;have o:=G7 P;have c3:wr.cell? (G8 w.heap.size 3)=some (TL ka m kc):=a.cell 3;have D:=HH.o.below a.2;have⟨L,HL⟩:=D5 D a;have g4:w.heap.size<wr.heap.size:=zt a.1;have s2:=D.slice;rw[I.o]at s2;clear P a D K a1 a2 a3 a4 W
  by_cases hlt:j<m
  ·obtain⟨g,rfl,q1⟩:=CK.o j hlt;have l1:j<y.length:=by rw[H.o];exact hlt
   rw[yK,U.KI y j l1]at q1;have d:=L.o.kid HN.o j l1;simp only at d;obtain⟨c,hc⟩:=Nm (y[j]);rw[hc]at q1 d;have q2:=HL.o.old q1;have hx:=zn d;obtain⟨⟨v1,v2⟩,b1,b2,b3,b4,b5,b6⟩:=L.o.node c _ hx;obtain⟨x,X⟩:=Nm (ns[c]);rw[X]at hx b1 b2 b5 b6;simp only at b3 b4 b5 b6;obtain⟨h0,h4,rfl,_⟩:=jU b5;obtain⟨g6,g7,rfl,_⟩:=jU b6;obtain⟨xk,xt,xs,e9⟩:=x;simp only at b1 b2 b3 b4;rw[I.o]at d;have k0:(0:Int)<=(c:Int):=qd _;have k1:(c:Int)<(nl:Int):=by omega
   have HX:G6 (ns[y[j]]?=some ⟨xk,xt,xs,e9⟩):=by rw[hc];exact hx
   have L1:=G7 l1;clear q1 hx X hc b5 b6;have e5:=λO:Obj=>zi (nbl wr O) q2;have e7:=λO:Obj=>zi (nbl wr O) s2;have d4:=λO:Obj=>zi (nbl wr O) c3;have d0:=λO:Obj=>zi (nbl wr O) b1;have d1:=λO:Obj=>zi (nbl wr O) b2;have d2:=λO:Obj=>zi (nbl wr O) b3;have d3:=λO:Obj=>zi (nbl wr O) b4
   by_cases hx3:xk=3
   ·subst hx3;have e:=G7 (U.zeR ns y j l1 _ HX.o rfl done R o.o);clear o;go_wp2_with fail;go_region;go_wp2_with (at_builtin;refine yh _ rfl _ _ 57 rfl (w.heap.size+1) 9 i0 R5 1 16 underlying57 hi e1 e2 e3 rfl (by decide) _ done.length (U.strCells done) rfl ((f.alloc _).alloc _) (G8 (wr.heap.size+1) 0) 1 1 [S9 xt] rfl rfl ?_ ?_ ?_ ?_ ?_ ?_)
    ·exact LQ _ _ _ _
    ·intro u hu;simp at hu;subst hu;rfl
    ·unfold maxLen;omega
    ·omega
    ·simp;omega
    intro v' w1 t s _;have e0:=G7 (HL.o.grown2 f _ _ s);have C:w1.ownsRow (w.heap.size+1) 9 1 v' (done++[xt]).length (U.strCells (done++[xt])):=by rw[U.Ga,qE,d7];exact t
    clear t s f e5 e7 d4 d0 d1 d2 d3 q2 s2 c3 b1 b2 b3 b4;go_wp2;go_roundw
    case rel=>exact⟨j+1,done++[xt],by omega,by go_num,by simp;omega,e.o,C,e0.o⟩
    case measure=>simp[intOf];omega
   have r:=U.zeS ns y j l1 _ HX.o hx3 done R o.o;subst r;have g5:(xk != 3)=true:=by simp[hx3]
   clear o;go_wp2_with fail;go_region
   all_goals
    go_wp2;go_ret2;exact⟨_,rfl,(HL.o.2.alloc (by omega) _).drew,qF _ _ _ _⟩
  have r:=U.zeQ ns y j (by rw[H.o];exact hlt) done R o.o;subst r;clear o;go_wp2;go_ret2;exact⟨_,rfl,HL.o.2,xS f (by omega)⟩
def qA(w:J)(a:Nat)(c b:Bool):Prop:=w.heap[a]?=some (L8 #[.bool c,.bool b] 175 (0,0))
theorem qA.cell{w:J}{a:Nat}{c b:Bool}(h:qA w a c b):w.cell? (G8 a 0)=some (.bool c)/\w.cell? (G8 a 1)=some (.bool b)/\w.frozen? (G8 a 0)=false/\w.frozen? (G8 a 1)=false:=
 ⟨(zg h 0).1,(zg h 1).1,(zg h 0).2,(zg h 1).2⟩
theorem qA.shape{w:J}{a:Nat}{c b:Bool}(h:qA w a c b)(x:Bool):qA (w.setCell (G8 a 0) (.bool x)) a x b:=yC w a 0 _ _ _ h
theorem qA.pat{w:J}{a:Nat}{b c:Bool}(h:qA w a b c)(x:Bool):qA (w.setCell (G8 a 1) (.bool x)) a b x:=yC w a 1 _ _ _ h
theorem qA.below{w w':J}{a:Nat}{c b:Bool}(h:qA w a c b)(d:BQ w w'):qA w' a c b:=(d.block a (zt h)).trans h
theorem But.trans{a b c:J}{r:Option Nat}(h:a.grownBy b r)(k:b.grownBy c r):a.grownBy c r:=
 ⟨k.os.trans h.os,k.tape.trans h.tape,k.output.trans h.output,xD h.size k.size,λi d e=>(k.block i (xO d h.size) e).trans (h.block i d e)⟩
theorem But.of{a b:J}(r:Option Nat)(h:BQ a b):a.grownBy b r:=⟨h.os,h.tape,h.output,h.size,λi c _=>h.block i c⟩
theorem But.set(a:J)(b o:Nat)(u:Y):a.grownBy (a.setCell (G8 b o) u) (some b):=
 ⟨rfl,rfl,rfl,by simp[World.setCell],λi _ c=>qy _ _ _ _ (λe=>c (by simp only at e;rw[e]))⟩
theorem But.below{a b:J}{c B:Nat}(h:a.grownBy b (some c))(d:B<=a.heap.size)(f:B<=c):Below B a b:=
 ⟨h.os,h.tape,h.output,h.size,λi g=>h.block i (by omega) (λe=>by simp only[Option.some.injEq]at e;omega)⟩
theorem zb9(s:BY)(w:J)(a:s.size<=maxLen)(h:60<s.size):R8 53 #[S9 s] w λe b=>e=.returned (.tuple #[R4,T9])/\b=w:=by
 unfold maxLen at a;go_enter func53,ntmps53;go_wp2;go_ret2;exact⟨rfl,rfl⟩
theorem dV(s:BY)(w:J)(f:s.size<=12000)(x:Bool)(d:U.qD s=x):R8 53 #[S9 s] w λe a=>∃v,e=.returned (.tuple #[v,.bool x])/\BQ w a:=by
 subst d;unfold U.qD
 by_cases h:60<s.size
 ·have c:(U.parts s).isSome=false:=by unfold U.parts;rw[zb h];rfl
  rw[c];apply(zb9 s w (by unfold maxLen;omega) h).mono;rintro e a⟨rfl,rfl⟩;exact⟨_,rfl,zf _ _⟩
 apply(dU s w (by omega)).mono;rintro e a⟨v,rfl,b,_⟩;exact⟨v,rfl,b⟩
def aX(w:J)(a:Nat)(d c:Bool)(R:Option (List BY))(e:Ending)(w':J):Prop:=
 ∃b,e=.returned b/\w.grownBy w' (some a)/\qA w' a (d || !R.isSome) (c || !((R.getD []).all U.qD))/\w'.ownsRow w.heap.size 9 1 b (R.getD []).length (U.strCells (R.getD []))
theorem jb{w:J}{base:Nat}{b:Y}{l:List BY}(h:w.ownsRow base 9 1 b l.length (U.strCells l)):∃a c,b=TL a l.length c:=by
 obtain⟨a,c,e,_⟩:=jU h;exact⟨a,c,e⟩
theorem Er(k:Int)(base b gg cap:Nat)(ns:List U.Node)(m:Nat)(sh r:Bool)(w:J)(h:ZM w base b gg cap ns)(hk:k<ns.length)(a7:-1<=k)(hf:qA w m sh r):R8 172 #[RG b 0,R9 k,RG m 0] w (aX w m sh r (U.xq ns k)):=by
 have f:∀s ∈ (U.xq ns k).getD [],s.size<=12000:=by
  cases e:U.xq ns k with
  | none=>simp
  | some l=>exact U.Gh ns 12000 (λi n hi=>(h.small i n hi).2.2) k l e
 have D:((U.xq ns k).getD []).length<=10:=by
  cases e:U.xq ns k with
  | none=>simp
  | some l=>exact U.Gg ns k l e
 obtain⟨R,hR⟩:=Nm (U.xq ns k)
 have HS:G6 (∀w,ZM w base b gg cap ns->R8 205 #[RG b 0,R9 k] w (bi w R)):=by
  intro w h;rw[<- hR];exact Gi k base b gg cap ns w h hk a7
 rw[hR]at f D |-;have⟨HH,HF,T⟩:=M4 h hf f;have N:m<w.heap.size:=zt hf;clear h hf hR f;go_enter func172,ntmps172;go_wp2_with fail;apply(HS.o _ HH.o).mono;rintro e S⟨lv,rfl,M,d⟩;have f1:=HF.o.below M;obtain⟨c7,c8,c9,d0⟩:=f1.cell;have⟨F1,B1⟩:=D5 f1 M;obtain⟨l,hl⟩:=Nm (R.getD []);rw[hl]at d D;obtain⟨la,lc,rfl⟩:=jb d;have⟨t,W⟩:=D5 hl d;obtain⟨x,hx⟩:=Nm R.isSome;have V:=G7 hx;rw[hx];clear f1 M hl d hx HS HH
 cases x with
 | true=>
  obtain⟨K,o⟩:=Nm ((sh || !true))
  have a:G6 (qA S m K r/\w.grownBy S (some m)/\S.ownsRow w.heap.size 9 1 (TL la l.length lc) l.length (U.strCells l)):=by
   refine⟨?_,But.of _ B1.o,W.o⟩;rw[<- o];simpa using F1.o
  have G:=G7 o;clear o;go_wp2_with fail
  go_loopw [9] (λQ wr=>∃(j:Nat),j<=l.length/\Q=R9 j/\qA wr m K (r || !((l.take j).all U.qD))/\w.grownBy wr (some m)/\wr.ownsRow w.heap.size 9 1 (TL la l.length lc) l.length (U.strCells l)) (λQ _=>l.length-(intOf Q).toNat)
  case atStart=>exact⟨0,zD _,rfl,by simpa using a.o.1,a.o.2.1,a.o.2.2⟩
  case round=>
   obtain⟨j,hj,rfl,C,rg,ro⟩:=hrel;obtain⟨P,L⟩:=Nm ((r || !((l.take j).all U.qD)));rw[L]at C;obtain⟨b3,b4,b5,b6⟩:=C.cell;have⟨A,I,B,u⟩:=M5 C rg ro L;clear C rg ro L a
   by_cases hlt:j<l.length
   ·obtain⟨b0,b1,z,p⟩:=jU B.o;simp only[Value.slice.injEq,QW]at z;obtain⟨rfl,rfl⟩:=z;obtain⟨g,rfl,X⟩:=p j hlt;rw[U.JE l j hlt]at X;have q:=T.o l[j] (by rw[t.o];exact qm hlt);have e:=U.Ep l r j hlt;rw[u.o]at e;obtain⟨s,O⟩:=Nm (l[j]);rw[O]at X q e
    cases hy:U.qD s with
    | true=>
     rw[hy]at e;simp only[aC,ZI]at e;have⟨E,H⟩:=D5 e hy;clear p O e hy;go_wp2_with(go_at_call 53;apply(dV s _ q true H.o).mono;rintro e w2⟨pv,rfl,c⟩);go_roundw
     case rel=>exact⟨j+1,by omega,by go_num,by rw[E.o];exact A.o.below c,But.trans I.o (But.of _ c),ownsRow_below B.o c⟩
     case measure=>simp[intOf];omega
    | false=>
     rw[hy]at e;simp only[aB,Bool.or_true]at e;have⟨E,H⟩:=D5 e hy;clear p O e hy;go_wp2_with(go_at_call 53;apply(dV s _ q false H.o).mono;rintro e w2⟨pv,rfl,c⟩;obtain⟨b7,b8,b9,c0⟩:=(A.o.below c).cell);go_roundw
     case rel=>exact⟨j+1,by omega,by go_num,by rw[E.o];exact(A.o.below c).pat true,But.trans (But.trans I.o (But.of _ c)) (But.set _ _ _ _),dS (ownsRow_below B.o c) N _⟩
     case measure=>simp[intOf];omega
   ·have e:=U.Eo l r j hlt;rw[u.o]at e;have v:(qA wr m K (r || !((R.getD []).all U.qD))):=by rw[t.o,<- e];exact A.o
    have F:=G7 v;clear e v;go_wp2;go_ret;exact⟨_,rfl,I.o,by rw[V.o,G.o];exact F.o,by rw[t.o];exact B.o⟩
 | false=>
  obtain⟨K,o⟩:=Nm ((sh || !false))
  have a:G6 (qA (S.setCell (G8 m 0) L6) m K r/\w.grownBy (S.setCell (G8 m 0) L6) (some m)/\(S.setCell (G8 m 0) L6).ownsRow w.heap.size 9 1 (TL la l.length lc) l.length (U.strCells l)):=by
   refine⟨?_,But.trans (But.of _ B1.o) (But.set _ _ _ _),dS W.o N _⟩;rw[<- o];simpa using F1.o.shape true
  have G:=G7 o;clear o;go_wp2_with fail
  go_loopw [9] (λQ wr=>∃(j:Nat),j<=l.length/\Q=R9 j/\qA wr m K (r || !((l.take j).all U.qD))/\w.grownBy wr (some m)/\wr.ownsRow w.heap.size 9 1 (TL la l.length lc) l.length (U.strCells l)) (λQ _=>l.length-(intOf Q).toNat)
  case atStart=>exact⟨0,zD _,rfl,by simpa using a.o.1,a.o.2.1,a.o.2.2⟩
  case round=>
   obtain⟨j,hj,rfl,C,rg,ro⟩:=hrel;obtain⟨P,L⟩:=Nm ((r || !((l.take j).all U.qD)));rw[L]at C;obtain⟨b3,b4,b5,b6⟩:=C.cell;have⟨A,I,B,u⟩:=M5 C rg ro L;clear C rg ro L a
   by_cases hlt:j<l.length
   ·obtain⟨b0,b1,z,p⟩:=jU B.o;simp only[Value.slice.injEq,QW]at z;obtain⟨rfl,rfl⟩:=z;obtain⟨g,rfl,X⟩:=p j hlt;rw[U.JE l j hlt]at X;have q:=T.o l[j] (by rw[t.o];exact qm hlt);have e:=U.Ep l r j hlt;rw[u.o]at e;obtain⟨s,O⟩:=Nm (l[j]);rw[O]at X q e
    cases hy:U.qD s with
    | true=>
     rw[hy]at e;simp only[aC,ZI]at e;have⟨E,H⟩:=D5 e hy;clear p O e hy;go_wp2_with(go_at_call 53;apply(dV s _ q true H.o).mono;rintro e w2⟨pv,rfl,c⟩);go_roundw
     case rel=>exact⟨j+1,by omega,by go_num,by rw[E.o];exact A.o.below c,But.trans I.o (But.of _ c),ownsRow_below B.o c⟩
     case measure=>simp[intOf];omega
    | false=>
     rw[hy]at e;simp only[aB,Bool.or_true]at e;have⟨E,H⟩:=D5 e hy;clear p O e hy;go_wp2_with(go_at_call 53;apply(dV s _ q false H.o).mono;rintro e w2⟨pv,rfl,c⟩;obtain⟨b7,b8,b9,c0⟩:=(A.o.below c).cell);go_roundw
     case rel=>exact⟨j+1,by omega,by go_num,by rw[E.o];exact(A.o.below c).pat true,But.trans (But.trans I.o (But.of _ c)) (But.set _ _ _ _),dS (ownsRow_below B.o c) N _⟩
     case measure=>simp[intOf];omega
   have e:=U.Eo l r j hlt;rw[u.o]at e;have v:(qA wr m K (r || !((R.getD []).all U.qD))):=by rw[t.o,<- e];exact A.o
   have F:=G7 v;clear e v;go_wp2;go_ret;exact⟨_,rfl,I.o,by rw[V.o,G.o];exact F.o,by rw[t.o];exact B.o⟩
end Go.Proofs.YtfjpcldndaiifaaGreatDoor
