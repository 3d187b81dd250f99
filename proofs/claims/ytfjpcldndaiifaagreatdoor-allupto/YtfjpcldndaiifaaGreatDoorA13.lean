/- P -/
import Derived.Test.YtfjpcldndaiifaaGreatDoorA12
open Go.Proofs.Tryz
set_option maxRecDepth 100000
set_option maxHeartbeats 2000000
namespace Go.Proofs.YtfjpcldndaiifaaGreatDoor
open Go.RowKit
def VL(w:J)(b:Nat):Prop:=w.cell? (G8 b 0)=some R5/\w.cell? (G8 b 1)=some .nilIface/\w.frozen? (G8 b 0)=false/\w.frozen? (G8 b 1)=false
theorem VL.same{w w':J}{b:Nat}(h:VL w b)(c:w'.heap[b]?=w.heap[b]?):VL w' b:=
 ⟨by rw[Xd (w:=w) (a:=G8 b 0) c];exact h.1,by rw[Xd (w:=w) (a:=G8 b 1) c];exact h.2.1,by rw[vw (w:=w) (a:=G8 b 0) c];exact h.2.2.1,by rw[vw (w:=w) (a:=G8 b 1) c];exact h.2.2.2⟩
structure MAt (w:J) (R:Nat) (s:BY) (q:Nat) (w':J):Prop where
 grown:w.grownBy w' (some R)
 rd:zw w' R s q
 seq:qO w'
 box:VL w' w.heap.size
 size:w.heap.size+1<=w'.heap.size
theorem MAt.next{w:J}{R:Nat}{s:BY}{q d:Nat}{w1 c:J}(f:R<w.heap.size)(b:R≠5)(h:MAt w R s q w1)(a:w1.grownBy c (some R))(e:zw c R s d):MAt w R s d c:=
 ⟨qg h.grown a,e,h.seq.grown a b,h.box.same (a.block _ (by have:=h.size;omega) (by simp;omega)),xD h.size a.size⟩
theorem MAt.below{w:J}{R:Nat}{s:BY}{q:Nat}{w1 c:J}(h:MAt w R s q w1)(a:BQ w1 c):MAt w R s q c:=by
 have d:w1.grownBy c none:=⟨a.os,a.tape,a.output,a.size,λk b _=>a.block k b⟩;exact⟨qg h.grown ⟨a.os,a.tape,a.output,a.size,λk b _=>a.block k b⟩,h.rd.same (a.block R h.rd.lt),h.seq.same (a.block _ h.seq.lt),h.box.same (d.block _ (by have:=h.size;omega) (by simp)),xD h.size a.size⟩
theorem RD{a:List (BY×Y)}{nm:BY}(h:a.any (λm=>m.1.toList==nm.toList)=false):xW a nm=.nilIface:=by
 unfold xW
 have:a.find? (λm=>m.1.toList==nm.toList)=none:=by
  rw[Y5];intro m b c;rw[VG]at h;exact h m b c
 rw[this]
theorem RH{a:List (BY×Y)}{nm:BY}(b:∀m ∈ a,∃T x,m.2=.iface T x)(h:a.any (λm=>m.1.toList==nm.toList)=true):∃T x,xW a nm=.iface T x:=by
 unfold xW
 cases hf:a.find? (λm=>m.1.toList==nm.toList) with
 | none=>
  rw[Y5]at hf;rw[Q3]at h;obtain⟨m,c,d⟩:=h;exact absurd d (hf m c)
 | some m=>exact b m (aO hf)
theorem sj{α β:Type}{a:List (BY×α)}{acc:List (BY×β)}(h:a.map Prod.fst=acc.map Prod.fst)(nm:BY):a.any (λm=>m.1.toList==nm.toList)=acc.any (λm=>m.1.toList==nm.toList):=by
 have b:a.any (λm=>m.1.toList==nm.toList)=(a.map Prod.fst).any (λm=>m.toList==nm.toList):=by rw[XP];rfl
 have c:acc.any (λm=>m.1.toList==nm.toList)=(acc.map Prod.fst).any (λm=>m.toList==nm.toList):=by rw[XP];rfl
 rw[b,c,h]
def Uh(s:BY)(acc:List (BY×Z.V))(q:Nat):Bool:=match Z.jI s.data.toList q with
 | .err _ _=>false
 | .ok t a=>if acc.any (λx=>x.1.toList==t.toList) then false
  else if Z.zk s.data.toList (Z.skip s.data.toList a)≠58 then false
  else starts s (Z.skip s.data.toList (Z.skip s.data.toList a+1))
def XU(w:J)(R:Nat)(s:BY)(sb:Bool)(r:Z.Res (BY×Z.V))(e:Ending)(w':J):Prop:=match r with
 | .ok m q=>∃u,e=.returned (.tuple #[.agg #[S9 m.1,u],.nilIface])/\ValAt w' (Blk w w') m.2 u/\w.grownBy w' (some R)/\zw w' R s q/\qO w'
 | .err c q=>∃x u,e=.returned (.tuple #[.agg #[S9 x,u],Qn c q])/\((sb=true->∃T y,u=.iface T y)/\(sb=false->u=.nilIface))/\w.grownBy w' (some R)
theorem XU.of{w w':J}{R:Nat}{s:BY}{sb a:Bool}{r b:Z.Res (BY×Z.V)}{e:Ending}(h:XU w R s sb r e w')(c:b=r)(d:a=sb):XU w R s a b e w':=c ▸ d ▸ h
theorem dY(s:BY)(R p:Nat)(w:J)(d:zw w R s p)(b:p<=s.size)(f:s.size<=4000)(c:qO w)(a:R≠5)(r:Z.Res BY)(h:Z.jI s.data.toList p=r):R8 152 #[RG R 0] w λe g=>Jb w R s r e g:=by
 rw[<- h];exact zcz s R p w d b f c a
theorem za0(s:BY)(R p d f F:Nat)(w:J)(hr:zw w R s p)(hq:qO w)(A:R≠5)(hp:p<=s.size)(hs:s.size<=4000)(hd:d<=8)(hv:Xc s R F)(hf:f<F)(f5:2*(s.size-p)<f)
  (us:List (BY×Y))(acc:List (BY×Z.V))(hn:us.map Prod.fst=acc.map Prod.fst)(d0:∀m ∈ us,∃T x,m.2=.iface T x)(f8:us.length<=4000)(ao:Option Addr)(cap:Nat)(hm:∀i,w.grownBy i (some R)->YN i ao us):R8 190 #[RG R 0,R9 (d:Int),TL ao us.length cap] w λe i=>XU w R s (Uh s acc p) (Z.Yd s.data.toList d f acc p) e i:=by
 have E:=hr.lt;have e2:=G7 hq.lt
 have h0:MAt w R s p (w.alloc (L8 #[R5,.nilIface] 219)):=by
  have hg:=yG w (L8 #[R5,.nilIface] 219) (some R);have hn:=zA w (L8 #[R5,.nilIface] 219);refine⟨hg,hr.alloc _,hq.grown hg A,⟨?_,?_,?_,?_⟩,by simp⟩
  ·simp only[World.cell?,hn];rfl
  ·simp only[World.cell?,hn];rfl
  ·simp only[World.frozen?,hn];rfl
  simp only[World.frozen?,hn];rfl
 have n:Z.Yd s.data.toList d f acc p=Z.Yd s.data.toList d f acc p:=rfl
 conv at n=>rhs;unfold Z.Yd
 have B:Uh s acc p=Uh s acc p:=rfl
 conv at B=>rhs;unfold Uh
 clear hr hq
 cases hx:Z.jI s.data.toList p with
 | err c q=>
  rw[hx]at n B;simp only at n B;have hc:=Z.EI hx;subst hc
  have H:=(dY s R p _ h0.rd hp hs h0.seq A _ hx).mono (R':=λe i=>e=.returned (.tuple #[R5,.iface 148 (.agg #[R9 (q:Int)])])/\MAt w R s q i) (by
   rintro e i⟨rfl,h1,D,h3⟩;exact⟨rfl,h0.next E A h1 D⟩)
  have⟨HE,HS⟩:=D5 n B;clear n B hx h0;go_enter func190,ntmps190;go_wp2_with(go_at_call 152;apply H.mono;rintro e g⟨rfl,l⟩;have d5:=G7 l;obtain⟨k0,k1,k2,k3⟩:=l.box;clear l);refine zG (v := .tuple #[.agg #[R5,.nilIface],.iface 148 (.agg #[R9 (q:Int)])]) (by simp[results,results190,go_sem,k0,k1]) rfl ?_;refine XU.of ?_ HE.o HS.o;exact⟨_,_,rfl,⟨λh=>absurd h (by decide),λ_=>rfl⟩,QP d5.o.grown ((uP _ _ F7).trans (uP _ _ F7))⟩
 | ok t L=>
  rw[hx]at n B;simp only at n B;have c7:=Z.dX hx;have f7:=(Z.dW hx).1;rw[U.zF]at c7
  have H:=(dY s R p _ h0.rd hp hs h0.seq A _ hx).mono (R':=λe i=>e=.returned (.tuple #[S9 t,.nilIface])/\MAt w R s L i) (by
   rintro e i⟨rfl,h1,D,h3⟩;exact⟨rfl,h0.next E A h1 D⟩)
  have y:∀g,MAt w R s L g->R8 59 #[TL ao us.length cap,S9 t] g λe i=>e=.returned (xW us t)/\MAt w R s L i:=λg h=>by
   apply(lH us ao cap t g (by omega) (hm g h.grown) d0).mono;rintro e i⟨rfl,hb⟩;exact⟨rfl,h.below hb⟩
  clear hx h0
  cases hany:acc.any (λx=>x.1.toList==t.toList) with
  | true=>
   rw[hany,zb rfl]at n B;obtain⟨T,x,O⟩:=RH d0 ((sj hn t).trans hany);simp only[O]at y;have⟨HE,HS⟩:=D5 n B;clear n B hany O;go_enter func190,ntmps190
   go_wp2_with(first
    |(go_at_call 152;apply H.mono;rintro e g⟨rfl,l⟩)
    |(go_at_call 59;apply(y g l).mono;rintro e w2⟨rfl,o⟩;have d6:=G7 o;obtain⟨k0,k1,k2,k3⟩:=o.box;obtain⟨g1,g2,g3⟩:=o.rd;clear l o))
   have f0:1<=(L:Int):=by omega
   go_region
   all_goals
    go_wp2;refine zG (v := .tuple #[.agg #[R5,.nilIface],.iface 150 (.agg #[R9 ((L:Int)-1)])]) (by simp[results,results190,go_sem,k0,k1]) rfl ?_;refine XU.of ?_ HE.o HS.o;refine⟨_,_,by rw[PU,show ((L-1:Nat):Int)=(L:Int)-1 by omega],⟨λh=>absurd h (by decide),λ_=>rfl⟩,?_⟩;have P:zQ w.heap.size R w2 ((w2.setCell (G8 w.heap.size 0) R5).setCell (G8 w.heap.size 1) .nilIface):=(uP _ _ F7).trans (uP _ _ F7);exact QP d6.o.grown ⟨P.os,P.tape,P.output,P.size,P.block⟩
  | false=>
   rw[hany,za (by decide)]at n B;have O:=RD ((sj hn t).trans hany);simp only[O]at y;have I:=Z.uX s.data.toList L (by rw[U.zF];omega);rw[U.zF]at I;have c8:=Z.jV s.data.toList L;obtain⟨r,b6⟩:=Nm (Z.skip s.data.toList L);rw[b6]at I c8 n B
   have a7:∀g,MAt w R s L g->R8 99 #[RG R 0] g λe i=>e=.returned (.tuple #[])/\MAt w R s r i:=λg h=>by
    apply(Vq s R L g h.rd c7 hs).mono;rintro e i⟨rfl,h4,h5⟩;rw[b6]at h5;exact⟨rfl,h.next E A h4 h5⟩
   clear hany O b6
   by_cases c58:Z.zk s.data.toList r=58
   ·rw[za (by simp[c58])]at n B
    have X:Z.qG s.data.toList ((ByteArray.mk #[58]).data.toList.map UInt8.toNat) r=.ok () (r+1):=by
     show Z.qG s.data.toList [58] r=_;simp only[Z.qG];rw[zb c58]
    have f1:r<s.size:=by
     have:=Z.qH s.data.toList r (by omega)
     rwa [U.zF]at this
    have W:∀g,MAt w R s r g->R8 153 #[RG R 0,S9 ⟨#[58]⟩] g λe i=>e=.returned .nilIface/\MAt w R s (r+1) i:=λg h=>by
     apply(JF s ⟨#[58]⟩ R r g h.rd I hs (by decide) (by decide) _ X).mono;rintro e i⟨rfl,h1,D,h3⟩;exact⟨rfl,h.next E A h1 D⟩
    have S:=Z.uX s.data.toList (r+1) (by rw[U.zF];omega);rw[U.zF]at S;have c9:=Z.jV s.data.toList (r+1);have Q:=Z.ZE s.data.toList (r+1);obtain⟨q3,b7⟩:=Nm (Z.skip s.data.toList (r+1));rw[b7]at S c9 Q n B
    have b8:∀g,MAt w R s (r+1) g->R8 99 #[RG R 0] g λe i=>e=.returned (.tuple #[])/\MAt w R s q3 i:=λg h=>by
     apply(Vq s R (r+1) g h.rd (by omega) hs).mono;rintro e i⟨rfl,h4,h5⟩;rw[b7]at h5;exact⟨rfl,h.next E A h4 h5⟩
    have j:=λg (h:MAt w R s q3 g)=>hv f hf (d+1) q3 g h.rd h.seq S (by omega) (by omega) Q (by omega);simp only[show ((d+1:Nat):Int)=(d:Int)+1 by omega]at j;clear b7 hv X c58 Q
    cases hvx:Z.qL s.data.toList f (d+1) q3 with
    | ok v q4=>
     rw[hvx]at n;simp only[hvx]at j;simp only at n;have HE:=G7 n
     have z:∀g,MAt w R s q3 g->R8 100 #[RG R 0,R9 ((d:Int)+1)] g λe i=>∃T x,e=.returned (.tuple #[.iface T x,.nilIface])/\ValAt i (Blk g i) v (.iface T x)/\MAt w R s q4 i:=λg h=>by
      apply(j g h).mono;rintro e i⟨u,rfl,h1,D,h3⟩;obtain⟨T,x,rfl⟩:=h1.iface;exact⟨T,x,rfl,h1,h.next E A D h3⟩
     clear n B j hvx;go_enter func190,ntmps190
     go_wp2_with(first
      |(go_at_call 152;apply H.mono;rintro e g⟨rfl,l⟩)
      |(go_at_call 59;apply(y g l).mono;rintro e w2⟨rfl,o⟩)
      |(go_at_call 99;apply(b8 w4 C).mono;rintro e w5⟨rfl,K⟩)
      |(go_at_call 99;apply(a7 w2 o).mono;rintro e w3⟨rfl,G⟩)
      |(go_at_call 153;apply(W w3 G).mono;rintro e w4⟨rfl,C⟩)
      |(go_at_call 100;apply(z w5 K).mono;rintro e w6⟨T,x,rfl,e4,b4⟩;have b1:=G7 b4;obtain⟨k0,k1,k2,k3⟩:=b4.box;have f2:=K.size;clear b4))
     refine zG (v := .tuple #[.agg #[S9 t,.iface T x],.nilIface]) (by simp[results,results190,go_sem,k0,k1]) rfl ?_;refine XU.of (sb:=Uh s acc p) ?_ HE.o rfl;have d9:∀a b,zQ w.heap.size R w6 ((w6.setCell (G8 w.heap.size 0) a).setCell (G8 w.heap.size 1) b):=λa b=>(uP _ _ F7).trans (uP _ _ F7);have b9:∀a b k,k≠w.heap.size->((w6.setCell (G8 w.heap.size 0) a).setCell (G8 w.heap.size 1) b).heap[k]?=w6.heap[k]?:=λa b k hk=>(eQ _ _ _ _ _ hk).trans (eQ _ _ _ _ _ hk);refine⟨.iface T x,rfl,e4.move (λb hb=>⟨by have:=hb.1;omega,by have:=hb.2;rw[Yi,Yi];exact this⟩) (λb hb=>b9 _ _ b (by have:=hb.1;omega)),QP b1.o.grown (d9 _ _),b1.o.rd.same (b9 _ _ R (by omega)),b1.o.seq.same (b9 _ _ _ (by have:=e2.o;omega))⟩
    | err c q4=>
     rw[hvx]at n;simp only[hvx]at j;simp only at n;obtain⟨T2,M⟩:=V7 c q4;have⟨HE,HS⟩:=D5 n B;have HT:=G7 M
     cases hsb:starts s q3 with
     | true=>
      rw[hsb]at HS;simp only[hsb]at j
      have z:∀g,MAt w R s q3 g->R8 100 #[RG R 0,R9 ((d:Int)+1)] g λe i=>(∃T x,e=.returned (.tuple #[.iface T x,.iface T2 (.agg #[R9 (q4:Int)])]))/\w.grownBy i (some R)/\VL i w.heap.size:=λg h=>by
       apply(j g h).mono;rintro e i⟨u,rfl,⟨ha,hb⟩,D⟩;have b2:=h.box.same (D.block _ (by have:=h.size;omega) (by simp;omega));obtain⟨T,x,rfl⟩:=ha rfl;exact⟨⟨T,x,by rw[M]⟩,qg h.grown D,b2⟩
      clear n B j hvx M;go_enter func190,ntmps190
      go_wp2_with(first
       |(go_at_call 152;apply H.mono;rintro e g⟨rfl,l⟩)
       |(go_at_call 59;apply(y g l).mono;rintro e w2⟨rfl,o⟩)
       |(go_at_call 99;apply(b8 w4 C).mono;rintro e w5⟨rfl,K⟩)
       |(go_at_call 99;apply(a7 w2 o).mono;rintro e w3⟨rfl,G⟩)
       |(go_at_call 153;apply(W w3 G).mono;rintro e w4⟨rfl,C⟩)
       |(go_at_call 100;apply(z w5 K).mono;rintro e w6⟨⟨T,x,rfl⟩,b3,N⟩;obtain⟨k0,k1,k2,k3⟩:=N))
      refine zG (v := .tuple #[.agg #[S9 t,.iface T x],.iface T2 (.agg #[R9 (q4:Int)])]) (by simp[results,results190,go_sem,k0,k1]) rfl ?_;refine XU.of ?_ HE.o HS.o;exact⟨t,.iface T x,by rw[HT.o],⟨λ_=>⟨T,x,rfl⟩,λh=>absurd h (by decide)⟩,QP b3 ((uP _ _ F7).trans (uP _ _ F7))⟩
     | false=>
      rw[hsb]at HS;simp only[hsb]at j
      have z:∀g,MAt w R s q3 g->R8 100 #[RG R 0,R9 ((d:Int)+1)] g λe i=>e=.returned (.tuple #[.nilIface,.iface T2 (.agg #[R9 (q4:Int)])])/\w.grownBy i (some R)/\VL i w.heap.size:=λg h=>by
       apply(j g h).mono;rintro e i⟨u,rfl,⟨ha,hb⟩,D⟩;have b2:=h.box.same (D.block _ (by have:=h.size;omega) (by simp;omega));obtain rfl:=hb rfl;exact⟨by rw[M],qg h.grown D,b2⟩
      clear n B j hvx M;go_enter func190,ntmps190
      go_wp2_with(first
       |(go_at_call 152;apply H.mono;rintro e g⟨rfl,l⟩)
       |(go_at_call 59;apply(y g l).mono;rintro e w2⟨rfl,o⟩)
       |(go_at_call 99;apply(b8 w4 C).mono;rintro e w5⟨rfl,K⟩)
       |(go_at_call 99;apply(a7 w2 o).mono;rintro e w3⟨rfl,G⟩)
       |(go_at_call 153;apply(W w3 G).mono;rintro e w4⟨rfl,C⟩)
       |(go_at_call 100;apply(z w5 K).mono;rintro e w6⟨rfl,b3,N⟩;obtain⟨k0,k1,k2,k3⟩:=N))
      refine zG (v := .tuple #[.agg #[S9 t,.nilIface],.iface T2 (.agg #[R9 (q4:Int)])]) (by simp[results,results190,go_sem,k0,k1]) rfl ?_;refine XU.of ?_ HE.o HS.o;exact⟨t,.nilIface,by rw[HT.o],⟨λh=>absurd h (by decide),λ_=>rfl⟩,QP b3 ((uP _ _ F7).trans (uP _ _ F7))⟩
   rw[zb c58]at n B
   have X:Z.qG s.data.toList ((ByteArray.mk #[58]).data.toList.map UInt8.toNat) r=.err 2 r:=by
    show Z.qG s.data.toList [58] r=_;simp only[Z.qG];rw[za c58]
   have W:∀g,MAt w R s r g->R8 153 #[RG R 0,S9 ⟨#[58]⟩] g λe i=>e=.returned (.iface 148 (.agg #[R9 (r:Int)]))/\MAt w R s r i:=λg h=>by
    apply(JF s ⟨#[58]⟩ R r g h.rd I hs (by decide) (by decide) _ X).mono;rintro e i⟨rfl,h1,D,h3⟩;exact⟨rfl,h.next E A h1 D⟩
   have⟨HE,HS⟩:=D5 n B;clear n B X c58 hv;go_enter func190,ntmps190
   go_wp2_with(first
    |(go_at_call 152;apply H.mono;rintro e g⟨rfl,l⟩)
    |(go_at_call 59;apply(y g l).mono;rintro e w2⟨rfl,o⟩)
    |(go_at_call 99;apply(a7 w2 o).mono;rintro e w3⟨rfl,G⟩)
    |(go_at_call 153;apply(W w3 G).mono;rintro e w4⟨rfl,C⟩;have d7:=G7 C;obtain⟨k0,k1,k2,k3⟩:=C.box;clear C))
   refine zG (v := .tuple #[.agg #[R5,.nilIface],.iface 148 (.agg #[R9 (r:Int)])]) (by simp[results,results190,go_sem,k0,k1]) rfl ?_;refine XU.of ?_ HE.o HS.o;exact⟨_,_,rfl,⟨λh=>absurd h (by decide),λ_=>rfl⟩,QP d7.o.grown ((uP _ _ F7).trans (uP _ _ F7))⟩
def Xw(a:List (BY×Y)):List Y:=a.flatMap λm=>[S9 m.1,m.2]
theorem zaX(a:List (BY×Y)):(Xw a).length=a.length*2:=by
 induction a with
 | nil=>rfl
 | cons m a b=>unfold Xw at *;simp only[ry,qE,Qf,b];simp;omega
theorem zaV(a:List (BY×Y))(m:BY×Y):Xw (a++[m])=Xw a++[S9 m.1,m.2]:=by
 unfold Xw;simp
theorem zaW(a:List (BY×Y))(j:Nat)(x:BY×Y)(h:a[j]?=some x):(Xw a)[j*2]?=some (S9 x.1)/\(Xw a)[j*2+1]?=some x.2:=by
 induction a generalizing j with
 | nil=>simp at h
 | cons m a b=>
  cases j with
  | zero=>simp at h;subst h;exact⟨rfl,rfl⟩
  | succ j=>
   have:=b j (by simpa using h)
   have e:Xw (m::a)=S9 m.1::m.2::Xw a:=rfl;rw[e,show (j+1)*2=j*2+1+1 by omega,show j*2+1+1+1=(j*2+1)+1+1 by omega]
   simpa using this
theorem Da{w:J}{base n cap:Nat}{ao:Option Addr}{a:List (BY×Y)}(h:w.ownsRow base 219 2 (TL ao n cap) n (Xw a)):YN w ao a:=by
 rcases h.2 with⟨h1,h2⟩|⟨g,c,cur,h1,hB,hg,hrest⟩
 ·have:=h.1
  rw[zaX]at this;exact .inl (Yx (by omega))
 injection h1 with h1 h2 h3
 subst h1;have e:=World.ownsRow.cells h (g:=g) rfl;refine .inr ⟨g,0,rfl,λj k=>?_⟩;have l:a[j]?=some a[j]:=zn k;obtain⟨f,i⟩:=zaW a j _ l;have b:=e _ _ f;have d:=e _ _ i;rw[addr_add]at b d;exact⟨b,by rw[show 0+j*2+1=0+(j*2+1) by omega];exact d⟩
theorem zaY:(prog.info? 219).map (λi=>(i.zero,i.size,i.bytes))=some (some (.agg #[R5,.nilIface]),2,32):=by kernel_rfl
structure XW (w0:J) (R:Nat) (s:BY) (d:Nat) (acc:List (BY×Z.V)) (q:Nat) (wr:J):Prop where
 rd:zw wr R s q
 seq:qO wr
 grown:w0.grownBy wr (some R)
 size:w0.heap.size+3<=wr.heap.size
 len:acc.length<=q
 cx:wr.cell? (G8 w0.heap.size 0)=some (RG R 0)
 cd:wr.cell? (G8 (w0.heap.size+1) 0)=some (R9 (d:Int))
 row:∃ao cap us,wr.cell? (G8 (w0.heap.size+2) 0)=some (TL ao acc.length cap)/\wr.frozen? (G8 (w0.heap.size+2) 0)=false/\wr.ownsRow (w0.heap.size+3) 219 2 (TL ao acc.length cap) acc.length (Xw us)/\us.map Prod.fst=acc.map Prod.fst /\
  ∀(j:Nat) (x:BY×Z.V) (u:BY×Y),acc[j]?=some x->us[j]?=some u->ValAt wr (λb=>w0.heap.size+3<=b/\b<wr.heap.size/\(Value.slice ao acc.length cap).ownBlock≠some b) x.2 u.2
theorem XW.mv{e:J}{R:Nat}{s:BY}{d:Nat}{acc:List (BY×Z.V)}{q k:Nat}{w w':J}(y:R<e.heap.size)(i:R≠5)(h:XW e R s d acc q w)(z:q<=k)(c:w.grownBy w' (some R))(o:zw w' R s k):XW e R s d acc k w':=by
 obtain⟨l,g,x,c1,c2,c3,m,c4⟩:=h.row;have p:=h.size;have n:=c.size;refine⟨o,h.seq.grown c i,qg h.grown c,by omega,by have:=h.len;omega,c.cell h.cx (by simp;omega),c.cell h.cd (by simp;omega),l,g,x,c.cell c1 (by simp;omega),?_,kL c3 c (by omega),m,λj v u t r=>(c4 j v u t r).move (λb f=>⟨f.1,by omega,f.2.2⟩) (λb f=>c.block b f.2.1 (by simp;omega))⟩;rw[vw (w:=w) (a:=(G8 (e.heap.size+2) 0)) (c.block _ (by show e.heap.size+2<_;omega) (by simp;omega))];exact c2
theorem DF{s:BY}{d f q q2:Nat}{acc:List (BY×Z.V)}{m:BY×Z.V}(r:q<=s.size)(k:2*(s.size-q)<f)(h:Z.Yd s.data.toList d f acc q=.ok m q2):q<q2/\q2<=s.size:=by
 unfold Z.Yd at h
 cases hx:Z.jI s.data.toList q with
 | err c a=>rw[hx]at h;cases h
 | ok t a=>
  rw[hx]at h;simp only at h;have n:=(Z.dW hx).1;have e:=Z.dX hx;have o:=Z.jV s.data.toList a;split at h
  ·cases h
  split at h
  ·cases h
  rename_i i;have g:Z.skip s.data.toList a<s.data.toList.length:=Z.qH s.data.toList _ (by omega);have p:=Z.jV s.data.toList (Z.skip s.data.toList a+1);have j:=Z.uX s.data.toList (Z.skip s.data.toList a+1) (by omega);rw[U.zF]at e g j
  cases hv:Z.qL s.data.toList f (d+1) (Z.skip s.data.toList (Z.skip s.data.toList a+1)) with
  | err c b=>rw[hv]at h;cases h
  | ok v b=>
   rw[hv]at h;injection h with _ he
   have:=Z.fD (l:=s.data.toList) (f:=f) (d:=d+1) (by omega) (by rw[U.zF];omega) (Z.ZE _ _) (by rw[U.zF];omega) hv
   rw[U.zF]at this;omega
theorem zbs(s:BY)(R d F:Nat)(l:J)(hs:s.size<=4000)(hR:R<l.heap.size)(a8:R≠5)(e1:5<l.heap.size)(hd:d<=8)(hv:Xc s R F)(f:Nat)(acc:List (BY×Z.V))(q:Nat)(w:J)(hf:f<F)
  (hi:XW l R s d acc q w)(hq:q<=s.size)(b0:2*(s.size-q)<f):R8 189 #[RG l.heap.size 0,RG (l.heap.size+1) 0,RG (l.heap.size+2) 0] w λe G=>uD (XW l R s d) (VD l R) (Z.stO s.data.toList d f acc q) e G:=by
 obtain⟨i0,b1,b2,b3,b4⟩:=qU zaY;obtain⟨ao,K,us,c1,c2,c3,cn,c4⟩:=hi.row;have cx:=hi.cx;have cd:=hi.cd;have g5:=hi.size;have f2:=hi.len;have c8:us.length=acc.length:=by have:=congrArg List.length cn;simpa using this
 have c9:∀m ∈ us,∃T x,m.2=.iface T x:=λm hm=>by
  obtain⟨j,hj,rfl⟩:=QB hm;exact(c4 j acc[j] us[j] (P7) (zn hj)).iface
 have n:=za0 s R q d f F w hi.rd hi.seq a8 hq hs hd hv hf b0 us acc cn c9 (by omega) ao K (λG hg=>Da (kL c3 hg (by omega)));rw[c8]at n;have hE:Z.stO s.data.toList d f acc q=Z.stO s.data.toList d f acc q:=rfl
 conv at hE=>rhs;unfold Z.stO
 have⟨HI,d7,d8⟩:=M4 hi c4 cn;have z:=G7 (λk y=>World.ownsRow.lt c3 k y);have b8:=G7 (λm q2 hx=>DF (s:=s) (d:=d) (f:=f) (q:=q) (q2:=q2) (acc:=acc) (m:=m) hq b0 hx);have a5:some (l.heap.size+2)≠(Value.slice ao acc.length K).ownBlock:=λe=>by have:=(z.o _ e.symm).1;omega
 have⟨I,N⟩:=D5 a5 e1;clear hi b0 hv c4 a5 c9 cn
 cases hx:Z.Yd s.data.toList d f acc q with
 | ok m q2=>
  obtain⟨o,v⟩:=m;rw[hx]at n hE;simp only at hE;have f1:=b8.o _ q2 hx;have HE:=G7 hE
  have t:=n.mono (R':=λe G=>∃T x,e=.returned (.tuple #[.agg #[S9 o,.iface T x],.nilIface])/\ValAt G (Blk w G) v (.iface T x)/\w.grownBy G (some R)/\zw G R s q2) (by
   rintro e G⟨u,rfl,h1,X,h3,_⟩;obtain⟨T,x,rfl⟩:=h1.iface;exact⟨T,x,rfl,h1,X,h3⟩)
  clear n hx hE;go_enter func189,ntmps189
  go_wp2_with(first
   |(go_at_call 190;apply t.mono;rintro e r⟨T,x,rfl,e4,i,c6⟩;have k1:=i.cell c1 (by simp;omega);have d0:=λO:Obj=>zi (nbl r O) k1;have o1:=kL c3 i (by omega))
   | (at_builtin;refine Yp _ rfl _ _ 125 rfl (l.heap.size+3) 219 i0 (.agg #[R5,.nilIface]) 2 32 underlying125 b1 b2 b3 b4 rfl (by decide) _ _ _ rfl ((o1.alloc _).alloc _) (G8 (r.heap.size+1) 0) 1 1 [S9 o,.iface T x] rfl rfl ?c1 ?c2 ?c3 ?c4 ?c5 ?_))
  case c1=>exact J7 _ _ _ _ _ _ (by simp)
  case c2=>intro u L;simp at L;rcases L with rfl|rfl<;>rfl
  case c3=>unfold maxLen;omega
  case c4=>omega
  case c5=>have:=i.size;simp;omega
  intro v' A E p _ a4
  obtain⟨S,W,rfl⟩:∃a c,v'=TL a (acc.length+1) c:=by
   rcases E.2 with⟨_,h⟩|⟨g,c,cur,h,_⟩
   ·omega
   exact⟨_,_,h⟩
  have B:=nbl r (L8 #[S9 o,.iface T x] 219);have ba:=B.trans ((nbl _ (L8 #[S9 o,.iface T x] 219)).mono B.size);have P:l.heap.size+2<r.heap.size:=by have:=i.size;omega
  have k3:A.cell? (G8 (l.heap.size+2) 0)=some (TL ao acc.length K):=p.cell (zi ba k1) I.o
  have f3:A.frozen? (G8 (l.heap.size+2) 0)=false:=by
   rw[vw (w:=(r.alloc (L8 #[S9 o,.iface T x] 219)).alloc (L8 #[S9 o,.iface T x] 219)) (a:=(G8 (l.heap.size+2) 0)) (p.block _ (by simp;omega) I.o),vw (w:=r) (a:=(G8 (l.heap.size+2) 0)) (ba.block _ P),vw (w:=w) (a:=(G8 (l.heap.size+2) 0)) (i.block _ (by show l.heap.size+2<_;omega) (by simp;omega))];exact c2
  have C:zQ l.heap.size R w (A.setCell (G8 (l.heap.size+2) 0) (TL S (acc.length+1) W)):=
   ((((zQ.of i (by omega)).trans (zQ.own (yG r _ none) (λk y=>by cases y) (by omega))).trans (zQ.own (yG _ _ none) (λk y=>by cases y) (by simp;omega))).trans (zQ.own p (λk y=>by have:=(z.o k y).1;omega) (by simp;omega))).trans (uP A _ (by omega))
  have M:=G7 C;clear C
  have b9:∀b,b<r.heap.size->(Value.slice ao acc.length K).ownBlock≠some b->b≠l.heap.size+2->(A.setCell (G8 (l.heap.size+2) 0) (TL S (acc.length+1) W)).heap[b]?=r.heap[b]?:=λb h1 X h3=>by
   rw[eQ _ _ _ _ _ h3,p.block b (by simp;omega) (λe=>X e.symm),ba.block b h1]
  have H:=G7 b9;clear b9;go_wp2;go_ret;refine uD.of ?_ HE.o;have f5:=i.size;have c7:=p.size;simp at c7
  have e6:(A.setCell (G8 (l.heap.size+2) 0) (TL S (acc.length+1) W)).cell? (G8 l.heap.size 0)=some (RG R 0):=by
   rw[Xd (w:=r) (a:=G8 l.heap.size 0) (H.o l.heap.size (by omega) (λe=>by have:=(z.o _ e).1;omega) (by omega))];exact i.cell cx (by simp;omega)
  have e0:(A.setCell (G8 (l.heap.size+2) 0) (TL S (acc.length+1) W)).cell? (G8 (l.heap.size+1) 0)=some (R9 (d:Int)):=by
   rw[Xd (w:=r) (a:=(G8 (l.heap.size+1) 0)) (H.o (l.heap.size+1) (by omega) (λe=>by have:=(z.o _ e).1;omega) (by omega))];exact i.cell cd (by simp;omega)
  have e5:∀k,(Value.slice S (acc.length+1) W).ownBlock=some k->l.heap.size+3<=k/\k<A.heap.size:=λk y=>World.ownsRow.lt E k y;have a9:(acc++[(o,v)]).length=acc.length+1:=by simp
  refine⟨rfl,c6.same (H.o R (by have:=c6.lt;omega) (λe=>by have:=(z.o _ e).1;omega) (by omega)),(HI.o.seq.grown i a8).same (H.o _ (HI.o.seq.grown i a8).lt (λe=>by have:=(z.o _ e).1;have:=HI.o.seq.lt;have:=N.o;omega) (by have:=N.o;omega)),QP HI.o.grown M.o,by rw[Yi];omega,by simp;omega,e6,e0,S,W,us++[(o,.iface T x)],?_,by rw[Bh];exact f3,?_,?_,?_⟩
  ·rw[a9];exact VX _ _ _ _ k3
  ·rw[a9,zaV];exact E.kept (jR _ _ _ _) (.inr (λe=>by have:=(e5 _ e).1;omega))
  ·rw[uz,uz,d8.o];rfl
  ·intro j v2 u a3 e2;rw[a9]
   rcases Ff e2 with⟨hj,L⟩|⟨hj,L⟩
   ·have e3:acc[j]?=some v2:=by
     rw[P9]at a3;exact a3
    refine(d7.o j v2 u e3 L).move (λb D=>⟨D.1,by rw[Yi];omega,λe=>?_⟩) (λb D=>?_)
    ·rcases a4 with h|h
     ·exact D.2.2 (h.symm.trans e)
     rw[h]at e;simp at e;omega
    rw[H.o b (by omega) D.2.2 (by omega)];exact i.block b D.2.1 (by simp;omega)
   ·rw[c8]at hj;subst hj L;simp at a3;subst a3;refine e4.move (λb D=>⟨by have:=D.1;omega,by have:=D.2;rw[Yi];omega,λe=>?_⟩) (λb D=>?_)
    ·have h1:=D.1;have X:=D.2
     rcases a4 with h|h
     ·have:=(z.o b (h.symm.trans e)).2;omega
     rw[h]at e;simp at e;omega
    ·have h1:=D.1;have X:=D.2;exact H.o b X (λe=>by have:=(z.o b e).2;omega) (by omega)
 | err c q2=>
  rw[hx]at n hE;simp only at hE;obtain⟨T2,Q⟩:=V7 c q2;have HE:=G7 hE;have HT:=G7 Q
  cases hsb:Uh s acc q with
  | true=>
   rw[hsb]at n
   have t:=n.mono (R':=λe G=>(∃o T x,e=.returned (.tuple #[.agg #[S9 o,.iface T x],.iface T2 (.agg #[R9 (q2:Int)])]))/\w.grownBy G (some R)) (by
    rintro e G⟨o,u,rfl,⟨ha,D⟩,X⟩;obtain⟨T,x,rfl⟩:=ha rfl;exact⟨⟨o,T,x,by rw[Q]⟩,X⟩)
   clear n hx hE Q;go_enter func189,ntmps189
   go_wp2_with(first
    |(go_at_call 190;apply t.mono;rintro e r⟨⟨o,T,x,rfl⟩,i⟩;have k1:=i.cell c1 (by simp;omega);have d0:=λO:Obj=>zi (nbl r O) k1;have o1:=kL c3 i (by omega))
    | (at_builtin;refine Yp _ rfl _ _ 125 rfl (l.heap.size+3) 219 i0 (.agg #[R5,.nilIface]) 2 32 underlying125 b1 b2 b3 b4 rfl (by decide) _ _ _ rfl ((o1.alloc _).alloc _) (G8 (r.heap.size+1) 0) 1 1 [S9 o,.iface T x] rfl rfl ?c1 ?c2 ?c3 ?c4 ?c5 ?_))
   case c1=>exact J7 _ _ _ _ _ _ (by simp)
   case c2=>intro u L;simp at L;rcases L with rfl|rfl<;>rfl
   case c3=>unfold maxLen;omega
   case c4=>omega
   case c5=>have:=i.size;simp;omega
   intro v' A E p _ _
   obtain⟨S,W,rfl⟩:∃a c,v'=TL a (acc.length+1) c:=by
    rcases E.2 with⟨_,h⟩|⟨g,c,cur,h,_⟩
    ·omega
    exact⟨_,_,h⟩
   have B:=nbl r (L8 #[S9 o,.iface T x] 219);have ba:=B.trans ((nbl _ (L8 #[S9 o,.iface T x] 219)).mono B.size);have P:l.heap.size+2<r.heap.size:=by have:=i.size;omega
   have k3:A.cell? (G8 (l.heap.size+2) 0)=some (TL ao acc.length K):=p.cell (zi ba k1) I.o
   have f3:A.frozen? (G8 (l.heap.size+2) 0)=false:=by
    rw[vw (w:=(r.alloc (L8 #[S9 o,.iface T x] 219)).alloc (L8 #[S9 o,.iface T x] 219)) (a:=(G8 (l.heap.size+2) 0)) (p.block _ (by simp;omega) I.o),vw (w:=r) (a:=(G8 (l.heap.size+2) 0)) (ba.block _ P),vw (w:=w) (a:=(G8 (l.heap.size+2) 0)) (i.block _ (by show l.heap.size+2<_;omega) (by simp;omega))];exact c2
   have C:zQ l.heap.size R w (A.setCell (G8 (l.heap.size+2) 0) (TL S (acc.length+1) W)):=
    ((((zQ.of i (by omega)).trans (zQ.own (yG r _ none) (λk y=>by cases y) (by omega))).trans (zQ.own (yG _ _ none) (λk y=>by cases y) (by simp;omega))).trans (zQ.own p (λk y=>by have:=(z.o k y).1;omega) (by simp;omega))).trans (uP A _ (by omega))
   have M:=G7 C;clear C;go_wp2;go_ret;refine uD.of ?_ HE.o;exact⟨by rw[HT.o];rfl,QP HI.o.grown M.o,_,VX _ _ _ _ k3⟩
  | false=>
   rw[hsb]at n
   have t:=n.mono (R':=λe G=>(∃o,e=.returned (.tuple #[.agg #[S9 o,.nilIface],.iface T2 (.agg #[R9 (q2:Int)])]))/\w.grownBy G (some R)) (by
    rintro e G⟨o,u,rfl,⟨ha,D⟩,X⟩;obtain rfl:=D rfl;exact⟨⟨o,by rw[Q]⟩,X⟩)
   clear n hx hE Q;go_enter func189,ntmps189
   go_wp2_with(first
    |(go_at_call 190;apply t.mono;rintro e r⟨⟨o,rfl⟩,i⟩;have k1:=i.cell c1 (by simp;omega);have d0:=λO:Obj=>zi (nbl r O) k1;have o1:=kL c3 i (by omega))
    | (at_builtin;refine Yp _ rfl _ _ 125 rfl (l.heap.size+3) 219 i0 (.agg #[R5,.nilIface]) 2 32 underlying125 b1 b2 b3 b4 rfl (by decide) _ _ _ rfl ((o1.alloc _).alloc _) (G8 (r.heap.size+1) 0) 1 1 [S9 o,.nilIface] rfl rfl ?c1 ?c2 ?c3 ?c4 ?c5 ?_))
   case c1=>exact J7 _ _ _ _ _ _ (by simp)
   case c2=>intro u L;simp at L;rcases L with rfl|rfl<;>rfl
   case c3=>unfold maxLen;omega
   case c4=>omega
   case c5=>have:=i.size;simp;omega
   intro v' A E p _ _
   obtain⟨S,W,rfl⟩:∃a c,v'=TL a (acc.length+1) c:=by
    rcases E.2 with⟨_,h⟩|⟨g,c,cur,h,_⟩
    ·omega
    exact⟨_,_,h⟩
   have B:=nbl r (L8 #[S9 o,.nilIface] 219);have ba:=B.trans ((nbl _ (L8 #[S9 o,.nilIface] 219)).mono B.size);have P:l.heap.size+2<r.heap.size:=by have:=i.size;omega
   have k3:A.cell? (G8 (l.heap.size+2) 0)=some (TL ao acc.length K):=p.cell (zi ba k1) I.o
   have f3:A.frozen? (G8 (l.heap.size+2) 0)=false:=by
    rw[vw (w:=(r.alloc (L8 #[S9 o,.nilIface] 219)).alloc (L8 #[S9 o,.nilIface] 219)) (a:=(G8 (l.heap.size+2) 0)) (p.block _ (by simp;omega) I.o),vw (w:=r) (a:=(G8 (l.heap.size+2) 0)) (ba.block _ P),vw (w:=w) (a:=(G8 (l.heap.size+2) 0)) (i.block _ (by show l.heap.size+2<_;omega) (by simp;omega))];exact c2
   have C:zQ l.heap.size R w (A.setCell (G8 (l.heap.size+2) 0) (TL S (acc.length+1) W)):=
    ((((zQ.of i (by omega)).trans (zQ.own (yG r _ none) (λk y=>by cases y) (by omega))).trans (zQ.own (yG _ _ none) (λk y=>by cases y) (by simp;omega))).trans (zQ.own p (λk y=>by have:=(z.o k y).1;omega) (by simp;omega))).trans (uP A _ (by omega))
   have M:=G7 C;clear C;go_wp2;go_ret;refine uD.of ?_ HE.o;exact⟨by rw[HT.o];rfl,QP HI.o.grown M.o,_,VX _ _ _ _ k3⟩
def rH(w:J)(R:Nat)(s:BY)(r:Z.Res (List (BY×Z.V)))(e:Ending)(w':J):Prop:=match r with
 | .ok b q=>∃a,e=.returned (.tuple #[a,.nilIface])/\ValAt w' (Blk w w') (.obj b) (.iface 125 a)/\w.grownBy w' (some R)/\zw w' R s q
 | .err c q=>∃a,e=.returned (.tuple #[a,Qn c q])/\w.grownBy w' (some R)
theorem zbt(s:BY)(R d F:Nat)(b:J)(t:s.size<=4000)(l:R<b.heap.size)(e:R≠5)(k:5<b.heap.size)(u:Xc s R F):Reads s R 189 #[RG b.heap.size 0,RG (b.heap.size+1) 0,RG (b.heap.size+2) 0] (Z.stO s.data.toList d) F d (XW b R s d) (VD b R) where
 rd:=λ_ _ _ h=>h.rd
 mv:=λ_ _ _ _ _ h g o r=>h.mv l e g o r
 bad:=λ_ _ _ h=>by
  obtain⟨z,m,C,c1,_⟩:=h.row;exact⟨h.grown,_,c1⟩
 adv:=λf a q y B g A i h=>by
  unfold Z.stO at h
  cases hx:Z.Yd s.data.toList d f a q with
  | ok v x=>
   rw[hx]at h;injection h with h1 h2
   rw[<- h2];exact DF g i hx
  | err c x=>rw[hx]at h;cases h
 one:=λf a q w i n p g _ j=>zbs s R d F b t l e k n u f a q w i p g j
theorem XW.val{a:J}{R:Nat}{s:BY}{d:Nat}{acc:List (BY×Z.V)}{q:Nat}{w:J}(h:XW a R s d acc q w):∃n,w.cell? (G8 (a.heap.size+2) 0)=some n/\ValAt w (Blk a w) (.obj acc) (.iface 125 n):=by
 obtain⟨p,e,l,c1,c2,c3,m,c4⟩:=h.row;refine⟨_,c1,?_⟩;have t:l.length=acc.length:=by have:=congrArg List.length m;simpa using this
 have i:∀(j:Nat) (x:BY×Z.V) (u:BY×Y),acc[j]?=some x->l[j]?=some u->ValAt w (Blk a w) x.2 u.2:=λj v u z y=>(c4 j v u z y).move (λb f=>⟨by omega,f.2.1⟩) (λ_ _=>rfl);have k:=Da c3;rw[<- t];refine .obj acc l p e m ?_ i
 rcases k with h0|⟨b,o,ha,hc⟩
 ·exact .inl h0
 rcases c3.2 with⟨h1,h2⟩|⟨g,c,cur,h1,hB,hg,hrest⟩
 ·exact .inl (Yx (by omega))
 injection h1 with h1 h2 h3
 rw[h1]at ha;injection ha with ha
 injection ha with f ho
 subst f;refine .inr ⟨g,h1,⟨by omega,(JI.1 hg).1⟩,λj x A=>?_⟩;obtain⟨r,rfl⟩:=zU.1 A
 have:=hc j r
 rw[<- ho]at this
 simpa using this
theorem zbv(s:BY)(R p d F:Nat)(w:J)(z:zw w R s p)(y:qO w)(m:R≠5)(L:p<s.size)(G:s.size<=4000)(P:d<=9)(r:Xc s R F)(hF:2*(s.size-(p+1))+1<F):R8 150 #[RG R 0,R9 (d:Int)] w λe f=>rH w R s (Z.Ze s.data.toList (Z.stO s.data.toList d) 125 F d [] p) e f:=by
 have K:=z.lt;have x:=y.lt;have H:L9 189:=qo func189 (by kernel_rfl) rfl;have n:∀A B C:Obj,w.grownBy (((w.alloc A).alloc B).alloc C) (some R):=λA B C=>qg (qg (yG w A _) (yG _ B _)) (yG _ C _)
 have g:XW w R s d [] p (((w.alloc (L8 #[RG R 0] 212)).alloc (L8 #[R9 (d:Int)] 3)).alloc (L8 #[R4] 125)):=by
  have o:=Gq w (RG R 0) (R9 (d:Int)) R4 212 3 125;exact⟨((z.alloc _).alloc _).alloc _,y.grown (n _ _ _) m,n _ _ _,by simp,zD _,o.1,o.2.1,none,0,[],o.2.2.1,o.2.2.2,qF _ _ _ _,rfl,λj v u r=>by simp at r⟩
 have a:=BK s R p d 125 189 F _ (Z.stO s.data.toList d) (XW w R s d) (VD w R) [] _ H (zbt s R d F w G K m x r) g L G (by omega) (by decide) (by decide) hF;clear g r z y
 cases hx:Z.Ze s.data.toList (Z.stO s.data.toList d) 125 F d [] p with
 | ok N q=>
  rw[hx]at a
  have i:=a.mono (R':=λe f=>e=.returned .nilIface/\∃b,f.cell? (G8 (w.heap.size+2) 0)=some b/\ValAt f (Blk w f) (.obj N) (.iface 125 b)/\w.grownBy f (some R)/\zw f R s q) (by
   rintro e f⟨rfl,h⟩;obtain⟨b,t,I⟩:=h.val;exact⟨rfl,b,t,I,h.grown,h.rd⟩)
  clear a hx;go_enter func150,ntmps150;go_wp2_with(go_at_call 188;apply i.mono;rintro e O⟨rfl,b,M,E,l,D⟩);go_ret2;exact⟨b,rfl,E,l,D⟩
 | err c q=>
  rw[hx]at a
  have i:=a.mono (R':=λe f=>e=.returned (Qn c q)/\∃b,f.cell? (G8 (w.heap.size+2) 0)=some b/\w.grownBy f (some R)) (by
   rintro e f⟨rfl,h,b,t⟩;exact⟨rfl,b,t,h⟩)
  clear a hx;go_enter func150,ntmps150;go_wp2_with(go_at_call 188;apply i.mono;rintro e O⟨rfl,b,M,l⟩);go_ret2;exact⟨b,rfl,l⟩
theorem Cm(s:BY)(R p d F:Nat)(w:J)(g:zw w R s p)(f:qO w)(a:R≠5)(c:p<s.size)(i:s.size<=4000)(b:d<=9)(j:Xc s R F)(hF:2*(s.size-(p+1))+1<F)(r:Z.Res (List Z.V))(h:Z.Ze s.data.toList (Z.stL s.data.toList d) 93 F d [] p=r):R8 151 #[RG R 0,R9 (d:Int)] w λe k=>pY w R s r e k:=by
 rw[<- h];exact zat s R p d F w g f a c i b j hF
theorem DK(s:BY)(R p d F:Nat)(w:J)(g:zw w R s p)(f:qO w)(a:R≠5)(c:p<s.size)(i:s.size<=4000)(b:d<=9)(j:Xc s R F)(hF:2*(s.size-(p+1))+1<F)(r:Z.Res (List (BY×Z.V)))(h:Z.Ze s.data.toList (Z.stO s.data.toList d) 125 F d [] p=r):R8 150 #[RG R 0,R9 (d:Int)] w λe k=>rH w R s r e k:=by
 rw[<- h];exact zbv s R p d F w g f a c i b j hF
theorem Blk.later{w w1 a:J}{b:Nat}(h:Blk w1 a b)(c:w.heap.size<=w1.heap.size):Blk w a b:=⟨by have:=h.1;omega,h.2⟩
theorem zfE(s:BY)(R f d p:Nat)(w:J)(O:zw w R s p)(N:qO w)(x:R≠5)(D:p<=s.size)(B:s.size<=4000)(I:d<=9)(Q:2*(s.size-p)<f+1)(H:Xc s R f):R8 100 #[RG R 0,R9 (d:Int)] w λe F=>Zb w R s (starts s p) (Z.qL s.data.toList (f+1) d p) e F:=by
 obtain⟨b,o⟩:=Nm (Z.zk s.data.toList p)
 have r:=(Uu s R p w O D).mono (R':=λe F=>e=.returned (.int .u8 (b:Int))/\zw F R s p/\w.grownBy F (some R)/\qO F) (by
  rintro e F⟨rfl,P,L,_,_⟩;exact⟨by rw[o],P,L,N.grown L x⟩)
 have M:b<256:=by rw[<- o];exact Z.XD _ _
 have l:b≠0->p<s.size:=λh=>by
  have:=Z.qH s.data.toList p (by rw[o];exact h)
  rwa [U.zF]at this
 have n:starts s p=(b==123||b==91||b==34||b==116||b==102):=by unfold starts;rw[o]
 clear O N
 by_cases c1:b=123
 ·have k:=G7 (Z.zfC s.data.toList f d p (by rw[o];exact c1));have y:G6 (starts s p=true):=G7 (by rw[n,c1];rfl);have d1:(b:Int)=123:=by omega
  have z:=l (by omega);clear o n l
  cases hx:Z.Ze s.data.toList (Z.stO s.data.toList d) 125 f d [] p with
  | ok S q=>
   rw[hx]at k;have v:=G7 hx;clear hx;go_enter func100,ntmps100
   go_wp2_with(first
    |(go_at_call 149;apply r.mono;rintro e u⟨rfl,g,a,j⟩)
    |(go_at_call 150;apply(DK s R p d f u g j x z B I H (by omega) _ v.o).mono;rintro e C⟨K,rfl,E,i,m⟩))
   go_ret2;refine Zb.of ?_ k.o;exact⟨_,rfl,E.move (λb o=>o.later a.size) (λ_ _=>rfl),qg a i,m⟩
  | err c q=>
   rw[hx]at k;have v:=G7 hx;clear hx;go_enter func100,ntmps100
   go_wp2_with(first
    |(go_at_call 149;apply r.mono;rintro e u⟨rfl,g,a,j⟩)
    |(go_at_call 150;apply(DK s R p d f u g j x z B I H (by omega) _ v.o).mono;rintro e C⟨K,rfl,i⟩))
   go_ret2;refine Zb.of ?_ k.o;exact⟨_,rfl,⟨λ_=>⟨_,_,rfl⟩,λh=>absurd (y.o.symm.trans h) (by decide)⟩,qg a i⟩
 have T:((b:Int)==123)=false:=by rw[qY];omega
 by_cases c2:b=91
 ·have k:=G7 (Z.zfA s.data.toList f d p (by rw[o];exact c2));have y:G6 (starts s p=true):=G7 (by rw[n,c2];rfl);have d1:(b:Int)=91:=by omega
  have z:=l (by omega);clear o n l
  cases hx:Z.Ze s.data.toList (Z.stL s.data.toList d) 93 f d [] p with
  | ok S q=>
   rw[hx]at k;have v:=G7 hx;clear hx;go_enter func100,ntmps100
   go_wp2_with(first
    |(go_at_call 149;apply r.mono;rintro e u⟨rfl,g,a,j⟩)
    |(go_at_call 151;apply(Cm s R p d f u g j x z B I H (by omega) _ v.o).mono;rintro e C⟨K,rfl,E,i,m⟩))
   go_ret2;refine Zb.of ?_ k.o;exact⟨_,rfl,E.move (λb o=>o.later a.size) (λ_ _=>rfl),qg a i,m⟩
  | err c q=>
   rw[hx]at k;have v:=G7 hx;clear hx;go_enter func100,ntmps100
   go_wp2_with(first
    |(go_at_call 149;apply r.mono;rintro e u⟨rfl,g,a,j⟩)
    |(go_at_call 151;apply(Cm s R p d f u g j x z B I H (by omega) _ v.o).mono;rintro e C⟨K,rfl,i⟩))
   go_ret2;refine Zb.of ?_ k.o;exact⟨_,rfl,⟨λ_=>⟨_,_,rfl⟩,λh=>absurd (y.o.symm.trans h) (by decide)⟩,qg a i⟩
 have V:((b:Int)==91)=false:=by rw[qY];omega
 clear H
 by_cases c3:b=34
 ·have k:=G7 (Z.zfF s.data.toList f d p (by rw[o];exact c3));have y:G6 (starts s p=true):=G7 (by rw[n,c3];rfl);have d1:(b:Int)=34:=by omega
  clear o n l
  cases hx:Z.jI s.data.toList p with
  | ok t q=>
   rw[hx]at k;have v:=G7 hx;clear hx;go_enter func100,ntmps100
   go_wp2_with(first
    |(go_at_call 149;apply r.mono;rintro e u⟨rfl,g,a,j⟩)
    |(go_at_call 152;apply(dY s R p u g D B j x _ v.o).mono;rintro e C⟨rfl,i,m,A⟩))
   go_ret2;refine Zb.of ?_ k.o;exact⟨_,rfl,.str t,qg a i,m⟩
  | err c q=>
   rw[hx]at k;have G:=Z.EI hx;subst G;have v:=G7 hx;clear hx;go_enter func100,ntmps100
   go_wp2_with(first
    |(go_at_call 149;apply r.mono;rintro e u⟨rfl,g,a,j⟩)
    |(go_at_call 152;apply(dY s R p u g D B j x _ v.o).mono;rintro e C⟨rfl,i,m,A⟩))
   go_ret2;refine Zb.of ?_ k.o;exact⟨_,rfl,⟨λ_=>⟨_,_,rfl⟩,λh=>absurd (y.o.symm.trans h) (by decide)⟩,qg a i⟩
 have W:((b:Int)==34)=false:=by rw[qY];omega
 by_cases c4:b=116
 ·have k:=G7 (Z.zfG s.data.toList f d p (by rw[o];exact c4));have y:G6 (starts s p=true):=G7 (by rw[n,c4];rfl);have d1:(b:Int)=116:=by omega
  clear o n l
  cases hx:Z.qG s.data.toList [116,114,117,101] p with
  | ok t q=>
   rw[hx]at k;have v:=G7 hx;clear hx;go_enter func100,ntmps100
   go_wp2_with(first
    |(go_at_call 149;apply r.mono;rintro e u⟨rfl,g,a,j⟩)
    |(go_at_call 153;apply(JF s ⟨#[116,114,117,101]⟩ R p u g D B (by decide) (by decide) _ v.o).mono;rintro e C⟨rfl,i,m,A⟩))
   go_ret2;refine Zb.of ?_ k.o;exact⟨_,rfl,.word true,qg a i,m⟩
  | err c q=>
   rw[hx]at k;have G:=Z.ak hx;subst G;have v:=G7 hx;clear hx;go_enter func100,ntmps100
   go_wp2_with(first
    |(go_at_call 149;apply r.mono;rintro e u⟨rfl,g,a,j⟩)
    |(go_at_call 153;apply(JF s ⟨#[116,114,117,101]⟩ R p u g D B (by decide) (by decide) _ v.o).mono;rintro e C⟨rfl,i,m,A⟩))
   go_ret2;refine Zb.of ?_ k.o;exact⟨_,rfl,⟨λ_=>⟨_,_,rfl⟩,λh=>absurd (y.o.symm.trans h) (by decide)⟩,qg a i⟩
 have X:((b:Int)==116)=false:=by rw[qY];omega
 by_cases c5:b=102
 ·have k:=G7 (Z.zfz s.data.toList f d p (by rw[o];exact c5));have y:G6 (starts s p=true):=G7 (by rw[n,c5];rfl);have d1:(b:Int)=102:=by omega
  clear o n l
  cases hx:Z.qG s.data.toList [102,97,108,115,101] p with
  | ok t q=>
   rw[hx]at k;have v:=G7 hx;clear hx;go_enter func100,ntmps100
   go_wp2_with(first
    |(go_at_call 149;apply r.mono;rintro e u⟨rfl,g,a,j⟩)
    |(go_at_call 153;apply(JF s ⟨#[102,97,108,115,101]⟩ R p u g D B (by decide) (by decide) _ v.o).mono;rintro e C⟨rfl,i,m,A⟩))
   go_ret2;refine Zb.of ?_ k.o;exact⟨_,rfl,.word false,qg a i,m⟩
  | err c q=>
   rw[hx]at k;have G:=Z.ak hx;subst G;have v:=G7 hx;clear hx;go_enter func100,ntmps100
   go_wp2_with(first
    |(go_at_call 149;apply r.mono;rintro e u⟨rfl,g,a,j⟩)
    |(go_at_call 153;apply(JF s ⟨#[102,97,108,115,101]⟩ R p u g D B (by decide) (by decide) _ v.o).mono;rintro e C⟨rfl,i,m,A⟩))
   go_ret2;refine Zb.of ?_ k.o;exact⟨_,rfl,⟨λ_=>⟨_,_,rfl⟩,λh=>absurd (y.o.symm.trans h) (by decide)⟩,qg a i⟩
 have n5:((b:Int)==102)=false:=by rw[qY];omega
 have k:=G7 (Z.zfB s.data.toList f d p (by rw[o];exact c1) (by rw[o];exact c2) (by rw[o];exact c3) (by rw[o];exact c4) (by rw[o];exact c5));have y:G6 (starts s p=false):=G7 (by rw[n];simp[c1,c2,c3,c4,c5]);clear o n l c1 c2 c3 c4 c5;go_enter func100,ntmps100
 go_wp2_with(first
  |(go_at_call 149;apply r.mono;rintro e u⟨rfl,g,a,j⟩)
  |(go_at_call 101;apply(Y2 s R p u g).mono;rintro e C⟨rfl,rfl⟩))
 go_ret2;refine Zb.of ?_ k.o;exact⟨_,rfl,⟨λh=>absurd (y.o.symm.trans h) (by decide),λ_=>rfl⟩,a⟩
theorem Gv(s:BY)(R:Nat)(a:R≠5)(e:s.size<=4000):∀F,Xc s R F
 | 0=>λf c=>absurd c (Nat.not_lt_zero f)
 | F+1=>λf c d p w k j i _ b _ h=>by
  cases f with
  | zero=>omega
  | succ f=>exact zfE s R f d p w k j a i e b (by omega) (λg l=>Gv s R a e F g (by omega))
def XY(w:J)(r:Z.Res Z.V)(e:Ending)(w':J):Prop:=match r with
 | .ok v _=>∃u,e=.returned (.tuple #[u,.nilIface])/\ValAt w' (Blk w w') v u/\BQ w w'
 | .err c q=>e=.returned (.tuple #[.nilIface,Qn c q])/\BQ w w'
theorem XY.of{w w':J}{r a:Z.Res Z.V}{e:Ending}(h:XY w r e w')(b:a=r):XY w a e w':=b ▸ h
theorem below_grown{w w1 c:J}{R:Nat}(h:BQ w w1)(d:w.heap.size<=R)(a:w1.grownBy c (some R)):BQ w c:=
 ⟨a.os.trans h.os,a.tape.trans h.tape,a.output.trans h.output,xD h.size a.size,λk b=>(a.block k (xO b h.size) (by simp;omega)).trans (h.block k b)⟩
theorem nT(s:BY)(w:J)(hq:qO w)(hs:s.size<=4000):R8 58 #[S9 s] w λe g=>XY w (Z.jB s.data.toList) e g:=by
 have a8:=hq.lt;have W:w.heap.size≠5:=by omega
 have dl:decide ((4000:Int)<(s.size:Int))=false:=P6;have hn:=zA w (L8 #[S9 s,R9 0] 214)
 have a2:zw (w.alloc (L8 #[S9 s,R9 0] 214)) w.heap.size s 0:=by
  refine⟨?_,?_,?_⟩
  ·simp only[World.cell?,hn];rfl
  ·simp only[World.cell?,hn];rfl
  simp only[World.frozen?,hn];rfl
 have a0:=nbl w (L8 #[S9 s,R9 0] 214);have a1:qO (w.alloc (L8 #[S9 s,R9 0] 214)):=hq.same (a0.block _ a8);have Q:=Z.uX s.data.toList 0 I4;have A:=Z.ZE s.data.toList 0;rw[U.zF]at Q;have k:Z.jB s.data.toList=Z.jB s.data.toList:=rfl
 conv at k=>rhs;unfold Z.jB
 obtain⟨p,M⟩:=Nm (Z.skip s.data.toList 0);rw[M]at Q A k
 have P:=(Vq s w.heap.size 0 _ a2 I4 hs).mono (R':=λe g=>e=.returned (.tuple #[])/\zw g w.heap.size s p/\BQ w g/\qO g/\w.heap.size+1<=g.heap.size) (by
  rintro e g⟨rfl,I,z⟩;rw[M]at z;exact⟨rfl,z,below_grown a0 F7 I,a1.grown I W,by have:=I.size;simp at this;omega⟩)
 have i:=λa (h:zw a w.heap.size s p) (H:qO a)=>Gv s w.heap.size W hs (2*s.data.toList.length+2) (2*s.data.toList.length+1) (by omega) 1 p a h H Q (by omega) (by omega) A (by rw[U.zF];omega);have D:=G7 (λv q B=>Z.fD (l:=s.data.toList) (f:=2*s.data.toList.length+1) (d:=1) (p:=p) (q:=q) (v:=v) (by omega) (by rw[U.zF];omega) A (by rw[U.zF];omega) B);clear M A a2 hq a1 hn
 cases B:Z.qL s.data.toList (2*s.data.toList.length+1) 1 p with
 | err c q=>
  rw[B]at k;simp only at k;simp only[B]at i;obtain⟨T2,K⟩:=V7 c q
  have j:∀a,zw a w.heap.size s p->qO a->BQ w a->R8 100 #[RG w.heap.size 0,R9 1] a λe g=>∃u,e=.returned (.tuple #[u,.iface T2 (.agg #[R9 (q:Int)])])/\BQ w g:=λa h H z=>by
   apply(i a h H).mono;rintro e g⟨u,rfl,_,hg⟩;exact⟨u,by rw[K],below_grown z F7 hg⟩
  have⟨T,HT⟩:=D5 k K;clear i k B K;go_enter func58,ntmps58
  go_wp2_with(first
   |(go_at_call 99;apply P.mono;rintro e a⟨rfl,t,n,r,C⟩)
   |(go_at_call 100;apply(j a t r n).mono;rintro e m⟨u,rfl,o⟩))
  go_ret2;refine XY.of ?_ T.o;exact⟨by rw[HT.o];rfl,o⟩
 | ok v q=>
  rw[B]at k;simp only at k;simp only[B]at i;have E:=D.o v q B;rw[U.zF]at E;have F:=Z.uX s.data.toList q (by rw[U.zF];omega);rw[U.zF]at F;obtain⟨S,N⟩:=Nm (Z.skip s.data.toList q);rw[N]at F k
  have j:∀a,zw a w.heap.size s p->qO a->BQ w a->w.heap.size+1<=a.heap.size->R8 100 #[RG w.heap.size 0,R9 1] a λe g=>∃u,e=.returned (.tuple #[u,.nilIface])/\ValAt g (λb=>w.heap.size+1<=b/\b<g.heap.size) v u/\BQ w g/\zw g w.heap.size s q:=λa h H z h3=>by
   apply(i a h H).mono;rintro e g⟨u,rfl,R,hg,hr⟩;exact⟨u,rfl,R.move (λb X=>⟨by have:=X.1;omega,X.2⟩) (λ_ _=>rfl),below_grown z F7 hg,hr⟩
  have a3:∀m u,zw m w.heap.size s q->BQ w m->ValAt m (λb=>w.heap.size+1<=b/\b<m.heap.size) v u->R8 99 #[RG w.heap.size 0] m λe g=>e=.returned (.tuple #[])/\zw g w.heap.size s S/\BQ w g/\ValAt g (Blk w g) v u:=λm u h H R=>by
   apply(Vq s w.heap.size q m h E.2 hs).mono;rintro e g⟨rfl,I,z⟩;rw[N]at z;exact⟨rfl,z,below_grown H F7 I,R.move (λb X=>⟨by omega,by have:=I.size;omega⟩) (λb X=>I.block b X.2 (by simp;omega))⟩
  clear i B N D
  by_cases c:S<s.size
  ·rw[zb (by rw[U.zF];exact c)]at k;have T:=G7 k;have dq:decide ((S:Int)<(s.size:Int))=true:=P5;clear k;go_enter func58,ntmps58
   go_wp2_with(first
    |(go_at_call 99;apply(a3 m u O o y).mono;rintro e w3⟨rfl,x,L,G⟩;have V:=G7 x;obtain⟨g1,g2,g3⟩:=x)
    |(go_at_call 99;apply P.mono;rintro e a⟨rfl,t,n,r,C⟩)
    |(go_at_call 100;apply(j a t r n C).mono;rintro e m⟨u,rfl,y,o,O⟩)
    |(go_at_call 101;apply(Y2 s w.heap.size S w3 V.o).mono;rintro e w4⟨rfl,rfl⟩))
   go_ret2;refine XY.of ?_ T.o;exact⟨rfl,L⟩
  rw[za (by rw[U.zF];exact c)]at k;have T:=G7 k;have dq:decide ((S:Int)<(s.size:Int))=false:=P6;clear k;go_enter func58,ntmps58
  go_wp2_with(first
   |(go_at_call 99;apply(a3 m u O o y).mono;rintro e w3⟨rfl,x,L,G⟩;have V:=G7 x;obtain⟨g1,g2,g3⟩:=x)
   |(go_at_call 99;apply P.mono;rintro e a⟨rfl,t,n,r,C⟩)
   |(go_at_call 100;apply(j a t r n C).mono;rintro e m⟨u,rfl,y,o,O⟩))
  go_ret2;refine XY.of ?_ T.o;exact⟨u,rfl,G,L⟩
theorem zcT(s:BY)(w:J)(EL:Y)(a:w.cell? (G8 0 0)=some EL)(f:4000<s.size):R8 58 #[S9 s] w (G5 (.tuple #[.nilIface,EL]) w):=by
 have d:decide ((4000:Int)<(s.size:Int))=true:=P5;go_enter func58,ntmps58;go_wp2_with fail
 go_quiet (fail)
 go_wp2;go_ret2;exact⟨rfl,by have h:=jH w none nq;exact⟨h.os,h.tape,h.output,h.size,λk b=>h.block k b (by simp)⟩⟩
end Go.Proofs.YtfjpcldndaiifaaGreatDoor
