/- P -/
import Derived.Test.YtfjpcldndaiifaaGreatDoorA18
open Go.Proofs.Tryz
set_option maxRecDepth 100000
set_option maxHeartbeats 4000000
namespace Go.Proofs.YtfjpcldndaiifaaGreatDoor
open Go.RowKit
def Qp(L:List zH)(p:Nat):List zH:=L.take p++L.drop (p+1)
theorem vX{L:List zH}{name:BY}(h:zq L name=true):qQ L name<L.length:=by
 unfold zq at h;split at h
 ·rename_i x a;exact(zU.1 a).1
 cases h
theorem BN(W:J):(Go.sizeOf (prog.elem 68)).run prog W=.ok 2 W:=by
 obtain⟨f,b,c,a,d⟩:=qU lV;have e:prog.elem 68=159:=by kernel_rfl
 rw[e];simp[Go.sizeOf,typeInfo,b,a]
theorem FK(a:Option Addr)(n c p:Nat)(h:p<=c)(W:J):(Instr.sliceAt 68 (TL a n c) none (some (R9 (p:Int))) none).run prog W=.ok (TL a p c) W:=by
 have b:prog.underlying 68=some (.slice (prog.elem 68)):=by kernel_rfl
 rw[og _ _ _ _ _ _ b,run_slice_h _ _ _ _ _ b .i64 (p:Int) (by omega) (by omega),BN];simp[Result.andThen,sliced,Addr.add]
theorem oq(a:Option Addr)(n c p:Nat)(h:p<=n)(W:J):(Instr.sliceAt 68 (TL a n c) (some (R9 (p:Int))) none none).run prog W=.ok (TL (if c=p then a else a.map λx=>x.add (p*2)) (n-p) (c-p)) W:=by
 have b:prog.underlying 68=some (.slice (prog.elem 68)):=by kernel_rfl
 rw[og _ _ _ _ _ _ b,run_slice_l _ _ _ _ _ b .i64 (p:Int) (by omega) (by omega),BN];simp[Result.andThen,sliced]
theorem zfR(L:List zH)(Q:Y)(name:BY)(M:Nat->Prop)(w:J)(h:xZ M w Q L)(hn:L.length<=100)(V:Down L name)(T:∀b,M b->b<w.heap.size):R8 40 #[Q,S9 name] w λe w'=>∃v,e=.returned (.tuple #[v,.bool (zq L name)])/\BQ w w'/\(zq L name=true->xZ M w' v (Qp L (qQ L name))):=by
 have O:=lq L Q name M w h (by omega) V;have i:=λe=>vX (L:=L) (name:=name) e;obtain⟨I,C,B⟩:=h.flat;obtain⟨a,c,rfl,P,h2,h4,_⟩:=id h;obtain⟨p,hp⟩:=Nm (qQ L name);obtain⟨b,j⟩:=Nm (zq L name);rw[hp,j]at O i |-;have⟨G,q,y,HM⟩:=M5 O C B T;obtain⟨n,r⟩:=Nm L.length;rw[r]at P hn i G q |-;have HN:=G7 r;clear O C B T hp j h r h4 V
 cases b with
 | false=>
  go_enter func40,ntmps40;go_wp2_with(go_at_call 67;apply G.o.mono;rintro e g⟨rfl,z⟩;have d:=G7 z;clear z);go_ret2;exact⟨_,rfl,d.o,λe=>by cases e⟩
 | true=>
  have b0:=i rfl;clear i;go_enter func40,ntmps40
  go_upto_region 4 with(go_at_call 67;apply G.o.mono;rintro e g⟨rfl,z⟩;have d:=G7 z;clear z)
  clear G;have o:=G7 (q.o.below d.o);unfold maxLen at h2;have y6:IntKind.i64.wrap ((p:Int)+1)=(p:Int)+1:=by rw[VC];omega
  have y7:wrap64 ((p:Int)+1)=(p:Int)+1:=by unfold wrap64;omega
  have s1:=FK a n c p (by omega);have s2:∀W,(Instr.sliceAt 68 (TL a n c) (some (R9 ((p:Int)+1))) none none).run prog W=.ok (TL (if c=p+1 then a else a.map λx=>x.add ((p+1)*2)) (n-(p+1)) (c-(p+1))) W:=oq a n c (p+1) (by omega)
  have N:=G7 (o.o.drop (p:=p+1) (by omega));have R:=G7 (o.o.take (p:=p) (by omega));obtain⟨D,s⟩:∃x,(if c=p+1 then a else a.map λx=>x.add ((p+1)*2))=x:=⟨_,rfl⟩
  obtain⟨F,u⟩:=Nm (n-(p+1));obtain⟨E,t⟩:=Nm (c-(p+1));rw[s,u,t]at N;simp only[s,u,t]at s2;clear s t q o;have H:BQ g (g.alloc (L8 #[TL a p c,TL D F E] 68)).drew:=(nbl g _).drew
  have S:=iP [TL a p c,TL D F E] [I.take (p*2),I.drop ((p+1)*2)] g.heap.size (g.alloc (L8 #[TL a p c,TL D F E] 68)).drew rfl
   (λk v f=>by
     have P:=(zg (zA g (L8 #[TL a p c,TL D F E] 68)) k).1;show (g.alloc (L8 #[TL a p c,TL D F E] 68)).cell? (G8 g.heap.size k)=some v;rw[P,<- f]
     simp)
   (λk v ys f l=>by
     match k,f,l with
     | 0,f,l=>
      simp only[jE,Option.some.injEq]at f l;subst f l;exact R.o.below H
     | 1,f,l=>
      simp only[kW,jE,Option.some.injEq]at f l;subst f l;exact N.o.below H
     | k+2,f,l=>simp at f)
   (by simp) (by
     show 0+(I.take (p*2)).length / 2+(I.drop ((p+1)*2)).length / 2<=1000
     have:=y.o.1
     rw[HN.o]at this;rw[jg,ve,this];omega)
  have CC:=G7 S;have m:=G7 (d.o.trans (H.mono d.o.size));clear S H R N u;go_region_held3 (λ_=>True) (trivial) (first|((go_at_call 69);apply CC.o.mono;rintro e w3⟨v,rfl,X,j⟩;have⟨HO,K⟩:=D5 X j;clear X j))
  go_wp2_with fail;go_ret2;have j:=m.o.trans (K.o.mono m.o.size);refine⟨v,rfl,j,λ_=>?_⟩;have A:=y.o.turn (zx.of (M:=M) j);exact mD HO.o ((A.take p).app (A.drop (p+1))) (λb hm=>by have:=HM.o b hm;have:=m.o.size;omega)
def Zo(L:List zH)(name:BY)(a:List zS):List zH:=L.take (qQ L name)++[(name,a)]++L.drop (if zq L name then qQ L name+1 else qQ L name)
theorem MB(s:BY)(w:J)(f:s.size<=281474976710656):R8 68 #[S9 s] w (G5 (.string s) w):=by
 have c:R8 119 #[S9 s] w (G5 (.string s) w):=AnyPu.stringslite_Clone Tryz.laysPu25 s w f;have C:=G7 c;clear c;go_enter func68,ntmps68;go_wp2_with(go_at_call 119;apply C.o.mono;rintro e g⟨rfl,d⟩;have a:=G7 d;clear d);go_ret;exact⟨rfl,a.o⟩
theorem zfQ(L:List zH)(lv:Y)(name:BY)(d:Option Addr)(g f:Nat)(ss:List zS)(M:Nat->Prop)(w:J)(h:xZ M w lv L)(hn:L.length<=100)(hd:Down L name)(hM:∀b,M b->b<w.heap.size)(hD:jf M w (TL d g f) ss)(hs:name.size<=281474976710656):R8 35 #[lv,S9 name,.agg #[TL d g f]] w λe S=>∃v,e=.returned (.tuple #[v,.bool (zq L name||decide (L.length<4))])/\BQ w S/\((zq L name||decide (L.length<4))=true->xZ M S v (Zo L name ss)):=by
 obtain⟨W0,a7⟩:=Nm (w.alloc (L8 #[TL d g f] 80));have a5:BQ w W0:=by rw[<- a7];exact nbl w _
 have k0:W0.cell? (G8 w.heap.size 0)=some (TL d g f):=by rw[<- a7];exact(zg (zA w (L8 #[TL d g f] 80)) 0).1
 have cf:=lq L lv name M W0 (h.turn (zx.of a5)) (by omega) hd;have Q:=λe=>vX (L:=L) (name:=name) e;have b0:=EA L name;obtain⟨xs,d9,d6⟩:=h.flat;obtain⟨a,c,rfl,A,h2,h4,_⟩:=id h;unfold Zo;obtain⟨p,hp⟩:=Nm (qQ L name);obtain⟨b,t⟩:=Nm (zq L name);rw[hp,t]at cf Q |-;rw[hp]at b0;have d0:=λW=>MB name W hs;have⟨N,CF⟩:=D5 d0 cf;have b9:=G7 (d9.below a5);have⟨a3,HM,c8,O,b8⟩:=M6 d6 hM hD a5 a7;obtain⟨n,c3⟩:=Nm L.length;rw[c3]at A hn Q CF b9 b0 |-;have HN:=G7 c3;unfold maxLen at h2;clear cf d9 d6 hM hp t h c3 h4 hd hD d0 a5 a7
 by_cases hfull:b=false/\4<=n
 ·obtain⟨rfl,g8⟩:=hfull;have d1:decide ((4:Int)<=(n:Int))=true:=by simp;omega
  have d2:decide (n<4)=false:=by simp;omega
  rw[d2];go_enter func35,ntmps35
  go_upto_region 1 with fail
  rw[b8.o];go_wp2_with(go_at_call 67;apply CF.o.mono;rintro e i⟨rfl,C⟩;have y:=G7 (O.o.trans (C.mono O.o.size));clear C);go_ret2;exact⟨⟨_,rfl⟩,y.o⟩
 have c4:(b||decide (n<4))=true:=by cases b<;>simp at hfull |-;omega
 rw[c4];obtain⟨q,hq⟩:=Nm ((if b=true then p+1 else p))
 have e8:q<=n:=by rw[<- hq];cases b with
  | true=>have:=Q rfl;simp;omega
  | false=>simp;omega
 have s1:=FK a n c p (by omega);have s2:=oq a n c p (by omega);have a4:=G7 (b9.o.take (p:=p) (by omega));have P:=G7 (b9.o.drop (p:=q) e8);have y6:IntKind.i64.wrap ((p:Int)+1)=(p:Int)+1:=by rw[VC];omega
 have y7:wrap64 ((p:Int)+1)=(p:Int)+1:=by unfold wrap64;omega
 have g6:w.heap.size<W0.heap.size:=Qj _ _ k0
 cases b with
 | true=>
  have s3:∀W,(Instr.sliceAt 68 (TL a n c) (some (R9 ((p:Int)+1))) none none).run prog W=.ok (TL (if c=p+1 then a else a.map λx=>x.add ((p+1)*2)) (n-(p+1)) (c-(p+1))) W:=oq a n c (p+1) (Q rfl)
  have a2:q=p+1:=by rw[<- hq];rfl
  have a0:L.drop (if (true=true) then p+1 else p)=L.drop q:=by rw[a2];rfl
  rw[a0];clear a0 hq Q hfull c4;subst a2;obtain⟨H,E⟩:∃x,(if c=p+1 then a else a.map λx=>x.add ((p+1)*2))=x:=⟨_,rfl⟩
  obtain⟨K,G⟩:=Nm (n-(p+1));obtain⟨I,F⟩:=Nm (c-(p+1));rw[E,G,F]at P;simp only[E,G,F]at s3;obtain⟨xa,d8⟩:∃x,(if c=p then a else a.map λx=>x.add (p*2))=x:=⟨_,rfl⟩
  simp only[d8]at s2;clear d8;clear E F;go_enter func35,ntmps35
  go_upto_region 1 with fail
  rw[b8.o]
  go_upto_region 7 with(go_at_call 67;apply CF.o.mono;rintro e i⟨rfl,C⟩;have y:=G7 C;clear C)
  have l0:=zi y.o k0
  go_cut [11] (λv wx=>∃R,v=.pointer (some (G8 R 0))/\wx.cell? (G8 R 0)=some (S9 name)/\wx.cell? (G8 R 1)=some (TL d g f)/\BQ i wx)
  case first=>
   have bZ:G6 (BQ i (i.alloc (L8 #[R5,R4] 159)).drew):=(nbl i _).drew;have lZ:=zi bZ.o l0;have nn:=World.new_ne i _ l0
   go_region_held3 (λS=>S.cell? (G8 w.heap.size 0)=some (TL d g f)) (go_keep) (first
    | ((go_at_call 68);apply(N.o i.drew).mono;rintro e B⟨rfl,s⟩;have m0:=zi s l0;have z:G6 (BQ i B):=(((zf _ i).drew).trans s);clear s)
    | ((go_at_call 68);apply(N.o (i.alloc (L8 #[R5,R4] 159)).drew).mono;rintro e B⟨rfl,s⟩;have m0:=zi s lZ;have o:G6 (B.heap[i.heap.size]?=some (L8 #[R5,R4] 159)):=((s.block i.heap.size (by simp)).trans (zA i (L8 #[R5,R4] 159)));have z0:=(zg o.o 0).1;have z1:=(zg o.o 1).1;have f0:=(zg o.o 0).2;have f1:=(zg o.o 1).2;have z:G6 (BQ i B):=(bZ.o.trans (s.mono bZ.o.size));clear s))
   ·go_wp2_with fail
    go_meet
    case rel=>exact⟨B.heap.size,rfl,(zg (zA B (L8 #[S9 name,TL d g f] 159)) 0).1,(zg (zA B (L8 #[S9 name,TL d g f] 159)) 1).1,z.o.alloc z.o.size _⟩
   have A:=yC B i.heap.size 0 _ _ (S9 name) o.o;have h2:=yC _ i.heap.size 1 _ _ (TL d g f) A;have b6:=G7 (zg h2 0).1;have b7:=G7 (zg h2 1).1;clear A h2;go_wp2_with fail
   go_meet
   case rel=>exact⟨i.heap.size,rfl,b6.o,b7.o,(z.o.setCell F7 _).setCell F7 _⟩
  case rest=>
   obtain⟨R,rfl,c0,c1,X⟩:=hcut;have m:=G7 (y.o.trans (X.mono y.o.size));have C:BQ wc (wc.alloc (L8 #[S9 name,TL d g f] 159)):=nbl wc _;have V:BQ wc ((wc.alloc (L8 #[S9 name,TL d g f] 159)).alloc (L8 #[TL a p c,TL (some (G8 wc.heap.size 0)) 1 1,TL H K I] 68)).drew:=(C.alloc C.size _).drew;have hX:(wc.alloc (L8 #[S9 name,TL d g f] 159)).heap.size=wc.heap.size+1:=by simp
   have tk:=(a4.o.below m.o).below V;have dr:=(P.o.below m.o).below V
   have one:Qc ((wc.alloc (L8 #[S9 name,TL d g f] 159)).alloc (L8 #[TL a p c,TL (some (G8 wc.heap.size 0)) 1 1,TL H K I] 68)).drew (TL (some (G8 wc.heap.size 0)) 1 1) [S9 name,TL d g f]:=by
    refine⟨some (G8 wc.heap.size 0),1,1,rfl,rfl,ze _,by decide,(λe=>by cases e),(λu hu=>by simp at hu;rcases hu with rfl|rfl<;>rfl),λj u hu=>⟨wc.heap.size,0,rfl,?_⟩⟩
    have A:=(zg (zA wc (L8 #[S9 name,TL d g f] 159)) j).1;have s:Below (wc.alloc (L8 #[S9 name,TL d g f] 159)).heap.size (wc.alloc (L8 #[S9 name,TL d g f] 159)) ((wc.alloc (L8 #[S9 name,TL d g f] 159)).alloc (L8 #[TL a p c,TL (some (G8 wc.heap.size 0)) 1 1,TL H K I] 68)).drew:=((zf _ (wc.alloc (L8 #[S9 name,TL d g f] 159))).alloc F7 _).drew;refine zi s ?_;rw[qV,A,<- hu]
    simp
   have cc:=iP [TL a p c,TL (some (G8 wc.heap.size 0)) 1 1,TL H K I] [xs.take (p*2),[S9 name,TL d g f],xs.drop ((p+1)*2)] (wc.heap.size+1) ((wc.alloc (L8 #[S9 name,TL d g f] 159)).alloc (L8 #[TL a p c,TL (some (G8 wc.heap.size 0)) 1 1,TL H K I] 68)).drew rfl
    (λk v l=>by
      have A:=(zg (zA (wc.alloc (L8 #[S9 name,TL d g f] 159)) (L8 #[TL a p c,TL (some (G8 wc.heap.size 0)) 1 1,TL H K I] 68)) k).1;rw[hX]at A;show ((wc.alloc (L8 #[S9 name,TL d g f] 159)).alloc (L8 #[TL a p c,TL (some (G8 wc.heap.size 0)) 1 1,TL H K I] 68)).cell? (G8 (wc.heap.size+1) k)=some v;rw[A,<- l]
      simp)
    (λk v ys l r=>by
      match k,l,r with
      | 0,l,r=>
       simp only[jE,Option.some.injEq]at l r;subst l r;exact tk
      | 1,l,r=>
       simp only[kW,jE,Option.some.injEq]at l r;subst l r;exact one
      | 2,l,r=>
       simp only[kW,jE,Option.some.injEq]at l r;subst l r;exact dr
      | k+3,l,r=>simp at l)
    (by simp) (by
      show 0+(xs.take (p*2)).length / 2+2 / 2+(xs.drop ((p+1)*2)).length / 2<=1000
      have:=a3.o.1
      rw[HN.o]at this;rw[jg,ve,this];omega)
   have CC:=G7 cc;have D:=G7 (O.o.trans ((m.o.trans (V.mono m.o.size)).mono O.o.size));have T:=G7 V;clear cc C V hX tk dr one X a4 P CF N m G l0
   go_upto_region 8 with fail
   go_region_held3 (λS=>S.cell? (G8 R 0)=some (S9 name)/\S.cell? (G8 R 1)=some (TL d g f)) (go_keep) (first|((go_at_call 69);apply CC.o.mono;rintro e w5⟨v,rfl,ho,t⟩;have⟨HO,b5⟩:=D5 ho t;have g0:=zi t (zi T.o c0);have g1:=zi t (zi T.o c1);clear ho t))
   go_wp2_with fail;go_ret2;have t:=D.o.trans (b5.o.mono D.o.size);refine⟨v,rfl,t,λ_=>?_⟩;have a1:=a3.o.turn (zx.of (M:=M) t);exact mD HO.o (((a1.take p).app (jM.one (x:=(name,ss)) (c8.o.turn (zx.of t)))).app (a1.drop (p+1))) (λb hm=>by have:=HM.o b hm;have:=D.o.size;omega)
 | false=>
  have a2:p=q:=by rw[<- hq];rfl
  have a0:L.drop (if (false=true) then p+1 else p)=L.drop q:=by rw[<- a2];rfl
  have d1:decide ((4:Int)<=(n:Int))=false:=by simp at hfull |-;omega
  rw[a0];clear a0 hq Q hfull c4;subst a2;obtain⟨H,E⟩:∃x,(if c=p then a else a.map λx=>x.add ((p)*2))=x:=⟨_,rfl⟩
  obtain⟨K,G⟩:=Nm (n-(p));obtain⟨I,F⟩:=Nm (c-(p));rw[E,G,F]at P;simp only[E,G,F]at s2;clear E F;go_enter func35,ntmps35
  go_upto_region 1 with fail
  rw[b8.o]
  go_upto_region 7 with(go_at_call 67;apply CF.o.mono;rintro e i⟨rfl,C⟩;have y:=G7 C;clear C)
  have l0:=zi y.o k0
  go_cut [11] (λv wx=>∃R,v=.pointer (some (G8 R 0))/\wx.cell? (G8 R 0)=some (S9 name)/\wx.cell? (G8 R 1)=some (TL d g f)/\BQ i wx)
  case first=>
   have bZ:G6 (BQ i (i.alloc (L8 #[R5,R4] 159)).drew):=(nbl i _).drew;have lZ:=zi bZ.o l0;have nn:=World.new_ne i _ l0
   go_region_held3 (λS=>S.cell? (G8 w.heap.size 0)=some (TL d g f)) (go_keep) (first
    | ((go_at_call 68);apply(N.o i.drew).mono;rintro e B⟨rfl,s⟩;have m0:=zi s l0;have z:G6 (BQ i B):=(((zf _ i).drew).trans s);clear s)
    | ((go_at_call 68);apply(N.o (i.alloc (L8 #[R5,R4] 159)).drew).mono;rintro e B⟨rfl,s⟩;have m0:=zi s lZ;have o:G6 (B.heap[i.heap.size]?=some (L8 #[R5,R4] 159)):=((s.block i.heap.size (by simp)).trans (zA i (L8 #[R5,R4] 159)));have z0:=(zg o.o 0).1;have z1:=(zg o.o 1).1;have f0:=(zg o.o 0).2;have f1:=(zg o.o 1).2;have z:G6 (BQ i B):=(bZ.o.trans (s.mono bZ.o.size));clear s))
   ·go_wp2_with fail
    go_meet
    case rel=>exact⟨B.heap.size,rfl,(zg (zA B (L8 #[S9 name,TL d g f] 159)) 0).1,(zg (zA B (L8 #[S9 name,TL d g f] 159)) 1).1,z.o.alloc z.o.size _⟩
   have A:=yC B i.heap.size 0 _ _ (S9 name) o.o;have h2:=yC _ i.heap.size 1 _ _ (TL d g f) A;have b6:=G7 (zg h2 0).1;have b7:=G7 (zg h2 1).1;clear A h2;go_wp2_with fail
   go_meet
   case rel=>exact⟨i.heap.size,rfl,b6.o,b7.o,(z.o.setCell F7 _).setCell F7 _⟩
  case rest=>
   obtain⟨R,rfl,c0,c1,X⟩:=hcut;have m:=G7 (y.o.trans (X.mono y.o.size));have C:BQ wc (wc.alloc (L8 #[S9 name,TL d g f] 159)):=nbl wc _;have V:BQ wc ((wc.alloc (L8 #[S9 name,TL d g f] 159)).alloc (L8 #[TL a p c,TL (some (G8 wc.heap.size 0)) 1 1,TL H K I] 68)).drew:=(C.alloc C.size _).drew;have hX:(wc.alloc (L8 #[S9 name,TL d g f] 159)).heap.size=wc.heap.size+1:=by simp
   have tk:=(a4.o.below m.o).below V;have dr:=(P.o.below m.o).below V
   have one:Qc ((wc.alloc (L8 #[S9 name,TL d g f] 159)).alloc (L8 #[TL a p c,TL (some (G8 wc.heap.size 0)) 1 1,TL H K I] 68)).drew (TL (some (G8 wc.heap.size 0)) 1 1) [S9 name,TL d g f]:=by
    refine⟨some (G8 wc.heap.size 0),1,1,rfl,rfl,ze _,by decide,(λe=>by cases e),(λu hu=>by simp at hu;rcases hu with rfl|rfl<;>rfl),λj u hu=>⟨wc.heap.size,0,rfl,?_⟩⟩
    have A:=(zg (zA wc (L8 #[S9 name,TL d g f] 159)) j).1;have s:Below (wc.alloc (L8 #[S9 name,TL d g f] 159)).heap.size (wc.alloc (L8 #[S9 name,TL d g f] 159)) ((wc.alloc (L8 #[S9 name,TL d g f] 159)).alloc (L8 #[TL a p c,TL (some (G8 wc.heap.size 0)) 1 1,TL H K I] 68)).drew:=((zf _ (wc.alloc (L8 #[S9 name,TL d g f] 159))).alloc F7 _).drew;refine zi s ?_;rw[qV,A,<- hu]
    simp
   have cc:=iP [TL a p c,TL (some (G8 wc.heap.size 0)) 1 1,TL H K I] [xs.take (p*2),[S9 name,TL d g f],xs.drop ((p)*2)] (wc.heap.size+1) ((wc.alloc (L8 #[S9 name,TL d g f] 159)).alloc (L8 #[TL a p c,TL (some (G8 wc.heap.size 0)) 1 1,TL H K I] 68)).drew rfl
    (λk v l=>by
      have A:=(zg (zA (wc.alloc (L8 #[S9 name,TL d g f] 159)) (L8 #[TL a p c,TL (some (G8 wc.heap.size 0)) 1 1,TL H K I] 68)) k).1;rw[hX]at A;show ((wc.alloc (L8 #[S9 name,TL d g f] 159)).alloc (L8 #[TL a p c,TL (some (G8 wc.heap.size 0)) 1 1,TL H K I] 68)).cell? (G8 (wc.heap.size+1) k)=some v;rw[A,<- l]
      simp)
    (λk v ys l r=>by
      match k,l,r with
      | 0,l,r=>
       simp only[jE,Option.some.injEq]at l r;subst l r;exact tk
      | 1,l,r=>
       simp only[kW,jE,Option.some.injEq]at l r;subst l r;exact one
      | 2,l,r=>
       simp only[kW,jE,Option.some.injEq]at l r;subst l r;exact dr
      | k+3,l,r=>simp at l)
    (by simp) (by
      show 0+(xs.take (p*2)).length / 2+2 / 2+(xs.drop ((p)*2)).length / 2<=1000
      have:=a3.o.1
      rw[HN.o]at this;rw[jg,ve,this];omega)
   have CC:=G7 cc;have D:=G7 (O.o.trans ((m.o.trans (V.mono m.o.size)).mono O.o.size));have T:=G7 V;clear cc C V hX tk dr one X a4 P CF N m G l0
   go_upto_region 8 with fail
   go_region_held3 (λS=>S.cell? (G8 R 0)=some (S9 name)/\S.cell? (G8 R 1)=some (TL d g f)) (go_keep) (first|((go_at_call 69);apply CC.o.mono;rintro e w5⟨v,rfl,ho,t⟩;have⟨HO,b5⟩:=D5 ho t;have g0:=zi t (zi T.o c0);have g1:=zi t (zi T.o c1);clear ho t))
   go_wp2_with fail;go_ret2;have t:=D.o.trans (b5.o.mono D.o.size);refine⟨v,rfl,t,λ_=>?_⟩;have a1:=a3.o.turn (zx.of (M:=M) t);exact mD HO.o (((a1.take p).app (jM.one (x:=(name,ss)) (c8.o.turn (zx.of t)))).app (a1.drop (p))) (λb hm=>by have:=HM.o b hm;have:=D.o.size;omega)
def vL(l:Int):Bool:=decide (0<=l)&&decide (l<4)
def qN(l:Int)(name:BY):Int:=if vL l then (if U.ql name then 0 else 8) else 7
theorem BC(l:Int)(w:J):R8 44 #[R9 l] w λe a=>e=.returned (.bool (vL l))/\a=w:=by
 unfold vL
 by_cases h:0<=l
 ·have d:decide (0<=l)=true:=by simp[h]
  go_enter func44,ntmps44;go_wp2;go_ret;exact⟨by rw[d];rfl,rfl⟩
 have d:decide (0<=l)=false:=by simp;omega
 go_enter func44,ntmps44;go_wp2;go_ret;exact⟨rfl,rfl⟩
theorem nL(l:Int)(name:BY)(w:J)(m:name.size<=maxLen):R8 32 #[R9 l,S9 name] w (G5 (.int .i64 (qN l name)) w):=by
 have c1:=λW=>BC l W;have c2:=λW=>dw name W m;have d:qN l name=if vL l then (if U.ql name then 0 else 8) else 7:=rfl
 obtain⟨a,f⟩:=Nm (vL l);obtain⟨b,g⟩:=Nm (U.ql name);rw[f,g]at d;simp only[f]at c1;simp only[g]at c2;rw[d];have⟨j,k⟩:=D5 c1 c2;clear c1 c2 d f g
 cases a<;>cases b
 all_goals
  go_enter func32,ntmps32
  go_wp2_with(first
   |(go_at_call 57;apply(k.o w).mono;rintro e p⟨rfl,h⟩;have c:=G7 h;clear h)
   |(go_at_call 44;apply(j.o w).mono;rintro e o⟨rfl,i⟩;rw[i];clear i))
  go_ret
  first
   | exact⟨rfl,c.o⟩
   | exact⟨rfl,zf _ _⟩
theorem WZ(L:List zH)(R:Y)(name:BY)(M:Nat->Prop)(w:J)(h:xZ M w R L)(hn:L.length<=100)(V:Down L name):R8 41 #[R,S9 name] w λe X=>∃u z y,e=.returned (.tuple #[.agg #[.slice u z y],.bool (zq L name)])/\BQ w X/\(zq L name=true->∃x,L[qQ L name]?=some x/\jf M X (TL u z y) x.2):=by
 obtain⟨B,g⟩:=Nm (w.alloc (L8 #[R4] 80));have t:BQ w B:=by rw[<- g];exact nbl w _
 have F:B.heap[w.heap.size]?=some (L8 #[R4] 80):=by rw[<- g];exact zA w _
 have a7:B.heap.size=w.heap.size+1:=by rw[<- g];simp
 have O:=lq L R name M B (h.turn (zx.of t)) (by omega) V;have q:=λe=>vX (L:=L) (name:=name) e;obtain⟨a,c,rfl,h1,h2,h4,_⟩:=id h;have d:=h.cells.2.2.2;obtain⟨p,W⟩:=Nm (qQ L name);obtain⟨b,T⟩:=Nm (zq L name);rw[W,T]at O q |-;have⟨K,HC,k,D,C⟩:=M6 O d t g F;obtain⟨n,r⟩:=Nm L.length;rw[r]at h1 hn K |-;rw[r]at q;have HN:=G7 r;clear O d W T h r h4 V t g F
 cases b with
 | false=>
  go_enter func41,ntmps41
  go_upto_region 1 with fail
  rw[D.o]
  go_upto_region 2 with(go_at_call 67;apply K.o.mono;rintro e I⟨rfl,E⟩;have f:=G7 E;clear E)
  have m:I.heap[w.heap.size]?=some (L8 #[R4] 80):=(f.o.block _ (by omega)).trans C.o;have S:=(zg m 0).1;have f0:=(zg m 0).2;have G:=yC I w.heap.size 0 _ _ R4 m;have H:=(zg G 0).1;have j:=G7 ((k.o.trans (f.o.mono k.o.size)).setCell (p:=G8 w.heap.size 0) F7 R4);simp at S H;clear m G;go_wp2_with fail;exact zG (v := .tuple #[.agg #[R4],T9]) (by simp[results,results41,go_sem,H]) rfl ⟨none,0,0,rfl,j.o,λe=>by cases e⟩
 | true=>
  have P:=q rfl;clear q;go_enter func41,ntmps41
  go_upto_region 1 with fail
  rw[D.o]
  go_upto_region 2 with(go_at_call 67;apply K.o.mono;rintro e I⟨rfl,E⟩;have f:=G7 E;clear E)
  have Q:=zn (l:=L) (i:=p) (by rw[HN.o];exact P);obtain⟨gb,o,u,z,y,rfl,hm,c0,c1,s⟩:=HC.o p _ Q;have A:=k.o.trans (f.o.mono k.o.size);have d1:=zi A c1;have m:I.heap[w.heap.size]?=some (L8 #[R4] 80):=(f.o.block _ (by omega)).trans C.o;have S:=(zg m 0).1;have f0:=(zg m 0).2;have G:=yC I w.heap.size 0 _ _ (TL u z y) m;have H:=(zg G 0).1;have j:=G7 (A.setCell (p:=G8 w.heap.size 0) F7 (TL u z y));have⟨HX,N⟩:=D5 Q s;simp at S H;have k0:(0:Int)<=(p:Int):=qd _;have k1:(p:Int)<(n:Int):=by omega
  clear m G c0 c1 A Q s;go_wp2_with fail;exact zG (v := .tuple #[.agg #[TL u z y],L6]) (by simp[results,results41,go_sem,H]) rfl ⟨u,z,y,rfl,j.o,λ_=>⟨_,HX.o,N.o.turn (zx.of j.o)⟩⟩
theorem za9(nm:BY)(a:Option Addr)(c b:Nat)(w:J):R8 81 #[.agg #[S9 nm,TL a c b]] w (G5 (.string nm) w):=by
 go_enter func81,ntmps81;go_wp2;go_ret;exact⟨rfl,nbl w _⟩
theorem za8:∀a w,(callFunc 81 a).run prog w=.ok (.enter 81 a) w:=qo func81 (by kernel_rfl) rfl
theorem zaB(L:List zH)(lv:Y)(M:Nat->Prop)(w:J)(h:xZ M w lv L)(hn:L.length<=100):R8 80 #[lv,.func (.func 81) #[] #[]] w (JU w (L.map Prod.fst)):=by
 obtain⟨i0,hi,z,A,B⟩:=qU UE;obtain⟨a,c,rfl,h1,h2,h4,_⟩:=id h;have b:=h.cells.2.2.2;obtain⟨n,m⟩:=Nm L.length;rw[m]at hn |-;have⟨HC,O⟩:=D5 b m;have eg:=za8;clear b m h h1 h2 h4;go_enter func80,ntmps80;go_wp2_with (at_make;refine fG _ rfl _ _ 57 rfl w.heap.size 9 i0 R5 1 underlying57 hi z A _ _ _ n rfl rfl rfl ?_ ?_ ?_ ?_)
 ·rw[B];omega
 ·unfold maxLen;omega
 ·omega
 intro w1 j d;have t:=G7 j;have r:G6 (BQ w w1):=(zf _ w).grown d F7 (λk D=>by cases D);clear j d;go_wp2_with fail
 go_loopw [5,7,13] (λov _ I wr=>∃(k:Nat),k<=n/\I=R9 k/\zJ wr w.heap.size ov ((L.take k).map Prod.fst)/\BQ w wr) (λ_ _ I _=>n-(intOf I).toNat)
 case atStart=>exact⟨0,zD _,rfl,t.o,r.o⟩
 case round=>
  obtain⟨k,D,rfl,q,X⟩:=hrel;have⟨C,p⟩:=D5 q X;clear q X t r
  by_cases hlt:k<n
  ·have x:k<L.length:=by rw[O.o];exact hlt
   obtain⟨gb,o,Q,T,R,rfl,hm,q0,q1,_⟩:=HC.o k _ (zn x);have p0:=zi p.o q0;have p1:=zi p.o q1;have i:G6 ((L.take (k+1)).map Prod.fst=(L.take k).map Prod.fst++[L[k].1]):=G7 (by rw[Qg,zn x,uz];rfl);have y:((L.take k).map Prod.fst).length=k:=by rw[qf,jg];omega
   obtain⟨s,hs⟩:=Nm (L[k]);rw[hs]at p0 i;have b7:=p.o.size;have P:=za9 s.1 Q T R (wr.alloc (L8 #[S9 s.1,TL Q T R] 159));have N:=G7 P;obtain⟨S,W⟩:=Nm s.1;rw[W]at p0 i N;obtain⟨K,V⟩:=Nm ((L.take k).map Prod.fst);rw[V]at C i y;clear P hs V q0 q1 hm W
   go_wp2_with(first
    |(go_at_fn 81;apply N.o.mono;rintro e w2⟨rfl,v⟩;have l:G6 (BQ wr w2):=(nbl wr _).trans (v.mono (by simp));have a3:=l.o.size;clear v)
    | (at_builtin;refine yh _ rfl _ _ 57 rfl w.heap.size 9 i0 R5 1 16 underlying57 hi z A B rfl (by decide) _ K.length (K.map Value.string) rfl (World.ownsRow.alloc (ownsRow_below C.o l.o) _) (G8 w2.heap.size 0) 1 1 [S9 S] rfl rfl ?_ ?_ ?_ ?_ ?_ ?_))
   ·exact uQ _ _ _
   ·intro u hu;simp at hu;rcases hu with rfl;rfl
   ·unfold maxLen;omega
   ·omega
   ·simp;omega
   intro v' w3 g f _;have G:G6 (zJ w3 w.heap.size v' ((L.take (k+1)).map Prod.fst)):=by rw[i.o];exact K8 (by rw[y];exact g)
   have E:G6 (BQ w w3):=((p.o.trans (l.o.mono p.o.size)).alloc (by omega) _).grown f (by simp;omega) (λk D=>(World.ownsRow.lt C.o k D).1);clear g f;go_wp2;go_roundw
   case rel=>exact⟨k+1,by omega,by go_num,G.o,E.o⟩
   case measure=>simp[intOf];omega
  have H:k=n:=by omega
  subst H;have q:=C.o;rw[uA (by rw[O.o];omega)]at q;have F:=G7 q;clear q;go_wp2;go_ret;exact⟨_,rfl,F.o,p.o⟩
theorem zaa(L:List zH)(b:Y)(M:Nat->Prop)(w:J)(h:xZ M w b L)(f:L.length<=100):R8 45 #[b] w (JU w (L.map Prod.fst)):=by
 have c:=zaB L b M w h f;obtain⟨a,i,rfl,_⟩:=h;unfold JU at c |-;have C:=G7 c;clear c;go_enter func45,ntmps45;go_wp2_with(go_at_call 80;apply C.o.mono;rintro e j⟨b,rfl,g,d⟩);go_ret;exact⟨b,rfl,g,d⟩
theorem tJ:∀(a b c:List UInt8),Lib.compareBytes a b<0->Lib.compareBytes b c<0->Lib.compareBytes a c<0
 | [],[],_,h,_=>by simp[Lib.compareBytes]at h
 | [],_::_,[],_,h=>by simp[Lib.compareBytes]at h
 | [],_::_,_::_,_,_=>by simp[Lib.compareBytes]
 | _::_,[],_,h,_=>by simp[Lib.compareBytes]at h
 | _::_,_::_,[],_,h=>by simp[Lib.compareBytes]at h
 | x::a,y::b,z::c,h,g=>by
  unfold Lib.compareBytes at h g |-
  by_cases c1:x<y
  ·by_cases c2:y<z
   ·rw[zb (UInt8.lt_trans c1 c2)];decide
   rw[za c2]at g
   by_cases c3:z<y
   ·rw[zb c3]at g;omega
   have e:y=z:=rO (VR.1 c3) (VR.1 c2);subst e;rw[zb c1];decide
  rw[za c1]at h
  by_cases c2:y<x
  ·rw[zb c2]at h;omega
  rw[za c2]at h;have e:x=y:=rO (VR.1 c2) (VR.1 c1);subst e
  by_cases c3:x<z
  ·rw[zb c3];decide
  rw[za c3]at g |-
  by_cases c4:z<x
  ·rw[zb c4]at g;omega
  rw[za c4]at g |-;exact tJ a b c h g
theorem tK:∀(a b:List UInt8),Lib.compareBytes a b=0->a=b
 | [],[],_=>rfl
 | [],_::_,h=>by simp[Lib.compareBytes]at h
 | _::_,[],h=>by simp[Lib.compareBytes]at h
 | x::a,y::b,h=>by
  unfold Lib.compareBytes at h
  by_cases c1:x<y
  ·rw[zb c1]at h;omega
  rw[za c1]at h
  by_cases c2:y<x
  ·rw[zb c2]at h;omega
  rw[za c2]at h;have e:x=y:=rO (VR.1 c2) (VR.1 c1);rw[e,tK a b h]
theorem tH:∀(a:List UInt8),Lib.compareBytes a a=0
 | []=>rfl
 | x::a=>by
  unfold Lib.compareBytes;rw[za (gT x),za (gT x)];exact tH a
theorem tF:∀(a b:List UInt8),Lib.compareBytes a b = -Lib.compareBytes b a
 | [],[]=>rfl
 | [],_::_=>rfl
 | _::_,[]=>rfl
 | x::a,y::b=>by
  unfold Lib.compareBytes
  by_cases c1:x<y
  ·rw[zb c1,za (VR.2 (UInt8.le_of_lt c1)),zb c1]
  rw[za c1]
  by_cases c2:y<x
  ·rw[zb c2,zb c2];rfl
  rw[za c2,za c2,za c1];exact tF a b
theorem Kc{a b c:BY}(h:qI a b<0)(g:qI b c<0):qI a c<0:=tJ _ _ _ h g
theorem iO{a b:BY}(h:qI a b=0):a=b:=by
 have:=tK _ _ h
 exact XJ (Y3.1 this)
theorem Ji(a:BY):qI a a=0:=tH _
theorem iN(a b:BY):qI a b = -qI b a:=tF _ _
def vv(L:List zH):Prop:=L.Pairwise λx y=>qI x.1 y.1<0
theorem vv.at{L:List zH}(h:vv L){a b:Nat}{x y:zH}(c:a<b)(f:L[a]?=some x)(g:L[b]?=some y):qI x.1 y.1<0:=by
 obtain⟨d,rfl⟩:=zU.1 f;obtain⟨e,rfl⟩:=zU.1 g;exact aQ.1 h a b d e c
theorem vv.down{L:List zH}(h:vv L)(name:BY):Down L name:=by
 intro a b x y c e f d;unfold ltN at d |-;rw[vJ]at d |-;exact Kc (h.at c e f) d
theorem CY{α:Type}{p:α->Bool}:∀{l:List α} {x:α},x ∈ l.takeWhile p->p x=true
 | [],_,h=>by simp at h
 | a::l,x,h=>by
  rw[rG]at h;split at h
  ·rename_i b
   rcases Zt.1 h with rfl|h
   ·exact b
   exact CY h
  simp at h
theorem gV{L:List zH}{name:BY}{x:zH}(a:x ∈ L.take (qQ L name)):qI x.1 name<0:=by
 have:L.take (qQ L name)=L.takeWhile (ltN name):=by
  unfold qQ;exact(List.prefix_iff_eq_take.1 (List.takeWhile_prefix _)).symm
 rw[this]at a
 have:=CY a
 unfold ltN at this
 rwa [vJ]at this
theorem Lg{L:List zH}{name:BY}{x:zH}(b:L[qQ L name]?=some x):ltN name x=false:=by
 unfold qQ at b
 have c:L.drop (L.takeWhile (ltN name)).length=L.dropWhile (ltN name):=by
  have:=List.takeWhile_append_dropWhile (p:=ltN name) (l:=L)
  have a:=congrArg (List.drop (L.takeWhile (ltN name)).length) this;rw[List.drop_left]at a;exact a.symm
 have d:(L.dropWhile (ltN name))[0]?=some x:=by rw[<- c,Q6];exact b
 have:=List.head?_dropWhile_not (ltN name) L
 rw[List.head?_eq_getElem?,d]at this
 simpa using this
theorem il{L:List zH}(h:vv L){name:BY}{x:zH}(i:x ∈ L.drop (if zq L name then qQ L name+1 else qQ L name)):qI name x.1<0:=by
 obtain⟨k,a⟩:=Q8 i;rw[Q6]at a
 have d:qQ L name<L.length:=by
  have:=(zU.1 a).1
  split at this<;>omega
 obtain⟨y,b⟩:∃y,L[qQ L name]?=some y:=⟨_,zn d⟩;have f:=Lg b;unfold ltN at f;rw[iU]at f
 cases hh:zq L name with
 | true=>
  rw[hh,zb rfl]at a
  have g:qI y.1 name=0:=by
   unfold zq at hh;rw[b]at hh
   simpa using hh
  rw[<- iO g];exact h.at (by omega) b a
 | false=>
  rw[hh]at a;simp only[yu,xX]at a
  have g:qI y.1 name≠0:=by
   intro e;unfold zq at hh;rw[b]at hh;simp[e]at hh
  have j:=wG y.1 name;have c:qI name y.1<0:=by rw[iN];omega
  by_cases hk0:k=0
  ·subst hk0;rw[Qh,b]at a;injection a with a
   rw[<- a];exact c
  exact Kc c (h.at (by omega) b a)
theorem vv.with{L:List zH}(h:vv L)(name:BY)(c:List zS):vv (Zo L name c):=by
 unfold Zo vv;rw[fZ,rE];refine⟨h.sublist (List.take_sublist _ _),?_,?_⟩
 ·rw[List.singleton_append,rF];exact⟨λx a=>il h a,h.sublist (List.drop_sublist _ _)⟩
 intro x a y b;rw[List.singleton_append]at b
 rcases Zt.1 b with rfl|b
 ·exact gV a
 exact Kc (gV a) (il h b)
theorem vv.less{L:List zH}(h:vv L)(p:Nat):vv (Qp L p):=by
 unfold Qp;rw[<- ru];exact h.sublist (List.eraseIdx_sublist _ _)
theorem zfP{L:List zH}{name:BY}{b:List zS}(h:L.length<=4)(a:(zq L name||decide (L.length<4))=true):(Zo L name b).length<=4:=by
 have c:=EA L name;unfold Zo;rw[qE,qE,jg,ve,kX]
 cases hh:zq L name with
 | true=>
  have:=vX hh
  rw[zb rfl];omega
 | false=>
  rw[hh]at a;simp only[XI,vJ]at a;simp only[yu,xX];omega
theorem zai{L:List zH}(p:Nat)(h:L.length<=4):(Qp L p).length<=4:=by
 unfold Qp;rw[qE,jg,ve];omega
end Go.Proofs.YtfjpcldndaiifaaGreatDoor
