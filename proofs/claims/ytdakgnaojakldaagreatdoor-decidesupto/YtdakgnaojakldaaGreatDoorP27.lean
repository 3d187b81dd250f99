/- P -/
import Derived.Test.YtdakgnaojakldaaGreatDoorP26
import Derived.Deep.RegionHeld3
open Go.Proofs.Tryz
set_option maxRecDepth 100000
set_option maxHeartbeats 4000000
namespace Go.Proofs.YtdakgnaojakldaaGreatDoor
open Go.RowKit
def ZW(L:List zF)(p:Nat):List zF:=L.take p++L.drop (p+1)
theorem vL{L:List zF}{name:BY}(h:zn L name=true):qV L name<L.length:=by
 unfold zn at h
 split at h
 ·rename_i x a;exact (zW.1 a).1
 ·cases h
theorem sU(W:World):(Go.sizeOf (prog.elem 98)).run prog W = .ok 2 W:=by
 obtain⟨d,hi,b,a,c⟩:=xA fK;have e:prog.elem 98=187:=by kernel_rfl
 rw[e];simp[Go.sizeOf,typeInfo,hi,a]
theorem Cn(a:Option Addr)(n c p:Nat)(h:p<=c)(W:World):(Instr.sliceAt 98 (.slice a n c) none (some (.int .i64 (p:Int))) none).run prog W = .ok (.slice a p c) W:=by
 have b:prog.underlying 98=some (.slice (prog.elem 98)):=by kernel_rfl
 rw[iE _ _ _ _ _ _ b,run_slice_h _ _ _ _ _ b .i64 (p:Int) (by omega) (by omega),sU];simp[Result.andThen,sliced,Addr.add]
theorem iH(a:Option Addr)(n c p:Nat)(h:p<=n)(W:World):(Instr.sliceAt 98 (.slice a n c) (some (.int .i64 (p:Int))) none none).run prog W = .ok (.slice (if c=p then a else a.map λx=>x.add (p*2)) (n-p) (c-p)) W:=by
 have b:prog.underlying 98=some (.slice (prog.elem 98)):=by kernel_rfl
 rw[iE _ _ _ _ _ _ b,run_slice_l _ _ _ _ _ b .i64 (p:Int) (by omega) (by omega),sU];simp[Result.andThen,sliced]
theorem zda(L:List zF)(lv:Value)(name:BY)(M:Nat->Prop)(w:World)(h:x9 M w lv L)(hn:L.length<=100)(P:Down L name)(O:∀b,M b->b<w.heap.size) :
  Calls prog 48 #[lv,.string name] w λe w'=>∃v,e = .returned (.tuple #[v,.bool (zn L name)])/\Below w.heap.size w w'/\(zn L name=true->x9 M w' v (ZW L (qV L name))):=by
 have I:=rD L lv name M w h (by omega) P;have g:=λe=>vL (L:=L) (name:=name) e;obtain⟨xs,A,z⟩:=h.flat;obtain⟨a,c,rfl,J,X,Y,_⟩:=id h;obtain⟨p,R⟩:=Nm (qV L name);obtain⟨b,hb⟩:=Nm (zn L name);rw[R,hb] at I g |-;have E:=hid I;have m:=hid A;have t:=hid z;have T:=hid O;obtain⟨n,o⟩:=Nm L.length;rw[o] at J hn g E m |-;have U:=hid o;clear I A z O R hb h o Y P
 cases b with
 | false=>
  go_enter func48,ntmps48
  go_wp2_with (go_at_call 83;refine E.out.mono ?_;rintro e w1 ⟨rfl,u⟩;have d:=hid u;clear u)
  go_ret2;exact⟨_,rfl,d.out,λe=>by cases e⟩
 | true=>
  have a1:=g rfl;clear g;go_enter func48,ntmps48
  go_upto_region 4 with (go_at_call 83;refine E.out.mono ?_;rintro e w1 ⟨rfl,u⟩;have d:=hid u;clear u)
  clear E;have l:=hid (m.out.below d.out);unfold maxLen at X;have y6:IntKind.i64.wrap ((p:Int)+1)=(p:Int)+1:=by rw[JK];omega
  have y7:wrap64 ((p:Int)+1)=(p:Int)+1:=by unfold wrap64;omega
  have s1:=Cn a n c p (by omega);have s2:∀W,(Instr.sliceAt 98 (.slice a n c) (some (.int .i64 ((p:Int)+1))) none none).run prog W = .ok (.slice (if c=p+1 then a else a.map λx=>x.add ((p+1)*2)) (n-(p+1)) (c-(p+1))) W:=iH a n c (p+1) (by omega)
  have H:=hid (l.out.drop (p:=p+1) (by omega));have K:=hid (l.out.take (p:=p) (by omega));obtain⟨B,q⟩:∃x,(if c=p+1 then a else a.map λx=>x.add ((p+1)*2))=x:=⟨_,rfl⟩
  obtain⟨D,s⟩:∃x,n-(p+1)=x:=⟨_,rfl⟩;obtain⟨C,r⟩:∃x,c-(p+1)=x:=⟨_,rfl⟩;rw[q,s,r] at H;simp only[q,s,r] at s2;clear q r m l;have F:Below w1.heap.size w1 (w1.alloc (.cells #[.slice a p c,.slice B D C] 98)).drew:=(nbl w1 _).drew
  have N:=dV [.slice a p c,.slice B D C] [xs.take (p*2),xs.drop ((p+1)*2)] w1.heap.size (w1.alloc (.cells #[.slice a p c,.slice B D C] 98)).drew rfl
   (λk v f=>by
     have J:=(zg (zB w1 (.cells #[.slice a p c,.slice B D C] 98)) k).1;show (w1.alloc (.cells #[.slice a p c,.slice B D C] 98)).cell? ⟨w1.heap.size,k,none⟩=some v;rw[J,<- f]
     simp)
   (λk v ys f i=>by
     match k,f,i with
     | 0,f,i=>
      simp only[yV,Option.some.injEq] at f i;subst f i;exact K.out.below F
     | 1,f,i=>
      simp only[uM,yV,Option.some.injEq] at f i;subst f i;exact H.out.below F
     | k+2,f,i=>simp at f)
   (by simp) (by
     show 0+(xs.take (p*2)).length / 2+(xs.drop ((p+1)*2)).length / 2<=1000
     have:=t.out.1
     rw[U.out] at this;rw[vT,jV,this];omega)
  have S:=hid N;have j:=hid (d.out.trans (F.mono d.out.size));clear N F K H s
  go_region_held3 (λ_=>True) (trivial) (first|((go_at_call 85);refine S.out.mono ?_;rintro e w3 ⟨v,rfl,Q,hb⟩;have V:=hid Q;have G:=hid hb;clear Q hb))
  go_wp2_with fail;go_ret2;have hb:=j.out.trans (G.out.mono j.out.size);refine⟨v,rfl,hb,λ_=>?_⟩;have y:=t.out.turn (zw.of (M:=M) hb);exact fZ V.out ((y.take p).app (y.drop (p+1))) (λb Z=>by have:=T.out b Z;have:=j.out.size;omega)
def kH(L:List zF)(name:BY)(a:List zS):List zF:=L.take (qV L name)++[(name,a)]++L.drop (if zn L name then qV L name+1 else qV L name)
theorem Gy(s:BY)(w:World)(d:s.size<=281474976710656) :
  Calls prog 84 #[.string s] w λe w'=>e = .returned (.string s)/\Below w.heap.size w w':=by
 have c:Calls prog 137 #[.string s] w λe w'=>e = .returned (.string s)/\Below w.heap.size w w':=AnyPu.stringslite_Clone Tryz.laysPu25 s w d;have C:=hid c;clear c;go_enter func84,ntmps84
 go_wp2_with (go_at_call 137;refine C.out.mono ?_;rintro e w1 ⟨rfl,b⟩;have a:=hid b;clear b)
 go_ret;exact⟨rfl,a.out⟩
theorem zc9(L:List zF)(lv:Value)(name:BY)(d:Option Addr)(g f:Nat)(ss:List zS)(M:Nat->Prop)(w:World)(h:x9 M w lv L)(hn:L.length<=100)(hd:Down L name)(hM:∀b,M b->b<w.heap.size)(hD:jd M w (.slice d g f) ss)(hs:name.size<=281474976710656) :
  Calls prog 44 #[lv,.string name,.agg #[.slice d g f]] w λe w'=>∃v,e = .returned (.tuple #[v,.bool (zn L name||decide (L.length<4))])/\Below w.heap.size w w'/\((zn L name||decide (L.length<4))=true->x9 M w' v (kH L name ss)):=by
 obtain⟨W0,a0⟩:=Nm (w.alloc (.cells #[.slice d g f] 72));have Y:Below w.heap.size w W0:=by rw[<- a0];exact nbl w _
 have k0:W0.cell? ⟨w.heap.size,0,none⟩=some (.slice d g f):=by rw[<- a0];exact (zg (zB w (.cells #[.slice d g f] 72)) 0).1
 have cf:=rD L lv name M W0 (h.turn (zw.of Y)) (by omega) hd;have N:=λe=>vL (L:=L) (name:=name) e;have a3:=Bp L name;obtain⟨xs,c9,c6⟩:=h.flat;obtain⟨a,c,rfl,y,Z,h4,_⟩:=id h;unfold kH;obtain⟨p,hp⟩:=Nm (qV L name);obtain⟨b,hb⟩:=Nm (zn L name);rw[hp,hb] at cf N |-;rw[hp] at a3;have c2:=λW=>Gy name W hs;have I:=hid c2;have CF:=hid cf;have a8:=hid (c9.below Y);have V:=hid c6;have HM:=hid hM;have b8:=hid hD;have J:=hid Y;have a7:=hid a0;obtain⟨n,b0⟩:=Nm L.length;rw[b0] at y hn N CF a8 a3 |-;have HN:=hid b0;unfold maxLen at Z;clear cf c9 c6 hM hp hb h b0 h4 hd hD c2 Y a0
 by_cases hfull:b=false/\4<=n
 ·obtain⟨rfl,f9⟩:=hfull;have d1:decide ((4:Int)<=(n:Int))=true:=by simp;omega
  have d2:decide (n<4)=false:=by simp;omega
  rw[d2];go_enter func44,ntmps44
  go_upto_region 1 with fail
  rw[a7.out]
  go_wp2_with (go_at_call 83;refine CF.out.mono ?_;rintro e w1 ⟨rfl,A⟩;have s:=hid (J.out.trans (A.mono J.out.size));clear A)
  go_ret2;exact⟨⟨_,rfl⟩,s.out⟩
 ·have b4:(b||decide (n<4))=true:=by cases b<;>simp at hfull |-;omega
  rw[b4];obtain⟨q,hq⟩:=Nm ((if b=true then p+1 else p))
  have d9:q<=n:=by rw[<- hq];cases b with
   | true=>have:=N rfl;simp;omega
   | false=>simp;omega
  have s1:=Cn a n c p (by omega);have s2:=iH a n c p (by omega);have X:=hid (a8.out.take (p:=p) (by omega));have K:=hid (a8.out.drop (p:=q) d9);have y6:IntKind.i64.wrap ((p:Int)+1)=(p:Int)+1:=by rw[JK];omega
  have y7:wrap64 ((p:Int)+1)=(p:Int)+1:=by unfold wrap64;omega
  have f7:w.heap.size<W0.heap.size:=Qe _ _ k0
  cases b with
  | true=>
   have s3:∀W,(Instr.sliceAt 98 (.slice a n c) (some (.int .i64 ((p:Int)+1))) none none).run prog W = .ok (.slice (if c=p+1 then a else a.map λx=>x.add ((p+1)*2)) (n-(p+1)) (c-(p+1))) W:=iH a n c (p+1) (N rfl)
   have U:q=p+1:=by rw[<- hq];rfl
   have S:L.drop (if (true=true) then p+1 else p)=L.drop q:=by rw[U];rfl
   rw[S];clear S hq N hfull b4;subst U;obtain⟨F,C⟩:∃x,(if c=p+1 then a else a.map λx=>x.add ((p+1)*2))=x:=⟨_,rfl⟩
   obtain⟨H,E⟩:∃x,n-(p+1)=x:=⟨_,rfl⟩;obtain⟨G,D⟩:∃x,c-(p+1)=x:=⟨_,rfl⟩;rw[C,E,D] at K;simp only[C,E,D] at s3;obtain⟨xa,c8⟩:∃x,(if c=p then a else a.map λx=>x.add (p*2))=x:=⟨_,rfl⟩
   simp only[c8] at s2;clear c8;clear C D;go_enter func44,ntmps44
   go_upto_region 1 with fail
   rw[a7.out]
   go_upto_region 7 with (go_at_call 83;refine CF.out.mono ?_;rintro e w1 ⟨rfl,A⟩;have s:=hid A;clear A)
   have l0:=zh s.out k0
   go_cut [11] (λv wx=>∃O,v = .pointer (some ⟨O,0,none⟩)/\wx.cell? ⟨O,0,none⟩=some (.string name)/\wx.cell? ⟨O,1,none⟩=some (.slice d g f)/\Below w1.heap.size w1 wx)
   case first=>
    have bZ:Hid (Below w1.heap.size w1 (w1.alloc (.cells #[.string ⟨#[]⟩,.slice none 0 0] 187)).drew):=(nbl w1 _).drew;have lZ:=zh bZ.out l0;have nn:=World.new_ne w1 _ l0
    go_region_held3 (λw'=>w'.cell? ⟨w.heap.size,0,none⟩=some (.slice d g f)) (go_keep) (first
     | ((go_at_call 84);refine (I.out w1.drew).mono ?_;rintro e z ⟨rfl,r⟩;have m0:=zh r l0;have t:Hid (Below w1.heap.size w1 z):=(((ze _ w1).drew).trans r);clear r)
     | ((go_at_call 84);refine (I.out (w1.alloc (.cells #[.string ⟨#[]⟩,.slice none 0 0] 187)).drew).mono ?_;rintro e z ⟨rfl,r⟩;have m0:=zh r lZ;have m:Hid (z.heap[w1.heap.size]?=some (.cells #[.string ⟨#[]⟩,.slice none 0 0] 187)):=((r.block w1.heap.size (by simp)).trans (zB w1 (.cells #[.string ⟨#[]⟩,.slice none 0 0] 187)));have z0:=(zg m.out 0).1;have z1:=(zg m.out 1).1;have f0:=(zg m.out 0).2;have f1:=(zg m.out 1).2;have t:Hid (Below w1.heap.size w1 z):=(bZ.out.trans (r.mono bZ.out.size));clear r))
    ·go_wp2_with fail
     go_meet
     case rel=>exact⟨z.heap.size,rfl,(zg (zB z (.cells #[.string name,.slice d g f] 187)) 0).1,(zg (zB z (.cells #[.string name,.slice d g f] 187)) 1).1,t.out.alloc t.out.size _⟩
    ·have y:=yF z w1.heap.size 0 _ _ (.string name) m.out;have Z:=yF _ w1.heap.size 1 _ _ (.slice d g f) y;have a5:=hid (zg Z 0).1;have a6:=hid (zg Z 1).1;clear y Z;go_wp2_with fail
     go_meet
     case rel=>exact⟨w1.heap.size,rfl,a5.out,a6.out,(t.out.setCell (zf _) _).setCell (zf _) _⟩
   case rest=>
    obtain⟨O,rfl,c0,c1,R⟩:=hcut;have l:=hid (s.out.trans (R.mono s.out.size));have A:Below wc.heap.size wc (wc.alloc (.cells #[.string name,.slice d g f] 187)):=nbl wc _;have Q:Below wc.heap.size wc ((wc.alloc (.cells #[.string name,.slice d g f] 187)).alloc (.cells #[.slice a p c,.slice (some ⟨wc.heap.size,0,none⟩) 1 1,.slice F H G] 98)).drew:=(A.alloc A.size _).drew;have hX:(wc.alloc (.cells #[.string name,.slice d g f] 187)).heap.size=wc.heap.size+1:=by simp
    have tk:=(X.out.below l.out).below Q;have dr:=(K.out.below l.out).below Q
    have one:ZK ((wc.alloc (.cells #[.string name,.slice d g f] 187)).alloc (.cells #[.slice a p c,.slice (some ⟨wc.heap.size,0,none⟩) 1 1,.slice F H G] 98)).drew (.slice (some ⟨wc.heap.size,0,none⟩) 1 1) [.string name,.slice d g f]:=by
     refine⟨some ⟨wc.heap.size,0,none⟩,1,1,rfl,rfl,zf _,by decide,(λe=>by cases e),(λu hu=>by simp at hu;rcases hu with rfl|rfl<;>rfl),λj u hu=>⟨wc.heap.size,0,rfl,?_⟩⟩
     have y:=(zg (zB wc (.cells #[.string name,.slice d g f] 187)) j).1;have r:Below (wc.alloc (.cells #[.string name,.slice d g f] 187)).heap.size (wc.alloc (.cells #[.string name,.slice d g f] 187)) ((wc.alloc (.cells #[.string name,.slice d g f] 187)).alloc (.cells #[.slice a p c,.slice (some ⟨wc.heap.size,0,none⟩) 1 1,.slice F H G] 98)).drew:=((ze _ (wc.alloc (.cells #[.string name,.slice d g f] 187))).alloc (zf _) _).drew;refine zh r ?_;rw[qN,y,<- hu]
     simp
    have cc:=dV [.slice a p c,.slice (some ⟨wc.heap.size,0,none⟩) 1 1,.slice F H G] [xs.take (p*2),[.string name,.slice d g f],xs.drop ((p+1)*2)] (wc.heap.size+1) ((wc.alloc (.cells #[.string name,.slice d g f] 187)).alloc (.cells #[.slice a p c,.slice (some ⟨wc.heap.size,0,none⟩) 1 1,.slice F H G] 98)).drew rfl
     (λk v i=>by
       have y:=(zg (zB (wc.alloc (.cells #[.string name,.slice d g f] 187)) (.cells #[.slice a p c,.slice (some ⟨wc.heap.size,0,none⟩) 1 1,.slice F H G] 98)) k).1;rw[hX] at y;show ((wc.alloc (.cells #[.string name,.slice d g f] 187)).alloc (.cells #[.slice a p c,.slice (some ⟨wc.heap.size,0,none⟩) 1 1,.slice F H G] 98)).cell? ⟨wc.heap.size+1,k,none⟩=some v;rw[y,<- i]
       simp)
     (λk v ys i o=>by
       match k,i,o with
       | 0,i,o=>
        simp only[yV,Option.some.injEq] at i o;subst i o;exact tk
       | 1,i,o=>
        simp only[uM,yV,Option.some.injEq] at i o;subst i o;exact one
       | 2,i,o=>
        simp only[uM,yV,Option.some.injEq] at i o;subst i o;exact dr
       | k+3,i,o=>simp at i)
     (by simp) (by
       show 0+(xs.take (p*2)).length / 2+2 / 2+(xs.drop ((p+1)*2)).length / 2<=1000
       have:=V.out.1
       rw[HN.out] at this;rw[vT,jV,this];omega)
    have CC:=hid cc;have B:=hid (J.out.trans ((l.out.trans (Q.mono l.out.size)).mono J.out.size));have P:=hid Q;clear cc A Q hX tk dr one R X K CF I l E l0
    go_upto_region 8 with fail
    go_region_held3 (λw'=>w'.cell? ⟨O,0,none⟩=some (.string name)/\w'.cell? ⟨O,1,none⟩=some (.slice d g f)) (go_keep) (first|((go_at_call 85);refine CC.out.mono ?_;rintro e w5 ⟨v,rfl,ho,hb⟩;have HO:=hid ho;have a4:=hid hb;have g0:=zh hb (zh P.out c0);have g1:=zh hb (zh P.out c1);clear ho hb))
    go_wp2_with fail;go_ret2;have hb:=B.out.trans (a4.out.mono B.out.size);refine⟨v,rfl,hb,λ_=>?_⟩;have T:=V.out.turn (zw.of (M:=M) hb);exact fZ HO.out (((T.take p).app (jg.one (x:=(name,ss)) (b8.out.turn (zw.of hb)))).app (T.drop (p+1))) (λb hm=>by have:=HM.out b hm;have:=B.out.size;omega)
  | false=>
   have U:p=q:=by rw[<- hq];rfl
   have S:L.drop (if (false=true) then p+1 else p)=L.drop q:=by rw[<- U];rfl
   have d1:decide ((4:Int)<=(n:Int))=false:=by simp at hfull |-;omega
   rw[S];clear S hq N hfull b4;subst U;obtain⟨F,C⟩:∃x,(if c=p then a else a.map λx=>x.add ((p)*2))=x:=⟨_,rfl⟩
   obtain⟨H,E⟩:∃x,n-(p)=x:=⟨_,rfl⟩;obtain⟨G,D⟩:∃x,c-(p)=x:=⟨_,rfl⟩;rw[C,E,D] at K;simp only[C,E,D] at s2;clear C D;go_enter func44,ntmps44
   go_upto_region 1 with fail
   rw[a7.out]
   go_upto_region 7 with (go_at_call 83;refine CF.out.mono ?_;rintro e w1 ⟨rfl,A⟩;have s:=hid A;clear A)
   have l0:=zh s.out k0
   go_cut [11] (λv wx=>∃O,v = .pointer (some ⟨O,0,none⟩)/\wx.cell? ⟨O,0,none⟩=some (.string name)/\wx.cell? ⟨O,1,none⟩=some (.slice d g f)/\Below w1.heap.size w1 wx)
   case first=>
    have bZ:Hid (Below w1.heap.size w1 (w1.alloc (.cells #[.string ⟨#[]⟩,.slice none 0 0] 187)).drew):=(nbl w1 _).drew;have lZ:=zh bZ.out l0;have nn:=World.new_ne w1 _ l0
    go_region_held3 (λw'=>w'.cell? ⟨w.heap.size,0,none⟩=some (.slice d g f)) (go_keep) (first
     | ((go_at_call 84);refine (I.out w1.drew).mono ?_;rintro e z ⟨rfl,r⟩;have m0:=zh r l0;have t:Hid (Below w1.heap.size w1 z):=(((ze _ w1).drew).trans r);clear r)
     | ((go_at_call 84);refine (I.out (w1.alloc (.cells #[.string ⟨#[]⟩,.slice none 0 0] 187)).drew).mono ?_;rintro e z ⟨rfl,r⟩;have m0:=zh r lZ;have m:Hid (z.heap[w1.heap.size]?=some (.cells #[.string ⟨#[]⟩,.slice none 0 0] 187)):=((r.block w1.heap.size (by simp)).trans (zB w1 (.cells #[.string ⟨#[]⟩,.slice none 0 0] 187)));have z0:=(zg m.out 0).1;have z1:=(zg m.out 1).1;have f0:=(zg m.out 0).2;have f1:=(zg m.out 1).2;have t:Hid (Below w1.heap.size w1 z):=(bZ.out.trans (r.mono bZ.out.size));clear r))
    ·go_wp2_with fail
     go_meet
     case rel=>exact⟨z.heap.size,rfl,(zg (zB z (.cells #[.string name,.slice d g f] 187)) 0).1,(zg (zB z (.cells #[.string name,.slice d g f] 187)) 1).1,t.out.alloc t.out.size _⟩
    ·have y:=yF z w1.heap.size 0 _ _ (.string name) m.out;have Z:=yF _ w1.heap.size 1 _ _ (.slice d g f) y;have a5:=hid (zg Z 0).1;have a6:=hid (zg Z 1).1;clear y Z;go_wp2_with fail
     go_meet
     case rel=>exact⟨w1.heap.size,rfl,a5.out,a6.out,(t.out.setCell (zf _) _).setCell (zf _) _⟩
   case rest=>
    obtain⟨O,rfl,c0,c1,R⟩:=hcut;have l:=hid (s.out.trans (R.mono s.out.size));have A:Below wc.heap.size wc (wc.alloc (.cells #[.string name,.slice d g f] 187)):=nbl wc _;have Q:Below wc.heap.size wc ((wc.alloc (.cells #[.string name,.slice d g f] 187)).alloc (.cells #[.slice a p c,.slice (some ⟨wc.heap.size,0,none⟩) 1 1,.slice F H G] 98)).drew:=(A.alloc A.size _).drew;have hX:(wc.alloc (.cells #[.string name,.slice d g f] 187)).heap.size=wc.heap.size+1:=by simp
    have tk:=(X.out.below l.out).below Q;have dr:=(K.out.below l.out).below Q
    have one:ZK ((wc.alloc (.cells #[.string name,.slice d g f] 187)).alloc (.cells #[.slice a p c,.slice (some ⟨wc.heap.size,0,none⟩) 1 1,.slice F H G] 98)).drew (.slice (some ⟨wc.heap.size,0,none⟩) 1 1) [.string name,.slice d g f]:=by
     refine⟨some ⟨wc.heap.size,0,none⟩,1,1,rfl,rfl,zf _,by decide,(λe=>by cases e),(λu hu=>by simp at hu;rcases hu with rfl|rfl<;>rfl),λj u hu=>⟨wc.heap.size,0,rfl,?_⟩⟩
     have y:=(zg (zB wc (.cells #[.string name,.slice d g f] 187)) j).1;have r:Below (wc.alloc (.cells #[.string name,.slice d g f] 187)).heap.size (wc.alloc (.cells #[.string name,.slice d g f] 187)) ((wc.alloc (.cells #[.string name,.slice d g f] 187)).alloc (.cells #[.slice a p c,.slice (some ⟨wc.heap.size,0,none⟩) 1 1,.slice F H G] 98)).drew:=((ze _ (wc.alloc (.cells #[.string name,.slice d g f] 187))).alloc (zf _) _).drew;refine zh r ?_;rw[qN,y,<- hu]
     simp
    have cc:=dV [.slice a p c,.slice (some ⟨wc.heap.size,0,none⟩) 1 1,.slice F H G] [xs.take (p*2),[.string name,.slice d g f],xs.drop ((p)*2)] (wc.heap.size+1) ((wc.alloc (.cells #[.string name,.slice d g f] 187)).alloc (.cells #[.slice a p c,.slice (some ⟨wc.heap.size,0,none⟩) 1 1,.slice F H G] 98)).drew rfl
     (λk v i=>by
       have y:=(zg (zB (wc.alloc (.cells #[.string name,.slice d g f] 187)) (.cells #[.slice a p c,.slice (some ⟨wc.heap.size,0,none⟩) 1 1,.slice F H G] 98)) k).1;rw[hX] at y;show ((wc.alloc (.cells #[.string name,.slice d g f] 187)).alloc (.cells #[.slice a p c,.slice (some ⟨wc.heap.size,0,none⟩) 1 1,.slice F H G] 98)).cell? ⟨wc.heap.size+1,k,none⟩=some v;rw[y,<- i]
       simp)
     (λk v ys i o=>by
       match k,i,o with
       | 0,i,o=>
        simp only[yV,Option.some.injEq] at i o;subst i o;exact tk
       | 1,i,o=>
        simp only[uM,yV,Option.some.injEq] at i o;subst i o;exact one
       | 2,i,o=>
        simp only[uM,yV,Option.some.injEq] at i o;subst i o;exact dr
       | k+3,i,o=>simp at i)
     (by simp) (by
       show 0+(xs.take (p*2)).length / 2+2 / 2+(xs.drop ((p)*2)).length / 2<=1000
       have:=V.out.1
       rw[HN.out] at this;rw[vT,jV,this];omega)
    have CC:=hid cc;have B:=hid (J.out.trans ((l.out.trans (Q.mono l.out.size)).mono J.out.size));have P:=hid Q;clear cc A Q hX tk dr one R X K CF I l E l0
    go_upto_region 8 with fail
    go_region_held3 (λw'=>w'.cell? ⟨O,0,none⟩=some (.string name)/\w'.cell? ⟨O,1,none⟩=some (.slice d g f)) (go_keep) (first|((go_at_call 85);refine CC.out.mono ?_;rintro e w5 ⟨v,rfl,ho,hb⟩;have HO:=hid ho;have a4:=hid hb;have g0:=zh hb (zh P.out c0);have g1:=zh hb (zh P.out c1);clear ho hb))
    go_wp2_with fail;go_ret2;have hb:=B.out.trans (a4.out.mono B.out.size);refine⟨v,rfl,hb,λ_=>?_⟩;have T:=V.out.turn (zw.of (M:=M) hb);exact fZ HO.out (((T.take p).app (jg.one (x:=(name,ss)) (b8.out.turn (zw.of hb)))).app (T.drop (p))) (λb hm=>by have:=HM.out b hm;have:=B.out.size;omega)
def YO(l:Int):Bool:=decide (0<=l)&&decide (l<4)
def xL(l:Int)(name:BY):Int:=if YO l then (if Ref.zX name then 0 else 8) else 7
theorem Pb(l:Int)(w:World) :
  Calls prog 40 #[.int .i64 l] w λe w'=>e = .returned (.bool (YO l))/\w'=w:=by
 unfold YO
 by_cases h:0<=l
 ·have d:decide (0<=l)=true:=by simp[h]
  go_enter func40,ntmps40
  go_wp2
  go_ret;exact⟨by rw[d];rfl,rfl⟩
 ·have d:decide (0<=l)=false:=by simp;omega
  go_enter func40,ntmps40
  go_wp2
  go_ret;exact⟨rfl,rfl⟩
theorem Bn(l:Int)(name:BY)(w:World)(k:name.size<=maxLen) :
  Calls prog 42 #[.int .i64 l,.string name] w λe w'=>e = .returned (.int .i64 (xL l name))/\Below w.heap.size w w':=by
 have c1:=λW=>Pb l W;have c2:=λW=>KT name W k;have d:xL l name=if YO l then (if Ref.zX name then 0 else 8) else 7:=rfl
 obtain⟨a,f⟩:∃x,YO l=x:=⟨_,rfl⟩;obtain⟨b,hb⟩:∃x,Ref.zX name=x:=⟨_,rfl⟩;rw[f,hb] at d;simp only[f] at c1;simp only[hb] at c2;rw[d];have i:=hid c1;have j:=hid c2;clear c1 c2 d f hb
 cases a<;>cases b
 all_goals
  go_enter func42,ntmps42
  go_wp2_with (first
   | (go_at_call 82;refine (j.out w).mono ?_;rintro e m ⟨rfl,g⟩;have c:=hid g;clear g)
   | (go_at_call 40;refine (i.out w).mono ?_;rintro e w1 ⟨rfl,h⟩;rw[h];clear h))
  go_ret
  first
   | exact⟨rfl,c.out⟩
   | exact⟨rfl,ze _ _⟩
theorem nP:∀(a b c:List UInt8),Lib.compareBytes a b<0->Lib.compareBytes b c<0->Lib.compareBytes a c<0
 | [],[],_,h,_=>by simp[Lib.compareBytes] at h
 | [],_::_,[],_,h=>by simp[Lib.compareBytes] at h
 | [],_::_,_::_,_,_=>by simp[Lib.compareBytes]
 | _::_,[],_,h,_=>by simp[Lib.compareBytes] at h
 | _::_,_::_,[],_,h=>by simp[Lib.compareBytes] at h
 | x::a,y::b,z::c,h,g=>by
  unfold Lib.compareBytes at h g |-
  by_cases c1:x<y
  ·by_cases c2:y<z
   ·rw[zb (UInt8.lt_trans c1 c2)];decide
   ·rw[za c2] at g
    by_cases c3:z<y
    ·rw[zb c3] at g;omega
    ·have e:y=z:=UInt8.le_antisymm (J2.1 c3) (J2.1 c2);subst e;rw[zb c1];decide
  ·rw[za c1] at h
   by_cases c2:y<x
   ·rw[zb c2] at h;omega
   ·rw[za c2] at h;have e:x=y:=UInt8.le_antisymm (J2.1 c2) (J2.1 c1);subst e
    by_cases c3:x<z
    ·rw[zb c3];decide
    ·rw[za c3] at g |-
     by_cases c4:z<x
     ·rw[zb c4] at g;omega
     ·rw[za c4] at g |-;exact nP a b c h g
theorem nQ:∀(a b:List UInt8),Lib.compareBytes a b=0->a=b
 | [],[],_=>rfl
 | [],_::_,h=>by simp[Lib.compareBytes] at h
 | _::_,[],h=>by simp[Lib.compareBytes] at h
 | x::a,y::b,h=>by
  unfold Lib.compareBytes at h
  by_cases c1:x<y
  ·rw[zb c1] at h;omega
  ·rw[za c1] at h
   by_cases c2:y<x
   ·rw[zb c2] at h;omega
   ·rw[za c2] at h;have e:x=y:=UInt8.le_antisymm (J2.1 c2) (J2.1 c1);rw[e,nQ a b h]
theorem nO:∀(a:List UInt8),Lib.compareBytes a a=0
 | []=>rfl
 | x::a=>by
  unfold Lib.compareBytes;rw[za (cZ x),za (cZ x)];exact nO a
theorem nN:∀(a b:List UInt8),Lib.compareBytes a b = -Lib.compareBytes b a
 | [],[]=>rfl
 | [],_::_=>rfl
 | _::_,[]=>rfl
 | x::a,y::b=>by
  unfold Lib.compareBytes
  by_cases c1:x<y
  ·rw[zb c1,za (J2.2 (UInt8.le_of_lt c1)),zb c1]
  ·rw[za c1]
   by_cases c2:y<x
   ·rw[zb c2,zb c2];rfl
   ·rw[za c2,za c2,za c1];exact nN a b
theorem Uh{a b c:BY}(h:qp a b<0)(g:qp b c<0):qp a c<0:=nP _ _ _ h g
theorem dU{a b:BY}(h:qp a b=0):a=b:=by
 have:=nQ _ _ h
 exact Yr (YZ.1 this)
theorem YI(a:BY):qp a a=0:=nO _
theorem dS(a b:BY):qp a b = -qp b a:=nN _ _
def jG(L:List zF):Prop:=L.Pairwise λx y=>qp x.1 y.1<0
theorem jG.at{L:List zF}(h:jG L){a b:Nat}{x y:zF}(c:a<b)(e:L[a]?=some x)(f:L[b]?=some y):qp x.1 y.1<0:=by
 obtain⟨d,rfl⟩:=zW.1 e;obtain⟨hb,rfl⟩:=zW.1 f;exact Kg.1 h a b d hb c
theorem jG.down{L:List zF}(h:jG L)(name:BY):Down L name:=by
 intro a b x y c e f d;unfold ltN at d |-;rw[uf] at d |-;exact Uh (h.at c e f) d
theorem wJ{α:Type}{p:α->Bool}:∀{l:List α} {x:α},x ∈ l.takeWhile p->p x=true
 | [],_,h=>by simp at h
 | a::l,x,h=>by
  rw[mg] at h
  split at h
  ·rename_i b
   rcases kR.1 h with rfl|h
   ·exact b
   ·exact wJ h
  ·simp at h
theorem dh{L:List zF}{name:BY}{x:zF}(a:x ∈ L.take (qV L name)):qp x.1 name<0:=by
 have:L.take (qV L name)=L.takeWhile (ltN name):=by
  unfold qV;exact (List.prefix_iff_eq_take.1 (List.takeWhile_prefix _)).symm
 rw[this] at a
 have:=wJ a
 unfold ltN at this
 rwa [uf] at this
theorem Fq{L:List zF}{name:BY}{x:zF}(b:L[qV L name]?=some x):ltN name x=false:=by
 unfold qV at b
 have c:L.drop (L.takeWhile (ltN name)).length=L.dropWhile (ltN name):=by
  have:=List.takeWhile_append_dropWhile (p:=ltN name) (l:=L)
  have a:=congrArg (List.drop (L.takeWhile (ltN name)).length) this;rw[List.drop_left] at a;exact a.symm
 have d:(L.dropWhile (ltN name))[0]?=some x:=by rw[<- c,Qz];exact b
 have:=List.head?_dropWhile_not (ltN name) L
 rw[List.head?_eq_getElem?,d] at this
 simpa using this
theorem dA{L:List zF}(h:jG L){name:BY}{x:zF}(i:x ∈ L.drop (if zn L name then qV L name+1 else qV L name)):qp name x.1<0:=by
 obtain⟨k,a⟩:=QB i;rw[Qz] at a
 have d:qV L name<L.length:=by
  have:=(zW.1 a).1
  split at this<;>omega
 obtain⟨y,b⟩:∃y,L[qV L name]?=some y:=⟨_,zm d⟩;have f:=Fq b;unfold ltN at f;rw[ed] at f
 cases hh:zn L name with
 | true=>
  rw[hh,zb rfl] at a
  have g:qp y.1 name=0:=by
   unfold zn at hh;rw[b] at hh
   simpa using hh
  rw[<- dU g];exact h.at (by omega) b a
 | false=>
  rw[hh] at a;simp only[yu,xV] at a
  have g:qp y.1 name≠0:=by
   intro e;unfold zn at hh;rw[b] at hh;simp[e] at hh
  have j:=oq y.1 name;have c:qp name y.1<0:=by rw[dS];omega
  by_cases hk0:k=0
  ·subst hk0;rw[ZP,b] at a;injection a with a
   rw[<- a];exact c
  ·exact Uh c (h.at (by omega) b a)
theorem jG.with{L:List zF}(h:jG L)(name:BY)(c:List zS):jG (kH L name c):=by
 unfold kH jG;rw[List.append_assoc,mf];refine⟨h.sublist (List.take_sublist _ _),?_,?_⟩
 ·rw[List.singleton_append,List.pairwise_cons];exact⟨λx a=>dA h a,h.sublist (List.drop_sublist _ _)⟩
 ·intro x a y b;rw[List.singleton_append] at b
  rcases kR.1 b with rfl|b
  ·exact dh a
  ·exact Uh (dh a) (dA h b)
theorem jG.less{L:List zF}(h:jG L)(p:Nat):jG (ZW L p):=by
 unfold ZW;rw[<- lS];exact h.sublist (List.eraseIdx_sublist _ _)
theorem zc8{L:List zF}{name:BY}{b:List zS}(h:L.length<=4)(a:(zn L name||decide (L.length<4))=true):(kH L name b).length<=4:=by
 have c:=Bp L name;unfold kH;rw[qB,qB,vT,jV,uP]
 cases hh:zn L name with
 | true=>
  have:=vL hh
  rw[zb rfl];omega
 | false=>
  rw[hh] at a;simp only[Xa,uf] at a;simp only[yu,xV];omega
theorem RY{L:List zF}(p:Nat)(h:L.length<=4):(ZW L p).length<=4:=by
 unfold ZW;rw[qB,vT,jV];omega
end Go.Proofs.YtdakgnaojakldaaGreatDoor
