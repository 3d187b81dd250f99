/- P -/
import Derived.Test.YtagnlbgbnfnapaaGreatDoorK30
open Go.Proofs.Tryz
set_option maxRecDepth 100000
set_option maxHeartbeats 4000000
namespace Go.Proofs.YtagnlbgbnfnapaaGreatDoor
open Go.RowKit
def kQ(L:List zK)(p:Nat):List zK:=L.take p++L.drop (p+1)
theorem jC{L:List zK}{name:BY}(h:zq L name=true):qz L name<L.length:=by
 unfold zq at h
 split at h
 ·rename_i x a;exact (zR.1 a).1
 ·cases h
theorem mV(W:World):(Go.sizeOf (prog.elem 78)).run prog W = .ok 2 W:=by
 obtain⟨d,hi,b,a,c⟩:=qP aP;have e:prog.elem 78=156:=by kernel_rfl
 rw[e];simp[Go.sizeOf,typeInfo,hi,a]
theorem rZ(a:Option Addr)(n c p:Nat)(h:p<=c)(W:World):(Instr.sliceAt 78 (.slice a n c) none (some (.int .i64 (p:Int))) none).run prog W = .ok (.slice a p c) W:=by
 have b:prog.underlying 78=some (.slice (prog.elem 78)):=by kernel_rfl
 rw[dz _ _ _ _ _ _ b,run_slice_h _ _ _ _ _ b .i64 (p:Int) (by omega) (by omega),mV];simp[Result.andThen,sliced,Addr.add]
theorem dE(a:Option Addr)(n c p:Nat)(h:p<=n)(W:World):(Instr.sliceAt 78 (.slice a n c) (some (.int .i64 (p:Int))) none none).run prog W = .ok (.slice (if c=p then a else a.map λx=>x.add (p*2)) (n-p) (c-p)) W:=by
 have b:prog.underlying 78=some (.slice (prog.elem 78)):=by kernel_rfl
 rw[dz _ _ _ _ _ _ b,run_slice_l _ _ _ _ _ b .i64 (p:Int) (by omega) (by omega),mV];simp[Result.andThen,sliced]
theorem Tk(L:List zK)(lv:Value)(name:BY)(M:Nat->Prop)(w:World)(h:xI M w lv L)(hn:L.length<=100)(P:Down L name)(O:∀b,M b->b<w.heap.size) :
  Calls prog 31 #[lv,.string name] w λe w'=>∃v,e = .returned (.tuple #[v,.bool (zq L name)])/\Below w.heap.size w w'/\(zq L name=true->xI M w' v (kQ L (qz L name))):=by
 have I:=ay L lv name M w h (by omega) P;have g:=λe=>jC (L:=L) (name:=name) e;obtain⟨xs,A,z⟩:=h.flat;obtain⟨a,c,rfl,J,X,Y,_⟩:=id h;obtain⟨p,R⟩:=Nm (qz L name);obtain⟨b,hb⟩:=Nm (zq L name);rw[R,hb] at I g |-;have E:=hid I;have m:=hid A;have t:=hid z;have T:=hid O;obtain⟨n,o⟩:=Nm L.length;rw[o] at J hn g E m |-;have U:=hid o;clear I A z O R hb h o Y P
 cases b with
 | false=>
  go_enter func31,ntmps31
  go_wp2_with (go_at_call 61;refine E.out.mono ?_;rintro e w1 ⟨rfl,u⟩;have d:=hid u;clear u)
  go_ret2;exact⟨_,rfl,d.out,λe=>by cases e⟩
 | true=>
  have a1:=g rfl;clear g;go_enter func31,ntmps31
  go_upto_region 4 with (go_at_call 61;refine E.out.mono ?_;rintro e w1 ⟨rfl,u⟩;have d:=hid u;clear u)
  clear E;have l:=hid (m.out.below d.out);unfold maxLen at X;have y6:IntKind.i64.wrap ((p:Int)+1)=(p:Int)+1:=by rw[IntKind.wrap_i64];omega
  have y7:wrap64 ((p:Int)+1)=(p:Int)+1:=by unfold wrap64;omega
  have s1:=rZ a n c p (by omega);have s2:∀W,(Instr.sliceAt 78 (.slice a n c) (some (.int .i64 ((p:Int)+1))) none none).run prog W = .ok (.slice (if c=p+1 then a else a.map λx=>x.add ((p+1)*2)) (n-(p+1)) (c-(p+1))) W:=dE a n c (p+1) (by omega)
  have H:=hid (l.out.drop (p:=p+1) (by omega));have K:=hid (l.out.take (p:=p) (by omega));obtain⟨B,q⟩:∃x,(if c=p+1 then a else a.map λx=>x.add ((p+1)*2))=x:=⟨_,rfl⟩
  obtain⟨D,s⟩:∃x,n-(p+1)=x:=⟨_,rfl⟩;obtain⟨C,r⟩:∃x,c-(p+1)=x:=⟨_,rfl⟩;rw[q,s,r] at H;simp only[q,s,r] at s2;clear q r m l;have F:Below w1.heap.size w1 (w1.alloc (.cells #[.slice a p c,.slice B D C] 78)).drew:=(nbl w1 _).drew
  have N:=K9 [.slice a p c,.slice B D C] [xs.take (p*2),xs.drop ((p+1)*2)] w1.heap.size (w1.alloc (.cells #[.slice a p c,.slice B D C] 78)).drew rfl
   (λk v f=>by
     have J:=(zg (zQ w1 (.cells #[.slice a p c,.slice B D C] 78)) k).1;show (w1.alloc (.cells #[.slice a p c,.slice B D C] 78)).cell? ⟨w1.heap.size,k,none⟩=some v;rw[J,<- f]
     simp)
   (λk v ys f i=>by
     match k,f,i with
     | 0,f,i=>
      simp only[jr,Option.some.injEq] at f i;subst f i;exact K.out.below F
     | 1,f,i=>
      simp only[ko,jr,Option.some.injEq] at f i;subst f i;exact H.out.below F
     | k+2,f,i=>simp at f)
   (by simp) (by
     show 0+(xs.take (p*2)).length / 2+(xs.drop ((p+1)*2)).length / 2<=1000
     have:=t.out.1
     rw[U.out] at this;rw[yZ,jw,this];omega)
  have S:=hid N;have j:=hid (d.out.trans (F.mono d.out.size));clear N F K H s
  go_region_held3 (λ_=>True) (trivial) (first|((go_at_call 63);refine S.out.mono ?_;rintro e w3 ⟨v,rfl,Q,hb⟩;have V:=hid Q;have G:=hid hb;clear Q hb))
  go_wp2_with fail;go_ret2;have hb:=j.out.trans (G.out.mono j.out.size);refine⟨v,rfl,hb,λ_=>?_⟩;have y:=t.out.turn (zw.of (M:=M) hb);exact bq V.out ((y.take p).app (y.drop (p+1))) (λb Z=>by have:=T.out b Z;have:=j.out.size;omega)
def uh(L:List zK)(name:BY)(a:List qp):List zK:=L.take (qz L name)++[(name,a)]++L.drop (if zq L name then qz L name+1 else qz L name)
theorem BD(s:BY)(w:World)(d:s.size<=281474976710656) :
  Calls prog 62 #[.string s] w λe w'=>e = .returned (.string s)/\Below w.heap.size w w':=by
 have c:Calls prog 111 #[.string s] w λe w'=>e = .returned (.string s)/\Below w.heap.size w w':=AnyPu.stringslite_Clone Tryz.laysPu25 s w d;have C:=hid c;clear c;go_enter func62,ntmps62
 go_wp2_with (go_at_call 111;refine C.out.mono ?_;rintro e w1 ⟨rfl,b⟩;have a:=hid b;clear b)
 go_ret;exact⟨rfl,a.out⟩
theorem Tj(L:List zK)(lv:Value)(name:BY)(d:Option Addr)(g f:Nat)(ss:List qp)(M:Nat->Prop)(w:World)(h:xI M w lv L)(hn:L.length<=100)(hd:Down L name)(hM:∀b,M b->b<w.heap.size)(hD:yM M w (.slice d g f) ss)(hs:name.size<=281474976710656) :
  Calls prog 27 #[lv,.string name,.agg #[.slice d g f]] w λe w'=>∃v,e = .returned (.tuple #[v,.bool (zq L name||decide (L.length<4))])/\Below w.heap.size w w'/\((zq L name||decide (L.length<4))=true->xI M w' v (uh L name ss)):=by
 obtain⟨W0,a0⟩:=Nm (w.alloc (.cells #[.slice d g f] 84));have Y:Below w.heap.size w W0:=by rw[<- a0];exact nbl w _
 have k0:W0.cell? ⟨w.heap.size,0,none⟩=some (.slice d g f):=by rw[<- a0];exact (zg (zQ w (.cells #[.slice d g f] 84)) 0).1
 have cf:=ay L lv name M W0 (h.turn (zw.of Y)) (by omega) hd;have N:=λe=>jC (L:=L) (name:=name) e;have a3:=pQ L name;obtain⟨xs,c9,c6⟩:=h.flat;obtain⟨a,c,rfl,y,Z,h4,_⟩:=id h;unfold uh;obtain⟨p,hp⟩:=Nm (qz L name);obtain⟨b,hb⟩:=Nm (zq L name);rw[hp,hb] at cf N |-;rw[hp] at a3;have c2:=λW=>BD name W hs;have I:=hid c2;have CF:=hid cf;have a8:=hid (c9.below Y);have V:=hid c6;have HM:=hid hM;have b8:=hid hD;have J:=hid Y;have a7:=hid a0;obtain⟨n,b0⟩:=Nm L.length;rw[b0] at y hn N CF a8 a3 |-;have HN:=hid b0;unfold maxLen at Z;clear cf c9 c6 hM hp hb h b0 h4 hd hD c2 Y a0
 by_cases hfull:b=false/\4<=n
 ·obtain⟨rfl,g2⟩:=hfull;have d1:decide ((4:Int)<=(n:Int))=true:=by simp;omega
  have d2:decide (n<4)=false:=by simp;omega
  rw[d2];go_enter func27,ntmps27
  go_upto_region 1 with fail
  rw[a7.out]
  go_wp2_with (go_at_call 61;refine CF.out.mono ?_;rintro e w1 ⟨rfl,A⟩;have s:=hid (J.out.trans (A.mono J.out.size));clear A)
  go_ret2;exact⟨⟨_,rfl⟩,s.out⟩
 ·have b4:(b||decide (n<4))=true:=by cases b<;>simp at hfull |-;omega
  rw[b4];obtain⟨q,hq⟩:=Nm ((if b=true then p+1 else p))
  have e0:q<=n:=by rw[<- hq];cases b with
   | true=>have:=N rfl;simp;omega
   | false=>simp;omega
  have s1:=rZ a n c p (by omega);have s2:=dE a n c p (by omega);have X:=hid (a8.out.take (p:=p) (by omega));have K:=hid (a8.out.drop (p:=q) e0);have y6:IntKind.i64.wrap ((p:Int)+1)=(p:Int)+1:=by rw[IntKind.wrap_i64];omega
  have y7:wrap64 ((p:Int)+1)=(p:Int)+1:=by unfold wrap64;omega
  have f8:w.heap.size<W0.heap.size:=XX _ _ k0
  cases b with
  | true=>
   have s3:∀W,(Instr.sliceAt 78 (.slice a n c) (some (.int .i64 ((p:Int)+1))) none none).run prog W = .ok (.slice (if c=p+1 then a else a.map λx=>x.add ((p+1)*2)) (n-(p+1)) (c-(p+1))) W:=dE a n c (p+1) (N rfl)
   have U:q=p+1:=by rw[<- hq];rfl
   have S:L.drop (if (true=true) then p+1 else p)=L.drop q:=by rw[U];rfl
   rw[S];clear S hq N hfull b4;subst U;obtain⟨F,C⟩:∃x,(if c=p+1 then a else a.map λx=>x.add ((p+1)*2))=x:=⟨_,rfl⟩
   obtain⟨H,E⟩:∃x,n-(p+1)=x:=⟨_,rfl⟩;obtain⟨G,D⟩:∃x,c-(p+1)=x:=⟨_,rfl⟩;rw[C,E,D] at K;simp only[C,E,D] at s3;obtain⟨xa,c8⟩:∃x,(if c=p then a else a.map λx=>x.add (p*2))=x:=⟨_,rfl⟩
   simp only[c8] at s2;clear c8;clear C D;go_enter func27,ntmps27
   go_upto_region 1 with fail
   rw[a7.out]
   go_upto_region 7 with (go_at_call 61;refine CF.out.mono ?_;rintro e w1 ⟨rfl,A⟩;have s:=hid A;clear A)
   have l0:=zi s.out k0
   go_cut [11] (λv wx=>∃O,v = .pointer (some ⟨O,0,none⟩)/\wx.cell? ⟨O,0,none⟩=some (.string name)/\wx.cell? ⟨O,1,none⟩=some (.slice d g f)/\Below w1.heap.size w1 wx)
   case first=>
    have bZ:Hid (Below w1.heap.size w1 (w1.alloc (.cells #[.string ⟨#[]⟩,.slice none 0 0] 156)).drew):=(nbl w1 _).drew;have lZ:=zi bZ.out l0;have nn:=World.new_ne w1 _ l0
    go_region_held3 (λw'=>w'.cell? ⟨w.heap.size,0,none⟩=some (.slice d g f)) (go_keep) (first
     | ((go_at_call 62);refine (I.out w1.drew).mono ?_;rintro e z ⟨rfl,r⟩;have m0:=zi r l0;have t:Hid (Below w1.heap.size w1 z):=(((zf _ w1).drew).trans r);clear r)
     | ((go_at_call 62);refine (I.out (w1.alloc (.cells #[.string ⟨#[]⟩,.slice none 0 0] 156)).drew).mono ?_;rintro e z ⟨rfl,r⟩;have m0:=zi r lZ;have m:Hid (z.heap[w1.heap.size]?=some (.cells #[.string ⟨#[]⟩,.slice none 0 0] 156)):=((r.block w1.heap.size (by simp)).trans (zQ w1 (.cells #[.string ⟨#[]⟩,.slice none 0 0] 156)));have z0:=(zg m.out 0).1;have z1:=(zg m.out 1).1;have f0:=(zg m.out 0).2;have f1:=(zg m.out 1).2;have t:Hid (Below w1.heap.size w1 z):=(bZ.out.trans (r.mono bZ.out.size));clear r))
    ·go_wp2_with fail
     go_meet
     case rel=>exact⟨z.heap.size,rfl,(zg (zQ z (.cells #[.string name,.slice d g f] 156)) 0).1,(zg (zQ z (.cells #[.string name,.slice d g f] 156)) 1).1,t.out.alloc t.out.size _⟩
    ·have y:=yz z w1.heap.size 0 _ _ (.string name) m.out;have Z:=yz _ w1.heap.size 1 _ _ (.slice d g f) y;have a5:=hid (zg Z 0).1;have a6:=hid (zg Z 1).1;clear y Z;go_wp2_with fail
     go_meet
     case rel=>exact⟨w1.heap.size,rfl,a5.out,a6.out,(t.out.setCell (ze _) _).setCell (ze _) _⟩
   case rest=>
    obtain⟨O,rfl,c0,c1,R⟩:=hcut;have l:=hid (s.out.trans (R.mono s.out.size));have A:Below wc.heap.size wc (wc.alloc (.cells #[.string name,.slice d g f] 156)):=nbl wc _;have Q:Below wc.heap.size wc ((wc.alloc (.cells #[.string name,.slice d g f] 156)).alloc (.cells #[.slice a p c,.slice (some ⟨wc.heap.size,0,none⟩) 1 1,.slice F H G] 78)).drew:=(A.alloc A.size _).drew;have hX:(wc.alloc (.cells #[.string name,.slice d g f] 156)).heap.size=wc.heap.size+1:=by simp
    have tk:=(X.out.below l.out).below Q;have dr:=(K.out.below l.out).below Q
    have one:uY ((wc.alloc (.cells #[.string name,.slice d g f] 156)).alloc (.cells #[.slice a p c,.slice (some ⟨wc.heap.size,0,none⟩) 1 1,.slice F H G] 78)).drew (.slice (some ⟨wc.heap.size,0,none⟩) 1 1) [.string name,.slice d g f]:=by
     refine⟨some ⟨wc.heap.size,0,none⟩,1,1,rfl,rfl,ze _,by decide,(λe=>by cases e),(λu hu=>by simp at hu;rcases hu with rfl|rfl<;>rfl),λj u hu=>⟨wc.heap.size,0,rfl,?_⟩⟩
     have y:=(zg (zQ wc (.cells #[.string name,.slice d g f] 156)) j).1;have r:Below (wc.alloc (.cells #[.string name,.slice d g f] 156)).heap.size (wc.alloc (.cells #[.string name,.slice d g f] 156)) ((wc.alloc (.cells #[.string name,.slice d g f] 156)).alloc (.cells #[.slice a p c,.slice (some ⟨wc.heap.size,0,none⟩) 1 1,.slice F H G] 78)).drew:=((zf _ (wc.alloc (.cells #[.string name,.slice d g f] 156))).alloc (ze _) _).drew;refine zi r ?_;rw[yO,y,<- hu]
     simp
    have cc:=K9 [.slice a p c,.slice (some ⟨wc.heap.size,0,none⟩) 1 1,.slice F H G] [xs.take (p*2),[.string name,.slice d g f],xs.drop ((p+1)*2)] (wc.heap.size+1) ((wc.alloc (.cells #[.string name,.slice d g f] 156)).alloc (.cells #[.slice a p c,.slice (some ⟨wc.heap.size,0,none⟩) 1 1,.slice F H G] 78)).drew rfl
     (λk v i=>by
       have y:=(zg (zQ (wc.alloc (.cells #[.string name,.slice d g f] 156)) (.cells #[.slice a p c,.slice (some ⟨wc.heap.size,0,none⟩) 1 1,.slice F H G] 78)) k).1;rw[hX] at y;show ((wc.alloc (.cells #[.string name,.slice d g f] 156)).alloc (.cells #[.slice a p c,.slice (some ⟨wc.heap.size,0,none⟩) 1 1,.slice F H G] 78)).cell? ⟨wc.heap.size+1,k,none⟩=some v;rw[y,<- i]
       simp)
     (λk v ys i o=>by
       match k,i,o with
       | 0,i,o=>
        simp only[jr,Option.some.injEq] at i o;subst i o;exact tk
       | 1,i,o=>
        simp only[ko,jr,Option.some.injEq] at i o;subst i o;exact one
       | 2,i,o=>
        simp only[ko,jr,Option.some.injEq] at i o;subst i o;exact dr
       | k+3,i,o=>simp at i)
     (by simp) (by
       show 0+(xs.take (p*2)).length / 2+2 / 2+(xs.drop ((p+1)*2)).length / 2<=1000
       have:=V.out.1
       rw[HN.out] at this;rw[yZ,jw,this];omega)
    have CC:=hid cc;have B:=hid (J.out.trans ((l.out.trans (Q.mono l.out.size)).mono J.out.size));have P:=hid Q;clear cc A Q hX tk dr one R X K CF I l E l0
    go_upto_region 8 with fail
    go_region_held3 (λw'=>w'.cell? ⟨O,0,none⟩=some (.string name)/\w'.cell? ⟨O,1,none⟩=some (.slice d g f)) (go_keep) (first|((go_at_call 63);refine CC.out.mono ?_;rintro e w5 ⟨v,rfl,ho,hb⟩;have HO:=hid ho;have a4:=hid hb;have g0:=zi hb (zi P.out c0);have g1:=zi hb (zi P.out c1);clear ho hb))
    go_wp2_with fail;go_ret2;have hb:=B.out.trans (a4.out.mono B.out.size);refine⟨v,rfl,hb,λ_=>?_⟩;have T:=V.out.turn (zw.of (M:=M) hb);exact bq HO.out (((T.take p).app (yP.one (x:=(name,ss)) (b8.out.turn (zw.of hb)))).app (T.drop (p+1))) (λb hm=>by have:=HM.out b hm;have:=B.out.size;omega)
  | false=>
   have U:p=q:=by rw[<- hq];rfl
   have S:L.drop (if (false=true) then p+1 else p)=L.drop q:=by rw[<- U];rfl
   have d1:decide ((4:Int)<=(n:Int))=false:=by simp at hfull |-;omega
   rw[S];clear S hq N hfull b4;subst U;obtain⟨F,C⟩:∃x,(if c=p then a else a.map λx=>x.add ((p)*2))=x:=⟨_,rfl⟩
   obtain⟨H,E⟩:∃x,n-(p)=x:=⟨_,rfl⟩;obtain⟨G,D⟩:∃x,c-(p)=x:=⟨_,rfl⟩;rw[C,E,D] at K;simp only[C,E,D] at s2;clear C D;go_enter func27,ntmps27
   go_upto_region 1 with fail
   rw[a7.out]
   go_upto_region 7 with (go_at_call 61;refine CF.out.mono ?_;rintro e w1 ⟨rfl,A⟩;have s:=hid A;clear A)
   have l0:=zi s.out k0
   go_cut [11] (λv wx=>∃O,v = .pointer (some ⟨O,0,none⟩)/\wx.cell? ⟨O,0,none⟩=some (.string name)/\wx.cell? ⟨O,1,none⟩=some (.slice d g f)/\Below w1.heap.size w1 wx)
   case first=>
    have bZ:Hid (Below w1.heap.size w1 (w1.alloc (.cells #[.string ⟨#[]⟩,.slice none 0 0] 156)).drew):=(nbl w1 _).drew;have lZ:=zi bZ.out l0;have nn:=World.new_ne w1 _ l0
    go_region_held3 (λw'=>w'.cell? ⟨w.heap.size,0,none⟩=some (.slice d g f)) (go_keep) (first
     | ((go_at_call 62);refine (I.out w1.drew).mono ?_;rintro e z ⟨rfl,r⟩;have m0:=zi r l0;have t:Hid (Below w1.heap.size w1 z):=(((zf _ w1).drew).trans r);clear r)
     | ((go_at_call 62);refine (I.out (w1.alloc (.cells #[.string ⟨#[]⟩,.slice none 0 0] 156)).drew).mono ?_;rintro e z ⟨rfl,r⟩;have m0:=zi r lZ;have m:Hid (z.heap[w1.heap.size]?=some (.cells #[.string ⟨#[]⟩,.slice none 0 0] 156)):=((r.block w1.heap.size (by simp)).trans (zQ w1 (.cells #[.string ⟨#[]⟩,.slice none 0 0] 156)));have z0:=(zg m.out 0).1;have z1:=(zg m.out 1).1;have f0:=(zg m.out 0).2;have f1:=(zg m.out 1).2;have t:Hid (Below w1.heap.size w1 z):=(bZ.out.trans (r.mono bZ.out.size));clear r))
    ·go_wp2_with fail
     go_meet
     case rel=>exact⟨z.heap.size,rfl,(zg (zQ z (.cells #[.string name,.slice d g f] 156)) 0).1,(zg (zQ z (.cells #[.string name,.slice d g f] 156)) 1).1,t.out.alloc t.out.size _⟩
    ·have y:=yz z w1.heap.size 0 _ _ (.string name) m.out;have Z:=yz _ w1.heap.size 1 _ _ (.slice d g f) y;have a5:=hid (zg Z 0).1;have a6:=hid (zg Z 1).1;clear y Z;go_wp2_with fail
     go_meet
     case rel=>exact⟨w1.heap.size,rfl,a5.out,a6.out,(t.out.setCell (ze _) _).setCell (ze _) _⟩
   case rest=>
    obtain⟨O,rfl,c0,c1,R⟩:=hcut;have l:=hid (s.out.trans (R.mono s.out.size));have A:Below wc.heap.size wc (wc.alloc (.cells #[.string name,.slice d g f] 156)):=nbl wc _;have Q:Below wc.heap.size wc ((wc.alloc (.cells #[.string name,.slice d g f] 156)).alloc (.cells #[.slice a p c,.slice (some ⟨wc.heap.size,0,none⟩) 1 1,.slice F H G] 78)).drew:=(A.alloc A.size _).drew;have hX:(wc.alloc (.cells #[.string name,.slice d g f] 156)).heap.size=wc.heap.size+1:=by simp
    have tk:=(X.out.below l.out).below Q;have dr:=(K.out.below l.out).below Q
    have one:uY ((wc.alloc (.cells #[.string name,.slice d g f] 156)).alloc (.cells #[.slice a p c,.slice (some ⟨wc.heap.size,0,none⟩) 1 1,.slice F H G] 78)).drew (.slice (some ⟨wc.heap.size,0,none⟩) 1 1) [.string name,.slice d g f]:=by
     refine⟨some ⟨wc.heap.size,0,none⟩,1,1,rfl,rfl,ze _,by decide,(λe=>by cases e),(λu hu=>by simp at hu;rcases hu with rfl|rfl<;>rfl),λj u hu=>⟨wc.heap.size,0,rfl,?_⟩⟩
     have y:=(zg (zQ wc (.cells #[.string name,.slice d g f] 156)) j).1;have r:Below (wc.alloc (.cells #[.string name,.slice d g f] 156)).heap.size (wc.alloc (.cells #[.string name,.slice d g f] 156)) ((wc.alloc (.cells #[.string name,.slice d g f] 156)).alloc (.cells #[.slice a p c,.slice (some ⟨wc.heap.size,0,none⟩) 1 1,.slice F H G] 78)).drew:=((zf _ (wc.alloc (.cells #[.string name,.slice d g f] 156))).alloc (ze _) _).drew;refine zi r ?_;rw[yO,y,<- hu]
     simp
    have cc:=K9 [.slice a p c,.slice (some ⟨wc.heap.size,0,none⟩) 1 1,.slice F H G] [xs.take (p*2),[.string name,.slice d g f],xs.drop ((p)*2)] (wc.heap.size+1) ((wc.alloc (.cells #[.string name,.slice d g f] 156)).alloc (.cells #[.slice a p c,.slice (some ⟨wc.heap.size,0,none⟩) 1 1,.slice F H G] 78)).drew rfl
     (λk v i=>by
       have y:=(zg (zQ (wc.alloc (.cells #[.string name,.slice d g f] 156)) (.cells #[.slice a p c,.slice (some ⟨wc.heap.size,0,none⟩) 1 1,.slice F H G] 78)) k).1;rw[hX] at y;show ((wc.alloc (.cells #[.string name,.slice d g f] 156)).alloc (.cells #[.slice a p c,.slice (some ⟨wc.heap.size,0,none⟩) 1 1,.slice F H G] 78)).cell? ⟨wc.heap.size+1,k,none⟩=some v;rw[y,<- i]
       simp)
     (λk v ys i o=>by
       match k,i,o with
       | 0,i,o=>
        simp only[jr,Option.some.injEq] at i o;subst i o;exact tk
       | 1,i,o=>
        simp only[ko,jr,Option.some.injEq] at i o;subst i o;exact one
       | 2,i,o=>
        simp only[ko,jr,Option.some.injEq] at i o;subst i o;exact dr
       | k+3,i,o=>simp at i)
     (by simp) (by
       show 0+(xs.take (p*2)).length / 2+2 / 2+(xs.drop ((p)*2)).length / 2<=1000
       have:=V.out.1
       rw[HN.out] at this;rw[yZ,jw,this];omega)
    have CC:=hid cc;have B:=hid (J.out.trans ((l.out.trans (Q.mono l.out.size)).mono J.out.size));have P:=hid Q;clear cc A Q hX tk dr one R X K CF I l E l0
    go_upto_region 8 with fail
    go_region_held3 (λw'=>w'.cell? ⟨O,0,none⟩=some (.string name)/\w'.cell? ⟨O,1,none⟩=some (.slice d g f)) (go_keep) (first|((go_at_call 63);refine CC.out.mono ?_;rintro e w5 ⟨v,rfl,ho,hb⟩;have HO:=hid ho;have a4:=hid hb;have g0:=zi hb (zi P.out c0);have g1:=zi hb (zi P.out c1);clear ho hb))
    go_wp2_with fail;go_ret2;have hb:=B.out.trans (a4.out.mono B.out.size);refine⟨v,rfl,hb,λ_=>?_⟩;have T:=V.out.turn (zw.of (M:=M) hb);exact bq HO.out (((T.take p).app (yP.one (x:=(name,ss)) (b8.out.turn (zw.of hb)))).app (T.drop (p))) (λb hm=>by have:=HM.out b hm;have:=B.out.size;omega)
def jh(l:Int):Bool:=decide (0<=l)&&decide (l<4)
def qw(l:Int)(name:BY):Int:=if jh l then (if Ref.qh name then 0 else 8) else 7
theorem mM(l:Int)(w:World) :
  Calls prog 29 #[.int .i64 l] w λe w'=>e = .returned (.bool (jh l))/\w'=w:=by
 unfold jh
 by_cases h:0<=l
 ·have d:decide (0<=l)=true:=by simp[h]
  go_enter func29,ntmps29
  go_wp2
  go_ret;exact⟨by rw[d];rfl,rfl⟩
 ·have d:decide (0<=l)=false:=by simp;omega
  go_enter func29,ntmps29
  go_wp2
  go_ret;exact⟨rfl,rfl⟩
theorem bV(l:Int)(name:BY)(w:World)(k:name.size<=maxLen) :
  Calls prog 24 #[.int .i64 l,.string name] w λe w'=>e = .returned (.int .i64 (qw l name))/\Below w.heap.size w w':=by
 have c1:=λW=>mM l W;have c2:=λW=>aU name W k;have d:qw l name=if jh l then (if Ref.qh name then 0 else 8) else 7:=rfl
 obtain⟨a,f⟩:∃x,jh l=x:=⟨_,rfl⟩;obtain⟨b,hb⟩:∃x,Ref.qh name=x:=⟨_,rfl⟩;rw[f,hb] at d;simp only[f] at c1;simp only[hb] at c2;rw[d];have i:=hid c1;have j:=hid c2;clear c1 c2 d f hb
 cases a<;>cases b
 all_goals
  go_enter func24,ntmps24
  go_wp2_with (first
   | (go_at_call 51;refine (j.out w).mono ?_;rintro e m ⟨rfl,g⟩;have c:=hid g;clear g)
   | (go_at_call 29;refine (i.out w).mono ?_;rintro e w1 ⟨rfl,h⟩;rw[h];clear h))
  go_ret
  first
   | exact⟨rfl,c.out⟩
   | exact⟨rfl,zf _ _⟩
theorem IL(L:List zK)(lv:Value)(name:BY)(M:Nat->Prop)(w:World)(h:xI M w lv L)(Y:L.length<=100)(P:Down L name) :
  Calls prog 81 #[lv,.string name] w λe w'=>∃u z y,e = .returned (.tuple #[.agg #[.slice u z y],.bool (zq L name)])/\Below w.heap.size w w'/\(zq L name=true->∃x,L[qz L name]?=some x/\yM M w' (.slice u z y) x.2):=by
 obtain⟨B,g⟩:=Nm (w.alloc (.cells #[.slice none 0 0] 84));have t:Below w.heap.size w B:=by rw[<- g];exact nbl w _
 have blk:B.heap[w.heap.size]?=some (.cells #[.slice none 0 0] 84):=by rw[<- g];exact zQ w _
 have Z:B.heap.size=w.heap.size+1:=by rw[<- g];simp
 have J:=ay L lv name M B (h.turn (zw.of t)) (by omega) P;have q:=λe=>jC (L:=L) (name:=name) e;obtain⟨a,c,rfl,W,h2,X,_⟩:=id h;have d:=h.cells.2.2.2;obtain⟨p,Q⟩:=Nm (qz L name);obtain⟨b,hb⟩:=Nm (zq L name);rw[Q,hb] at J q |-;have H:=hid J;have R:=hid d;have k:=hid t;have D:=hid g;have C:=hid blk;obtain⟨n,r⟩:=Nm L.length;rw[r] at W Y H |-;rw[r] at q;have S:=hid r;clear J d Q hb h r X P t g blk
 cases b with
 | false=>
  go_enter func81,ntmps81
  go_upto_region 1 with fail
  rw[D.out]
  go_upto_region 2 with (go_at_call 61;refine H.out.mono ?_;rintro e w1 ⟨rfl,E⟩;have f:=hid E;clear E)
  have m:w1.heap[w.heap.size]?=some (.cells #[.slice none 0 0] 84):=(f.out.block _ (by omega)).trans C.out;have O:=(zg m 0).1;have V:=(zg m 0).2;have F:=yz w1 w.heap.size 0 _ _ (.slice none 0 0) m;have G:=(zg F 0).1;have j:=hid ((k.out.trans (f.out.mono k.out.size)).setCell (p:=⟨w.heap.size,0,none⟩) (ze _) (.slice none 0 0));simp at O G;clear m F;go_wp2_with fail;exact zN (v := .tuple #[.agg #[.slice none 0 0],.bool false]) (by simp[results,results81,go_sem,G]) rfl ⟨none,0,0,rfl,j.out,λe=>by cases e⟩
 | true=>
  have K:=q rfl;clear q;go_enter func81,ntmps81
  go_upto_region 1 with fail
  rw[D.out]
  go_upto_region 2 with (go_at_call 61;refine H.out.mono ?_;rintro e w1 ⟨rfl,E⟩;have f:=hid E;clear E)
  have N:=zn (l:=L) (i:=p) (by rw[S.out];exact K);obtain⟨gb,o,u,z,y,rfl,hm,U,c1,s⟩:=R.out p _ N;have A:=k.out.trans (f.out.mono k.out.size);have d1:=zi A c1;have m:w1.heap[w.heap.size]?=some (.cells #[.slice none 0 0] 84):=(f.out.block _ (by omega)).trans C.out;have O:=(zg m 0).1;have V:=(zg m 0).2;have F:=yz w1 w.heap.size 0 _ _ (.slice u z y) m;have G:=(zg F 0).1;have j:=hid (A.setCell (p:=⟨w.heap.size,0,none⟩) (ze _) (.slice u z y));have T:=hid N;have I:=hid s;simp at O G;have k0:(0:Int)<=(p:Int):=zZ _;have k1:(p:Int)<(n:Int):=by omega
  clear m F U c1 A N s;go_wp2_with fail;exact zN (v := .tuple #[.agg #[.slice u z y],.bool true]) (by simp[results,results81,go_sem,G]) rfl ⟨u,z,y,rfl,j.out,λ_=>⟨_,T.out,I.out.turn (zw.of j.out)⟩⟩
theorem Ma(nm:BY)(a:Option Addr)(c b:Nat)(w:World) :
  Calls prog 68 #[.agg #[.string nm,.slice a c b]] w λe w'=>e = .returned (.string nm)/\Below w.heap.size w w':=by
 go_enter func68,ntmps68
 go_wp2
 go_ret;exact⟨rfl,nbl w _⟩
theorem LZ:∀args w,(callFunc 68 args).run prog w = .ok (.enter 68 args) w:=xg func68 (by kernel_rfl) rfl
theorem Lt(L:List zK)(lv:Value)(M:Nat->Prop)(w:World)(h:xI M w lv L)(hn:L.length<=100) :
  Calls prog 67 #[lv,.func (.func 68) #[] #[]] w (XN w (L.map Prod.fst)):=by
 obtain⟨X,hi,z,A,B⟩:=qP Jd;obtain⟨a,c,rfl,h1,h2,h4,_⟩:=id h;have b:=h.cells.2.2.2;obtain⟨n,m⟩:=Nm L.length;rw[m] at hn |-;have HC:=hid b;have J:=hid m;have eg:=LZ;clear b m h h1 h2 h4;go_enter func67,ntmps67
 go_wp2_with (at_make;refine eu _ rfl _ _ 48 rfl w.heap.size 9 X (.string ⟨#[]⟩) 1 underlying48 hi z A _ _ _ n rfl rfl rfl ?_ ?_ ?_ ?_)
 ·rw[B];omega
 ·unfold maxLen;omega
 ·omega
 intro w1 j d;have t:=hid j;have r:Hid (Below w.heap.size w w1):=(zf _ w).grown d (ze _) (λk D=>by cases D);clear j d;go_wp2_with fail
 go_loopw [5,7,13] (λov _ kv wr=>∃(k:Nat),k<=n/\kv = .int .i64 k/\zz wr w.heap.size ov ((L.take k).map Prod.fst)/\Below w.heap.size w wr) (λ_ _ kv _=>n-(intOf kv).toNat)
 case atStart=>exact⟨0,zG _,rfl,t.out,r.out⟩
 case round=>
  obtain⟨k,D,rfl,q,hb⟩:=hrel;have C:=hid q;have p:=hid hb;clear q hb t r
  by_cases hlt:k<n
  ·have x:k<L.length:=by rw[J.out];exact hlt
   obtain⟨gb,o,O,Q,P,rfl,hm,Z,q1,_⟩:=HC.out k _ (zn x);have Y:=zi p.out Z;have p1:=zi p.out q1;have i:Hid ((L.take (k+1)).map Prod.fst=(L.take k).map Prod.fst++[L[k].1]):=hid (by rw[Xe,zn x,uG];rfl);have y:((L.take k).map Prod.fst).length=k:=by rw[qB,yZ];omega
   obtain⟨s,U⟩:=Nm (L[k]);rw[U] at Y i;have a9:=p.out.size;have N:=Ma s.1 O Q P (wr.alloc (.cells #[.string s.1,.slice O Q P] 156));have I:=hid N;obtain⟨S,T⟩:=Nm s.1;rw[T] at Y i I;obtain⟨K,R⟩:=Nm ((L.take k).map Prod.fst);rw[R] at C i y;clear N U R Z q1 hm T
   go_wp2_with (first
    | (go_at_fn 68;refine I.out.mono ?_;rintro e w2 ⟨rfl,v⟩;have l:Hid (Below wr.heap.size wr w2):=(nbl wr _).trans (v.mono (by simp));have W:=l.out.size;clear v)
    | (at_builtin;refine yK _ rfl _ _ 48 rfl w.heap.size 9 X (.string ⟨#[]⟩) 1 16 underlying48 hi z A B rfl (by decide) _ K.length (K.map Value.string) rfl (World.ownsRow.alloc (ownsRow_below C.out l.out) _) ⟨w2.heap.size,0,none⟩ 1 1 [.string S] rfl rfl ?_ ?_ ?_ ?_ ?_ ?_))
   ·exact vG _ _ _
   ·intro u V;simp at V;rcases V with rfl;rfl
   ·unfold maxLen;omega
   ·omega
   ·simp;omega
   ·intro v' w3 g f _;have G:Hid (zz w3 w.heap.size v' ((L.take (k+1)).map Prod.fst)):=by rw[i.out];exact Vj (by rw[y];exact g)
    have E:Hid (Below w.heap.size w w3):=((p.out.trans (l.out.mono p.out.size)).alloc (by omega) _).grown f (by simp;omega) (λk D=>(World.ownsRow.lt C.out k D).1);clear g f
    go_wp2
    go_roundw
    case rel=>exact⟨k+1,by omega,by go_num,G.out,E.out⟩
    case measure=>simp[intOf];omega
  ·have H:k=n:=by omega
   subst H;have q:=C.out;rw[Zd (by rw[J.out];omega)] at q;have F:=hid q;clear q
   go_wp2
   go_ret;exact⟨_,rfl,F.out,p.out⟩
theorem IM(L:List zK)(lv:Value)(M:Nat->Prop)(w:World)(h:xI M w lv L)(b:L.length<=100) :
  Calls prog 30 #[lv] w (XN w (L.map Prod.fst)):=by
 have c:=Lt L lv M w h b;obtain⟨a,f,rfl,_⟩:=h;unfold XN at c |-;have C:=hid c;clear c;go_enter func30,ntmps30
 go_wp2_with (go_at_call 67;refine C.out.mono ?_;rintro e w1 ⟨lv,rfl,d,hb⟩)
 go_ret;exact⟨lv,rfl,d,hb⟩
theorem gW:∀(a b c:List UInt8),Lib.compareBytes a b<0->Lib.compareBytes b c<0->Lib.compareBytes a c<0
 | [],[],_,h,_=>by simp[Lib.compareBytes] at h
 | [],_::_,[],_,h=>by simp[Lib.compareBytes] at h
 | [],_::_,_::_,_,_=>by simp[Lib.compareBytes]
 | _::_,[],_,h,_=>by simp[Lib.compareBytes] at h
 | _::_,_::_,[],_,h=>by simp[Lib.compareBytes] at h
 | x::a,y::b,z::c,h,g=>by
  unfold Lib.compareBytes at h g |-
  by_cases c1:x<y
  ·by_cases c2:y<z
   ·rw[zb (UInt8.lt_trans c1 c2)];decide
   ·rw[za c2] at g
    by_cases c3:z<y
    ·rw[zb c3] at g;omega
    ·have e:y=z:=fP (YG.1 c3) (YG.1 c2);subst e;rw[zb c1];decide
  ·rw[za c1] at h
   by_cases c2:y<x
   ·rw[zb c2] at h;omega
   ·rw[za c2] at h;have e:x=y:=fP (YG.1 c2) (YG.1 c1);subst e
    by_cases c3:x<z
    ·rw[zb c3];decide
    ·rw[za c3] at g |-
     by_cases c4:z<x
     ·rw[zb c4] at g;omega
     ·rw[za c4] at g |-;exact gW a b c h g
theorem gX:∀(a b:List UInt8),Lib.compareBytes a b=0->a=b
 | [],[],_=>rfl
 | [],_::_,h=>by simp[Lib.compareBytes] at h
 | _::_,[],h=>by simp[Lib.compareBytes] at h
 | x::a,y::b,h=>by
  unfold Lib.compareBytes at h
  by_cases c1:x<y
  ·rw[zb c1] at h;omega
  ·rw[za c1] at h
   by_cases c2:y<x
   ·rw[zb c2] at h;omega
   ·rw[za c2] at h;have e:x=y:=fP (YG.1 c2) (YG.1 c1);rw[e,gX a b h]
theorem gV:∀(a:List UInt8),Lib.compareBytes a a=0
 | []=>rfl
 | x::a=>by
  unfold Lib.compareBytes;rw[za (Kz x),za (Kz x)];exact gV a
theorem gU:∀(a b:List UInt8),Lib.compareBytes a b = -Lib.compareBytes b a
 | [],[]=>rfl
 | [],_::_=>rfl
 | _::_,[]=>rfl
 | x::a,y::b=>by
  unfold Lib.compareBytes
  by_cases c1:x<y
  ·rw[zb c1,za (YG.2 (UInt8.le_of_lt c1)),zb c1]
  ·rw[za c1]
   by_cases c2:y<x
   ·rw[zb c2,zb c2];rfl
   ·rw[za c2,za c2,za c1];exact gU a b
theorem JJ{a b c:BY}(h:ql a b<0)(g:ql b c<0):ql a c<0:=gW _ _ _ h g
theorem K8{a b:BY}(h:ql a b=0):a=b:=by
 have:=gX _ _ h
 exact Z4 (Xb.1 this)
theorem Xl(a:BY):ql a a=0:=gV _
theorem K7(a b:BY):ql a b = -ql b a:=gU _ _
def jb(L:List zK):Prop:=L.Pairwise λx y=>ql x.1 y.1<0
theorem jb.at{L:List zK}(h:jb L){a b:Nat}{x y:zK}(c:a<b)(e:L[a]?=some x)(f:L[b]?=some y):ql x.1 y.1<0:=by
 obtain⟨d,rfl⟩:=zR.1 e;obtain⟨hb,rfl⟩:=zR.1 f;exact VF.1 h a b d hb c
theorem jb.down{L:List zK}(h:jb L)(name:BY):Down L name:=by
 intro a b x y c e f d;unfold ltN at d |-;rw[Zj] at d |-;exact JJ (h.at c e f) d
theorem nO{α:Type}{p:α->Bool}:∀{l:List α} {x:α},x ∈ l.takeWhile p->p x=true
 | [],_,h=>by simp at h
 | a::l,x,h=>by
  rw[fI] at h
  split at h
  ·rename_i b
   rcases Qc.1 h with rfl|h
   ·exact b
   ·exact nO h
  ·simp at h
theorem KD{L:List zK}{name:BY}{x:zK}(a:x ∈ L.take (qz L name)):ql x.1 name<0:=by
 have:L.take (qz L name)=L.takeWhile (ltN name):=by
  unfold qz;exact (List.prefix_iff_eq_take.1 (List.takeWhile_prefix _)).symm
 rw[this] at a
 have:=nO a
 unfold ltN at this
 rwa [Zj] at this
theorem Av{L:List zK}{name:BY}{x:zK}(b:L[qz L name]?=some x):ltN name x=false:=by
 unfold qz at b
 have c:L.drop (L.takeWhile (ltN name)).length=L.dropWhile (ltN name):=by
  have:=List.takeWhile_append_dropWhile (p:=ltN name) (l:=L)
  have a:=congrArg (List.drop (L.takeWhile (ltN name)).length) this;rw[List.drop_left] at a;exact a.symm
 have d:(L.dropWhile (ltN name))[0]?=some x:=by rw[<- c,Zy];exact b
 have:=List.head?_dropWhile_not (ltN name) L
 rw[List.head?_eq_getElem?,d] at this
 simpa using this
theorem KL{L:List zK}(h:jb L){name:BY}{x:zK}(i:x ∈ L.drop (if zq L name then qz L name+1 else qz L name)):ql name x.1<0:=by
 obtain⟨k,a⟩:=ZA i;rw[Zy] at a
 have d:qz L name<L.length:=by
  have:=(zR.1 a).1
  split at this<;>omega
 obtain⟨y,b⟩:∃y,L[qz L name]?=some y:=⟨_,zn d⟩;have f:=Av b;unfold ltN at f;rw[af] at f
 cases hh:zq L name with
 | true=>
  rw[hh,zb rfl] at a
  have g:ql y.1 name=0:=by
   unfold zq at hh;rw[b] at hh
   simpa using hh
  rw[<- K8 g];exact h.at (by omega) b a
 | false=>
  rw[hh] at a;simp only[vo,jN] at a
  have g:ql y.1 name≠0:=by
   intro e;unfold zq at hh;rw[b] at hh;simp[e] at hh
  have j:=iB y.1 name;have c:ql name y.1<0:=by rw[K7];omega
  by_cases hk0:k=0
  ·subst hk0;rw[Ze,b] at a;injection a with a
   rw[<- a];exact c
  ·exact JJ c (h.at (by omega) b a)
theorem jb.with{L:List zK}(h:jb L)(name:BY)(c:List qp):jb (uh L name c):=by
 unfold uh jb;rw[Ke,fG];refine⟨h.sublist (List.take_sublist _ _),?_,?_⟩
 ·rw[List.singleton_append,fH];exact⟨λx a=>KL h a,h.sublist (List.drop_sublist _ _)⟩
 ·intro x a y b;rw[List.singleton_append] at b
  rcases Qc.1 b with rfl|b
  ·exact KD a
  ·exact JJ (KD a) (KL h b)
theorem jb.less{L:List zK}(h:jb L)(p:Nat):jb (kQ L p):=by
 unfold kQ;rw[<- fu];exact h.sublist (List.eraseIdx_sublist _ _)
theorem Ti{L:List zK}{name:BY}{b:List qp}(h:L.length<=4)(a:(zq L name||decide (L.length<4))=true):(uh L name b).length<=4:=by
 have c:=pQ L name;unfold uh;rw[qA,qA,yZ,jw,vQ]
 cases hh:zq L name with
 | true=>
  have:=jC hh
  rw[zb rfl];omega
 | false=>
  rw[hh] at a;simp only[Ji,Zj] at a;simp only[vo,jN];omega
theorem IW{L:List zK}(p:Nat)(h:L.length<=4):(kQ L p).length<=4:=by
 unfold kQ;rw[qA,yZ,jw];omega
end Go.Proofs.YtagnlbgbnfnapaaGreatDoor
