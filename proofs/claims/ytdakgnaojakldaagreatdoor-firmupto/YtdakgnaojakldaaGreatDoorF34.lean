/- P -/
import Derived.Test.YtdakgnaojakldaaGreatDoorF33
open Go.Proofs.Tryz
set_option maxRecDepth 100000
set_option maxHeartbeats 4000000
namespace Go.Proofs.YtdakgnaojakldaaGreatDoor
open Go.RowKit
def vk(L:List zk)(p:Nat):List zk:=L.take p++L.drop (p+1)
theorem XZ{L:List zk}{name:BA}(h:zl L name=true):qj L name<L.length:=by
 unfold zl at h
 split at h
 ·rename_i x a;exact (List.getElem?_eq_some_iff.1 a).1
 ·cases h
theorem gL(W:World):(Go.sizeOf (prog.elem 98)).run prog W = .ok 2 W:=by
 obtain⟨d,hi,b,a,c⟩:=info_parts U7;have e:prog.elem 98=187:=by kernel_rfl
 rw[e];simp[Go.sizeOf,typeInfo,hi,a]
theorem nY(a:Option Addr)(n c p:Nat)(h:p<=c)(W:World):(Instr.sliceAt 98 (.slice a n c) none (some (.int .i64 (p:Int))) none).run prog W = .ok (.slice a p c) W:=by
 have b:prog.underlying 98=some (.slice (prog.elem 98)):=by kernel_rfl
 rw[run_sliceAt_slice _ _ _ _ _ _ b,run_slice_h _ _ _ _ _ b .i64 (p:Int) (by omega) (by omega),gL];simp[Result.andThen,sliced,Addr.add]
theorem K6(a:Option Addr)(n c p:Nat)(h:p<=n)(W:World):(Instr.sliceAt 98 (.slice a n c) (some (.int .i64 (p:Int))) none none).run prog W = .ok (.slice (if c=p then a else a.map λx=>x.add (p*2)) (n-p) (c-p)) W:=by
 have b:prog.underlying 98=some (.slice (prog.elem 98)):=by kernel_rfl
 rw[run_sliceAt_slice _ _ _ _ _ _ b,run_slice_l _ _ _ _ _ b .i64 (p:Int) (by omega) (by omega),gL];simp[Result.andThen,sliced]
theorem SY(L:List zk)(N:Value)(name:BA)(M:Nat->Prop)(w:World)(h:qO M w N L)(hn:L.length<=100)(hd:Down L name)(Q:∀b,M b->b<w.heap.size) :
  Calls prog 48 #[N,.string name] w λe T=>∃v,e = .returned (.tuple #[v,.bool (zl L name)])/\Below w.heap.size w T/\(zl L name=true->qO M T v (vk L (qj L name))):=by
 have J:=fD L N name M w h (by omega) hd;have i:=λe=>XZ (L:=L) (name:=name) e;obtain⟨xs,B,A⟩:=h.flat;obtain⟨a,c,rfl,K,Z,h4,_⟩:=id h;obtain⟨p,S⟩:=Nm (qj L name);obtain⟨b,hb⟩:=Nm (zl L name);rw[S,hb] at J i |-;have F:=hid J;have o:=hid B;have u:=hid A;have V:=hid Q;obtain⟨n,q⟩:=Nm L.length;rw[q] at K hn i F o |-;have X:=hid q;clear J B A Q S hb h q h4 hd
 cases b with
 | false=>
  go_enter func48,ntmps48
  go_wp2_with (go_at_call 83;refine F.out.mono ?_;rintro e g ⟨rfl,y⟩;have d:=hid y;clear y)
  go_ret2;exact⟨_,rfl,d.out,λe=>by cases e⟩
 | true=>
  have a3:=i rfl;clear i;go_enter func48,ntmps48
  go_upto_region 4 with (go_at_call 83;refine F.out.mono ?_;rintro e g ⟨rfl,y⟩;have d:=hid y;clear y)
  clear F;have m:=hid (o.out.below d.out);unfold maxLen at Z;have y6:IntKind.i64.wrap ((p:Int)+1)=(p:Int)+1:=by rw[IntKind.wrap_i64];omega
  have y7:wrap64 ((p:Int)+1)=(p:Int)+1:=by unfold wrap64;omega
  have s1:=nY a n c p (by omega);have s2:∀W,(Instr.sliceAt 98 (.slice a n c) (some (.int .i64 ((p:Int)+1))) none none).run prog W = .ok (.slice (if c=p+1 then a else a.map λx=>x.add ((p+1)*2)) (n-(p+1)) (c-(p+1))) W:=K6 a n c (p+1) (by omega)
  have I:=hid (m.out.drop (p:=p+1) (by omega));have O:=hid (m.out.take (p:=p) (by omega));obtain⟨C,r⟩:∃x,(if c=p+1 then a else a.map λx=>x.add ((p+1)*2))=x:=⟨_,rfl⟩
  obtain⟨E,t⟩:∃x,n-(p+1)=x:=⟨_,rfl⟩;obtain⟨D,s⟩:∃x,c-(p+1)=x:=⟨_,rfl⟩;rw[r,t,s] at I;simp only[r,t,s] at s2;clear r s o m;have G:Below g.heap.size g (g.alloc (.cells #[.slice a p c,.slice C E D] 98)).drew:=(nB g _).drew
  have P:=UA [.slice a p c,.slice C E D] [xs.take (p*2),xs.drop ((p+1)*2)] g.heap.size (g.alloc (.cells #[.slice a p c,.slice C E D] 98)).drew rfl
   (λk v f=>by
     have K:=(za (heap_alloc_new g (.cells #[.slice a p c,.slice C E D] 98)) k).1;show (g.alloc (.cells #[.slice a p c,.slice C E D] 98)).cell? ⟨g.heap.size,k,none⟩=some v;rw[K,<- f]
     simp)
   (λk v ys f j=>by
     match k,f,j with
     | 0,f,j=>
      simp only[List.getElem?_cons_zero,Option.some.injEq] at f j;subst f j;exact O.out.below G
     | 1,f,j=>
      simp only[List.getElem?_cons_succ,List.getElem?_cons_zero,Option.some.injEq] at f j;subst f j;exact I.out.below G
     | k+2,f,j=>simp at f)
   (by simp) (by
     show 0+(xs.take (p*2)).length / 2+(xs.drop ((p+1)*2)).length / 2<=1000
     have:=u.out.1
     rw[X.out] at this;rw[List.length_take,List.length_drop,this];omega)
  have U:=hid P;have l:=hid (d.out.trans (G.mono d.out.size));clear P G O I t
  go_region_held3 (λ_=>True) (trivial) (first|((go_at_call 85);refine U.out.mono ?_;rintro e w3 ⟨v,rfl,R,hb⟩;have Y:=hid R;have H:=hid hb;clear R hb))
  go_wp2_with fail;go_ret2;have hb:=l.out.trans (H.out.mono l.out.size);refine⟨v,rfl,hb,λ_=>?_⟩;have z:=u.out.turn (zx.of (M:=M) hb);exact Ki Y.out ((z.take p).app (z.drop (p+1))) (λb hm=>by have:=V.out b hm;have:=l.out.size;omega)
def yt(L:List zk)(name:BA)(a:List zA):List zk:=L.take (qj L name)++[(name,a)]++L.drop (if zl L name then qj L name+1 else qj L name)
theorem Ag(s:BA)(w:World)(f:s.size<=281474976710656) :
  Calls prog 84 #[.string s] w λe b=>e = .returned (.string s)/\Below w.heap.size w b:=by
 have c:Calls prog 137 #[.string s] w λe b=>e = .returned (.string s)/\Below w.heap.size w b:=AnyPu.stringslite_Clone Tryz.laysPu25 s w f;have C:=hid c;clear c;go_enter func84,ntmps84
 go_wp2_with (go_at_call 137;refine C.out.mono ?_;rintro e g ⟨rfl,d⟩;have a:=hid d;clear d)
 go_ret;exact⟨rfl,a.out⟩
theorem SX(L:List zk)(lv:Value)(name:BA)(d:Option Addr)(g f:Nat)(ss:List zA)(M:Nat->Prop)(w:World)(h:qO M w lv L)(hn:L.length<=100)(hd:Down L name)(hM:∀b,M b->b<w.heap.size)(hD:xQ M w (.slice d g f) ss)(hs:name.size<=281474976710656) :
  Calls prog 44 #[lv,.string name,.agg #[.slice d g f]] w λe Q=>∃v,e = .returned (.tuple #[v,.bool (zl L name||decide (L.length<4))])/\Below w.heap.size w Q/\((zl L name||decide (L.length<4))=true->qO M Q v (yt L name ss)):=by
 obtain⟨W0,a2⟩:=Nm (w.alloc (.cells #[.slice d g f] 72));have a0:Below w.heap.size w W0:=by rw[<- a2];exact nB w _
 have k0:W0.cell? ⟨w.heap.size,0,none⟩=some (.slice d g f):=by rw[<- a2];exact (za (heap_alloc_new w (.cells #[.slice d g f] 72)) 0).1
 have cf:=fD L lv name M W0 (h.turn (zx.of a0)) (by omega) hd;have O:=λe=>XZ (L:=L) (name:=name) e;have a5:=KO L name;obtain⟨xs,d3,c8⟩:=h.flat;obtain⟨a,c,rfl,z,h2,h4,_⟩:=id h;unfold yt;obtain⟨p,hp⟩:=Nm (qj L name);obtain⟨b,hb⟩:=Nm (zl L name);rw[hp,hb] at cf O |-;rw[hp] at a5;have c4:=λW=>Ag name W hs;have J:=hid c4;have CF:=hid cf;have b0:=hid (d3.below a0);have Y:=hid c8;have HM:=hid hM;have c2:=hid hD;have K:=hid a0;have a9:=hid a2;obtain⟨n,b5⟩:=Nm L.length;rw[b5] at z hn O CF b0 a5 |-;have HN:=hid b5;unfold maxLen at h2;clear cf d3 c8 hM hp hb h b5 h4 hd hD c4 a0 a2
 by_cases hfull:b=false/\4<=n
 ·obtain⟨rfl,g3⟩:=hfull;have d1:decide ((4:Int)<=(n:Int))=true:=by simp;omega
  have d2:decide (n<4)=false:=by simp;omega
  rw[d2];go_enter func44,ntmps44
  go_upto_region 1 with fail
  rw[a9.out]
  go_wp2_with (go_at_call 83;refine CF.out.mono ?_;rintro e i ⟨rfl,B⟩;have t:=hid (K.out.trans (B.mono K.out.size));clear B)
  go_ret2;exact⟨⟨_,rfl⟩,t.out⟩
 ·have b6:(b||decide (n<4))=true:=by cases b<;>simp at hfull |-;omega
  rw[b6];obtain⟨q,hq⟩:=Nm ((if b=true then p+1 else p))
  have e1:q<=n:=by rw[<- hq];cases b with
   | true=>have:=O rfl;simp;omega
   | false=>simp;omega
  have s1:=nY a n c p (by omega);have s2:=K6 a n c p (by omega);have Z:=hid (b0.out.take (p:=p) (by omega));have N:=hid (b0.out.drop (p:=q) e1);have y6:IntKind.i64.wrap ((p:Int)+1)=(p:Int)+1:=by rw[IntKind.wrap_i64];omega
  have y7:wrap64 ((p:Int)+1)=(p:Int)+1:=by unfold wrap64;omega
  have f9:w.heap.size<W0.heap.size:=World.block_lt_of_cell? _ _ k0
  cases b with
  | true=>
   have s3:∀W,(Instr.sliceAt 98 (.slice a n c) (some (.int .i64 ((p:Int)+1))) none none).run prog W = .ok (.slice (if c=p+1 then a else a.map λx=>x.add ((p+1)*2)) (n-(p+1)) (c-(p+1))) W:=K6 a n c (p+1) (O rfl)
   have X:q=p+1:=by rw[<- hq];rfl
   have U:L.drop (if (true=true) then p+1 else p)=L.drop q:=by rw[X];rfl
   rw[U];clear U hq O hfull b6;subst X;obtain⟨G,D⟩:∃x,(if c=p+1 then a else a.map λx=>x.add ((p+1)*2))=x:=⟨_,rfl⟩
   obtain⟨I,F⟩:∃x,n-(p+1)=x:=⟨_,rfl⟩;obtain⟨H,E⟩:∃x,c-(p+1)=x:=⟨_,rfl⟩;rw[D,F,E] at N;simp only[D,F,E] at s3;obtain⟨xa,d0⟩:∃x,(if c=p then a else a.map λx=>x.add (p*2))=x:=⟨_,rfl⟩
   simp only[d0] at s2;clear d0;clear D E;go_enter func44,ntmps44
   go_upto_region 1 with fail
   rw[a9.out]
   go_upto_region 7 with (go_at_call 83;refine CF.out.mono ?_;rintro e i ⟨rfl,B⟩;have t:=hid B;clear B)
   have l0:=zb t.out k0
   go_cut [11] (λv wx=>∃P,v = .pointer (some ⟨P,0,none⟩)/\wx.cell? ⟨P,0,none⟩=some (.string name)/\wx.cell? ⟨P,1,none⟩=some (.slice d g f)/\Below i.heap.size i wx)
   case first=>
    have bZ:Hid (Below i.heap.size i (i.alloc (.cells #[.string ⟨#[]⟩,.slice none 0 0] 187)).drew):=(nB i _).drew;have lZ:=zb bZ.out l0;have nn:=World.new_ne i _ l0
    go_region_held3 (λQ=>Q.cell? ⟨w.heap.size,0,none⟩=some (.slice d g f)) (go_keep) (first
     | ((go_at_call 84);refine (J.out i.drew).mono ?_;rintro e A ⟨rfl,s⟩;have m0:=zb s l0;have y:Hid (Below i.heap.size i A):=(((Below.refl _ i).drew).trans s);clear s)
     | ((go_at_call 84);refine (J.out (i.alloc (.cells #[.string ⟨#[]⟩,.slice none 0 0] 187)).drew).mono ?_;rintro e A ⟨rfl,s⟩;have m0:=zb s lZ;have o:Hid (A.heap[i.heap.size]?=some (.cells #[.string ⟨#[]⟩,.slice none 0 0] 187)):=((s.block i.heap.size (by simp)).trans (heap_alloc_new i (.cells #[.string ⟨#[]⟩,.slice none 0 0] 187)));have z0:=(za o.out 0).1;have z1:=(za o.out 1).1;have f0:=(za o.out 0).2;have f1:=(za o.out 1).2;have y:Hid (Below i.heap.size i A):=(bZ.out.trans (s.mono bZ.out.size));clear s))
    ·go_wp2_with fail
     go_meet
     case rel=>exact⟨A.heap.size,rfl,(za (heap_alloc_new A (.cells #[.string name,.slice d g f] 187)) 0).1,(za (heap_alloc_new A (.cells #[.string name,.slice d g f] 187)) 1).1,y.out.alloc y.out.size _⟩
    ·have z:=heap_setCell_same A i.heap.size 0 _ _ (.string name) o.out;have h2:=heap_setCell_same _ i.heap.size 1 _ _ (.slice d g f) z;have a7:=hid (za h2 0).1;have a8:=hid (za h2 1).1;clear z h2;go_wp2_with fail
     go_meet
     case rel=>exact⟨i.heap.size,rfl,a7.out,a8.out,(y.out.setCell (Nat.le_refl _) _).setCell (Nat.le_refl _) _⟩
   case rest=>
    obtain⟨P,rfl,c0,c1,T⟩:=hcut;have m:=hid (t.out.trans (T.mono t.out.size));have B:Below wc.heap.size wc (wc.alloc (.cells #[.string name,.slice d g f] 187)):=nB wc _;have S:Below wc.heap.size wc ((wc.alloc (.cells #[.string name,.slice d g f] 187)).alloc (.cells #[.slice a p c,.slice (some ⟨wc.heap.size,0,none⟩) 1 1,.slice G I H] 98)).drew:=(B.alloc B.size _).drew;have hX:(wc.alloc (.cells #[.string name,.slice d g f] 187)).heap.size=wc.heap.size+1:=by simp
    have tk:=(Z.out.below m.out).below S;have dr:=(N.out.below m.out).below S
    have one:ui ((wc.alloc (.cells #[.string name,.slice d g f] 187)).alloc (.cells #[.slice a p c,.slice (some ⟨wc.heap.size,0,none⟩) 1 1,.slice G I H] 98)).drew (.slice (some ⟨wc.heap.size,0,none⟩) 1 1) [.string name,.slice d g f]:=by
     refine⟨some ⟨wc.heap.size,0,none⟩,1,1,rfl,rfl,Nat.le_refl _,by decide,(λe=>by cases e),(λu hu=>by simp at hu;rcases hu with rfl|rfl<;>rfl),λj u hu=>⟨wc.heap.size,0,rfl,?_⟩⟩
     have z:=(za (heap_alloc_new wc (.cells #[.string name,.slice d g f] 187)) j).1;have s:Below (wc.alloc (.cells #[.string name,.slice d g f] 187)).heap.size (wc.alloc (.cells #[.string name,.slice d g f] 187)) ((wc.alloc (.cells #[.string name,.slice d g f] 187)).alloc (.cells #[.slice a p c,.slice (some ⟨wc.heap.size,0,none⟩) 1 1,.slice G I H] 98)).drew:=((Below.refl _ (wc.alloc (.cells #[.string name,.slice d g f] 187))).alloc (Nat.le_refl _) _).drew;refine zb s ?_;rw[Nat.zero_add,z,<- hu]
     simp
    have cc:=UA [.slice a p c,.slice (some ⟨wc.heap.size,0,none⟩) 1 1,.slice G I H] [xs.take (p*2),[.string name,.slice d g f],xs.drop ((p+1)*2)] (wc.heap.size+1) ((wc.alloc (.cells #[.string name,.slice d g f] 187)).alloc (.cells #[.slice a p c,.slice (some ⟨wc.heap.size,0,none⟩) 1 1,.slice G I H] 98)).drew rfl
     (λk v l=>by
       have z:=(za (heap_alloc_new (wc.alloc (.cells #[.string name,.slice d g f] 187)) (.cells #[.slice a p c,.slice (some ⟨wc.heap.size,0,none⟩) 1 1,.slice G I H] 98)) k).1;rw[hX] at z;show ((wc.alloc (.cells #[.string name,.slice d g f] 187)).alloc (.cells #[.slice a p c,.slice (some ⟨wc.heap.size,0,none⟩) 1 1,.slice G I H] 98)).cell? ⟨wc.heap.size+1,k,none⟩=some v;rw[z,<- l]
       simp)
     (λk v ys l r=>by
       match k,l,r with
       | 0,l,r=>
        simp only[List.getElem?_cons_zero,Option.some.injEq] at l r;subst l r;exact tk
       | 1,l,r=>
        simp only[List.getElem?_cons_succ,List.getElem?_cons_zero,Option.some.injEq] at l r;subst l r;exact one
       | 2,l,r=>
        simp only[List.getElem?_cons_succ,List.getElem?_cons_zero,Option.some.injEq] at l r;subst l r;exact dr
       | k+3,l,r=>simp at l)
     (by simp) (by
       show 0+(xs.take (p*2)).length / 2+2 / 2+(xs.drop ((p+1)*2)).length / 2<=1000
       have:=Y.out.1
       rw[HN.out] at this;rw[List.length_take,List.length_drop,this];omega)
    have CC:=hid cc;have C:=hid (K.out.trans ((m.out.trans (S.mono m.out.size)).mono K.out.size));have R:=hid S;clear cc B S hX tk dr one T Z N CF J m F l0
    go_upto_region 8 with fail
    go_region_held3 (λQ=>Q.cell? ⟨P,0,none⟩=some (.string name)/\Q.cell? ⟨P,1,none⟩=some (.slice d g f)) (go_keep) (first|((go_at_call 85);refine CC.out.mono ?_;rintro e w5 ⟨v,rfl,ho,hb⟩;have HO:=hid ho;have a6:=hid hb;have g0:=zb hb (zb R.out c0);have g1:=zb hb (zb R.out c1);clear ho hb))
    go_wp2_with fail;go_ret2;have hb:=C.out.trans (a6.out.mono C.out.size);refine⟨v,rfl,hb,λ_=>?_⟩;have V:=Y.out.turn (zx.of (M:=M) hb);exact Ki HO.out (((V.take p).app (xS.one (x:=(name,ss)) (c2.out.turn (zx.of hb)))).app (V.drop (p+1))) (λb hm=>by have:=HM.out b hm;have:=C.out.size;omega)
  | false=>
   have X:p=q:=by rw[<- hq];rfl
   have U:L.drop (if (false=true) then p+1 else p)=L.drop q:=by rw[<- X];rfl
   have d1:decide ((4:Int)<=(n:Int))=false:=by simp at hfull |-;omega
   rw[U];clear U hq O hfull b6;subst X;obtain⟨G,D⟩:∃x,(if c=p then a else a.map λx=>x.add ((p)*2))=x:=⟨_,rfl⟩
   obtain⟨I,F⟩:∃x,n-(p)=x:=⟨_,rfl⟩;obtain⟨H,E⟩:∃x,c-(p)=x:=⟨_,rfl⟩;rw[D,F,E] at N;simp only[D,F,E] at s2;clear D E;go_enter func44,ntmps44
   go_upto_region 1 with fail
   rw[a9.out]
   go_upto_region 7 with (go_at_call 83;refine CF.out.mono ?_;rintro e i ⟨rfl,B⟩;have t:=hid B;clear B)
   have l0:=zb t.out k0
   go_cut [11] (λv wx=>∃P,v = .pointer (some ⟨P,0,none⟩)/\wx.cell? ⟨P,0,none⟩=some (.string name)/\wx.cell? ⟨P,1,none⟩=some (.slice d g f)/\Below i.heap.size i wx)
   case first=>
    have bZ:Hid (Below i.heap.size i (i.alloc (.cells #[.string ⟨#[]⟩,.slice none 0 0] 187)).drew):=(nB i _).drew;have lZ:=zb bZ.out l0;have nn:=World.new_ne i _ l0
    go_region_held3 (λQ=>Q.cell? ⟨w.heap.size,0,none⟩=some (.slice d g f)) (go_keep) (first
     | ((go_at_call 84);refine (J.out i.drew).mono ?_;rintro e A ⟨rfl,s⟩;have m0:=zb s l0;have y:Hid (Below i.heap.size i A):=(((Below.refl _ i).drew).trans s);clear s)
     | ((go_at_call 84);refine (J.out (i.alloc (.cells #[.string ⟨#[]⟩,.slice none 0 0] 187)).drew).mono ?_;rintro e A ⟨rfl,s⟩;have m0:=zb s lZ;have o:Hid (A.heap[i.heap.size]?=some (.cells #[.string ⟨#[]⟩,.slice none 0 0] 187)):=((s.block i.heap.size (by simp)).trans (heap_alloc_new i (.cells #[.string ⟨#[]⟩,.slice none 0 0] 187)));have z0:=(za o.out 0).1;have z1:=(za o.out 1).1;have f0:=(za o.out 0).2;have f1:=(za o.out 1).2;have y:Hid (Below i.heap.size i A):=(bZ.out.trans (s.mono bZ.out.size));clear s))
    ·go_wp2_with fail
     go_meet
     case rel=>exact⟨A.heap.size,rfl,(za (heap_alloc_new A (.cells #[.string name,.slice d g f] 187)) 0).1,(za (heap_alloc_new A (.cells #[.string name,.slice d g f] 187)) 1).1,y.out.alloc y.out.size _⟩
    ·have z:=heap_setCell_same A i.heap.size 0 _ _ (.string name) o.out;have h2:=heap_setCell_same _ i.heap.size 1 _ _ (.slice d g f) z;have a7:=hid (za h2 0).1;have a8:=hid (za h2 1).1;clear z h2;go_wp2_with fail
     go_meet
     case rel=>exact⟨i.heap.size,rfl,a7.out,a8.out,(y.out.setCell (Nat.le_refl _) _).setCell (Nat.le_refl _) _⟩
   case rest=>
    obtain⟨P,rfl,c0,c1,T⟩:=hcut;have m:=hid (t.out.trans (T.mono t.out.size));have B:Below wc.heap.size wc (wc.alloc (.cells #[.string name,.slice d g f] 187)):=nB wc _;have S:Below wc.heap.size wc ((wc.alloc (.cells #[.string name,.slice d g f] 187)).alloc (.cells #[.slice a p c,.slice (some ⟨wc.heap.size,0,none⟩) 1 1,.slice G I H] 98)).drew:=(B.alloc B.size _).drew;have hX:(wc.alloc (.cells #[.string name,.slice d g f] 187)).heap.size=wc.heap.size+1:=by simp
    have tk:=(Z.out.below m.out).below S;have dr:=(N.out.below m.out).below S
    have one:ui ((wc.alloc (.cells #[.string name,.slice d g f] 187)).alloc (.cells #[.slice a p c,.slice (some ⟨wc.heap.size,0,none⟩) 1 1,.slice G I H] 98)).drew (.slice (some ⟨wc.heap.size,0,none⟩) 1 1) [.string name,.slice d g f]:=by
     refine⟨some ⟨wc.heap.size,0,none⟩,1,1,rfl,rfl,Nat.le_refl _,by decide,(λe=>by cases e),(λu hu=>by simp at hu;rcases hu with rfl|rfl<;>rfl),λj u hu=>⟨wc.heap.size,0,rfl,?_⟩⟩
     have z:=(za (heap_alloc_new wc (.cells #[.string name,.slice d g f] 187)) j).1;have s:Below (wc.alloc (.cells #[.string name,.slice d g f] 187)).heap.size (wc.alloc (.cells #[.string name,.slice d g f] 187)) ((wc.alloc (.cells #[.string name,.slice d g f] 187)).alloc (.cells #[.slice a p c,.slice (some ⟨wc.heap.size,0,none⟩) 1 1,.slice G I H] 98)).drew:=((Below.refl _ (wc.alloc (.cells #[.string name,.slice d g f] 187))).alloc (Nat.le_refl _) _).drew;refine zb s ?_;rw[Nat.zero_add,z,<- hu]
     simp
    have cc:=UA [.slice a p c,.slice (some ⟨wc.heap.size,0,none⟩) 1 1,.slice G I H] [xs.take (p*2),[.string name,.slice d g f],xs.drop ((p)*2)] (wc.heap.size+1) ((wc.alloc (.cells #[.string name,.slice d g f] 187)).alloc (.cells #[.slice a p c,.slice (some ⟨wc.heap.size,0,none⟩) 1 1,.slice G I H] 98)).drew rfl
     (λk v l=>by
       have z:=(za (heap_alloc_new (wc.alloc (.cells #[.string name,.slice d g f] 187)) (.cells #[.slice a p c,.slice (some ⟨wc.heap.size,0,none⟩) 1 1,.slice G I H] 98)) k).1;rw[hX] at z;show ((wc.alloc (.cells #[.string name,.slice d g f] 187)).alloc (.cells #[.slice a p c,.slice (some ⟨wc.heap.size,0,none⟩) 1 1,.slice G I H] 98)).cell? ⟨wc.heap.size+1,k,none⟩=some v;rw[z,<- l]
       simp)
     (λk v ys l r=>by
       match k,l,r with
       | 0,l,r=>
        simp only[List.getElem?_cons_zero,Option.some.injEq] at l r;subst l r;exact tk
       | 1,l,r=>
        simp only[List.getElem?_cons_succ,List.getElem?_cons_zero,Option.some.injEq] at l r;subst l r;exact one
       | 2,l,r=>
        simp only[List.getElem?_cons_succ,List.getElem?_cons_zero,Option.some.injEq] at l r;subst l r;exact dr
       | k+3,l,r=>simp at l)
     (by simp) (by
       show 0+(xs.take (p*2)).length / 2+2 / 2+(xs.drop ((p)*2)).length / 2<=1000
       have:=Y.out.1
       rw[HN.out] at this;rw[List.length_take,List.length_drop,this];omega)
    have CC:=hid cc;have C:=hid (K.out.trans ((m.out.trans (S.mono m.out.size)).mono K.out.size));have R:=hid S;clear cc B S hX tk dr one T Z N CF J m F l0
    go_upto_region 8 with fail
    go_region_held3 (λQ=>Q.cell? ⟨P,0,none⟩=some (.string name)/\Q.cell? ⟨P,1,none⟩=some (.slice d g f)) (go_keep) (first|((go_at_call 85);refine CC.out.mono ?_;rintro e w5 ⟨v,rfl,ho,hb⟩;have HO:=hid ho;have a6:=hid hb;have g0:=zb hb (zb R.out c0);have g1:=zb hb (zb R.out c1);clear ho hb))
    go_wp2_with fail;go_ret2;have hb:=C.out.trans (a6.out.mono C.out.size);refine⟨v,rfl,hb,λ_=>?_⟩;have V:=Y.out.turn (zx.of (M:=M) hb);exact Ki HO.out (((V.take p).app (xS.one (x:=(name,ss)) (c2.out.turn (zx.of hb)))).app (V.drop (p))) (λb hm=>by have:=HM.out b hm;have:=C.out.size;omega)
def vg(l:Int):Bool:=decide (0<=l)&&decide (l<4)
def jf(l:Int)(name:BA):Int:=if vg l then (if Ref.zI name then 0 else 8) else 7
theorem gF(l:Int)(w:World) :
  Calls prog 40 #[.int .i64 l] w λe a=>e = .returned (.bool (vg l))/\a=w:=by
 unfold vg
 by_cases h:0<=l
 ·have d:decide (0<=l)=true:=by simp[h]
  go_enter func40,ntmps40
  go_wp2
  go_ret;exact⟨by rw[d];rfl,rfl⟩
 ·have d:decide (0<=l)=false:=by simp;omega
  go_enter func40,ntmps40
  go_wp2
  go_ret;exact⟨rfl,rfl⟩
theorem mO(l:Int)(name:BA)(w:World)(k:name.size<=maxLen) :
  Calls prog 42 #[.int .i64 l,.string name] w λe m=>e = .returned (.int .i64 (jf l name))/\Below w.heap.size w m:=by
 have c1:=λW=>gF l W;have c2:=λW=>J9 name W k;have d:jf l name=if vg l then (if Ref.zI name then 0 else 8) else 7:=rfl
 obtain⟨a,f⟩:∃x,vg l=x:=⟨_,rfl⟩;obtain⟨b,hb⟩:∃x,Ref.zI name=x:=⟨_,rfl⟩;rw[f,hb] at d;simp only[f] at c1;simp only[hb] at c2;rw[d];have i:=hid c1;have j:=hid c2;clear c1 c2 d f hb
 cases a<;>cases b
 all_goals
  go_enter func42,ntmps42
  go_wp2_with (first
   | (go_at_call 82;refine (j.out w).mono ?_;rintro e o ⟨rfl,g⟩;have c:=hid g;clear g)
   | (go_at_call 40;refine (i.out w).mono ?_;rintro e n ⟨rfl,h⟩;rw[h];clear h))
  go_ret
  first
   | exact⟨rfl,c.out⟩
   | exact⟨rfl,Below.refl _ _⟩
theorem IZ(nm:BA)(a:Option Addr)(c b:Nat)(w:World) :
  Calls prog 81 #[.agg #[.string nm,.slice a c b]] w λe d=>e = .returned (.string nm)/\Below w.heap.size w d:=by
 go_enter func81,ntmps81
 go_wp2
 go_ret;exact⟨rfl,nB w _⟩
theorem IY:∀args w,(callFunc 81 args).run prog w = .ok (.enter 81 args) w:=enters_of func81 (by kernel_rfl) rfl
theorem Il(L:List zk)(Z:Value)(M:Nat->Prop)(w:World)(h:qO M w Z L)(hn:L.length<=100) :
  Calls prog 80 #[Z,.func (.func 81) #[] #[]] w (Jw w (L.map Prod.fst)):=by
 obtain⟨Y,hi,z,A,B⟩:=info_parts Rq;obtain⟨a,c,rfl,h1,h2,h4,_⟩:=id h;have b:=h.cells.2.2.2;obtain⟨n,m⟩:=Nm L.length;rw[m] at hn |-;have HC:=hid b;have N:=hid m;have eg:=IY;clear b m h h1 h2 h4;go_enter func80,ntmps80
 go_wp2_with (at_make;refine wpList_make_own _ rfl _ _ 42 rfl w.heap.size 9 Y (.string ⟨#[]⟩) 1 underlying42 hi z A _ _ _ n rfl rfl rfl ?_ ?_ ?_ ?_)
 ·rw[B];omega
 ·unfold maxLen;omega
 ·omega
 intro w1 j d;have t:=hid j;have r:Hid (Below w.heap.size w w1):=(Below.refl _ w).grown d (Nat.le_refl _) (λk D=>by cases D);clear j d;go_wp2_with fail
 go_loopw [5,7,13] (λov _ I wr=>∃(k:Nat),k<=n/\I = .int .i64 k/\zF wr w.heap.size ov ((L.take k).map Prod.fst)/\Below w.heap.size w wr) (λ_ _ I _=>n-(intOf I).toNat)
 case atStart=>exact⟨0,Nat.zero_le _,rfl,t.out,r.out⟩
 case round=>
  obtain⟨k,D,rfl,q,hb⟩:=hrel;have C:=hid q;have p:=hid hb;clear q hb t r
  by_cases hlt:k<n
  ·have x:k<L.length:=by rw[N.out];exact hlt
   obtain⟨gb,o,P,R,Q,rfl,hm,q0,q1,_⟩:=HC.out k _ (List.getElem?_eq_getElem x);have p0:=zb p.out q0;have p1:=zb p.out q1;have i:Hid ((L.take (k+1)).map Prod.fst=(L.take k).map Prod.fst++[L[k].1]):=hid (by rw[List.take_add_one,List.getElem?_eq_getElem x,List.map_append];rfl);have y:((L.take k).map Prod.fst).length=k:=by rw[List.length_map,List.length_take];omega
   obtain⟨s,V⟩:=Nm (L[k]);rw[V] at p0 i;have b1:=p.out.size;have O:=IZ s.1 P R Q (wr.alloc (.cells #[.string s.1,.slice P R Q] 187));have J:=hid O;obtain⟨S,U⟩:=Nm s.1;rw[U] at p0 i J;obtain⟨K,T⟩:=Nm ((L.take k).map Prod.fst);rw[T] at C i y;clear O V T q0 q1 hm U
   go_wp2_with (first
    | (go_at_fn 81;refine J.out.mono ?_;rintro e w2 ⟨rfl,v⟩;have l:Hid (Below wr.heap.size wr w2):=(nB wr _).trans (v.mono (by simp));have X:=l.out.size;clear v)
    | (at_builtin;refine wpList_append_own _ rfl _ _ 42 rfl w.heap.size 9 Y (.string ⟨#[]⟩) 1 16 underlying42 hi z A B rfl (by decide) _ K.length (K.map Value.string) rfl (World.ownsRow.alloc (ownsRow_below C.out l.out) _) ⟨w2.heap.size,0,none⟩ 1 1 [.string S] rfl rfl ?_ ?_ ?_ ?_ ?_ ?_))
   ·exact iw _ _ _
   ·intro u W;simp at W;rcases W with rfl;rfl
   ·unfold maxLen;omega
   ·omega
   ·simp;omega
   ·intro v' w3 g f _;have G:Hid (zF w3 w.heap.size v' ((L.take (k+1)).map Prod.fst)):=by rw[i.out];exact Rw (by rw[y];exact g)
    have E:Hid (Below w.heap.size w w3):=((p.out.trans (l.out.mono p.out.size)).alloc (by omega) _).grown f (by simp;omega) (λk D=>(World.ownsRow.lt C.out k D).1);clear g f
    go_wp2
    go_roundw
    case rel=>exact⟨k+1,by omega,by go_num,G.out,E.out⟩
    case measure=>simp[intOf];omega
  ·have H:k=n:=by omega
   subst H;have q:=C.out;rw[List.take_of_length_le (by rw[N.out];omega)] at q;have F:=hid q;clear q
   go_wp2
   go_ret;exact⟨_,rfl,F.out,p.out⟩
theorem Hf(L:List zk)(b:Value)(M:Nat->Prop)(w:World)(h:qO M w b L)(d:L.length<=100) :
  Calls prog 41 #[b] w (Jw w (L.map Prod.fst)):=by
 have c:=Il L b M w h d;obtain⟨a,g,rfl,_⟩:=h;unfold Jw at c |-;have C:=hid c;clear c;go_enter func41,ntmps41
 go_wp2_with (go_at_call 80;refine C.out.mono ?_;rintro e i ⟨b,rfl,f,hb⟩)
 go_ret;exact⟨b,rfl,f,hb⟩
theorem di:∀(a b c:List UInt8),Lib.compareBytes a b<0->Lib.compareBytes b c<0->Lib.compareBytes a c<0
 | [],[],_,h,_=>by simp[Lib.compareBytes] at h
 | [],_::_,[],_,h=>by simp[Lib.compareBytes] at h
 | [],_::_,_::_,_,_=>by simp[Lib.compareBytes]
 | _::_,[],_,h,_=>by simp[Lib.compareBytes] at h
 | _::_,_::_,[],_,h=>by simp[Lib.compareBytes] at h
 | x::a,y::b,z::c,h,g=>by
  unfold Lib.compareBytes at h g |-
  by_cases c1:x<y
  ·by_cases c2:y<z
   ·rw[if_pos (UInt8.lt_trans c1 c2)];decide
   ·rw[if_neg c2] at g
    by_cases c3:z<y
    ·rw[if_pos c3] at g;omega
    ·have e:y=z:=UInt8.le_antisymm (UInt8.not_lt.1 c3) (UInt8.not_lt.1 c2);subst e;rw[if_pos c1];decide
  ·rw[if_neg c1] at h
   by_cases c2:y<x
   ·rw[if_pos c2] at h;omega
   ·rw[if_neg c2] at h;have e:x=y:=UInt8.le_antisymm (UInt8.not_lt.1 c2) (UInt8.not_lt.1 c1);subst e
    by_cases c3:x<z
    ·rw[if_pos c3];decide
    ·rw[if_neg c3] at g |-
     by_cases c4:z<x
     ·rw[if_pos c4] at g;omega
     ·rw[if_neg c4] at g |-;exact di a b c h g
theorem dm:∀(a b:List UInt8),Lib.compareBytes a b=0->a=b
 | [],[],_=>rfl
 | [],_::_,h=>by simp[Lib.compareBytes] at h
 | _::_,[],h=>by simp[Lib.compareBytes] at h
 | x::a,y::b,h=>by
  unfold Lib.compareBytes at h
  by_cases c1:x<y
  ·rw[if_pos c1] at h;omega
  ·rw[if_neg c1] at h
   by_cases c2:y<x
   ·rw[if_pos c2] at h;omega
   ·rw[if_neg c2] at h;have e:x=y:=UInt8.le_antisymm (UInt8.not_lt.1 c2) (UInt8.not_lt.1 c1);rw[e,dm a b h]
theorem dh:∀(a:List UInt8),Lib.compareBytes a a=0
 | []=>rfl
 | x::a=>by
  unfold Lib.compareBytes;rw[if_neg (UInt8.lt_irrefl x),if_neg (UInt8.lt_irrefl x)];exact dh a
theorem df:∀(a b:List UInt8),Lib.compareBytes a b = -Lib.compareBytes b a
 | [],[]=>rfl
 | [],_::_=>rfl
 | _::_,[]=>rfl
 | x::a,y::b=>by
  unfold Lib.compareBytes
  by_cases c1:x<y
  ·rw[if_pos c1,if_neg (UInt8.not_lt.2 (UInt8.le_of_lt c1)),if_pos c1]
  ·rw[if_neg c1]
   by_cases c2:y<x
   ·rw[if_pos c2,if_pos c2];rfl
   ·rw[if_neg c2,if_neg c2,if_neg c1];exact df a b
theorem YN{a b c:BA}(h:qx a b<0)(g:qx b c<0):qx a c<0:=di _ _ _ h g
theorem Uz{a b:BA}(h:qx a b=0):a=b:=by
 have:=dm _ _ h
 exact ByteArray.ext (Array.toList_inj.1 this)
theorem Qz(a:BA):qx a a=0:=dh _
theorem Uy(a b:BA):qx a b = -qx b a:=df _ _
def xI(L:List zk):Prop:=L.Pairwise λx y=>qx x.1 y.1<0
theorem xI.at{L:List zk}(h:xI L){a b:Nat}{x y:zk}(c:a<b)(e:L[a]?=some x)(f:L[b]?=some y):qx x.1 y.1<0:=by
 obtain⟨d,rfl⟩:=List.getElem?_eq_some_iff.1 e;obtain⟨hb,rfl⟩:=List.getElem?_eq_some_iff.1 f;exact List.pairwise_iff_getElem.1 h a b d hb c
theorem xI.down{L:List zk}(h:xI L)(name:BA):Down L name:=by
 intro a b x y c e f d;unfold ltN at d |-;rw[decide_eq_true_eq] at d |-;exact YN (h.at c e f) d
theorem iF{α:Type}{p:α->Bool}:∀{l:List α} {x:α},x ∈ l.takeWhile p->p x=true
 | [],_,h=>by simp at h
 | a::l,x,h=>by
  rw[List.takeWhile_cons] at h
  split at h
  ·rename_i b
   rcases List.mem_cons.1 h with rfl|h
   ·exact b
   ·exact iF h
  ·simp at h
theorem V8{L:List zk}{name:BA}{x:zk}(a:x ∈ L.take (qj L name)):qx x.1 name<0:=by
 have:L.take (qj L name)=L.takeWhile (ltN name):=by
  unfold qj;exact (List.prefix_iff_eq_take.1 (List.takeWhile_prefix _)).symm
 rw[this] at a
 have:=iF a
 unfold ltN at this
 rwa [decide_eq_true_eq] at this
theorem wm{L:List zk}{name:BA}{x:zk}(b:L[qj L name]?=some x):ltN name x=false:=by
 unfold qj at b
 have c:L.drop (L.takeWhile (ltN name)).length=L.dropWhile (ltN name):=by
  have:=List.takeWhile_append_dropWhile (p:=ltN name) (l:=L)
  have a:=congrArg (List.drop (L.takeWhile (ltN name)).length) this;rw[List.drop_left] at a;exact a.symm
 have d:(L.dropWhile (ltN name))[0]?=some x:=by rw[<- c,List.getElem?_drop];exact b
 have:=List.head?_dropWhile_not (ltN name) L
 rw[List.head?_eq_getElem?,d] at this
 simpa using this
theorem Ud{L:List zk}(h:xI L){name:BA}{x:zk}(g:x ∈ L.drop (if zl L name then qj L name+1 else qj L name)):qx name x.1<0:=by
 obtain⟨k,a⟩:=List.getElem?_of_mem g;rw[List.getElem?_drop] at a
 have c:qj L name<L.length:=by
  have:=(List.getElem?_eq_some_iff.1 a).1
  split at this<;>omega
 obtain⟨y,b⟩:∃y,L[qj L name]?=some y:=⟨_,List.getElem?_eq_getElem c⟩;have d:=wm b;unfold ltN at d;rw[decide_eq_false_iff_not] at d
 cases hh:zl L name with
 | true=>
  rw[hh,if_pos rfl] at a
  have f:qx y.1 name=0:=by
   unfold zl at hh;rw[b] at hh
   simpa using hh
  rw[<- Uz f];exact h.at (by omega) b a
 | false=>
  rw[hh] at a;simp only[Bool.false_eq_true,if_false] at a
  have f:qx y.1 name≠0:=by
   intro e;unfold zl at hh;rw[b] at hh;simp[e] at hh
  have i:=dG y.1 name;have hy1:qx name y.1<0:=by rw[Uy];omega
  by_cases hk0:k=0
  ·subst hk0;rw[Nat.add_zero,b] at a;injection a with a
   rw[<- a];exact hy1
  ·exact YN hy1 (h.at (by omega) b a)
theorem xI.with{L:List zk}(h:xI L)(name:BA)(c:List zA):xI (yt L name c):=by
 unfold yt xI;rw[List.append_assoc,List.pairwise_append];refine⟨h.sublist (List.take_sublist _ _),?_,?_⟩
 ·rw[List.singleton_append,List.pairwise_cons];exact⟨λx a=>Ud h a,h.sublist (List.drop_sublist _ _)⟩
 ·intro x a y b;rw[List.singleton_append] at b
  rcases List.mem_cons.1 b with rfl|b
  ·exact V8 a
  ·exact YN (V8 a) (Ud h b)
theorem xI.less{L:List zk}(h:xI L)(p:Nat):xI (vk L p):=by
 unfold vk;rw[<- List.eraseIdx_eq_take_drop_succ];exact h.sublist (List.eraseIdx_sublist _ _)
theorem SV{L:List zk}{name:BA}{b:List zA}(h:L.length<=4)(a:(zl L name||decide (L.length<4))=true):(yt L name b).length<=4:=by
 have c:=KO L name;unfold yt;rw[List.length_append,List.length_append,List.length_take,List.length_drop,List.length_singleton]
 cases hh:zl L name with
 | true=>
  have:=XZ hh
  rw[if_pos rfl];omega
 | false=>
  rw[hh] at a;simp only[Bool.false_or,decide_eq_true_eq] at a;simp only[Bool.false_eq_true,if_false];omega
theorem Hq{L:List zk}(p:Nat)(h:L.length<=4):(vk L p).length<=4:=by
 unfold vk;rw[List.length_append,List.length_take,List.length_drop];omega
end Go.Proofs.YtdakgnaojakldaaGreatDoor
