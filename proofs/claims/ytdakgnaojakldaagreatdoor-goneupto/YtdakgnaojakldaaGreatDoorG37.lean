/- P -/
import Derived.Test.YtdakgnaojakldaaGreatDoorG36
open Go.Proofs.Tryz
set_option maxRecDepth 100000
set_option maxHeartbeats 4000000
namespace Go.Proofs.YtdakgnaojakldaaGreatDoor
open Go.RowKit
def vX(L:List zt)(p:Nat):List zt:=L.take p++L.drop (p+1)
theorem Yc{L:List zt}{name:BA}(h:zh L name=true):qa L name<L.length:=by
 unfold zh at h
 split at h
 ·rename_i x a;exact (List.getElem?_eq_some_iff.1 a).1
 ·cases h
theorem iO(W:World):(Go.sizeOf (prog.elem 98)).run prog W = .ok 2 W:=by
 obtain⟨d,hi,b,a,c⟩:=info_parts Kt;have e:prog.elem 98=187:=by kernel_rfl
 rw[e];simp[Go.sizeOf,typeInfo,hi,a]
theorem pF(a:Option Addr)(n c p:Nat)(h:p<=c)(W:World):(Instr.sliceAt 98 (.slice a n c) none (some (.int .i64 (p:Int))) none).run prog W = .ok (.slice a p c) W:=by
 have b:prog.underlying 98=some (.slice (prog.elem 98)):=by kernel_rfl
 rw[run_sliceAt_slice _ _ _ _ _ _ b,run_slice_h _ _ _ _ _ b .i64 (p:Int) (by omega) (by omega),iO];simp[Result.andThen,sliced,Addr.add]
theorem aO(a:Option Addr)(n c p:Nat)(h:p<=n)(W:World):(Instr.sliceAt 98 (.slice a n c) (some (.int .i64 (p:Int))) none none).run prog W = .ok (.slice (if c=p then a else a.map λx=>x.add (p*2)) (n-p) (c-p)) W:=by
 have b:prog.underlying 98=some (.slice (prog.elem 98)):=by kernel_rfl
 rw[run_sliceAt_slice _ _ _ _ _ _ b,run_slice_l _ _ _ _ _ b .i64 (p:Int) (by omega) (by omega),iO];simp[Result.andThen,sliced]
theorem Wi(L:List zt)(lv:Value)(name:BA)(M:Nat->Prop)(w:World)(h:qR M w lv L)(hn:L.length<=100)(hd:Down L name)(P:∀b,M b->b<w.heap.size) :
  Calls prog 48 #[lv,.string name] w λe S=>∃v,e = .returned (.tuple #[v,.bool (zh L name)])/\Below w.heap.size w S/\(zh L name=true->qR M S v (vX L (qa L name))):=by
 have J:=Kb L lv name M w h (by omega) hd;have i:=λe=>Yc (L:=L) (name:=name) e;obtain⟨xs,B,A⟩:=h.flat;obtain⟨a,c,rfl,K,Y,Z,_⟩:=id h;obtain⟨p,R⟩:=Nm (qa L name);obtain⟨b,hb⟩:=Nm (zh L name);rw[R,hb] at J i |-;have F:=hid J;have o:=hid B;have u:=hid A;have U:=hid P;obtain⟨n,q⟩:=Nm L.length;rw[q] at K hn i F o |-;have V:=hid q;clear J B A P R hb h q Z hd
 cases b with
 | false=>
  go_enter func48,ntmps48
  go_wp2_with (go_at_call 83;refine F.out.mono ?_;rintro e g ⟨rfl,y⟩;have d:=hid y;clear y)
  go_ret2;exact⟨_,rfl,d.out,λe=>by cases e⟩
 | true=>
  have a2:=i rfl;clear i;go_enter func48,ntmps48
  go_upto_region 4 with (go_at_call 83;refine F.out.mono ?_;rintro e g ⟨rfl,y⟩;have d:=hid y;clear y)
  clear F;have m:=hid (o.out.below d.out);unfold maxLen at Y;have y6:IntKind.i64.wrap ((p:Int)+1)=(p:Int)+1:=by rw[IntKind.wrap_i64];omega
  have y7:wrap64 ((p:Int)+1)=(p:Int)+1:=by unfold wrap64;omega
  have s1:=pF a n c p (by omega);have s2:∀W,(Instr.sliceAt 98 (.slice a n c) (some (.int .i64 ((p:Int)+1))) none none).run prog W = .ok (.slice (if c=p+1 then a else a.map λx=>x.add ((p+1)*2)) (n-(p+1)) (c-(p+1))) W:=aO a n c (p+1) (by omega)
  have I:=hid (m.out.drop (p:=p+1) (by omega));have N:=hid (m.out.take (p:=p) (by omega));obtain⟨C,r⟩:∃x,(if c=p+1 then a else a.map λx=>x.add ((p+1)*2))=x:=⟨_,rfl⟩
  obtain⟨E,t⟩:∃x,n-(p+1)=x:=⟨_,rfl⟩;obtain⟨D,s⟩:∃x,c-(p+1)=x:=⟨_,rfl⟩;rw[r,t,s] at I;simp only[r,t,s] at s2;clear r s o m;have G:Below g.heap.size g (g.alloc (.cells #[.slice a p c,.slice C E D] 98)).drew:=(nB g _).drew
  have O:=UX [.slice a p c,.slice C E D] [xs.take (p*2),xs.drop ((p+1)*2)] g.heap.size (g.alloc (.cells #[.slice a p c,.slice C E D] 98)).drew rfl
   (λk v f=>by
     have K:=(za (heap_alloc_new g (.cells #[.slice a p c,.slice C E D] 98)) k).1;show (g.alloc (.cells #[.slice a p c,.slice C E D] 98)).cell? ⟨g.heap.size,k,none⟩=some v;rw[K,<- f]
     simp)
   (λk v ys f j=>by
     match k,f,j with
     | 0,f,j=>
      simp only[List.getElem?_cons_zero,Option.some.injEq] at f j;subst f j;exact N.out.below G
     | 1,f,j=>
      simp only[List.getElem?_cons_succ,List.getElem?_cons_zero,Option.some.injEq] at f j;subst f j;exact I.out.below G
     | k+2,f,j=>simp at f)
   (by simp) (by
     show 0+(xs.take (p*2)).length / 2+(xs.drop ((p+1)*2)).length / 2<=1000
     have:=u.out.1
     rw[V.out] at this;rw[List.length_take,List.length_drop,this];omega)
  have T:=hid O;have l:=hid (d.out.trans (G.mono d.out.size));clear O G N I t
  go_region_held3 (λ_=>True) (trivial) (first|((go_at_call 85);refine T.out.mono ?_;rintro e w3 ⟨v,rfl,Q,hb⟩;have X:=hid Q;have H:=hid hb;clear Q hb))
  go_wp2_with fail;go_ret2;have hb:=l.out.trans (H.out.mono l.out.size);refine⟨v,rfl,hb,λ_=>?_⟩;have z:=u.out.turn (zu.of (M:=M) hb);exact KH X.out ((z.take p).app (z.drop (p+1))) (λb hm=>by have:=U.out b hm;have:=l.out.size;omega)
def qY(L:List zt)(name:BA)(a:List zw):List zt:=L.take (qa L name)++[(name,a)]++L.drop (if zh L name then qa L name+1 else qa L name)
theorem Br(s:BA)(w:World)(f:s.size<=281474976710656) :
  Calls prog 84 #[.string s] w λe b=>e = .returned (.string s)/\Below w.heap.size w b:=by
 have c:Calls prog 137 #[.string s] w λe b=>e = .returned (.string s)/\Below w.heap.size w b:=AnyPu.stringslite_Clone Tryz.laysPu25 s w f;have C:=hid c;clear c;go_enter func84,ntmps84
 go_wp2_with (go_at_call 137;refine C.out.mono ?_;rintro e g ⟨rfl,d⟩;have a:=hid d;clear d)
 go_ret;exact⟨rfl,a.out⟩
theorem Wh(L:List zt)(lv:Value)(name:BA)(d:Option Addr)(g f:Nat)(ss:List zw)(M:Nat->Prop)(w:World)(h:qR M w lv L)(hn:L.length<=100)(hd:Down L name)(hM:∀b,M b->b<w.heap.size)(hD:xH M w (.slice d g f) ss)(hs:name.size<=281474976710656) :
  Calls prog 44 #[lv,.string name,.agg #[.slice d g f]] w λe Q=>∃v,e = .returned (.tuple #[v,.bool (zh L name||decide (L.length<4))])/\Below w.heap.size w Q/\((zh L name||decide (L.length<4))=true->qR M Q v (qY L name ss)):=by
 obtain⟨W0,a2⟩:=Nm (w.alloc (.cells #[.slice d g f] 72));have a0:Below w.heap.size w W0:=by rw[<- a2];exact nB w _
 have k0:W0.cell? ⟨w.heap.size,0,none⟩=some (.slice d g f):=by rw[<- a2];exact (za (heap_alloc_new w (.cells #[.slice d g f] 72)) 0).1
 have cf:=Kb L lv name M W0 (h.turn (zu.of a0)) (by omega) hd;have O:=λe=>Yc (L:=L) (name:=name) e;have a5:=aj L name;obtain⟨xs,d3,c8⟩:=h.flat;obtain⟨a,c,rfl,z,h2,h4,_⟩:=id h;unfold qY;obtain⟨p,hp⟩:=Nm (qa L name);obtain⟨b,hb⟩:=Nm (zh L name);rw[hp,hb] at cf O |-;rw[hp] at a5;have c4:=λW=>Br name W hs;have J:=hid c4;have CF:=hid cf;have b0:=hid (d3.below a0);have Y:=hid c8;have HM:=hid hM;have c2:=hid hD;have K:=hid a0;have a9:=hid a2;obtain⟨n,b5⟩:=Nm L.length;rw[b5] at z hn O CF b0 a5 |-;have HN:=hid b5;unfold maxLen at h2;clear cf d3 c8 hM hp hb h b5 h4 hd hD c4 a0 a2
 by_cases hfull:b=false/\4<=n
 ·obtain⟨rfl,g2⟩:=hfull;have d1:decide ((4:Int)<=(n:Int))=true:=by simp;omega
  have d2:decide (n<4)=false:=by simp;omega
  rw[d2];go_enter func44,ntmps44
  go_upto_region 1 with fail
  rw[a9.out]
  go_wp2_with (go_at_call 83;refine CF.out.mono ?_;rintro e i ⟨rfl,B⟩;have t:=hid (K.out.trans (B.mono K.out.size));clear B)
  go_ret2;exact⟨⟨_,rfl⟩,t.out⟩
 ·have b6:(b||decide (n<4))=true:=by cases b<;>simp at hfull |-;omega
  rw[b6];obtain⟨q,hq⟩:=Nm ((if b=true then p+1 else p))
  have e1:q<=n:=by rw[<- hq];cases b with
   | true=>have:=O rfl;simp;omega
   | false=>simp;omega
  have s1:=pF a n c p (by omega);have s2:=aO a n c p (by omega);have Z:=hid (b0.out.take (p:=p) (by omega));have N:=hid (b0.out.drop (p:=q) e1);have y6:IntKind.i64.wrap ((p:Int)+1)=(p:Int)+1:=by rw[IntKind.wrap_i64];omega
  have y7:wrap64 ((p:Int)+1)=(p:Int)+1:=by unfold wrap64;omega
  have f8:w.heap.size<W0.heap.size:=World.block_lt_of_cell? _ _ k0
  cases b with
  | true=>
   have s3:∀W,(Instr.sliceAt 98 (.slice a n c) (some (.int .i64 ((p:Int)+1))) none none).run prog W = .ok (.slice (if c=p+1 then a else a.map λx=>x.add ((p+1)*2)) (n-(p+1)) (c-(p+1))) W:=aO a n c (p+1) (O rfl)
   have X:q=p+1:=by rw[<- hq];rfl
   have U:L.drop (if (true=true) then p+1 else p)=L.drop q:=by rw[X];rfl
   rw[U];clear U hq O hfull b6;subst X;obtain⟨G,D⟩:∃x,(if c=p+1 then a else a.map λx=>x.add ((p+1)*2))=x:=⟨_,rfl⟩
   obtain⟨I,F⟩:∃x,n-(p+1)=x:=⟨_,rfl⟩;obtain⟨H,E⟩:∃x,c-(p+1)=x:=⟨_,rfl⟩;rw[D,F,E] at N;simp only[D,F,E] at s3;obtain⟨xa,d0⟩:∃x,(if c=p then a else a.map λx=>x.add (p*2))=x:=⟨_,rfl⟩
   simp only[d0] at s2;clear d0;clear D E;go_enter func44,ntmps44
   go_upto_region 1 with fail
   rw[a9.out]
   go_upto_region 7 with (go_at_call 83;refine CF.out.mono ?_;rintro e i ⟨rfl,B⟩;have t:=hid B;clear B)
   have l0:=zb t.out k0
   go_cut [11] (λv wx=>∃P,v = .pointer (some ⟨P,0,none⟩)/\wx.cell? ⟨P,0,none⟩=some (.string name)/\wx.cell? ⟨P,1,none⟩=some (.slice d g f)/\Below i.heap.size i wx)
   case first=>
    have bZ:Hid (Below i.heap.size i (i.alloc (.cells #[.string ⟨#[]⟩,.slice none 0 0] 187)).drew):=(nB i _).drew;have lZ:=zb bZ.out l0;have nn:=World.new_ne i _ l0
    go_region_held3 (λQ=>Q.cell? ⟨w.heap.size,0,none⟩=some (.slice d g f)) (go_keep) (first
     | ((go_at_call 84);refine (J.out i.drew).mono ?_;rintro e A ⟨rfl,s⟩;have m0:=zb s l0;have y:Hid (Below i.heap.size i A):=(((Below.refl _ i).drew).trans s);clear s)
     | ((go_at_call 84);refine (J.out (i.alloc (.cells #[.string ⟨#[]⟩,.slice none 0 0] 187)).drew).mono ?_;rintro e A ⟨rfl,s⟩;have m0:=zb s lZ;have o:Hid (A.heap[i.heap.size]?=some (.cells #[.string ⟨#[]⟩,.slice none 0 0] 187)):=((s.block i.heap.size (by simp)).trans (heap_alloc_new i (.cells #[.string ⟨#[]⟩,.slice none 0 0] 187)));have z0:=(za o.out 0).1;have z1:=(za o.out 1).1;have f0:=(za o.out 0).2;have f1:=(za o.out 1).2;have y:Hid (Below i.heap.size i A):=(bZ.out.trans (s.mono bZ.out.size));clear s))
    ·go_wp2_with fail
     go_meet
     case rel=>exact⟨A.heap.size,rfl,(za (heap_alloc_new A (.cells #[.string name,.slice d g f] 187)) 0).1,(za (heap_alloc_new A (.cells #[.string name,.slice d g f] 187)) 1).1,y.out.alloc y.out.size _⟩
    ·have z:=heap_setCell_same A i.heap.size 0 _ _ (.string name) o.out;have h2:=heap_setCell_same _ i.heap.size 1 _ _ (.slice d g f) z;have a7:=hid (za h2 0).1;have a8:=hid (za h2 1).1;clear z h2;go_wp2_with fail
     go_meet
     case rel=>exact⟨i.heap.size,rfl,a7.out,a8.out,(y.out.setCell (Nat.le_refl _) _).setCell (Nat.le_refl _) _⟩
   case rest=>
    obtain⟨P,rfl,c0,c1,T⟩:=hcut;have m:=hid (t.out.trans (T.mono t.out.size));have B:Below wc.heap.size wc (wc.alloc (.cells #[.string name,.slice d g f] 187)):=nB wc _;have S:Below wc.heap.size wc ((wc.alloc (.cells #[.string name,.slice d g f] 187)).alloc (.cells #[.slice a p c,.slice (some ⟨wc.heap.size,0,none⟩) 1 1,.slice G I H] 98)).drew:=(B.alloc B.size _).drew;have hX:(wc.alloc (.cells #[.string name,.slice d g f] 187)).heap.size=wc.heap.size+1:=by simp
    have tk:=(Z.out.below m.out).below S;have dr:=(N.out.below m.out).below S
    have one:uk ((wc.alloc (.cells #[.string name,.slice d g f] 187)).alloc (.cells #[.slice a p c,.slice (some ⟨wc.heap.size,0,none⟩) 1 1,.slice G I H] 98)).drew (.slice (some ⟨wc.heap.size,0,none⟩) 1 1) [.string name,.slice d g f]:=by
     refine⟨some ⟨wc.heap.size,0,none⟩,1,1,rfl,rfl,Nat.le_refl _,by decide,(λe=>by cases e),(λu hu=>by simp at hu;rcases hu with rfl|rfl<;>rfl),λj u hu=>⟨wc.heap.size,0,rfl,?_⟩⟩
     have z:=(za (heap_alloc_new wc (.cells #[.string name,.slice d g f] 187)) j).1;have s:Below (wc.alloc (.cells #[.string name,.slice d g f] 187)).heap.size (wc.alloc (.cells #[.string name,.slice d g f] 187)) ((wc.alloc (.cells #[.string name,.slice d g f] 187)).alloc (.cells #[.slice a p c,.slice (some ⟨wc.heap.size,0,none⟩) 1 1,.slice G I H] 98)).drew:=((Below.refl _ (wc.alloc (.cells #[.string name,.slice d g f] 187))).alloc (Nat.le_refl _) _).drew;refine zb s ?_;rw[Nat.zero_add,z,<- hu]
     simp
    have cc:=UX [.slice a p c,.slice (some ⟨wc.heap.size,0,none⟩) 1 1,.slice G I H] [xs.take (p*2),[.string name,.slice d g f],xs.drop ((p+1)*2)] (wc.heap.size+1) ((wc.alloc (.cells #[.string name,.slice d g f] 187)).alloc (.cells #[.slice a p c,.slice (some ⟨wc.heap.size,0,none⟩) 1 1,.slice G I H] 98)).drew rfl
     (λk v l=>by
       have z:=(za (heap_alloc_new (wc.alloc (.cells #[.string name,.slice d g f] 187)) (.cells #[.slice a p c,.slice (some ⟨wc.heap.size,0,none⟩) 1 1,.slice G I H] 98)) k).1;rw[hX] at z;show ((wc.alloc (.cells #[.string name,.slice d g f] 187)).alloc (.cells #[.slice a p c,.slice (some ⟨wc.heap.size,0,none⟩) 1 1,.slice G I H] 98)).cell? ⟨wc.heap.size+1,k,none⟩=some v;rw[z,<- l]
       simp)
     (λk v ys l r=>by
       match k,l,r with
       | 0,l,r=>
        simp only[List.getElem?_cons_zero,Option.some.injEq] at l r;subst l r;exact tk
       | 1,l,r=>
        simp only[List.getElem?_cons_succ,List.getElem?_cons_zero,Option.some.injEq] at l r;subst l r;exact one
       | 2,l,r=>
        simp only[List.getElem?_cons_succ,List.getElem?_cons_zero,Option.some.injEq] at l r;subst l r;exact dr
       | k+3,l,r=>simp at l)
     (by simp) (by
       show 0+(xs.take (p*2)).length / 2+2 / 2+(xs.drop ((p+1)*2)).length / 2<=1000
       have:=Y.out.1
       rw[HN.out] at this;rw[List.length_take,List.length_drop,this];omega)
    have CC:=hid cc;have C:=hid (K.out.trans ((m.out.trans (S.mono m.out.size)).mono K.out.size));have R:=hid S;clear cc B S hX tk dr one T Z N CF J m F l0
    go_upto_region 8 with fail
    go_region_held3 (λQ=>Q.cell? ⟨P,0,none⟩=some (.string name)/\Q.cell? ⟨P,1,none⟩=some (.slice d g f)) (go_keep) (first|((go_at_call 85);refine CC.out.mono ?_;rintro e w5 ⟨v,rfl,ho,hb⟩;have HO:=hid ho;have a6:=hid hb;have g0:=zb hb (zb R.out c0);have g1:=zb hb (zb R.out c1);clear ho hb))
    go_wp2_with fail;go_ret2;have hb:=C.out.trans (a6.out.mono C.out.size);refine⟨v,rfl,hb,λ_=>?_⟩;have V:=Y.out.turn (zu.of (M:=M) hb);exact KH HO.out (((V.take p).app (x9.one (x:=(name,ss)) (c2.out.turn (zu.of hb)))).app (V.drop (p+1))) (λb hm=>by have:=HM.out b hm;have:=C.out.size;omega)
  | false=>
   have X:p=q:=by rw[<- hq];rfl
   have U:L.drop (if (false=true) then p+1 else p)=L.drop q:=by rw[<- X];rfl
   have d1:decide ((4:Int)<=(n:Int))=false:=by simp at hfull |-;omega
   rw[U];clear U hq O hfull b6;subst X;obtain⟨G,D⟩:∃x,(if c=p then a else a.map λx=>x.add ((p)*2))=x:=⟨_,rfl⟩
   obtain⟨I,F⟩:∃x,n-(p)=x:=⟨_,rfl⟩;obtain⟨H,E⟩:∃x,c-(p)=x:=⟨_,rfl⟩;rw[D,F,E] at N;simp only[D,F,E] at s2;clear D E;go_enter func44,ntmps44
   go_upto_region 1 with fail
   rw[a9.out]
   go_upto_region 7 with (go_at_call 83;refine CF.out.mono ?_;rintro e i ⟨rfl,B⟩;have t:=hid B;clear B)
   have l0:=zb t.out k0
   go_cut [11] (λv wx=>∃P,v = .pointer (some ⟨P,0,none⟩)/\wx.cell? ⟨P,0,none⟩=some (.string name)/\wx.cell? ⟨P,1,none⟩=some (.slice d g f)/\Below i.heap.size i wx)
   case first=>
    have bZ:Hid (Below i.heap.size i (i.alloc (.cells #[.string ⟨#[]⟩,.slice none 0 0] 187)).drew):=(nB i _).drew;have lZ:=zb bZ.out l0;have nn:=World.new_ne i _ l0
    go_region_held3 (λQ=>Q.cell? ⟨w.heap.size,0,none⟩=some (.slice d g f)) (go_keep) (first
     | ((go_at_call 84);refine (J.out i.drew).mono ?_;rintro e A ⟨rfl,s⟩;have m0:=zb s l0;have y:Hid (Below i.heap.size i A):=(((Below.refl _ i).drew).trans s);clear s)
     | ((go_at_call 84);refine (J.out (i.alloc (.cells #[.string ⟨#[]⟩,.slice none 0 0] 187)).drew).mono ?_;rintro e A ⟨rfl,s⟩;have m0:=zb s lZ;have o:Hid (A.heap[i.heap.size]?=some (.cells #[.string ⟨#[]⟩,.slice none 0 0] 187)):=((s.block i.heap.size (by simp)).trans (heap_alloc_new i (.cells #[.string ⟨#[]⟩,.slice none 0 0] 187)));have z0:=(za o.out 0).1;have z1:=(za o.out 1).1;have f0:=(za o.out 0).2;have f1:=(za o.out 1).2;have y:Hid (Below i.heap.size i A):=(bZ.out.trans (s.mono bZ.out.size));clear s))
    ·go_wp2_with fail
     go_meet
     case rel=>exact⟨A.heap.size,rfl,(za (heap_alloc_new A (.cells #[.string name,.slice d g f] 187)) 0).1,(za (heap_alloc_new A (.cells #[.string name,.slice d g f] 187)) 1).1,y.out.alloc y.out.size _⟩
    ·have z:=heap_setCell_same A i.heap.size 0 _ _ (.string name) o.out;have h2:=heap_setCell_same _ i.heap.size 1 _ _ (.slice d g f) z;have a7:=hid (za h2 0).1;have a8:=hid (za h2 1).1;clear z h2;go_wp2_with fail
     go_meet
     case rel=>exact⟨i.heap.size,rfl,a7.out,a8.out,(y.out.setCell (Nat.le_refl _) _).setCell (Nat.le_refl _) _⟩
   case rest=>
    obtain⟨P,rfl,c0,c1,T⟩:=hcut;have m:=hid (t.out.trans (T.mono t.out.size));have B:Below wc.heap.size wc (wc.alloc (.cells #[.string name,.slice d g f] 187)):=nB wc _;have S:Below wc.heap.size wc ((wc.alloc (.cells #[.string name,.slice d g f] 187)).alloc (.cells #[.slice a p c,.slice (some ⟨wc.heap.size,0,none⟩) 1 1,.slice G I H] 98)).drew:=(B.alloc B.size _).drew;have hX:(wc.alloc (.cells #[.string name,.slice d g f] 187)).heap.size=wc.heap.size+1:=by simp
    have tk:=(Z.out.below m.out).below S;have dr:=(N.out.below m.out).below S
    have one:uk ((wc.alloc (.cells #[.string name,.slice d g f] 187)).alloc (.cells #[.slice a p c,.slice (some ⟨wc.heap.size,0,none⟩) 1 1,.slice G I H] 98)).drew (.slice (some ⟨wc.heap.size,0,none⟩) 1 1) [.string name,.slice d g f]:=by
     refine⟨some ⟨wc.heap.size,0,none⟩,1,1,rfl,rfl,Nat.le_refl _,by decide,(λe=>by cases e),(λu hu=>by simp at hu;rcases hu with rfl|rfl<;>rfl),λj u hu=>⟨wc.heap.size,0,rfl,?_⟩⟩
     have z:=(za (heap_alloc_new wc (.cells #[.string name,.slice d g f] 187)) j).1;have s:Below (wc.alloc (.cells #[.string name,.slice d g f] 187)).heap.size (wc.alloc (.cells #[.string name,.slice d g f] 187)) ((wc.alloc (.cells #[.string name,.slice d g f] 187)).alloc (.cells #[.slice a p c,.slice (some ⟨wc.heap.size,0,none⟩) 1 1,.slice G I H] 98)).drew:=((Below.refl _ (wc.alloc (.cells #[.string name,.slice d g f] 187))).alloc (Nat.le_refl _) _).drew;refine zb s ?_;rw[Nat.zero_add,z,<- hu]
     simp
    have cc:=UX [.slice a p c,.slice (some ⟨wc.heap.size,0,none⟩) 1 1,.slice G I H] [xs.take (p*2),[.string name,.slice d g f],xs.drop ((p)*2)] (wc.heap.size+1) ((wc.alloc (.cells #[.string name,.slice d g f] 187)).alloc (.cells #[.slice a p c,.slice (some ⟨wc.heap.size,0,none⟩) 1 1,.slice G I H] 98)).drew rfl
     (λk v l=>by
       have z:=(za (heap_alloc_new (wc.alloc (.cells #[.string name,.slice d g f] 187)) (.cells #[.slice a p c,.slice (some ⟨wc.heap.size,0,none⟩) 1 1,.slice G I H] 98)) k).1;rw[hX] at z;show ((wc.alloc (.cells #[.string name,.slice d g f] 187)).alloc (.cells #[.slice a p c,.slice (some ⟨wc.heap.size,0,none⟩) 1 1,.slice G I H] 98)).cell? ⟨wc.heap.size+1,k,none⟩=some v;rw[z,<- l]
       simp)
     (λk v ys l r=>by
       match k,l,r with
       | 0,l,r=>
        simp only[List.getElem?_cons_zero,Option.some.injEq] at l r;subst l r;exact tk
       | 1,l,r=>
        simp only[List.getElem?_cons_succ,List.getElem?_cons_zero,Option.some.injEq] at l r;subst l r;exact one
       | 2,l,r=>
        simp only[List.getElem?_cons_succ,List.getElem?_cons_zero,Option.some.injEq] at l r;subst l r;exact dr
       | k+3,l,r=>simp at l)
     (by simp) (by
       show 0+(xs.take (p*2)).length / 2+2 / 2+(xs.drop ((p)*2)).length / 2<=1000
       have:=Y.out.1
       rw[HN.out] at this;rw[List.length_take,List.length_drop,this];omega)
    have CC:=hid cc;have C:=hid (K.out.trans ((m.out.trans (S.mono m.out.size)).mono K.out.size));have R:=hid S;clear cc B S hX tk dr one T Z N CF J m F l0
    go_upto_region 8 with fail
    go_region_held3 (λQ=>Q.cell? ⟨P,0,none⟩=some (.string name)/\Q.cell? ⟨P,1,none⟩=some (.slice d g f)) (go_keep) (first|((go_at_call 85);refine CC.out.mono ?_;rintro e w5 ⟨v,rfl,ho,hb⟩;have HO:=hid ho;have a6:=hid hb;have g0:=zb hb (zb R.out c0);have g1:=zb hb (zb R.out c1);clear ho hb))
    go_wp2_with fail;go_ret2;have hb:=C.out.trans (a6.out.mono C.out.size);refine⟨v,rfl,hb,λ_=>?_⟩;have V:=Y.out.turn (zu.of (M:=M) hb);exact KH HO.out (((V.take p).app (x9.one (x:=(name,ss)) (c2.out.turn (zu.of hb)))).app (V.drop (p))) (λb hm=>by have:=HM.out b hm;have:=C.out.size;omega)
def QL(l:Int):Bool:=decide (0<=l)&&decide (l<4)
def yE(l:Int)(name:BA):Int:=if QL l then (if Ref.zO name then 0 else 8) else 7
theorem Gw(l:Int)(w:World) :
  Calls prog 40 #[.int .i64 l] w λe a=>e = .returned (.bool (QL l))/\a=w:=by
 unfold QL
 by_cases h:0<=l
 ·have d:decide (0<=l)=true:=by simp[h]
  go_enter func40,ntmps40
  go_wp2
  go_ret;exact⟨by rw[d];rfl,rfl⟩
 ·have d:decide (0<=l)=false:=by simp;omega
  go_enter func40,ntmps40
  go_wp2
  go_ret;exact⟨rfl,rfl⟩
theorem ah(l:Int)(name:BA)(w:World)(k:name.size<=maxLen) :
  Calls prog 42 #[.int .i64 l,.string name] w λe m=>e = .returned (.int .i64 (yE l name))/\Below w.heap.size w m:=by
 have c1:=λW=>Gw l W;have c2:=λW=>Vv name W k;have d:yE l name=if QL l then (if Ref.zO name then 0 else 8) else 7:=rfl
 obtain⟨a,f⟩:∃x,QL l=x:=⟨_,rfl⟩;obtain⟨b,hb⟩:∃x,Ref.zO name=x:=⟨_,rfl⟩;rw[f,hb] at d;simp only[f] at c1;simp only[hb] at c2;rw[d];have i:=hid c1;have j:=hid c2;clear c1 c2 d f hb
 cases a<;>cases b
 all_goals
  go_enter func42,ntmps42
  go_wp2_with (first
   | (go_at_call 82;refine (j.out w).mono ?_;rintro e o ⟨rfl,g⟩;have c:=hid g;clear g)
   | (go_at_call 40;refine (i.out w).mono ?_;rintro e n ⟨rfl,h⟩;rw[h];clear h))
  go_ret
  first
   | exact⟨rfl,c.out⟩
   | exact⟨rfl,Below.refl _ _⟩
theorem IM(L:List zt)(lv:Value)(name:BA)(M:Nat->Prop)(w:World)(h:qR M w lv L)(X:L.length<=100)(hd:Down L name) :
  Calls prog 43 #[lv,.string name] w λe Q=>∃u z y,e = .returned (.tuple #[.agg #[.slice u z y],.bool (zh L name)])/\Below w.heap.size w Q/\(zh L name=true->∃x,L[qa L name]?=some x/\xH M Q (.slice u z y) x.2):=by
 obtain⟨B,g⟩:=Nm (w.alloc (.cells #[.slice none 0 0] 72));have t:Below w.heap.size w B:=by rw[<- g];exact nB w _
 have blk:B.heap[w.heap.size]?=some (.cells #[.slice none 0 0] 72):=by rw[<- g];exact heap_alloc_new w _
 have Y:B.heap.size=w.heap.size+1:=by rw[<- g];simp
 have K:=Kb L lv name M B (h.turn (zu.of t)) (by omega) hd;have q:=λe=>Yc (L:=L) (name:=name) e;obtain⟨a,c,rfl,V,h2,W,_⟩:=id h;have d:=h.cells.2.2.2;obtain⟨p,P⟩:=Nm (qa L name);obtain⟨b,hb⟩:=Nm (zh L name);rw[P,hb] at K q |-;have I:=hid K;have R:=hid d;have k:=hid t;have D:=hid g;have C:=hid blk;obtain⟨n,r⟩:=Nm L.length;rw[r] at V X I |-;rw[r] at q;have S:=hid r;clear K d P hb h r W hd t g blk
 cases b with
 | false=>
  go_enter func43,ntmps43
  go_upto_region 1 with fail
  rw[D.out]
  go_upto_region 2 with (go_at_call 83;refine I.out.mono ?_;rintro e H ⟨rfl,E⟩;have f:=hid E;clear E)
  have m:H.heap[w.heap.size]?=some (.cells #[.slice none 0 0] 72):=(f.out.block _ (by omega)).trans C.out;have r0:=(za m 0).1;have U:=(za m 0).2;have F:=heap_setCell_same H w.heap.size 0 _ _ (.slice none 0 0) m;have G:=(za F 0).1;have j:=hid ((k.out.trans (f.out.mono k.out.size)).setCell (p:=⟨w.heap.size,0,none⟩) (Nat.le_refl _) (.slice none 0 0));simp at r0 G;clear m F;go_wp2_with fail;exact bodyPost_ret (v := .tuple #[.agg #[.slice none 0 0],.bool false]) (by simp[results,results43,go_sem,G]) rfl ⟨none,0,0,rfl,j.out,λe=>by cases e⟩
 | true=>
  have N:=q rfl;clear q;go_enter func43,ntmps43
  go_upto_region 1 with fail
  rw[D.out]
  go_upto_region 2 with (go_at_call 83;refine I.out.mono ?_;rintro e H ⟨rfl,E⟩;have f:=hid E;clear E)
  have O:=List.getElem?_eq_getElem (l:=L) (i:=p) (by rw[S.out];exact N);obtain⟨gb,o,u,z,y,rfl,hm,c0,c1,s⟩:=R.out p _ O;have A:=k.out.trans (f.out.mono k.out.size);have Z:=zb A c1;have m:H.heap[w.heap.size]?=some (.cells #[.slice none 0 0] 72):=(f.out.block _ (by omega)).trans C.out;have r0:=(za m 0).1;have U:=(za m 0).2;have F:=heap_setCell_same H w.heap.size 0 _ _ (.slice u z y) m;have G:=(za F 0).1;have j:=hid (A.setCell (p:=⟨w.heap.size,0,none⟩) (Nat.le_refl _) (.slice u z y));have T:=hid O;have J:=hid s;simp at r0 G;have k0:(0:Int)<=(p:Int):=Int.natCast_nonneg _;have k1:(p:Int)<(n:Int):=by omega
  clear m F c0 c1 A O s;go_wp2_with fail;exact bodyPost_ret (v := .tuple #[.agg #[.slice u z y],.bool true]) (by simp[results,results43,go_sem,G]) rfl ⟨u,z,y,rfl,j.out,λ_=>⟨_,T.out,J.out.turn (zu.of j.out)⟩⟩
theorem dY:∀(a b c:List UInt8),Lib.compareBytes a b<0->Lib.compareBytes b c<0->Lib.compareBytes a c<0
 | [],[],_,h,_=>by simp[Lib.compareBytes] at h
 | [],_::_,[],_,h=>by simp[Lib.compareBytes] at h
 | [],_::_,_::_,_,_=>by simp[Lib.compareBytes]
 | _::_,[],_,h,_=>by simp[Lib.compareBytes] at h
 | _::_,_::_,[],_,h=>by simp[Lib.compareBytes] at h
 | x::a,y::b,z::c,h,g=>by
  unfold Lib.compareBytes at h g |-
  by_cases c1:x<y
  ·by_cases c2:y<z
   ·rw[if_pos (UInt8.lt_trans c1 c2)];decide
   ·rw[if_neg c2] at g
    by_cases c3:z<y
    ·rw[if_pos c3] at g;omega
    ·have e:y=z:=UInt8.le_antisymm (UInt8.not_lt.1 c3) (UInt8.not_lt.1 c2);subst e;rw[if_pos c1];decide
  ·rw[if_neg c1] at h
   by_cases c2:y<x
   ·rw[if_pos c2] at h;omega
   ·rw[if_neg c2] at h;have e:x=y:=UInt8.le_antisymm (UInt8.not_lt.1 c2) (UInt8.not_lt.1 c1);subst e
    by_cases c3:x<z
    ·rw[if_pos c3];decide
    ·rw[if_neg c3] at g |-
     by_cases c4:z<x
     ·rw[if_pos c4] at g;omega
     ·rw[if_neg c4] at g |-;exact dY a b c h g
theorem dZ:∀(a b:List UInt8),Lib.compareBytes a b=0->a=b
 | [],[],_=>rfl
 | [],_::_,h=>by simp[Lib.compareBytes] at h
 | _::_,[],h=>by simp[Lib.compareBytes] at h
 | x::a,y::b,h=>by
  unfold Lib.compareBytes at h
  by_cases c1:x<y
  ·rw[if_pos c1] at h;omega
  ·rw[if_neg c1] at h
   by_cases c2:y<x
   ·rw[if_pos c2] at h;omega
   ·rw[if_neg c2] at h;have e:x=y:=UInt8.le_antisymm (UInt8.not_lt.1 c2) (UInt8.not_lt.1 c1);rw[e,dZ a b h]
theorem dX:∀(a:List UInt8),Lib.compareBytes a a=0
 | []=>rfl
 | x::a=>by
  unfold Lib.compareBytes;rw[if_neg (UInt8.lt_irrefl x),if_neg (UInt8.lt_irrefl x)];exact dX a
theorem dW:∀(a b:List UInt8),Lib.compareBytes a b = -Lib.compareBytes b a
 | [],[]=>rfl
 | [],_::_=>rfl
 | _::_,[]=>rfl
 | x::a,y::b=>by
  unfold Lib.compareBytes
  by_cases c1:x<y
  ·rw[if_pos c1,if_neg (UInt8.not_lt.2 (UInt8.le_of_lt c1)),if_pos c1]
  ·rw[if_neg c1]
   by_cases c2:y<x
   ·rw[if_pos c2,if_pos c2];rfl
   ·rw[if_neg c2,if_neg c2,if_neg c1];exact dW a b
theorem YZ{a b c:BA}(h:qB a b<0)(g:qB b c<0):qB a c<0:=dY _ _ _ h g
theorem UW{a b:BA}(h:qB a b=0):a=b:=by
 have:=dZ _ _ h
 exact ByteArray.ext (Array.toList_inj.1 this)
theorem QG(a:BA):qB a a=0:=dX _
theorem UV(a b:BA):qB a b = -qB b a:=dW _ _
def xy(L:List zt):Prop:=L.Pairwise λx y=>qB x.1 y.1<0
theorem xy.at{L:List zt}(h:xy L){a b:Nat}{x y:zt}(c:a<b)(e:L[a]?=some x)(f:L[b]?=some y):qB x.1 y.1<0:=by
 obtain⟨d,rfl⟩:=List.getElem?_eq_some_iff.1 e;obtain⟨hb,rfl⟩:=List.getElem?_eq_some_iff.1 f;exact List.pairwise_iff_getElem.1 h a b d hb c
theorem xy.down{L:List zt}(h:xy L)(name:BA):Down L name:=by
 intro a b x y c e f d;unfold ltN at d |-;rw[decide_eq_true_eq] at d |-;exact YZ (h.at c e f) d
theorem lN{α:Type}{p:α->Bool}:∀{l:List α} {x:α},x ∈ l.takeWhile p->p x=true
 | [],_,h=>by simp at h
 | a::l,x,h=>by
  rw[List.takeWhile_cons] at h
  split at h
  ·rename_i b
   rcases List.mem_cons.1 h with rfl|h
   ·exact b
   ·exact lN h
  ·simp at h
theorem Ur{L:List zt}{name:BA}{x:zt}(a:x ∈ L.take (qa L name)):qB x.1 name<0:=by
 have:L.take (qa L name)=L.takeWhile (ltN name):=by
  unfold qa;exact (List.prefix_iff_eq_take.1 (List.takeWhile_prefix _)).symm
 rw[this] at a
 have:=lN a
 unfold ltN at this
 rwa [decide_eq_true_eq] at this
theorem Ao{L:List zt}{name:BA}{x:zt}(b:L[qa L name]?=some x):ltN name x=false:=by
 unfold qa at b
 have c:L.drop (L.takeWhile (ltN name)).length=L.dropWhile (ltN name):=by
  have:=List.takeWhile_append_dropWhile (p:=ltN name) (l:=L)
  have a:=congrArg (List.drop (L.takeWhile (ltN name)).length) this;rw[List.drop_left] at a;exact a.symm
 have d:(L.dropWhile (ltN name))[0]?=some x:=by rw[<- c,List.getElem?_drop];exact b
 have:=List.head?_dropWhile_not (ltN name) L
 rw[List.head?_eq_getElem?,d] at this
 simpa using this
theorem Uw{L:List zt}(h:xy L){name:BA}{x:zt}(g:x ∈ L.drop (if zh L name then qa L name+1 else qa L name)):qB name x.1<0:=by
 obtain⟨k,a⟩:=List.getElem?_of_mem g;rw[List.getElem?_drop] at a
 have c:qa L name<L.length:=by
  have:=(List.getElem?_eq_some_iff.1 a).1
  split at this<;>omega
 obtain⟨y,b⟩:∃y,L[qa L name]?=some y:=⟨_,List.getElem?_eq_getElem c⟩;have d:=Ao b;unfold ltN at d;rw[decide_eq_false_iff_not] at d
 cases hh:zh L name with
 | true=>
  rw[hh,if_pos rfl] at a
  have f:qB y.1 name=0:=by
   unfold zh at hh;rw[b] at hh
   simpa using hh
  rw[<- UW f];exact h.at (by omega) b a
 | false=>
  rw[hh] at a;simp only[Bool.false_eq_true,if_false] at a
  have f:qB y.1 name≠0:=by
   intro e;unfold zh at hh;rw[b] at hh;simp[e] at hh
  have i:=eT y.1 name;have hy1:qB name y.1<0:=by rw[UV];omega
  by_cases hk0:k=0
  ·subst hk0;rw[Nat.add_zero,b] at a;injection a with a
   rw[<- a];exact hy1
  ·exact YZ hy1 (h.at (by omega) b a)
theorem xy.with{L:List zt}(h:xy L)(name:BA)(c:List zw):xy (qY L name c):=by
 unfold qY xy;rw[List.append_assoc,List.pairwise_append];refine⟨h.sublist (List.take_sublist _ _),?_,?_⟩
 ·rw[List.singleton_append,List.pairwise_cons];exact⟨λx a=>Uw h a,h.sublist (List.drop_sublist _ _)⟩
 ·intro x a y b;rw[List.singleton_append] at b
  rcases List.mem_cons.1 b with rfl|b
  ·exact Ur a
  ·exact YZ (Ur a) (Uw h b)
theorem xy.less{L:List zt}(h:xy L)(p:Nat):xy (vX L p):=by
 unfold vX;rw[<- List.eraseIdx_eq_take_drop_succ];exact h.sublist (List.eraseIdx_sublist _ _)
theorem Wd{L:List zt}{name:BA}{b:List zw}(h:L.length<=4)(a:(zh L name||decide (L.length<4))=true):(qY L name b).length<=4:=by
 have c:=aj L name;unfold qY;rw[List.length_append,List.length_append,List.length_take,List.length_drop,List.length_singleton]
 cases hh:zh L name with
 | true=>
  have:=Yc hh
  rw[if_pos rfl];omega
 | false=>
  rw[hh] at a;simp only[Bool.false_or,decide_eq_true_eq] at a;simp only[Bool.false_eq_true,if_false];omega
theorem IV{L:List zt}(p:Nat)(h:L.length<=4):(vX L p).length<=4:=by
 unfold vX;rw[List.length_append,List.length_take,List.length_drop];omega
end Go.Proofs.YtdakgnaojakldaaGreatDoor
