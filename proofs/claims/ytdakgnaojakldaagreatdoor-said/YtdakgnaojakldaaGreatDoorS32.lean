/- P -/
import Derived.Test.YtdakgnaojakldaaGreatDoorS31
open Go.Proofs.Tryz
set_option maxRecDepth 100000
set_option maxHeartbeats 4000000
namespace Go.Proofs.YtdakgnaojakldaaGreatDoor
open Go.RowKit
theorem Vt{L:List zm}{name:BY}(h:zt L name=true):qF L name<L.length:=by
 unfold zt at h
 split at h
 ·rename_i x a;exact (List.getElem?_eq_some_iff.1 a).1
 ·cases h
theorem aZ(W:World):(Go.sizeOf (prog.elem 98)).run prog W = .ok 2 W:=by
 obtain⟨d,hi,b,a,c⟩:=info_parts Vw;have e:prog.elem 98=187:=by kernel_rfl
 rw[e];simp[Go.sizeOf,typeInfo,hi,a]
theorem Ip(a:Option Addr)(n c p:Nat)(h:p<=c)(W:World):(Instr.sliceAt 98 (.slice a n c) none (some (.int .i64 (p:Int))) none).run prog W = .ok (.slice a p c) W:=by
 have b:prog.underlying 98=some (.slice (prog.elem 98)):=by kernel_rfl
 rw[run_sliceAt_slice _ _ _ _ _ _ b,run_slice_h _ _ _ _ _ b .i64 (p:Int) (by omega) (by omega),aZ];simp[Result.andThen,sliced,Addr.add]
theorem gF(a:Option Addr)(n c p:Nat)(h:p<=n)(W:World):(Instr.sliceAt 98 (.slice a n c) (some (.int .i64 (p:Int))) none none).run prog W = .ok (.slice (if c=p then a else a.map λx=>x.add (p*2)) (n-p) (c-p)) W:=by
 have b:prog.underlying 98=some (.slice (prog.elem 98)):=by kernel_rfl
 rw[run_sliceAt_slice _ _ _ _ _ _ b,run_slice_l _ _ _ _ _ b .i64 (p:Int) (by omega) (by omega),aZ];simp[Result.andThen,sliced]
def yQ(L:List zm)(name:BY)(a:List zz):List zm:=L.take (qF L name)++[(name,a)]++L.drop (if zt L name then qF L name+1 else qF L name)
theorem nN(s:BY)(w:World)(f:s.size<=281474976710656) :
  Calls prog 84 #[.string s] w λe b=>e = .returned (.string s)/\Below w.heap.size w b:=by
 have c:Calls prog 137 #[.string s] w λe b=>e = .returned (.string s)/\Below w.heap.size w b:=AnyPu.stringslite_Clone Tryz.laysPu25 s w f;have C:=hid c;clear c;go_enter func84,ntmps84
 go_wp2_with (go_at_call 137;refine C.out.mono ?_;rintro e g ⟨rfl,d⟩;have a:=hid d;clear d)
 go_ret;exact⟨rfl,a.out⟩
theorem MO(L:List zm)(lv:Value)(name:BY)(d:Option Addr)(g f:Nat)(ss:List zz)(M:Nat->Prop)(w:World)(h:xh M w lv L)(hn:L.length<=100)(hd:Down L name)(hM:∀b,M b->b<w.heap.size)(hD:xx M w (.slice d g f) ss)(hs:name.size<=281474976710656) :
  Calls prog 44 #[lv,.string name,.agg #[.slice d g f]] w λe Q=>∃v,e = .returned (.tuple #[v,.bool (zt L name||decide (L.length<4))])/\Below w.heap.size w Q/\((zt L name||decide (L.length<4))=true->xh M Q v (yQ L name ss)):=by
 obtain⟨W0,a2⟩:=Nm (w.alloc (.cells #[.slice d g f] 72));have a0:Below w.heap.size w W0:=by rw[<- a2];exact nb w _
 have k0:W0.cell? ⟨w.heap.size,0,none⟩=some (.slice d g f):=by rw[<- a2];exact (ze (heap_alloc_new w (.cells #[.slice d g f] 72)) 0).1
 have cf:=sP L lv name M W0 (h.turn (zy.of a0)) (by omega) hd;have O:=λe=>Vt (L:=L) (name:=name) e;have a5:=eY L name;obtain⟨xs,d3,c8⟩:=h.flat;obtain⟨a,c,rfl,z,h2,h4,_⟩:=id h;unfold yQ;obtain⟨p,hp⟩:=Nm (qF L name);obtain⟨b,hb⟩:=Nm (zt L name);rw[hp,hb] at cf O |-;rw[hp] at a5;have c4:=λW=>nN name W hs;have J:=hid c4;have CF:=hid cf;have b0:=hid (d3.below a0);have Y:=hid c8;have HM:=hid hM;have c2:=hid hD;have K:=hid a0;have a9:=hid a2;obtain⟨n,b5⟩:=Nm L.length;rw[b5] at z hn O CF b0 a5 |-;have HN:=hid b5;unfold maxLen at h2;clear cf d3 c8 hM hp hb h b5 h4 hd hD c4 a0 a2
 by_cases hfull:b=false/\4<=n
 ·obtain⟨rfl,g3⟩:=hfull;have d1:decide ((4:Int)<=(n:Int))=true:=by simp;omega
  have d2:decide (n<4)=false:=by simp;omega
  rw[d2];go_enter func44,ntmps44
  go_upto_region 1 with fail
  rw[a9.out]
  go_wp2_with (go_at_call 83;refine CF.out.mono ?_;rintro e i ⟨rfl,B⟩;have t:=hid (K.out.trans (B.mono K.out.size));clear B)
  go_ret2;exact⟨⟨_,rfl⟩,t.out⟩
 ·have b6:(b||decide (n<4))=true:=by cases b<;>simp at hfull |-;omega
  rw[b6];obtain⟨q,hq⟩:=Nm ((if b=true then p+1 else p))
  have e1:q<=n:=by rw[<- hq];cases b with
   | true=>have:=O rfl;simp;omega
   | false=>simp;omega
  have s1:=Ip a n c p (by omega);have s2:=gF a n c p (by omega);have Z:=hid (b0.out.take (p:=p) (by omega));have N:=hid (b0.out.drop (p:=q) e1);have y6:IntKind.i64.wrap ((p:Int)+1)=(p:Int)+1:=by rw[IntKind.wrap_i64];omega
  have y7:wrap64 ((p:Int)+1)=(p:Int)+1:=by unfold wrap64;omega
  have f9:w.heap.size<W0.heap.size:=World.block_lt_of_cell? _ _ k0
  cases b with
  | true=>
   have s3:∀W,(Instr.sliceAt 98 (.slice a n c) (some (.int .i64 ((p:Int)+1))) none none).run prog W = .ok (.slice (if c=p+1 then a else a.map λx=>x.add ((p+1)*2)) (n-(p+1)) (c-(p+1))) W:=gF a n c (p+1) (O rfl)
   have X:q=p+1:=by rw[<- hq];rfl
   have U:L.drop (if (true=true) then p+1 else p)=L.drop q:=by rw[X];rfl
   rw[U];clear U hq O hfull b6;subst X;obtain⟨G,D⟩:∃x,(if c=p+1 then a else a.map λx=>x.add ((p+1)*2))=x:=⟨_,rfl⟩
   obtain⟨I,F⟩:∃x,n-(p+1)=x:=⟨_,rfl⟩;obtain⟨H,E⟩:∃x,c-(p+1)=x:=⟨_,rfl⟩;rw[D,F,E] at N;simp only[D,F,E] at s3;obtain⟨xa,d0⟩:∃x,(if c=p then a else a.map λx=>x.add (p*2))=x:=⟨_,rfl⟩
   simp only[d0] at s2;clear d0;clear D E;go_enter func44,ntmps44
   go_upto_region 1 with fail
   rw[a9.out]
   go_upto_region 7 with (go_at_call 83;refine CF.out.mono ?_;rintro e i ⟨rfl,B⟩;have t:=hid B;clear B)
   have l0:=zg t.out k0
   go_cut [11] (λv wx=>∃P,v = .pointer (some ⟨P,0,none⟩)/\wx.cell? ⟨P,0,none⟩=some (.string name)/\wx.cell? ⟨P,1,none⟩=some (.slice d g f)/\Below i.heap.size i wx)
   case first=>
    have bZ:Hid (Below i.heap.size i (i.alloc (.cells #[.string ⟨#[]⟩,.slice none 0 0] 187)).drew):=(nb i _).drew;have lZ:=zg bZ.out l0;have nn:=World.new_ne i _ l0
    go_region_held3 (λQ=>Q.cell? ⟨w.heap.size,0,none⟩=some (.slice d g f)) (go_keep) (first
     | ((go_at_call 84);refine (J.out i.drew).mono ?_;rintro e A ⟨rfl,s⟩;have m0:=zg s l0;have y:Hid (Below i.heap.size i A):=(((Below.refl _ i).drew).trans s);clear s)
     | ((go_at_call 84);refine (J.out (i.alloc (.cells #[.string ⟨#[]⟩,.slice none 0 0] 187)).drew).mono ?_;rintro e A ⟨rfl,s⟩;have m0:=zg s lZ;have o:Hid (A.heap[i.heap.size]?=some (.cells #[.string ⟨#[]⟩,.slice none 0 0] 187)):=((s.block i.heap.size (by simp)).trans (heap_alloc_new i (.cells #[.string ⟨#[]⟩,.slice none 0 0] 187)));have z0:=(ze o.out 0).1;have z1:=(ze o.out 1).1;have f0:=(ze o.out 0).2;have f1:=(ze o.out 1).2;have y:Hid (Below i.heap.size i A):=(bZ.out.trans (s.mono bZ.out.size));clear s))
    ·go_wp2_with fail
     go_meet
     case rel=>exact⟨A.heap.size,rfl,(ze (heap_alloc_new A (.cells #[.string name,.slice d g f] 187)) 0).1,(ze (heap_alloc_new A (.cells #[.string name,.slice d g f] 187)) 1).1,y.out.alloc y.out.size _⟩
    ·have z:=heap_setCell_same A i.heap.size 0 _ _ (.string name) o.out;have h2:=heap_setCell_same _ i.heap.size 1 _ _ (.slice d g f) z;have a7:=hid (ze h2 0).1;have a8:=hid (ze h2 1).1;clear z h2;go_wp2_with fail
     go_meet
     case rel=>exact⟨i.heap.size,rfl,a7.out,a8.out,(y.out.setCell (Nat.le_refl _) _).setCell (Nat.le_refl _) _⟩
   case rest=>
    obtain⟨P,rfl,c0,c1,T⟩:=hcut;have m:=hid (t.out.trans (T.mono t.out.size));have B:Below wc.heap.size wc (wc.alloc (.cells #[.string name,.slice d g f] 187)):=nb wc _;have S:Below wc.heap.size wc ((wc.alloc (.cells #[.string name,.slice d g f] 187)).alloc (.cells #[.slice a p c,.slice (some ⟨wc.heap.size,0,none⟩) 1 1,.slice G I H] 98)).drew:=(B.alloc B.size _).drew;have hX:(wc.alloc (.cells #[.string name,.slice d g f] 187)).heap.size=wc.heap.size+1:=by simp
    have tk:=(Z.out.below m.out).below S;have dr:=(N.out.below m.out).below S
    have one:jT ((wc.alloc (.cells #[.string name,.slice d g f] 187)).alloc (.cells #[.slice a p c,.slice (some ⟨wc.heap.size,0,none⟩) 1 1,.slice G I H] 98)).drew (.slice (some ⟨wc.heap.size,0,none⟩) 1 1) [.string name,.slice d g f]:=by
     refine⟨some ⟨wc.heap.size,0,none⟩,1,1,rfl,rfl,Nat.le_refl _,by decide,(λe=>by cases e),(λu hu=>by simp at hu;rcases hu with rfl|rfl<;>rfl),λj u hu=>⟨wc.heap.size,0,rfl,?_⟩⟩
     have z:=(ze (heap_alloc_new wc (.cells #[.string name,.slice d g f] 187)) j).1;have s:Below (wc.alloc (.cells #[.string name,.slice d g f] 187)).heap.size (wc.alloc (.cells #[.string name,.slice d g f] 187)) ((wc.alloc (.cells #[.string name,.slice d g f] 187)).alloc (.cells #[.slice a p c,.slice (some ⟨wc.heap.size,0,none⟩) 1 1,.slice G I H] 98)).drew:=((Below.refl _ (wc.alloc (.cells #[.string name,.slice d g f] 187))).alloc (Nat.le_refl _) _).drew;refine zg s ?_;rw[Nat.zero_add,z,<- hu]
     simp
    have cc:=Ky [.slice a p c,.slice (some ⟨wc.heap.size,0,none⟩) 1 1,.slice G I H] [xs.take (p*2),[.string name,.slice d g f],xs.drop ((p+1)*2)] (wc.heap.size+1) ((wc.alloc (.cells #[.string name,.slice d g f] 187)).alloc (.cells #[.slice a p c,.slice (some ⟨wc.heap.size,0,none⟩) 1 1,.slice G I H] 98)).drew rfl
     (λk v l=>by
       have z:=(ze (heap_alloc_new (wc.alloc (.cells #[.string name,.slice d g f] 187)) (.cells #[.slice a p c,.slice (some ⟨wc.heap.size,0,none⟩) 1 1,.slice G I H] 98)) k).1;rw[hX] at z;show ((wc.alloc (.cells #[.string name,.slice d g f] 187)).alloc (.cells #[.slice a p c,.slice (some ⟨wc.heap.size,0,none⟩) 1 1,.slice G I H] 98)).cell? ⟨wc.heap.size+1,k,none⟩=some v;rw[z,<- l]
       simp)
     (λk v ys l r=>by
       match k,l,r with
       | 0,l,r=>
        simp only[List.getElem?_cons_zero,Option.some.injEq] at l r;subst l r;exact tk
       | 1,l,r=>
        simp only[List.getElem?_cons_succ,List.getElem?_cons_zero,Option.some.injEq] at l r;subst l r;exact one
       | 2,l,r=>
        simp only[List.getElem?_cons_succ,List.getElem?_cons_zero,Option.some.injEq] at l r;subst l r;exact dr
       | k+3,l,r=>simp at l)
     (by simp) (by
       show 0+(xs.take (p*2)).length / 2+2 / 2+(xs.drop ((p+1)*2)).length / 2<=1000
       have:=Y.out.1
       rw[HN.out] at this;rw[List.length_take,List.length_drop,this];omega)
    have CC:=hid cc;have C:=hid (K.out.trans ((m.out.trans (S.mono m.out.size)).mono K.out.size));have R:=hid S;clear cc B S hX tk dr one T Z N CF J m F l0
    go_upto_region 8 with fail
    go_region_held3 (λQ=>Q.cell? ⟨P,0,none⟩=some (.string name)/\Q.cell? ⟨P,1,none⟩=some (.slice d g f)) (go_keep) (first|((go_at_call 85);refine CC.out.mono ?_;rintro e w5 ⟨v,rfl,ho,hb⟩;have HO:=hid ho;have a6:=hid hb;have g0:=zg hb (zg R.out c0);have g1:=zg hb (zg R.out c1);clear ho hb))
    go_wp2_with fail;go_ret2;have hb:=C.out.trans (a6.out.mono C.out.size);refine⟨v,rfl,hb,λ_=>?_⟩;have V:=Y.out.turn (zy.of (M:=M) hb);exact bE HO.out (((V.take p).app (xz.one (x:=(name,ss)) (c2.out.turn (zy.of hb)))).app (V.drop (p+1))) (λb hm=>by have:=HM.out b hm;have:=C.out.size;omega)
  | false=>
   have X:p=q:=by rw[<- hq];rfl
   have U:L.drop (if (false=true) then p+1 else p)=L.drop q:=by rw[<- X];rfl
   have d1:decide ((4:Int)<=(n:Int))=false:=by simp at hfull |-;omega
   rw[U];clear U hq O hfull b6;subst X;obtain⟨G,D⟩:∃x,(if c=p then a else a.map λx=>x.add ((p)*2))=x:=⟨_,rfl⟩
   obtain⟨I,F⟩:∃x,n-(p)=x:=⟨_,rfl⟩;obtain⟨H,E⟩:∃x,c-(p)=x:=⟨_,rfl⟩;rw[D,F,E] at N;simp only[D,F,E] at s2;clear D E;go_enter func44,ntmps44
   go_upto_region 1 with fail
   rw[a9.out]
   go_upto_region 7 with (go_at_call 83;refine CF.out.mono ?_;rintro e i ⟨rfl,B⟩;have t:=hid B;clear B)
   have l0:=zg t.out k0
   go_cut [11] (λv wx=>∃P,v = .pointer (some ⟨P,0,none⟩)/\wx.cell? ⟨P,0,none⟩=some (.string name)/\wx.cell? ⟨P,1,none⟩=some (.slice d g f)/\Below i.heap.size i wx)
   case first=>
    have bZ:Hid (Below i.heap.size i (i.alloc (.cells #[.string ⟨#[]⟩,.slice none 0 0] 187)).drew):=(nb i _).drew;have lZ:=zg bZ.out l0;have nn:=World.new_ne i _ l0
    go_region_held3 (λQ=>Q.cell? ⟨w.heap.size,0,none⟩=some (.slice d g f)) (go_keep) (first
     | ((go_at_call 84);refine (J.out i.drew).mono ?_;rintro e A ⟨rfl,s⟩;have m0:=zg s l0;have y:Hid (Below i.heap.size i A):=(((Below.refl _ i).drew).trans s);clear s)
     | ((go_at_call 84);refine (J.out (i.alloc (.cells #[.string ⟨#[]⟩,.slice none 0 0] 187)).drew).mono ?_;rintro e A ⟨rfl,s⟩;have m0:=zg s lZ;have o:Hid (A.heap[i.heap.size]?=some (.cells #[.string ⟨#[]⟩,.slice none 0 0] 187)):=((s.block i.heap.size (by simp)).trans (heap_alloc_new i (.cells #[.string ⟨#[]⟩,.slice none 0 0] 187)));have z0:=(ze o.out 0).1;have z1:=(ze o.out 1).1;have f0:=(ze o.out 0).2;have f1:=(ze o.out 1).2;have y:Hid (Below i.heap.size i A):=(bZ.out.trans (s.mono bZ.out.size));clear s))
    ·go_wp2_with fail
     go_meet
     case rel=>exact⟨A.heap.size,rfl,(ze (heap_alloc_new A (.cells #[.string name,.slice d g f] 187)) 0).1,(ze (heap_alloc_new A (.cells #[.string name,.slice d g f] 187)) 1).1,y.out.alloc y.out.size _⟩
    ·have z:=heap_setCell_same A i.heap.size 0 _ _ (.string name) o.out;have h2:=heap_setCell_same _ i.heap.size 1 _ _ (.slice d g f) z;have a7:=hid (ze h2 0).1;have a8:=hid (ze h2 1).1;clear z h2;go_wp2_with fail
     go_meet
     case rel=>exact⟨i.heap.size,rfl,a7.out,a8.out,(y.out.setCell (Nat.le_refl _) _).setCell (Nat.le_refl _) _⟩
   case rest=>
    obtain⟨P,rfl,c0,c1,T⟩:=hcut;have m:=hid (t.out.trans (T.mono t.out.size));have B:Below wc.heap.size wc (wc.alloc (.cells #[.string name,.slice d g f] 187)):=nb wc _;have S:Below wc.heap.size wc ((wc.alloc (.cells #[.string name,.slice d g f] 187)).alloc (.cells #[.slice a p c,.slice (some ⟨wc.heap.size,0,none⟩) 1 1,.slice G I H] 98)).drew:=(B.alloc B.size _).drew;have hX:(wc.alloc (.cells #[.string name,.slice d g f] 187)).heap.size=wc.heap.size+1:=by simp
    have tk:=(Z.out.below m.out).below S;have dr:=(N.out.below m.out).below S
    have one:jT ((wc.alloc (.cells #[.string name,.slice d g f] 187)).alloc (.cells #[.slice a p c,.slice (some ⟨wc.heap.size,0,none⟩) 1 1,.slice G I H] 98)).drew (.slice (some ⟨wc.heap.size,0,none⟩) 1 1) [.string name,.slice d g f]:=by
     refine⟨some ⟨wc.heap.size,0,none⟩,1,1,rfl,rfl,Nat.le_refl _,by decide,(λe=>by cases e),(λu hu=>by simp at hu;rcases hu with rfl|rfl<;>rfl),λj u hu=>⟨wc.heap.size,0,rfl,?_⟩⟩
     have z:=(ze (heap_alloc_new wc (.cells #[.string name,.slice d g f] 187)) j).1;have s:Below (wc.alloc (.cells #[.string name,.slice d g f] 187)).heap.size (wc.alloc (.cells #[.string name,.slice d g f] 187)) ((wc.alloc (.cells #[.string name,.slice d g f] 187)).alloc (.cells #[.slice a p c,.slice (some ⟨wc.heap.size,0,none⟩) 1 1,.slice G I H] 98)).drew:=((Below.refl _ (wc.alloc (.cells #[.string name,.slice d g f] 187))).alloc (Nat.le_refl _) _).drew;refine zg s ?_;rw[Nat.zero_add,z,<- hu]
     simp
    have cc:=Ky [.slice a p c,.slice (some ⟨wc.heap.size,0,none⟩) 1 1,.slice G I H] [xs.take (p*2),[.string name,.slice d g f],xs.drop ((p)*2)] (wc.heap.size+1) ((wc.alloc (.cells #[.string name,.slice d g f] 187)).alloc (.cells #[.slice a p c,.slice (some ⟨wc.heap.size,0,none⟩) 1 1,.slice G I H] 98)).drew rfl
     (λk v l=>by
       have z:=(ze (heap_alloc_new (wc.alloc (.cells #[.string name,.slice d g f] 187)) (.cells #[.slice a p c,.slice (some ⟨wc.heap.size,0,none⟩) 1 1,.slice G I H] 98)) k).1;rw[hX] at z;show ((wc.alloc (.cells #[.string name,.slice d g f] 187)).alloc (.cells #[.slice a p c,.slice (some ⟨wc.heap.size,0,none⟩) 1 1,.slice G I H] 98)).cell? ⟨wc.heap.size+1,k,none⟩=some v;rw[z,<- l]
       simp)
     (λk v ys l r=>by
       match k,l,r with
       | 0,l,r=>
        simp only[List.getElem?_cons_zero,Option.some.injEq] at l r;subst l r;exact tk
       | 1,l,r=>
        simp only[List.getElem?_cons_succ,List.getElem?_cons_zero,Option.some.injEq] at l r;subst l r;exact one
       | 2,l,r=>
        simp only[List.getElem?_cons_succ,List.getElem?_cons_zero,Option.some.injEq] at l r;subst l r;exact dr
       | k+3,l,r=>simp at l)
     (by simp) (by
       show 0+(xs.take (p*2)).length / 2+2 / 2+(xs.drop ((p)*2)).length / 2<=1000
       have:=Y.out.1
       rw[HN.out] at this;rw[List.length_take,List.length_drop,this];omega)
    have CC:=hid cc;have C:=hid (K.out.trans ((m.out.trans (S.mono m.out.size)).mono K.out.size));have R:=hid S;clear cc B S hX tk dr one T Z N CF J m F l0
    go_upto_region 8 with fail
    go_region_held3 (λQ=>Q.cell? ⟨P,0,none⟩=some (.string name)/\Q.cell? ⟨P,1,none⟩=some (.slice d g f)) (go_keep) (first|((go_at_call 85);refine CC.out.mono ?_;rintro e w5 ⟨v,rfl,ho,hb⟩;have HO:=hid ho;have a6:=hid hb;have g0:=zg hb (zg R.out c0);have g1:=zg hb (zg R.out c1);clear ho hb))
    go_wp2_with fail;go_ret2;have hb:=C.out.trans (a6.out.mono C.out.size);refine⟨v,rfl,hb,λ_=>?_⟩;have V:=Y.out.turn (zy.of (M:=M) hb);exact bE HO.out (((V.take p).app (xz.one (x:=(name,ss)) (c2.out.turn (zy.of hb)))).app (V.drop (p))) (λb hm=>by have:=HM.out b hm;have:=C.out.size;omega)
def ZO(l:Int):Bool:=decide (0<=l)&&decide (l<4)
def uC(l:Int)(name:BY):Int:=if ZO l then (if Ref.zH name then 0 else 8) else 7
theorem Be(l:Int)(w:World) :
  Calls prog 40 #[.int .i64 l] w λe a=>e = .returned (.bool (ZO l))/\a=w:=by
 unfold ZO
 by_cases h:0<=l
 ·have d:decide (0<=l)=true:=by simp[h]
  go_enter func40,ntmps40
  go_wp2
  go_ret;exact⟨by rw[d];rfl,rfl⟩
 ·have d:decide (0<=l)=false:=by simp;omega
  go_enter func40,ntmps40
  go_wp2
  go_ret;exact⟨rfl,rfl⟩
theorem FB(l:Int)(name:BY)(w:World)(k:name.size<=maxLen) :
  Calls prog 42 #[.int .i64 l,.string name] w λe m=>e = .returned (.int .i64 (uC l name))/\Below w.heap.size w m:=by
 have c1:=λW=>Be l W;have c2:=λW=>YT name W k;have d:uC l name=if ZO l then (if Ref.zH name then 0 else 8) else 7:=rfl
 obtain⟨a,f⟩:∃x,ZO l=x:=⟨_,rfl⟩;obtain⟨b,hb⟩:∃x,Ref.zH name=x:=⟨_,rfl⟩;rw[f,hb] at d;simp only[f] at c1;simp only[hb] at c2;rw[d];have i:=hid c1;have j:=hid c2;clear c1 c2 d f hb
 cases a<;>cases b
 all_goals
  go_enter func42,ntmps42
  go_wp2_with (first
   | (go_at_call 82;refine (j.out w).mono ?_;rintro e o ⟨rfl,g⟩;have c:=hid g;clear g)
   | (go_at_call 40;refine (i.out w).mono ?_;rintro e n ⟨rfl,h⟩;rw[h];clear h))
  go_ret
  first
   | exact⟨rfl,c.out⟩
   | exact⟨rfl,Below.refl _ _⟩
theorem Kj:∀(a b c:List UInt8),Lib.compareBytes a b<0->Lib.compareBytes b c<0->Lib.compareBytes a c<0
 | [],[],_,h,_=>by simp[Lib.compareBytes] at h
 | [],_::_,[],_,h=>by simp[Lib.compareBytes] at h
 | [],_::_,_::_,_,_=>by simp[Lib.compareBytes]
 | _::_,[],_,h,_=>by simp[Lib.compareBytes] at h
 | _::_,_::_,[],_,h=>by simp[Lib.compareBytes] at h
 | x::a,y::b,z::c,h,g=>by
  unfold Lib.compareBytes at h g |-
  by_cases c1:x<y
  ·by_cases c2:y<z
   ·rw[if_pos (UInt8.lt_trans c1 c2)];decide
   ·rw[if_neg c2] at g
    by_cases c3:z<y
    ·rw[if_pos c3] at g;omega
    ·have e:y=z:=UInt8.le_antisymm (UInt8.not_lt.1 c3) (UInt8.not_lt.1 c2);subst e;rw[if_pos c1];decide
  ·rw[if_neg c1] at h
   by_cases c2:y<x
   ·rw[if_pos c2] at h;omega
   ·rw[if_neg c2] at h;have e:x=y:=UInt8.le_antisymm (UInt8.not_lt.1 c2) (UInt8.not_lt.1 c1);subst e
    by_cases c3:x<z
    ·rw[if_pos c3];decide
    ·rw[if_neg c3] at g |-
     by_cases c4:z<x
     ·rw[if_pos c4] at g;omega
     ·rw[if_neg c4] at g |-;exact Kj a b c h g
theorem Kk:∀(a b:List UInt8),Lib.compareBytes a b=0->a=b
 | [],[],_=>rfl
 | [],_::_,h=>by simp[Lib.compareBytes] at h
 | _::_,[],h=>by simp[Lib.compareBytes] at h
 | x::a,y::b,h=>by
  unfold Lib.compareBytes at h
  by_cases c1:x<y
  ·rw[if_pos c1] at h;omega
  ·rw[if_neg c1] at h
   by_cases c2:y<x
   ·rw[if_pos c2] at h;omega
   ·rw[if_neg c2] at h;have e:x=y:=UInt8.le_antisymm (UInt8.not_lt.1 c2) (UInt8.not_lt.1 c1);rw[e,Kk a b h]
theorem Ki:∀(a:List UInt8),Lib.compareBytes a a=0
 | []=>rfl
 | x::a=>by
  unfold Lib.compareBytes;rw[if_neg (UInt8.lt_irrefl x),if_neg (UInt8.lt_irrefl x)];exact Ki a
theorem Kh:∀(a b:List UInt8),Lib.compareBytes a b = -Lib.compareBytes b a
 | [],[]=>rfl
 | [],_::_=>rfl
 | _::_,[]=>rfl
 | x::a,y::b=>by
  unfold Lib.compareBytes
  by_cases c1:x<y
  ·rw[if_pos c1,if_neg (UInt8.not_lt.2 (UInt8.le_of_lt c1)),if_pos c1]
  ·rw[if_neg c1]
   by_cases c2:y<x
   ·rw[if_pos c2,if_pos c2];rfl
   ·rw[if_neg c2,if_neg c2,if_neg c1];exact Kh a b
theorem XH{a b c:BY}(h:qh a b<0)(g:qh b c<0):qh a c<0:=Kj _ _ _ h g
theorem J2{a b:BY}(h:qh a b=0):a=b:=by
 have:=Kk _ _ h
 exact ByteArray.ext (Array.toList_inj.1 this)
theorem ZH(a:BY):qh a a=0:=Ki _
theorem JZ(a b:BY):qh a b = -qh b a:=Kh _ _
def yJ(L:List zm):Prop:=L.Pairwise λx y=>qh x.1 y.1<0
theorem yJ.at{L:List zm}(h:yJ L){a b:Nat}{x y:zm}(c:a<b)(e:L[a]?=some x)(f:L[b]?=some y):qh x.1 y.1<0:=by
 obtain⟨d,rfl⟩:=List.getElem?_eq_some_iff.1 e;obtain⟨hb,rfl⟩:=List.getElem?_eq_some_iff.1 f;exact List.pairwise_iff_getElem.1 h a b d hb c
theorem yJ.down{L:List zm}(h:yJ L)(name:BY):Down L name:=by
 intro a b x y c e f d;unfold ltN at d |-;rw[decide_eq_true_eq] at d |-;exact XH (h.at c e f) d
theorem bV{α:Type}{p:α->Bool}:∀{l:List α} {x:α},x ∈ l.takeWhile p->p x=true
 | [],_,h=>by simp at h
 | a::l,x,h=>by
  rw[List.takeWhile_cons] at h
  split at h
  ·rename_i b
   rcases List.mem_cons.1 h with rfl|h
   ·exact b
   ·exact bV h
  ·simp at h
theorem JD{L:List zm}{name:BY}{x:zm}(a:x ∈ L.take (qF L name)):qh x.1 name<0:=by
 have:L.take (qF L name)=L.takeWhile (ltN name):=by
  unfold qF;exact (List.prefix_iff_eq_take.1 (List.takeWhile_prefix _)).symm
 rw[this] at a
 have:=bV a
 unfold ltN at this
 rwa [decide_eq_true_eq] at this
theorem mM{L:List zm}{name:BY}{x:zm}(b:L[qF L name]?=some x):ltN name x=false:=by
 unfold qF at b
 have c:L.drop (L.takeWhile (ltN name)).length=L.dropWhile (ltN name):=by
  have:=List.takeWhile_append_dropWhile (p:=ltN name) (l:=L)
  have a:=congrArg (List.drop (L.takeWhile (ltN name)).length) this;rw[List.drop_left] at a;exact a.symm
 have d:(L.dropWhile (ltN name))[0]?=some x:=by rw[<- c,List.getElem?_drop];exact b
 have:=List.head?_dropWhile_not (ltN name) L
 rw[List.head?_eq_getElem?,d] at this
 simpa using this
theorem JJ{L:List zm}(h:yJ L){name:BY}{x:zm}(i:x ∈ L.drop (if zt L name then qF L name+1 else qF L name)):qh name x.1<0:=by
 obtain⟨k,a⟩:=List.getElem?_of_mem i;rw[List.getElem?_drop] at a
 have d:qF L name<L.length:=by
  have:=(List.getElem?_eq_some_iff.1 a).1
  split at this<;>omega
 obtain⟨y,b⟩:∃y,L[qF L name]?=some y:=⟨_,List.getElem?_eq_getElem d⟩;have f:=mM b;unfold ltN at f;rw[decide_eq_false_iff_not] at f
 cases hh:zt L name with
 | true=>
  rw[hh,if_pos rfl] at a
  have g:qh y.1 name=0:=by
   unfold zt at hh;rw[b] at hh
   simpa using hh
  rw[<- J2 g];exact h.at (by omega) b a
 | false=>
  rw[hh] at a;simp only[Bool.false_eq_true,if_false] at a
  have g:qh y.1 name≠0:=by
   intro e;unfold zt at hh;rw[b] at hh;simp[e] at hh
  have j:=Ku y.1 name;have c:qh name y.1<0:=by rw[JZ];omega
  by_cases hk0:k=0
  ·subst hk0;rw[Nat.add_zero,b] at a;injection a with a
   rw[<- a];exact c
  ·exact XH c (h.at (by omega) b a)
theorem yJ.with{L:List zm}(h:yJ L)(name:BY)(c:List zz):yJ (yQ L name c):=by
 unfold yQ yJ;rw[List.append_assoc,List.pairwise_append];refine⟨h.sublist (List.take_sublist _ _),?_,?_⟩
 ·rw[List.singleton_append,List.pairwise_cons];exact⟨λx a=>JJ h a,h.sublist (List.drop_sublist _ _)⟩
 ·intro x a y b;rw[List.singleton_append] at b
  rcases List.mem_cons.1 b with rfl|b
  ·exact JD a
  ·exact XH (JD a) (JJ h b)
theorem MN{L:List zm}{name:BY}{b:List zz}(h:L.length<=4)(a:(zt L name||decide (L.length<4))=true):(yQ L name b).length<=4:=by
 have c:=eY L name;unfold yQ;rw[List.length_append,List.length_append,List.length_take,List.length_drop,List.length_singleton]
 cases hh:zt L name with
 | true=>
  have:=Vt hh
  rw[if_pos rfl];omega
 | false=>
  rw[hh] at a;simp only[Bool.false_or,decide_eq_true_eq] at a;simp only[Bool.false_eq_true,if_false];omega
end Go.Proofs.YtdakgnaojakldaaGreatDoor
