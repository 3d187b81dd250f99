/- P -/
import Derived.Test.YtdakgnaojakldabGreatDoorT35
open Go.Proofs.Tryz
set_option maxRecDepth 100000
set_option maxHeartbeats 4000000
namespace Go.Proofs.YtdakgnaojakldabGreatDoor
open Go.RowKit
theorem Jv{L:List zl}{name:BA}(h:zu L name=true):qy L name<L.length:=by
 unfold zu at h
 split at h
 ·rename_i x a;exact (List.getElem?_eq_some_iff.1 a).1
 ·cases h
theorem eQ(W:World):(Go.sizeOf (prog.elem 61)).run prog W = .ok 2 W:=by
 obtain⟨f,b,c,a,d⟩:=info_parts Uv;have e:prog.elem 61=123:=by kernel_rfl
 rw[e];simp[Go.sizeOf,typeInfo,b,a]
theorem NQ(a:Option Addr)(n c p:Nat)(h:p<=c)(W:World):(Instr.sliceAt 61 (.slice a n c) none (some (.int .i64 (p:Int))) none).run prog W = .ok (.slice a p c) W:=by
 have b:prog.underlying 61=some (.slice (prog.elem 61)):=by kernel_rfl
 rw[run_sliceAt_slice _ _ _ _ _ _ b,run_slice_h _ _ _ _ _ b .i64 (p:Int) (by omega) (by omega),eQ];simp[Result.andThen,sliced,Addr.add]
theorem lS(a:Option Addr)(n c p:Nat)(h:p<=n)(W:World):(Instr.sliceAt 61 (.slice a n c) (some (.int .i64 (p:Int))) none none).run prog W = .ok (.slice (if c=p then a else a.map λx=>x.add (p*2)) (n-p) (c-p)) W:=by
 have b:prog.underlying 61=some (.slice (prog.elem 61)):=by kernel_rfl
 rw[run_sliceAt_slice _ _ _ _ _ _ b,run_slice_l _ _ _ _ _ b .i64 (p:Int) (by omega) (by omega),eQ];simp[Result.andThen,sliced]
def yh(L:List zl)(name:BA)(a:List zD):List zl:=L.take (qy L name)++[(name,a)]++L.drop (if zu L name then qy L name+1 else qy L name)
theorem tu(s:BA)(w:World)(f:s.size<=281474976710656) :
  Calls prog 40 #[.string s] w λe b=>e = .returned (.string s)/\Below w.heap.size w b:=by
 have c:Calls prog 71 #[.string s] w λe b=>e = .returned (.string s)/\Below w.heap.size w b:=AnyPu.stringslite_Clone Tryz.laysPu25 s w f;have C:=hid c;clear c;go_enter func40,ntmps40
 go_wp2_with (go_at_call 71;refine C.out.mono ?_;rintro e g ⟨rfl,d⟩;have a:=hid d;clear d)
 go_ret;exact⟨rfl,a.out⟩
theorem RH(L:List zl)(lv:Value)(name:BA)(d:Option Addr)(g f:Nat)(ss:List zD)(M:Nat->Prop)(w:World)(h:xD M w lv L)(hn:L.length<=100)(hd:Down L name)(hM:∀b,M b->b<w.heap.size)(hD:xP M w (.slice d g f) ss)(hs:name.size<=281474976710656) :
  Calls prog 20 #[lv,.string name,.agg #[.slice d g f]] w λe R=>∃v,e = .returned (.tuple #[v,.bool (zu L name||decide (L.length<4))])/\Below w.heap.size w R/\((zu L name||decide (L.length<4))=true->xD M R v (yh L name ss)):=by
 obtain⟨W0,a3⟩:=Nm (w.alloc (.cells #[.slice d g f] 68));have a1:Below w.heap.size w W0:=by rw[<- a3];exact nB w _
 have k0:W0.cell? ⟨w.heap.size,0,none⟩=some (.slice d g f):=by rw[<- a3];exact (za (heap_alloc_new w (.cells #[.slice d g f] 68)) 0).1
 have cf:=BS L lv name M W0 (h.turn (zA.of a1)) (by omega) hd;have P:=λe=>Jv (L:=L) (name:=name) e;have a6:=U3 L name;obtain⟨xs,d3,c8⟩:=h.flat;obtain⟨a,c,rfl,A,h2,h4,_⟩:=id h;unfold yh;obtain⟨p,hp⟩:=Nm (qy L name);obtain⟨b,t⟩:=Nm (zu L name);rw[hp,t] at cf P |-;rw[hp] at a6;have c4:=λW=>tu name W hs;have K:=hid c4;have CF:=hid cf;have b4:=hid (d3.below a1);have Z:=hid c8;have HM:=hid hM;have c2:=hid hD;have N:=hid a1;have b0:=hid a3;obtain⟨n,b6⟩:=Nm L.length;rw[b6] at A hn P CF b4 a6 |-;have HN:=hid b6;unfold maxLen at h2;clear cf d3 c8 hM hp t h b6 h4 hd hD c4 a1 a3
 by_cases hfull:b=false/\4<=n
 ·obtain⟨rfl,g3⟩:=hfull;have d1:decide ((4:Int)<=(n:Int))=true:=by simp;omega
  have d2:decide (n<4)=false:=by simp;omega
  rw[d2];go_enter func20,ntmps20
  go_upto_region 1 with fail
  rw[b0.out]
  go_wp2_with (go_at_call 39;refine CF.out.mono ?_;rintro e i ⟨rfl,C⟩;have y:=hid (N.out.trans (C.mono N.out.size));clear C)
  go_ret2;exact⟨⟨_,rfl⟩,y.out⟩
 ·have b7:(b||decide (n<4))=true:=by cases b<;>simp at hfull |-;omega
  rw[b7];obtain⟨q,hq⟩:=Nm ((if b=true then p+1 else p))
  have e1:q<=n:=by rw[<- hq];cases b with
   | true=>have:=P rfl;simp;omega
   | false=>simp;omega
  have s1:=NQ a n c p (by omega);have s2:=lS a n c p (by omega);have a0:=hid (b4.out.take (p:=p) (by omega));have O:=hid (b4.out.drop (p:=q) e1);have y6:IntKind.i64.wrap ((p:Int)+1)=(p:Int)+1:=by rw[IntKind.wrap_i64];omega
  have y7:wrap64 ((p:Int)+1)=(p:Int)+1:=by unfold wrap64;omega
  have f9:w.heap.size<W0.heap.size:=World.block_lt_of_cell? _ _ k0
  cases b with
  | true=>
   have s3:∀W,(Instr.sliceAt 61 (.slice a n c) (some (.int .i64 ((p:Int)+1))) none none).run prog W = .ok (.slice (if c=p+1 then a else a.map λx=>x.add ((p+1)*2)) (n-(p+1)) (c-(p+1))) W:=lS a n c (p+1) (P rfl)
   have Y:q=p+1:=by rw[<- hq];rfl
   have V:L.drop (if (true=true) then p+1 else p)=L.drop q:=by rw[Y];rfl
   rw[V];clear V hq P hfull b7;subst Y;obtain⟨H,E⟩:∃x,(if c=p+1 then a else a.map λx=>x.add ((p+1)*2))=x:=⟨_,rfl⟩
   obtain⟨J,G⟩:∃x,n-(p+1)=x:=⟨_,rfl⟩;obtain⟨I,F⟩:∃x,c-(p+1)=x:=⟨_,rfl⟩;rw[E,G,F] at O;simp only[E,G,F] at s3;obtain⟨xa,d0⟩:∃x,(if c=p then a else a.map λx=>x.add (p*2))=x:=⟨_,rfl⟩
   simp only[d0] at s2;clear d0;clear E F;go_enter func20,ntmps20
   go_upto_region 1 with fail
   rw[b0.out]
   go_upto_region 7 with (go_at_call 39;refine CF.out.mono ?_;rintro e i ⟨rfl,C⟩;have y:=hid C;clear C)
   have l0:=zb y.out k0
   go_cut [11] (λv wx=>∃Q,v = .pointer (some ⟨Q,0,none⟩)/\wx.cell? ⟨Q,0,none⟩=some (.string name)/\wx.cell? ⟨Q,1,none⟩=some (.slice d g f)/\Below i.heap.size i wx)
   case first=>
    have bZ:Hid (Below i.heap.size i (i.alloc (.cells #[.string ⟨#[]⟩,.slice none 0 0] 123)).drew):=(nB i _).drew;have lZ:=zb bZ.out l0;have nn:=World.new_ne i _ l0
    go_region_held3 (λR=>R.cell? ⟨w.heap.size,0,none⟩=some (.slice d g f)) (go_keep) (first
     | ((go_at_call 40);refine (K.out i.drew).mono ?_;rintro e B ⟨rfl,s⟩;have m0:=zb s l0;have z:Hid (Below i.heap.size i B):=(((Below.refl _ i).drew).trans s);clear s)
     | ((go_at_call 40);refine (K.out (i.alloc (.cells #[.string ⟨#[]⟩,.slice none 0 0] 123)).drew).mono ?_;rintro e B ⟨rfl,s⟩;have m0:=zb s lZ;have o:Hid (B.heap[i.heap.size]?=some (.cells #[.string ⟨#[]⟩,.slice none 0 0] 123)):=((s.block i.heap.size (by simp)).trans (heap_alloc_new i (.cells #[.string ⟨#[]⟩,.slice none 0 0] 123)));have z0:=(za o.out 0).1;have z1:=(za o.out 1).1;have f0:=(za o.out 0).2;have f1:=(za o.out 1).2;have z:Hid (Below i.heap.size i B):=(bZ.out.trans (s.mono bZ.out.size));clear s))
    ·go_wp2_with fail
     go_meet
     case rel=>exact⟨B.heap.size,rfl,(za (heap_alloc_new B (.cells #[.string name,.slice d g f] 123)) 0).1,(za (heap_alloc_new B (.cells #[.string name,.slice d g f] 123)) 1).1,z.out.alloc z.out.size _⟩
    ·have A:=heap_setCell_same B i.heap.size 0 _ _ (.string name) o.out;have h2:=heap_setCell_same _ i.heap.size 1 _ _ (.slice d g f) A;have a8:=hid (za h2 0).1;have a9:=hid (za h2 1).1;clear A h2;go_wp2_with fail
     go_meet
     case rel=>exact⟨i.heap.size,rfl,a8.out,a9.out,(z.out.setCell (Nat.le_refl _) _).setCell (Nat.le_refl _) _⟩
   case rest=>
    obtain⟨Q,rfl,c0,c1,U⟩:=hcut;have m:=hid (y.out.trans (U.mono y.out.size));have C:Below wc.heap.size wc (wc.alloc (.cells #[.string name,.slice d g f] 123)):=nB wc _;have T:Below wc.heap.size wc ((wc.alloc (.cells #[.string name,.slice d g f] 123)).alloc (.cells #[.slice a p c,.slice (some ⟨wc.heap.size,0,none⟩) 1 1,.slice H J I] 61)).drew:=(C.alloc C.size _).drew;have hX:(wc.alloc (.cells #[.string name,.slice d g f] 123)).heap.size=wc.heap.size+1:=by simp
    have tk:=(a0.out.below m.out).below T;have dr:=(O.out.below m.out).below T
    have one:vR ((wc.alloc (.cells #[.string name,.slice d g f] 123)).alloc (.cells #[.slice a p c,.slice (some ⟨wc.heap.size,0,none⟩) 1 1,.slice H J I] 61)).drew (.slice (some ⟨wc.heap.size,0,none⟩) 1 1) [.string name,.slice d g f]:=by
     refine⟨some ⟨wc.heap.size,0,none⟩,1,1,rfl,rfl,Nat.le_refl _,by decide,(λe=>by cases e),(λu hu=>by simp at hu;rcases hu with rfl|rfl<;>rfl),λj u hu=>⟨wc.heap.size,0,rfl,?_⟩⟩
     have A:=(za (heap_alloc_new wc (.cells #[.string name,.slice d g f] 123)) j).1;have s:Below (wc.alloc (.cells #[.string name,.slice d g f] 123)).heap.size (wc.alloc (.cells #[.string name,.slice d g f] 123)) ((wc.alloc (.cells #[.string name,.slice d g f] 123)).alloc (.cells #[.slice a p c,.slice (some ⟨wc.heap.size,0,none⟩) 1 1,.slice H J I] 61)).drew:=((Below.refl _ (wc.alloc (.cells #[.string name,.slice d g f] 123))).alloc (Nat.le_refl _) _).drew;refine zb s ?_;rw[Nat.zero_add,A,<- hu]
     simp
    have cc:=bz [.slice a p c,.slice (some ⟨wc.heap.size,0,none⟩) 1 1,.slice H J I] [xs.take (p*2),[.string name,.slice d g f],xs.drop ((p+1)*2)] (wc.heap.size+1) ((wc.alloc (.cells #[.string name,.slice d g f] 123)).alloc (.cells #[.slice a p c,.slice (some ⟨wc.heap.size,0,none⟩) 1 1,.slice H J I] 61)).drew rfl
     (λk v l=>by
       have A:=(za (heap_alloc_new (wc.alloc (.cells #[.string name,.slice d g f] 123)) (.cells #[.slice a p c,.slice (some ⟨wc.heap.size,0,none⟩) 1 1,.slice H J I] 61)) k).1;rw[hX] at A;show ((wc.alloc (.cells #[.string name,.slice d g f] 123)).alloc (.cells #[.slice a p c,.slice (some ⟨wc.heap.size,0,none⟩) 1 1,.slice H J I] 61)).cell? ⟨wc.heap.size+1,k,none⟩=some v;rw[A,<- l]
       simp)
     (λk v ys l r=>by
       match k,l,r with
       | 0,l,r=>
        simp only[List.getElem?_cons_zero,Option.some.injEq] at l r;subst l r;exact tk
       | 1,l,r=>
        simp only[List.getElem?_cons_succ,List.getElem?_cons_zero,Option.some.injEq] at l r;subst l r;exact one
       | 2,l,r=>
        simp only[List.getElem?_cons_succ,List.getElem?_cons_zero,Option.some.injEq] at l r;subst l r;exact dr
       | k+3,l,r=>simp at l)
     (by simp) (by
       show 0+(xs.take (p*2)).length / 2+2 / 2+(xs.drop ((p+1)*2)).length / 2<=1000
       have:=Z.out.1
       rw[HN.out] at this;rw[List.length_take,List.length_drop,this];omega)
    have CC:=hid cc;have D:=hid (N.out.trans ((m.out.trans (T.mono m.out.size)).mono N.out.size));have S:=hid T;clear cc C T hX tk dr one U a0 O CF K m G l0
    go_upto_region 8 with fail
    go_region_held3 (λR=>R.cell? ⟨Q,0,none⟩=some (.string name)/\R.cell? ⟨Q,1,none⟩=some (.slice d g f)) (go_keep) (first|((go_at_call 41);refine CC.out.mono ?_;rintro e w5 ⟨v,rfl,ho,t⟩;have HO:=hid ho;have a7:=hid t;have g0:=zb t (zb S.out c0);have g1:=zb t (zb S.out c1);clear ho t))
    go_wp2_with fail;go_ret2;have t:=D.out.trans (a7.out.mono D.out.size);refine⟨v,rfl,t,λ_=>?_⟩;have X:=Z.out.turn (zA.of (M:=M) t);exact fA HO.out (((X.take p).app (xQ.one (x:=(name,ss)) (c2.out.turn (zA.of t)))).app (X.drop (p+1))) (λb hm=>by have:=HM.out b hm;have:=D.out.size;omega)
  | false=>
   have Y:p=q:=by rw[<- hq];rfl
   have V:L.drop (if (false=true) then p+1 else p)=L.drop q:=by rw[<- Y];rfl
   have d1:decide ((4:Int)<=(n:Int))=false:=by simp at hfull |-;omega
   rw[V];clear V hq P hfull b7;subst Y;obtain⟨H,E⟩:∃x,(if c=p then a else a.map λx=>x.add ((p)*2))=x:=⟨_,rfl⟩
   obtain⟨J,G⟩:∃x,n-(p)=x:=⟨_,rfl⟩;obtain⟨I,F⟩:∃x,c-(p)=x:=⟨_,rfl⟩;rw[E,G,F] at O;simp only[E,G,F] at s2;clear E F;go_enter func20,ntmps20
   go_upto_region 1 with fail
   rw[b0.out]
   go_upto_region 7 with (go_at_call 39;refine CF.out.mono ?_;rintro e i ⟨rfl,C⟩;have y:=hid C;clear C)
   have l0:=zb y.out k0
   go_cut [11] (λv wx=>∃Q,v = .pointer (some ⟨Q,0,none⟩)/\wx.cell? ⟨Q,0,none⟩=some (.string name)/\wx.cell? ⟨Q,1,none⟩=some (.slice d g f)/\Below i.heap.size i wx)
   case first=>
    have bZ:Hid (Below i.heap.size i (i.alloc (.cells #[.string ⟨#[]⟩,.slice none 0 0] 123)).drew):=(nB i _).drew;have lZ:=zb bZ.out l0;have nn:=World.new_ne i _ l0
    go_region_held3 (λR=>R.cell? ⟨w.heap.size,0,none⟩=some (.slice d g f)) (go_keep) (first
     | ((go_at_call 40);refine (K.out i.drew).mono ?_;rintro e B ⟨rfl,s⟩;have m0:=zb s l0;have z:Hid (Below i.heap.size i B):=(((Below.refl _ i).drew).trans s);clear s)
     | ((go_at_call 40);refine (K.out (i.alloc (.cells #[.string ⟨#[]⟩,.slice none 0 0] 123)).drew).mono ?_;rintro e B ⟨rfl,s⟩;have m0:=zb s lZ;have o:Hid (B.heap[i.heap.size]?=some (.cells #[.string ⟨#[]⟩,.slice none 0 0] 123)):=((s.block i.heap.size (by simp)).trans (heap_alloc_new i (.cells #[.string ⟨#[]⟩,.slice none 0 0] 123)));have z0:=(za o.out 0).1;have z1:=(za o.out 1).1;have f0:=(za o.out 0).2;have f1:=(za o.out 1).2;have z:Hid (Below i.heap.size i B):=(bZ.out.trans (s.mono bZ.out.size));clear s))
    ·go_wp2_with fail
     go_meet
     case rel=>exact⟨B.heap.size,rfl,(za (heap_alloc_new B (.cells #[.string name,.slice d g f] 123)) 0).1,(za (heap_alloc_new B (.cells #[.string name,.slice d g f] 123)) 1).1,z.out.alloc z.out.size _⟩
    ·have A:=heap_setCell_same B i.heap.size 0 _ _ (.string name) o.out;have h2:=heap_setCell_same _ i.heap.size 1 _ _ (.slice d g f) A;have a8:=hid (za h2 0).1;have a9:=hid (za h2 1).1;clear A h2;go_wp2_with fail
     go_meet
     case rel=>exact⟨i.heap.size,rfl,a8.out,a9.out,(z.out.setCell (Nat.le_refl _) _).setCell (Nat.le_refl _) _⟩
   case rest=>
    obtain⟨Q,rfl,c0,c1,U⟩:=hcut;have m:=hid (y.out.trans (U.mono y.out.size));have C:Below wc.heap.size wc (wc.alloc (.cells #[.string name,.slice d g f] 123)):=nB wc _;have T:Below wc.heap.size wc ((wc.alloc (.cells #[.string name,.slice d g f] 123)).alloc (.cells #[.slice a p c,.slice (some ⟨wc.heap.size,0,none⟩) 1 1,.slice H J I] 61)).drew:=(C.alloc C.size _).drew;have hX:(wc.alloc (.cells #[.string name,.slice d g f] 123)).heap.size=wc.heap.size+1:=by simp
    have tk:=(a0.out.below m.out).below T;have dr:=(O.out.below m.out).below T
    have one:vR ((wc.alloc (.cells #[.string name,.slice d g f] 123)).alloc (.cells #[.slice a p c,.slice (some ⟨wc.heap.size,0,none⟩) 1 1,.slice H J I] 61)).drew (.slice (some ⟨wc.heap.size,0,none⟩) 1 1) [.string name,.slice d g f]:=by
     refine⟨some ⟨wc.heap.size,0,none⟩,1,1,rfl,rfl,Nat.le_refl _,by decide,(λe=>by cases e),(λu hu=>by simp at hu;rcases hu with rfl|rfl<;>rfl),λj u hu=>⟨wc.heap.size,0,rfl,?_⟩⟩
     have A:=(za (heap_alloc_new wc (.cells #[.string name,.slice d g f] 123)) j).1;have s:Below (wc.alloc (.cells #[.string name,.slice d g f] 123)).heap.size (wc.alloc (.cells #[.string name,.slice d g f] 123)) ((wc.alloc (.cells #[.string name,.slice d g f] 123)).alloc (.cells #[.slice a p c,.slice (some ⟨wc.heap.size,0,none⟩) 1 1,.slice H J I] 61)).drew:=((Below.refl _ (wc.alloc (.cells #[.string name,.slice d g f] 123))).alloc (Nat.le_refl _) _).drew;refine zb s ?_;rw[Nat.zero_add,A,<- hu]
     simp
    have cc:=bz [.slice a p c,.slice (some ⟨wc.heap.size,0,none⟩) 1 1,.slice H J I] [xs.take (p*2),[.string name,.slice d g f],xs.drop ((p)*2)] (wc.heap.size+1) ((wc.alloc (.cells #[.string name,.slice d g f] 123)).alloc (.cells #[.slice a p c,.slice (some ⟨wc.heap.size,0,none⟩) 1 1,.slice H J I] 61)).drew rfl
     (λk v l=>by
       have A:=(za (heap_alloc_new (wc.alloc (.cells #[.string name,.slice d g f] 123)) (.cells #[.slice a p c,.slice (some ⟨wc.heap.size,0,none⟩) 1 1,.slice H J I] 61)) k).1;rw[hX] at A;show ((wc.alloc (.cells #[.string name,.slice d g f] 123)).alloc (.cells #[.slice a p c,.slice (some ⟨wc.heap.size,0,none⟩) 1 1,.slice H J I] 61)).cell? ⟨wc.heap.size+1,k,none⟩=some v;rw[A,<- l]
       simp)
     (λk v ys l r=>by
       match k,l,r with
       | 0,l,r=>
        simp only[List.getElem?_cons_zero,Option.some.injEq] at l r;subst l r;exact tk
       | 1,l,r=>
        simp only[List.getElem?_cons_succ,List.getElem?_cons_zero,Option.some.injEq] at l r;subst l r;exact one
       | 2,l,r=>
        simp only[List.getElem?_cons_succ,List.getElem?_cons_zero,Option.some.injEq] at l r;subst l r;exact dr
       | k+3,l,r=>simp at l)
     (by simp) (by
       show 0+(xs.take (p*2)).length / 2+2 / 2+(xs.drop ((p)*2)).length / 2<=1000
       have:=Z.out.1
       rw[HN.out] at this;rw[List.length_take,List.length_drop,this];omega)
    have CC:=hid cc;have D:=hid (N.out.trans ((m.out.trans (T.mono m.out.size)).mono N.out.size));have S:=hid T;clear cc C T hX tk dr one U a0 O CF K m G l0
    go_upto_region 8 with fail
    go_region_held3 (λR=>R.cell? ⟨Q,0,none⟩=some (.string name)/\R.cell? ⟨Q,1,none⟩=some (.slice d g f)) (go_keep) (first|((go_at_call 41);refine CC.out.mono ?_;rintro e w5 ⟨v,rfl,ho,t⟩;have HO:=hid ho;have a7:=hid t;have g0:=zb t (zb S.out c0);have g1:=zb t (zb S.out c1);clear ho t))
    go_wp2_with fail;go_ret2;have t:=D.out.trans (a7.out.mono D.out.size);refine⟨v,rfl,t,λ_=>?_⟩;have X:=Z.out.turn (zA.of (M:=M) t);exact fA HO.out (((X.take p).app (xQ.one (x:=(name,ss)) (c2.out.turn (zA.of t)))).app (X.drop (p))) (λb hm=>by have:=HM.out b hm;have:=D.out.size;omega)
def Qq(l:Int):Bool:=decide (0<=l)&&decide (l<4)
def kQ(l:Int)(name:BA):Int:=if Qq l then (if Ref.zM name then 0 else 8) else 7
theorem Em(l:Int)(w:World) :
  Calls prog 28 #[.int .i64 l] w λe a=>e = .returned (.bool (Qq l))/\a=w:=by
 unfold Qq
 by_cases h:0<=l
 ·have d:decide (0<=l)=true:=by simp[h]
  go_enter func28,ntmps28
  go_wp2
  go_ret;exact⟨by rw[d];rfl,rfl⟩
 ·have d:decide (0<=l)=false:=by simp;omega
  go_enter func28,ntmps28
  go_wp2
  go_ret;exact⟨rfl,rfl⟩
theorem Lx(l:Int)(name:BA)(w:World)(m:name.size<=maxLen) :
  Calls prog 17 #[.int .i64 l,.string name] w λe n=>e = .returned (.int .i64 (kQ l name))/\Below w.heap.size w n:=by
 have c1:=λW=>Em l W;have c2:=λW=>JC name W m;have d:kQ l name=if Qq l then (if Ref.zM name then 0 else 8) else 7:=rfl
 obtain⟨a,f⟩:∃x,Qq l=x:=⟨_,rfl⟩;obtain⟨b,g⟩:∃x,Ref.zM name=x:=⟨_,rfl⟩;rw[f,g] at d;simp only[f] at c1;simp only[g] at c2;rw[d];have j:=hid c1;have k:=hid c2;clear c1 c2 d f g
 cases a<;>cases b
 all_goals
  go_enter func17,ntmps17
  go_wp2_with (first
   | (go_at_call 29;refine (k.out w).mono ?_;rintro e p ⟨rfl,h⟩;have c:=hid h;clear h)
   | (go_at_call 28;refine (j.out w).mono ?_;rintro e o ⟨rfl,i⟩;rw[i];clear i))
  go_ret
  first
   | exact⟨rfl,c.out⟩
   | exact⟨rfl,Below.refl _ _⟩
theorem aR:∀(a b c:List UInt8),Lib.compareBytes a b<0->Lib.compareBytes b c<0->Lib.compareBytes a c<0
 | [],[],_,h,_=>by simp[Lib.compareBytes] at h
 | [],_::_,[],_,h=>by simp[Lib.compareBytes] at h
 | [],_::_,_::_,_,_=>by simp[Lib.compareBytes]
 | _::_,[],_,h,_=>by simp[Lib.compareBytes] at h
 | _::_,_::_,[],_,h=>by simp[Lib.compareBytes] at h
 | x::a,y::b,z::c,h,g=>by
  unfold Lib.compareBytes at h g |-
  by_cases c1:x<y
  ·by_cases c2:y<z
   ·rw[if_pos (UInt8.lt_trans c1 c2)];decide
   ·rw[if_neg c2] at g
    by_cases c3:z<y
    ·rw[if_pos c3] at g;omega
    ·have e:y=z:=UInt8.le_antisymm (UInt8.not_lt.1 c3) (UInt8.not_lt.1 c2);subst e;rw[if_pos c1];decide
  ·rw[if_neg c1] at h
   by_cases c2:y<x
   ·rw[if_pos c2] at h;omega
   ·rw[if_neg c2] at h;have e:x=y:=UInt8.le_antisymm (UInt8.not_lt.1 c2) (UInt8.not_lt.1 c1);subst e
    by_cases c3:x<z
    ·rw[if_pos c3];decide
    ·rw[if_neg c3] at g |-
     by_cases c4:z<x
     ·rw[if_pos c4] at g;omega
     ·rw[if_neg c4] at g |-;exact aR a b c h g
theorem aU:∀(a b:List UInt8),Lib.compareBytes a b=0->a=b
 | [],[],_=>rfl
 | [],_::_,h=>by simp[Lib.compareBytes] at h
 | _::_,[],h=>by simp[Lib.compareBytes] at h
 | x::a,y::b,h=>by
  unfold Lib.compareBytes at h
  by_cases c1:x<y
  ·rw[if_pos c1] at h;omega
  ·rw[if_neg c1] at h
   by_cases c2:y<x
   ·rw[if_pos c2] at h;omega
   ·rw[if_neg c2] at h;have e:x=y:=UInt8.le_antisymm (UInt8.not_lt.1 c2) (UInt8.not_lt.1 c1);rw[e,aU a b h]
theorem aQ:∀(a:List UInt8),Lib.compareBytes a a=0
 | []=>rfl
 | x::a=>by
  unfold Lib.compareBytes;rw[if_neg (UInt8.lt_irrefl x),if_neg (UInt8.lt_irrefl x)];exact aQ a
theorem aP:∀(a b:List UInt8),Lib.compareBytes a b = -Lib.compareBytes b a
 | [],[]=>rfl
 | [],_::_=>rfl
 | _::_,[]=>rfl
 | x::a,y::b=>by
  unfold Lib.compareBytes
  by_cases c1:x<y
  ·rw[if_pos c1,if_neg (UInt8.not_lt.2 (UInt8.le_of_lt c1)),if_pos c1]
  ·rw[if_neg c1]
   by_cases c2:y<x
   ·rw[if_pos c2,if_pos c2];rfl
   ·rw[if_neg c2,if_neg c2,if_neg c1];exact aP a b
theorem Yo{a b c:BA}(h:qx a b<0)(g:qx b c<0):qx a c<0:=aR _ _ _ h g
theorem V5{a b:BA}(h:qx a b=0):a=b:=by
 have:=aU _ _ h
 exact ByteArray.ext (Array.toList_inj.1 this)
theorem Ql(a:BA):qx a a=0:=aQ _
theorem V4(a b:BA):qx a b = -qx b a:=aP _ _
def yC(L:List zl):Prop:=L.Pairwise λx y=>qx x.1 y.1<0
theorem yC.at{L:List zl}(h:yC L){a b:Nat}{x y:zl}(c:a<b)(f:L[a]?=some x)(g:L[b]?=some y):qx x.1 y.1<0:=by
 obtain⟨d,rfl⟩:=List.getElem?_eq_some_iff.1 f;obtain⟨e,rfl⟩:=List.getElem?_eq_some_iff.1 g;exact List.pairwise_iff_getElem.1 h a b d e c
theorem yC.down{L:List zl}(h:yC L)(name:BA):Down L name:=by
 intro a b x y c e f d;unfold ltN at d |-;rw[decide_eq_true_eq] at d |-;exact Yo (h.at c e f) d
theorem fQ{α:Type}{p:α->Bool}:∀{l:List α} {x:α},x ∈ l.takeWhile p->p x=true
 | [],_,h=>by simp at h
 | a::l,x,h=>by
  rw[List.takeWhile_cons] at h
  split at h
  ·rename_i b
   rcases List.mem_cons.1 h with rfl|h
   ·exact b
   ·exact fQ h
  ·simp at h
theorem VB{L:List zl}{name:BA}{x:zl}(a:x ∈ L.take (qy L name)):qx x.1 name<0:=by
 have:L.take (qy L name)=L.takeWhile (ltN name):=by
  unfold qy;exact (List.prefix_iff_eq_take.1 (List.takeWhile_prefix _)).symm
 rw[this] at a
 have:=fQ a
 unfold ltN at this
 rwa [decide_eq_true_eq] at this
theorem rM{L:List zl}{name:BA}{x:zl}(b:L[qy L name]?=some x):ltN name x=false:=by
 unfold qy at b
 have c:L.drop (L.takeWhile (ltN name)).length=L.dropWhile (ltN name):=by
  have:=List.takeWhile_append_dropWhile (p:=ltN name) (l:=L)
  have a:=congrArg (List.drop (L.takeWhile (ltN name)).length) this;rw[List.drop_left] at a;exact a.symm
 have d:(L.dropWhile (ltN name))[0]?=some x:=by rw[<- c,List.getElem?_drop];exact b
 have:=List.head?_dropWhile_not (ltN name) L
 rw[List.head?_eq_getElem?,d] at this
 simpa using this
theorem VG{L:List zl}(h:yC L){name:BA}{x:zl}(g:x ∈ L.drop (if zu L name then qy L name+1 else qy L name)):qx name x.1<0:=by
 obtain⟨k,a⟩:=List.getElem?_of_mem g;rw[List.getElem?_drop] at a
 have c:qy L name<L.length:=by
  have:=(List.getElem?_eq_some_iff.1 a).1
  split at this<;>omega
 obtain⟨y,b⟩:∃y,L[qy L name]?=some y:=⟨_,List.getElem?_eq_getElem c⟩;have d:=rM b;unfold ltN at d;rw[decide_eq_false_iff_not] at d
 cases hh:zu L name with
 | true=>
  rw[hh,if_pos rfl] at a
  have f:qx y.1 name=0:=by
   unfold zu at hh;rw[b] at hh
   simpa using hh
  rw[<- V5 f];exact h.at (by omega) b a
 | false=>
  rw[hh] at a;simp only[Bool.false_eq_true,if_false] at a
  have f:qx y.1 name≠0:=by
   intro e;unfold zu at hh;rw[b] at hh;simp[e] at hh
  have i:=bq y.1 name;have hy1:qx name y.1<0:=by rw[V4];omega
  by_cases hk0:k=0
  ·subst hk0;rw[Nat.add_zero,b] at a;injection a with a
   rw[<- a];exact hy1
  ·exact Yo hy1 (h.at (by omega) b a)
theorem yC.with{L:List zl}(h:yC L)(name:BA)(c:List zD):yC (yh L name c):=by
 unfold yh yC;rw[List.append_assoc,List.pairwise_append];refine⟨h.sublist (List.take_sublist _ _),?_,?_⟩
 ·rw[List.singleton_append,List.pairwise_cons];exact⟨λx a=>VG h a,h.sublist (List.drop_sublist _ _)⟩
 ·intro x a y b;rw[List.singleton_append] at b
  rcases List.mem_cons.1 b with rfl|b
  ·exact VB a
  ·exact Yo (VB a) (VG h b)
theorem RG{L:List zl}{name:BA}{b:List zD}(h:L.length<=4)(a:(zu L name||decide (L.length<4))=true):(yh L name b).length<=4:=by
 have c:=U3 L name;unfold yh;rw[List.length_append,List.length_append,List.length_take,List.length_drop,List.length_singleton]
 cases hh:zu L name with
 | true=>
  have:=Jv hh
  rw[if_pos rfl];omega
 | false=>
  rw[hh] at a;simp only[Bool.false_or,decide_eq_true_eq] at a;simp only[Bool.false_eq_true,if_false];omega
end Go.Proofs.YtdakgnaojakldabGreatDoor
