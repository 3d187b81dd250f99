/- P -/
import Derived.Test.YtagnlbgbnfnapaaGreatDoorZ34
open Go.Proofs.Tryz
set_option maxRecDepth 100000
set_option maxHeartbeats 4000000
namespace Go.Proofs.YtagnlbgbnfnapaaGreatDoor
open Go.RowKit
def Zf(L:List zu)(p:Nat):List zu:=L.take p++L.drop (p+1)
theorem JX{L:List zu}{name:BA}(h:zO L name=true):qI L name<L.length:=by
 unfold zO at h
 split at h
 ·rename_i x a;exact (xw.1 a).1
 ·cases h
theorem rW(W:World):(Go.sizeOf (prog.elem 78)).run prog W = .ok 2 W:=by
 obtain⟨d,hi,b,a,c⟩:=jl dL;have e:prog.elem 78=156:=by kernel_rfl
 rw[e];simp[Go.sizeOf,typeInfo,hi,a]
theorem Bt(a:Option Addr)(n c p:Nat)(h:p<=c)(W:World):(Instr.sliceAt 78 (.slice a n c) none (some (.int .i64 (p:Int))) none).run prog W = .ok (.slice a p c) W:=by
 have b:prog.underlying 78=some (.slice (prog.elem 78)):=by kernel_rfl
 rw[run_sliceAt_slice _ _ _ _ _ _ b,run_slice_h _ _ _ _ _ b .i64 (p:Int) (by omega) (by omega),rW];simp[Result.andThen,sliced,Addr.add]
theorem ik(a:Option Addr)(n c p:Nat)(h:p<=n)(W:World):(Instr.sliceAt 78 (.slice a n c) (some (.int .i64 (p:Int))) none none).run prog W = .ok (.slice (if c=p then a else a.map λx=>x.add (p*2)) (n-p) (c-p)) W:=by
 have b:prog.underlying 78=some (.slice (prog.elem 78)):=by kernel_rfl
 rw[run_sliceAt_slice _ _ _ _ _ _ b,run_slice_l _ _ _ _ _ b .i64 (p:Int) (by omega) (by omega),rW];simp[Result.andThen,sliced]
theorem za4(L:List zu)(N:Value)(name:BA)(M:Nat->Prop)(w:World)(h:xO M w N L)(hn:L.length<=100)(hd:Down L name)(Q:∀b,M b->b<w.heap.size) :
  Calls prog 31 #[N,.string name] w λe T=>∃v,e = .returned (.tuple #[v,.bool (zO L name)])/\Below w.heap.size w T/\(zO L name=true->xO M T v (Zf L (qI L name))):=by
 have J:=pq L N name M w h (by omega) hd;have i:=λe=>JX (L:=L) (name:=name) e;obtain⟨xs,B,A⟩:=h.flat;obtain⟨a,c,rfl,K,Z,h4,_⟩:=id h;obtain⟨p,S⟩:=Nm (qI L name);obtain⟨b,hb⟩:=Nm (zO L name);rw[S,hb] at J i |-;have F:=hid J;have o:=hid B;have u:=hid A;have V:=hid Q;obtain⟨n,q⟩:=Nm L.length;rw[q] at K hn i F o |-;have X:=hid q;clear J B A Q S hb h q h4 hd
 cases b with
 | false=>
  go_enter func31,ntmps31
  go_wp2_with (go_at_call 61;refine F.out.mono ?_;rintro e g ⟨rfl,y⟩;have d:=hid y;clear y)
  go_ret2;exact⟨_,rfl,d.out,λe=>by cases e⟩
 | true=>
  have a3:=i rfl;clear i;go_enter func31,ntmps31
  go_upto_region 4 with (go_at_call 61;refine F.out.mono ?_;rintro e g ⟨rfl,y⟩;have d:=hid y;clear y)
  clear F;have m:=hid (o.out.below d.out);unfold maxLen at Z;have y6:IntKind.i64.wrap ((p:Int)+1)=(p:Int)+1:=by rw[Jr];omega
  have y7:wrap64 ((p:Int)+1)=(p:Int)+1:=by unfold wrap64;omega
  have s1:=Bt a n c p (by omega);have s2:∀W,(Instr.sliceAt 78 (.slice a n c) (some (.int .i64 ((p:Int)+1))) none none).run prog W = .ok (.slice (if c=p+1 then a else a.map λx=>x.add ((p+1)*2)) (n-(p+1)) (c-(p+1))) W:=ik a n c (p+1) (by omega)
  have I:=hid (m.out.drop (p:=p+1) (by omega));have O:=hid (m.out.take (p:=p) (by omega));obtain⟨C,r⟩:∃x,(if c=p+1 then a else a.map λx=>x.add ((p+1)*2))=x:=⟨_,rfl⟩
  obtain⟨E,t⟩:∃x,n-(p+1)=x:=⟨_,rfl⟩;obtain⟨D,s⟩:∃x,c-(p+1)=x:=⟨_,rfl⟩;rw[r,t,s] at I;simp only[r,t,s] at s2;clear r s o m;have G:Below g.heap.size g (g.alloc (.cells #[.slice a p c,.slice C E D] 78)).drew:=(nB g _).drew
  have P:=bL [.slice a p c,.slice C E D] [xs.take (p*2),xs.drop ((p+1)*2)] g.heap.size (g.alloc (.cells #[.slice a p c,.slice C E D] 78)).drew rfl
   (λk v f=>by
     have K:=(zf (zL g (.cells #[.slice a p c,.slice C E D] 78)) k).1;show (g.alloc (.cells #[.slice a p c,.slice C E D] 78)).cell? ⟨g.heap.size,k,none⟩=some v;rw[K,<- f]
     simp)
   (λk v ys f j=>by
     match k,f,j with
     | 0,f,j=>
      simp only[kS,Option.some.injEq] at f j;subst f j;exact O.out.below G
     | 1,f,j=>
      simp only[Xx,kS,Option.some.injEq] at f j;subst f j;exact I.out.below G
     | k+2,f,j=>simp at f)
   (by simp) (by
     show 0+(xs.take (p*2)).length / 2+(xs.drop ((p+1)*2)).length / 2<=1000
     have:=u.out.1
     rw[X.out] at this;rw[xE,Zu,this];omega)
  have U:=hid P;have l:=hid (d.out.trans (G.mono d.out.size));clear P G O I t
  go_region_held3 (λ_=>True) (trivial) (first|((go_at_call 63);refine U.out.mono ?_;rintro e w3 ⟨v,rfl,R,hb⟩;have Y:=hid R;have H:=hid hb;clear R hb))
  go_wp2_with fail;go_ret2;have hb:=l.out.trans (H.out.mono l.out.size);refine⟨v,rfl,hb,λ_=>?_⟩;have z:=u.out.turn (zC.of (M:=M) hb);exact fH Y.out ((z.take p).app (z.drop (p+1))) (λb hm=>by have:=V.out b hm;have:=l.out.size;omega)
def jg(L:List zu)(name:BA)(a:List zT):List zu:=L.take (qI L name)++[(name,a)]++L.drop (if zO L name then qI L name+1 else qI L name)
theorem Fh(s:BA)(w:World)(f:s.size<=281474976710656) :
  Calls prog 62 #[.string s] w λe b=>e = .returned (.string s)/\Below w.heap.size w b:=by
 have c:Calls prog 111 #[.string s] w λe b=>e = .returned (.string s)/\Below w.heap.size w b:=AnyPu.stringslite_Clone Tryz.laysPu25 s w f;have C:=hid c;clear c;go_enter func62,ntmps62
 go_wp2_with (go_at_call 111;refine C.out.mono ?_;rintro e g ⟨rfl,d⟩;have a:=hid d;clear d)
 go_ret;exact⟨rfl,a.out⟩
theorem za3(L:List zu)(lv:Value)(name:BA)(d:Option Addr)(g f:Nat)(ss:List zT)(M:Nat->Prop)(w:World)(h:xO M w lv L)(hn:L.length<=100)(hd:Down L name)(hM:∀b,M b->b<w.heap.size)(hD:yV M w (.slice d g f) ss)(hs:name.size<=281474976710656) :
  Calls prog 27 #[lv,.string name,.agg #[.slice d g f]] w λe Q=>∃v,e = .returned (.tuple #[v,.bool (zO L name||decide (L.length<4))])/\Below w.heap.size w Q/\((zO L name||decide (L.length<4))=true->xO M Q v (jg L name ss)):=by
 obtain⟨W0,a2⟩:=Nm (w.alloc (.cells #[.slice d g f] 84));have a0:Below w.heap.size w W0:=by rw[<- a2];exact nB w _
 have k0:W0.cell? ⟨w.heap.size,0,none⟩=some (.slice d g f):=by rw[<- a2];exact (zf (zL w (.cells #[.slice d g f] 84)) 0).1
 have cf:=pq L lv name M W0 (h.turn (zC.of a0)) (by omega) hd;have O:=λe=>JX (L:=L) (name:=name) e;have a5:=gN L name;obtain⟨xs,d0,c7⟩:=h.flat;obtain⟨a,c,rfl,z,h2,h4,_⟩:=id h;unfold jg;obtain⟨p,hp⟩:=Nm (qI L name);obtain⟨b,hb⟩:=Nm (zO L name);rw[hp,hb] at cf O |-;rw[hp] at a5;have c3:=λW=>Fh name W hs;have J:=hid c3;have CF:=hid cf;have b0:=hid (d0.below a0);have Y:=hid c7;have HM:=hid hM;have b9:=hid hD;have K:=hid a0;have a9:=hid a2;obtain⟨n,b5⟩:=Nm L.length;rw[b5] at z hn O CF b0 a5 |-;have HN:=hid b5;unfold maxLen at h2;clear cf d0 c7 hM hp hb h b5 h4 hd hD c3 a0 a2
 by_cases hfull:b=false/\4<=n
 ·obtain⟨rfl,g2⟩:=hfull;have d1:decide ((4:Int)<=(n:Int))=true:=by simp;omega
  have d2:decide (n<4)=false:=by simp;omega
  rw[d2];go_enter func27,ntmps27
  go_upto_region 1 with fail
  rw[a9.out]
  go_wp2_with (go_at_call 61;refine CF.out.mono ?_;rintro e i ⟨rfl,B⟩;have t:=hid (K.out.trans (B.mono K.out.size));clear B)
  go_ret2;exact⟨⟨_,rfl⟩,t.out⟩
 ·have b6:(b||decide (n<4))=true:=by cases b<;>simp at hfull |-;omega
  rw[b6];obtain⟨q,hq⟩:=Nm ((if b=true then p+1 else p))
  have e0:q<=n:=by rw[<- hq];cases b with
   | true=>have:=O rfl;simp;omega
   | false=>simp;omega
  have s1:=Bt a n c p (by omega);have s2:=ik a n c p (by omega);have Z:=hid (b0.out.take (p:=p) (by omega));have N:=hid (b0.out.drop (p:=q) e0);have y6:IntKind.i64.wrap ((p:Int)+1)=(p:Int)+1:=by rw[Jr];omega
  have y7:wrap64 ((p:Int)+1)=(p:Int)+1:=by unfold wrap64;omega
  have f8:w.heap.size<W0.heap.size:=kX _ _ k0
  cases b with
  | true=>
   have s3:∀W,(Instr.sliceAt 78 (.slice a n c) (some (.int .i64 ((p:Int)+1))) none none).run prog W = .ok (.slice (if c=p+1 then a else a.map λx=>x.add ((p+1)*2)) (n-(p+1)) (c-(p+1))) W:=ik a n c (p+1) (O rfl)
   have X:q=p+1:=by rw[<- hq];rfl
   have U:L.drop (if (true=true) then p+1 else p)=L.drop q:=by rw[X];rfl
   rw[U];clear U hq O hfull b6;subst X;obtain⟨G,D⟩:∃x,(if c=p+1 then a else a.map λx=>x.add ((p+1)*2))=x:=⟨_,rfl⟩
   obtain⟨I,F⟩:∃x,n-(p+1)=x:=⟨_,rfl⟩;obtain⟨H,E⟩:∃x,c-(p+1)=x:=⟨_,rfl⟩;rw[D,F,E] at N;simp only[D,F,E] at s3;obtain⟨xa,c9⟩:∃x,(if c=p then a else a.map λx=>x.add (p*2))=x:=⟨_,rfl⟩
   simp only[c9] at s2;clear c9;clear D E;go_enter func27,ntmps27
   go_upto_region 1 with fail
   rw[a9.out]
   go_upto_region 7 with (go_at_call 61;refine CF.out.mono ?_;rintro e i ⟨rfl,B⟩;have t:=hid B;clear B)
   have l0:=zh t.out k0
   go_cut [11] (λv wx=>∃P,v = .pointer (some ⟨P,0,none⟩)/\wx.cell? ⟨P,0,none⟩=some (.string name)/\wx.cell? ⟨P,1,none⟩=some (.slice d g f)/\Below i.heap.size i wx)
   case first=>
    have bZ:Hid (Below i.heap.size i (i.alloc (.cells #[.string ⟨#[]⟩,.slice none 0 0] 156)).drew):=(nB i _).drew;have lZ:=zh bZ.out l0;have nn:=World.new_ne i _ l0
    go_region_held3 (λQ=>Q.cell? ⟨w.heap.size,0,none⟩=some (.slice d g f)) (go_keep) (first
     | ((go_at_call 62);refine (J.out i.drew).mono ?_;rintro e A ⟨rfl,s⟩;have m0:=zh s l0;have y:Hid (Below i.heap.size i A):=(((zi _ i).drew).trans s);clear s)
     | ((go_at_call 62);refine (J.out (i.alloc (.cells #[.string ⟨#[]⟩,.slice none 0 0] 156)).drew).mono ?_;rintro e A ⟨rfl,s⟩;have m0:=zh s lZ;have o:Hid (A.heap[i.heap.size]?=some (.cells #[.string ⟨#[]⟩,.slice none 0 0] 156)):=((s.block i.heap.size (by simp)).trans (zL i (.cells #[.string ⟨#[]⟩,.slice none 0 0] 156)));have z0:=(zf o.out 0).1;have z1:=(zf o.out 1).1;have f0:=(zf o.out 0).2;have f1:=(zf o.out 1).2;have y:Hid (Below i.heap.size i A):=(bZ.out.trans (s.mono bZ.out.size));clear s))
    ·go_wp2_with fail
     go_meet
     case rel=>exact⟨A.heap.size,rfl,(zf (zL A (.cells #[.string name,.slice d g f] 156)) 0).1,(zf (zL A (.cells #[.string name,.slice d g f] 156)) 1).1,y.out.alloc y.out.size _⟩
    ·have z:=uC A i.heap.size 0 _ _ (.string name) o.out;have h2:=uC _ i.heap.size 1 _ _ (.slice d g f) z;have a7:=hid (zf h2 0).1;have a8:=hid (zf h2 1).1;clear z h2;go_wp2_with fail
     go_meet
     case rel=>exact⟨i.heap.size,rfl,a7.out,a8.out,(y.out.setCell (ze _) _).setCell (ze _) _⟩
   case rest=>
    obtain⟨P,rfl,c0,c1,T⟩:=hcut;have m:=hid (t.out.trans (T.mono t.out.size));have B:Below wc.heap.size wc (wc.alloc (.cells #[.string name,.slice d g f] 156)):=nB wc _;have S:Below wc.heap.size wc ((wc.alloc (.cells #[.string name,.slice d g f] 156)).alloc (.cells #[.slice a p c,.slice (some ⟨wc.heap.size,0,none⟩) 1 1,.slice G I H] 78)).drew:=(B.alloc B.size _).drew;have hX:(wc.alloc (.cells #[.string name,.slice d g f] 156)).heap.size=wc.heap.size+1:=by simp
    have tk:=(Z.out.below m.out).below S;have dr:=(N.out.below m.out).below S
    have one:Zt ((wc.alloc (.cells #[.string name,.slice d g f] 156)).alloc (.cells #[.slice a p c,.slice (some ⟨wc.heap.size,0,none⟩) 1 1,.slice G I H] 78)).drew (.slice (some ⟨wc.heap.size,0,none⟩) 1 1) [.string name,.slice d g f]:=by
     refine⟨some ⟨wc.heap.size,0,none⟩,1,1,rfl,rfl,ze _,by decide,(λe=>by cases e),(λu hu=>by simp at hu;rcases hu with rfl|rfl<;>rfl),λj u hu=>⟨wc.heap.size,0,rfl,?_⟩⟩
     have z:=(zf (zL wc (.cells #[.string name,.slice d g f] 156)) j).1;have s:Below (wc.alloc (.cells #[.string name,.slice d g f] 156)).heap.size (wc.alloc (.cells #[.string name,.slice d g f] 156)) ((wc.alloc (.cells #[.string name,.slice d g f] 156)).alloc (.cells #[.slice a p c,.slice (some ⟨wc.heap.size,0,none⟩) 1 1,.slice G I H] 78)).drew:=((zi _ (wc.alloc (.cells #[.string name,.slice d g f] 156))).alloc (ze _) _).drew;refine zh s ?_;rw[qM,z,<- hu]
     simp
    have cc:=bL [.slice a p c,.slice (some ⟨wc.heap.size,0,none⟩) 1 1,.slice G I H] [xs.take (p*2),[.string name,.slice d g f],xs.drop ((p+1)*2)] (wc.heap.size+1) ((wc.alloc (.cells #[.string name,.slice d g f] 156)).alloc (.cells #[.slice a p c,.slice (some ⟨wc.heap.size,0,none⟩) 1 1,.slice G I H] 78)).drew rfl
     (λk v l=>by
       have z:=(zf (zL (wc.alloc (.cells #[.string name,.slice d g f] 156)) (.cells #[.slice a p c,.slice (some ⟨wc.heap.size,0,none⟩) 1 1,.slice G I H] 78)) k).1;rw[hX] at z;show ((wc.alloc (.cells #[.string name,.slice d g f] 156)).alloc (.cells #[.slice a p c,.slice (some ⟨wc.heap.size,0,none⟩) 1 1,.slice G I H] 78)).cell? ⟨wc.heap.size+1,k,none⟩=some v;rw[z,<- l]
       simp)
     (λk v ys l r=>by
       match k,l,r with
       | 0,l,r=>
        simp only[kS,Option.some.injEq] at l r;subst l r;exact tk
       | 1,l,r=>
        simp only[Xx,kS,Option.some.injEq] at l r;subst l r;exact one
       | 2,l,r=>
        simp only[Xx,kS,Option.some.injEq] at l r;subst l r;exact dr
       | k+3,l,r=>simp at l)
     (by simp) (by
       show 0+(xs.take (p*2)).length / 2+2 / 2+(xs.drop ((p+1)*2)).length / 2<=1000
       have:=Y.out.1
       rw[HN.out] at this;rw[xE,Zu,this];omega)
    have CC:=hid cc;have C:=hid (K.out.trans ((m.out.trans (S.mono m.out.size)).mono K.out.size));have R:=hid S;clear cc B S hX tk dr one T Z N CF J m F l0
    go_upto_region 8 with fail
    go_region_held3 (λQ=>Q.cell? ⟨P,0,none⟩=some (.string name)/\Q.cell? ⟨P,1,none⟩=some (.slice d g f)) (go_keep) (first|((go_at_call 63);refine CC.out.mono ?_;rintro e w5 ⟨v,rfl,ho,hb⟩;have HO:=hid ho;have a6:=hid hb;have g0:=zh hb (zh R.out c0);have g1:=zh hb (zh R.out c1);clear ho hb))
    go_wp2_with fail;go_ret2;have hb:=C.out.trans (a6.out.mono C.out.size);refine⟨v,rfl,hb,λ_=>?_⟩;have V:=Y.out.turn (zC.of (M:=M) hb);exact fH HO.out (((V.take p).app (yY.one (x:=(name,ss)) (b9.out.turn (zC.of hb)))).app (V.drop (p+1))) (λb hm=>by have:=HM.out b hm;have:=C.out.size;omega)
  | false=>
   have X:p=q:=by rw[<- hq];rfl
   have U:L.drop (if (false=true) then p+1 else p)=L.drop q:=by rw[<- X];rfl
   have d1:decide ((4:Int)<=(n:Int))=false:=by simp at hfull |-;omega
   rw[U];clear U hq O hfull b6;subst X;obtain⟨G,D⟩:∃x,(if c=p then a else a.map λx=>x.add ((p)*2))=x:=⟨_,rfl⟩
   obtain⟨I,F⟩:∃x,n-(p)=x:=⟨_,rfl⟩;obtain⟨H,E⟩:∃x,c-(p)=x:=⟨_,rfl⟩;rw[D,F,E] at N;simp only[D,F,E] at s2;clear D E;go_enter func27,ntmps27
   go_upto_region 1 with fail
   rw[a9.out]
   go_upto_region 7 with (go_at_call 61;refine CF.out.mono ?_;rintro e i ⟨rfl,B⟩;have t:=hid B;clear B)
   have l0:=zh t.out k0
   go_cut [11] (λv wx=>∃P,v = .pointer (some ⟨P,0,none⟩)/\wx.cell? ⟨P,0,none⟩=some (.string name)/\wx.cell? ⟨P,1,none⟩=some (.slice d g f)/\Below i.heap.size i wx)
   case first=>
    have bZ:Hid (Below i.heap.size i (i.alloc (.cells #[.string ⟨#[]⟩,.slice none 0 0] 156)).drew):=(nB i _).drew;have lZ:=zh bZ.out l0;have nn:=World.new_ne i _ l0
    go_region_held3 (λQ=>Q.cell? ⟨w.heap.size,0,none⟩=some (.slice d g f)) (go_keep) (first
     | ((go_at_call 62);refine (J.out i.drew).mono ?_;rintro e A ⟨rfl,s⟩;have m0:=zh s l0;have y:Hid (Below i.heap.size i A):=(((zi _ i).drew).trans s);clear s)
     | ((go_at_call 62);refine (J.out (i.alloc (.cells #[.string ⟨#[]⟩,.slice none 0 0] 156)).drew).mono ?_;rintro e A ⟨rfl,s⟩;have m0:=zh s lZ;have o:Hid (A.heap[i.heap.size]?=some (.cells #[.string ⟨#[]⟩,.slice none 0 0] 156)):=((s.block i.heap.size (by simp)).trans (zL i (.cells #[.string ⟨#[]⟩,.slice none 0 0] 156)));have z0:=(zf o.out 0).1;have z1:=(zf o.out 1).1;have f0:=(zf o.out 0).2;have f1:=(zf o.out 1).2;have y:Hid (Below i.heap.size i A):=(bZ.out.trans (s.mono bZ.out.size));clear s))
    ·go_wp2_with fail
     go_meet
     case rel=>exact⟨A.heap.size,rfl,(zf (zL A (.cells #[.string name,.slice d g f] 156)) 0).1,(zf (zL A (.cells #[.string name,.slice d g f] 156)) 1).1,y.out.alloc y.out.size _⟩
    ·have z:=uC A i.heap.size 0 _ _ (.string name) o.out;have h2:=uC _ i.heap.size 1 _ _ (.slice d g f) z;have a7:=hid (zf h2 0).1;have a8:=hid (zf h2 1).1;clear z h2;go_wp2_with fail
     go_meet
     case rel=>exact⟨i.heap.size,rfl,a7.out,a8.out,(y.out.setCell (ze _) _).setCell (ze _) _⟩
   case rest=>
    obtain⟨P,rfl,c0,c1,T⟩:=hcut;have m:=hid (t.out.trans (T.mono t.out.size));have B:Below wc.heap.size wc (wc.alloc (.cells #[.string name,.slice d g f] 156)):=nB wc _;have S:Below wc.heap.size wc ((wc.alloc (.cells #[.string name,.slice d g f] 156)).alloc (.cells #[.slice a p c,.slice (some ⟨wc.heap.size,0,none⟩) 1 1,.slice G I H] 78)).drew:=(B.alloc B.size _).drew;have hX:(wc.alloc (.cells #[.string name,.slice d g f] 156)).heap.size=wc.heap.size+1:=by simp
    have tk:=(Z.out.below m.out).below S;have dr:=(N.out.below m.out).below S
    have one:Zt ((wc.alloc (.cells #[.string name,.slice d g f] 156)).alloc (.cells #[.slice a p c,.slice (some ⟨wc.heap.size,0,none⟩) 1 1,.slice G I H] 78)).drew (.slice (some ⟨wc.heap.size,0,none⟩) 1 1) [.string name,.slice d g f]:=by
     refine⟨some ⟨wc.heap.size,0,none⟩,1,1,rfl,rfl,ze _,by decide,(λe=>by cases e),(λu hu=>by simp at hu;rcases hu with rfl|rfl<;>rfl),λj u hu=>⟨wc.heap.size,0,rfl,?_⟩⟩
     have z:=(zf (zL wc (.cells #[.string name,.slice d g f] 156)) j).1;have s:Below (wc.alloc (.cells #[.string name,.slice d g f] 156)).heap.size (wc.alloc (.cells #[.string name,.slice d g f] 156)) ((wc.alloc (.cells #[.string name,.slice d g f] 156)).alloc (.cells #[.slice a p c,.slice (some ⟨wc.heap.size,0,none⟩) 1 1,.slice G I H] 78)).drew:=((zi _ (wc.alloc (.cells #[.string name,.slice d g f] 156))).alloc (ze _) _).drew;refine zh s ?_;rw[qM,z,<- hu]
     simp
    have cc:=bL [.slice a p c,.slice (some ⟨wc.heap.size,0,none⟩) 1 1,.slice G I H] [xs.take (p*2),[.string name,.slice d g f],xs.drop ((p)*2)] (wc.heap.size+1) ((wc.alloc (.cells #[.string name,.slice d g f] 156)).alloc (.cells #[.slice a p c,.slice (some ⟨wc.heap.size,0,none⟩) 1 1,.slice G I H] 78)).drew rfl
     (λk v l=>by
       have z:=(zf (zL (wc.alloc (.cells #[.string name,.slice d g f] 156)) (.cells #[.slice a p c,.slice (some ⟨wc.heap.size,0,none⟩) 1 1,.slice G I H] 78)) k).1;rw[hX] at z;show ((wc.alloc (.cells #[.string name,.slice d g f] 156)).alloc (.cells #[.slice a p c,.slice (some ⟨wc.heap.size,0,none⟩) 1 1,.slice G I H] 78)).cell? ⟨wc.heap.size+1,k,none⟩=some v;rw[z,<- l]
       simp)
     (λk v ys l r=>by
       match k,l,r with
       | 0,l,r=>
        simp only[kS,Option.some.injEq] at l r;subst l r;exact tk
       | 1,l,r=>
        simp only[Xx,kS,Option.some.injEq] at l r;subst l r;exact one
       | 2,l,r=>
        simp only[Xx,kS,Option.some.injEq] at l r;subst l r;exact dr
       | k+3,l,r=>simp at l)
     (by simp) (by
       show 0+(xs.take (p*2)).length / 2+2 / 2+(xs.drop ((p)*2)).length / 2<=1000
       have:=Y.out.1
       rw[HN.out] at this;rw[xE,Zu,this];omega)
    have CC:=hid cc;have C:=hid (K.out.trans ((m.out.trans (S.mono m.out.size)).mono K.out.size));have R:=hid S;clear cc B S hX tk dr one T Z N CF J m F l0
    go_upto_region 8 with fail
    go_region_held3 (λQ=>Q.cell? ⟨P,0,none⟩=some (.string name)/\Q.cell? ⟨P,1,none⟩=some (.slice d g f)) (go_keep) (first|((go_at_call 63);refine CC.out.mono ?_;rintro e w5 ⟨v,rfl,ho,hb⟩;have HO:=hid ho;have a6:=hid hb;have g0:=zh hb (zh R.out c0);have g1:=zh hb (zh R.out c1);clear ho hb))
    go_wp2_with fail;go_ret2;have hb:=C.out.trans (a6.out.mono C.out.size);refine⟨v,rfl,hb,λ_=>?_⟩;have V:=Y.out.turn (zC.of (M:=M) hb);exact fH HO.out (((V.take p).app (yY.one (x:=(name,ss)) (b9.out.turn (zC.of hb)))).app (V.drop (p))) (λb hm=>by have:=HM.out b hm;have:=C.out.size;omega)
def kC(l:Int):Bool:=decide (0<=l)&&decide (l<4)
def vL(l:Int)(name:BA):Int:=if kC l then (if Ref.qm name then 0 else 8) else 7
theorem rF(l:Int)(w:World) :
  Calls prog 29 #[.int .i64 l] w λe a=>e = .returned (.bool (kC l))/\a=w:=by
 unfold kC
 by_cases h:0<=l
 ·have d:decide (0<=l)=true:=by simp[h]
  go_enter func29,ntmps29
  go_wp2
  go_ret;exact⟨by rw[d];rfl,rfl⟩
 ·have d:decide (0<=l)=false:=by simp;omega
  go_enter func29,ntmps29
  go_wp2
  go_ret;exact⟨rfl,rfl⟩
theorem Ao(l:Int)(name:BA)(w:World)(k:name.size<=maxLen) :
  Calls prog 24 #[.int .i64 l,.string name] w λe m=>e = .returned (.int .i64 (vL l name))/\Below w.heap.size w m:=by
 have c1:=λW=>rF l W;have c2:=λW=>Kb name W k;have d:vL l name=if kC l then (if Ref.qm name then 0 else 8) else 7:=rfl
 obtain⟨a,f⟩:∃x,kC l=x:=⟨_,rfl⟩;obtain⟨b,hb⟩:∃x,Ref.qm name=x:=⟨_,rfl⟩;rw[f,hb] at d;simp only[f] at c1;simp only[hb] at c2;rw[d];have i:=hid c1;have j:=hid c2;clear c1 c2 d f hb
 cases a<;>cases b
 all_goals
  go_enter func24,ntmps24
  go_wp2_with (first
   | (go_at_call 51;refine (j.out w).mono ?_;rintro e o ⟨rfl,g⟩;have c:=hid g;clear g)
   | (go_at_call 29;refine (i.out w).mono ?_;rintro e n ⟨rfl,h⟩;rw[h];clear h))
  go_ret
  first
   | exact⟨rfl,c.out⟩
   | exact⟨rfl,zi _ _⟩
theorem Oz(nm:BA)(a:Option Addr)(c b:Nat)(w:World) :
  Calls prog 68 #[.agg #[.string nm,.slice a c b]] w λe d=>e = .returned (.string nm)/\Below w.heap.size w d:=by
 go_enter func68,ntmps68
 go_wp2
 go_ret;exact⟨rfl,nB w _⟩
theorem Oy:∀args w,(callFunc 68 args).run prog w = .ok (.enter 68 args) w:=qx func68 (by kernel_rfl) rfl
theorem NM(L:List zu)(Z:Value)(M:Nat->Prop)(w:World)(h:xO M w Z L)(hn:L.length<=100) :
  Calls prog 67 #[Z,.func (.func 68) #[] #[]] w (UE w (L.map Prod.fst)):=by
 obtain⟨Y,hi,z,A,B⟩:=jl WY;obtain⟨a,c,rfl,h1,h2,h4,_⟩:=id h;have b:=h.cells.2.2.2;obtain⟨n,m⟩:=Nm L.length;rw[m] at hn |-;have HC:=hid b;have N:=hid m;have eg:=Oy;clear b m h h1 h2 h4;go_enter func67,ntmps67
 go_wp2_with (at_make;refine wpList_make_own _ rfl _ _ 48 rfl w.heap.size 9 Y (.string ⟨#[]⟩) 1 underlying48 hi z A _ _ _ n rfl rfl rfl ?_ ?_ ?_ ?_)
 ·rw[B];omega
 ·unfold maxLen;omega
 ·omega
 intro w1 j d;have t:=hid j;have r:Hid (Below w.heap.size w w1):=(zi _ w).grown d (ze _) (λk D=>by cases D);clear j d;go_wp2_with fail
 go_loopw [5,7,13] (λov _ I wr=>∃(k:Nat),k<=n/\I = .int .i64 k/\zZ wr w.heap.size ov ((L.take k).map Prod.fst)/\Below w.heap.size w wr) (λ_ _ I _=>n-(intOf I).toNat)
 case atStart=>exact⟨0,zU _,rfl,t.out,r.out⟩
 case round=>
  obtain⟨k,D,rfl,q,hb⟩:=hrel;have C:=hid q;have p:=hid hb;clear q hb t r
  by_cases hlt:k<n
  ·have x:k<L.length:=by rw[N.out];exact hlt
   obtain⟨gb,o,P,R,Q,rfl,hm,q0,q1,_⟩:=HC.out k _ (zt x);have p0:=zh p.out q0;have p1:=zh p.out q1;have i:Hid ((L.take (k+1)).map Prod.fst=(L.take k).map Prod.fst++[L[k].1]):=hid (by rw[VB,zt x,jN];rfl);have y:((L.take k).map Prod.fst).length=k:=by rw[qg,xE];omega
   obtain⟨s,V⟩:=Nm (L[k]);rw[V] at p0 i;have b1:=p.out.size;have O:=Oz s.1 P R Q (wr.alloc (.cells #[.string s.1,.slice P R Q] 156));have J:=hid O;obtain⟨S,U⟩:=Nm s.1;rw[U] at p0 i J;obtain⟨K,T⟩:=Nm ((L.take k).map Prod.fst);rw[T] at C i y;clear O V T q0 q1 hm U
   go_wp2_with (first
    | (go_at_fn 68;refine J.out.mono ?_;rintro e w2 ⟨rfl,v⟩;have l:Hid (Below wr.heap.size wr w2):=(nB wr _).trans (v.mono (by simp));have X:=l.out.size;clear v)
    | (at_builtin;refine YF _ rfl _ _ 48 rfl w.heap.size 9 Y (.string ⟨#[]⟩) 1 16 underlying48 hi z A B rfl (by decide) _ K.length (K.map Value.string) rfl (World.ownsRow.alloc (ownsRow_below C.out l.out) _) ⟨w2.heap.size,0,none⟩ 1 1 [.string S] rfl rfl ?_ ?_ ?_ ?_ ?_ ?_))
   ·exact sQ _ _ _
   ·intro u W;simp at W;rcases W with rfl;rfl
   ·unfold maxLen;omega
   ·omega
   ·simp;omega
   ·intro v' w3 g f _;have G:Hid (zZ w3 w.heap.size v' ((L.take (k+1)).map Prod.fst)):=by rw[i.out];exact zac (by rw[y];exact g)
    have E:Hid (Below w.heap.size w w3):=((p.out.trans (l.out.mono p.out.size)).alloc (by omega) _).grown f (by simp;omega) (λk D=>(World.ownsRow.lt C.out k D).1);clear g f
    go_wp2
    go_roundw
    case rel=>exact⟨k+1,by omega,by go_num,G.out,E.out⟩
    case measure=>simp[intOf];omega
  ·have H:k=n:=by omega
   subst H;have q:=C.out;rw[ZU (by rw[N.out];omega)] at q;have F:=hid q;clear q
   go_wp2
   go_ret;exact⟨_,rfl,F.out,p.out⟩
theorem Nj(L:List zu)(b:Value)(M:Nat->Prop)(w:World)(h:xO M w b L)(d:L.length<=100) :
  Calls prog 30 #[b] w (UE w (L.map Prod.fst)):=by
 have c:=NM L b M w h d;obtain⟨a,g,rfl,_⟩:=h;unfold UE at c |-;have C:=hid c;clear c;go_enter func30,ntmps30
 go_wp2_with (go_at_call 67;refine C.out.mono ?_;rintro e i ⟨b,rfl,f,hb⟩)
 go_ret;exact⟨b,rfl,f,hb⟩
theorem nH:∀(a b c:List UInt8),Lib.compareBytes a b<0->Lib.compareBytes b c<0->Lib.compareBytes a c<0
 | [],[],_,h,_=>by simp[Lib.compareBytes] at h
 | [],_::_,[],_,h=>by simp[Lib.compareBytes] at h
 | [],_::_,_::_,_,_=>by simp[Lib.compareBytes]
 | _::_,[],_,h,_=>by simp[Lib.compareBytes] at h
 | _::_,_::_,[],_,h=>by simp[Lib.compareBytes] at h
 | x::a,y::b,z::c,h,g=>by
  unfold Lib.compareBytes at h g |-
  by_cases c1:x<y
  ·by_cases c2:y<z
   ·rw[zb (UInt8.lt_trans c1 c2)];decide
   ·rw[za c2] at g
    by_cases c3:z<y
    ·rw[zb c3] at g;omega
    ·have e:y=z:=mf (JD.1 c3) (JD.1 c2);subst e;rw[zb c1];decide
  ·rw[za c1] at h
   by_cases c2:y<x
   ·rw[zb c2] at h;omega
   ·rw[za c2] at h;have e:x=y:=mf (JD.1 c2) (JD.1 c1);subst e
    by_cases c3:x<z
    ·rw[zb c3];decide
    ·rw[za c3] at g |-
     by_cases c4:z<x
     ·rw[zb c4] at g;omega
     ·rw[za c4] at g |-;exact nH a b c h g
theorem nI:∀(a b:List UInt8),Lib.compareBytes a b=0->a=b
 | [],[],_=>rfl
 | [],_::_,h=>by simp[Lib.compareBytes] at h
 | _::_,[],h=>by simp[Lib.compareBytes] at h
 | x::a,y::b,h=>by
  unfold Lib.compareBytes at h
  by_cases c1:x<y
  ·rw[zb c1] at h;omega
  ·rw[za c1] at h
   by_cases c2:y<x
   ·rw[zb c2] at h;omega
   ·rw[za c2] at h;have e:x=y:=mf (JD.1 c2) (JD.1 c1);rw[e,nI a b h]
theorem nG:∀(a:List UInt8),Lib.compareBytes a a=0
 | []=>rfl
 | x::a=>by
  unfold Lib.compareBytes;rw[za (UInt8.lt_irrefl x),za (UInt8.lt_irrefl x)];exact nG a
theorem nE:∀(a b:List UInt8),Lib.compareBytes a b = -Lib.compareBytes b a
 | [],[]=>rfl
 | [],_::_=>rfl
 | _::_,[]=>rfl
 | x::a,y::b=>by
  unfold Lib.compareBytes
  by_cases c1:x<y
  ·rw[zb c1,za (JD.2 (UInt8.le_of_lt c1)),zb c1]
  ·rw[za c1]
   by_cases c2:y<x
   ·rw[zb c2,zb c2];rfl
   ·rw[za c2,za c2,za c1];exact nE a b
theorem bK{a b c:BA}(h:xX a b<0)(g:xX b c<0):xX a c<0:=nH _ _ _ h g
theorem nT{a b:BA}(h:xX a b=0):a=b:=by
 have:=nI _ _ h
 exact uS (Jm.1 this)
theorem bJ(a:BA):xX a a=0:=nG _
theorem nS(a b:BA):xX a b = -xX b a:=nE _ _
def jC(L:List zu):Prop:=L.Pairwise λx y=>xX x.1 y.1<0
theorem jC.at{L:List zu}(h:jC L){a b:Nat}{x y:zu}(c:a<b)(e:L[a]?=some x)(f:L[b]?=some y):xX x.1 y.1<0:=by
 obtain⟨d,rfl⟩:=xw.1 e;obtain⟨hb,rfl⟩:=xw.1 f;exact List.pairwise_iff_getElem.1 h a b d hb c
theorem jC.down{L:List zu}(h:jC L)(name:BA):Down L name:=by
 intro a b x y c e f d;unfold ltN at d |-;rw[jk] at d |-;exact bK (h.at c e f) d
theorem tq{α:Type}{p:α->Bool}:∀{l:List α} {x:α},x ∈ l.takeWhile p->p x=true
 | [],_,h=>by simp at h
 | a::l,x,h=>by
  rw[UC] at h
  split at h
  ·rename_i b
   rcases vz.1 h with rfl|h
   ·exact b
   ·exact tq h
  ·simp at h
theorem aN{L:List zu}{name:BA}{x:zu}(a:x ∈ L.take (qI L name)):xX x.1 name<0:=by
 have:L.take (qI L name)=L.takeWhile (ltN name):=by
  unfold qI;exact (List.prefix_iff_eq_take.1 (List.takeWhile_prefix _)).symm
 rw[this] at a
 have:=tq a
 unfold ltN at this
 rwa [jk] at this
theorem Ew{L:List zu}{name:BA}{x:zu}(b:L[qI L name]?=some x):ltN name x=false:=by
 unfold qI at b
 have c:L.drop (L.takeWhile (ltN name)).length=L.dropWhile (ltN name):=by
  have:=List.takeWhile_append_dropWhile (p:=ltN name) (l:=L)
  have a:=congrArg (List.drop (L.takeWhile (ltN name)).length) this;rw[af] at a;exact a.symm
 have d:(L.dropWhile (ltN name))[0]?=some x:=by rw[<- c,YQ];exact b
 have:=List.head?_dropWhile_not (ltN name) L
 rw[List.head?_eq_getElem?,d] at this
 simpa using this
theorem aR{L:List zu}(h:jC L){name:BA}{x:zu}(g:x ∈ L.drop (if zO L name then qI L name+1 else qI L name)):xX name x.1<0:=by
 obtain⟨k,a⟩:=lT g;rw[YQ] at a
 have c:qI L name<L.length:=by
  have:=(xw.1 a).1
  split at this<;>omega
 obtain⟨y,b⟩:∃y,L[qI L name]?=some y:=⟨_,zt c⟩;have d:=Ew b;unfold ltN at d;rw[oD] at d
 cases hh:zO L name with
 | true=>
  rw[hh,zb rfl] at a
  have f:xX y.1 name=0:=by
   unfold zO at hh;rw[b] at hh
   simpa using hh
  rw[<- nT f];exact h.at (by omega) b a
 | false=>
  rw[hh] at a;simp only[yB,yu] at a
  have f:xX y.1 name≠0:=by
   intro e;unfold zO at hh;rw[b] at hh;simp[e] at hh
  have i:=Fq y.1 name;have hy1:xX name y.1<0:=by rw[nS];omega
  by_cases hk0:k=0
  ·subst hk0;rw[ut,b] at a;injection a with a
   rw[<- a];exact hy1
  ·exact bK hy1 (h.at (by omega) b a)
theorem jC.with{L:List zu}(h:jC L)(name:BA)(c:List zT):jC (jg L name c):=by
 unfold jg jC;rw[yn,List.pairwise_append];refine⟨h.sublist (List.take_sublist _ _),?_,?_⟩
 ·rw[List.singleton_append,List.pairwise_cons];exact⟨λx a=>aR h a,h.sublist (List.drop_sublist _ _)⟩
 ·intro x a y b;rw[List.singleton_append] at b
  rcases vz.1 b with rfl|b
  ·exact aN a
  ·exact bK (aN a) (aR h b)
theorem jC.less{L:List zu}(h:jC L)(p:Nat):jC (Zf L p):=by
 unfold Zf;rw[<- List.eraseIdx_eq_take_drop_succ];exact h.sublist (List.eraseIdx_sublist _ _)
theorem za2{L:List zu}{name:BA}{b:List zT}(h:L.length<=4)(a:(zO L name||decide (L.length<4))=true):(jg L name b).length<=4:=by
 have c:=gN L name;unfold jg;rw[qL,qL,xE,Zu,xV]
 cases hh:zO L name with
 | true=>
  have:=JX hh
  rw[zb rfl];omega
 | false=>
  rw[hh] at a;simp only[Xo,jk] at a;simp only[yB,yu];omega
theorem Nq{L:List zu}(p:Nat)(h:L.length<=4):(Zf L p).length<=4:=by
 unfold Zf;rw[qL,xE,Zu];omega
end Go.Proofs.YtagnlbgbnfnapaaGreatDoor
