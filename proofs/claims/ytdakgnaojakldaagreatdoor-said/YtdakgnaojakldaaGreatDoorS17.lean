/- P -/
import Derived.Test.YtdakgnaojakldaaGreatDoorS16
open Go.Proofs.Tryz
set_option maxRecDepth 100000
set_option maxHeartbeats 2000000
namespace Go.Proofs.YtdakgnaojakldaaGreatDoor
open Go.RowKit
structure xg (w:World) (ms:List (BY×Rd.V)) (us:List (BY×Value)) (ao:Option Addr) (cap:Nat):Prop where
 env:qD w
 obj:jU w ms us ao
 good:Rd.Good 4000 (.obj ms)
theorem xg.below{w b:World}{ms:List (BY×Rd.V)}{a:List (BY×Value)}{ao:Option Addr}{cap:Nat}(h:xg w ms a ao cap)(hb:Below w.heap.size w b):xg b ms a ao cap:=⟨h.env.below hb,h.obj.below hb,h.good⟩
theorem xg.len{w:World}{ms:List (BY×Rd.V)}{a:List (BY×Value)}{ao:Option Addr}{cap:Nat}(h:xg w ms a ao cap):ms.length<=4000:=by
 have:=h.good
 cases this with|obj _ h=>exact h
theorem xg.get{w:World}{ms:List (BY×Rd.V)}{a:List (BY×Value)}{ao:Option Addr}{cap:Nat}(h:xg w ms a ao cap)(nm:BY) :
  Calls prog 51 #[.slice ao a.length cap,.string nm] w λe b=>e = .returned (qo a nm)/\Below w.heap.size w b:=VK cap h.obj h.len nm
theorem xg.key{w:World}{ms:List (BY×Rd.V)}{a:List (BY×Value)}{ao:Option Addr}{cap:Nat}(h:xg w ms a ao cap) :
  Calls prog 98 #[qo a Ref.zw,.func (.func 82) #[] #[]] w (Qd w (Rd.qd Ref.zH (Rd.zh ms Ref.zw)) (Rd.zI Ref.zH (Rd.zh ms Ref.zw))):=
 VX _ _ _ _ _ 4000 w (enters_of func82 (by kernel_rfl) rfl) (h.obj.get Ref.zw) (λs b=>by have:=Rd.qV h.good Ref.zw _ b;cases this with|str _ h=>exact h) (Bi w)
theorem xg.no{w:World}{ms:List (BY×Rd.V)}{a:List (BY×Value)}{ao:Option Addr}{cap:Nat}(h:xg w ms a ao cap) :
  Calls prog 201 #[qo a Ref.bNo] w (Jt w (Rd.zh ms Ref.bNo)):=FW _ _ w (h.obj.get Ref.bNo)
theorem xg.oper{w:World}{ms:List (BY×Rd.V)}{a:List (BY×Value)}{ao:Option Addr}{cap:Nat}(h:xg w ms a ao cap) :
  Calls prog 200 #[qo a Ref.bOp] w (Ju w (Rd.zh ms Ref.bOp)):=FX _ _ w h.env.ops (h.obj.get Ref.bOp)
theorem xg.look{w:World}{ms:List (BY×Rd.V)}{a:List (BY×Value)}{ao:Option Addr}{cap:Nat}(h:xg w ms a ao cap)(k:Nat)(b:k<5) :
  Calls prog (opL k) #[qo a Ref.zq] w (kZ w (Rd.qx (opN k) (Rd.zh ms Ref.zq)) (Rd.zY (opN k) (Rd.zh ms Ref.zq))):=
 EK h.env.d k b w _ _ (λv c=>Rd.qV h.good Ref.zq v c) (h.obj.get Ref.zq) (Below.refl _ _)
theorem EA(k:Nat)(a:k<5):∀args w,(callFunc (opL k) args).run prog w = .ok (.enter (opL k) args) w:=by
 rcases lt5 a with rfl|rfl|rfl|rfl|rfl
 ·exact enters_of func320 (by kernel_rfl) rfl
 ·exact enters_of func322 (by kernel_rfl) rfl
 ·exact enters_of func324 (by kernel_rfl) rfl
 ·exact enters_of func326 (by kernel_rfl) rfl
 ·exact enters_of func328 (by kernel_rfl) rfl
theorem FV.cells{c:Nat}{u:Value}(h:FV c u):Value.cells.match_1 (λ_=>Array Value) u (λcs=>cs) (λv=>#[v])=#[u]:=by
 rcases h.form with rfl|⟨T,x,rfl⟩
 ·rfl
 ·rfl
theorem wD{a b c:Nat}{u v x:Value}(f:FV a u)(g:FV b v)(h:FV c x):FVs [a,b,c] [u,v,x]:=by
 refine⟨rfl,λj d y hd e=>?_⟩
 match j with
 | 0=>simp at hd e;subst hd;subst e;exact f
 | 1=>simp at hd e;subst hd;subst e;exact g
 | 2=>simp at hd e;subst hd;subst e;exact h
 | j+3=>simp at hd
theorem sj{W:World}{b:Nat}{u v x:Value}{t:TypeId}(h:W.heap[b]?=some (.cells #[u,v,x] t (0,0))):xW W (some ⟨b,0,none⟩) [u,v,x]:=by
 refine .inr ⟨b,0,rfl,λj a=>?_⟩;simp only[List.length_cons,List.length_nil] at a;rw[Nat.zero_add,(ze h j).1]
 have:j=0\/j=1\/j=2:=by omega
 rcases this with rfl|rfl|rfl<;>rfl
theorem FP(ms:List (BY×Rd.V))(us:List (BY×Value))(ao:Option Addr)(cap:Nat)(w:World)(hI:xg w ms us ao cap)(ho:Rd.zJ ms [Ref.bOp,Ref.zw,Ref.zq,Ref.bNo]=true) :
  Calls prog 154 #[.iface 118 (.slice ao us.length cap)] w (Xn w (.obj ms)):=by
 have hC:=YE ms;rw[ho] at hC;simp only[if_true] at hC
 have hS:yj (.obj ms)=match vT (Rd.zh ms Ref.bOp) with
  | some k=>⟨opN k,Rd.qd Ref.zH (Rd.zh ms Ref.zw),Rd.qx (opN k) (Rd.zh ms Ref.zq),Rd.vv (Rd.zh ms Ref.bNo)⟩
  | none=>kD:=by simp only[yj];rw[ho];rfl
 have d8:=nb w jR;have P:=d8.alloc (by simp) uY;have hr:=cB (w.alloc jR) Ref.bOp Ref.zw Ref.zq Ref.bNo 9;rw[World.size_alloc] at hr;have cR:=Yb ms us ao cap [Ref.bOp,Ref.zw,Ref.zq,Ref.bNo] (some ⟨w.heap.size+1,0,none⟩) 4 ((w.alloc jR).alloc uY) (by simp) hI.len hr (hI.obj.below P) true ho;simp only[if_true,List.length_cons,List.length_nil] at cR;have cG:=λW nm (h:Below w.heap.size w W)=>(hI.below h).get nm;have c:=λW (h:Below w.heap.size w W)=>(hI.below h).oper;have j:=λW (h:Below w.heap.size w W)=>(hI.below h).key;have C:=λW (h:Below w.heap.size w W)=>(hI.below h).no;have n:=λk hk W (h:Below w.heap.size w W)=>(hI.below h).look k hk;have M:=λW (h:Below w.heap.size w W)=>(hI.below h).env.d.err;unfold Xn;rw[hC,hS];obtain⟨F,hF⟩:=Nm (vT (Rd.zh ms Ref.bOp));rw[hF];unfold Ju at c;simp only[hF] at c
 have b6:∀k,F=some k->k<5:=by
  intro k hk;rw[hk] at hF;unfold vT at hF
  split at hF
  ·exact (VN hF).1
  ·cases hF
 obtain⟨j9,a7⟩:∃x,qo us Ref.bOp=x:=⟨_,rfl⟩;obtain⟨h6,T⟩:∃x,qo us Ref.zw=x:=⟨_,rfl⟩;obtain⟨j8,a6⟩:∃x,qo us Ref.bNo=x:=⟨_,rfl⟩;obtain⟨h7,U⟩:∃x,qo us Ref.zq=x:=⟨_,rfl⟩;have I:=λW h=>cG W Ref.bOp h;have J:=λW h=>cG W Ref.zw h;have K:=λW h=>cG W Ref.zq h;have L:=λW h=>cG W Ref.bNo h;simp only[a7] at I c;simp only[T] at J j;simp only[U] at K n;simp only[a6] at L C;generalize Rd.qd Ref.zH (Rd.zh ms Ref.zw)=KS at j |-;generalize Rd.zI Ref.zH (Rd.zh ms Ref.zw)=KC at j |-;clear hI ho hS hC hF a7 T a6 U cG hr;unfold uY jR at cR;unfold jR at d8;unfold uY jR at P;unfold Ref.bOp Ref.zw Ref.zq Ref.bNo at cR P;unfold Ref.bOp at I;unfold Ref.zw at J;unfold Ref.zq at K;unfold Ref.bNo at L
 cases F with
 | none=>
  clear J K L j C n b6 M;unfold opV at c;simp only at c;go_enter func154,ntmps154
  go_wp2_with (first
   | (go_at_call 200;refine (c w2 l).mono ?_;rintro e w3 ⟨u,rfl,c5,s⟩;rcases c5 with ⟨h,_⟩|⟨_,p,rfl⟩|⟨h,_⟩;(exfalso;simp at h);rotate_left;(exfalso;simp at h);have g0:Below w.heap.size w w3:=l.trans (s.mono l.size);have o:=xG (q.trans (s.mono q.size));have r0:=(ze o 0).1;have r1:=(ze o 1).1;have r2:=(ze o 2).1;have r3:=(ze o 3).1;have f0:=(ze o 0).2;have f1:=(ze o 1).2;have f2:=(ze o 2).2;have f3:=(ze o 3).2;simp at r0 r1 r2 r3;have sn:=(λW a m=>run_store prog W a .nilFunc m rfl);have hz:w.heap.size<w3.heap.size:=(by have h1:=q.size;have h2:=s.size;simp at h1;omega);have i7:w.heap.size≠w3.heap.size:=(by omega);obtain⟨s0,s1,s2,s3⟩:=V7 (.string ⟨#[]⟩) (.string ⟨#[]⟩) (.slice none 0 0) (.bool false) r0 r1 r2 r3;have q0:=λO=>zB s0 O;have q1:=λO=>zB s1 O;have q2:=λO=>zB s2 O;have q3:=λO=>zB s3 O)
   | (go_at_call 51;refine (I w1 A).mono ?_;rintro e w2 ⟨rfl,i⟩;have l:Below w.heap.size w w2:=A.trans (i.mono A.size);have q:=G.trans (i.mono G.size))
   | (go_at_call 97;refine cR.mono ?_;rintro e w1 ⟨rfl,i⟩;have A:Below w.heap.size w w1:=P.trans (i.mono (by simp;omega));have G:=((Below.refl _ (w.alloc (.cells #[.string ⟨#[]⟩,.string ⟨#[]⟩,.slice none 0 0,.bool false] 241))).alloc (Nat.le_refl _) (.cells #[.string ⟨#[111,112]⟩,.string ⟨#[107,101,121]⟩,.string ⟨#[118,97,108,117,101]⟩,.string ⟨#[110,111]⟩] 9)).trans (i.mono (by simp))))
  exact bodyPost_ret (v := .tuple #[.agg #[.string ⟨#[]⟩,.string ⟨#[]⟩,.slice none 0 0,.bool false],.iface 125 (.agg #[.string p])]) (by simp[results,results154,go_sem,q0,q1,q2,q3]) rfl
   ⟨_,_,rfl,.inr (.inl ⟨rfl,_,rfl⟩),((((g0.setCell (Nat.le_refl _) _).setCell (Nat.le_refl _) _).setCell (Nat.le_refl _) _).setCell (Nat.le_refl _) _).alloc (by simp[World.setCell];omega) _,World.ownsRow_nil _ _ _ _⟩
 | some k=>
  have hk:=b6 k rfl;have cL:=n k hk;have eL:=EA k hk;unfold opV at c;simp only at c;dsimp only;generalize Rd.qx (opN k) (Rd.zh ms Ref.zq)=LS at cL |-;generalize Rd.zY (opN k) (Rd.zh ms Ref.zq)=LC at cL |-;generalize opN k=N at c |-;generalize opT k=ft at c;generalize opL k=fl at c cL eL;obtain⟨nt,c7⟩:∃x,Rd.vv (Rd.zh ms Ref.bNo)=x:=⟨_,rfl⟩;obtain⟨NC,b7⟩:∃x,Rd.cls (Rd.yA (Rd.zh ms Ref.bNo)) false=x:=⟨_,rfl⟩;unfold Jt at C;simp only[c7,b7] at C;simp only[c7,b7];clear n b6 hk c7 b7;have sf:=λW a g m=>run_store prog W a (.func (.func g) #[] #[]) m rfl;go_enter func154,ntmps154
  go_upto_region 8 with (first
   | (go_at_call 98;refine (j w4 b2).mono ?_;rintro e w5 ⟨X,rfl,e2,b9⟩;have r:Below w.heap.size w w5:=b2.trans (b9.mono b2.size);have b0:=d2.trans (b9.mono d2.size);have g2:=d7.trans (b9.mono d7.size))
   | (go_at_call 51;refine (J _ H).mono ?_;rintro e w4 ⟨rfl,b8⟩;have b2:Below w.heap.size w w4:=H.trans (b8.mono H.size);have d2:=a5.trans (b8.mono a5.size);have d7:=b8)
   | (go_at_call 200;refine (c w2 l).mono ?_;rintro e w3 ⟨u,rfl,c5,s⟩;rcases c5 with ⟨_,rfl⟩|⟨h,_⟩|⟨h,_⟩;rotate_left;(exfalso;simp at h);(exfalso;simp at h);have H:=(l.trans (s.mono l.size)).alloc (l.trans (s.mono l.size)).size (.cells #[.string N,.func (.func fl) #[] #[],.func (.func ft) #[] #[]] 342);have a5:=(q.trans (s.mono q.size)).alloc (q.trans (s.mono q.size)).size (.cells #[.string N,.func (.func fl) #[] #[],.func (.func ft) #[] #[]] 342))
   | (go_at_call 51;refine (I w1 A).mono ?_;rintro e w2 ⟨rfl,i⟩;have l:Below w.heap.size w w2:=A.trans (i.mono A.size);have q:=G.trans (i.mono G.size))
   | (go_at_call 97;refine cR.mono ?_;rintro e w1 ⟨rfl,i⟩;have A:Below w.heap.size w w1:=P.trans (i.mono (by simp;omega));have G:=((Below.refl _ (w.alloc (.cells #[.string ⟨#[]⟩,.string ⟨#[]⟩,.slice none 0 0,.bool false] 241))).alloc (Nat.le_refl _) (.cells #[.string ⟨#[111,112]⟩,.string ⟨#[107,101,121]⟩,.string ⟨#[118,97,108,117,101]⟩,.string ⟨#[110,111]⟩] 9)).trans (i.mono (by simp))))
  have c9:=xG g2;have o0:=(ze c9 0).1;have o1:=(ze c9 1).1;simp at o0 o1;clear cR I c J j
  go_cut [9,10] (λa b wx=>∃y z,a = .slice y LS.length z/\FV LC b/\Below w5.heap.size w5 wx/\wx.ownsRow w5.heap.size 9 1 (.slice y LS.length z) LS.length (LS.map Value.string))
  case first=>
   go_region_with (first
    | (go_at_call 51;refine (K _ (by first|exact r|exact r.drew|exact r.drew.drew|exact r.drew.drew.drew)).mono ?_;rintro e w6 ⟨rfl,d9⟩;have t:Below w5.heap.size w5 w6:=(by first|exact d9|exact ZE d9);have o6:=zg t o1;have a0:Below w.heap.size w w6:=r.trans (t.mono r.size))
    | (go_at_fn fl;refine (cL _ (by first|exact a0|exact a0.drew|exact a0.drew.drew|exact a0.drew.drew.drew)).mono ?_;rintro e w7 ⟨lv,E,rfl,a3,e0,R⟩;obtain⟨y,z,rfl⟩:=yB R))
   all_goals
    have e1:Below w6.heap.size w6 w7:=(by first|exact e0|exact ZE e0)
    have a9:=hid (And.intro a3 (And.intro (t.trans (e1.mono t.size)) (xP R (show w5.heap.size<=_ from t.size))))
    go_wp2_with fail
    go_meet
    exact⟨y,z,rfl,a9.out.1,a9.out.2.1,a9.out.2.2⟩
  case rest=>
   obtain⟨y,z,rfl,a3,c4,c8⟩:=hcut;have b5:Below w.heap.size w wc:=r.trans (c4.mono r.size);have Z:=b0.trans (c4.mono b0.size);have e5:=zg c4 o0;clear K cL eL o1 c9
   go_upto_region 11 with (first
    | (go_at_call 201;refine (C w8 b3).mono ?_;rintro e D ⟨Y,rfl,e3,a2⟩;have o9:=zg a2 o8)
    | (go_at_call 51;refine (L wc b5).mono ?_;rintro e w8 ⟨rfl,Q⟩;have b3:Below w.heap.size w w8:=b5.trans (Q.mono b5.size);have o8:=zg Q e5))
   obtain⟨E,rfl⟩:∃x,x=u10:=⟨_,rfl⟩;have b4:Below w.heap.size w D:=b3.trans (a2.mono b3.size);have b1:=(Z.trans (Q.mono Z.size)).trans (a2.mono (Z.trans (Q.mono Z.size)).size);have S:=ownsRow_below (ownsRow_below c8 Q) a2;have bA:Below w.heap.size w ((D.alloc (.cells #[.string N,.string KS,.slice y LS.length z,.bool nt] 241)).alloc (.cells #[X,E,Y] 74)):=(b4.alloc b4.size _).alloc (by have:=b4.size;simp;omega) _;have aA:=(b1.alloc b1.size (.cells #[.string N,.string KS,.slice y LS.length z,.bool nt] 241)).alloc (by have:=b1.size;simp at this |-;omega) (.cells #[X,E,Y] 74);have g3:((D.alloc (.cells #[.string N,.string KS,.slice y LS.length z,.bool nt] 241)).alloc (.cells #[X,E,Y] 74)).heap[D.heap.size]?=some (.cells #[.string N,.string KS,.slice y LS.length z,.bool nt] 241):=(vU D (.cells #[.string N,.string KS,.slice y LS.length z,.bool nt] 241) (.cells #[X,E,Y] 74)).1;have g4:((D.alloc (.cells #[.string N,.string KS,.slice y LS.length z,.bool nt] 241)).alloc (.cells #[X,E,Y] 74)).heap[D.heap.size+1]?=some (.cells #[X,E,Y] 74):=(vU D (.cells #[.string N,.string KS,.slice y LS.length z,.bool nt] 241) (.cells #[X,E,Y] 74)).2
   have g1:∀W:World,Below w.heap.size w W->W.heap[D.heap.size+1]?=some (.cells #[X,E,Y] 74)->Calls prog 102 #[.slice (some ⟨D.heap.size+1,0,none⟩) 3 3] W λe w'=>∃u,e = .returned u/\FV (Rd.zN [KC,LC,NC]) u/\Below W.heap.size W w':=λW hW hg=>
    QW [KC,LC,NC] [X,E,Y] _ 3 W (M W hW) (by simp) (sj hg) (wD e2 a3 e3)
   clear M L C o0 e5 o8 o9;have kK:=e2.cells;have kV:=a3.cells;have kN:=e3.cells
   go_region_with (go_at_call 102;refine (g1 _ (by first|exact bA|exact bA.drew|exact bA.drew.drew) (by first|exact g4)).mono ?_;rintro e g8 ⟨uR,rfl,e4,B⟩;have f:Below ((D.alloc (.cells #[.string N,.string KS,.slice y LS.length z,.bool nt] 241)).alloc (.cells #[X,E,Y] 74)).heap.size ((D.alloc (.cells #[.string N,.string KS,.slice y LS.length z,.bool nt] 241)).alloc (.cells #[X,E,Y] 74)) g8:=(by first|exact B|exact ZE B|exact ZE (ZE B));have o:=xG (aA.trans (f.mono aA.size));have r0:=(ze o 0).1;have r1:=(ze o 1).1;have r2:=(ze o 2).1;have r3:=(ze o 3).1;have f0:=(ze o 0).2;have f1:=(ze o 1).2;have f2:=(ze o 2).2;have f3:=(ze o 3).2;simp at r0 r1 r2 r3;have bC:=(f.block D.heap.size (by simp;omega)).trans g3;have c0:=(ze bC 0).1;have c1:=(ze bC 1).1;have c2:=(ze bC 2).1;have c3:=(ze bC 3).1;simp at c0 c1 c2 c3)
   all_goals
    have s4:=V7 (.string N) (.string KS) (.slice y LS.length z) (.bool nt) r0 r1 r2 r3;have BW:=hid (bA.trans (f.mono bA.size));have OW:=hid (ownsRow_below ((S.alloc _).alloc _) f);have a4:w.heap.size<w5.heap.size:=by have h1:=b0.size;simp at h1;omega
    have f9:=hid e4;clear e4 B f o bC S;go_wp2_with fail
    exact bodyPost_ret (v := .tuple #[.agg #[.string N,.string KS,.slice y LS.length z,.bool nt],uR]) (by simp[results,results154,go_sem,s4]) rfl
     ⟨_,_,rfl,f9.out,(((BW.out.setCell (Nat.le_refl _) _).setCell (Nat.le_refl _) _).setCell (Nat.le_refl _) _).setCell (Nat.le_refl _) _,xP (zF (zF (zF (zF OW.out a4 _ _) a4 _ _) a4 _ _) a4 _ _) (by omega)⟩
theorem FQ(x:Rd.V)(u:Value)(w:World)(c:qD w)(b:OAt w (some x) u)(a:Rd.Good 4000 x):Calls prog 154 #[u] w (Xn w x):=by
 by_cases h:∃ms,x = .obj ms/\Rd.zJ ms [Ref.bOp,Ref.zw,Ref.zq,Ref.bNo]=true
 ·obtain⟨ms,rfl,f⟩:=h;obtain⟨g,ao,cap,rfl,d⟩:=Q6 b;exact FP ms g ao cap w ⟨c,d,a⟩ f
 ·refine FO x u w b a (λms e=>?_)
  cases hc:Rd.zJ ms [Ref.bOp,Ref.zw,Ref.zq,Ref.bNo] with
  | false=>rfl
  | true=>exact absurd ⟨ms,e,hc⟩ h
def zO(w:World)(base:Nat)(b:Value)(a:List BY):Prop:=w.ownsRow base 9 1 b a.length (a.map Value.string)
def kL(w:World)(base:Nat)(xs:List Value)(j:Nat)(c:zQ):Prop:=
 ∃a,xs[j*4]?=some (.string c.op)/\xs[j*4+1]?=some (.string c.key)/\xs[j*4+2]?=some a/\xs[j*4+3]?=some (.bool c.no)/\zO w base a c.vals
theorem kL.below{w a:World}{base:Nat}{xs:List Value}{j:Nat}{c:zQ}(h:kL w base xs j c)(hb:Below w.heap.size w a):kL a base xs j c:=by
 obtain⟨i,b,d,e,f,g⟩:=h;exact⟨i,b,d,e,f,ownsRow_below g hb⟩
theorem kL.set{w:World}{base:Nat}{xs:List Value}{j:Nat}{c:zQ}(h:kL w base xs j c){b:Nat}(hb:b<base)(o:Nat)(u:Value):kL (w.setCell ⟨b,o,none⟩ u) base xs j c:=by
 obtain⟨i,a,d,e,f,g⟩:=h;exact⟨i,a,d,e,f,zF g hb o u⟩
def qA(w:World)(base:Nat)(a:Value)(cs:List zQ):Prop:=
 ∃xs,w.ownsRow base 241 4 a cs.length xs/\∀j,(h:j<cs.length)->kL w base xs j cs[j]
def iI(g:Nat)(f:Array Value)(d:Nat->Value)(n:Nat)(cs:Nat->zQ)(c:Nat->Nat)(w:World):Prop:=
 ∀W j,j<n->Below w.heap.size w W->Calls prog g (#[d j]++f) W λe b=>
  ∃a u,e = .returned (.tuple #[.agg #[.string (cs j).op,.string (cs j).key,a,.bool (cs j).no],u])/\FV (c j) u/\Below W.heap.size W b/\zO b W.heap.size a (cs j).vals
def iE(w:World)(n:Nat)(cs:Nat->zQ)(c:Nat->Nat)(e:Ending)(a:World):Prop:=
 ∃(f d:Option Addr) (g h:Nat) (b:List Value),e = .returned (.tuple #[.slice f n g,.slice d n h])/\b.length=n/\xW a d b/\FVs ((List.range n).map c) b/\Below w.heap.size w a /\
  qA a w.heap.size (.slice f n g) ((List.range n).map cs)
theorem AP:(prog.info? 241).map (λi=>(i.zero,i.size,i.bytes))=some (some (.agg #[.string ⟨#[]⟩,.string ⟨#[]⟩,.slice none 0 0,.bool false]),4,64):=by kernel_rfl
theorem dW{w:World}{base:Nat}{e:TypeId}{v:Value}{n:Nat}{xs:List Value}(h:w.ownsRow base e 4 v n xs){b:Nat}(hb:v.ownBlock≠some b)(o:Nat)(u:Value):(w.setCell ⟨b,o,none⟩ u).ownsRow base e 4 v n xs:=
 ownsRow_setCell_other h (a:=⟨b,o,none⟩) hb u
theorem pY(D:List Value)(ao:Option Addr)(cap g:Nat)(lb:Array Value)(cs:Nat->zQ)(c:Nat->Nat)(w:World)(hn:D.length<=1000)(eg:∀args w,(callFunc g args).run prog w = .ok (.enter g args) w)
  (hm:xW w ao D)(b0:∀u ∈ D,u = .nilIface\/∃T x,u = .iface T x)(hp:iI g lb (λj=>D.getD j .nilIface) D.length cs c w) :
  Calls prog 153 #[.slice ao D.length cap,.func (.func g) #[] lb] w (iE w D.length cs c):=by
 obtain⟨i0,hi,e1,e2,e5⟩:=info_parts AP;obtain⟨i1,R,d8,d9,e0⟩:=info_parts (show (prog.info? 74).map (λi=>(i.zero,i.size,i.bytes))=some (some .nilIface,1,16) by kernel_rfl);obtain⟨n,V⟩:=Nm D.length;rw[V] at hn hp |-;have HM:=hid hm;have c2:=hid b0;have HP:=hid hp;have c3:=hid V;clear hm b0 hp V;go_enter func153,ntmps153
 go_wp2_with (at_make;refine wpList_make_full _ rfl _ _ 131 rfl w.heap.size 241 i0 (.agg #[.string ⟨#[]⟩,.string ⟨#[]⟩,.slice none 0 0,.bool false]) 4 underlying131 hi e1 e2 _ _ _ _ n rfl rfl ?_ ?_ ?_ ?_ ?_ ?_)
 ·omega
 ·omega
 ·rw[e5];omega
 ·unfold maxLen;omega
 ·omega
 intro w1 C E;obtain⟨zs,b4⟩:=Nm ((madeCells #[.string ⟨#[]⟩,.string ⟨#[]⟩,.slice none 0 0,.bool false] (n*4)).toList);rw[b4] at C;have B:Below w.heap.size w w1:=(Below.refl _ w).grown E (Nat.le_refl _) (λk hk=>by cases hk);clear b4
 go_wp2_with (at_make;refine wpList_make_full _ rfl _ _ 126 rfl w.heap.size 74 i1 .nilIface 1 underlying126 R d8 d9 _ _ _ _ n rfl rfl ?_ ?_ ?_ ?_ ?_ ?_)
 ·omega
 ·omega
 ·rw[e0];omega
 ·unfold maxLen;omega
 ·have:=B.size;omega
 intro w2 U t
 have P:w2.ownsRow w.heap.size 74 1 (.slice (some ⟨w1.heap.size,0,none⟩) n n) n (List.replicate n .nilIface):=by
  rw[<- toList_madeCells_one];exact U
 have S:=C.kept t (.inr (by simp[Value.ownBlock]));have b1:w.heap.size<w1.heap.size:=(C.lt _ rfl).2;have Q:Below w.heap.size w w2:=B.grown t B.size (λk hk=>by cases hk);have J:w1.heap.size<w2.heap.size:=(P.lt _ rfl).2;obtain⟨r,a8⟩:=Nm w1.heap.size;rw[a8] at P b1 J |-;have b2:w.heap.size≠r:=by omega
 have a5:=hid S;have a6:=hid P;have Y:=hid Q;have Z:=hid J;clear U t E C B S P Q a8 J;go_wp2_with fail
 go_loopw [18] (λiv wr=>∃(k:Nat) (xs X:List Value),k<=n/\iv = .int .i64 k/\yR c n k X/\wr.ownsRow w.heap.size 241 4 (.slice (some ⟨w.heap.size,0,none⟩) n n) n xs/\wr.ownsRow w.heap.size 74 1 (.slice (some ⟨r,0,none⟩) n n) n X/\Below w.heap.size w wr/\r<wr.heap.size/\(∀j,j<k->kL wr (r+1) xs j (cs j))) (λiv _=>n-(intOf iv).toNat)
 case atStart=>exact⟨0,_,_,Nat.zero_le _,rfl,yR.start c n,a5.out,a6.out,Y.out,Z.out,λj R=>by omega⟩
 case round=>
  obtain⟨k,xs,X,hk,rfl,b3,ro,re,rb,j6,rc⟩:=hrel;clear a5 a6 Y Z;have RO:=hid ro;have RE:=hid re;have RB:=hid rb;have M:=hid b3;have RC:=hid rc;clear ro re rb b3 rc
  by_cases hlt:k<n
  ·have I:k<D.length:=by rw[c3.out];exact hlt
   have a9:D.getD k .nilIface=D[k]:=by rw[List.getD_eq_getElem?_getD,List.getElem?_eq_getElem I];rfl
   have K:=HP.out wr k hlt RB.out;have hv:=c2.out D[k] (List.getElem_mem I)
   rcases HM.out with hnil|⟨b,o,hao,hc⟩
   ·rw[hnil] at I;simp at I
   subst hao;have q:=zg RB.out (hc k I);simp only[a9] at K;obtain⟨u,hu⟩:=Nm (D[k]);rw[hu] at q K hv;obtain⟨p,G⟩:∃x,(cs k).op=x:=⟨_,rfl⟩;obtain⟨d,v⟩:∃x,(cs k).key=x:=⟨_,rfl⟩;obtain⟨m,F⟩:∃x,(cs k).no=x:=⟨_,rfl⟩;rw[G,v,F] at K;have b9:=hid G;have c0:=hid v;have c1:=hid F;clear hu hc a9 G v F;have W:xs.length=n*4:=RO.out.1;have a4:=hid W;clear W
   have cells:Hid (∀l,Below wr.heap.size wr l->(∃N,l.cell? ⟨w.heap.size,k*4,none⟩=some N)/\(∃N,l.cell? ⟨w.heap.size,k*4+1,none⟩=some N)/\(∃N,l.cell? ⟨w.heap.size,k*4+2,none⟩=some N)/\(∃N,l.cell? ⟨w.heap.size,k*4+3,none⟩=some N) /\
     l.frozen? ⟨w.heap.size,k*4,none⟩=false/\l.frozen? ⟨w.heap.size,k*4+1,none⟩=false/\l.frozen? ⟨w.heap.size,k*4+2,none⟩=false/\l.frozen? ⟨w.heap.size,k*4+3,none⟩=false/\l.cell? ⟨r,k,none⟩=some .nilIface/\l.frozen? ⟨r,k,none⟩=false):=by
    intro l f;have L:=ownsRow_below RO.out f;have e3:=ownsRow_below RE.out f;have hx:=a4.out
    exact⟨⟨_,(L.cellAt _ (by omega)).trans (List.getElem?_eq_getElem (by omega))⟩,⟨_,(L.cellAt _ (by omega)).trans (List.getElem?_eq_getElem (by omega))⟩,⟨_,(L.cellAt _ (by omega)).trans (List.getElem?_eq_getElem (by omega))⟩,⟨_,(L.cellAt _ (by omega)).trans (List.getElem?_eq_getElem (by omega))⟩,
     L.frozenAt _,L.frozenAt _,L.frozenAt _,L.frozenAt _,(e3.cellAt k (by omega)).trans (M.out.2.2 k (Nat.le_refl _) hlt),e3.frozenAt k⟩
   have fin:Hid (∀l s x,Below wr.heap.size wr l->FV (c k) x->zO l wr.heap.size s (cs k).vals ->
     yR c n (k+1) (X.set k x) /\
     (((((l.setCell ⟨w.heap.size,k*4,none⟩ (.string p)).setCell ⟨w.heap.size,k*4+1,none⟩ (.string d)).setCell ⟨w.heap.size,k*4+2,none⟩ s).setCell ⟨w.heap.size,k*4+3,none⟩ (.bool m)).setCell ⟨r,k,none⟩ x).ownsRow w.heap.size 241 4 (.slice (some ⟨w.heap.size,0,none⟩) n n) n ((((xs.set (k*4) (.string p)).set (k*4+1) (.string d)).set (k*4+2) s).set (k*4+3) (.bool m)) /\
     (((((l.setCell ⟨w.heap.size,k*4,none⟩ (.string p)).setCell ⟨w.heap.size,k*4+1,none⟩ (.string d)).setCell ⟨w.heap.size,k*4+2,none⟩ s).setCell ⟨w.heap.size,k*4+3,none⟩ (.bool m)).setCell ⟨r,k,none⟩ x).ownsRow w.heap.size 74 1 (.slice (some ⟨r,0,none⟩) n n) n (X.set k x) /\
     Below w.heap.size w (((((l.setCell ⟨w.heap.size,k*4,none⟩ (.string p)).setCell ⟨w.heap.size,k*4+1,none⟩ (.string d)).setCell ⟨w.heap.size,k*4+2,none⟩ s).setCell ⟨w.heap.size,k*4+3,none⟩ (.bool m)).setCell ⟨r,k,none⟩ x) /\
     r<(((((l.setCell ⟨w.heap.size,k*4,none⟩ (.string p)).setCell ⟨w.heap.size,k*4+1,none⟩ (.string d)).setCell ⟨w.heap.size,k*4+2,none⟩ s).setCell ⟨w.heap.size,k*4+3,none⟩ (.bool m)).setCell ⟨r,k,none⟩ x).heap.size /\
     (∀j,j<k+1->kL (((((l.setCell ⟨w.heap.size,k*4,none⟩ (.string p)).setCell ⟨w.heap.size,k*4+1,none⟩ (.string d)).setCell ⟨w.heap.size,k*4+2,none⟩ s).setCell ⟨w.heap.size,k*4+3,none⟩ (.bool m)).setCell ⟨r,k,none⟩ x) (r+1) ((((xs.set (k*4) (.string p)).set (k*4+1) (.string d)).set (k*4+2) s).set (k*4+3) (.bool m)) j (cs j))):=by
    intro l s x f hx A;have L:=ownsRow_below RO.out f;have e3:=ownsRow_below RE.out f;have o4:=((((L.stored (k*4) (.string p)).1.stored (k*4+1) (.string d)).1.stored (k*4+2) s).1.stored (k*4+3) (.bool m)).1;have O:(Value.slice (some ⟨r,0,none⟩) n n).ownBlock≠some w.heap.size:=by simp only[Value.ownBlock];intro e;simp only[Option.some.injEq] at e;exact b2 e.symm
    have e4:=ownsRow_setCell_other (ownsRow_setCell_other (ownsRow_setCell_other (ownsRow_setCell_other e3 (a:=⟨w.heap.size,k*4,none⟩) O (.string p)) (a:=⟨w.heap.size,k*4+1,none⟩) O (.string d)) (a:=⟨w.heap.size,k*4+2,none⟩) O s) (a:=⟨w.heap.size,k*4+3,none⟩) O (.bool m);have hz:=f.size;have W:=a4.out;refine⟨M.out.set hlt hx,dW o4 (by simp only[Value.ownBlock];intro e;simp only[Option.some.injEq] at e;exact b2 e) _ _,(e4.stored k x).1,(((((RB.out.trans (f.mono RB.out.size)).setCell (Nat.le_refl _) _).setCell (Nat.le_refl _) _).setCell (Nat.le_refl _) _).setCell (Nat.le_refl _) _).setCell (by show w.heap.size<=r;omega) _,by simp[World.setCell];omega,λj R=>?_⟩
    by_cases hjk:j=k
    ·subst hjk;refine⟨s,?_,?_,?_,?_,zF (zF (zF (zF (zF (xP A (by omega)) (by omega) _ _) (by omega) _ _) (by omega) _ _) (by omega) _ _) (by omega) _ _⟩
     ·simp[List.getElem?_set,b9.out];omega
     ·simp[List.getElem?_set,c0.out];omega
     ·simp[List.getElem?_set];omega
     ·simp[List.getElem?_set,c1.out];omega
    ·have d5:=(((((((RC.out j (by omega)).below f).set (b:=w.heap.size) (by omega) (k*4) (.string p)).set (b:=w.heap.size) (by omega) (k*4+1) (.string d)).set (b:=w.heap.size) (by omega) (k*4+2) s).set (b:=w.heap.size) (by omega) (k*4+3) (.bool m)).set (b:=r) (by omega) k x);obtain⟨l0,h0,h1,h2,h3,h4⟩:=d5;refine⟨l0,?_,?_,?_,?_,h4⟩
     ·rw[List.getElem?_set,if_neg (by omega),List.getElem?_set,if_neg (by omega),List.getElem?_set,if_neg (by omega),List.getElem?_set,if_neg (by omega)];exact h0
     ·rw[List.getElem?_set,if_neg (by omega),List.getElem?_set,if_neg (by omega),List.getElem?_set,if_neg (by omega),List.getElem?_set,if_neg (by omega)];exact h1
     ·rw[List.getElem?_set,if_neg (by omega),List.getElem?_set,if_neg (by omega),List.getElem?_set,if_neg (by omega),List.getElem?_set,if_neg (by omega)];exact h2
     ·rw[List.getElem?_set,if_neg (by omega),List.getElem?_set,if_neg (by omega),List.getElem?_set,if_neg (by omega),List.getElem?_set,if_neg (by omega)];exact h3
   rcases hv with rfl|⟨T,y,rfl⟩
   ·go_wp2_with (go_at_fn g;refine K.mono ?_;rintro e l ⟨s,x,rfl,H,f,A⟩;obtain⟨⟨N,d0⟩,⟨a1,d1⟩,⟨a2,d2⟩,⟨a3,d3⟩,g0,g1,g2,g3,d4,g4⟩:=cells.out l f;have h:=hid (fin.out l s x f H A);obtain⟨la,lc,rfl⟩:=yB A;rcases H.form with rfl|⟨T,z,rfl⟩)
    all_goals
     go_roundw
     case rel=>exact⟨k+1,_,_,by omega,by go_num,h.out.1,h.out.2.1,h.out.2.2.1,h.out.2.2.2.1,h.out.2.2.2.2.1,h.out.2.2.2.2.2⟩
     case measure=>simp[intOf];omega
   ·go_wp2_with (go_at_fn g;refine K.mono ?_;rintro e l ⟨s,x,rfl,H,f,A⟩;obtain⟨⟨N,d0⟩,⟨a1,d1⟩,⟨a2,d2⟩,⟨a3,d3⟩,g0,g1,g2,g3,d4,g4⟩:=cells.out l f;have h:=hid (fin.out l s x f H A);obtain⟨la,lc,rfl⟩:=yB A;rcases H.form with rfl|⟨T,z,rfl⟩)
    all_goals
     go_roundw
     case rel=>exact⟨k+1,_,_,by omega,by go_num,h.out.1,h.out.2.1,h.out.2.2.1,h.out.2.2.2.1,h.out.2.2.2.2.1,h.out.2.2.2.2.2⟩
     case measure=>simp[intOf];omega
  ·have d6:k=n:=by omega
   subst d6;have hE:=M.out.done;have hl:=M.out.1
   go_wp2
   go_ret2;refine⟨_,_,_,_,X,rfl,hl,?_,hE,RB.out,xs,?_,?_⟩
   ·exact .inr ⟨r,0,rfl,λj R=>by rw[Nat.zero_add];exact (RE.out.cellAt j (by omega)).trans (List.getElem?_eq_getElem R)⟩
   ·rw[List.length_map,List.length_range];exact RO.out
   ·intro j R;rw[List.length_map,List.length_range] at R;obtain⟨l0,h0,h1,h2,h3,h4⟩:=RC.out j R;rw[List.getElem_map,List.getElem_range];exact⟨l0,h0,h1,h2,h3,xP h4 (by omega)⟩
def Zh:Option Rd.V->List zQ
 | some (.list vs)=>if 5<vs.length then [] else vs.map yj
 | _=>[]
def Xo(w:World)(x:Option Rd.V)(e:Ending)(b:World):Prop:=
 ∃a u,e = .returned (.tuple #[a,u])/\FV (Rd.yl x) u/\Below w.heap.size w b/\qA b w.heap.size a (Zh x)
theorem qA.nil(w:World)(base:Nat):qA w base (.slice none 0 0) []:=⟨[],World.ownsRow_nil _ _ _ _,λj a=>by simp at a⟩
theorem qA.below{w b:World}{base:Nat}{a:Value}{cs:List zQ}(h:qA w base a cs)(hb:Below w.heap.size w b):qA b base a cs:=by
 obtain⟨xs,c,d⟩:=h;exact⟨xs,ownsRow_below c hb,λj e=>(d j e).below hb⟩
theorem qA.mono{w:World}{base a:Nat}{b:Value}{cs:List zQ}(h:qA w base b cs)(hb:a<=base):qA w a b cs:=by
 obtain⟨xs,i,k⟩:=h;refine⟨xs,xP i hb,λj l=>?_⟩;obtain⟨m,c,d,e,f,g⟩:=k j l;exact⟨m,c,d,e,f,xP g hb⟩
theorem qA.set{w:World}{base:Nat}{c:Value}{cs:List zQ}(h:qA w base c cs){b:Nat}(hb:b<base)(o:Nat)(u:Value):qA (w.setCell ⟨b,o,none⟩ u) base c cs:=by
 obtain⟨xs,a,d⟩:=h;exact⟨xs,dW a (by intro e;have:=(a.lt b e).1;omega) o u,λj f=>(d j f).set hb o u⟩
theorem qA.slice{w:World}{base:Nat}{b:Value}{cs:List zQ}(h:qA w base b cs):∃a c,b = .slice a cs.length c:=by
 obtain⟨xs,d,_⟩:=h
 rcases d.2 with ⟨h0,hl⟩|⟨g,c,cur,rfl,_⟩
 ·rw[h0,hl];exact⟨_,_,rfl⟩
 ·exact⟨_,_,rfl⟩
theorem rq(b:List Rd.V)(a:List Value)(ao:Option Addr)(cap:Nat)(w:World)(t:qD w)(o:a.length=b.length)(z:a.length<=1000)
  (y:xW w ao a)(B:∀(j:Nat) (v:Rd.V) (u:Value),b[j]?=some v->a[j]?=some u->OAt w (some v) u)(x:∀v ∈ b,Rd.Good 4000 v) :
  Calls prog 153 #[.slice ao a.length cap,.func (.func 154) #[] #[]] w λe m=>
   ∃(k g:Option Addr) (l n:Nat) (f:List Value),e = .returned (.tuple #[.slice k a.length l,.slice g a.length n])/\f.length=a.length/\xW m g f/\FVs (b.map Rd.condC) f/\Below w.heap.size w m/\qA m w.heap.size (.slice k a.length l) (b.map yj):=by
 have d:∀j,(h:j<a.length)->OAt w (some (b.getD j (.word false))) a[j]:=λj h=>by
  have c:j<b.length:=by omega
  rw[List.getD_eq_getElem?_getD,List.getElem?_eq_getElem c];exact B j _ _ (List.getElem?_eq_getElem c) (List.getElem?_eq_getElem h)
 refine (pY a ao cap 154 #[] (λj=>yj (b.getD j (.word false))) (λj=>Rd.condC (b.getD j (.word false))) w z (enters_of func154 (by kernel_rfl) rfl) y ?_ ?_).mono ?_
 ·intro u A;obtain⟨j,i,rfl⟩:=List.getElem_of_mem A;exact (d j i).form
 ·intro W j i hb;have c:j<b.length:=by omega
  have:=FQ (b.getD j (.word false)) a[j] W (t.below hb) ((d j i).below hb) (x _ (by rw[List.getD_eq_getElem?_getD,List.getElem?_eq_getElem c];exact List.getElem_mem c))
  rw[show a[j]=a.getD j .nilIface by rw[List.getD_eq_getElem?_getD,List.getElem?_eq_getElem i];rfl] at this;exact this
 ·rintro e m ⟨k,g,l,n,f,rfl,r,c,p,s,q⟩;refine⟨k,g,l,n,f,rfl,r,c,?_,s,?_⟩
  ·rw[o,Xf] at p;exact p
  ·rw[o,Xf] at q;rw[o];exact q
theorem FR(x:Option Rd.V)(u:Value)(w:World)(k:qD w)(i:OAt w x u)(s:∀v,x=some v->Rd.Good 4000 v):Calls prog 101 #[u] w (Xo w x):=by
 cases x with
 | none=>
  have P:u = .nilIface:=i;subst P;clear k i s;go_enter func101,ntmps101
  go_wp2
  go_ret2;exact⟨_,_,rfl,.inl ⟨rfl,rfl⟩,Below.refl _ _,qA.nil _ _⟩
 | some v=>
  by_cases h:∃a,v = .list a
  ·obtain⟨a,rfl⟩:=h;have B:ValAt w (λb=>b<w.heap.size) (.list a) u:=i;have g:∀v ∈ a,Rd.Good 4000 v:=by have:=s _ rfl;cases this with|list _ _ h=>exact h
   have R:=Ul;have f:Rd.yl (some (.list a))=if 5<a.length then 1 else Rd.zN (a.map Rd.condC):=rfl
   have r:Zh (some (.list a))=if 5<a.length then [] else a.map yj:=rfl
   unfold Xo;rw[f,r];clear f r i s
   cases B with
   | list _ F ao cap L l t=>
    by_cases hbad:5<a.length
    ·rw[if_pos hbad,if_pos hbad];obtain⟨n,A⟩:=Nm F.length;rw[A];have O:decide ((5:Int)<(n:Int))=true:=by simp;omega
     clear l t g k;go_enter func101,ntmps101
     go_wp2
     go_ret2;exact⟨_,_,rfl,.inr (.inl ⟨rfl,_,rfl⟩),Below.refl _ _,qA.nil _ _⟩
    ·rw[if_neg hbad,if_neg hbad]
     have G:=rq a F ao cap w k L (by omega) (by
       rcases l with l|⟨b,ha,_,f⟩
       ·exact .inl l
       ·exact .inr ⟨b,0,ha,λj M=>by rw[Nat.zero_add];exact f j _ (List.getElem?_eq_getElem M)⟩) (λj y v Q B=>t j y v Q B) g
     have m:=λW (hb:Below w.heap.size w W)=>(k.below hb).d.err;clear l t g k;obtain⟨n,A⟩:=Nm F.length;rw[A] at G |-;have N:n<=5:=by omega
     have O:decide ((5:Int)<(n:Int))=false:=by simp;omega
     go_enter func101,ntmps101
     go_wp2_with (first
      | (go_at_call 102;refine H.mono ?_;rintro e Y ⟨v,rfl,z,o⟩)
      | (go_at_call 153;refine G.mono ?_;rintro e I ⟨U,J,X,K,S,rfl,E,C,D,c,q⟩;have H:=QW _ S J K I (m I c) (by omega) C D;rw[E] at H))
     go_ret2;exact⟨_,_,rfl,z,c.trans (o.mono c.size),q.below o⟩
  ·have p:∀a,some v≠some (.list a):=λa e=>h ⟨a,by simpa using e⟩;have R:=λW=>Um i p W;obtain⟨T,y,rfl⟩:=ValAt.iface (show ValAt w (λb=>b<w.heap.size) v u from i)
   have f:Rd.yl (some v)=1:=by
    cases v with
    | list a=>exact absurd ⟨a,rfl⟩ h
    | _=>rfl
   have r:Zh (some v)=[]:=by
    cases v with
    | list a=>exact absurd ⟨a,rfl⟩ h
    | _=>rfl
   unfold Xo;rw[f,r];clear i p k s f r h;go_enter func101,ntmps101
   go_wp2
   go_ret2;exact⟨_,_,rfl,.inr (.inl ⟨rfl,_,rfl⟩),Below.refl _ _,qA.nil _ _⟩
end Go.Proofs.YtdakgnaojakldaaGreatDoor
