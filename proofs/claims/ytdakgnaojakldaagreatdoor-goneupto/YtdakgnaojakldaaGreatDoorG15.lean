/- P -/
import Derived.Test.YtdakgnaojakldaaGreatDoorG14
open Go.Proofs.Tryz
set_option maxRecDepth 100000
set_option maxHeartbeats 2000000
namespace Go.Proofs.YtdakgnaojakldaaGreatDoor
open Go.RowKit
structure xQ (w:World) (ms:List (BA×Rd.V)) (us:List (BA×Value)) (ao:Option Addr) (cap:Nat):Prop where
 env:qW w
 obj:ul w ms us ao
 good:Rd.Good 4000 (.obj ms)
theorem xQ.below{w b:World}{ms:List (BA×Rd.V)}{a:List (BA×Value)}{ao:Option Addr}{cap:Nat}(h:xQ w ms a ao cap)(hb:Below w.heap.size w b):xQ b ms a ao cap:=⟨h.env.below hb,h.obj.below hb,h.good⟩
theorem xQ.len{w:World}{ms:List (BA×Rd.V)}{a:List (BA×Value)}{ao:Option Addr}{cap:Nat}(h:xQ w ms a ao cap):ms.length<=4000:=by
 have:=h.good
 cases this with|obj _ h=>exact h
theorem xQ.get{w:World}{ms:List (BA×Rd.V)}{a:List (BA×Value)}{ao:Option Addr}{cap:Nat}(h:xQ w ms a ao cap)(nm:BA) :
  Calls prog 51 #[.slice ao a.length cap,.string nm] w λe b=>e = .returned (qF a nm)/\Below w.heap.size w b:=KU cap h.obj h.len nm
theorem xQ.key{w:World}{ms:List (BA×Rd.V)}{a:List (BA×Value)}{ao:Option Addr}{cap:Nat}(h:xQ w ms a ao cap) :
  Calls prog 98 #[qF a Ref.zm,.func (.func 82) #[] #[]] w (Xa w (Rd.qo Ref.zO (Rd.zf ms Ref.zm)) (Rd.zQ Ref.zO (Rd.zf ms Ref.zm))):=
 aC _ _ _ _ _ 4000 w (enters_of func82 (by kernel_rfl) rfl) (h.obj.get Ref.zm) (λs b=>by have:=Rd.xA h.good Ref.zm _ b;cases this with|str _ h=>exact h) (GA w)
theorem xQ.no{w:World}{ms:List (BA×Rd.V)}{a:List (BA×Value)}{ao:Option Addr}{cap:Nat}(h:xQ w ms a ao cap) :
  Calls prog 201 #[qF a Ref.bNo] w (Uk w (Rd.zf ms Ref.bNo)):=OB _ _ w (h.obj.get Ref.bNo)
theorem xQ.oper{w:World}{ms:List (BA×Rd.V)}{a:List (BA×Value)}{ao:Option Addr}{cap:Nat}(h:xQ w ms a ao cap) :
  Calls prog 200 #[qF a Ref.bOp] w (Ul w (Rd.zf ms Ref.bOp)):=OC _ _ w h.env.ops (h.obj.get Ref.bOp)
theorem xQ.look{w:World}{ms:List (BA×Rd.V)}{a:List (BA×Value)}{ao:Option Addr}{cap:Nat}(h:xQ w ms a ao cap)(k:Nat)(b:k<5) :
  Calls prog (opL k) #[qF a Ref.zo] w (Z4 w (Rd.qI (opN k) (Rd.zf ms Ref.zo)) (Rd.zX (opN k) (Rd.zf ms Ref.zo))):=
 MV h.env.d k b w _ _ (λv c=>Rd.xA h.good Ref.zo v c) (h.obj.get Ref.zo) (Below.refl _ _)
theorem MQ(k:Nat)(a:k<5):∀args w,(callFunc (opL k) args).run prog w = .ok (.enter (opL k) args) w:=by
 rcases lt5 a with rfl|rfl|rfl|rfl|rfl
 ·exact enters_of func320 (by kernel_rfl) rfl
 ·exact enters_of func322 (by kernel_rfl) rfl
 ·exact enters_of func324 (by kernel_rfl) rfl
 ·exact enters_of func326 (by kernel_rfl) rfl
 ·exact enters_of func328 (by kernel_rfl) rfl
theorem FV.cells{c:Nat}{u:Value}(h:FV c u):Value.cells.match_1 (λ_=>Array Value) u (λcs=>cs) (λv=>#[v])=#[u]:=by
 rcases h.form with rfl|⟨T,x,rfl⟩
 ·rfl
 ·rfl
theorem Fa{a b c:Nat}{u v x:Value}(f:FV a u)(g:FV b v)(h:FV c x):FVs [a,b,c] [u,v,x]:=by
 refine⟨rfl,λj d y hd e=>?_⟩
 match j with
 | 0=>simp at hd e;subst hd;subst e;exact f
 | 1=>simp at hd e;subst hd;subst e;exact g
 | 2=>simp at hd e;subst hd;subst e;exact h
 | j+3=>simp at hd
theorem Eh{W:World}{b:Nat}{u v x:Value}{t:TypeId}(h:W.heap[b]?=some (.cells #[u,v,x] t (0,0))):yM W (some ⟨b,0,none⟩) [u,v,x]:=by
 refine .inr ⟨b,0,rfl,λj a=>?_⟩;simp only[List.length_cons,List.length_nil] at a;rw[Nat.zero_add,(za h j).1]
 have:j=0\/j=1\/j=2:=by omega
 rcases this with rfl|rfl|rfl<;>rfl
theorem Ox(ms:List (BA×Rd.V))(us:List (BA×Value))(ao:Option Addr)(cap:Nat)(w:World)(hI:xQ w ms us ao cap)(ho:Rd.zM ms [Ref.bOp,Ref.zm,Ref.zo,Ref.bNo]=true) :
  Calls prog 154 #[.iface 118 (.slice ao us.length cap)] w (YJ w (.obj ms)):=by
 have hC:=Vb ms;rw[ho] at hC;simp only[if_true] at hC
 have hS:yx (.obj ms)=match kw (Rd.zf ms Ref.bOp) with
  | some k=>⟨opN k,Rd.qo Ref.zO (Rd.zf ms Ref.zm),Rd.qI (opN k) (Rd.zf ms Ref.zo),Rd.uB (Rd.zf ms Ref.bNo)⟩
  | none=>Za:=by simp only[yx];rw[ho];rfl
 have d7:=nB w ui;have M:=d7.alloc (by simp) ZC;have hr:=lY (w.alloc ui) Ref.bOp Ref.zm Ref.zo Ref.bNo 9;rw[World.size_alloc] at hr;have cR:=JB ms us ao cap [Ref.bOp,Ref.zm,Ref.zo,Ref.bNo] (some ⟨w.heap.size+1,0,none⟩) 4 ((w.alloc ui).alloc ZC) (by simp) hI.len hr (hI.obj.below M) true ho;simp only[if_true,List.length_cons,List.length_nil] at cR;have cG:=λW nm (h:Below w.heap.size w W)=>(hI.below h).get nm;have c:=λW (h:Below w.heap.size w W)=>(hI.below h).oper;have j:=λW (h:Below w.heap.size w W)=>(hI.below h).key;have B:=λW (h:Below w.heap.size w W)=>(hI.below h).no;have n:=λk hk W (h:Below w.heap.size w W)=>(hI.below h).look k hk;have L:=λW (h:Below w.heap.size w W)=>(hI.below h).env.d.err;unfold YJ;rw[hC,hS];obtain⟨F,hF⟩:=Nm (kw (Rd.zf ms Ref.bOp));rw[hF];unfold Ul at c;simp only[hF] at c
 have b5:∀k,F=some k->k<5:=by
  intro k hk;rw[hk] at hF;unfold kw at hF
  split at hF
  ·exact (KZ hF).1
  ·cases hF
 obtain⟨j8,a6⟩:∃x,qF us Ref.bOp=x:=⟨_,rfl⟩;obtain⟨h5,S⟩:∃x,qF us Ref.zm=x:=⟨_,rfl⟩;obtain⟨j7,a5⟩:∃x,qF us Ref.bNo=x:=⟨_,rfl⟩;obtain⟨h6,T⟩:∃x,qF us Ref.zo=x:=⟨_,rfl⟩;have H:=λW h=>cG W Ref.bOp h;have I:=λW h=>cG W Ref.zm h;have J:=λW h=>cG W Ref.zo h;have K:=λW h=>cG W Ref.bNo h;simp only[a6] at H c;simp only[S] at I j;simp only[T] at J n;simp only[a5] at K B;generalize Rd.qo Ref.zO (Rd.zf ms Ref.zm)=KS at j |-;generalize Rd.zQ Ref.zO (Rd.zf ms Ref.zm)=KC at j |-;clear hI ho hS hC hF a6 S a5 T cG hr;unfold ZC ui at cR;unfold ui at d7;unfold ZC ui at M;unfold Ref.bOp Ref.zm Ref.zo Ref.bNo at cR M;unfold Ref.bOp at H;unfold Ref.zm at I;unfold Ref.zo at J;unfold Ref.bNo at K
 cases F with
 | none=>
  clear I J K j B n b5 L;unfold opV at c;simp only at c;go_enter func154,ntmps154
  go_wp2_with (first
   | (go_at_call 200;refine (c w2 l).mono ?_;rintro e w3 ⟨u,rfl,c4,s⟩;rcases c4 with ⟨h,_⟩|⟨_,p,rfl⟩|⟨h,_⟩;(exfalso;simp at h);rotate_left;(exfalso;simp at h);have f9:Below w.heap.size w w3:=l.trans (s.mono l.size);have o:=ym (q.trans (s.mono q.size));have r0:=(za o 0).1;have r1:=(za o 1).1;have r2:=(za o 2).1;have r3:=(za o 3).1;have f0:=(za o 0).2;have f1:=(za o 1).2;have f2:=(za o 2).2;have f3:=(za o 3).2;simp at r0 r1 r2 r3;have sn:=(λW a m=>run_store prog W a .nilFunc m rfl);have hz:w.heap.size<w3.heap.size:=(by have h1:=q.size;have h2:=s.size;simp at h1;omega);have i6:w.heap.size≠w3.heap.size:=(by omega);obtain⟨s0,s1,s2,s3⟩:=aN (.string ⟨#[]⟩) (.string ⟨#[]⟩) (.slice none 0 0) (.bool false) r0 r1 r2 r3;have q0:=λO=>zD s0 O;have q1:=λO=>zD s1 O;have q2:=λO=>zD s2 O;have q3:=λO=>zD s3 O)
   | (go_at_call 51;refine (H w1 A).mono ?_;rintro e w2 ⟨rfl,i⟩;have l:Below w.heap.size w w2:=A.trans (i.mono A.size);have q:=E.trans (i.mono E.size))
   | (go_at_call 97;refine cR.mono ?_;rintro e w1 ⟨rfl,i⟩;have A:Below w.heap.size w w1:=M.trans (i.mono (by simp;omega));have E:=((Below.refl _ (w.alloc (.cells #[.string ⟨#[]⟩,.string ⟨#[]⟩,.slice none 0 0,.bool false] 241))).alloc (Nat.le_refl _) (.cells #[.string ⟨#[111,112]⟩,.string ⟨#[107,101,121]⟩,.string ⟨#[118,97,108,117,101]⟩,.string ⟨#[110,111]⟩] 9)).trans (i.mono (by simp))))
  exact bodyPost_ret (v := .tuple #[.agg #[.string ⟨#[]⟩,.string ⟨#[]⟩,.slice none 0 0,.bool false],.iface 125 (.agg #[.string p])]) (by simp[results,results154,go_sem,q0,q1,q2,q3]) rfl
   ⟨_,_,rfl,.inr (.inl ⟨rfl,_,rfl⟩),((((f9.setCell (Nat.le_refl _) _).setCell (Nat.le_refl _) _).setCell (Nat.le_refl _) _).setCell (Nat.le_refl _) _).alloc (by simp[World.setCell];omega) _,World.ownsRow_nil _ _ _ _⟩
 | some k=>
  have hk:=b5 k rfl;have cL:=n k hk;have eL:=MQ k hk;unfold opV at c;simp only at c;dsimp only;generalize Rd.qI (opN k) (Rd.zf ms Ref.zo)=LS at cL |-;generalize Rd.zX (opN k) (Rd.zf ms Ref.zo)=LC at cL |-;generalize opN k=N at c |-;generalize opT k=ft at c;generalize opL k=fl at c cL eL;obtain⟨nt,c6⟩:∃x,Rd.uB (Rd.zf ms Ref.bNo)=x:=⟨_,rfl⟩;obtain⟨NC,b6⟩:∃x,Rd.cls (Rd.yP (Rd.zf ms Ref.bNo)) false=x:=⟨_,rfl⟩;unfold Uk at B;simp only[c6,b6] at B;simp only[c6,b6];clear n b5 hk c6 b6;have sf:=λW a g m=>run_store prog W a (.func (.func g) #[] #[]) m rfl;go_enter func154,ntmps154
  go_upto_region 8 with (first
   | (go_at_call 98;refine (j w4 b1).mono ?_;rintro e w5 ⟨U,rfl,e1,b8⟩;have r:Below w.heap.size w w5:=b1.trans (b8.mono b1.size);have a9:=d1.trans (b8.mono d1.size);have g1:=d6.trans (b8.mono d6.size))
   | (go_at_call 51;refine (I _ G).mono ?_;rintro e w4 ⟨rfl,b7⟩;have b1:Below w.heap.size w w4:=G.trans (b7.mono G.size);have d1:=a4.trans (b7.mono a4.size);have d6:=b7)
   | (go_at_call 200;refine (c w2 l).mono ?_;rintro e w3 ⟨u,rfl,c4,s⟩;rcases c4 with ⟨_,rfl⟩|⟨h,_⟩|⟨h,_⟩;rotate_left;(exfalso;simp at h);(exfalso;simp at h);have G:=(l.trans (s.mono l.size)).alloc (l.trans (s.mono l.size)).size (.cells #[.string N,.func (.func fl) #[] #[],.func (.func ft) #[] #[]] 342);have a4:=(q.trans (s.mono q.size)).alloc (q.trans (s.mono q.size)).size (.cells #[.string N,.func (.func fl) #[] #[],.func (.func ft) #[] #[]] 342))
   | (go_at_call 51;refine (H w1 A).mono ?_;rintro e w2 ⟨rfl,i⟩;have l:Below w.heap.size w w2:=A.trans (i.mono A.size);have q:=E.trans (i.mono E.size))
   | (go_at_call 97;refine cR.mono ?_;rintro e w1 ⟨rfl,i⟩;have A:Below w.heap.size w w1:=M.trans (i.mono (by simp;omega));have E:=((Below.refl _ (w.alloc (.cells #[.string ⟨#[]⟩,.string ⟨#[]⟩,.slice none 0 0,.bool false] 241))).alloc (Nat.le_refl _) (.cells #[.string ⟨#[111,112]⟩,.string ⟨#[107,101,121]⟩,.string ⟨#[118,97,108,117,101]⟩,.string ⟨#[110,111]⟩] 9)).trans (i.mono (by simp))))
  have c8:=ym g1;have o0:=(za c8 0).1;have o1:=(za c8 1).1;simp at o0 o1;clear cR H c I j
  go_cut [9,10] (λa b wx=>∃y z,a = .slice y LS.length z/\FV LC b/\Below w5.heap.size w5 wx/\wx.ownsRow w5.heap.size 9 1 (.slice y LS.length z) LS.length (LS.map Value.string))
  case first=>
   go_region_with (first
    | (go_at_call 51;refine (J _ (by first|exact r|exact r.drew|exact r.drew.drew|exact r.drew.drew.drew)).mono ?_;rintro e w6 ⟨rfl,d8⟩;have t:Below w5.heap.size w5 w6:=(by first|exact d8|exact QC d8);have o6:=zb t o1;have Z:Below w.heap.size w w6:=r.trans (t.mono r.size))
    | (go_at_fn fl;refine (cL _ (by first|exact Z|exact Z.drew|exact Z.drew.drew|exact Z.drew.drew.drew)).mono ?_;rintro e w7 ⟨lv,D,rfl,a2,d9,Q⟩;obtain⟨y,z,rfl⟩:=qJ Q))
   all_goals
    have e0:Below w6.heap.size w6 w7:=(by first|exact d9|exact QC d9)
    have a8:=hid (And.intro a2 (And.intro (t.trans (e0.mono t.size)) (yD Q (show w5.heap.size<=_ from t.size))))
    go_wp2_with fail
    go_meet
    exact⟨y,z,rfl,a8.out.1,a8.out.2.1,a8.out.2.2⟩
  case rest=>
   obtain⟨y,z,rfl,a2,b9,c7⟩:=hcut;have b4:Below w.heap.size w wc:=r.trans (b9.mono r.size);have Y:=a9.trans (b9.mono a9.size);have e4:=zb b9 o0;clear J cL eL o1 c8
   go_upto_region 11 with (first
    | (go_at_call 201;refine (B w8 b2).mono ?_;rintro e C ⟨X,rfl,e2,a1⟩;have o9:=zb a1 o8)
    | (go_at_call 51;refine (K wc b4).mono ?_;rintro e w8 ⟨rfl,P⟩;have b2:Below w.heap.size w w8:=b4.trans (P.mono b4.size);have o8:=zb P e4))
   obtain⟨D,rfl⟩:∃x,x=u10:=⟨_,rfl⟩;have b3:Below w.heap.size w C:=b2.trans (a1.mono b2.size);have b0:=(Y.trans (P.mono Y.size)).trans (a1.mono (Y.trans (P.mono Y.size)).size);have R:=ownsRow_below (ownsRow_below c7 P) a1;have bA:Below w.heap.size w ((C.alloc (.cells #[.string N,.string KS,.slice y LS.length z,.bool nt] 241)).alloc (.cells #[U,D,X] 74)):=(b3.alloc b3.size _).alloc (by have:=b3.size;simp;omega) _;have aA:=(b0.alloc b0.size (.cells #[.string N,.string KS,.slice y LS.length z,.bool nt] 241)).alloc (by have:=b0.size;simp at this |-;omega) (.cells #[U,D,X] 74);have g2:((C.alloc (.cells #[.string N,.string KS,.slice y LS.length z,.bool nt] 241)).alloc (.cells #[U,D,X] 74)).heap[C.heap.size]?=some (.cells #[.string N,.string KS,.slice y LS.length z,.bool nt] 241):=(kC C (.cells #[.string N,.string KS,.slice y LS.length z,.bool nt] 241) (.cells #[U,D,X] 74)).1;have g3:((C.alloc (.cells #[.string N,.string KS,.slice y LS.length z,.bool nt] 241)).alloc (.cells #[U,D,X] 74)).heap[C.heap.size+1]?=some (.cells #[U,D,X] 74):=(kC C (.cells #[.string N,.string KS,.slice y LS.length z,.bool nt] 241) (.cells #[U,D,X] 74)).2
   have g0:∀W:World,Below w.heap.size w W->W.heap[C.heap.size+1]?=some (.cells #[U,D,X] 74)->Calls prog 102 #[.slice (some ⟨C.heap.size+1,0,none⟩) 3 3] W λe w'=>∃u,e = .returned u/\FV (Rd.zW [KC,LC,NC]) u/\Below W.heap.size W w':=λW hW hg=>
    Yb [KC,LC,NC] [U,D,X] _ 3 W (L W hW) (by simp) (Eh hg) (Fa e1 a2 e2)
   clear L K B o0 e4 o8 o9;have kK:=e1.cells;have kV:=a2.cells;have kN:=e2.cells
   go_region_with (go_at_call 102;refine (g0 _ (by first|exact bA|exact bA.drew|exact bA.drew.drew) (by first|exact g3)).mono ?_;rintro e g7 ⟨uR,rfl,e3,hb10⟩;have f:Below ((C.alloc (.cells #[.string N,.string KS,.slice y LS.length z,.bool nt] 241)).alloc (.cells #[U,D,X] 74)).heap.size ((C.alloc (.cells #[.string N,.string KS,.slice y LS.length z,.bool nt] 241)).alloc (.cells #[U,D,X] 74)) g7:=(by first|exact hb10|exact QC hb10|exact QC (QC hb10));have o:=ym (aA.trans (f.mono aA.size));have r0:=(za o 0).1;have r1:=(za o 1).1;have r2:=(za o 2).1;have r3:=(za o 3).1;have f0:=(za o 0).2;have f1:=(za o 1).2;have f2:=(za o 2).2;have f3:=(za o 3).2;simp at r0 r1 r2 r3;have bC:=(f.block C.heap.size (by simp;omega)).trans g2;have c0:=(za bC 0).1;have c1:=(za bC 1).1;have c2:=(za bC 2).1;have c3:=(za bC 3).1;simp at c0 c1 c2 c3)
   all_goals
    have s4:=aN (.string N) (.string KS) (.slice y LS.length z) (.bool nt) r0 r1 r2 r3;have BW:=hid (bA.trans (f.mono bA.size));have OW:=hid (ownsRow_below ((R.alloc _).alloc _) f);have a3:w.heap.size<w5.heap.size:=by have h1:=a9.size;simp at h1;omega
    have f8:=hid e3;clear e3 hb10 f o bC R;go_wp2_with fail
    exact bodyPost_ret (v := .tuple #[.agg #[.string N,.string KS,.slice y LS.length z,.bool nt],uR]) (by simp[results,results154,go_sem,s4]) rfl
     ⟨_,_,rfl,f8.out,(((BW.out.setCell (Nat.le_refl _) _).setCell (Nat.le_refl _) _).setCell (Nat.le_refl _) _).setCell (Nat.le_refl _) _,yD (zK (zK (zK (zK OW.out a3 _ _) a3 _ _) a3 _ _) a3 _ _) (by omega)⟩
theorem Oy(x:Rd.V)(u:Value)(w:World)(c:qW w)(b:OAt w (some x) u)(a:Rd.Good 4000 x):Calls prog 154 #[u] w (YJ w x):=by
 by_cases h:∃ms,x = .obj ms/\Rd.zM ms [Ref.bOp,Ref.zm,Ref.zo,Ref.bNo]=true
 ·obtain⟨ms,rfl,f⟩:=h;obtain⟨g,ao,cap,rfl,d⟩:=Yn b;exact Ox ms g ao cap w ⟨c,d,a⟩ f
 ·refine Ow x u w b a (λms e=>?_)
  cases hc:Rd.zM ms [Ref.bOp,Ref.zm,Ref.zo,Ref.bNo] with
  | false=>rfl
  | true=>exact absurd ⟨ms,e,hc⟩ h
def zx(w:World)(base:Nat)(lv:Value)(a:List BA):Prop:=w.ownsRow base 9 1 lv a.length (a.map Value.string)
def ZV(w:World)(base:Nat)(xs:List Value)(j:Nat)(c:zJ):Prop:=
 ∃lv,xs[j*4]?=some (.string c.op)/\xs[j*4+1]?=some (.string c.key)/\xs[j*4+2]?=some lv/\xs[j*4+3]?=some (.bool c.no)/\zx w base lv c.vals
theorem ZV.below{w a:World}{base:Nat}{xs:List Value}{j:Nat}{c:zJ}(h:ZV w base xs j c)(hb:Below w.heap.size w a):ZV a base xs j c:=by
 obtain⟨lv,b,d,e,f,g⟩:=h;exact⟨lv,b,d,e,f,ownsRow_below g hb⟩
theorem ZV.set{w:World}{base:Nat}{xs:List Value}{j:Nat}{c:zJ}(h:ZV w base xs j c){b:Nat}(hb:b<base)(o:Nat)(u:Value):ZV (w.setCell ⟨b,o,none⟩ u) base xs j c:=by
 obtain⟨lv,a,d,e,f,g⟩:=h;exact⟨lv,a,d,e,f,zK g hb o u⟩
def qx(w:World)(base:Nat)(lv:Value)(cs:List zJ):Prop:=
 ∃xs,w.ownsRow base 241 4 lv cs.length xs/\∀j,(h:j<cs.length)->ZV w base xs j cs[j]
def sS(g:Nat)(d:Array Value)(b:Nat->Value)(n:Nat)(cs:Nat->zJ)(c:Nat->Nat)(w:World):Prop:=
 ∀W j,j<n->Below w.heap.size w W->Calls prog g (#[b j]++d) W λe a=>
  ∃lv u,e = .returned (.tuple #[.agg #[.string (cs j).op,.string (cs j).key,lv,.bool (cs j).no],u])/\FV (c j) u/\Below W.heap.size W a/\zx a W.heap.size lv (cs j).vals
def sN(w:World)(n:Nat)(cs:Nat->zJ)(c:Nat->Nat)(e:Ending)(a:World):Prop:=
 ∃(f d:Option Addr) (g h:Nat) (b:List Value),e = .returned (.tuple #[.slice f n g,.slice d n h])/\b.length=n/\yM a d b/\FVs ((List.range n).map c) b/\Below w.heap.size w a /\
  qx a w.heap.size (.slice f n g) ((List.range n).map cs)
theorem Gm:(prog.info? 241).map (λi=>(i.zero,i.size,i.bytes))=some (some (.agg #[.string ⟨#[]⟩,.string ⟨#[]⟩,.slice none 0 0,.bool false]),4,64):=by kernel_rfl
theorem nD{w:World}{base:Nat}{e:TypeId}{v:Value}{n:Nat}{xs:List Value}(h:w.ownsRow base e 4 v n xs){b:Nat}(hb:v.ownBlock≠some b)(o:Nat)(u:Value):(w.setCell ⟨b,o,none⟩ u).ownsRow base e 4 v n xs:=
 ownsRow_setCell_other h (a:=⟨b,o,none⟩) hb u
theorem Du(C:List Value)(ao:Option Addr)(cap g:Nat)(lb:Array Value)(cs:Nat->zJ)(c:Nat->Nat)(w:World)(hn:C.length<=1000)(eg:∀args w,(callFunc g args).run prog w = .ok (.enter g args) w)
  (hm:yM w ao C)(a9:∀u ∈ C,u = .nilIface\/∃T x,u = .iface T x)(hp:sS g lb (λj=>C.getD j .nilIface) C.length cs c w) :
  Calls prog 153 #[.slice ao C.length cap,.func (.func g) #[] lb] w (sN w C.length cs c):=by
 obtain⟨i0,hi,d8,d9,e0⟩:=info_parts Gm;obtain⟨i1,Q,d7,hy1,hy2⟩:=info_parts (show (prog.info? 74).map (λi=>(i.zero,i.size,i.bytes))=some (some .nilIface,1,16) by kernel_rfl);obtain⟨n,U⟩:=Nm C.length;rw[U] at hn hp |-;have HM:=hid hm;have c1:=hid a9;have HP:=hid hp;have c2:=hid U;clear hm a9 hp U;go_enter func153,ntmps153
 go_wp2_with (at_make;refine wpList_make_full _ rfl _ _ 131 rfl w.heap.size 241 i0 (.agg #[.string ⟨#[]⟩,.string ⟨#[]⟩,.slice none 0 0,.bool false]) 4 underlying131 hi d8 d9 _ _ _ _ n rfl rfl ?_ ?_ ?_ ?_ ?_ ?_)
 ·omega
 ·omega
 ·rw[e0];omega
 ·unfold maxLen;omega
 ·omega
 intro w1 B D;obtain⟨zs,b3⟩:=Nm ((madeCells #[.string ⟨#[]⟩,.string ⟨#[]⟩,.slice none 0 0,.bool false] (n*4)).toList);rw[b3] at B;have A:Below w.heap.size w w1:=(Below.refl _ w).grown D (Nat.le_refl _) (λk hk=>by cases hk);clear b3
 go_wp2_with (at_make;refine wpList_make_full _ rfl _ _ 126 rfl w.heap.size 74 i1 .nilIface 1 underlying126 Q d7 hy1 _ _ _ _ n rfl rfl ?_ ?_ ?_ ?_ ?_ ?_)
 ·omega
 ·omega
 ·rw[hy2];omega
 ·unfold maxLen;omega
 ·have:=A.size;omega
 intro w2 S s
 have O:w2.ownsRow w.heap.size 74 1 (.slice (some ⟨w1.heap.size,0,none⟩) n n) n (List.replicate n .nilIface):=by
  rw[<- toList_madeCells_one];exact S
 have R:=B.kept s (.inr (by simp[Value.ownBlock]));have b0:w.heap.size<w1.heap.size:=(B.lt _ rfl).2;have P:Below w.heap.size w w2:=A.grown s A.size (λk hk=>by cases hk);have I:w1.heap.size<w2.heap.size:=(O.lt _ rfl).2;obtain⟨r,a7⟩:=Nm w1.heap.size;rw[a7] at O b0 I |-;have b1:w.heap.size≠r:=by omega
 have a4:=hid R;have a5:=hid O;have X:=hid P;have Y:=hid I;clear S s D B A R O P a7 I;go_wp2_with fail
 go_loopw [18] (λiv wr=>∃(k:Nat) (xs W:List Value),k<=n/\iv = .int .i64 k/\jJ c n k W/\wr.ownsRow w.heap.size 241 4 (.slice (some ⟨w.heap.size,0,none⟩) n n) n xs/\wr.ownsRow w.heap.size 74 1 (.slice (some ⟨r,0,none⟩) n n) n W/\Below w.heap.size w wr/\r<wr.heap.size/\(∀j,j<k->ZV wr (r+1) xs j (cs j))) (λiv _=>n-(intOf iv).toNat)
 case atStart=>exact⟨0,_,_,Nat.zero_le _,rfl,jJ.start c n,a4.out,a5.out,X.out,Y.out,λj Q=>by omega⟩
 case round=>
  obtain⟨k,xs,W,hk,rfl,b2,ro,re,rb,j3,rc⟩:=hrel;clear a4 a5 X Y;have RO:=hid ro;have RE:=hid re;have RB:=hid rb;have L:=hid b2;have RC:=hid rc;clear ro re rb b2 rc
  by_cases hlt:k<n
  ·have H:k<C.length:=by rw[c2.out];exact hlt
   have a8:C.getD k .nilIface=C[k]:=by rw[List.getD_eq_getElem?_getD,List.getElem?_eq_getElem H];rfl
   have J:=HP.out wr k hlt RB.out;have hv:=c1.out C[k] (List.getElem_mem H)
   rcases HM.out with hnil|⟨b,o,hao,hc⟩
   ·rw[hnil] at H;simp at H
   subst hao;have q:=zb RB.out (hc k H);simp only[a8] at J;obtain⟨u,hu⟩:=Nm (C[k]);rw[hu] at q J hv;obtain⟨p,F⟩:∃x,(cs k).op=x:=⟨_,rfl⟩;obtain⟨d,t⟩:∃x,(cs k).key=x:=⟨_,rfl⟩;obtain⟨m,E⟩:∃x,(cs k).no=x:=⟨_,rfl⟩;rw[F,t,E] at J;have b8:=hid F;have b9:=hid t;have c0:=hid E;clear hu hc a8 F t E;have V:xs.length=n*4:=RO.out.1;have Z:=hid V;clear V
   have cells:Hid (∀l,Below wr.heap.size wr l->(∃M,l.cell? ⟨w.heap.size,k*4,none⟩=some M)/\(∃M,l.cell? ⟨w.heap.size,k*4+1,none⟩=some M)/\(∃M,l.cell? ⟨w.heap.size,k*4+2,none⟩=some M)/\(∃M,l.cell? ⟨w.heap.size,k*4+3,none⟩=some M) /\
     l.frozen? ⟨w.heap.size,k*4,none⟩=false/\l.frozen? ⟨w.heap.size,k*4+1,none⟩=false/\l.frozen? ⟨w.heap.size,k*4+2,none⟩=false/\l.frozen? ⟨w.heap.size,k*4+3,none⟩=false/\l.cell? ⟨r,k,none⟩=some .nilIface/\l.frozen? ⟨r,k,none⟩=false):=by
    intro l f;have K:=ownsRow_below RO.out f;have e3:=ownsRow_below RE.out f;have hx:=Z.out
    exact⟨⟨_,(K.cellAt _ (by omega)).trans (List.getElem?_eq_getElem (by omega))⟩,⟨_,(K.cellAt _ (by omega)).trans (List.getElem?_eq_getElem (by omega))⟩,⟨_,(K.cellAt _ (by omega)).trans (List.getElem?_eq_getElem (by omega))⟩,⟨_,(K.cellAt _ (by omega)).trans (List.getElem?_eq_getElem (by omega))⟩,
     K.frozenAt _,K.frozenAt _,K.frozenAt _,K.frozenAt _,(e3.cellAt k (by omega)).trans (L.out.2.2 k (Nat.le_refl _) hlt),e3.frozenAt k⟩
   have fin:Hid (∀l lv x,Below wr.heap.size wr l->FV (c k) x->zx l wr.heap.size lv (cs k).vals ->
     jJ c n (k+1) (W.set k x) /\
     (((((l.setCell ⟨w.heap.size,k*4,none⟩ (.string p)).setCell ⟨w.heap.size,k*4+1,none⟩ (.string d)).setCell ⟨w.heap.size,k*4+2,none⟩ lv).setCell ⟨w.heap.size,k*4+3,none⟩ (.bool m)).setCell ⟨r,k,none⟩ x).ownsRow w.heap.size 241 4 (.slice (some ⟨w.heap.size,0,none⟩) n n) n ((((xs.set (k*4) (.string p)).set (k*4+1) (.string d)).set (k*4+2) lv).set (k*4+3) (.bool m)) /\
     (((((l.setCell ⟨w.heap.size,k*4,none⟩ (.string p)).setCell ⟨w.heap.size,k*4+1,none⟩ (.string d)).setCell ⟨w.heap.size,k*4+2,none⟩ lv).setCell ⟨w.heap.size,k*4+3,none⟩ (.bool m)).setCell ⟨r,k,none⟩ x).ownsRow w.heap.size 74 1 (.slice (some ⟨r,0,none⟩) n n) n (W.set k x) /\
     Below w.heap.size w (((((l.setCell ⟨w.heap.size,k*4,none⟩ (.string p)).setCell ⟨w.heap.size,k*4+1,none⟩ (.string d)).setCell ⟨w.heap.size,k*4+2,none⟩ lv).setCell ⟨w.heap.size,k*4+3,none⟩ (.bool m)).setCell ⟨r,k,none⟩ x) /\
     r<(((((l.setCell ⟨w.heap.size,k*4,none⟩ (.string p)).setCell ⟨w.heap.size,k*4+1,none⟩ (.string d)).setCell ⟨w.heap.size,k*4+2,none⟩ lv).setCell ⟨w.heap.size,k*4+3,none⟩ (.bool m)).setCell ⟨r,k,none⟩ x).heap.size /\
     (∀j,j<k+1->ZV (((((l.setCell ⟨w.heap.size,k*4,none⟩ (.string p)).setCell ⟨w.heap.size,k*4+1,none⟩ (.string d)).setCell ⟨w.heap.size,k*4+2,none⟩ lv).setCell ⟨w.heap.size,k*4+3,none⟩ (.bool m)).setCell ⟨r,k,none⟩ x) (r+1) ((((xs.set (k*4) (.string p)).set (k*4+1) (.string d)).set (k*4+2) lv).set (k*4+3) (.bool m)) j (cs j))):=by
    intro l lv x f hx v;have K:=ownsRow_below RO.out f;have e3:=ownsRow_below RE.out f;have o4:=((((K.stored (k*4) (.string p)).1.stored (k*4+1) (.string d)).1.stored (k*4+2) lv).1.stored (k*4+3) (.bool m)).1;have N:(Value.slice (some ⟨r,0,none⟩) n n).ownBlock≠some w.heap.size:=by simp only[Value.ownBlock];intro e;simp only[Option.some.injEq] at e;exact b1 e.symm
    have e4:=ownsRow_setCell_other (ownsRow_setCell_other (ownsRow_setCell_other (ownsRow_setCell_other e3 (a:=⟨w.heap.size,k*4,none⟩) N (.string p)) (a:=⟨w.heap.size,k*4+1,none⟩) N (.string d)) (a:=⟨w.heap.size,k*4+2,none⟩) N lv) (a:=⟨w.heap.size,k*4+3,none⟩) N (.bool m);have hz:=f.size;have V:=Z.out;refine⟨L.out.set hlt hx,nD o4 (by simp only[Value.ownBlock];intro e;simp only[Option.some.injEq] at e;exact b1 e) _ _,(e4.stored k x).1,(((((RB.out.trans (f.mono RB.out.size)).setCell (Nat.le_refl _) _).setCell (Nat.le_refl _) _).setCell (Nat.le_refl _) _).setCell (Nat.le_refl _) _).setCell (by show w.heap.size<=r;omega) _,by simp[World.setCell];omega,λj Q=>?_⟩
    by_cases hjk:j=k
    ·subst hjk;refine⟨lv,?_,?_,?_,?_,zK (zK (zK (zK (zK (yD v (by omega)) (by omega) _ _) (by omega) _ _) (by omega) _ _) (by omega) _ _) (by omega) _ _⟩
     ·simp[List.getElem?_set,b8.out];omega
     ·simp[List.getElem?_set,b9.out];omega
     ·simp[List.getElem?_set];omega
     ·simp[List.getElem?_set,c0.out];omega
    ·have c9:=(((((((RC.out j (by omega)).below f).set (b:=w.heap.size) (by omega) (k*4) (.string p)).set (b:=w.heap.size) (by omega) (k*4+1) (.string d)).set (b:=w.heap.size) (by omega) (k*4+2) lv).set (b:=w.heap.size) (by omega) (k*4+3) (.bool m)).set (b:=r) (by omega) k x);obtain⟨l0,h0,h1,h2,h3,h4⟩:=c9;refine⟨l0,?_,?_,?_,?_,h4⟩
     ·rw[List.getElem?_set,if_neg (by omega),List.getElem?_set,if_neg (by omega),List.getElem?_set,if_neg (by omega),List.getElem?_set,if_neg (by omega)];exact h0
     ·rw[List.getElem?_set,if_neg (by omega),List.getElem?_set,if_neg (by omega),List.getElem?_set,if_neg (by omega),List.getElem?_set,if_neg (by omega)];exact h1
     ·rw[List.getElem?_set,if_neg (by omega),List.getElem?_set,if_neg (by omega),List.getElem?_set,if_neg (by omega),List.getElem?_set,if_neg (by omega)];exact h2
     ·rw[List.getElem?_set,if_neg (by omega),List.getElem?_set,if_neg (by omega),List.getElem?_set,if_neg (by omega),List.getElem?_set,if_neg (by omega)];exact h3
   rcases hv with rfl|⟨T,y,rfl⟩
   ·go_wp2_with (go_at_fn g;refine J.mono ?_;rintro e l ⟨lv,x,rfl,G,f,v⟩;obtain⟨⟨M,d0⟩,⟨a1,d1⟩,⟨a2,d2⟩,⟨a3,d3⟩,g0,g1,g2,g3,d4,g4⟩:=cells.out l f;have h:=hid (fin.out l lv x f G v);obtain⟨la,lc,rfl⟩:=qJ v;rcases G.form with rfl|⟨T,z,rfl⟩)
    all_goals
     go_roundw
     case rel=>exact⟨k+1,_,_,by omega,by go_num,h.out.1,h.out.2.1,h.out.2.2.1,h.out.2.2.2.1,h.out.2.2.2.2.1,h.out.2.2.2.2.2⟩
     case measure=>simp[intOf];omega
   ·go_wp2_with (go_at_fn g;refine J.mono ?_;rintro e l ⟨lv,x,rfl,G,f,v⟩;obtain⟨⟨M,d0⟩,⟨a1,d1⟩,⟨a2,d2⟩,⟨a3,d3⟩,g0,g1,g2,g3,d4,g4⟩:=cells.out l f;have h:=hid (fin.out l lv x f G v);obtain⟨la,lc,rfl⟩:=qJ v;rcases G.form with rfl|⟨T,z,rfl⟩)
    all_goals
     go_roundw
     case rel=>exact⟨k+1,_,_,by omega,by go_num,h.out.1,h.out.2.1,h.out.2.2.1,h.out.2.2.2.1,h.out.2.2.2.2.1,h.out.2.2.2.2.2⟩
     case measure=>simp[intOf];omega
  ·have d5:k=n:=by omega
   subst d5;have hE:=L.out.done;have hl:=L.out.1
   go_wp2
   go_ret2;refine⟨_,_,_,_,W,rfl,hl,?_,hE,RB.out,xs,?_,?_⟩
   ·exact .inr ⟨r,0,rfl,λj Q=>by rw[Nat.zero_add];exact (RE.out.cellAt j (by omega)).trans (List.getElem?_eq_getElem Q)⟩
   ·rw[List.length_map,List.length_range];exact RO.out
   ·intro j Q;rw[List.length_map,List.length_range] at Q;obtain⟨l0,h0,h1,h2,h3,h4⟩:=RC.out j Q;rw[List.getElem_map,List.getElem_range];exact⟨l0,h0,h1,h2,h3,yD h4 (by omega)⟩
def ZE:Option Rd.V->List zJ
 | some (.list vs)=>if 5<vs.length then [] else vs.map yx
 | _=>[]
def YK(w:World)(x:Option Rd.V)(e:Ending)(a:World):Prop:=
 ∃lv u,e = .returned (.tuple #[lv,u])/\FV (Rd.yz x) u/\Below w.heap.size w a/\qx a w.heap.size lv (ZE x)
theorem qx.nil(w:World)(base:Nat):qx w base (.slice none 0 0) []:=⟨[],World.ownsRow_nil _ _ _ _,λj a=>by simp at a⟩
theorem qx.below{w a:World}{base:Nat}{lv:Value}{cs:List zJ}(h:qx w base lv cs)(hb:Below w.heap.size w a):qx a base lv cs:=by
 obtain⟨xs,b,c⟩:=h;exact⟨xs,ownsRow_below b hb,λj d=>(c j d).below hb⟩
theorem qx.mono{w:World}{base a:Nat}{lv:Value}{cs:List zJ}(h:qx w base lv cs)(hb:a<=base):qx w a lv cs:=by
 obtain⟨xs,g,i⟩:=h;refine⟨xs,yD g hb,λj k=>?_⟩;obtain⟨l,b,c,d,e,f⟩:=i j k;exact⟨l,b,c,d,e,yD f hb⟩
theorem qx.set{w:World}{base:Nat}{lv:Value}{cs:List zJ}(h:qx w base lv cs){b:Nat}(hb:b<base)(o:Nat)(u:Value):qx (w.setCell ⟨b,o,none⟩ u) base lv cs:=by
 obtain⟨xs,a,c⟩:=h;exact⟨xs,nD a (by intro d;have:=(a.lt b d).1;omega) o u,λj e=>(c j e).set hb o u⟩
theorem qx.slice{w:World}{base:Nat}{lv:Value}{cs:List zJ}(h:qx w base lv cs):∃a c,lv = .slice a cs.length c:=by
 obtain⟨xs,b,_⟩:=h
 rcases b.2 with ⟨h0,hl⟩|⟨g,c,cur,rfl,_⟩
 ·rw[h0,hl];exact⟨_,_,rfl⟩
 ·exact⟨_,_,rfl⟩
theorem Dv(b:List Rd.V)(a:List Value)(ao:Option Addr)(cap:Nat)(w:World)(t:qW w)(o:a.length=b.length)(z:a.length<=1000)
  (y:yM w ao a)(B:∀(j:Nat) (v:Rd.V) (u:Value),b[j]?=some v->a[j]?=some u->OAt w (some v) u)(x:∀v ∈ b,Rd.Good 4000 v) :
  Calls prog 153 #[.slice ao a.length cap,.func (.func 154) #[] #[]] w λe m=>
   ∃(k g:Option Addr) (l n:Nat) (f:List Value),e = .returned (.tuple #[.slice k a.length l,.slice g a.length n])/\f.length=a.length/\yM m g f/\FVs (b.map Rd.condC) f/\Below w.heap.size w m/\qx m w.heap.size (.slice k a.length l) (b.map yx):=by
 have d:∀j,(h:j<a.length)->OAt w (some (b.getD j (.word false))) a[j]:=λj h=>by
  have c:j<b.length:=by omega
  rw[List.getD_eq_getElem?_getD,List.getElem?_eq_getElem c];exact B j _ _ (List.getElem?_eq_getElem c) (List.getElem?_eq_getElem h)
 refine (Du a ao cap 154 #[] (λj=>yx (b.getD j (.word false))) (λj=>Rd.condC (b.getD j (.word false))) w z (enters_of func154 (by kernel_rfl) rfl) y ?_ ?_).mono ?_
 ·intro u A;obtain⟨j,i,rfl⟩:=List.getElem_of_mem A;exact (d j i).form
 ·intro W j i hb;have c:j<b.length:=by omega
  have:=Oy (b.getD j (.word false)) a[j] W (t.below hb) ((d j i).below hb) (x _ (by rw[List.getD_eq_getElem?_getD,List.getElem?_eq_getElem c];exact List.getElem_mem c))
  rw[show a[j]=a.getD j .nilIface by rw[List.getD_eq_getElem?_getD,List.getElem?_eq_getElem i];rfl] at this;exact this
 ·rintro e m ⟨k,g,l,n,f,rfl,r,c,p,s,q⟩;refine⟨k,g,l,n,f,rfl,r,c,?_,s,?_⟩
  ·rw[o,Yy] at p;exact p
  ·rw[o,Yy] at q;rw[o];exact q
theorem Oz(x:Option Rd.V)(u:Value)(w:World)(k:qW w)(i:OAt w x u)(s:∀v,x=some v->Rd.Good 4000 v):Calls prog 101 #[u] w (YK w x):=by
 cases x with
 | none=>
  have P:u = .nilIface:=i;subst P;clear k i s;go_enter func101,ntmps101
  go_wp2
  go_ret2;exact⟨_,_,rfl,.inl ⟨rfl,rfl⟩,Below.refl _ _,qx.nil _ _⟩
 | some v=>
  by_cases h:∃a,v = .list a
  ·obtain⟨a,rfl⟩:=h;have B:ValAt w (λb=>b<w.heap.size) (.list a) u:=i;have g:∀v ∈ a,Rd.Good 4000 v:=by have:=s _ rfl;cases this with|list _ _ h=>exact h
   have R:=bB;have f:Rd.yz (some (.list a))=if 5<a.length then 1 else Rd.zW (a.map Rd.condC):=rfl
   have r:ZE (some (.list a))=if 5<a.length then [] else a.map yx:=rfl
   unfold YK;rw[f,r];clear f r i s
   cases B with
   | list _ F ao cap L l t=>
    by_cases hbad:5<a.length
    ·rw[if_pos hbad,if_pos hbad];obtain⟨n,A⟩:=Nm F.length;rw[A];have O:decide ((5:Int)<(n:Int))=true:=by simp;omega
     clear l t g k;go_enter func101,ntmps101
     go_wp2
     go_ret2;exact⟨_,_,rfl,.inr (.inl ⟨rfl,_,rfl⟩),Below.refl _ _,qx.nil _ _⟩
    ·rw[if_neg hbad,if_neg hbad]
     have G:=Dv a F ao cap w k L (by omega) (by
       rcases l with l|⟨b,ha,_,f⟩
       ·exact .inl l
       ·exact .inr ⟨b,0,ha,λj M=>by rw[Nat.zero_add];exact f j _ (List.getElem?_eq_getElem M)⟩) (λj y v Q B=>t j y v Q B) g
     have m:=λW (hb:Below w.heap.size w W)=>(k.below hb).d.err;clear l t g k;obtain⟨n,A⟩:=Nm F.length;rw[A] at G |-;have N:n<=5:=by omega
     have O:decide ((5:Int)<(n:Int))=false:=by simp;omega
     go_enter func101,ntmps101
     go_wp2_with (first
      | (go_at_call 102;refine H.mono ?_;rintro e Y ⟨v,rfl,z,o⟩)
      | (go_at_call 153;refine G.mono ?_;rintro e I ⟨U,J,X,K,S,rfl,E,C,D,c,q⟩;have H:=Yb _ S J K I (m I c) (by omega) C D;rw[E] at H))
     go_ret2;exact⟨_,_,rfl,z,c.trans (o.mono c.size),q.below o⟩
  ·have p:∀a,some v≠some (.list a):=λa e=>h ⟨a,by simpa using e⟩;have R:=λW=>bE i p W;obtain⟨T,y,rfl⟩:=ValAt.iface (show ValAt w (λb=>b<w.heap.size) v u from i)
   have f:Rd.yz (some v)=1:=by
    cases v with
    | list a=>exact absurd ⟨a,rfl⟩ h
    | _=>rfl
   have r:ZE (some v)=[]:=by
    cases v with
    | list a=>exact absurd ⟨a,rfl⟩ h
    | _=>rfl
   unfold YK;rw[f,r];clear i p k s f r h;go_enter func101,ntmps101
   go_wp2
   go_ret2;exact⟨_,_,rfl,.inr (.inl ⟨rfl,_,rfl⟩),Below.refl _ _,qx.nil _ _⟩
end Go.Proofs.YtdakgnaojakldaaGreatDoor
