/- P -/
import Derived.Test.YtdakgnaojakldabGreatDoorT15
open Go.Proofs.Tryz
set_option maxRecDepth 100000
set_option maxHeartbeats 2000000
namespace Go.Proofs.YtdakgnaojakldabGreatDoor
open Go.RowKit
structure xC (w:World) (ms:List (BA×Rd.V)) (us:List (BA×Value)) (ao:Option Addr) (cap:Nat):Prop where
 env:qR w
 obj:vS w ms us ao
 good:Rd.Good 4000 (.obj ms)
theorem xC.below{w c:World}{ms:List (BA×Rd.V)}{b:List (BA×Value)}{ao:Option Addr}{cap:Nat}(h:xC w ms b ao cap)(a:Below w.heap.size w c):xC c ms b ao cap:=⟨h.env.below a,h.obj.below a,h.good⟩
theorem xC.len{w:World}{ms:List (BA×Rd.V)}{a:List (BA×Value)}{ao:Option Addr}{cap:Nat}(h:xC w ms a ao cap):ms.length<=4000:=by
 have:=h.good
 cases this with|obj _ h=>exact h
theorem xC.get{w:World}{ms:List (BA×Rd.V)}{a:List (BA×Value)}{ao:Option Addr}{cap:Nat}(h:xC w ms a ao cap)(nm:BA) :
  Calls prog 31 #[.slice ao a.length cap,.string nm] w λe b=>e = .returned (qC a nm)/\Below w.heap.size w b:=UM cap h.obj h.len nm
theorem xC.key{w:World}{ms:List (BA×Rd.V)}{a:List (BA×Value)}{ao:Option Addr}{cap:Nat}(h:xC w ms a ao cap) :
  Calls prog 57 #[qC a Ref.zt,.func (.func 29) #[] #[]] w (QM w (Rd.ql Ref.zM (Rd.zf ms Ref.zt)) (Rd.zL Ref.zM (Rd.zf ms Ref.zt))):=
 U8 _ _ _ _ _ 4000 w (enters_of func29 (by kernel_rfl) rfl) (h.obj.get Ref.zt) (λs b=>by have:=Rd.xg h.good Ref.zt _ b;cases this with|str _ h=>exact h) (Er w)
theorem xC.no{w:World}{ms:List (BA×Rd.V)}{a:List (BA×Value)}{ao:Option Addr}{cap:Nat}(h:xC w ms a ao cap) :
  Calls prog 115 #[qC a Ref.bNo] w (Vt w (Rd.zf ms Ref.bNo)):=Me _ _ w (h.obj.get Ref.bNo)
theorem xC.oper{w:World}{ms:List (BA×Rd.V)}{a:List (BA×Value)}{ao:Option Addr}{cap:Nat}(h:xC w ms a ao cap) :
  Calls prog 114 #[qC a Ref.bOp] w (Vu w (Rd.zf ms Ref.bOp)):=Mf _ _ w h.env.ops (h.obj.get Ref.bOp)
theorem xC.look{w:World}{ms:List (BA×Rd.V)}{a:List (BA×Value)}{ao:Option Addr}{cap:Nat}(h:xC w ms a ao cap)(k:Nat)(b:k<5) :
  Calls prog (opL k) #[qC a Ref.zy] w (ZK w (Rd.qF (opN k) (Rd.zf ms Ref.zy)) (Rd.zU (opN k) (Rd.zf ms Ref.zy))):=
 Iy h.env.d k b w _ _ (λv c=>Rd.xg h.good Ref.zy v c) (h.obj.get Ref.zy) (Below.refl _ _)
theorem Iq(k:Nat)(a:k<5):∀args w,(callFunc (opL k) args).run prog w = .ok (.enter (opL k) args) w:=by
 rcases lt5 a with rfl|rfl|rfl|rfl|rfl
 ·exact enters_of func209 (by kernel_rfl) rfl
 ·exact enters_of func211 (by kernel_rfl) rfl
 ·exact enters_of func213 (by kernel_rfl) rfl
 ·exact enters_of func215 (by kernel_rfl) rfl
 ·exact enters_of func217 (by kernel_rfl) rfl
theorem FV.cells{c:Nat}{u:Value}(h:FV c u):Value.cells.match_1 (λ_=>Array Value) u (λcs=>cs) (λv=>#[v])=#[u]:=by
 rcases h.form with rfl|⟨T,x,rfl⟩
 ·rfl
 ·rfl
theorem CB{a b c:Nat}{u v x:Value}(f:FV a u)(g:FV b v)(h:FV c x):FVs [a,b,c] [u,v,x]:=by
 refine⟨rfl,λj d y hd e=>?_⟩
 match j with
 | 0=>simp at hd e;subst hd;subst e;exact f
 | 1=>simp at hd e;subst hd;subst e;exact g
 | 2=>simp at hd e;subst hd;subst e;exact h
 | j+3=>simp at hd
theorem BD{W:World}{b:Nat}{u v x:Value}{t:TypeId}(h:W.heap[b]?=some (.cells #[u,v,x] t (0,0))):yt W (some ⟨b,0,none⟩) [u,v,x]:=by
 refine .inr ⟨b,0,rfl,λj a=>?_⟩;simp only[List.length_cons,List.length_nil] at a;rw[Nat.zero_add,(za h j).1]
 have:j=0\/j=1\/j=2:=by omega
 rcases this with rfl|rfl|rfl<;>rfl
theorem LY(ms:List (BA×Rd.V))(us:List (BA×Value))(ao:Option Addr)(cap:Nat)(w:World)(hI:xC w ms us ao cap)(ho:Rd.zJ ms [Ref.bOp,Ref.zt,Ref.zy,Ref.bNo]=true) :
  Calls prog 93 #[.iface 89 (.slice ao us.length cap)] w (X6 w (.obj ms)):=by
 have hC:=Jg ms;rw[ho] at hC;simp only[if_true] at hC
 have hS:yG (.obj ms)=match uQ (Rd.zf ms Ref.bOp) with
  | some k=>⟨opN k,Rd.ql Ref.zM (Rd.zf ms Ref.zt),Rd.qF (opN k) (Rd.zf ms Ref.zy),Rd.uh (Rd.zf ms Ref.bNo)⟩
  | none=>kI:=by simp only[yG];rw[ho];rfl
 have d7:=nB w vP;have M:=d7.alloc (by simp) Zk;have hr:=fZ (w.alloc vP) Ref.bOp Ref.zt Ref.zy Ref.bNo 9;rw[World.size_alloc] at hr;have cR:=YO ms us ao cap [Ref.bOp,Ref.zt,Ref.zy,Ref.bNo] (some ⟨w.heap.size+1,0,none⟩) 4 ((w.alloc vP).alloc Zk) (by simp) hI.len hr (hI.obj.below M) true ho;simp only[if_true,List.length_cons,List.length_nil] at cR;have cG:=λW nm (h:Below w.heap.size w W)=>(hI.below h).get nm;have c:=λW (h:Below w.heap.size w W)=>(hI.below h).oper;have j:=λW (h:Below w.heap.size w W)=>(hI.below h).key;have B:=λW (h:Below w.heap.size w W)=>(hI.below h).no;have n:=λk hk W (h:Below w.heap.size w W)=>(hI.below h).look k hk;have L:=λW (h:Below w.heap.size w W)=>(hI.below h).env.d.err;unfold X6;rw[hC,hS];obtain⟨F,hF⟩:=Nm (uQ (Rd.zf ms Ref.bOp));rw[hF];unfold Vu at c;simp only[hF] at c
 have b5:∀k,F=some k->k<5:=by
  intro k hk;rw[hk] at hF;unfold uQ at hF
  split at hF
  ·exact (UT hF).1
  ·cases hF
 obtain⟨j7,a6⟩:∃x,qC us Ref.bOp=x:=⟨_,rfl⟩;obtain⟨h5,S⟩:∃x,qC us Ref.zt=x:=⟨_,rfl⟩;obtain⟨j6,a5⟩:∃x,qC us Ref.bNo=x:=⟨_,rfl⟩;obtain⟨h6,T⟩:∃x,qC us Ref.zy=x:=⟨_,rfl⟩;have H:=λW h=>cG W Ref.bOp h;have I:=λW h=>cG W Ref.zt h;have J:=λW h=>cG W Ref.zy h;have K:=λW h=>cG W Ref.bNo h;simp only[a6] at H c;simp only[S] at I j;simp only[T] at J n;simp only[a5] at K B;generalize Rd.ql Ref.zM (Rd.zf ms Ref.zt)=KS at j |-;generalize Rd.zL Ref.zM (Rd.zf ms Ref.zt)=KC at j |-;clear hI ho hS hC hF a6 S a5 T cG hr;unfold Zk vP at cR;unfold vP at d7;unfold Zk vP at M;unfold Ref.bOp Ref.zt Ref.zy Ref.bNo at cR M;unfold Ref.bOp at H;unfold Ref.zt at I;unfold Ref.zy at J;unfold Ref.bNo at K
 cases F with
 | none=>
  clear I J K j B n b5 L;unfold opV at c;simp only at c;go_enter func93,ntmps93
  go_wp2_with (first
   | (go_at_call 114;refine (c w2 l).mono ?_;rintro e w3 ⟨u,rfl,c4,s⟩;rcases c4 with ⟨h,_⟩|⟨_,p,rfl⟩|⟨h,_⟩;(exfalso;simp at h);rotate_left;(exfalso;simp at h);have f9:Below w.heap.size w w3:=l.trans (s.mono l.size);have o:=xU (q.trans (s.mono q.size));have r0:=(za o 0).1;have r1:=(za o 1).1;have r2:=(za o 2).1;have r3:=(za o 3).1;have f0:=(za o 0).2;have f1:=(za o 1).2;have f2:=(za o 2).2;have f3:=(za o 3).2;simp at r0 r1 r2 r3;have sn:=(λW a m=>run_store prog W a .nilFunc m rfl);have hz:w.heap.size<w3.heap.size:=(by have h1:=q.size;have h2:=s.size;simp at h1;omega);have i5:w.heap.size≠w3.heap.size:=(by omega);obtain⟨s0,s1,s2,s3⟩:=Kj (.string ⟨#[]⟩) (.string ⟨#[]⟩) (.slice none 0 0) (.bool false) r0 r1 r2 r3;have q0:=λO=>zF s0 O;have q1:=λO=>zF s1 O;have q2:=λO=>zF s2 O;have q3:=λO=>zF s3 O)
   | (go_at_call 31;refine (H w1 A).mono ?_;rintro e w2 ⟨rfl,i⟩;have l:Below w.heap.size w w2:=A.trans (i.mono A.size);have q:=E.trans (i.mono E.size))
   | (go_at_call 56;refine cR.mono ?_;rintro e w1 ⟨rfl,i⟩;have A:Below w.heap.size w w1:=M.trans (i.mono (by simp;omega));have E:=((Below.refl _ (w.alloc (.cells #[.string ⟨#[]⟩,.string ⟨#[]⟩,.slice none 0 0,.bool false] 200))).alloc (Nat.le_refl _) (.cells #[.string ⟨#[111,112]⟩,.string ⟨#[107,101,121]⟩,.string ⟨#[118,97,108,117,101]⟩,.string ⟨#[110,111]⟩] 9)).trans (i.mono (by simp))))
  exact bodyPost_ret (v := .tuple #[.agg #[.string ⟨#[]⟩,.string ⟨#[]⟩,.slice none 0 0,.bool false],.iface 96 (.agg #[.string p])]) (by simp[results,results93,go_sem,q0,q1,q2,q3]) rfl
   ⟨_,_,rfl,.inr (.inl ⟨rfl,_,rfl⟩),((((f9.setCell (Nat.le_refl _) _).setCell (Nat.le_refl _) _).setCell (Nat.le_refl _) _).setCell (Nat.le_refl _) _).alloc (by simp[World.setCell];omega) _,World.ownsRow_nil _ _ _ _⟩
 | some k=>
  have hk:=b5 k rfl;have cL:=n k hk;have eL:=Iq k hk;unfold opV at c;simp only at c;dsimp only;generalize Rd.qF (opN k) (Rd.zf ms Ref.zy)=LS at cL |-;generalize Rd.zU (opN k) (Rd.zf ms Ref.zy)=LC at cL |-;generalize opN k=N at c |-;generalize opT k=ft at c;generalize opL k=fl at c cL eL;obtain⟨nt,c6⟩:∃x,Rd.uh (Rd.zf ms Ref.bNo)=x:=⟨_,rfl⟩;obtain⟨NC,b6⟩:∃x,Rd.cls (Rd.yx (Rd.zf ms Ref.bNo)) false=x:=⟨_,rfl⟩;unfold Vt at B;simp only[c6,b6] at B;simp only[c6,b6];clear n b5 hk c6 b6;have sf:=λW a g m=>run_store prog W a (.func (.func g) #[] #[]) m rfl;go_enter func93,ntmps93
  go_upto_region 8 with (first
   | (go_at_call 57;refine (j w4 b1).mono ?_;rintro e w5 ⟨U,rfl,e1,b8⟩;have r:Below w.heap.size w w5:=b1.trans (b8.mono b1.size);have a9:=d1.trans (b8.mono d1.size);have g1:=d6.trans (b8.mono d6.size))
   | (go_at_call 31;refine (I _ G).mono ?_;rintro e w4 ⟨rfl,b7⟩;have b1:Below w.heap.size w w4:=G.trans (b7.mono G.size);have d1:=a4.trans (b7.mono a4.size);have d6:=b7)
   | (go_at_call 114;refine (c w2 l).mono ?_;rintro e w3 ⟨u,rfl,c4,s⟩;rcases c4 with ⟨_,rfl⟩|⟨h,_⟩|⟨h,_⟩;rotate_left;(exfalso;simp at h);(exfalso;simp at h);have G:=(l.trans (s.mono l.size)).alloc (l.trans (s.mono l.size)).size (.cells #[.string N,.func (.func fl) #[] #[],.func (.func ft) #[] #[]] 237);have a4:=(q.trans (s.mono q.size)).alloc (q.trans (s.mono q.size)).size (.cells #[.string N,.func (.func fl) #[] #[],.func (.func ft) #[] #[]] 237))
   | (go_at_call 31;refine (H w1 A).mono ?_;rintro e w2 ⟨rfl,i⟩;have l:Below w.heap.size w w2:=A.trans (i.mono A.size);have q:=E.trans (i.mono E.size))
   | (go_at_call 56;refine cR.mono ?_;rintro e w1 ⟨rfl,i⟩;have A:Below w.heap.size w w1:=M.trans (i.mono (by simp;omega));have E:=((Below.refl _ (w.alloc (.cells #[.string ⟨#[]⟩,.string ⟨#[]⟩,.slice none 0 0,.bool false] 200))).alloc (Nat.le_refl _) (.cells #[.string ⟨#[111,112]⟩,.string ⟨#[107,101,121]⟩,.string ⟨#[118,97,108,117,101]⟩,.string ⟨#[110,111]⟩] 9)).trans (i.mono (by simp))))
  have c8:=xU g1;have o0:=(za c8 0).1;have o1:=(za c8 1).1;simp at o0 o1;clear cR H c I j
  go_cut [9,10] (λa b wx=>∃y z,a = .slice y LS.length z/\FV LC b/\Below w5.heap.size w5 wx/\wx.ownsRow w5.heap.size 9 1 (.slice y LS.length z) LS.length (LS.map Value.string))
  case first=>
   go_region_with (first
    | (go_at_call 31;refine (J _ (by first|exact r|exact r.drew|exact r.drew.drew|exact r.drew.drew.drew)).mono ?_;rintro e w6 ⟨rfl,d8⟩;have t:Below w5.heap.size w5 w6:=(by first|exact d8|exact Qj d8);have o6:=zb t o1;have Z:Below w.heap.size w w6:=r.trans (t.mono r.size))
    | (go_at_fn fl;refine (cL _ (by first|exact Z|exact Z.drew|exact Z.drew.drew|exact Z.drew.drew.drew)).mono ?_;rintro e w7 ⟨lv,D,rfl,a2,d9,Q⟩;obtain⟨y,z,rfl⟩:=yJ Q))
   all_goals
    have e0:Below w6.heap.size w6 w7:=(by first|exact d9|exact Qj d9)
    have a8:=hid (And.intro a2 (And.intro (t.trans (e0.mono t.size)) (jZ Q (show w5.heap.size<=_ from t.size))))
    go_wp2_with fail
    go_meet
    exact⟨y,z,rfl,a8.out.1,a8.out.2.1,a8.out.2.2⟩
  case rest=>
   obtain⟨y,z,rfl,a2,b9,c7⟩:=hcut;have b4:Below w.heap.size w wc:=r.trans (b9.mono r.size);have Y:=a9.trans (b9.mono a9.size);have e4:=zb b9 o0;clear J cL eL o1 c8
   go_upto_region 11 with (first
    | (go_at_call 115;refine (B w8 b2).mono ?_;rintro e C ⟨X,rfl,e2,a1⟩;have o9:=zb a1 o8)
    | (go_at_call 31;refine (K wc b4).mono ?_;rintro e w8 ⟨rfl,P⟩;have b2:Below w.heap.size w w8:=b4.trans (P.mono b4.size);have o8:=zb P e4))
   obtain⟨D,rfl⟩:∃x,x=u10:=⟨_,rfl⟩;have b3:Below w.heap.size w C:=b2.trans (a1.mono b2.size);have b0:=(Y.trans (P.mono Y.size)).trans (a1.mono (Y.trans (P.mono Y.size)).size);have R:=ownsRow_below (ownsRow_below c7 P) a1;have bA:Below w.heap.size w ((C.alloc (.cells #[.string N,.string KS,.slice y LS.length z,.bool nt] 200)).alloc (.cells #[U,D,X] 70)):=(b3.alloc b3.size _).alloc (by have:=b3.size;simp;omega) _;have aA:=(b0.alloc b0.size (.cells #[.string N,.string KS,.slice y LS.length z,.bool nt] 200)).alloc (by have:=b0.size;simp at this |-;omega) (.cells #[U,D,X] 70);have g2:((C.alloc (.cells #[.string N,.string KS,.slice y LS.length z,.bool nt] 200)).alloc (.cells #[U,D,X] 70)).heap[C.heap.size]?=some (.cells #[.string N,.string KS,.slice y LS.length z,.bool nt] 200):=(Qc C (.cells #[.string N,.string KS,.slice y LS.length z,.bool nt] 200) (.cells #[U,D,X] 70)).1;have g3:((C.alloc (.cells #[.string N,.string KS,.slice y LS.length z,.bool nt] 200)).alloc (.cells #[U,D,X] 70)).heap[C.heap.size+1]?=some (.cells #[U,D,X] 70):=(Qc C (.cells #[.string N,.string KS,.slice y LS.length z,.bool nt] 200) (.cells #[U,D,X] 70)).2
   have g0:∀W:World,Below w.heap.size w W->W.heap[C.heap.size+1]?=some (.cells #[U,D,X] 70)->Calls prog 61 #[.slice (some ⟨C.heap.size+1,0,none⟩) 3 3] W λe w'=>∃u,e = .returned u/\FV (Rd.zT [KC,LC,NC]) u/\Below W.heap.size W w':=λW hW hg=>
    XC [KC,LC,NC] [U,D,X] _ 3 W (L W hW) (by simp) (BD hg) (CB e1 a2 e2)
   clear L K B o0 e4 o8 o9;have kK:=e1.cells;have kV:=a2.cells;have kN:=e2.cells
   go_region_with (go_at_call 61;refine (g0 _ (by first|exact bA|exact bA.drew|exact bA.drew.drew) (by first|exact g3)).mono ?_;rintro e g7 ⟨uR,rfl,e3,hb10⟩;have f:Below ((C.alloc (.cells #[.string N,.string KS,.slice y LS.length z,.bool nt] 200)).alloc (.cells #[U,D,X] 70)).heap.size ((C.alloc (.cells #[.string N,.string KS,.slice y LS.length z,.bool nt] 200)).alloc (.cells #[U,D,X] 70)) g7:=(by first|exact hb10|exact Qj hb10|exact Qj (Qj hb10));have o:=xU (aA.trans (f.mono aA.size));have r0:=(za o 0).1;have r1:=(za o 1).1;have r2:=(za o 2).1;have r3:=(za o 3).1;have f0:=(za o 0).2;have f1:=(za o 1).2;have f2:=(za o 2).2;have f3:=(za o 3).2;simp at r0 r1 r2 r3;have bC:=(f.block C.heap.size (by simp;omega)).trans g2;have c0:=(za bC 0).1;have c1:=(za bC 1).1;have c2:=(za bC 2).1;have c3:=(za bC 3).1;simp at c0 c1 c2 c3)
   all_goals
    have s4:=Kj (.string N) (.string KS) (.slice y LS.length z) (.bool nt) r0 r1 r2 r3;have BW:=hid (bA.trans (f.mono bA.size));have OW:=hid (ownsRow_below ((R.alloc _).alloc _) f);have a3:w.heap.size<w5.heap.size:=by have h1:=a9.size;simp at h1;omega
    have f8:=hid e3;clear e3 hb10 f o bC R;go_wp2_with fail
    exact bodyPost_ret (v := .tuple #[.agg #[.string N,.string KS,.slice y LS.length z,.bool nt],uR]) (by simp[results,results93,go_sem,s4]) rfl
     ⟨_,_,rfl,f8.out,(((BW.out.setCell (Nat.le_refl _) _).setCell (Nat.le_refl _) _).setCell (Nat.le_refl _) _).setCell (Nat.le_refl _) _,jZ (zI (zI (zI (zI OW.out a3 _ _) a3 _ _) a3 _ _) a3 _ _) (by omega)⟩
theorem LZ(x:Rd.V)(u:Value)(w:World)(c:qR w)(b:OAt w (some x) u)(a:Rd.Good 4000 x):Calls prog 93 #[u] w (X6 w x):=by
 by_cases h:∃ms,x = .obj ms/\Rd.zJ ms [Ref.bOp,Ref.zt,Ref.zy,Ref.bNo]=true
 ·obtain⟨ms,rfl,f⟩:=h;obtain⟨g,ao,cap,rfl,d⟩:=XL b;exact LY ms g ao cap w ⟨c,d,a⟩ f
 ·refine LX x u w b a (λms e=>?_)
  cases hc:Rd.zJ ms [Ref.bOp,Ref.zt,Ref.zy,Ref.bNo] with
  | false=>rfl
  | true=>exact absurd ⟨ms,e,hc⟩ h
def zO(w:World)(base:Nat)(b:Value)(a:List BA):Prop:=w.ownsRow base 9 1 b a.length (a.map Value.string)
def ZA(w:World)(base:Nat)(xs:List Value)(j:Nat)(c:zX):Prop:=
 ∃a,xs[j*4]?=some (.string c.op)/\xs[j*4+1]?=some (.string c.key)/\xs[j*4+2]?=some a/\xs[j*4+3]?=some (.bool c.no)/\zO w base a c.vals
theorem ZA.below{w a:World}{base:Nat}{xs:List Value}{j:Nat}{c:zX}(h:ZA w base xs j c)(i:Below w.heap.size w a):ZA a base xs j c:=by
 obtain⟨k,b,d,e,f,g⟩:=h;exact⟨k,b,d,e,f,ownsRow_below g i⟩
theorem ZA.set{w:World}{base:Nat}{xs:List Value}{j:Nat}{c:zX}(h:ZA w base xs j c){b:Nat}(i:b<base)(o:Nat)(u:Value):ZA (w.setCell ⟨b,o,none⟩ u) base xs j c:=by
 obtain⟨k,a,d,e,f,g⟩:=h;exact⟨k,a,d,e,f,zI g i o u⟩
def qJ(w:World)(base:Nat)(a:Value)(cs:List zX):Prop:=
 ∃xs,w.ownsRow base 200 4 a cs.length xs/\∀j,(h:j<cs.length)->ZA w base xs j cs[j]
def nS(g:Nat)(f:Array Value)(d:Nat->Value)(n:Nat)(cs:Nat->zX)(c:Nat->Nat)(w:World):Prop:=
 ∀W j,j<n->Below w.heap.size w W->Calls prog g (#[d j]++f) W λe b=>
  ∃a u,e = .returned (.tuple #[.agg #[.string (cs j).op,.string (cs j).key,a,.bool (cs j).no],u])/\FV (c j) u/\Below W.heap.size W b/\zO b W.heap.size a (cs j).vals
def nN(w:World)(n:Nat)(cs:Nat->zX)(c:Nat->Nat)(e:Ending)(a:World):Prop:=
 ∃(f d:Option Addr) (g h:Nat) (b:List Value),e = .returned (.tuple #[.slice f n g,.slice d n h])/\b.length=n/\yt a d b/\FVs ((List.range n).map c) b/\Below w.heap.size w a /\
  qJ a w.heap.size (.slice f n g) ((List.range n).map cs)
theorem Eb:(prog.info? 200).map (λi=>(i.zero,i.size,i.bytes))=some (some (.agg #[.string ⟨#[]⟩,.string ⟨#[]⟩,.slice none 0 0,.bool false]),4,64):=by kernel_rfl
theorem ik{w:World}{base:Nat}{e:TypeId}{v:Value}{n:Nat}{xs:List Value}(h:w.ownsRow base e 4 v n xs){b:Nat}(c:v.ownBlock≠some b)(o:Nat)(u:Value):(w.setCell ⟨b,o,none⟩ u).ownsRow base e 4 v n xs:=
 ownsRow_setCell_other h (a:=⟨b,o,none⟩) c u
theorem AJ(D:List Value)(ao:Option Addr)(cap g:Nat)(lb:Array Value)(cs:Nat->zX)(c:Nat->Nat)(w:World)(hn:D.length<=1000)(eg:∀args w,(callFunc g args).run prog w = .ok (.enter g args) w)
  (hm:yt w ao D)(b0:∀u ∈ D,u = .nilIface\/∃T x,u = .iface T x)(hp:nS g lb (λj=>D.getD j .nilIface) D.length cs c w) :
  Calls prog 92 #[.slice ao D.length cap,.func (.func g) #[] lb] w (nN w D.length cs c):=by
 obtain⟨i0,hi,d9,e0,e1⟩:=info_parts Eb;obtain⟨i1,R,d8,hy1,hy2⟩:=info_parts (show (prog.info? 70).map (λi=>(i.zero,i.size,i.bytes))=some (some .nilIface,1,16) by kernel_rfl);obtain⟨n,V⟩:=Nm D.length;rw[V] at hn hp |-;have HM:=hid hm;have c2:=hid b0;have HP:=hid hp;have c3:=hid V;clear hm b0 hp V;go_enter func92,ntmps92
 go_wp2_with (at_make;refine wpList_make_full _ rfl _ _ 102 rfl w.heap.size 200 i0 (.agg #[.string ⟨#[]⟩,.string ⟨#[]⟩,.slice none 0 0,.bool false]) 4 underlying102 hi d9 e0 _ _ _ _ n rfl rfl ?_ ?_ ?_ ?_ ?_ ?_)
 ·omega
 ·omega
 ·rw[e1];omega
 ·unfold maxLen;omega
 ·omega
 intro w1 C E;obtain⟨zs,b4⟩:=Nm ((madeCells #[.string ⟨#[]⟩,.string ⟨#[]⟩,.slice none 0 0,.bool false] (n*4)).toList);rw[b4] at C;have B:Below w.heap.size w w1:=(Below.refl _ w).grown E (Nat.le_refl _) (λk hk=>by cases hk);clear b4
 go_wp2_with (at_make;refine wpList_make_full _ rfl _ _ 97 rfl w.heap.size 70 i1 .nilIface 1 underlying97 R d8 hy1 _ _ _ _ n rfl rfl ?_ ?_ ?_ ?_ ?_ ?_)
 ·omega
 ·omega
 ·rw[hy2];omega
 ·unfold maxLen;omega
 ·have:=B.size;omega
 intro w2 U t
 have P:w2.ownsRow w.heap.size 70 1 (.slice (some ⟨w1.heap.size,0,none⟩) n n) n (List.replicate n .nilIface):=by
  rw[<- toList_madeCells_one];exact U
 have S:=C.kept t (.inr (by simp[Value.ownBlock]));have b1:w.heap.size<w1.heap.size:=(C.lt _ rfl).2;have Q:Below w.heap.size w w2:=B.grown t B.size (λk hk=>by cases hk);have J:w1.heap.size<w2.heap.size:=(P.lt _ rfl).2;obtain⟨r,a8⟩:=Nm w1.heap.size;rw[a8] at P b1 J |-;have b2:w.heap.size≠r:=by omega
 have a5:=hid S;have a6:=hid P;have Y:=hid Q;have Z:=hid J;clear U t E C B S P Q a8 J;go_wp2_with fail
 go_loopw [18] (λiv wr=>∃(k:Nat) (xs X:List Value),k<=n/\iv = .int .i64 k/\jy c n k X/\wr.ownsRow w.heap.size 200 4 (.slice (some ⟨w.heap.size,0,none⟩) n n) n xs/\wr.ownsRow w.heap.size 70 1 (.slice (some ⟨r,0,none⟩) n n) n X/\Below w.heap.size w wr/\r<wr.heap.size/\(∀j,j<k->ZA wr (r+1) xs j (cs j))) (λiv _=>n-(intOf iv).toNat)
 case atStart=>exact⟨0,_,_,Nat.zero_le _,rfl,jy.start c n,a5.out,a6.out,Y.out,Z.out,λj R=>by omega⟩
 case round=>
  obtain⟨k,xs,X,hk,rfl,b3,ro,re,rb,j5,rc⟩:=hrel;clear a5 a6 Y Z;have RO:=hid ro;have RE:=hid re;have RB:=hid rb;have M:=hid b3;have RC:=hid rc;clear ro re rb b3 rc
  by_cases hlt:k<n
  ·have I:k<D.length:=by rw[c3.out];exact hlt
   have a9:D.getD k .nilIface=D[k]:=by rw[List.getD_eq_getElem?_getD,List.getElem?_eq_getElem I];rfl
   have K:=HP.out wr k hlt RB.out;have hv:=c2.out D[k] (List.getElem_mem I)
   rcases HM.out with hnil|⟨b,o,hao,hc⟩
   ·rw[hnil] at I;simp at I
   subst hao;have q:=zb RB.out (hc k I);simp only[a9] at K;obtain⟨u,hu⟩:=Nm (D[k]);rw[hu] at q K hv;obtain⟨p,G⟩:∃x,(cs k).op=x:=⟨_,rfl⟩;obtain⟨d,v⟩:∃x,(cs k).key=x:=⟨_,rfl⟩;obtain⟨m,F⟩:∃x,(cs k).no=x:=⟨_,rfl⟩;rw[G,v,F] at K;have b9:=hid G;have c0:=hid v;have c1:=hid F;clear hu hc a9 G v F;have W:xs.length=n*4:=RO.out.1;have a4:=hid W;clear W
   have cells:Hid (∀l,Below wr.heap.size wr l->(∃N,l.cell? ⟨w.heap.size,k*4,none⟩=some N)/\(∃N,l.cell? ⟨w.heap.size,k*4+1,none⟩=some N)/\(∃N,l.cell? ⟨w.heap.size,k*4+2,none⟩=some N)/\(∃N,l.cell? ⟨w.heap.size,k*4+3,none⟩=some N) /\
     l.frozen? ⟨w.heap.size,k*4,none⟩=false/\l.frozen? ⟨w.heap.size,k*4+1,none⟩=false/\l.frozen? ⟨w.heap.size,k*4+2,none⟩=false/\l.frozen? ⟨w.heap.size,k*4+3,none⟩=false/\l.cell? ⟨r,k,none⟩=some .nilIface/\l.frozen? ⟨r,k,none⟩=false):=by
    intro l f;have L:=ownsRow_below RO.out f;have e3:=ownsRow_below RE.out f;have hx:=a4.out
    exact⟨⟨_,(L.cellAt _ (by omega)).trans (List.getElem?_eq_getElem (by omega))⟩,⟨_,(L.cellAt _ (by omega)).trans (List.getElem?_eq_getElem (by omega))⟩,⟨_,(L.cellAt _ (by omega)).trans (List.getElem?_eq_getElem (by omega))⟩,⟨_,(L.cellAt _ (by omega)).trans (List.getElem?_eq_getElem (by omega))⟩,
     L.frozenAt _,L.frozenAt _,L.frozenAt _,L.frozenAt _,(e3.cellAt k (by omega)).trans (M.out.2.2 k (Nat.le_refl _) hlt),e3.frozenAt k⟩
   have fin:Hid (∀l s x,Below wr.heap.size wr l->FV (c k) x->zO l wr.heap.size s (cs k).vals ->
     jy c n (k+1) (X.set k x) /\
     (((((l.setCell ⟨w.heap.size,k*4,none⟩ (.string p)).setCell ⟨w.heap.size,k*4+1,none⟩ (.string d)).setCell ⟨w.heap.size,k*4+2,none⟩ s).setCell ⟨w.heap.size,k*4+3,none⟩ (.bool m)).setCell ⟨r,k,none⟩ x).ownsRow w.heap.size 200 4 (.slice (some ⟨w.heap.size,0,none⟩) n n) n ((((xs.set (k*4) (.string p)).set (k*4+1) (.string d)).set (k*4+2) s).set (k*4+3) (.bool m)) /\
     (((((l.setCell ⟨w.heap.size,k*4,none⟩ (.string p)).setCell ⟨w.heap.size,k*4+1,none⟩ (.string d)).setCell ⟨w.heap.size,k*4+2,none⟩ s).setCell ⟨w.heap.size,k*4+3,none⟩ (.bool m)).setCell ⟨r,k,none⟩ x).ownsRow w.heap.size 70 1 (.slice (some ⟨r,0,none⟩) n n) n (X.set k x) /\
     Below w.heap.size w (((((l.setCell ⟨w.heap.size,k*4,none⟩ (.string p)).setCell ⟨w.heap.size,k*4+1,none⟩ (.string d)).setCell ⟨w.heap.size,k*4+2,none⟩ s).setCell ⟨w.heap.size,k*4+3,none⟩ (.bool m)).setCell ⟨r,k,none⟩ x) /\
     r<(((((l.setCell ⟨w.heap.size,k*4,none⟩ (.string p)).setCell ⟨w.heap.size,k*4+1,none⟩ (.string d)).setCell ⟨w.heap.size,k*4+2,none⟩ s).setCell ⟨w.heap.size,k*4+3,none⟩ (.bool m)).setCell ⟨r,k,none⟩ x).heap.size /\
     (∀j,j<k+1->ZA (((((l.setCell ⟨w.heap.size,k*4,none⟩ (.string p)).setCell ⟨w.heap.size,k*4+1,none⟩ (.string d)).setCell ⟨w.heap.size,k*4+2,none⟩ s).setCell ⟨w.heap.size,k*4+3,none⟩ (.bool m)).setCell ⟨r,k,none⟩ x) (r+1) ((((xs.set (k*4) (.string p)).set (k*4+1) (.string d)).set (k*4+2) s).set (k*4+3) (.bool m)) j (cs j))):=by
    intro l s x f hx A;have L:=ownsRow_below RO.out f;have e3:=ownsRow_below RE.out f;have o4:=((((L.stored (k*4) (.string p)).1.stored (k*4+1) (.string d)).1.stored (k*4+2) s).1.stored (k*4+3) (.bool m)).1;have O:(Value.slice (some ⟨r,0,none⟩) n n).ownBlock≠some w.heap.size:=by simp only[Value.ownBlock];intro e;simp only[Option.some.injEq] at e;exact b2 e.symm
    have e4:=ownsRow_setCell_other (ownsRow_setCell_other (ownsRow_setCell_other (ownsRow_setCell_other e3 (a:=⟨w.heap.size,k*4,none⟩) O (.string p)) (a:=⟨w.heap.size,k*4+1,none⟩) O (.string d)) (a:=⟨w.heap.size,k*4+2,none⟩) O s) (a:=⟨w.heap.size,k*4+3,none⟩) O (.bool m);have hz:=f.size;have W:=a4.out;refine⟨M.out.set hlt hx,ik o4 (by simp only[Value.ownBlock];intro e;simp only[Option.some.injEq] at e;exact b2 e) _ _,(e4.stored k x).1,(((((RB.out.trans (f.mono RB.out.size)).setCell (Nat.le_refl _) _).setCell (Nat.le_refl _) _).setCell (Nat.le_refl _) _).setCell (Nat.le_refl _) _).setCell (by show w.heap.size<=r;omega) _,by simp[World.setCell];omega,λj R=>?_⟩
    by_cases hjk:j=k
    ·subst hjk;refine⟨s,?_,?_,?_,?_,zI (zI (zI (zI (zI (jZ A (by omega)) (by omega) _ _) (by omega) _ _) (by omega) _ _) (by omega) _ _) (by omega) _ _⟩
     ·simp[List.getElem?_set,b9.out];omega
     ·simp[List.getElem?_set,c0.out];omega
     ·simp[List.getElem?_set];omega
     ·simp[List.getElem?_set,c1.out];omega
    ·have d5:=(((((((RC.out j (by omega)).below f).set (b:=w.heap.size) (by omega) (k*4) (.string p)).set (b:=w.heap.size) (by omega) (k*4+1) (.string d)).set (b:=w.heap.size) (by omega) (k*4+2) s).set (b:=w.heap.size) (by omega) (k*4+3) (.bool m)).set (b:=r) (by omega) k x);obtain⟨l0,h0,h1,h2,h3,h4⟩:=d5;refine⟨l0,?_,?_,?_,?_,h4⟩
     ·rw[List.getElem?_set,if_neg (by omega),List.getElem?_set,if_neg (by omega),List.getElem?_set,if_neg (by omega),List.getElem?_set,if_neg (by omega)];exact h0
     ·rw[List.getElem?_set,if_neg (by omega),List.getElem?_set,if_neg (by omega),List.getElem?_set,if_neg (by omega),List.getElem?_set,if_neg (by omega)];exact h1
     ·rw[List.getElem?_set,if_neg (by omega),List.getElem?_set,if_neg (by omega),List.getElem?_set,if_neg (by omega),List.getElem?_set,if_neg (by omega)];exact h2
     ·rw[List.getElem?_set,if_neg (by omega),List.getElem?_set,if_neg (by omega),List.getElem?_set,if_neg (by omega),List.getElem?_set,if_neg (by omega)];exact h3
   rcases hv with rfl|⟨T,y,rfl⟩
   ·go_wp2_with (go_at_fn g;refine K.mono ?_;rintro e l ⟨s,x,rfl,H,f,A⟩;obtain⟨⟨N,d0⟩,⟨a1,d1⟩,⟨a2,d2⟩,⟨a3,d3⟩,g0,g1,g2,g3,d4,g4⟩:=cells.out l f;have h:=hid (fin.out l s x f H A);obtain⟨la,lc,rfl⟩:=yJ A;rcases H.form with rfl|⟨T,z,rfl⟩)
    all_goals
     go_roundw
     case rel=>exact⟨k+1,_,_,by omega,by go_num,h.out.1,h.out.2.1,h.out.2.2.1,h.out.2.2.2.1,h.out.2.2.2.2.1,h.out.2.2.2.2.2⟩
     case measure=>simp[intOf];omega
   ·go_wp2_with (go_at_fn g;refine K.mono ?_;rintro e l ⟨s,x,rfl,H,f,A⟩;obtain⟨⟨N,d0⟩,⟨a1,d1⟩,⟨a2,d2⟩,⟨a3,d3⟩,g0,g1,g2,g3,d4,g4⟩:=cells.out l f;have h:=hid (fin.out l s x f H A);obtain⟨la,lc,rfl⟩:=yJ A;rcases H.form with rfl|⟨T,z,rfl⟩)
    all_goals
     go_roundw
     case rel=>exact⟨k+1,_,_,by omega,by go_num,h.out.1,h.out.2.1,h.out.2.2.1,h.out.2.2.2.1,h.out.2.2.2.2.1,h.out.2.2.2.2.2⟩
     case measure=>simp[intOf];omega
  ·have d6:k=n:=by omega
   subst d6;have hE:=M.out.done;have hl:=M.out.1
   go_wp2
   go_ret2;refine⟨_,_,_,_,X,rfl,hl,?_,hE,RB.out,xs,?_,?_⟩
   ·exact .inr ⟨r,0,rfl,λj R=>by rw[Nat.zero_add];exact (RE.out.cellAt j (by omega)).trans (List.getElem?_eq_getElem R)⟩
   ·rw[List.length_map,List.length_range];exact RO.out
   ·intro j R;rw[List.length_map,List.length_range] at R;obtain⟨l0,h0,h1,h2,h3,h4⟩:=RC.out j R;rw[List.getElem_map,List.getElem_range];exact⟨l0,h0,h1,h2,h3,jZ h4 (by omega)⟩
def ZU:Option Rd.V->List zX
 | some (.list vs)=>if 5<vs.length then [] else vs.map yG
 | _=>[]
def X7(w:World)(x:Option Rd.V)(e:Ending)(b:World):Prop:=
 ∃a u,e = .returned (.tuple #[a,u])/\FV (Rd.ym x) u/\Below w.heap.size w b/\qJ b w.heap.size a (ZU x)
theorem qJ.nil(w:World)(base:Nat):qJ w base (.slice none 0 0) []:=⟨[],World.ownsRow_nil _ _ _ _,λj a=>by simp at a⟩
theorem qJ.below{w c:World}{base:Nat}{b:Value}{cs:List zX}(h:qJ w base b cs)(a:Below w.heap.size w c):qJ c base b cs:=by
 obtain⟨xs,d,e⟩:=h;exact⟨xs,ownsRow_below d a,λj f=>(e j f).below a⟩
theorem qJ.mono{w:World}{base a:Nat}{c:Value}{cs:List zX}(h:qJ w base c cs)(b:a<=base):qJ w a c cs:=by
 obtain⟨xs,k,l⟩:=h;refine⟨xs,jZ k b,λj m=>?_⟩;obtain⟨n,d,e,f,g,i⟩:=l j m;exact⟨n,d,e,f,g,jZ i b⟩
theorem qJ.set{w:World}{base:Nat}{c:Value}{cs:List zX}(h:qJ w base c cs){b:Nat}(e:b<base)(o:Nat)(u:Value):qJ (w.setCell ⟨b,o,none⟩ u) base c cs:=by
 obtain⟨xs,a,d⟩:=h;exact⟨xs,ik a (by intro f;have:=(a.lt b f).1;omega) o u,λj g=>(d j g).set e o u⟩
theorem qJ.slice{w:World}{base:Nat}{b:Value}{cs:List zX}(h:qJ w base b cs):∃a c,b = .slice a cs.length c:=by
 obtain⟨xs,d,_⟩:=h
 rcases d.2 with ⟨h0,hl⟩|⟨g,c,cur,rfl,_⟩
 ·rw[h0,hl];exact⟨_,_,rfl⟩
 ·exact⟨_,_,rfl⟩
theorem AP(b:List Rd.V)(a:List Value)(ao:Option Addr)(cap:Nat)(w:World)(x:qR w)(o:a.length=b.length)(A:a.length<=1000)
  (z:yt w ao a)(C:∀(j:Nat) (v:Rd.V) (u:Value),b[j]?=some v->a[j]?=some u->OAt w (some v) u)(y:∀v ∈ b,Rd.Good 4000 v) :
  Calls prog 92 #[.slice ao a.length cap,.func (.func 93) #[] #[]] w λe m=>
   ∃(k g:Option Addr) (l n:Nat) (f:List Value),e = .returned (.tuple #[.slice k a.length l,.slice g a.length n])/\f.length=a.length/\yt m g f/\FVs (b.map Rd.condC) f/\Below w.heap.size w m/\qJ m w.heap.size (.slice k a.length l) (b.map yG):=by
 have d:∀j,(h:j<a.length)->OAt w (some (b.getD j (.word false))) a[j]:=λj h=>by
  have c:j<b.length:=by omega
  rw[List.getD_eq_getElem?_getD,List.getElem?_eq_getElem c];exact C j _ _ (List.getElem?_eq_getElem c) (List.getElem?_eq_getElem h)
 refine (AJ a ao cap 93 #[] (λj=>yG (b.getD j (.word false))) (λj=>Rd.condC (b.getD j (.word false))) w A (enters_of func93 (by kernel_rfl) rfl) z ?_ ?_).mono ?_
 ·intro u B;obtain⟨j,i,rfl⟩:=List.getElem_of_mem B;exact (d j i).form
 ·intro W j i r;have c:j<b.length:=by omega
  have:=LZ (b.getD j (.word false)) a[j] W (x.below r) ((d j i).below r) (y _ (by rw[List.getD_eq_getElem?_getD,List.getElem?_eq_getElem c];exact List.getElem_mem c))
  rw[show a[j]=a.getD j .nilIface by rw[List.getD_eq_getElem?_getD,List.getElem?_eq_getElem i];rfl] at this;exact this
 ·rintro e m ⟨k,g,l,n,f,rfl,s,c,p,t,q⟩;refine⟨k,g,l,n,f,rfl,s,c,?_,t,?_⟩
  ·rw[o,XU] at p;exact p
  ·rw[o,XU] at q;rw[o];exact q
theorem Ma(x:Option Rd.V)(u:Value)(w:World)(k:qR w)(i:OAt w x u)(s:∀v,x=some v->Rd.Good 4000 v):Calls prog 60 #[u] w (X7 w x):=by
 cases x with
 | none=>
  have Q:u = .nilIface:=i;subst Q;clear k i s;go_enter func60,ntmps60
  go_wp2
  go_ret2;exact⟨_,_,rfl,.inl ⟨rfl,rfl⟩,Below.refl _ _,qJ.nil _ _⟩
 | some v=>
  by_cases h:∃a,v = .list a
  ·obtain⟨a,rfl⟩:=h;have B:ValAt w (λb=>b<w.heap.size) (.list a) u:=i;have g:∀v ∈ a,Rd.Good 4000 v:=by have:=s _ rfl;cases this with|list _ _ h=>exact h
   have S:=Kv;have f:Rd.ym (some (.list a))=if 5<a.length then 1 else Rd.zT (a.map Rd.condC):=rfl
   have r:ZU (some (.list a))=if 5<a.length then [] else a.map yG:=rfl
   unfold X7;rw[f,r];clear f r i s
   cases B with
   | list _ F ao cap L l t=>
    by_cases hbad:5<a.length
    ·rw[if_pos hbad,if_pos hbad];obtain⟨n,A⟩:=Nm F.length;rw[A];have P:decide ((5:Int)<(n:Int))=true:=by simp;omega
     clear l t g k;go_enter func60,ntmps60
     go_wp2
     go_ret2;exact⟨_,_,rfl,.inr (.inl ⟨rfl,_,rfl⟩),Below.refl _ _,qJ.nil _ _⟩
    ·rw[if_neg hbad,if_neg hbad]
     have G:=AP a F ao cap w k L (by omega) (by
       rcases l with l|⟨b,ha,_,f⟩
       ·exact .inl l
       ·exact .inr ⟨b,0,ha,λj N=>by rw[Nat.zero_add];exact f j _ (List.getElem?_eq_getElem N)⟩) (λj y v R B=>t j y v R B) g
     have m:=λW (M:Below w.heap.size w W)=>(k.below M).d.err;clear l t g k;obtain⟨n,A⟩:=Nm F.length;rw[A] at G |-;have O:n<=5:=by omega
     have P:decide ((5:Int)<(n:Int))=false:=by simp;omega
     go_enter func60,ntmps60
     go_wp2_with (first
      | (go_at_call 61;refine H.mono ?_;rintro e Z ⟨v,rfl,z,o⟩)
      | (go_at_call 92;refine G.mono ?_;rintro e I ⟨X,J,Y,K,U,rfl,E,C,D,c,q⟩;have H:=XC _ U J K I (m I c) (by omega) C D;rw[E] at H))
     go_ret2;exact⟨_,_,rfl,z,c.trans (o.mono c.size),q.below o⟩
  ·have p:∀a,some v≠some (.list a):=λa e=>h ⟨a,by simpa using e⟩;have S:=λW=>Kw i p W;obtain⟨T,y,rfl⟩:=ValAt.iface (show ValAt w (λb=>b<w.heap.size) v u from i)
   have f:Rd.ym (some v)=1:=by
    cases v with
    | list a=>exact absurd ⟨a,rfl⟩ h
    | _=>rfl
   have r:ZU (some v)=[]:=by
    cases v with
    | list a=>exact absurd ⟨a,rfl⟩ h
    | _=>rfl
   unfold X7;rw[f,r];clear i p k s f r h;go_enter func60,ntmps60
   go_wp2
   go_ret2;exact⟨_,_,rfl,.inr (.inl ⟨rfl,_,rfl⟩),Below.refl _ _,qJ.nil _ _⟩
end Go.Proofs.YtdakgnaojakldabGreatDoor
