/- P -/
import Derived.Test.YtagnlbgbnfnapaaGreatDoorZ15
open Go.Proofs.Tryz
set_option maxRecDepth 100000
set_option maxHeartbeats 2000000
namespace Go.Proofs.YtagnlbgbnfnapaaGreatDoor
open Go.RowKit
structure yN (w:World) (ms:List (BA×Rd.V)) (us:List (BA×Value)) (ao:Option Addr) (cap:Nat):Prop where
 env:xK w
 obj:Zw w ms us ao
 good:Rd.Good 4000 (.obj ms)
theorem yN.below{w b:World}{ms:List (BA×Rd.V)}{a:List (BA×Value)}{ao:Option Addr}{cap:Nat}(h:yN w ms a ao cap)(hb:Below w.heap.size w b):yN b ms a ao cap:=⟨h.env.below hb,h.obj.below hb,h.good⟩
theorem yN.len{w:World}{ms:List (BA×Rd.V)}{a:List (BA×Value)}{ao:Option Addr}{cap:Nat}(h:yN w ms a ao cap):ms.length<=4000:=by
 have:=h.good
 cases this with|obj _ h=>exact h
theorem yN.get{w:World}{ms:List (BA×Rd.V)}{a:List (BA×Value)}{ao:Option Addr}{cap:Nat}(h:yN w ms a ao cap)(nm:BA) :
  Calls prog 53 #[.slice ao a.length cap,.string nm] w λe b=>e = .returned (xA a nm)/\Below w.heap.size w b:=gm cap h.obj h.len nm
theorem yN.key{w:World}{ms:List (BA×Rd.V)}{a:List (BA×Value)}{ao:Option Addr}{cap:Nat}(h:yN w ms a ao cap) :
  Calls prog 97 #[xA a Ref.zG,.func (.func 51) #[] #[]] w (YT w (Rd.qZ Ref.qm (Rd.zl ms Ref.zG)) (Rd.qf Ref.qm (Rd.zl ms Ref.zG))):=
 gU _ _ _ _ _ 4000 w (qx func51 (by kernel_rfl) rfl) (h.obj.get Ref.zG) (λs b=>by have:=Rd.yt h.good Ref.zG _ b;cases this with|str _ h=>exact h) (ML w)
theorem yN.no{w:World}{ms:List (BA×Rd.V)}{a:List (BA×Value)}{ao:Option Addr}{cap:Nat}(h:yN w ms a ao cap) :
  Calls prog 194 #[xA a Ref.bNo] w (aF w (Rd.zl ms Ref.bNo)):=RY _ _ w (h.obj.get Ref.bNo)
theorem yN.oper{w:World}{ms:List (BA×Rd.V)}{a:List (BA×Value)}{ao:Option Addr}{cap:Nat}(h:yN w ms a ao cap) :
  Calls prog 193 #[xA a Ref.bOp] w (aG w (Rd.zl ms Ref.bOp)):=RZ _ _ w h.env.ops (h.obj.get Ref.bOp)
theorem yN.look{w:World}{ms:List (BA×Rd.V)}{a:List (BA×Value)}{ao:Option Addr}{cap:Nat}(h:yN w ms a ao cap)(k:Nat)(b:k<5) :
  Calls prog (opL k) #[xA a Ref.zJ] w (XE w (Rd.xC (opN k) (Rd.zl ms Ref.zJ)) (Rd.qB (opN k) (Rd.zl ms Ref.zJ))):=
 Pz h.env.d k b w _ _ (λv c=>Rd.yt h.good Ref.zJ v c) (h.obj.get Ref.zJ) (zi _ _)
theorem Pv(k:Nat)(a:k<5):∀args w,(callFunc (opL k) args).run prog w = .ok (.enter (opL k) args) w:=by
 rcases lt5 a with rfl|rfl|rfl|rfl|rfl
 ·exact qx func313 (by kernel_rfl) rfl
 ·exact qx func315 (by kernel_rfl) rfl
 ·exact qx func317 (by kernel_rfl) rfl
 ·exact qx func319 (by kernel_rfl) rfl
 ·exact qx func321 (by kernel_rfl) rfl
theorem FV.cells{c:Nat}{u:Value}(h:FV c u):Value.cells.match_1 (λ_=>Array Value) u (λcs=>cs) (λv=>#[v])=#[u]:=by
 rcases h.form with rfl|⟨T,x,rfl⟩
 ·rfl
 ·rfl
theorem Ll{a b c:Nat}{u v x:Value}(f:FV a u)(g:FV b v)(h:FV c x):FVs [a,b,c] [u,v,x]:=by
 refine⟨rfl,λj d y hd e=>?_⟩
 match j with
 | 0=>simp at hd e;subst hd;subst e;exact f
 | 1=>simp at hd e;subst hd;subst e;exact g
 | 2=>simp at hd e;subst hd;subst e;exact h
 | j+3=>simp at hd
theorem Ik{W:World}{b:Nat}{u v x:Value}{t:TypeId}(h:W.heap[b]?=some (.cells #[u,v,x] t (0,0))):jF W (some ⟨b,0,none⟩) [u,v,x]:=by
 refine .inr ⟨b,0,rfl,λj a=>?_⟩;simp only[uU,QW] at a;rw[qM,(zf h j).1]
 have:j=0\/j=1\/j=2:=by omega
 rcases this with rfl|rfl|rfl<;>rfl
theorem RP(ms:List (BA×Rd.V))(us:List (BA×Value))(ao:Option Addr)(cap:Nat)(w:World)(hI:yN w ms us ao cap)(ho:Rd.qh ms [Ref.bOp,Ref.zG,Ref.zJ,Ref.bNo]=true) :
  Calls prog 151 #[.iface 122 (.slice ao us.length cap)] w (Vu w (.obj ms)):=by
 have hC:=UW ms;rw[ho] at hC;simp only[qO] at hC
 have hS:jS (.obj ms)=match Qa (Rd.zl ms Ref.bOp) with
  | some k=>⟨opN k,Rd.qZ Ref.qm (Rd.zl ms Ref.zG),Rd.xC (opN k) (Rd.zl ms Ref.zJ),Rd.Jc (Rd.zl ms Ref.bNo)⟩
  | none=>QF:=by simp only[jS];rw[ho];rfl
 have d7:=nB w Zq;have M:=d7.alloc (by simp) Q8;have hr:=tH (w.alloc Zq) Ref.bOp Ref.zG Ref.zJ Ref.bNo 9;rw[JG] at hr;have cR:=Ud ms us ao cap [Ref.bOp,Ref.zG,Ref.zJ,Ref.bNo] (some ⟨w.heap.size+1,0,none⟩) 4 ((w.alloc Zq).alloc Q8) (by simp) hI.len hr (hI.obj.below M) true ho;simp only[qO,uU,QW] at cR;have cG:=λW nm (h:Below w.heap.size w W)=>(hI.below h).get nm;have c:=λW (h:Below w.heap.size w W)=>(hI.below h).oper;have j:=λW (h:Below w.heap.size w W)=>(hI.below h).key;have B:=λW (h:Below w.heap.size w W)=>(hI.below h).no;have n:=λk hk W (h:Below w.heap.size w W)=>(hI.below h).look k hk;have L:=λW (h:Below w.heap.size w W)=>(hI.below h).env.d.err;unfold Vu;rw[hC,hS];obtain⟨F,hF⟩:=Nm (Qa (Rd.zl ms Ref.bOp));rw[hF];unfold aG at c;simp only[hF] at c
 have b5:∀k,F=some k->k<5:=by
  intro k hk;rw[hk] at hF;unfold Qa at hF
  split at hF
  ·exact (gz hF).1
  ·cases hF
 obtain⟨j7,a6⟩:∃x,xA us Ref.bOp=x:=⟨_,rfl⟩;obtain⟨h5,S⟩:∃x,xA us Ref.zG=x:=⟨_,rfl⟩;obtain⟨j6,a5⟩:∃x,xA us Ref.bNo=x:=⟨_,rfl⟩;obtain⟨h6,T⟩:∃x,xA us Ref.zJ=x:=⟨_,rfl⟩;have H:=λW h=>cG W Ref.bOp h;have I:=λW h=>cG W Ref.zG h;have J:=λW h=>cG W Ref.zJ h;have K:=λW h=>cG W Ref.bNo h;simp only[a6] at H c;simp only[S] at I j;simp only[T] at J n;simp only[a5] at K B;generalize Rd.qZ Ref.qm (Rd.zl ms Ref.zG)=KS at j |-;generalize Rd.qf Ref.qm (Rd.zl ms Ref.zG)=KC at j |-;clear hI ho hS hC hF a6 S a5 T cG hr;unfold Q8 Zq at cR;unfold Zq at d7;unfold Q8 Zq at M;unfold Ref.bOp Ref.zG Ref.zJ Ref.bNo at cR M;unfold Ref.bOp at H;unfold Ref.zG at I;unfold Ref.zJ at J;unfold Ref.bNo at K
 cases F with
 | none=>
  clear I J K j B n b5 L;unfold opV at c;simp only at c;go_enter func151,ntmps151
  go_wp2_with (first
   | (go_at_call 193;refine (c w2 l).mono ?_;rintro e w3 ⟨u,rfl,c4,s⟩;rcases c4 with ⟨h,_⟩|⟨_,p,rfl⟩|⟨h,_⟩;(exfalso;simp at h);rotate_left;(exfalso;simp at h);have f9:Below w.heap.size w w3:=l.trans (s.mono l.size);have o:=ja (q.trans (s.mono q.size));have r0:=(zf o 0).1;have r1:=(zf o 1).1;have r2:=(zf o 2).1;have r3:=(zf o 3).1;have f0:=(zf o 0).2;have f1:=(zf o 1).2;have f2:=(zf o 2).2;have f3:=(zf o 3).2;simp at r0 r1 r2 r3;have sn:=(λW a m=>Zk prog W a .nilFunc m rfl);have hz:w.heap.size<w3.heap.size:=(by have h1:=q.size;have h2:=s.size;simp at h1;omega);have i5:w.heap.size≠w3.heap.size:=(by omega);obtain⟨s0,s1,s2,s3⟩:=ig (.string ⟨#[]⟩) (.string ⟨#[]⟩) (.slice none 0 0) (.bool false) r0 r1 r2 r3;have q0:=λO=>zM s0 O;have q1:=λO=>zM s1 O;have q2:=λO=>zM s2 O;have q3:=λO=>zM s3 O)
   | (go_at_call 53;refine (H w1 A).mono ?_;rintro e w2 ⟨rfl,i⟩;have l:Below w.heap.size w w2:=A.trans (i.mono A.size);have q:=E.trans (i.mono E.size))
   | (go_at_call 96;refine cR.mono ?_;rintro e w1 ⟨rfl,i⟩;have A:Below w.heap.size w w1:=M.trans (i.mono (by simp;omega));have E:=((zi _ (w.alloc (.cells #[.string ⟨#[]⟩,.string ⟨#[]⟩,.slice none 0 0,.bool false] 286))).alloc (ze _) (.cells #[.string ⟨#[111,112]⟩,.string ⟨#[107,101,121]⟩,.string ⟨#[118,97,108,117,101]⟩,.string ⟨#[110,111]⟩] 9)).trans (i.mono (by simp))))
  exact qa (v := .tuple #[.agg #[.string ⟨#[]⟩,.string ⟨#[]⟩,.slice none 0 0,.bool false],.iface 129 (.agg #[.string p])]) (by simp[results,results151,go_sem,q0,q1,q2,q3]) rfl
   ⟨_,_,rfl,.inr (.inl ⟨rfl,_,rfl⟩),((((f9.setCell (ze _) _).setCell (ze _) _).setCell (ze _) _).setCell (ze _) _).alloc (by simp[World.setCell];omega) _,jR _ _ _ _⟩
 | some k=>
  have hk:=b5 k rfl;have cL:=n k hk;have eL:=Pv k hk;unfold opV at c;simp only at c;dsimp only;generalize Rd.xC (opN k) (Rd.zl ms Ref.zJ)=LS at cL |-;generalize Rd.qB (opN k) (Rd.zl ms Ref.zJ)=LC at cL |-;generalize opN k=N at c |-;generalize opT k=ft at c;generalize opL k=fl at c cL eL;obtain⟨nt,c6⟩:∃x,Rd.Jc (Rd.zl ms Ref.bNo)=x:=⟨_,rfl⟩;obtain⟨NC,b6⟩:∃x,Rd.cls (Rd.Zh (Rd.zl ms Ref.bNo)) false=x:=⟨_,rfl⟩;unfold aF at B;simp only[c6,b6] at B;simp only[c6,b6];clear n b5 hk c6 b6;have sf:=λW a g m=>Zk prog W a (.func (.func g) #[] #[]) m rfl;go_enter func151,ntmps151
  go_upto_region 8 with (first
   | (go_at_call 97;refine (j w4 b1).mono ?_;rintro e w5 ⟨U,rfl,e1,b8⟩;have r:Below w.heap.size w w5:=b1.trans (b8.mono b1.size);have a9:=d1.trans (b8.mono d1.size);have g1:=d6.trans (b8.mono d6.size))
   | (go_at_call 53;refine (I _ G).mono ?_;rintro e w4 ⟨rfl,b7⟩;have b1:Below w.heap.size w w4:=G.trans (b7.mono G.size);have d1:=a4.trans (b7.mono a4.size);have d6:=b7)
   | (go_at_call 193;refine (c w2 l).mono ?_;rintro e w3 ⟨u,rfl,c4,s⟩;rcases c4 with ⟨_,rfl⟩|⟨h,_⟩|⟨h,_⟩;rotate_left;(exfalso;simp at h);(exfalso;simp at h);have G:=(l.trans (s.mono l.size)).alloc (l.trans (s.mono l.size)).size (.cells #[.string N,.func (.func fl) #[] #[],.func (.func ft) #[] #[]] 350);have a4:=(q.trans (s.mono q.size)).alloc (q.trans (s.mono q.size)).size (.cells #[.string N,.func (.func fl) #[] #[],.func (.func ft) #[] #[]] 350))
   | (go_at_call 53;refine (H w1 A).mono ?_;rintro e w2 ⟨rfl,i⟩;have l:Below w.heap.size w w2:=A.trans (i.mono A.size);have q:=E.trans (i.mono E.size))
   | (go_at_call 96;refine cR.mono ?_;rintro e w1 ⟨rfl,i⟩;have A:Below w.heap.size w w1:=M.trans (i.mono (by simp;omega));have E:=((zi _ (w.alloc (.cells #[.string ⟨#[]⟩,.string ⟨#[]⟩,.slice none 0 0,.bool false] 286))).alloc (ze _) (.cells #[.string ⟨#[111,112]⟩,.string ⟨#[107,101,121]⟩,.string ⟨#[118,97,108,117,101]⟩,.string ⟨#[110,111]⟩] 9)).trans (i.mono (by simp))))
  have c8:=ja g1;have o0:=(zf c8 0).1;have o1:=(zf c8 1).1;simp at o0 o1;clear cR H c I j
  go_cut [9,10] (λa b wx=>∃y z,a = .slice y LS.length z/\FV LC b/\Below w5.heap.size w5 wx/\wx.ownsRow w5.heap.size 9 1 (.slice y LS.length z) LS.length (LS.map Value.string))
  case first=>
   go_region_with (first
    | (go_at_call 53;refine (J _ (by first|exact r|exact r.drew|exact r.drew.drew|exact r.drew.drew.drew)).mono ?_;rintro e w6 ⟨rfl,d8⟩;have t:Below w5.heap.size w5 w6:=(by first|exact d8|exact Yh d8);have o6:=zh t o1;have Z:Below w.heap.size w w6:=r.trans (t.mono r.size))
    | (go_at_fn fl;refine (cL _ (by first|exact Z|exact Z.drew|exact Z.drew.drew|exact Z.drew.drew.drew)).mono ?_;rintro e w7 ⟨lv,D,rfl,a2,d9,Q⟩;obtain⟨y,z,rfl⟩:=jV Q))
   all_goals
    have e0:Below w6.heap.size w6 w7:=(by first|exact d9|exact Yh d9)
    have a8:=hid (vN a2 (vN (t.trans (e0.mono t.size)) (kG Q (show w5.heap.size<=_ from t.size))))
    go_wp2_with fail
    go_meet
    exact⟨y,z,rfl,a8.out.1,a8.out.2.1,a8.out.2.2⟩
  case rest=>
   obtain⟨y,z,rfl,a2,b9,c7⟩:=hcut;have b4:Below w.heap.size w wc:=r.trans (b9.mono r.size);have Y:=a9.trans (b9.mono a9.size);have e4:=zh b9 o0;clear J cL eL o1 c8
   go_upto_region 11 with (first
    | (go_at_call 194;refine (B w8 b2).mono ?_;rintro e C ⟨X,rfl,e2,a1⟩;have o9:=zh a1 o8)
    | (go_at_call 53;refine (K wc b4).mono ?_;rintro e w8 ⟨rfl,P⟩;have b2:Below w.heap.size w w8:=b4.trans (P.mono b4.size);have o8:=zh P e4))
   obtain⟨D,rfl⟩:∃x,x=u10:=⟨_,rfl⟩;have b3:Below w.heap.size w C:=b2.trans (a1.mono b2.size);have b0:=(Y.trans (P.mono Y.size)).trans (a1.mono (Y.trans (P.mono Y.size)).size);have R:=ownsRow_below (ownsRow_below c7 P) a1;have bA:Below w.heap.size w ((C.alloc (.cells #[.string N,.string KS,.slice y LS.length z,.bool nt] 286)).alloc (.cells #[U,D,X] 86)):=(b3.alloc b3.size _).alloc (by have:=b3.size;simp;omega) _;have aA:=(b0.alloc b0.size (.cells #[.string N,.string KS,.slice y LS.length z,.bool nt] 286)).alloc (by have:=b0.size;simp at this |-;omega) (.cells #[U,D,X] 86);have g2:((C.alloc (.cells #[.string N,.string KS,.slice y LS.length z,.bool nt] 286)).alloc (.cells #[U,D,X] 86)).heap[C.heap.size]?=some (.cells #[.string N,.string KS,.slice y LS.length z,.bool nt] 286):=(X6 C (.cells #[.string N,.string KS,.slice y LS.length z,.bool nt] 286) (.cells #[U,D,X] 86)).1;have g3:((C.alloc (.cells #[.string N,.string KS,.slice y LS.length z,.bool nt] 286)).alloc (.cells #[U,D,X] 86)).heap[C.heap.size+1]?=some (.cells #[U,D,X] 86):=(X6 C (.cells #[.string N,.string KS,.slice y LS.length z,.bool nt] 286) (.cells #[U,D,X] 86)).2
   have g0:∀W:World,Below w.heap.size w W->W.heap[C.heap.size+1]?=some (.cells #[U,D,X] 86)->Calls prog 101 #[.slice (some ⟨C.heap.size+1,0,none⟩) 3 3] W λe w'=>∃u,e = .returned u/\FV (Rd.qA [KC,LC,NC]) u/\Below W.heap.size W w':=λW hW hg=>
    JW [KC,LC,NC] [U,D,X] _ 3 W (L W hW) (by simp) (Ik hg) (Ll e1 a2 e2)
   clear L K B o0 e4 o8 o9;have kK:=e1.cells;have kV:=a2.cells;have kN:=e2.cells
   go_region_with (go_at_call 101;refine (g0 _ (by first|exact bA|exact bA.drew|exact bA.drew.drew) (by first|exact g3)).mono ?_;rintro e g7 ⟨uR,rfl,e3,hb10⟩;have f:Below ((C.alloc (.cells #[.string N,.string KS,.slice y LS.length z,.bool nt] 286)).alloc (.cells #[U,D,X] 86)).heap.size ((C.alloc (.cells #[.string N,.string KS,.slice y LS.length z,.bool nt] 286)).alloc (.cells #[U,D,X] 86)) g7:=(by first|exact hb10|exact Yh hb10|exact Yh (Yh hb10));have o:=ja (aA.trans (f.mono aA.size));have r0:=(zf o 0).1;have r1:=(zf o 1).1;have r2:=(zf o 2).1;have r3:=(zf o 3).1;have f0:=(zf o 0).2;have f1:=(zf o 1).2;have f2:=(zf o 2).2;have f3:=(zf o 3).2;simp at r0 r1 r2 r3;have bC:=(f.block C.heap.size (by simp;omega)).trans g2;have c0:=(zf bC 0).1;have c1:=(zf bC 1).1;have c2:=(zf bC 2).1;have c3:=(zf bC 3).1;simp at c0 c1 c2 c3)
   all_goals
    have s4:=ig (.string N) (.string KS) (.slice y LS.length z) (.bool nt) r0 r1 r2 r3;have BW:=hid (bA.trans (f.mono bA.size));have OW:=hid (ownsRow_below ((R.alloc _).alloc _) f);have a3:w.heap.size<w5.heap.size:=by have h1:=a9.size;simp at h1;omega
    have f8:=hid e3;clear e3 hb10 f o bC R;go_wp2_with fail
    exact qa (v := .tuple #[.agg #[.string N,.string KS,.slice y LS.length z,.bool nt],uR]) (by simp[results,results151,go_sem,s4]) rfl
     ⟨_,_,rfl,f8.out,(((BW.out.setCell (ze _) _).setCell (ze _) _).setCell (ze _) _).setCell (ze _) _,kG (qb (qb (qb (qb OW.out a3 _ _) a3 _ _) a3 _ _) a3 _ _) (by omega)⟩
theorem RQ(x:Rd.V)(u:Value)(w:World)(c:xK w)(b:OAt w (some x) u)(a:Rd.Good 4000 x):Calls prog 151 #[u] w (Vu w x):=by
 by_cases h:∃ms,x = .obj ms/\Rd.qh ms [Ref.bOp,Ref.zG,Ref.zJ,Ref.bNo]=true
 ·obtain⟨ms,rfl,f⟩:=h;obtain⟨g,ao,cap,rfl,d⟩:=Vb b;exact RP ms g ao cap w ⟨c,d,a⟩ f
 ·refine RN x u w b a (λms e=>?_)
  cases hc:Rd.qh ms [Ref.bOp,Ref.zG,Ref.zJ,Ref.bNo] with
  | false=>rfl
  | true=>exact absurd ⟨ms,e,hc⟩ h
def zZ(w:World)(base:Nat)(b:Value)(a:List BA):Prop:=w.ownsRow base 9 1 b a.length (a.map Value.string)
def Xr(w:World)(base:Nat)(xs:List Value)(j:Nat)(c:qF):Prop:=
 ∃a,xs[j*4]?=some (.string c.op)/\xs[j*4+1]?=some (.string c.key)/\xs[j*4+2]?=some a/\xs[j*4+3]?=some (.bool c.no)/\zZ w base a c.vals
theorem Xr.below{w a:World}{base:Nat}{xs:List Value}{j:Nat}{c:qF}(h:Xr w base xs j c)(hb:Below w.heap.size w a):Xr a base xs j c:=by
 obtain⟨i,b,d,e,f,g⟩:=h;exact⟨i,b,d,e,f,ownsRow_below g hb⟩
theorem Xr.set{w:World}{base:Nat}{xs:List Value}{j:Nat}{c:qF}(h:Xr w base xs j c){b:Nat}(hb:b<base)(o:Nat)(u:Value):Xr (w.setCell ⟨b,o,none⟩ u) base xs j c:=by
 obtain⟨i,a,d,e,f,g⟩:=h;exact⟨i,a,d,e,f,qb g hb o u⟩
def xJ(w:World)(base:Nat)(a:Value)(cs:List qF):Prop:=
 ∃xs,w.ownsRow base 286 4 a cs.length xs/\∀j,(h:j<cs.length)->Xr w base xs j cs[j]
def CV(g:Nat)(f:Array Value)(d:Nat->Value)(n:Nat)(cs:Nat->qF)(c:Nat->Nat)(w:World):Prop:=
 ∀W j,j<n->Below w.heap.size w W->Calls prog g (#[d j]++f) W λe b=>
  ∃a u,e = .returned (.tuple #[.agg #[.string (cs j).op,.string (cs j).key,a,.bool (cs j).no],u])/\FV (c j) u/\Below W.heap.size W b/\zZ b W.heap.size a (cs j).vals
def Cv(w:World)(n:Nat)(cs:Nat->qF)(c:Nat->Nat)(e:Ending)(a:World):Prop:=
 ∃(oa d:Option Addr) (f g:Nat) (b:List Value),e = .returned (.tuple #[.slice oa n f,.slice d n g])/\b.length=n/\jF a d b/\FVs ((List.range n).map c) b/\Below w.heap.size w a /\
  xJ a w.heap.size (.slice oa n f) ((List.range n).map cs)
theorem Mt:(prog.info? 286).map (λi=>(i.zero,i.size,i.bytes))=some (some (.agg #[.string ⟨#[]⟩,.string ⟨#[]⟩,.slice none 0 0,.bool false]),4,64):=by kernel_rfl
theorem wW{w:World}{base:Nat}{e:TypeId}{v:Value}{n:Nat}{xs:List Value}(h:w.ownsRow base e 4 v n xs){b:Nat}(hb:v.ownBlock≠some b)(o:Nat)(u:Value):(w.setCell ⟨b,o,none⟩ u).ownsRow base e 4 v n xs:=
 yh h (a:=⟨b,o,none⟩) hb u
theorem GR(D:List Value)(ao:Option Addr)(cap g:Nat)(lb:Array Value)(cs:Nat->qF)(c:Nat->Nat)(w:World)(hn:D.length<=1000)(eg:∀args w,(callFunc g args).run prog w = .ok (.enter g args) w)
  (hm:jF w ao D)(b0:∀u ∈ D,u = .nilIface\/∃T x,u = .iface T x)(hp:CV g lb (λj=>D.getD j .nilIface) D.length cs c w) :
  Calls prog 150 #[.slice ao D.length cap,.func (.func g) #[] lb] w (Cv w D.length cs c):=by
 obtain⟨i0,hi,d9,e0,e1⟩:=jl Mt;obtain⟨i1,R,d8,hy1,hy2⟩:=jl (show (prog.info? 86).map (λi=>(i.zero,i.size,i.bytes))=some (some .nilIface,1,16) by kernel_rfl);obtain⟨n,V⟩:=Nm D.length;rw[V] at hn hp |-;have HM:=hid hm;have c2:=hid b0;have HP:=hid hp;have c3:=hid V;clear hm b0 hp V;go_enter func150,ntmps150
 go_wp2_with (at_make;refine Us _ rfl _ _ 135 rfl w.heap.size 286 i0 (.agg #[.string ⟨#[]⟩,.string ⟨#[]⟩,.slice none 0 0,.bool false]) 4 underlying135 hi d9 e0 _ _ _ _ n rfl rfl ?_ ?_ ?_ ?_ ?_ ?_)
 ·omega
 ·omega
 ·rw[e1];omega
 ·unfold maxLen;omega
 ·omega
 intro w1 C E;obtain⟨zs,b4⟩:=Nm ((madeCells #[.string ⟨#[]⟩,.string ⟨#[]⟩,.slice none 0 0,.bool false] (n*4)).toList);rw[b4] at C;have B:Below w.heap.size w w1:=(zi _ w).grown E (ze _) (λk hk=>by cases hk);clear b4
 go_wp2_with (at_make;refine Us _ rfl _ _ 130 rfl w.heap.size 86 i1 .nilIface 1 underlying130 R d8 hy1 _ _ _ _ n rfl rfl ?_ ?_ ?_ ?_ ?_ ?_)
 ·omega
 ·omega
 ·rw[hy2];omega
 ·unfold maxLen;omega
 ·have:=B.size;omega
 intro w2 U t
 have P:w2.ownsRow w.heap.size 86 1 (.slice (some ⟨w1.heap.size,0,none⟩) n n) n (List.replicate n .nilIface):=by
  rw[<- iR];exact U
 have S:=C.kept t (.inr (by simp[Value.ownBlock]));have b1:w.heap.size<w1.heap.size:=(C.lt _ rfl).2;have Q:Below w.heap.size w w2:=B.grown t B.size (λk hk=>by cases hk);have J:w1.heap.size<w2.heap.size:=(P.lt _ rfl).2;obtain⟨r,a8⟩:=Nm w1.heap.size;rw[a8] at P b1 J |-;have b2:w.heap.size≠r:=by omega
 have a5:=hid S;have a6:=hid P;have Y:=hid Q;have Z:=hid J;clear U t E C B S P Q a8 J;go_wp2_with fail
 go_loopw [18] (λiv wr=>∃(k:Nat) (xs X:List Value),k<=n/\iv = .int .i64 k/\uq c n k X/\wr.ownsRow w.heap.size 286 4 (.slice (some ⟨w.heap.size,0,none⟩) n n) n xs/\wr.ownsRow w.heap.size 86 1 (.slice (some ⟨r,0,none⟩) n n) n X/\Below w.heap.size w wr/\r<wr.heap.size/\(∀j,j<k->Xr wr (r+1) xs j (cs j))) (λiv _=>n-(intOf iv).toNat)
 case atStart=>exact⟨0,_,_,zU _,rfl,uq.start c n,a5.out,a6.out,Y.out,Z.out,λj R=>by omega⟩
 case round=>
  obtain⟨k,xs,X,hk,rfl,b3,ro,re,rb,j4,rc⟩:=hrel;clear a5 a6 Y Z;have RO:=hid ro;have RE:=hid re;have RB:=hid rb;have M:=hid b3;have RC:=hid rc;clear ro re rb b3 rc
  by_cases hlt:k<n
  ·have I:k<D.length:=by rw[c3.out];exact hlt
   have a9:D.getD k .nilIface=D[k]:=by rw[zQ,zt I];rfl
   have K:=HP.out wr k hlt RB.out;have hv:=c2.out D[k] (xg I)
   rcases HM.out with hnil|⟨b,o,hao,hc⟩
   ·rw[hnil] at I;simp at I
   subst hao;have q:=zh RB.out (hc k I);simp only[a9] at K;obtain⟨u,hu⟩:=Nm (D[k]);rw[hu] at q K hv;obtain⟨p,G⟩:∃x,(cs k).op=x:=⟨_,rfl⟩;obtain⟨d,v⟩:∃x,(cs k).key=x:=⟨_,rfl⟩;obtain⟨m,F⟩:∃x,(cs k).no=x:=⟨_,rfl⟩;rw[G,v,F] at K;have b9:=hid G;have c0:=hid v;have c1:=hid F;clear hu hc a9 G v F;have W:xs.length=n*4:=RO.out.1;have a4:=hid W;clear W
   have cells:Hid (∀l,Below wr.heap.size wr l->(∃N,l.cell? ⟨w.heap.size,k*4,none⟩=some N)/\(∃N,l.cell? ⟨w.heap.size,k*4+1,none⟩=some N)/\(∃N,l.cell? ⟨w.heap.size,k*4+2,none⟩=some N)/\(∃N,l.cell? ⟨w.heap.size,k*4+3,none⟩=some N) /\
     l.frozen? ⟨w.heap.size,k*4,none⟩=false/\l.frozen? ⟨w.heap.size,k*4+1,none⟩=false/\l.frozen? ⟨w.heap.size,k*4+2,none⟩=false/\l.frozen? ⟨w.heap.size,k*4+3,none⟩=false/\l.cell? ⟨r,k,none⟩=some .nilIface/\l.frozen? ⟨r,k,none⟩=false):=by
    intro l f;have L:=ownsRow_below RO.out f;have e3:=ownsRow_below RE.out f;have hx:=a4.out
    exact⟨⟨_,(L.cellAt _ (by omega)).trans (zt (by omega))⟩,⟨_,(L.cellAt _ (by omega)).trans (zt (by omega))⟩,⟨_,(L.cellAt _ (by omega)).trans (zt (by omega))⟩,⟨_,(L.cellAt _ (by omega)).trans (zt (by omega))⟩,
     L.frozenAt _,L.frozenAt _,L.frozenAt _,L.frozenAt _,(e3.cellAt k (by omega)).trans (M.out.2.2 k (ze _) hlt),e3.frozenAt k⟩
   have fin:Hid (∀l s x,Below wr.heap.size wr l->FV (c k) x->zZ l wr.heap.size s (cs k).vals ->
     uq c n (k+1) (X.set k x) /\
     (((((l.setCell ⟨w.heap.size,k*4,none⟩ (.string p)).setCell ⟨w.heap.size,k*4+1,none⟩ (.string d)).setCell ⟨w.heap.size,k*4+2,none⟩ s).setCell ⟨w.heap.size,k*4+3,none⟩ (.bool m)).setCell ⟨r,k,none⟩ x).ownsRow w.heap.size 286 4 (.slice (some ⟨w.heap.size,0,none⟩) n n) n ((((xs.set (k*4) (.string p)).set (k*4+1) (.string d)).set (k*4+2) s).set (k*4+3) (.bool m)) /\
     (((((l.setCell ⟨w.heap.size,k*4,none⟩ (.string p)).setCell ⟨w.heap.size,k*4+1,none⟩ (.string d)).setCell ⟨w.heap.size,k*4+2,none⟩ s).setCell ⟨w.heap.size,k*4+3,none⟩ (.bool m)).setCell ⟨r,k,none⟩ x).ownsRow w.heap.size 86 1 (.slice (some ⟨r,0,none⟩) n n) n (X.set k x) /\
     Below w.heap.size w (((((l.setCell ⟨w.heap.size,k*4,none⟩ (.string p)).setCell ⟨w.heap.size,k*4+1,none⟩ (.string d)).setCell ⟨w.heap.size,k*4+2,none⟩ s).setCell ⟨w.heap.size,k*4+3,none⟩ (.bool m)).setCell ⟨r,k,none⟩ x) /\
     r<(((((l.setCell ⟨w.heap.size,k*4,none⟩ (.string p)).setCell ⟨w.heap.size,k*4+1,none⟩ (.string d)).setCell ⟨w.heap.size,k*4+2,none⟩ s).setCell ⟨w.heap.size,k*4+3,none⟩ (.bool m)).setCell ⟨r,k,none⟩ x).heap.size /\
     (∀j,j<k+1->Xr (((((l.setCell ⟨w.heap.size,k*4,none⟩ (.string p)).setCell ⟨w.heap.size,k*4+1,none⟩ (.string d)).setCell ⟨w.heap.size,k*4+2,none⟩ s).setCell ⟨w.heap.size,k*4+3,none⟩ (.bool m)).setCell ⟨r,k,none⟩ x) (r+1) ((((xs.set (k*4) (.string p)).set (k*4+1) (.string d)).set (k*4+2) s).set (k*4+3) (.bool m)) j (cs j))):=by
    intro l s x f hx A;have L:=ownsRow_below RO.out f;have e3:=ownsRow_below RE.out f;have o4:=((((L.stored (k*4) (.string p)).1.stored (k*4+1) (.string d)).1.stored (k*4+2) s).1.stored (k*4+3) (.bool m)).1;have O:(Value.slice (some ⟨r,0,none⟩) n n).ownBlock≠some w.heap.size:=by simp only[Value.ownBlock];intro e;simp only[Option.some.injEq] at e;exact b2 e.symm
    have e4:=yh (yh (yh (yh e3 (a:=⟨w.heap.size,k*4,none⟩) O (.string p)) (a:=⟨w.heap.size,k*4+1,none⟩) O (.string d)) (a:=⟨w.heap.size,k*4+2,none⟩) O s) (a:=⟨w.heap.size,k*4+3,none⟩) O (.bool m);have hz:=f.size;have W:=a4.out;refine⟨M.out.set hlt hx,wW o4 (by simp only[Value.ownBlock];intro e;simp only[Option.some.injEq] at e;exact b2 e) _ _,(e4.stored k x).1,(((((RB.out.trans (f.mono RB.out.size)).setCell (ze _) _).setCell (ze _) _).setCell (ze _) _).setCell (ze _) _).setCell (by show w.heap.size<=r;omega) _,by simp[World.setCell];omega,λj R=>?_⟩
    by_cases hjk:j=k
    ·subst hjk;refine⟨s,?_,?_,?_,?_,qb (qb (qb (qb (qb (kG A (by omega)) (by omega) _ _) (by omega) _ _) (by omega) _ _) (by omega) _ _) (by omega) _ _⟩
     ·simp[List.getElem?_set,b9.out];omega
     ·simp[List.getElem?_set,c0.out];omega
     ·simp[List.getElem?_set];omega
     ·simp[List.getElem?_set,c1.out];omega
    ·have d5:=(((((((RC.out j (by omega)).below f).set (b:=w.heap.size) (by omega) (k*4) (.string p)).set (b:=w.heap.size) (by omega) (k*4+1) (.string d)).set (b:=w.heap.size) (by omega) (k*4+2) s).set (b:=w.heap.size) (by omega) (k*4+3) (.bool m)).set (b:=r) (by omega) k x);obtain⟨l0,h0,h1,h2,h3,h4⟩:=d5;refine⟨l0,?_,?_,?_,?_,h4⟩
     ·rw[zB,za (by omega),zB,za (by omega),zB,za (by omega),zB,za (by omega)];exact h0
     ·rw[zB,za (by omega),zB,za (by omega),zB,za (by omega),zB,za (by omega)];exact h1
     ·rw[zB,za (by omega),zB,za (by omega),zB,za (by omega),zB,za (by omega)];exact h2
     ·rw[zB,za (by omega),zB,za (by omega),zB,za (by omega),zB,za (by omega)];exact h3
   rcases hv with rfl|⟨T,y,rfl⟩
   ·go_wp2_with (go_at_fn g;refine K.mono ?_;rintro e l ⟨s,x,rfl,H,f,A⟩;obtain⟨⟨N,d0⟩,⟨a1,d1⟩,⟨a2,d2⟩,⟨a3,d3⟩,g0,g1,g2,g3,d4,g4⟩:=cells.out l f;have h:=hid (fin.out l s x f H A);obtain⟨la,lc,rfl⟩:=jV A;rcases H.form with rfl|⟨T,z,rfl⟩)
    all_goals
     go_roundw
     case rel=>exact⟨k+1,_,_,by omega,by go_num,h.out.1,h.out.2.1,h.out.2.2.1,h.out.2.2.2.1,h.out.2.2.2.2.1,h.out.2.2.2.2.2⟩
     case measure=>simp[intOf];omega
   ·go_wp2_with (go_at_fn g;refine K.mono ?_;rintro e l ⟨s,x,rfl,H,f,A⟩;obtain⟨⟨N,d0⟩,⟨a1,d1⟩,⟨a2,d2⟩,⟨a3,d3⟩,g0,g1,g2,g3,d4,g4⟩:=cells.out l f;have h:=hid (fin.out l s x f H A);obtain⟨la,lc,rfl⟩:=jV A;rcases H.form with rfl|⟨T,z,rfl⟩)
    all_goals
     go_roundw
     case rel=>exact⟨k+1,_,_,by omega,by go_num,h.out.1,h.out.2.1,h.out.2.2.1,h.out.2.2.2.1,h.out.2.2.2.2.1,h.out.2.2.2.2.2⟩
     case measure=>simp[intOf];omega
  ·have d6:k=n:=by omega
   subst d6;have hE:=M.out.done;have hl:=M.out.1
   go_wp2
   go_ret2;refine⟨_,_,_,_,X,rfl,hl,?_,hE,RB.out,xs,?_,?_⟩
   ·exact .inr ⟨r,0,rfl,λj R=>by rw[qM];exact (RE.out.cellAt j (by omega)).trans (zt R)⟩
   ·rw[qg,jM];exact RO.out
   ·intro j R;rw[qg,jM] at R;obtain⟨l0,h0,h1,h2,h3,h4⟩:=RC.out j R;rw[ak,lV];exact⟨l0,h0,h1,h2,h3,kG h4 (by omega)⟩
def XN:Option Rd.V->List qF
 | some (.list vs)=>if 5<vs.length then [] else vs.map jS
 | _=>[]
def Vv(w:World)(x:Option Rd.V)(e:Ending)(b:World):Prop:=
 ∃a u,e = .returned (.tuple #[a,u])/\FV (Rd.jD x) u/\Below w.heap.size w b/\xJ b w.heap.size a (XN x)
theorem xJ.nil(w:World)(base:Nat):xJ w base (.slice none 0 0) []:=⟨[],jR _ _ _ _,λj a=>by simp at a⟩
theorem xJ.below{w b:World}{base:Nat}{a:Value}{cs:List qF}(h:xJ w base a cs)(hb:Below w.heap.size w b):xJ b base a cs:=by
 obtain⟨xs,c,d⟩:=h;exact⟨xs,ownsRow_below c hb,λj e=>(d j e).below hb⟩
theorem xJ.mono{w:World}{base a:Nat}{b:Value}{cs:List qF}(h:xJ w base b cs)(hb:a<=base):xJ w a b cs:=by
 obtain⟨xs,i,k⟩:=h;refine⟨xs,kG i hb,λj l=>?_⟩;obtain⟨m,c,d,e,f,g⟩:=k j l;exact⟨m,c,d,e,f,kG g hb⟩
theorem xJ.set{w:World}{base:Nat}{c:Value}{cs:List qF}(h:xJ w base c cs){b:Nat}(hb:b<base)(o:Nat)(u:Value):xJ (w.setCell ⟨b,o,none⟩ u) base c cs:=by
 obtain⟨xs,a,d⟩:=h;exact⟨xs,wW a (by intro e;have:=(a.lt b e).1;omega) o u,λj f=>(d j f).set hb o u⟩
theorem xJ.slice{w:World}{base:Nat}{b:Value}{cs:List qF}(h:xJ w base b cs):∃a c,b = .slice a cs.length c:=by
 obtain⟨xs,d,_⟩:=h
 rcases d.2 with ⟨h0,hl⟩|⟨g,c,cur,rfl,_⟩
 ·rw[h0,hl];exact⟨_,_,rfl⟩
 ·exact⟨_,_,rfl⟩
theorem GU(b:List Rd.V)(a:List Value)(ao:Option Addr)(cap:Nat)(w:World)(s:xK w)(n:a.length=b.length)(y:a.length<=1000)
  (x:jF w ao a)(A:∀(j:Nat) (v:Rd.V) (u:Value),b[j]?=some v->a[j]?=some u->OAt w (some v) u)(t:∀v ∈ b,Rd.Good 4000 v) :
  Calls prog 150 #[.slice ao a.length cap,.func (.func 151) #[] #[]] w λe l=>
   ∃(oa g:Option Addr) (k m:Nat) (f:List Value),e = .returned (.tuple #[.slice oa a.length k,.slice g a.length m])/\f.length=a.length/\jF l g f/\FVs (b.map Rd.condC) f/\Below w.heap.size w l/\xJ l w.heap.size (.slice oa a.length k) (b.map jS):=by
 have d:∀j,(h:j<a.length)->OAt w (some (b.getD j (.word false))) a[j]:=λj h=>by
  have c:j<b.length:=by omega
  rw[zQ,zt c];exact A j _ _ (zt c) (zt h)
 refine (GR a ao cap 151 #[] (λj=>jS (b.getD j (.word false))) (λj=>Rd.condC (b.getD j (.word false))) w y (qx func151 (by kernel_rfl) rfl) x ?_ ?_).mono ?_
 ·intro u z;obtain⟨j,i,rfl⟩:=Ql z;exact (d j i).form
 ·intro W j i hb;have c:j<b.length:=by omega
  have:=RQ (b.getD j (.word false)) a[j] W (s.below hb) ((d j i).below hb) (t _ (by rw[zQ,zt c];exact xg c))
  rw[show a[j]=a.getD j .nilIface by rw[zQ,zt i];rfl] at this;exact this
 ·rintro e l ⟨oa,g,k,m,f,rfl,q,c,o,r,p⟩;refine⟨oa,g,k,m,f,rfl,q,c,?_,r,?_⟩
  ·rw[n,Vl] at o;exact o
  ·rw[n,Vl] at p;rw[n];exact p
theorem RS(x:Option Rd.V)(u:Value)(w:World)(k:xK w)(i:OAt w x u)(s:∀v,x=some v->Rd.Good 4000 v):Calls prog 100 #[u] w (Vv w x):=by
 cases x with
 | none=>
  have P:u = .nilIface:=i;subst P;clear k i s;go_enter func100,ntmps100
  go_wp2
  go_ret2;exact⟨_,_,rfl,.inl ⟨rfl,rfl⟩,zi _ _,xJ.nil _ _⟩
 | some v=>
  by_cases h:∃a,v = .list a
  ·obtain⟨a,rfl⟩:=h;have B:ValAt w (λb=>b<w.heap.size) (.list a) u:=i;have g:∀v ∈ a,Rd.Good 4000 v:=by have:=s _ rfl;cases this with|list _ _ h=>exact h
   have R:=iF;have f:Rd.jD (some (.list a))=if 5<a.length then 1 else Rd.qA (a.map Rd.condC):=rfl
   have r:XN (some (.list a))=if 5<a.length then [] else a.map jS:=rfl
   unfold Vv;rw[f,r];clear f r i s
   cases B with
   | list _ F ao cap L l t=>
    by_cases hbad:5<a.length
    ·rw[zb hbad,zb hbad];obtain⟨n,A⟩:=Nm F.length;rw[A];have O:decide ((5:Int)<(n:Int))=true:=by simp;omega
     clear l t g k;go_enter func100,ntmps100
     go_wp2
     go_ret2;exact⟨_,_,rfl,.inr (.inl ⟨rfl,_,rfl⟩),zi _ _,xJ.nil _ _⟩
    ·rw[za hbad,za hbad]
     have G:=GU a F ao cap w k L (by omega) (by
       rcases l with l|⟨b,ha,_,f⟩
       ·exact .inl l
       ·exact .inr ⟨b,0,ha,λj M=>by rw[qM];exact f j _ (zt M)⟩) (λj y v Q B=>t j y v Q B) g
     have m:=λW (hb:Below w.heap.size w W)=>(k.below hb).d.err;clear l t g k;obtain⟨n,A⟩:=Nm F.length;rw[A] at G |-;have N:n<=5:=by omega
     have O:decide ((5:Int)<(n:Int))=false:=by simp;omega
     go_enter func100,ntmps100
     go_wp2_with (first
      | (go_at_call 101;refine H.mono ?_;rintro e X ⟨v,rfl,z,o⟩)
      | (go_at_call 150;refine G.mono ?_;rintro e I ⟨oa,J,U,K,S,rfl,E,C,D,c,q⟩;have H:=JW _ S J K I (m I c) (by omega) C D;rw[E] at H))
     go_ret2;exact⟨_,_,rfl,z,c.trans (o.mono c.size),q.below o⟩
  ·have p:∀a,some v≠some (.list a):=λa e=>h ⟨a,by simpa using e⟩;have R:=λW=>iG i p W;obtain⟨T,y,rfl⟩:=ValAt.iface (show ValAt w (λb=>b<w.heap.size) v u from i)
   have f:Rd.jD (some v)=1:=by
    cases v with
    | list a=>exact absurd ⟨a,rfl⟩ h
    | _=>rfl
   have r:XN (some v)=[]:=by
    cases v with
    | list a=>exact absurd ⟨a,rfl⟩ h
    | _=>rfl
   unfold Vv;rw[f,r];clear i p k s f r h;go_enter func100,ntmps100
   go_wp2
   go_ret2;exact⟨_,_,rfl,.inr (.inl ⟨rfl,_,rfl⟩),zi _ _,xJ.nil _ _⟩
end Go.Proofs.YtagnlbgbnfnapaaGreatDoor
