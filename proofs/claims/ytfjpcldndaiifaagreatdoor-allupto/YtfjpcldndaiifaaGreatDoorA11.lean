/- P -/
import Derived.Test.YtfjpcldndaiifaaGreatDoorA10
open Go.Proofs.Tryz
set_option maxRecDepth 100000
set_option maxHeartbeats 2000000
namespace Go.Proofs.YtfjpcldndaiifaaGreatDoor
open Go.RowKit
structure jC (w:J) (ms:List (BY×Z.V)) (us:List (BY×Y)) (ao:Option Addr) (cap:Nat):Prop where
 env:yF w
 obj:Qi w ms us ao
 good:Z.Good 4000 (.obj ms)
theorem jC.below{w w':J}{ms:List (BY×Z.V)}{b:List (BY×Y)}{ao:Option Addr}{cap:Nat}(h:jC w ms b ao cap)(a:BQ w w'):jC w' ms b ao cap:=⟨h.env.below a,h.obj.below a,h.good⟩
theorem jC.len{w:J}{ms:List (BY×Z.V)}{a:List (BY×Y)}{ao:Option Addr}{cap:Nat}(h:jC w ms a ao cap):ms.length<=4000:=by
 have:=h.good
 cases this with|obj _ h=>exact h
theorem jC.get{w:J}{ms:List (BY×Z.V)}{a:List (BY×Y)}{ao:Option Addr}{cap:Nat}(h:jC w ms a ao cap)(nm:BY):R8 59 #[TL ao a.length cap,S9 nm] w (G5 (xW a nm) w):=mW cap h.obj h.len nm
theorem jC.key{w:J}{ms:List (BY×Z.V)}{a:List (BY×Y)}{ao:Option Addr}{cap:Nat}(h:jC w ms a ao cap):R8 105 #[xW a U.zL,.func (.func 57) #[] #[]] w (JZ w (Z.xN U.ql (Z.zm ms U.zL)) (Z.qx U.ql (Z.zm ms U.zL))):=
 nS _ _ _ _ _ 4000 w (qo func57 (by kernel_rfl) rfl) (h.obj.get U.zL) (λs b=>by have:=Z.jr h.good U.zL _ b;cases this with|str _ h=>exact h) (TD w)
theorem jC.no{w:J}{ms:List (BY×Z.V)}{a:List (BY×Y)}{ao:Option Addr}{cap:Nat}(h:jC w ms a ao cap):R8 199 #[xW a U.bNo] w (gI w (Z.zm ms U.bNo)):=zcI _ _ w (h.obj.get U.bNo)
theorem jC.oper{w:J}{ms:List (BY×Z.V)}{a:List (BY×Y)}{ao:Option Addr}{cap:Nat}(h:jC w ms a ao cap):R8 198 #[xW a U.bOp] w (gJ w (Z.zm ms U.bOp)):=zcJ _ _ w h.env.ops (h.obj.get U.bOp)
theorem jC.look{w:J}{ms:List (BY×Z.V)}{a:List (BY×Y)}{ao:Option Addr}{cap:Nat}(h:jC w ms a ao cap)(k:Nat)(b:k<5):R8 (opL k) #[xW a U.zK] w (YD w (Z.uS (opN k) (Z.zm ms U.zK)) (Z.yZ (opN k) (Z.zm ms U.zK))):=
 zbL h.env.d k b w _ _ (λv c=>Z.jr h.good U.zK v c) (h.obj.get U.zK) E9
theorem zbI(k:Nat)(b:k<5):∀a w,(callFunc (opL k) a).run prog w=.ok (.enter (opL k) a) w:=by
 rcases lt5 b with rfl|rfl|rfl|rfl|rfl
 ·exact qo func293 (by kernel_rfl) rfl
 ·exact qo func295 (by kernel_rfl) rfl
 ·exact qo func297 (by kernel_rfl) rfl
 ·exact qo func299 (by kernel_rfl) rfl
 exact qo func301 (by kernel_rfl) rfl
theorem FV.cells{c:Nat}{u:Y}(h:FV c u):Value.cells.match_1 (λ_=>Array Y) u (λa=>a) (λv=>#[v])=#[u]:=by
 rcases h.form with rfl|⟨T,x,rfl⟩
 ·rfl
 rfl
theorem Rx{a b c:Nat}{u v x:Y}(g:FV a u)(h:FV b v)(i:FV c x):FVs [a,b,c] [u,v,x]:=by
 refine⟨rfl,λj d y e f=>?_⟩
 match j with
 | 0=>simp at e f;subst e;subst f;exact g
 | 1=>simp at e f;subst e;subst f;exact h
 | 2=>simp at e f;subst e;subst f;exact i
 | j+3=>simp at e
theorem Px{W:J}{b:Nat}{u v x:Y}{t:TypeId}(h:W.heap[b]?=some (L8 #[u,v,x] t (0,0))):vV W (some (G8 b 0)) [u,v,x]:=by
 refine .inr ⟨b,0,rfl,λj a=>?_⟩;simp only[Qf,JQ]at a;rw[qV,(zg h j).1]
 have:j=0\/j=1\/j=2:=by omega
 rcases this with rfl|rfl|rfl<;>rfl
theorem zcE(ms:List (BY×Z.V))(us:List (BY×Y))(ao:Option Addr)(cap:Nat)(w:J)(hI:jC w ms us ao cap)(ho:Z.qB ms [U.bOp,U.zL,U.zK,U.bNo]=true):R8 160 #[.iface 125 (TL ao us.length cap)] w (UJ w (.obj ms)):=by
 have hC:=iQ ms;rw[ho]at hC;simp only[qJ]at hC
 have hS:Zw (.obj ms)=match Yg (Z.zm ms U.bOp) with
  | some k=>⟨opN k,Z.xN U.ql (Z.zm ms U.zL),Z.uS (opN k) (Z.zm ms U.zK),Z.QS (Z.zm ms U.bNo)⟩
  | none=>Ye:=by simp only[Zw];rw[ho];rfl
 have e3:=nbl w Qa;have Q:=e3.alloc (by simp) X3;have hr:=Dj (w.alloc Qa) U.bOp U.zL U.zK U.bNo 9;rw[uH]at hr;have cR:=KX ms us ao cap [U.bOp,U.zL,U.zK,U.bNo] (some (G8 (w.heap.size+1) 0)) 4 ((w.alloc Qa).alloc X3) (by simp) hI.len hr (hI.obj.below Q) true ho;simp only[qJ,Qf,JQ]at cR;have cG:=λW nm (h:BQ w W)=>(hI.below h).get nm;have c:=λW (h:BQ w W)=>(hI.below h).oper;have j:=λW (h:BQ w W)=>(hI.below h).key;have C:=λW (h:BQ w W)=>(hI.below h).no;have n:=λk hk W (h:BQ w W)=>(hI.below h).look k hk;have P:=λW (h:BQ w W)=>(hI.below h).env.d.err;unfold UJ;rw[hC,hS];obtain⟨F,hF⟩:=Nm (Yg (Z.zm ms U.bOp));rw[hF];unfold gJ at c;simp only[hF]at c
 have c5:∀k,F=some k->k<5:=by
  intro k hk;rw[hk]at hF;unfold Yg at hF;split at hF
  ·exact(mY hF).1
  cases hF
 obtain⟨k6,b2⟩:=Nm (xW us U.bOp);obtain⟨i2,X⟩:=Nm (xW us U.zL);obtain⟨k5,b1⟩:=Nm (xW us U.bNo);obtain⟨i3,a0⟩:=Nm (xW us U.zK);have I:=λW h=>cG W U.bOp h;have K:=λW h=>cG W U.zL h;have L:=λW h=>cG W U.zK h;have M:=λW h=>cG W U.bNo h;simp only[b2]at I c;simp only[X]at K j;simp only[a0]at L n;simp only[b1]at M C;generalize Z.xN U.ql (Z.zm ms U.zL)=KS at j |-;generalize Z.qx U.ql (Z.zm ms U.zL)=KC at j |-;clear hI ho hS hC hF b2 X b1 a0 cG hr;unfold X3 Qa at cR;unfold Qa at e3;unfold X3 Qa at Q;unfold U.bOp U.zL U.zK U.bNo at cR Q;unfold U.bOp at I;unfold U.zL at K;unfold U.zK at L;unfold U.bNo at M
 cases F with
 | none=>
  clear K L M j C n c5 P;unfold opV at c;simp only at c;go_enter func160,ntmps160
  go_wp2_with(first
   |(go_at_call 198;apply(c w2 l).mono;rintro e w3⟨u,rfl,d0,s⟩;rcases d0 with⟨h,_⟩|⟨_,p,rfl⟩|⟨h,_⟩;(exfalso;simp at h);rotate_left;(exfalso;simp at h);have g6:BQ w w3:=l.trans (s.mono l.size);have o:=jS (q.trans (s.mono q.size));have r0:=(zg o 0).1;have r1:=(zg o 1).1;have r2:=(zg o 2).1;have r3:=(zg o 3).1;have f0:=(zg o 0).2;have f1:=(zg o 1).2;have f2:=(zg o 2).2;have f3:=(zg o 3).2;simp at r0 r1 r2 r3;have sn:=(λW a m=>ZB prog W a .nilFunc m rfl);have hz:w.heap.size<w3.heap.size:=(by have h1:=q.size;have h2:=s.size;simp at h1;omega);have j2:w.heap.size≠w3.heap.size:=(by omega);obtain⟨s0,s1,s2,s3⟩:=om R5 R5 R4 T9 r0 r1 r2 r3;have q0:=λO=>zR s0 O;have q1:=λO=>zR s1 O;have q2:=λO=>zR s2 O;have q3:=λO=>zR s3 O)
   |(go_at_call 59;apply(I w1 A).mono;rintro e w2⟨rfl,i⟩;have l:BQ w w2:=A.trans (i.mono A.size);have q:=G.trans (i.mono G.size))
   |(go_at_call 104;apply cR.mono;rintro e w1⟨rfl,i⟩;have A:BQ w w1:=Q.trans (i.mono (by simp;omega));have G:=((zf _ (w.alloc (L8 #[R5,R5,R4,T9] 262))).alloc F7 (L8 #[S9 ⟨#[111,112]⟩,S9 ⟨#[107,101,121]⟩,S9 ⟨#[118,97,108,117,101]⟩,S9 ⟨#[110,111]⟩] 9)).trans (i.mono (by simp))))
  exact zG (v := .tuple #[.agg #[R5,R5,R4,T9],.iface 132 (.agg #[S9 p])]) (by simp[results,results160,go_sem,q0,q1,q2,q3]) rfl
   ⟨_,_,rfl,.inr (.inl ⟨rfl,_,rfl⟩),((((g6.setCell F7 _).setCell F7 _).setCell F7 _).setCell F7 _).alloc (by simp[World.setCell];omega) _,qF _ _ _ _⟩
 | some k=>
  have hk:=c5 k rfl;have cL:=n k hk;have eL:=zbI k hk;unfold opV at c;simp only at c;dsimp only;generalize Z.uS (opN k) (Z.zm ms U.zK)=LS at cL |-;generalize Z.yZ (opN k) (Z.zm ms U.zK)=LC at cL |-;generalize opN k=N at c |-;generalize opT k=ft at c;generalize opL k=fl at c cL eL;obtain⟨nt,d2⟩:=Nm (Z.QS (Z.zm ms U.bNo));obtain⟨NC,c6⟩:=Nm (Z.cls (Z.kJ (Z.zm ms U.bNo)) false);unfold gI at C;simp only[d2,c6]at C;simp only[d2,c6];clear n c5 hk d2 c6;have sf:=λW a g m=>ZB prog W a (.func (.func g) #[] #[]) m rfl;go_enter func160,ntmps160
  go_upto_region 8 with(first
   |(go_at_call 105;apply(j w4 b7).mono;rintro e w5⟨uK,rfl,e7,c8⟩;have r:BQ w w5:=b7.trans (c8.mono b7.size);have b5:=d7.trans (c8.mono d7.size);have g8:=e2.trans (c8.mono e2.size))
   |(go_at_call 59;apply(K _ H).mono;rintro e w4⟨rfl,c7⟩;have b7:BQ w w4:=H.trans (c7.mono H.size);have d7:=b0.trans (c7.mono b0.size);have e2:=c7)
   |(go_at_call 198;apply(c w2 l).mono;rintro e w3⟨u,rfl,d0,s⟩;rcases d0 with⟨_,rfl⟩|⟨h,_⟩|⟨h,_⟩;rotate_left;(exfalso;simp at h);(exfalso;simp at h);have H:=(l.trans (s.mono l.size)).alloc (l.trans (s.mono l.size)).size (L8 #[S9 N,.func (.func fl) #[] #[],.func (.func ft) #[] #[]] 346);have b0:=(q.trans (s.mono q.size)).alloc (q.trans (s.mono q.size)).size (L8 #[S9 N,.func (.func fl) #[] #[],.func (.func ft) #[] #[]] 346))
   |(go_at_call 59;apply(I w1 A).mono;rintro e w2⟨rfl,i⟩;have l:BQ w w2:=A.trans (i.mono A.size);have q:=G.trans (i.mono G.size))
   |(go_at_call 104;apply cR.mono;rintro e w1⟨rfl,i⟩;have A:BQ w w1:=Q.trans (i.mono (by simp;omega));have G:=((zf _ (w.alloc (L8 #[R5,R5,R4,T9] 262))).alloc F7 (L8 #[S9 ⟨#[111,112]⟩,S9 ⟨#[107,101,121]⟩,S9 ⟨#[118,97,108,117,101]⟩,S9 ⟨#[110,111]⟩] 9)).trans (i.mono (by simp))))
  have d4:=jS g8;have o0:=(zg d4 0).1;have o1:=(zg d4 1).1;simp at o0 o1;clear cR I c K j
  go_cut [9,10] (λa b wx=>∃y z,a=TL y LS.length z/\FV LC b/\BQ w5 wx/\wx.ownsRow w5.heap.size 9 1 (TL y LS.length z) LS.length (LS.map Value.string))
  case first=>
   go_region_with (first
    |(go_at_call 59;apply(L _ (by first|exact r|exact r.drew|exact r.drew.drew|exact r.drew.drew.drew)).mono;rintro e w6⟨rfl,e4⟩;have t:BQ w5 w6:=(by first|exact e4|exact Xe e4);have o6:=zi t o1;have a5:BQ w w6:=r.trans (t.mono r.size))
    |(go_at_fn fl;apply(cL _ (by first|exact a5|exact a5.drew|exact a5.drew.drew|exact a5.drew.drew.drew)).mono;rintro e w7⟨lv,E,rfl,a8,e5,S⟩;obtain⟨y,z,rfl⟩:=xe S))
   all_goals
    have e6:BQ w6 w7:=(by first|exact e5|exact Xe e5)
    have b4:=G7 (ZH a8 (ZH (t.trans (e6.mono t.size)) (xS S (show w5.heap.size<=_ from t.size))))
    go_wp2_with fail
    go_meet
    exact⟨y,z,rfl,b4.o.1,b4.o.2.1,b4.o.2.2⟩
  case rest=>
   obtain⟨y,z,rfl,a8,c9,d3⟩:=hcut;have c4:BQ w wc:=r.trans (c9.mono r.size);have a4:=b5.trans (c9.mono b5.size);have f4:=zi c9 o0;clear L cL eL o1 d4
   go_upto_region 11 with(first
    |(go_at_call 199;apply(C w8 b8).mono;rintro e D⟨uN,rfl,e8,a7⟩;have o9:=zi a7 o8)
    |(go_at_call 59;apply(M wc c4).mono;rintro e w8⟨rfl,R⟩;have b8:BQ w w8:=c4.trans (R.mono c4.size);have o8:=zi R f4))
   obtain⟨E,rfl⟩:∃x,x=u10:=⟨_,rfl⟩;have b9:BQ w D:=b8.trans (a7.mono b8.size);have b6:=(a4.trans (R.mono a4.size)).trans (a7.mono (a4.trans (R.mono a4.size)).size);have T:=ownsRow_below (ownsRow_below d3 R) a7;have bA:BQ w ((D.alloc (L8 #[S9 N,S9 KS,TL y LS.length z,.bool nt] 262)).alloc (L8 #[uK,E,uN] 82)):=(b9.alloc b9.size _).alloc (by have:=b9.size;simp;omega) _;have aA:=(b6.alloc b6.size (L8 #[S9 N,S9 KS,TL y LS.length z,.bool nt] 262)).alloc (by have:=b6.size;simp at this |-;omega) (L8 #[uK,E,uN] 82);have g9:((D.alloc (L8 #[S9 N,S9 KS,TL y LS.length z,.bool nt] 262)).alloc (L8 #[uK,E,uN] 82)).heap[D.heap.size]?=some (L8 #[S9 N,S9 KS,TL y LS.length z,.bool nt] 262):=(Zn D (L8 #[S9 N,S9 KS,TL y LS.length z,.bool nt] 262) (L8 #[uK,E,uN] 82)).1;have h0:((D.alloc (L8 #[S9 N,S9 KS,TL y LS.length z,.bool nt] 262)).alloc (L8 #[uK,E,uN] 82)).heap[D.heap.size+1]?=some (L8 #[uK,E,uN] 82):=(Zn D (L8 #[S9 N,S9 KS,TL y LS.length z,.bool nt] 262) (L8 #[uK,E,uN] 82)).2
   have g7:∀W:J,BQ w W->W.heap[D.heap.size+1]?=some (L8 #[uK,E,uN] 82)->R8 109 #[TL (some (G8 (D.heap.size+1) 0)) 3 3] W λe w'=>∃u,e=.returned u/\FV (Z.qZ [KC,LC,NC]) u/\BQ W w':=λW hW hg=>
    Ua [KC,LC,NC] [uK,E,uN] _ 3 W (P W hW) (by simp) (Px hg) (Rx e7 a8 e8)
   clear P M C o0 f4 o8 o9;have kK:=e7.cells;have kV:=a8.cells;have kN:=e8.cells;go_region_with (go_at_call 109;apply(g7 _ (by first|exact bA|exact bA.drew|exact bA.drew.drew) (by first|exact h0)).mono;rintro e h6⟨uR,rfl,e9,B⟩;have f:Below ((D.alloc (L8 #[S9 N,S9 KS,TL y LS.length z,.bool nt] 262)).alloc (L8 #[uK,E,uN] 82)).heap.size ((D.alloc (L8 #[S9 N,S9 KS,TL y LS.length z,.bool nt] 262)).alloc (L8 #[uK,E,uN] 82)) h6:=(by first|exact B|exact Xe B|exact Xe (Xe B));have o:=jS (aA.trans (f.mono aA.size));have r0:=(zg o 0).1;have r1:=(zg o 1).1;have r2:=(zg o 2).1;have r3:=(zg o 3).1;have f0:=(zg o 0).2;have f1:=(zg o 1).2;have f2:=(zg o 2).2;have f3:=(zg o 3).2;simp at r0 r1 r2 r3;have bC:=(f.block D.heap.size (by simp;omega)).trans g9;have c0:=(zg bC 0).1;have c1:=(zg bC 1).1;have c2:=(zg bC 2).1;have c3:=(zg bC 3).1;simp at c0 c1 c2 c3)
   all_goals
    have s4:=om (S9 N) (S9 KS) (TL y LS.length z) (.bool nt) r0 r1 r2 r3;have BW:=G7 (bA.trans (f.mono bA.size));have OW:=G7 (ownsRow_below ((T.alloc _).alloc _) f);have a9:w.heap.size<w5.heap.size:=by have h1:=b5.size;simp at h1;omega
    have g5:=G7 e9;clear e9 B f o bC T;go_wp2_with fail
    exact zG (v := .tuple #[.agg #[S9 N,S9 KS,TL y LS.length z,.bool nt],uR]) (by simp[results,results160,go_sem,s4]) rfl
     ⟨_,_,rfl,g5.o,(((BW.o.setCell F7 _).setCell F7 _).setCell F7 _).setCell F7 _,xS (qa (qa (qa (qa OW.o a9 _ _) a9 _ _) a9 _ _) a9 _ _) (by omega)⟩
theorem zcF(x:Z.V)(u:Y)(w:J)(g:yF w)(d:OAt w (some x) u)(c:Z.Good 4000 x):R8 160 #[u] w (UJ w x):=by
 by_cases h:∃a,x=.obj a/\Z.qB a [U.bOp,U.zL,U.zK,U.bNo]=true
 ·obtain⟨a,rfl,j⟩:=h;obtain⟨k,f,b,rfl,i⟩:=Um d;exact zcE a k f b w ⟨g,i,c⟩ j
 refine zcD x u w d c (λa e=>?_)
 cases hc:Z.qB a [U.bOp,U.zL,U.zK,U.bNo] with
 | false=>rfl
 | true=>exact absurd ⟨a,e,hc⟩ h
def zJ(w:J)(base:Nat)(b:Y)(a:List BY):Prop:=w.ownsRow base 9 1 b a.length (a.map Value.string)
def Yq(w:J)(base:Nat)(xs:List Y)(j:Nat)(c:qj):Prop:=
 ∃a,xs[j*4]?=some (S9 c.op)/\xs[j*4+1]?=some (S9 c.key)/\xs[j*4+2]?=some a/\xs[j*4+3]?=some (.bool c.no)/\zJ w base a c.vals
theorem Yq.below{w w':J}{base:Nat}{xs:List Y}{j:Nat}{c:qj}(h:Yq w base xs j c)(g:BQ w w'):Yq w' base xs j c:=by
 obtain⟨i,a,b,d,e,f⟩:=h;exact⟨i,a,b,d,e,ownsRow_below f g⟩
theorem Yq.set{w:J}{base:Nat}{xs:List Y}{j:Nat}{c:qj}(h:Yq w base xs j c){b:Nat}(i:b<base)(o:Nat)(u:Y):Yq (w.setCell (G8 b o) u) base xs j c:=by
 obtain⟨k,a,d,e,f,g⟩:=h;exact⟨k,a,d,e,f,qa g i o u⟩
def xB(w:J)(base:Nat)(b:Y)(cs:List qj):Prop:=
 ∃a,w.ownsRow base 262 4 b cs.length a/\∀j,(h:j<cs.length)->Yq w base a j cs[j]
def GL(g:Nat)(f:Array Y)(d:Nat->Y)(n:Nat)(cs:Nat->qj)(c:Nat->Nat)(w:J):Prop:=
 ∀W j,j<n->BQ w W->R8 g (#[d j]++f) W λe b=>
  ∃a u,e=.returned (.tuple #[.agg #[S9 (cs j).op,S9 (cs j).key,a,.bool (cs j).no],u])/\FV (c j) u/\BQ W b/\zJ b W.heap.size a (cs j).vals
def GH(w:J)(n:Nat)(cs:Nat->qj)(c:Nat->Nat)(e:Ending)(w':J):Prop:=
 ∃(d b:Option Addr) (f g:Nat) (a:List Y),e=.returned (.tuple #[TL d n f,TL b n g])/\a.length=n/\vV w' b a/\FVs ((List.range n).map c) a/\BQ w w' /\
  xB w' w.heap.size (TL d n f) ((List.range n).map cs)
theorem Te:(prog.info? 262).map (λi=>(i.zero,i.size,i.bytes))=some (some (.agg #[R5,R5,R4,T9]),4,64):=by kernel_rfl
theorem Eb{w:J}{base:Nat}{e:TypeId}{v:Y}{n:Nat}{xs:List Y}(h:w.ownsRow base e 4 v n xs){b:Nat}(c:v.ownBlock≠some b)(o:Nat)(u:Y):(w.setCell (G8 b o) u).ownsRow base e 4 v n xs:=
 xz h (a:=G8 b o) c u
theorem OL(D:List Y)(ao:Option Addr)(cap g:Nat)(lb:Array Y)(cs:Nat->qj)(c:Nat->Nat)(w:J)(hn:D.length<=1000)(eg:L9 g)
  (hm:vV w ao D)(b6:∀u ∈ D,u=.nilIface\/∃T x,u=.iface T x)(hp:GL g lb (λj=>D.getD j .nilIface) D.length cs c w):R8 159 #[TL ao D.length cap,.func (.func g) #[] lb] w (GH w D.length cs c):=by
 obtain⟨i0,hi,e9,f0,f1⟩:=qU Te;obtain⟨i1,V,e6,e7,e8⟩:=qU (show (prog.info? 82).map (λi=>(i.zero,i.size,i.bytes))=some (some .nilIface,1,16) by kernel_rfl);obtain⟨n,a4⟩:=Nm D.length;rw[a4]at hn hp |-;have⟨HM,c8,HP,c9⟩:=M5 hm b6 hp a4;clear hm b6 hp a4;go_enter func159,ntmps159;go_wp2_with (at_make;refine JH _ rfl _ _ 138 rfl w.heap.size 262 i0 (.agg #[R5,R5,R4,T9]) 4 underlying138 hi e9 f0 _ _ _ _ n rfl rfl ?_ ?_ ?_ ?_ ?_ ?_)
 ·omega
 ·omega
 ·rw[f1];omega
 ·unfold maxLen;omega
 ·omega
 intro w1 C E;obtain⟨zs,c0⟩:=Nm ((madeCells #[R5,R5,R4,T9] (n*4)).toList);rw[c0]at C;have B:BQ w w1:=(zf _ w).grown E F7 (λk hk=>by cases hk);clear c0;go_wp2_with (at_make;refine JH _ rfl _ _ 133 rfl w.heap.size 82 i1 .nilIface 1 underlying133 V e6 e7 _ _ _ _ n rfl rfl ?_ ?_ ?_ ?_ ?_ ?_)
 ·omega
 ·omega
 ·rw[e8];omega
 ·unfold maxLen;omega
 ·have:=B.size;omega
 intro w2 X t
 have Q:w2.ownsRow w.heap.size 82 1 (TL (some (G8 w1.heap.size 0)) n n) n (List.replicate n .nilIface):=by
  rw[<- UG];exact X
 have W:=C.kept t (.inr (by simp[Value.ownBlock]));have b7:w.heap.size<w1.heap.size:=(C.lt _ rfl).2;have S:BQ w w2:=B.grown t B.size (λk hk=>by cases hk);have K:w1.heap.size<w2.heap.size:=(Q.lt _ rfl).2;obtain⟨r,b4⟩:=Nm w1.heap.size;rw[b4]at Q b7 K |-;have b8:w.heap.size≠r:=by omega
 have⟨b1,b2,a8,a9⟩:=M5 W Q S K;clear X t E C B W Q S b4 K;go_wp2_with fail
 go_loopw [18] (λiv wr=>∃(k:Nat) (xs ys:List Y),k<=n/\iv=R9 k/\kU c n k ys/\wr.ownsRow w.heap.size 262 4 (TL (some (G8 w.heap.size 0)) n n) n xs/\wr.ownsRow w.heap.size 82 1 (TL (some (G8 r 0)) n n) n ys/\BQ w wr/\r<wr.heap.size/\(∀j,j<k->Yq wr (r+1) xs j (cs j))) (λiv _=>n-(intOf iv).toNat)
 case atStart=>exact⟨0,_,_,zD _,rfl,kU.start c n,b1.o,b2.o,a8.o,a9.o,λj V=>by omega⟩
 case round=>
  obtain⟨k,xs,ys,hk,rfl,b9,ro,re,rb,j8,rc⟩:=hrel;clear b1 b2 a8 a9;have⟨RO,RE,RB,N,RC⟩:=M6 ro re rb b9 rc;clear ro re rb b9 rc
  by_cases hlt:k<n
  ·have I:k<D.length:=by rw[c9.o];exact hlt
   have b5:D.getD k .nilIface=D[k]:=by rw[zT,zn I];rfl
   have L:=HP.o wr k hlt RB.o;have hv:=c8.o D[k] (qm I)
   rcases HM.o with hnil|⟨b,o,hao,hc⟩
   ·rw[hnil]at I;simp at I
   subst hao;have q:=zi RB.o (hc k I);simp only[b5]at L;obtain⟨u,hu⟩:=Nm (D[k]);rw[hu]at q L hv;obtain⟨p,G⟩:=Nm ((cs k).op);obtain⟨d,v⟩:=Nm ((cs k).key);obtain⟨m,F⟩:=Nm ((cs k).no);rw[G,v,F]at L;have⟨c5,c6,c7⟩:=M4 G v F;clear hu hc b5 G v F;have a5:xs.length=n*4:=RO.o.1;have b0:=G7 a5;clear a5
   have cells:G6 (∀l,BQ wr l->(∃O,l.cell? (G8 w.heap.size (k*4))=some O)/\(∃O,l.cell? (G8 w.heap.size (k*4+1))=some O)/\(∃O,l.cell? (G8 w.heap.size (k*4+2))=some O)/\(∃O,l.cell? (G8 w.heap.size (k*4+3))=some O) /\
     l.frozen? (G8 w.heap.size (k*4))=false/\l.frozen? (G8 w.heap.size (k*4+1))=false/\l.frozen? (G8 w.heap.size (k*4+2))=false/\l.frozen? (G8 w.heap.size (k*4+3))=false/\l.cell? (G8 r k)=some .nilIface/\l.frozen? (G8 r k)=false):=by
    intro l f;have M:=ownsRow_below RO.o f;have e3:=ownsRow_below RE.o f;have hx:=b0.o
    exact⟨⟨_,(M.cellAt _ (by omega)).trans (P7)⟩,⟨_,(M.cellAt _ (by omega)).trans (P7)⟩,⟨_,(M.cellAt _ (by omega)).trans (P7)⟩,⟨_,(M.cellAt _ (by omega)).trans (P7)⟩,
     M.frozenAt _,M.frozenAt _,M.frozenAt _,M.frozenAt _,(e3.cellAt k (by omega)).trans (N.o.2.2 k F7 hlt),e3.frozenAt k⟩
   have fin:G6 (∀l s x,BQ wr l->FV (c k) x->zJ l wr.heap.size s (cs k).vals ->
     kU c n (k+1) (ys.set k x) /\
     (((((l.setCell (G8 w.heap.size (k*4)) (S9 p)).setCell (G8 w.heap.size (k*4+1)) (S9 d)).setCell (G8 w.heap.size (k*4+2)) s).setCell (G8 w.heap.size (k*4+3)) (.bool m)).setCell (G8 r k) x).ownsRow w.heap.size 262 4 (TL (some (G8 w.heap.size 0)) n n) n ((((xs.set (k*4) (S9 p)).set (k*4+1) (S9 d)).set (k*4+2) s).set (k*4+3) (.bool m)) /\
     (((((l.setCell (G8 w.heap.size (k*4)) (S9 p)).setCell (G8 w.heap.size (k*4+1)) (S9 d)).setCell (G8 w.heap.size (k*4+2)) s).setCell (G8 w.heap.size (k*4+3)) (.bool m)).setCell (G8 r k) x).ownsRow w.heap.size 82 1 (TL (some (G8 r 0)) n n) n (ys.set k x) /\
     BQ w (((((l.setCell (G8 w.heap.size (k*4)) (S9 p)).setCell (G8 w.heap.size (k*4+1)) (S9 d)).setCell (G8 w.heap.size (k*4+2)) s).setCell (G8 w.heap.size (k*4+3)) (.bool m)).setCell (G8 r k) x) /\
     r<(((((l.setCell (G8 w.heap.size (k*4)) (S9 p)).setCell (G8 w.heap.size (k*4+1)) (S9 d)).setCell (G8 w.heap.size (k*4+2)) s).setCell (G8 w.heap.size (k*4+3)) (.bool m)).setCell (G8 r k) x).heap.size /\
     (∀j,j<k+1->Yq (((((l.setCell (G8 w.heap.size (k*4)) (S9 p)).setCell (G8 w.heap.size (k*4+1)) (S9 d)).setCell (G8 w.heap.size (k*4+2)) s).setCell (G8 w.heap.size (k*4+3)) (.bool m)).setCell (G8 r k) x) (r+1) ((((xs.set (k*4) (S9 p)).set (k*4+1) (S9 d)).set (k*4+2) s).set (k*4+3) (.bool m)) j (cs j))):=by
    intro l s x f hx A;have M:=ownsRow_below RO.o f;have e3:=ownsRow_below RE.o f;have o4:=((((M.stored (k*4) (S9 p)).1.stored (k*4+1) (S9 d)).1.stored (k*4+2) s).1.stored (k*4+3) (.bool m)).1;have P:(Value.slice (some (G8 r 0)) n n).ownBlock≠some w.heap.size:=by simp only[Value.ownBlock];intro e;simp only[Option.some.injEq]at e;exact b8 e.symm
    have e4:=xz (xz (xz (xz e3 (a:=(G8 w.heap.size (k*4))) P (S9 p)) (a:=(G8 w.heap.size (k*4+1))) P (S9 d)) (a:=(G8 w.heap.size (k*4+2))) P s) (a:=(G8 w.heap.size (k*4+3))) P (.bool m);have hz:=f.size;have a5:=b0.o;refine⟨N.o.set hlt hx,Eb o4 (by simp only[Value.ownBlock];intro e;simp only[Option.some.injEq]at e;exact b8 e) _ _,(e4.stored k x).1,(((((RB.o.trans (f.mono RB.o.size)).setCell F7 _).setCell F7 _).setCell F7 _).setCell F7 _).setCell (by show w.heap.size<=r;omega) _,by simp[World.setCell];omega,λj V=>?_⟩
    by_cases hjk:j=k
    ·subst hjk;refine⟨s,?_,?_,?_,?_,qa (qa (qa (qa (qa (xS A (by omega)) (by omega) _ _) (by omega) _ _) (by omega) _ _) (by omega) _ _) (by omega) _ _⟩
     ·simp[List.getElem?_set,c5.o];omega
     ·simp[List.getElem?_set,c6.o];omega
     ·simp[List.getElem?_set];omega
     simp[List.getElem?_set,c7.o];omega
    have e1:=(((((((RC.o j (by omega)).below f).set (b:=w.heap.size) (by omega) (k*4) (S9 p)).set (b:=w.heap.size) (by omega) (k*4+1) (S9 d)).set (b:=w.heap.size) (by omega) (k*4+2) s).set (b:=w.heap.size) (by omega) (k*4+3) (.bool m)).set (b:=r) (by omega) k x);obtain⟨l0,h0,h1,h2,h3,h4⟩:=e1;refine⟨l0,?_,?_,?_,?_,h4⟩
    ·rw[zu,N8,zu,N8,zu,N8,zu,N8];exact h0
    ·rw[zu,N8,zu,N8,zu,N8,zu,N8];exact h1
    ·rw[zu,N8,zu,N8,zu,N8,zu,N8];exact h2
    rw[zu,N8,zu,N8,zu,N8,zu,N8];exact h3
   rcases hv with rfl|⟨T,y,rfl⟩
   ·go_wp2_with(go_at_fn g;apply L.mono;rintro e l⟨s,x,rfl,H,f,A⟩;obtain⟨⟨O,d0⟩,⟨a1,d1⟩,⟨a2,d2⟩,⟨a3,d3⟩,g0,g1,g2,g3,d4,g4⟩:=cells.o l f;have h:=G7 (fin.o l s x f H A);obtain⟨la,lc,rfl⟩:=xe A;rcases H.form with rfl|⟨T,z,rfl⟩)
    all_goals
     go_roundw
     case rel=>exact⟨k+1,_,_,by omega,by go_num,h.o.1,h.o.2.1,h.o.2.2.1,h.o.2.2.2.1,h.o.2.2.2.2.1,h.o.2.2.2.2.2⟩
     case measure=>simp[intOf];omega
   go_wp2_with(go_at_fn g;apply L.mono;rintro e l⟨s,x,rfl,H,f,A⟩;obtain⟨⟨O,d0⟩,⟨a1,d1⟩,⟨a2,d2⟩,⟨a3,d3⟩,g0,g1,g2,g3,d4,g4⟩:=cells.o l f;have h:=G7 (fin.o l s x f H A);obtain⟨la,lc,rfl⟩:=xe A;rcases H.form with rfl|⟨T,z,rfl⟩)
   all_goals
    go_roundw
    case rel=>exact⟨k+1,_,_,by omega,by go_num,h.o.1,h.o.2.1,h.o.2.2.1,h.o.2.2.2.1,h.o.2.2.2.2.1,h.o.2.2.2.2.2⟩
    case measure=>simp[intOf];omega
  have e2:k=n:=by omega
  subst e2;have hE:=N.o.done;have hl:=N.o.1;go_wp2;go_ret2;refine⟨_,_,_,_,ys,rfl,hl,?_,hE,RB.o,xs,?_,?_⟩
  ·exact .inr ⟨r,0,rfl,λj V=>by rw[qV];exact(RE.o.cellAt j (by omega)).trans (zn V)⟩
  ·rw[qf,XT];exact RO.o
  intro j V;rw[qf,XT]at V;obtain⟨l0,h0,h1,h2,h3,h4⟩:=RC.o j V;rw[VI,rC];exact⟨l0,h0,h1,h2,h3,xS h4 (by omega)⟩
def Jm:Option Z.V->List qj
 | some (.list vs)=>if 5<vs.length then [] else vs.map Zw
 | _=>[]
def UL(w:J)(x:Option Z.V)(e:Ending)(w':J):Prop:=
 ∃a u,e=.returned (.tuple #[a,u])/\FV (Z.uM x) u/\BQ w w'/\xB w' w.heap.size a (Jm x)
theorem xB.nil(w:J)(base:Nat):xB w base R4 []:=⟨[],qF _ _ _ _,λj a=>by simp at a⟩
theorem xB.below{w w':J}{base:Nat}{b:Y}{cs:List qj}(h:xB w base b cs)(a:BQ w w'):xB w' base b cs:=by
 obtain⟨f,c,d⟩:=h;exact⟨f,ownsRow_below c a,λj e=>(d j e).below a⟩
theorem xB.mono{w:J}{base a:Nat}{c:Y}{cs:List qj}(h:xB w base c cs)(b:a<=base):xB w a c cs:=by
 obtain⟨o,k,l⟩:=h;refine⟨o,xS k b,λj m=>?_⟩;obtain⟨n,d,e,f,g,i⟩:=l j m;exact⟨n,d,e,f,g,xS i b⟩
theorem xB.set{w:J}{base:Nat}{c:Y}{cs:List qj}(h:xB w base c cs){b:Nat}(e:b<base)(o:Nat)(u:Y):xB (w.setCell (G8 b o) u) base c cs:=by
 obtain⟨i,a,d⟩:=h;exact⟨i,Eb a (by intro f;have:=(a.lt b f).1;omega) o u,λj g=>(d j g).set e o u⟩
theorem xB.slice{w:J}{base:Nat}{b:Y}{cs:List qj}(h:xB w base b cs):∃a c,b=TL a cs.length c:=by
 obtain⟨e,d,_⟩:=h
 rcases d.2 with⟨h0,hl⟩|⟨g,c,cur,rfl,_⟩
 ·rw[h0,hl];exact⟨_,_,rfl⟩
 exact⟨_,_,rfl⟩
theorem OM(b:List Z.V)(a:List Y)(ao:Option Addr)(cap:Nat)(w:J)(x:yF w)(o:a.length=b.length)(A:a.length<=1000)
  (z:vV w ao a)(C:∀(j:Nat) (v:Z.V) (u:Y),b[j]?=some v->a[j]?=some u->OAt w (some v) u)(y:∀v ∈ b,Z.Good 4000 v):R8 159 #[TL ao a.length cap,.func (.func 160) #[] #[]] w λe m=>
   ∃(k g:Option Addr) (l n:Nat) (f:List Y),e=.returned (.tuple #[TL k a.length l,TL g a.length n])/\f.length=a.length/\vV m g f/\FVs (b.map Z.condC) f/\BQ w m/\xB m w.heap.size (TL k a.length l) (b.map Zw):=by
 have d:∀j,(h:j<a.length)->OAt w (some (b.getD j (.word false))) a[j]:=λj h=>by
  have c:j<b.length:=by omega
  rw[zT,zn c];exact C j _ _ (zn c) (zn h)
 refine(OL a ao cap 160 #[] (λj=>Zw (b.getD j (.word false))) (λj=>Z.condC (b.getD j (.word false))) w A (qo func160 (by kernel_rfl) rfl) z ?_ ?_).mono ?_
 ·intro u B;obtain⟨j,i,rfl⟩:=QB B;exact(d j i).form
 ·intro W j i r;have c:j<b.length:=by omega
  have:=zcF (b.getD j (.word false)) a[j] W (x.below r) ((d j i).below r) (y _ (by rw[zT,zn c];exact qm c))
  rw[show a[j]=a.getD j .nilIface by rw[zT,zn i];rfl]at this;exact this
 rintro e m⟨k,g,l,n,f,rfl,s,c,p,t,q⟩;refine⟨k,g,l,n,f,rfl,s,c,?_,t,?_⟩
 ·rw[o,Ux]at p;exact p
 rw[o,Ux]at q;rw[o];exact q
theorem zcG(x:Option Z.V)(u:Y)(w:J)(k:yF w)(i:OAt w x u)(s:∀v,x=some v->Z.Good 4000 v):R8 108 #[u] w (UL w x):=by
 cases x with
 | none=>
  have X:u=.nilIface:=i;subst X;clear k i s;go_enter func108,ntmps108;go_wp2;go_ret2;exact⟨_,_,rfl,.inl ⟨rfl,rfl⟩,zf _ _,xB.nil _ _⟩
 | some v=>
  by_cases h:∃a,v=.list a
  ·obtain⟨a,rfl⟩:=h;have C:ValAt w (λb=>b<w.heap.size) (.list a) u:=i;have g:∀v ∈ a,Z.Good 4000 v:=by have:=s _ rfl;cases this with|list _ _ h=>exact h
   have ta:=oN;have f:Z.uM (some (.list a))=if 5<a.length then 1 else Z.qZ (a.map Z.condC):=rfl
   have r:Jm (some (.list a))=if 5<a.length then [] else a.map Zw:=rfl
   unfold UL;rw[f,r];clear f r i s
   cases C with
   | list _ G L t O l z=>
    by_cases hbad:5<a.length
    ·rw[zb hbad,zb hbad];obtain⟨n,B⟩:=Nm G.length;rw[B];have S:decide ((5:Int)<(n:Int))=true:=by simp;omega
     clear l z g k;go_enter func108,ntmps108;go_wp2;go_ret2;exact⟨_,_,rfl,.inr (.inl ⟨rfl,_,rfl⟩),zf _ _,xB.nil _ _⟩
    rw[za hbad,za hbad]
    have H:=OM a G L t w k O (by omega) (by
      rcases l with l|⟨b,ha,_,f⟩
      ·exact .inl l
      exact .inr ⟨b,0,ha,λj Q=>by rw[qV];exact f j _ (zn Q)⟩) (λj y v hy C=>z j y v hy C) g
    have m:=λW (P:BQ w W)=>(k.below P).d.err;clear l z g k;obtain⟨n,B⟩:=Nm G.length;rw[B]at H |-;have R:n<=5:=by omega
    have S:decide ((5:Int)<(n:Int))=false:=by simp;omega
    go_enter func108,ntmps108
    go_wp2_with(first
     |(go_at_call 109;apply I.mono;rintro e w2⟨v,rfl,A,o⟩)
     |(go_at_call 159;apply H.mono;rintro e K⟨oa,M,oc,N,ys,rfl,F,D,E,c,q⟩;have I:=Ua _ ys M N K (m K c) (by omega) D E;rw[F]at I))
    go_ret2;exact⟨_,_,rfl,A,c.trans (o.mono c.size),q.below o⟩
  have p:∀a,some v≠some (.list a):=λa e=>h ⟨a,by simpa using e⟩;have ta:=λW=>oO i p W;obtain⟨T,y,rfl⟩:=ValAt.iface (show ValAt w (λb=>b<w.heap.size) v u from i)
  have f:Z.uM (some v)=1:=by
   cases v with
   | list a=>exact absurd ⟨a,rfl⟩ h
   | _=>rfl
  have r:Jm (some v)=[]:=by
   cases v with
   | list a=>exact absurd ⟨a,rfl⟩ h
   | _=>rfl
  unfold UL;rw[f,r];clear i p k s f r h;go_enter func108,ntmps108;go_wp2;go_ret2;exact⟨_,_,rfl,.inr (.inl ⟨rfl,_,rfl⟩),zf _ _,xB.nil _ _⟩
end Go.Proofs.YtfjpcldndaiifaaGreatDoor
