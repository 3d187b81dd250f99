/- P -/
import Derived.Test.YtagnlbgbnfnapaaGreatDoorK15
open Go.Proofs.Tryz
set_option maxRecDepth 100000
set_option maxHeartbeats 2000000
namespace Go.Proofs.YtagnlbgbnfnapaaGreatDoor
open Go.RowKit
structure yD (w:World) (ms:List (BY×Rd.V)) (us:List (BY×Value)) (ao:Option Addr) (cap:Nat):Prop where
 env:Qh w
 obj:kw w ms us ao
 good:Rd.Good 4000 (.obj ms)
theorem yD.below{w w':World}{ms:List (BY×Rd.V)}{b:List (BY×Value)}{a:Option Addr}{cap:Nat}(h:yD w ms b a cap)(hb:Below w.heap.size w w'):yD w' ms b a cap:=⟨h.env.below hb,h.obj.below hb,h.good⟩
theorem yD.len{w:World}{ms:List (BY×Rd.V)}{b:List (BY×Value)}{a:Option Addr}{cap:Nat}(h:yD w ms b a cap):ms.length<=4000:=by
 have:=h.good
 cases this with|obj _ h=>exact h
theorem yD.get{w:World}{ms:List (BY×Rd.V)}{a:List (BY×Value)}{b:Option Addr}{cap:Nat}(h:yD w ms a b cap)(nm:BY) :
  Calls prog 53 #[.slice b a.length cap,.string nm] w λe w'=>e = .returned (xh a nm)/\Below w.heap.size w w':=bL cap h.obj h.len nm
theorem yD.key{w:World}{ms:List (BY×Rd.V)}{a:List (BY×Value)}{b:Option Addr}{cap:Nat}(h:yD w ms a b cap) :
  Calls prog 97 #[xh a Ref.zD,.func (.func 51) #[] #[]] w (XU w (Rd.qV Ref.qh (Rd.zm ms Ref.zD)) (Rd.qb Ref.qh (Rd.zm ms Ref.zD))):=
 dh _ _ _ _ _ 4000 w (xg func51 (by kernel_rfl) rfl) (h.obj.get Ref.zD) (λs c=>by have:=Rd.yx h.good Ref.zD _ c;cases this with|str _ h=>exact h) (GG w)
theorem yD.no{w:World}{ms:List (BY×Rd.V)}{a:List (BY×Value)}{b:Option Addr}{cap:Nat}(h:yD w ms a b cap) :
  Calls prog 194 #[xh a Ref.bNo] w (Kr w (Rd.zm ms Ref.bNo)):=Oe _ _ w (h.obj.get Ref.bNo)
theorem yD.oper{w:World}{ms:List (BY×Rd.V)}{a:List (BY×Value)}{b:Option Addr}{cap:Nat}(h:yD w ms a b cap) :
  Calls prog 193 #[xh a Ref.bOp] w (Kt w (Rd.zm ms Ref.bOp)):=Og _ _ w h.env.ops (h.obj.get Ref.bOp)
theorem yD.look{w:World}{ms:List (BY×Rd.V)}{a:List (BY×Value)}{b:Option Addr}{cap:Nat}(h:yD w ms a b cap)(k:Nat)(c:k<5) :
  Calls prog (opL k) #[xh a Ref.zB] w (QH w (Rd.j3 (opN k) (Rd.zm ms Ref.zB)) (Rd.yo (opN k) (Rd.zm ms Ref.zB))):=
 MN h.env.d k c w _ _ (λv e=>Rd.yx h.good Ref.zB v e) (h.obj.get Ref.zB) (zf _ _)
theorem ML(k:Nat)(a:k<5):∀args w,(callFunc (opL k) args).run prog w = .ok (.enter (opL k) args) w:=by
 rcases lt5 a with rfl|rfl|rfl|rfl|rfl
 ·exact xg func313 (by kernel_rfl) rfl
 ·exact xg func315 (by kernel_rfl) rfl
 ·exact xg func317 (by kernel_rfl) rfl
 ·exact xg func319 (by kernel_rfl) rfl
 ·exact xg func321 (by kernel_rfl) rfl
theorem FV.cells{c:Nat}{u:Value}(h:FV c u):Value.cells.match_1 (λ_=>Array Value) u (λcs=>cs) (λv=>#[v])=#[u]:=by
 rcases h.form with rfl|⟨T,x,rfl⟩
 ·rfl
 ·rfl
theorem Fq{a b c:Nat}{u v x:Value}(g:FV a u)(h:FV b v)(i:FV c x):FVs [a,b,c] [u,v,x]:=by
 refine⟨rfl,λj d y e f=>?_⟩
 match j with
 | 0=>simp at e f;subst e;subst f;exact g
 | 1=>simp at e f;subst e;subst f;exact h
 | 2=>simp at e f;subst e;subst f;exact i
 | j+3=>simp at e
theorem Eu{W:World}{b:Nat}{u v x:Value}{t:TypeId}(h:W.heap[b]?=some (.cells #[u,v,x] t (0,0))):jA W (some ⟨b,0,none⟩) [u,v,x]:=by
 refine .inr ⟨b,0,rfl,λj a=>?_⟩;simp only[ZB,YC] at a;rw[yO,(zg h j).1]
 have:j=0\/j=1\/j=2:=by omega
 rcases this with rfl|rfl|rfl<;>rfl
theorem Oa(ms:List (BY×Rd.V))(us:List (BY×Value))(ao:Option Addr)(cap:Nat)(w:World)(hI:yD w ms us ao cap)(ho:Rd.qf ms [Ref.bOp,Ref.zD,Ref.zB,Ref.bNo]=true) :
  Calls prog 151 #[.iface 122 (.slice ao us.length cap)] w (Jk w (.obj ms)):=by
 have hC:=aa ms;rw[ho] at hC;simp only[xy] at hC
 have hS:um (.obj ms)=match Qt (Rd.zm ms Ref.bOp) with
  | some k=>⟨opN k,Rd.qV Ref.qh (Rd.zm ms Ref.zD),Rd.j3 (opN k) (Rd.zm ms Ref.zB),Rd.Zr (Rd.zm ms Ref.bNo)⟩
  | none=>J6:=by simp only[um];rw[ho];rfl
 have d9:=nbl w uW;have P:=d9.alloc (by simp) Qk;have hr:=nV (w.alloc uW) Ref.bOp Ref.zD Ref.zB Ref.bNo 9;rw[jT] at hr;have cR:=Ve ms us ao cap [Ref.bOp,Ref.zD,Ref.zB,Ref.bNo] (some ⟨w.heap.size+1,0,none⟩) 4 ((w.alloc uW).alloc Qk) (by simp) hI.len hr (hI.obj.below P) true ho;simp only[xy,ZB,YC] at cR;have cG:=λW nm (h:Below w.heap.size w W)=>(hI.below h).get nm;have c:=λW (h:Below w.heap.size w W)=>(hI.below h).oper;have j:=λW (h:Below w.heap.size w W)=>(hI.below h).key;have C:=λW (h:Below w.heap.size w W)=>(hI.below h).no;have n:=λk hk W (h:Below w.heap.size w W)=>(hI.below h).look k hk;have M:=λW (h:Below w.heap.size w W)=>(hI.below h).env.d.err;unfold Jk;rw[hC,hS];obtain⟨F,hF⟩:=Nm (Qt (Rd.zm ms Ref.bOp));rw[hF];unfold Kt at c;simp only[hF] at c
 have b7:∀k,F=some k->k<5:=by
  intro k hk;rw[hk] at hF;unfold Qt at hF
  split at hF
  ·exact (bM hF).1
  ·cases hF
 obtain⟨k6,a8⟩:∃x,xh us Ref.bOp=x:=⟨_,rfl⟩;obtain⟨h8,T⟩:∃x,xh us Ref.zD=x:=⟨_,rfl⟩;obtain⟨k5,a7⟩:∃x,xh us Ref.bNo=x:=⟨_,rfl⟩;obtain⟨h9,U⟩:∃x,xh us Ref.zB=x:=⟨_,rfl⟩;have I:=λW h=>cG W Ref.bOp h;have J:=λW h=>cG W Ref.zD h;have K:=λW h=>cG W Ref.zB h;have L:=λW h=>cG W Ref.bNo h;simp only[a8] at I c;simp only[T] at J j;simp only[U] at K n;simp only[a7] at L C;generalize Rd.qV Ref.qh (Rd.zm ms Ref.zD)=KS at j |-;generalize Rd.qb Ref.qh (Rd.zm ms Ref.zD)=KC at j |-;clear hI ho hS hC hF a8 T a7 U cG hr;unfold Qk uW at cR;unfold uW at d9;unfold Qk uW at P;unfold Ref.bOp Ref.zD Ref.zB Ref.bNo at cR P;unfold Ref.bOp at I;unfold Ref.zD at J;unfold Ref.zB at K;unfold Ref.bNo at L
 cases F with
 | none=>
  clear J K L j C n b7 M;unfold opV at c;simp only at c;go_enter func151,ntmps151
  go_wp2_with (first
   | (go_at_call 193;refine (c w2 l).mono ?_;rintro e w3 ⟨u,rfl,c6,s⟩;rcases c6 with ⟨h,_⟩|⟨_,p,rfl⟩|⟨h,_⟩;(exfalso;simp at h);rotate_left;(exfalso;simp at h);have g2:Below w.heap.size w w3:=l.trans (s.mono l.size);have o:=yT (q.trans (s.mono q.size));have r0:=(zg o 0).1;have r1:=(zg o 1).1;have r2:=(zg o 2).1;have r3:=(zg o 3).1;have f0:=(zg o 0).2;have f1:=(zg o 1).2;have f2:=(zg o 2).2;have f3:=(zg o 3).2;simp at r0 r1 r2 r3;have sn:=(λW a m=>Zv prog W a .nilFunc m rfl);have hz:w.heap.size<w3.heap.size:=(by have h1:=q.size;have h2:=s.size;simp at h1;omega);have j0:w.heap.size≠w3.heap.size:=(by omega);obtain⟨s0,s1,s2,s3⟩:=dC (.string ⟨#[]⟩) (.string ⟨#[]⟩) (.slice none 0 0) (.bool false) r0 r1 r2 r3;have q0:=λO=>zF s0 O;have q1:=λO=>zF s1 O;have q2:=λO=>zF s2 O;have q3:=λO=>zF s3 O)
   | (go_at_call 53;refine (I w1 A).mono ?_;rintro e w2 ⟨rfl,i⟩;have l:Below w.heap.size w w2:=A.trans (i.mono A.size);have q:=G.trans (i.mono G.size))
   | (go_at_call 96;refine cR.mono ?_;rintro e w1 ⟨rfl,i⟩;have A:Below w.heap.size w w1:=P.trans (i.mono (by simp;omega));have G:=((zf _ (w.alloc (.cells #[.string ⟨#[]⟩,.string ⟨#[]⟩,.slice none 0 0,.bool false] 286))).alloc (ze _) (.cells #[.string ⟨#[111,112]⟩,.string ⟨#[107,101,121]⟩,.string ⟨#[118,97,108,117,101]⟩,.string ⟨#[110,111]⟩] 9)).trans (i.mono (by simp))))
  exact zN (v := .tuple #[.agg #[.string ⟨#[]⟩,.string ⟨#[]⟩,.slice none 0 0,.bool false],.iface 129 (.agg #[.string p])]) (by simp[results,results151,go_sem,q0,q1,q2,q3]) rfl
   ⟨_,_,rfl,.inr (.inl ⟨rfl,_,rfl⟩),((((g2.setCell (ze _) _).setCell (ze _) _).setCell (ze _) _).setCell (ze _) _).alloc (by simp[World.setCell];omega) _,qD _ _ _ _⟩
 | some k=>
  have hk:=b7 k rfl;have cL:=n k hk;have eL:=ML k hk;unfold opV at c;simp only at c;dsimp only;generalize Rd.j3 (opN k) (Rd.zm ms Ref.zB)=LS at cL |-;generalize Rd.yo (opN k) (Rd.zm ms Ref.zB)=LC at cL |-;generalize opN k=N at c |-;generalize opT k=ft at c;generalize opL k=fl at c cL eL;obtain⟨X,c8⟩:∃x,Rd.Zr (Rd.zm ms Ref.bNo)=x:=⟨_,rfl⟩;obtain⟨NC,b8⟩:∃x,Rd.cls (Rd.vJ (Rd.zm ms Ref.bNo)) false=x:=⟨_,rfl⟩;unfold Kr at C;simp only[c8,b8] at C;simp only[c8,b8];clear n b7 hk c8 b8;have sf:=λW a g m=>Zv prog W a (.func (.func g) #[] #[]) m rfl;go_enter func151,ntmps151
  go_upto_region 8 with (first
   | (go_at_call 97;refine (j w4 b3).mono ?_;rintro e w5 ⟨Y,rfl,e3,c4⟩;have r:Below w.heap.size w w5:=b3.trans (c4.mono b3.size);have b1:=d3.trans (c4.mono d3.size);have g4:=d8.trans (c4.mono d8.size))
   | (go_at_call 53;refine (J _ H).mono ?_;rintro e w4 ⟨rfl,b9⟩;have b3:Below w.heap.size w w4:=H.trans (b9.mono H.size);have d3:=a6.trans (b9.mono a6.size);have d8:=b9)
   | (go_at_call 193;refine (c w2 l).mono ?_;rintro e w3 ⟨u,rfl,c6,s⟩;rcases c6 with ⟨_,rfl⟩|⟨h,_⟩|⟨h,_⟩;rotate_left;(exfalso;simp at h);(exfalso;simp at h);have H:=(l.trans (s.mono l.size)).alloc (l.trans (s.mono l.size)).size (.cells #[.string N,.func (.func fl) #[] #[],.func (.func ft) #[] #[]] 350);have a6:=(q.trans (s.mono q.size)).alloc (q.trans (s.mono q.size)).size (.cells #[.string N,.func (.func fl) #[] #[],.func (.func ft) #[] #[]] 350))
   | (go_at_call 53;refine (I w1 A).mono ?_;rintro e w2 ⟨rfl,i⟩;have l:Below w.heap.size w w2:=A.trans (i.mono A.size);have q:=G.trans (i.mono G.size))
   | (go_at_call 96;refine cR.mono ?_;rintro e w1 ⟨rfl,i⟩;have A:Below w.heap.size w w1:=P.trans (i.mono (by simp;omega));have G:=((zf _ (w.alloc (.cells #[.string ⟨#[]⟩,.string ⟨#[]⟩,.slice none 0 0,.bool false] 286))).alloc (ze _) (.cells #[.string ⟨#[111,112]⟩,.string ⟨#[107,101,121]⟩,.string ⟨#[118,97,108,117,101]⟩,.string ⟨#[110,111]⟩] 9)).trans (i.mono (by simp))))
  have d0:=yT g4;have o0:=(zg d0 0).1;have o1:=(zg d0 1).1;simp at o0 o1;clear cR I c J j
  go_cut [9,10] (λa b wx=>∃y z,a = .slice y LS.length z/\FV LC b/\Below w5.heap.size w5 wx/\wx.ownsRow w5.heap.size 9 1 (.slice y LS.length z) LS.length (LS.map Value.string))
  case first=>
   go_region_with (first
    | (go_at_call 53;refine (K _ (by first|exact r|exact r.drew|exact r.drew.drew|exact r.drew.drew.drew)).mono ?_;rintro e w6 ⟨rfl,e0⟩;have t:Below w5.heap.size w5 w6:=(by first|exact e0|exact QL e0);have o6:=zi t o1;have a1:Below w.heap.size w w6:=r.trans (t.mono r.size))
    | (go_at_fn fl;refine (cL _ (by first|exact a1|exact a1.drew|exact a1.drew.drew|exact a1.drew.drew.drew)).mono ?_;rintro e w7 ⟨lv,E,rfl,a4,e1,R⟩;obtain⟨y,z,rfl⟩:=qG R))
   all_goals
    have e2:Below w6.heap.size w6 w7:=(by first|exact e1|exact QL e1)
    have b0:=hid (uA a4 (uA (t.trans (e2.mono t.size)) (xA R (show w5.heap.size<=_ from t.size))))
    go_wp2_with fail
    go_meet
    exact⟨y,z,rfl,b0.out.1,b0.out.2.1,b0.out.2.2⟩
  case rest=>
   obtain⟨y,z,rfl,a4,c5,c9⟩:=hcut;have b6:Below w.heap.size w wc:=r.trans (c5.mono r.size);have a0:=b1.trans (c5.mono b1.size);have e6:=zi c5 o0;clear K cL eL o1 d0
   go_upto_region 11 with (first
    | (go_at_call 194;refine (C w8 b4).mono ?_;rintro e D ⟨Z,rfl,e4,a3⟩;have o9:=zi a3 o8)
    | (go_at_call 53;refine (L wc b6).mono ?_;rintro e w8 ⟨rfl,Q⟩;have b4:Below w.heap.size w w8:=b6.trans (Q.mono b6.size);have o8:=zi Q e6))
   obtain⟨E,rfl⟩:∃x,x=u10:=⟨_,rfl⟩;have b5:Below w.heap.size w D:=b4.trans (a3.mono b4.size);have b2:=(a0.trans (Q.mono a0.size)).trans (a3.mono (a0.trans (Q.mono a0.size)).size);have S:=ownsRow_below (ownsRow_below c9 Q) a3;have bA:Below w.heap.size w ((D.alloc (.cells #[.string N,.string KS,.slice y LS.length z,.bool X] 286)).alloc (.cells #[Y,E,Z] 86)):=(b5.alloc b5.size _).alloc (by have:=b5.size;simp;omega) _;have aA:=(b2.alloc b2.size (.cells #[.string N,.string KS,.slice y LS.length z,.bool X] 286)).alloc (by have:=b2.size;simp at this |-;omega) (.cells #[Y,E,Z] 86);have g5:((D.alloc (.cells #[.string N,.string KS,.slice y LS.length z,.bool X] 286)).alloc (.cells #[Y,E,Z] 86)).heap[D.heap.size]?=some (.cells #[.string N,.string KS,.slice y LS.length z,.bool X] 286):=(uy D (.cells #[.string N,.string KS,.slice y LS.length z,.bool X] 286) (.cells #[Y,E,Z] 86)).1;have g6:((D.alloc (.cells #[.string N,.string KS,.slice y LS.length z,.bool X] 286)).alloc (.cells #[Y,E,Z] 86)).heap[D.heap.size+1]?=some (.cells #[Y,E,Z] 86):=(uy D (.cells #[.string N,.string KS,.slice y LS.length z,.bool X] 286) (.cells #[Y,E,Z] 86)).2
   have g3:∀W:World,Below w.heap.size w W->W.heap[D.heap.size+1]?=some (.cells #[Y,E,Z] 86)->Calls prog 101 #[.slice (some ⟨D.heap.size+1,0,none⟩) 3 3] W λe w'=>∃u,e = .returned u/\FV (Rd.qE [KC,LC,NC]) u/\Below W.heap.size W w':=λW hW hg=>
    YT [KC,LC,NC] [Y,E,Z] _ 3 W (M W hW) (by simp) (Eu hg) (Fq e3 a4 e4)
   clear M L C o0 e6 o8 o9;have kK:=e3.cells;have kV:=a4.cells;have kN:=e4.cells
   go_region_with (go_at_call 101;refine (g3 _ (by first|exact bA|exact bA.drew|exact bA.drew.drew) (by first|exact g6)).mono ?_;rintro e h0 ⟨uR,rfl,e5,B⟩;have f:Below ((D.alloc (.cells #[.string N,.string KS,.slice y LS.length z,.bool X] 286)).alloc (.cells #[Y,E,Z] 86)).heap.size ((D.alloc (.cells #[.string N,.string KS,.slice y LS.length z,.bool X] 286)).alloc (.cells #[Y,E,Z] 86)) h0:=(by first|exact B|exact QL B|exact QL (QL B));have o:=yT (aA.trans (f.mono aA.size));have r0:=(zg o 0).1;have r1:=(zg o 1).1;have r2:=(zg o 2).1;have r3:=(zg o 3).1;have f0:=(zg o 0).2;have f1:=(zg o 1).2;have f2:=(zg o 2).2;have f3:=(zg o 3).2;simp at r0 r1 r2 r3;have bC:=(f.block D.heap.size (by simp;omega)).trans g5;have c0:=(zg bC 0).1;have c1:=(zg bC 1).1;have c2:=(zg bC 2).1;have c3:=(zg bC 3).1;simp at c0 c1 c2 c3)
   all_goals
    have s4:=dC (.string N) (.string KS) (.slice y LS.length z) (.bool X) r0 r1 r2 r3;have BW:=hid (bA.trans (f.mono bA.size));have OW:=hid (ownsRow_below ((S.alloc _).alloc _) f);have a5:w.heap.size<w5.heap.size:=by have h1:=b1.size;simp at h1;omega
    have g0:=hid e5;clear e5 B f o bC S;go_wp2_with fail
    exact zN (v := .tuple #[.agg #[.string N,.string KS,.slice y LS.length z,.bool X],uR]) (by simp[results,results151,go_sem,s4]) rfl
     ⟨_,_,rfl,g0.out,(((BW.out.setCell (ze _) _).setCell (ze _) _).setCell (ze _) _).setCell (ze _) _,xA (zU (zU (zU (zU OW.out a5 _ _) a5 _ _) a5 _ _) a5 _ _) (by omega)⟩
theorem Ob(x:Rd.V)(u:Value)(w:World)(d:Qh w)(b:OAt w (some x) u)(a:Rd.Good 4000 x):Calls prog 151 #[u] w (Jk w x):=by
 by_cases h:∃ms,x = .obj ms/\Rd.qf ms [Ref.bOp,Ref.zD,Ref.zB,Ref.bNo]=true
 ·obtain⟨ms,rfl,g⟩:=h;obtain⟨i,c,cap,rfl,f⟩:=Y0 b;exact Oa ms i c cap w ⟨d,f,a⟩ g
 ·refine NZ x u w b a (λms e=>?_)
  cases hc:Rd.qf ms [Ref.bOp,Ref.zD,Ref.zB,Ref.bNo] with
  | false=>rfl
  | true=>exact absurd ⟨ms,e,hc⟩ h
def zz(w:World)(base:Nat)(lv:Value)(a:List BY):Prop:=w.ownsRow base 9 1 lv a.length (a.map Value.string)
def Qy(w:World)(base:Nat)(xs:List Value)(j:Nat)(c:xG):Prop:=
 ∃lv,xs[j*4]?=some (.string c.op)/\xs[j*4+1]?=some (.string c.key)/\xs[j*4+2]?=some lv/\xs[j*4+3]?=some (.bool c.no)/\zz w base lv c.vals
theorem Qy.below{w w':World}{base:Nat}{xs:List Value}{j:Nat}{c:xG}(h:Qy w base xs j c)(hb:Below w.heap.size w w'):Qy w' base xs j c:=by
 obtain⟨lv,a,b,d,e,f⟩:=h;exact⟨lv,a,b,d,e,ownsRow_below f hb⟩
theorem Qy.set{w:World}{base:Nat}{xs:List Value}{j:Nat}{c:xG}(h:Qy w base xs j c){b:Nat}(hb:b<base)(o:Nat)(u:Value):Qy (w.setCell ⟨b,o,none⟩ u) base xs j c:=by
 obtain⟨lv,a,d,e,f,g⟩:=h;exact⟨lv,a,d,e,f,zU g hb o u⟩
def qR(w:World)(base:Nat)(lv:Value)(cs:List xG):Prop:=
 ∃xs,w.ownsRow base 286 4 lv cs.length xs/\∀j,(h:j<cs.length)->Qy w base xs j cs[j]
def ww(g:Nat)(b:Array Value)(a:Nat->Value)(n:Nat)(cs:Nat->xG)(c:Nat->Nat)(w:World):Prop:=
 ∀W j,j<n->Below w.heap.size w W->Calls prog g (#[a j]++b) W λe w'=>
  ∃lv u,e = .returned (.tuple #[.agg #[.string (cs j).op,.string (cs j).key,lv,.bool (cs j).no],u])/\FV (c j) u/\Below W.heap.size W w'/\zz w' W.heap.size lv (cs j).vals
def tY(w:World)(n:Nat)(cs:Nat->xG)(c:Nat->Nat)(e:Ending)(w':World):Prop:=
 ∃(d b:Option Addr) (f g:Nat) (a:List Value),e = .returned (.tuple #[.slice d n f,.slice b n g])/\a.length=n/\jA w' b a/\FVs ((List.range n).map c) a/\Below w.heap.size w w' /\
  qR w' w.heap.size (.slice d n f) ((List.range n).map cs)
theorem Gn:(prog.info? 286).map (λi=>(i.zero,i.size,i.bytes))=some (some (.agg #[.string ⟨#[]⟩,.string ⟨#[]⟩,.slice none 0 0,.bool false]),4,64):=by kernel_rfl
theorem oO{w:World}{base:Nat}{e:TypeId}{v:Value}{n:Nat}{xs:List Value}(h:w.ownsRow base e 4 v n xs){b:Nat}(hb:v.ownBlock≠some b)(o:Nat)(u:Value):(w.setCell ⟨b,o,none⟩ u).ownsRow base e 4 v n xs:=
 xE h (a:=⟨b,o,none⟩) hb u
theorem DN(C:List Value)(ao:Option Addr)(cap g:Nat)(lb:Array Value)(cs:Nat->xG)(c:Nat->Nat)(w:World)(hn:C.length<=1000)(eg:∀args w,(callFunc g args).run prog w = .ok (.enter g args) w)
  (hm:jA w ao C)(a9:∀u ∈ C,u = .nilIface\/∃T x,u = .iface T x)(hp:ww g lb (λj=>C.getD j .nilIface) C.length cs c w) :
  Calls prog 150 #[.slice ao C.length cap,.func (.func g) #[] lb] w (tY w C.length cs c):=by
 obtain⟨i0,hi,d9,e0,e1⟩:=qP Gn;obtain⟨i1,Q,d6,d7,d8⟩:=qP (show (prog.info? 86).map (λi=>(i.zero,i.size,i.bytes))=some (some .nilIface,1,16) by kernel_rfl);obtain⟨n,U⟩:=Nm C.length;rw[U] at hn hp |-;have HM:=hid hm;have c0:=hid a9;have HP:=hid hp;have c1:=hid U;clear hm a9 hp U;go_enter func150,ntmps150
 go_wp2_with (at_make;refine Jf _ rfl _ _ 135 rfl w.heap.size 286 i0 (.agg #[.string ⟨#[]⟩,.string ⟨#[]⟩,.slice none 0 0,.bool false]) 4 underlying135 hi d9 e0 _ _ _ _ n rfl rfl ?_ ?_ ?_ ?_ ?_ ?_)
 ·omega
 ·omega
 ·rw[e1];omega
 ·unfold maxLen;omega
 ·omega
 intro w1 B D;obtain⟨zs,b3⟩:=Nm ((madeCells #[.string ⟨#[]⟩,.string ⟨#[]⟩,.slice none 0 0,.bool false] (n*4)).toList);rw[b3] at B;have A:Below w.heap.size w w1:=(zf _ w).grown D (ze _) (λk hk=>by cases hk);clear b3
 go_wp2_with (at_make;refine Jf _ rfl _ _ 130 rfl w.heap.size 86 i1 .nilIface 1 underlying130 Q d6 d7 _ _ _ _ n rfl rfl ?_ ?_ ?_ ?_ ?_ ?_)
 ·omega
 ·omega
 ·rw[d8];omega
 ·unfold maxLen;omega
 ·have:=A.size;omega
 intro w2 S s
 have O:w2.ownsRow w.heap.size 86 1 (.slice (some ⟨w1.heap.size,0,none⟩) n n) n (List.replicate n .nilIface):=by
  rw[<- UY];exact S
 have R:=B.kept s (.inr (by simp[Value.ownBlock]));have b0:w.heap.size<w1.heap.size:=(B.lt _ rfl).2;have P:Below w.heap.size w w2:=A.grown s A.size (λk hk=>by cases hk);have I:w1.heap.size<w2.heap.size:=(O.lt _ rfl).2;obtain⟨r,a7⟩:=Nm w1.heap.size;rw[a7] at O b0 I |-;have b1:w.heap.size≠r:=by omega
 have a4:=hid R;have a5:=hid O;have X:=hid P;have Y:=hid I;clear S s D B A R O P a7 I;go_wp2_with fail
 go_loopw [18] (λiv wr=>∃(k:Nat) (xs W:List Value),k<=n/\iv = .int .i64 k/\vP c n k W/\wr.ownsRow w.heap.size 286 4 (.slice (some ⟨w.heap.size,0,none⟩) n n) n xs/\wr.ownsRow w.heap.size 86 1 (.slice (some ⟨r,0,none⟩) n n) n W/\Below w.heap.size w wr/\r<wr.heap.size/\(∀j,j<k->Qy wr (r+1) xs j (cs j))) (λiv _=>n-(intOf iv).toNat)
 case atStart=>exact⟨0,_,_,zG _,rfl,vP.start c n,a4.out,a5.out,X.out,Y.out,λj Q=>by omega⟩
 case round=>
  obtain⟨k,xs,W,hk,rfl,b2,ro,re,rb,j9,rc⟩:=hrel;clear a4 a5 X Y;have RO:=hid ro;have RE:=hid re;have RB:=hid rb;have L:=hid b2;have RC:=hid rc;clear ro re rb b2 rc
  by_cases hlt:k<n
  ·have H:k<C.length:=by rw[c1.out];exact hlt
   have a8:C.getD k .nilIface=C[k]:=by rw[zY,zn H];rfl
   have J:=HP.out wr k hlt RB.out;have hv:=c0.out C[k] (xB H)
   rcases HM.out with hnil|⟨b,o,hao,hc⟩
   ·rw[hnil] at H;simp at H
   subst hao;have q:=zi RB.out (hc k H);simp only[a8] at J;obtain⟨u,hu⟩:=Nm (C[k]);rw[hu] at q J hv;obtain⟨p,F⟩:∃x,(cs k).op=x:=⟨_,rfl⟩;obtain⟨d,t⟩:∃x,(cs k).key=x:=⟨_,rfl⟩;obtain⟨m,E⟩:∃x,(cs k).no=x:=⟨_,rfl⟩;rw[F,t,E] at J;have b7:=hid F;have b8:=hid t;have b9:=hid E;clear hu hc a8 F t E;have V:xs.length=n*4:=RO.out.1;have Z:=hid V;clear V
   have cells:Hid (∀l,Below wr.heap.size wr l->(∃M,l.cell? ⟨w.heap.size,k*4,none⟩=some M)/\(∃M,l.cell? ⟨w.heap.size,k*4+1,none⟩=some M)/\(∃M,l.cell? ⟨w.heap.size,k*4+2,none⟩=some M)/\(∃M,l.cell? ⟨w.heap.size,k*4+3,none⟩=some M) /\
     l.frozen? ⟨w.heap.size,k*4,none⟩=false/\l.frozen? ⟨w.heap.size,k*4+1,none⟩=false/\l.frozen? ⟨w.heap.size,k*4+2,none⟩=false/\l.frozen? ⟨w.heap.size,k*4+3,none⟩=false/\l.cell? ⟨r,k,none⟩=some .nilIface/\l.frozen? ⟨r,k,none⟩=false):=by
    intro l f;have K:=ownsRow_below RO.out f;have e3:=ownsRow_below RE.out f;have hx:=Z.out
    exact⟨⟨_,(K.cellAt _ (by omega)).trans (zn (by omega))⟩,⟨_,(K.cellAt _ (by omega)).trans (zn (by omega))⟩,⟨_,(K.cellAt _ (by omega)).trans (zn (by omega))⟩,⟨_,(K.cellAt _ (by omega)).trans (zn (by omega))⟩,
     K.frozenAt _,K.frozenAt _,K.frozenAt _,K.frozenAt _,(e3.cellAt k (by omega)).trans (L.out.2.2 k (ze _) hlt),e3.frozenAt k⟩
   have fin:Hid (∀l lv x,Below wr.heap.size wr l->FV (c k) x->zz l wr.heap.size lv (cs k).vals ->
     vP c n (k+1) (W.set k x) /\
     (((((l.setCell ⟨w.heap.size,k*4,none⟩ (.string p)).setCell ⟨w.heap.size,k*4+1,none⟩ (.string d)).setCell ⟨w.heap.size,k*4+2,none⟩ lv).setCell ⟨w.heap.size,k*4+3,none⟩ (.bool m)).setCell ⟨r,k,none⟩ x).ownsRow w.heap.size 286 4 (.slice (some ⟨w.heap.size,0,none⟩) n n) n ((((xs.set (k*4) (.string p)).set (k*4+1) (.string d)).set (k*4+2) lv).set (k*4+3) (.bool m)) /\
     (((((l.setCell ⟨w.heap.size,k*4,none⟩ (.string p)).setCell ⟨w.heap.size,k*4+1,none⟩ (.string d)).setCell ⟨w.heap.size,k*4+2,none⟩ lv).setCell ⟨w.heap.size,k*4+3,none⟩ (.bool m)).setCell ⟨r,k,none⟩ x).ownsRow w.heap.size 86 1 (.slice (some ⟨r,0,none⟩) n n) n (W.set k x) /\
     Below w.heap.size w (((((l.setCell ⟨w.heap.size,k*4,none⟩ (.string p)).setCell ⟨w.heap.size,k*4+1,none⟩ (.string d)).setCell ⟨w.heap.size,k*4+2,none⟩ lv).setCell ⟨w.heap.size,k*4+3,none⟩ (.bool m)).setCell ⟨r,k,none⟩ x) /\
     r<(((((l.setCell ⟨w.heap.size,k*4,none⟩ (.string p)).setCell ⟨w.heap.size,k*4+1,none⟩ (.string d)).setCell ⟨w.heap.size,k*4+2,none⟩ lv).setCell ⟨w.heap.size,k*4+3,none⟩ (.bool m)).setCell ⟨r,k,none⟩ x).heap.size /\
     (∀j,j<k+1->Qy (((((l.setCell ⟨w.heap.size,k*4,none⟩ (.string p)).setCell ⟨w.heap.size,k*4+1,none⟩ (.string d)).setCell ⟨w.heap.size,k*4+2,none⟩ lv).setCell ⟨w.heap.size,k*4+3,none⟩ (.bool m)).setCell ⟨r,k,none⟩ x) (r+1) ((((xs.set (k*4) (.string p)).set (k*4+1) (.string d)).set (k*4+2) lv).set (k*4+3) (.bool m)) j (cs j))):=by
    intro l lv x f hx v;have K:=ownsRow_below RO.out f;have e3:=ownsRow_below RE.out f;have o4:=((((K.stored (k*4) (.string p)).1.stored (k*4+1) (.string d)).1.stored (k*4+2) lv).1.stored (k*4+3) (.bool m)).1;have N:(Value.slice (some ⟨r,0,none⟩) n n).ownBlock≠some w.heap.size:=by simp only[Value.ownBlock];intro e;simp only[Option.some.injEq] at e;exact b1 e.symm
    have e4:=xE (xE (xE (xE e3 (a:=⟨w.heap.size,k*4,none⟩) N (.string p)) (a:=⟨w.heap.size,k*4+1,none⟩) N (.string d)) (a:=⟨w.heap.size,k*4+2,none⟩) N lv) (a:=⟨w.heap.size,k*4+3,none⟩) N (.bool m);have hz:=f.size;have V:=Z.out;refine⟨L.out.set hlt hx,oO o4 (by simp only[Value.ownBlock];intro e;simp only[Option.some.injEq] at e;exact b1 e) _ _,(e4.stored k x).1,(((((RB.out.trans (f.mono RB.out.size)).setCell (ze _) _).setCell (ze _) _).setCell (ze _) _).setCell (ze _) _).setCell (by show w.heap.size<=r;omega) _,by simp[World.setCell];omega,λj Q=>?_⟩
    by_cases hjk:j=k
    ·subst hjk;refine⟨lv,?_,?_,?_,?_,zU (zU (zU (zU (zU (xA v (by omega)) (by omega) _ _) (by omega) _ _) (by omega) _ _) (by omega) _ _) (by omega) _ _⟩
     ·simp[List.getElem?_set,b7.out];omega
     ·simp[List.getElem?_set,b8.out];omega
     ·simp[List.getElem?_set];omega
     ·simp[List.getElem?_set,b9.out];omega
    ·have c8:=(((((((RC.out j (by omega)).below f).set (b:=w.heap.size) (by omega) (k*4) (.string p)).set (b:=w.heap.size) (by omega) (k*4+1) (.string d)).set (b:=w.heap.size) (by omega) (k*4+2) lv).set (b:=w.heap.size) (by omega) (k*4+3) (.bool m)).set (b:=r) (by omega) k x);obtain⟨l0,h0,h1,h2,h3,h4⟩:=c8;refine⟨l0,?_,?_,?_,?_,h4⟩
     ·rw[zt,za (by omega),zt,za (by omega),zt,za (by omega),zt,za (by omega)];exact h0
     ·rw[zt,za (by omega),zt,za (by omega),zt,za (by omega),zt,za (by omega)];exact h1
     ·rw[zt,za (by omega),zt,za (by omega),zt,za (by omega),zt,za (by omega)];exact h2
     ·rw[zt,za (by omega),zt,za (by omega),zt,za (by omega),zt,za (by omega)];exact h3
   rcases hv with rfl|⟨T,y,rfl⟩
   ·go_wp2_with (go_at_fn g;refine J.mono ?_;rintro e l ⟨lv,x,rfl,G,f,v⟩;obtain⟨⟨M,d0⟩,⟨a1,d1⟩,⟨a2,d2⟩,⟨a3,d3⟩,g0,g1,g2,g3,d4,g4⟩:=cells.out l f;have h:=hid (fin.out l lv x f G v);obtain⟨la,lc,rfl⟩:=qG v;rcases G.form with rfl|⟨T,z,rfl⟩)
    all_goals
     go_roundw
     case rel=>exact⟨k+1,_,_,by omega,by go_num,h.out.1,h.out.2.1,h.out.2.2.1,h.out.2.2.2.1,h.out.2.2.2.2.1,h.out.2.2.2.2.2⟩
     case measure=>simp[intOf];omega
   ·go_wp2_with (go_at_fn g;refine J.mono ?_;rintro e l ⟨lv,x,rfl,G,f,v⟩;obtain⟨⟨M,d0⟩,⟨a1,d1⟩,⟨a2,d2⟩,⟨a3,d3⟩,g0,g1,g2,g3,d4,g4⟩:=cells.out l f;have h:=hid (fin.out l lv x f G v);obtain⟨la,lc,rfl⟩:=qG v;rcases G.form with rfl|⟨T,z,rfl⟩)
    all_goals
     go_roundw
     case rel=>exact⟨k+1,_,_,by omega,by go_num,h.out.1,h.out.2.1,h.out.2.2.1,h.out.2.2.2.1,h.out.2.2.2.2.1,h.out.2.2.2.2.2⟩
     case measure=>simp[intOf];omega
  ·have c9:k=n:=by omega
   subst c9;have hE:=L.out.done;have hl:=L.out.1
   go_wp2
   go_ret2;refine⟨_,_,_,_,W,rfl,hl,?_,hE,RB.out,xs,?_,?_⟩
   ·exact .inr ⟨r,0,rfl,λj Q=>by rw[yO];exact (RE.out.cellAt j (by omega)).trans (zn Q)⟩
   ·rw[qB,Qb];exact RO.out
   ·intro j Q;rw[qB,Qb] at Q;obtain⟨l0,h0,h1,h2,h3,h4⟩:=RC.out j Q;rw[Kl,fE];exact⟨l0,h0,h1,h2,h3,xA h4 (by omega)⟩
def Xp:Option Rd.V->List xG
 | some (.list vs)=>if 5<vs.length then [] else vs.map um
 | _=>[]
def Jm(w:World)(x:Option Rd.V)(e:Ending)(w':World):Prop:=
 ∃lv u,e = .returned (.tuple #[lv,u])/\FV (Rd.jW x) u/\Below w.heap.size w w'/\qR w' w.heap.size lv (Xp x)
theorem qR.nil(w:World)(base:Nat):qR w base (.slice none 0 0) []:=⟨[],qD _ _ _ _,λj a=>by simp at a⟩
theorem qR.below{w w':World}{base:Nat}{lv:Value}{cs:List xG}(h:qR w base lv cs)(hb:Below w.heap.size w w'):qR w' base lv cs:=by
 obtain⟨xs,a,b⟩:=h;exact⟨xs,ownsRow_below a hb,λj c=>(b j c).below hb⟩
theorem qR.mono{w:World}{base a:Nat}{lv:Value}{cs:List xG}(h:qR w base lv cs)(hb:a<=base):qR w a lv cs:=by
 obtain⟨xs,g,i⟩:=h;refine⟨xs,xA g hb,λj k=>?_⟩;obtain⟨l,b,c,d,e,f⟩:=i j k;exact⟨l,b,c,d,e,xA f hb⟩
theorem qR.set{w:World}{base:Nat}{lv:Value}{cs:List xG}(h:qR w base lv cs){b:Nat}(hb:b<base)(o:Nat)(u:Value):qR (w.setCell ⟨b,o,none⟩ u) base lv cs:=by
 obtain⟨xs,a,c⟩:=h;exact⟨xs,oO a (by intro d;have:=(a.lt b d).1;omega) o u,λj e=>(c j e).set hb o u⟩
theorem qR.slice{w:World}{base:Nat}{lv:Value}{cs:List xG}(h:qR w base lv cs):∃a c,lv = .slice a cs.length c:=by
 obtain⟨xs,b,_⟩:=h
 rcases b.2 with ⟨h0,hl⟩|⟨g,c,cur,rfl,_⟩
 ·rw[h0,hl];exact⟨_,_,rfl⟩
 ·exact⟨_,_,rfl⟩
theorem DR(b:List Rd.V)(a:List Value)(m:Option Addr)(cap:Nat)(w:World)(t:Qh w)(o:a.length=b.length)(z:a.length<=1000)
  (y:jA w m a)(B:∀(j:Nat) (v:Rd.V) (u:Value),b[j]?=some v->a[j]?=some u->OAt w (some v) u)(x:∀v ∈ b,Rd.Good 4000 v) :
  Calls prog 150 #[.slice m a.length cap,.func (.func 151) #[] #[]] w λe w'=>
   ∃(k g:Option Addr) (l n:Nat) (f:List Value),e = .returned (.tuple #[.slice k a.length l,.slice g a.length n])/\f.length=a.length/\jA w' g f/\FVs (b.map Rd.condC) f/\Below w.heap.size w w'/\qR w' w.heap.size (.slice k a.length l) (b.map um):=by
 have d:∀j,(h:j<a.length)->OAt w (some (b.getD j (.word false))) a[j]:=λj h=>by
  have c:j<b.length:=by omega
  rw[zY,zn c];exact B j _ _ (zn c) (zn h)
 refine (DN a m cap 151 #[] (λj=>um (b.getD j (.word false))) (λj=>Rd.condC (b.getD j (.word false))) w z (xg func151 (by kernel_rfl) rfl) y ?_ ?_).mono ?_
 ·intro u A;obtain⟨j,i,rfl⟩:=Qa A;exact (d j i).form
 ·intro W j i hb;have c:j<b.length:=by omega
  have:=Ob (b.getD j (.word false)) a[j] W (t.below hb) ((d j i).below hb) (x _ (by rw[zY,zn c];exact xB c))
  rw[show a[j]=a.getD j .nilIface by rw[zY,zn i];rfl] at this;exact this
 ·rintro e w' ⟨k,g,l,n,f,rfl,r,c,p,s,q⟩;refine⟨k,g,l,n,f,rfl,r,c,?_,s,?_⟩
  ·rw[o,Y8] at p;exact p
  ·rw[o,Y8] at q;rw[o];exact q
theorem Oc(x:Option Rd.V)(u:Value)(w:World)(k:Qh w)(i:OAt w x u)(s:∀v,x=some v->Rd.Good 4000 v):Calls prog 100 #[u] w (Jm w x):=by
 cases x with
 | none=>
  have P:u = .nilIface:=i;subst P;clear k i s;go_enter func100,ntmps100
  go_wp2
  go_ret2;exact⟨_,_,rfl,.inl ⟨rfl,rfl⟩,zf _ _,qR.nil _ _⟩
 | some v=>
  by_cases h:∃a,v = .list a
  ·obtain⟨a,rfl⟩:=h;have B:ValAt w (λb=>b<w.heap.size) (.list a) u:=i;have g:∀v ∈ a,Rd.Good 4000 v:=by have:=s _ rfl;cases this with|list _ _ h=>exact h
   have R:=dO;have f:Rd.jW (some (.list a))=if 5<a.length then 1 else Rd.qE (a.map Rd.condC):=rfl
   have r:Xp (some (.list a))=if 5<a.length then [] else a.map um:=rfl
   unfold Jm;rw[f,r];clear f r i s
   cases B with
   | list _ F I cap L l t=>
    by_cases hbad:5<a.length
    ·rw[zb hbad,zb hbad];obtain⟨n,A⟩:=Nm F.length;rw[A];have O:decide ((5:Int)<(n:Int))=true:=by simp;omega
     clear l t g k;go_enter func100,ntmps100
     go_wp2
     go_ret2;exact⟨_,_,rfl,.inr (.inl ⟨rfl,_,rfl⟩),zf _ _,qR.nil _ _⟩
    ·rw[za hbad,za hbad]
     have G:=DR a F I cap w k L (by omega) (by
       rcases l with l|⟨b,ha,_,f⟩
       ·exact .inl l
       ·exact .inr ⟨b,0,ha,λj M=>by rw[yO];exact f j _ (zn M)⟩) (λj y v Q B=>t j y v Q B) g
     have m:=λW (hb:Below w.heap.size w W)=>(k.below hb).d.err;clear l t g k;obtain⟨n,A⟩:=Nm F.length;rw[A] at G |-;have N:n<=5:=by omega
     have O:decide ((5:Int)<(n:Int))=false:=by simp;omega
     go_enter func100,ntmps100
     go_wp2_with (first
      | (go_at_call 101;refine H.mono ?_;rintro e Y ⟨v,rfl,z,o⟩)
      | (go_at_call 150;refine G.mono ?_;rintro e w1 ⟨U,J,X,K,S,rfl,E,C,D,c,q⟩;have H:=YT _ S J K w1 (m w1 c) (by omega) C D;rw[E] at H))
     go_ret2;exact⟨_,_,rfl,z,c.trans (o.mono c.size),q.below o⟩
  ·have p:∀a,some v≠some (.list a):=λa e=>h ⟨a,by simpa using e⟩;have R:=λW=>dP i p W;obtain⟨T,y,rfl⟩:=ValAt.iface (show ValAt w (λb=>b<w.heap.size) v u from i)
   have f:Rd.jW (some v)=1:=by
    cases v with
    | list a=>exact absurd ⟨a,rfl⟩ h
    | _=>rfl
   have r:Xp (some v)=[]:=by
    cases v with
    | list a=>exact absurd ⟨a,rfl⟩ h
    | _=>rfl
   unfold Jm;rw[f,r];clear i p k s f r h;go_enter func100,ntmps100
   go_wp2
   go_ret2;exact⟨_,_,rfl,.inr (.inl ⟨rfl,_,rfl⟩),zf _ _,qR.nil _ _⟩
end Go.Proofs.YtagnlbgbnfnapaaGreatDoor
