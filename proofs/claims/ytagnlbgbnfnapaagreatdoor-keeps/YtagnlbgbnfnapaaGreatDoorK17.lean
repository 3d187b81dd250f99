/- P -/
import Derived.Test.YtagnlbgbnfnapaaGreatDoorK16
open Go.Proofs.Tryz
set_option maxRecDepth 100000
set_option maxHeartbeats 2000000
namespace Go.Proofs.YtagnlbgbnfnapaaGreatDoor
open Go.RowKit
structure qp where
 eff:BY
 who:Bool×List BY
 act:Bool×List BY
 on:Bool×List BY
 ifs:List xG
def bH:qp:=⟨⟨#[]⟩,(false,[]),(false,[]),(false,[]),[]⟩
def jm:Rd.V->qp
 | .obj ms=>if Rd.qf ms [Rd.zH,Rd.zS,Rd.bDo,Rd.bOn,Rd.bIf] then ⟨Rd.qV Rd.xX (Rd.zm ms Rd.zH),chS (Rd.zm ms Rd.zS),chS (Rd.zm ms Rd.bDo),chS (Rd.zm ms Rd.bOn),Xp (Rd.zm ms Rd.bIf)⟩ else bH
 | _=>bH
def JB(w:World)(v:Rd.V)(e:Ending)(w':World):Prop:=
 ∃a b c d u,e = .returned (.tuple #[.agg #[.string (jm v).eff,.bool (jm v).who.1,a,.bool (jm v).act.1,b,.bool (jm v).on.1,c,d],u])/\FV (Rd.yu v) u/\Below w.heap.size w w' /\
  zz w' w.heap.size a (jm v).who.2/\zz w' w.heap.size b (jm v).act.2/\zz w' w.heap.size c (jm v).on.2/\qR w' w.heap.size d (jm v).ifs
def uX:Obj := .cells #[.string ⟨#[]⟩,.bool false,.slice none 0 0,.bool false,.slice none 0 0,.bool false,.slice none 0 0,.slice none 0 0] 137
def Qw:Obj := .cells #[.string Rd.zH,.string Rd.zS,.string Rd.bDo,.string Rd.bOn,.string Rd.bIf] 9
theorem nW(w:World)(a b c d f:BY)(t:TypeId):Q8 (w.alloc (.cells #[.string a,.string b,.string c,.string d,.string f] t)) (some ⟨w.heap.size,0,none⟩) [a,b,c,d,f]:=by
 have h:=zQ w (.cells #[.string a,.string b,.string c,.string d,.string f] t);refine .inr ⟨w.heap.size,0,rfl,λj e=>?_⟩;simp only[ZB,YC] at e;rw[yO,(zg h j).1]
 have:j=0\/j=1\/j=2\/j=3\/j=4:=by omega
 rcases this with rfl|rfl|rfl|rfl|rfl<;>rfl
def kW(w:World)(b o:Nat)(a c d e:Value):World:=(((w.setCell ⟨b,o,none⟩ a).setCell ⟨b,o+1,none⟩ c).setCell ⟨b,o+2,none⟩ d).setCell ⟨b,o+3,none⟩ e
theorem pU(w:World)(b o:Nat)(a c d e:Value)(q:Nat)(h:q<o\/o+4<=q):(kW w b o a c d e).cell? ⟨b,q,none⟩=w.cell? ⟨b,q,none⟩:=by
 unfold kW;rw[qH _ _ _ _ (by simp only[ne_eq,Addr.mk.injEq];omega),qH _ _ _ _ (by simp only[ne_eq,Addr.mk.injEq];omega),qH _ _ _ _ (by simp only[ne_eq,Addr.mk.injEq];omega),qH _ _ _ _ (by simp only[ne_eq,Addr.mk.injEq];omega)]
theorem pR{w:World}{b o:Nat}{p q r s:Value}(c d e f:Value)(k:w.cell? ⟨b,o,none⟩=some p)(l:w.cell? ⟨b,o+1,none⟩=some q)(m:w.cell? ⟨b,o+2,none⟩=some r)(n:w.cell? ⟨b,o+3,none⟩=some s) :
  (kW w b o c d e f).cell? ⟨b,o,none⟩=some c/\(kW w b o c d e f).cell? ⟨b,o+1,none⟩=some d/\(kW w b o c d e f).cell? ⟨b,o+2,none⟩=some e/\(kW w b o c d e f).cell? ⟨b,o+3,none⟩=some f:=by
 unfold kW;have ne:∀i j:Nat,i≠j->∀(W:World) (x:Value),(W.setCell ⟨b,o+i,none⟩ x).cell? ⟨b,o+j,none⟩=W.cell? ⟨b,o+j,none⟩:=λi j a W x=>qH _ _ _ _ (by simp only[ne_eq,Addr.mk.injEq];omega);have h:∀j:Nat,0≠j->∀(W:World) (x:Value),(W.setCell ⟨b,o,none⟩ x).cell? ⟨b,o+j,none⟩=W.cell? ⟨b,o+j,none⟩:=λj a W x=>qH _ _ _ _ (by simp only[ne_eq,Addr.mk.injEq];omega);have g:∀i:Nat,i≠0->∀(W:World) (x:Value),(W.setCell ⟨b,o+i,none⟩ x).cell? ⟨b,o,none⟩=W.cell? ⟨b,o,none⟩:=λi a W x=>qH _ _ _ _ (by simp only[ne_eq,Addr.mk.injEq];omega);refine⟨?_,?_,?_,?_⟩
 ·rw[g 3 (by omega),g 2 (by omega),g 1 (by omega)];exact uk _ _ _ k
 ·rw[ne 3 1 (by omega),ne 2 1 (by omega)];exact uk _ _ _ ((h 1 (by omega) _ _).trans l)
 ·rw[ne 3 2 (by omega)];exact uk _ _ _ ((ne 1 2 (by omega) _ _).trans ((h 2 (by omega) _ _).trans m))
 ·exact uk _ _ _ ((ne 2 3 (by omega) _ _).trans ((ne 1 3 (by omega) _ _).trans ((h 3 (by omega) _ _).trans n)))
def kX(w:World)(b:Nat)(a c d e f g h i:Value):World:=kW (kW w b 0 a c d e) b 4 f g h i
theorem pW{w:World}{b:Nat}{cs:Array Value}{t:TypeId}(h:w.heap[b]?=some (.cells cs t (0,0)))(J:cs.size=8)(a c d g i k l m:Value) :
  (kX w b a c d g i k l m).cell? ⟨b,0,none⟩=some a/\(kX w b a c d g i k l m).cell? ⟨b,1,none⟩=some c/\(kX w b a c d g i k l m).cell? ⟨b,2,none⟩=some d/\(kX w b a c d g i k l m).cell? ⟨b,3,none⟩=some g /\
  (kX w b a c d g i k l m).cell? ⟨b,4,none⟩=some i/\(kX w b a c d g i k l m).cell? ⟨b,5,none⟩=some k/\(kX w b a c d g i k l m).cell? ⟨b,6,none⟩=some l/\(kX w b a c d g i k l m).cell? ⟨b,7,none⟩=some m:=by
 have n:∀j,j<8->∃o,w.cell? ⟨b,j,none⟩=some o:=λj I=>⟨cs[j]'(by omega),by rw[(zg h j).1];exact eF (by omega)⟩;obtain⟨K,A⟩:=n 0 (by omega);obtain⟨L,B⟩:=n 1 (by omega);obtain⟨M,C⟩:=n 2 (by omega);obtain⟨N,D⟩:=n 3 (by omega);obtain⟨O,E⟩:=n 4 (by omega);obtain⟨P,F⟩:=n 5 (by omega);obtain⟨Q,G⟩:=n 6 (by omega);obtain⟨R,H⟩:=n 7 (by omega);obtain⟨r,s,u,v⟩:=pR (o:=0) a c d g A B C D;have e:=λq p=>pU w b 0 a c d g q p;obtain⟨b0,x,y,z⟩:=pR (w:=kW w b 0 a c d g) (o:=4) i k l m ((e 4 (by omega)).trans E) ((e 5 (by omega)).trans F) ((e 6 (by omega)).trans G) ((e 7 (by omega)).trans H);have f:=λq p=>pU (kW w b 0 a c d g) b 4 i k l m q p;exact⟨(f 0 (by omega)).trans r,(f 1 (by omega)).trans s,(f 2 (by omega)).trans u,(f 3 (by omega)).trans v,b0,x,y,z⟩
theorem pV{a w:World}{B b:Nat}(h:Below B a w)(hb:B<=b)(c d e f g i j k:Value):Below B a (kX w b c d e f g i j k):=
 (((((((h.setCell hb _).setCell hb _).setCell hb _).setCell hb _).setCell hb _).setCell hb _).setCell hb _).setCell hb _
theorem cu{w:World}{base:Nat}{lv:Value}{a:List BY}(h:zz w base lv a){b:Nat}(hb:b<base)(c d e f g i j k:Value):zz (kX w b c d e f g i j k) base lv a:=
 zU (zU (zU (zU (zU (zU (zU (zU h hb _ _) hb _ _) hb _ _) hb _ _) hb _ _) hb _ _) hb _ _) hb _ _
theorem NM{w:World}{base:Nat}{lv:Value}{cs:List xG}(h:qR w base lv cs){b:Nat}(hb:b<base)(a c d e f g i j:Value):qR (kX w b a c d e f g i j) base lv cs:=
 (((((((h.set hb _ _).set hb _ _).set hb _ _).set hb _ _).set hb _ _).set hb _ _).set hb _ _).set hb _ _
theorem zz.nil(w:World)(base:Nat):zz w base (.slice none 0 0) []:=qD _ _ _ _
theorem Oq(x:Rd.V)(u:Value)(w:World)(i:OAt w (some x) u)(o:Rd.Good 4000 x)(c:∀ms,x = .obj ms->Rd.qf ms [Rd.zH,Rd.zS,Rd.bDo,Rd.bOn,Rd.bIf]=false) :
  Calls prog 55 #[u] w (JB w x):=by
 have q:jm x=bH:=by
  match x with
  | .str s=>rfl
  | .word b=>rfl
  | .list R=>rfl
  | .obj ms=>simp only[jm];rw[c ms rfl];rfl
 have n:Rd.yu x=1:=by
  match x with
  | .str s=>rfl
  | .word b=>rfl
  | .list R=>rfl
  | .obj ms=>simp only[Rd.yu];rw[c ms rfl];rfl
 unfold JB;rw[q,n];have f:=nbl w uX;have d:=f.alloc (by simp) Qw
 have m:Calls prog 96 #[u,.slice (some ⟨w.heap.size+1,0,none⟩) 5 5] ((w.alloc uX).alloc Qw) (Vs ((w.alloc uX).alloc Qw)):=by
  by_cases h:∃ms,x = .obj ms
  ·obtain⟨ms,rfl⟩:=h;obtain⟨Q,t,cap,rfl,z⟩:=Y0 i;have k:ms.length<=4000:=by cases o with|obj _ h=>exact h
   have r:=nW (w.alloc uX) Rd.zH Rd.zS Rd.bDo Rd.bOn Rd.bIf 9;rw[jT] at r
   have:=Ve ms Q t cap [Rd.zH,Rd.zS,Rd.bDo,Rd.bOn,Rd.bIf] (some ⟨w.heap.size+1,0,none⟩) 5 ((w.alloc uX).alloc Qw) (by simp) k r (z.below d) false (c ms rfl)
   simpa using this
  ·exact rA (some x) u 5 _ 5 _ (i.below d) (λms e=>h ⟨ms,by simpa using e⟩)
 obtain⟨T,y,rfl⟩:=ValAt.iface (show ValAt w (λb=>b<w.heap.size) x u from i)
 clear i o c q n;unfold Qw uX Rd.zH Rd.zS Rd.bDo Rd.bOn Rd.bIf at m;unfold uX at f;unfold Qw uX Rd.zH Rd.zS Rd.bDo Rd.bOn Rd.bIf at d;go_enter func55,ntmps55
 go_wp2_with (go_at_call 96;refine m.mono ?_;rintro e w1 ⟨p,rfl,g⟩;have j:Below w.heap.size w w1:=d.trans (g.mono (by simp;omega));have a:=yT (((zf _ (w.alloc (.cells #[.string ⟨#[]⟩,.bool false,.slice none 0 0,.bool false,.slice none 0 0,.bool false,.slice none 0 0,.slice none 0 0] 137))).alloc (ze _) _).trans (g.mono (by simp)));have A:=(zg a 0).1;have B:=(zg a 1).1;have C:=(zg a 2).1;have D:=(zg a 3).1;have E:=(zg a 4).1;have F:=(zg a 5).1;have G:=(zg a 6).1;have H:=(zg a 7).1;have S:=(zg a 0).2;have f1:=(zg a 1).2;have f2:=(zg a 2).2;have U:=(zg a 3).2;have W:=(zg a 4).2;have X:=(zg a 5).2;have Y:=(zg a 6).2;have Z:=(zg a 7).2;simp at A B C D E F G H;have l:=pW a rfl (.string ⟨#[]⟩) (.bool false) (.slice none 0 0) (.bool false) (.slice none 0 0) (.bool false) (.slice none 0 0) (.slice none 0 0);unfold kX kW at l;simp only[yO] at l;obtain⟨I,J,K,L,M,N,O,P⟩:=l)
 exact zN (v := .tuple #[.agg #[.string ⟨#[]⟩,.bool false,.slice none 0 0,.bool false,.slice none 0 0,.bool false,.slice none 0 0,.slice none 0 0],.iface 129 (.agg #[.string p])]) (by simp[results,results55,go_sem,I,J,K,L,M,N,O,P]) rfl
  ⟨_,_,_,_,_,rfl,.inr (.inl ⟨rfl,_,rfl⟩),pV j (ze _) _ _ _ _ _ _ _ _,zz.nil _ _,zz.nil _ _,zz.nil _ _,qR.nil _ _⟩
theorem yD.eff{w:World}{ms:List (BY×Rd.V)}{a:List (BY×Value)}{b:Option Addr}{cap:Nat}(h:yD w ms a b cap) :
  Calls prog 97 #[xh a Rd.zH,.func (.func 98) #[] #[]] w (XU w (Rd.qV Rd.xX (Rd.zm ms Rd.zH)) (Rd.qb Rd.xX (Rd.zm ms Rd.zH))):=
 dh _ _ _ _ _ 4000 w (xg func98 (by kernel_rfl) rfl) (h.obj.get Rd.zH) (λs c=>by have:=Rd.yx h.good Rd.zH _ c;cases this with|str _ h=>exact h) (λW s _ _=>Gx s W)
theorem yD.choice{w:World}{ms:List (BY×Rd.V)}{a:List (BY×Value)}{b:Option Addr}{cap:Nat}(h:yD w ms a b cap)(nm:BY) :
  Calls prog 99 #[xh a nm] w (XI w (Rd.zm ms nm)):=NY _ _ w h.env.d (h.obj.get nm) (λv c=>Rd.yx h.good nm v c)
theorem yD.conds{w:World}{ms:List (BY×Rd.V)}{a:List (BY×Value)}{b:Option Addr}{cap:Nat}(h:yD w ms a b cap)(nm:BY) :
  Calls prog 100 #[xh a nm] w (Jm w (Rd.zm ms nm)):=Oc _ _ w h.env (h.obj.get nm) (λv c=>Rd.yx h.good nm v c)
theorem Fs{a b c d f:Nat}{u v x y z:Value}(h:FV a u)(i:FV b v)(k:FV c x)(l:FV d y)(m:FV f z):FVs [a,b,c,d,f] [u,v,x,y,z]:=by
 refine⟨rfl,λj d y e g=>?_⟩
 match j with
 | 0=>simp at e g;subst e;subst g;exact h
 | 1=>simp at e g;subst e;subst g;exact i
 | 2=>simp at e g;subst e;subst g;exact k
 | 3=>simp at e g;subst e;subst g;exact l
 | 4=>simp at e g;subst e;subst g;exact m
 | j+5=>simp at e
theorem Ew{W:World}{b:Nat}{u v x y z:Value}{t:TypeId}(h:W.heap[b]?=some (.cells #[u,v,x,y,z] t (0,0))):jA W (some ⟨b,0,none⟩) [u,v,x,y,z]:=by
 refine .inr ⟨b,0,rfl,λj a=>?_⟩;simp only[ZB,YC] at a;rw[yO,(zg h j).1]
 have:j=0\/j=1\/j=2\/j=3\/j=4:=by omega
 rcases this with rfl|rfl|rfl|rfl|rfl<;>rfl
theorem zz.below{w w':World}{base:Nat}{lv:Value}{a:List BY}(h:zz w base lv a)(hb:Below w.heap.size w w'):zz w' base lv a:=ownsRow_below h hb
theorem zz.mono{w:World}{base a:Nat}{lv:Value}{b:List BY}(h:zz w base lv b)(hb:a<=base):zz w a lv b:=xA h hb
theorem Ot(ms:List (BY×Rd.V))(us:List (BY×Value))(ao:Option Addr)(cap:Nat)(w:World)(hI:yD w ms us ao cap)(ho:Rd.qf ms [Rd.zH,Rd.zS,Rd.bDo,Rd.bOn,Rd.bIf]=true) :
  Calls prog 55 #[.iface 122 (.slice ao us.length cap)] w (JB w (.obj ms)):=by
 have hC:Rd.yu (.obj ms)=Rd.qE [Rd.qb Rd.xX (Rd.zm ms Rd.zH),Rd.chC (Rd.zm ms Rd.zS),Rd.chC (Rd.zm ms Rd.bDo),Rd.chC (Rd.zm ms Rd.bOn),Rd.jW (Rd.zm ms Rd.bIf)]:=by simp only[Rd.yu];rw[ho];rfl
 have hS:jm (.obj ms)=⟨Rd.qV Rd.xX (Rd.zm ms Rd.zH),chS (Rd.zm ms Rd.zS),chS (Rd.zm ms Rd.bDo),chS (Rd.zm ms Rd.bOn),Xp (Rd.zm ms Rd.bIf)⟩:=by simp only[jm];rw[ho];rfl
 have e5:=nbl w uX;have b0:=e5.alloc (by simp) Qw;have hr:=nW (w.alloc uX) Rd.zH Rd.zS Rd.bDo Rd.bOn Rd.bIf 9;rw[jT] at hr;have cR:=Ve ms us ao cap [Rd.zH,Rd.zS,Rd.bDo,Rd.bOn,Rd.bIf] (some ⟨w.heap.size+1,0,none⟩) 5 ((w.alloc uX).alloc Qw) (by simp) hI.len hr (hI.obj.below b0) true ho;simp only[xy,ZB,YC] at cR;have cG:=λW nm (h:Below w.heap.size w W)=>(hI.below h).get nm;have cE:=λW (h:Below w.heap.size w W)=>(hI.below h).eff;have cH:=λW nm (h:Below w.heap.size w W)=>(hI.below h).choice nm;have cF:=λW (h:Below w.heap.size w W)=>(hI.below h).conds Rd.bIf;have b7:=λW (h:Below w.heap.size w W)=>(hI.below h).env.d.err;unfold JB;rw[hC,hS];obtain⟨vE,h4⟩:∃x,xh us Rd.zH=x:=⟨_,rfl⟩;obtain⟨v1,g8⟩:∃x,xh us Rd.zS=x:=⟨_,rfl⟩;obtain⟨v2,g9⟩:∃x,xh us Rd.bDo=x:=⟨_,rfl⟩;obtain⟨v3,h0⟩:∃x,xh us Rd.bOn=x:=⟨_,rfl⟩;obtain⟨vF,h5⟩:∃x,xh us Rd.bIf=x:=⟨_,rfl⟩;have a8:=λW h=>cG W Rd.zH h;have a5:=λW h=>cG W Rd.zS h;have a6:=λW h=>cG W Rd.bDo h;have a7:=λW h=>cG W Rd.bOn h;have a9:=λW h=>cG W Rd.bIf h;have A:=λW h=>cH W Rd.zS h;have B:=λW h=>cH W Rd.bDo h;have C:=λW h=>cH W Rd.bOn h;unfold XI at A B C;unfold Jm at cF;simp only[h4] at a8 cE;simp only[g8] at a5 A;simp only[g9] at a6 B;simp only[h0] at a7 C;simp only[h5] at a9 cF;generalize Rd.qV Rd.xX (Rd.zm ms Rd.zH)=ES at cE |-;generalize Rd.qb Rd.xX (Rd.zm ms Rd.zH)=EC at cE |-;generalize chS (Rd.zm ms Rd.zS)=p1 at A |-;generalize Rd.chC (Rd.zm ms Rd.zS)=c1 at A |-;generalize chS (Rd.zm ms Rd.bDo)=p2 at B |-;generalize Rd.chC (Rd.zm ms Rd.bDo)=c2 at B |-;generalize chS (Rd.zm ms Rd.bOn)=p3 at C |-;generalize Rd.chC (Rd.zm ms Rd.bOn)=c3 at C |-;generalize Xp (Rd.zm ms Rd.bIf)=cs at cF |-;generalize Rd.jW (Rd.zm ms Rd.bIf)=cf at cF |-;obtain⟨t,b⟩:=p1;obtain⟨y,c⟩:=p2;obtain⟨z,f⟩:=p3;simp only at A B C |-;clear hI ho hS hC h4 g8 g9 h0 h5 cG hr cH;unfold Qw uX at cR;unfold uX at e5;unfold Qw uX at b0;unfold Rd.zH Rd.zS Rd.bDo Rd.bOn Rd.bIf at cR b0;unfold Rd.zH at a8;unfold Rd.zS at a5;unfold Rd.bDo at a6;unfold Rd.bOn at a7;unfold Rd.bIf at a9;go_enter func55,ntmps55
 go_upto_region 9 with (first
  | (go_at_call 100;refine (cF d3 H).mono ?_;rintro e a ⟨n3,N,rfl,f8,b9,G⟩;obtain⟨n,o,rfl⟩:=G.slice)
  | (go_at_call 53;refine (a9 _ K).mono ?_;rintro e d3 ⟨rfl,s⟩;have H:Below w.heap.size w d3:=K.trans (s.mono K.size))
  | (go_at_call 99;refine (C w8 a4).mono ?_;rintro e w9 ⟨n2,u3,rfl,e8,b6,F⟩;obtain⟨j,m,rfl⟩:=qG F;have c9:=a4.trans (b6.mono a4.size);have K:=c9.alloc c9.size (.cells #[.bool z,.slice j f.length m] 134))
  | (go_at_call 53;refine (a7 _ J).mono ?_;rintro e w8 ⟨rfl,R⟩;have a4:Below w.heap.size w w8:=J.trans (R.mono J.size))
  | (go_at_call 99;refine (B w6 a0).mono ?_;rintro e w7 ⟨n1,u2,rfl,e7,b5,E⟩;obtain⟨i,l,rfl⟩:=qG E;have c8:=a0.trans (b5.mono a0.size);have J:=c8.alloc c8.size (.cells #[.bool y,.slice i c.length l] 134))
  | (go_at_call 53;refine (a6 _ I).mono ?_;rintro e w6 ⟨rfl,Q⟩;have a0:Below w.heap.size w w6:=I.trans (Q.mono I.size))
  | (go_at_call 99;refine (A w4 Z).mono ?_;rintro e w5 ⟨n0,u1,rfl,e6,b4,D⟩;obtain⟨g,k,rfl⟩:=qG D;have c7:=Z.trans (b4.mono Z.size);have I:=c7.alloc c7.size (.cells #[.bool t,.slice g b.length k] 134))
  | (go_at_call 53;refine (a5 w3 Y).mono ?_;rintro e w4 ⟨rfl,d2⟩;have Z:Below w.heap.size w w4:=Y.trans (d2.mono Y.size);have S:=c6.trans (d2.mono c6.size))
  | (go_at_call 97;refine (cE w2 X).mono ?_;rintro e w3 ⟨M,rfl,e9,d1⟩;have Y:Below w.heap.size w w3:=X.trans (d1.mono X.size);have c6:=c5.trans (d1.mono c5.size))
  | (go_at_call 53;refine (a8 w1 U).mono ?_;rintro e w2 ⟨rfl,P⟩;have X:Below w.heap.size w w2:=U.trans (P.mono U.size);have c5:=c4.trans (P.mono c4.size))
  | (go_at_call 96;refine cR.mono ?_;rintro e w1 ⟨rfl,d0⟩;have U:Below w.heap.size w w1:=b0.trans (d0.mono (by simp;omega));have c4:=((zf _ (w.alloc (.cells #[.string ⟨#[]⟩,.bool false,.slice none 0 0,.bool false,.slice none 0 0,.bool false,.slice none 0 0,.slice none 0 0] 137))).alloc (ze _) (.cells #[.string ⟨#[101,102,102,101,99,116]⟩,.string ⟨#[119,104,111]⟩,.string ⟨#[100,111]⟩,.string ⟨#[111,110]⟩,.string ⟨#[105,102]⟩] 9)).trans (d0.mono (by simp))))
 have T3:=s.trans (b9.mono s.size);have t9:=R.trans (b6.mono R.size);have T2:=(t9.alloc t9.size (.cells #[.bool z,.slice j f.length m] 134)).trans (T3.mono (by have:=t9.size;simp at this |-;omega));have t7:=Q.trans (b5.mono Q.size);have T1:=(t7.alloc t7.size (.cells #[.bool y,.slice i c.length l] 134)).trans (T2.mono (by have:=t7.size;simp at this |-;omega));have t5:=S.trans (b4.mono S.size);have T0:=(t5.alloc t5.size (.cells #[.bool t,.slice g b.length k] 134)).trans (T1.mono (by have:=t5.size;simp at this |-;omega));have k1:=yT T1;have k2:=yT T2;have k3:=yT T3;have a1:=(zg k1 0).1;have j0:=(zg k1 1).1;have a2:=(zg k2 0).1;have j1:=(zg k2 1).1;have a3:=(zg k3 0).1;have j2:=(zg k3 1).1;simp at a1 j0 a2 j1 a3 j2;have o1:zz a w4.heap.size (.slice g b.length k) b:=zz.below (zz.below D (nbl w5 (.cells #[.bool t,.slice g b.length k] 134))) T1;have o2:zz a w6.heap.size (.slice i c.length l) c:=zz.below (zz.below E (nbl w7 (.cells #[.bool y,.slice i c.length l] 134))) T2;have o3:zz a w8.heap.size (.slice j f.length m) f:=zz.below (zz.below F (nbl w9 (.cells #[.bool z,.slice j f.length m] 134))) T3;have O:Below w.heap.size w a:=H.trans (b9.mono H.size);have z4:w.heap.size<w4.heap.size:=by have h1:=S.size;simp at h1;omega
 have z6:w.heap.size<w6.heap.size:=by have h1:=T0.size;have h2:=b4.size;have h3:=Q.size;simp at h3;omega
 have z8:w.heap.size<w8.heap.size:=by have h2:=b5.size;have h3:=R.size;simp at h3;omega
 have k7:w.heap.size<d3.heap.size:=by have h2:=b6.size;have h3:=s.size;simp at h3;omega
 have bA:Below w.heap.size w ((a.alloc (.cells #[.string ES,.bool t,.slice g b.length k,.bool y,.slice i c.length l,.bool z,.slice j f.length m,.slice n cs.length o] 137)).alloc (.cells #[M,u1,u2,u3,N] 86)):=(O.alloc O.size _).alloc (by have:=O.size;simp;omega) _;have aA:=(T0.alloc T0.size (.cells #[.string ES,.bool t,.slice g b.length k,.bool y,.slice i c.length l,.bool z,.slice j f.length m,.slice n cs.length o] 137)).alloc (by have:=T0.size;simp at this |-;omega) (.cells #[M,u1,u2,u3,N] 86);have e3:((a.alloc (.cells #[.string ES,.bool t,.slice g b.length k,.bool y,.slice i c.length l,.bool z,.slice j f.length m,.slice n cs.length o] 137)).alloc (.cells #[M,u1,u2,u3,N] 86)).heap[a.heap.size]?=some (.cells #[.string ES,.bool t,.slice g b.length k,.bool y,.slice i c.length l,.bool z,.slice j f.length m,.slice n cs.length o] 137):=(uy a (.cells #[.string ES,.bool t,.slice g b.length k,.bool y,.slice i c.length l,.bool z,.slice j f.length m,.slice n cs.length o] 137) (.cells #[M,u1,u2,u3,N] 86)).1;have e4:((a.alloc (.cells #[.string ES,.bool t,.slice g b.length k,.bool y,.slice i c.length l,.bool z,.slice j f.length m,.slice n cs.length o] 137)).alloc (.cells #[M,u1,u2,u3,N] 86)).heap[a.heap.size+1]?=some (.cells #[M,u1,u2,u3,N] 86):=(uy a (.cells #[.string ES,.bool t,.slice g b.length k,.bool y,.slice i c.length l,.bool z,.slice j f.length m,.slice n cs.length o] 137) (.cells #[M,u1,u2,u3,N] 86)).2
 have e0:∀W:World,Below w.heap.size w W->W.heap[a.heap.size+1]?=some (.cells #[M,u1,u2,u3,N] 86)->Calls prog 101 #[.slice (some ⟨a.heap.size+1,0,none⟩) 5 5] W λe w'=>∃u,e = .returned u/\FV (Rd.qE [EC,c1,c2,c3,cf]) u/\Below W.heap.size W w':=λW hW hg=>
  YT [EC,c1,c2,c3,cf] [M,u1,u2,u3,N] _ 5 W (b7 W hW) (by simp) (Ew hg) (Fs e9 e6 e7 e8 f8)
 have q0:=e9.cells;have q1:=e6.cells;have q2:=e7.cells;have q3:=e8.cells;have q4:=f8.cells;have r:=hid (uA o1 (uA o2 (uA o3 G)));clear cR a8 cE a5 a6 a7 a9 A B C cF b7 o1 o2 o3 G D E F k1 k2 k3 T1 T2 T3 t5 t7 t9 T0 d0 P d1 d2 b4 Q b5 R b6 s c4 c5 c6 S U X Y Z c7 I a0 c8 J a4 c9 K H
 go_upto_region 10 with fail
 go_region_with (go_at_call 101;refine (e0 _ (by first|exact bA|exact bA.drew|exact bA.drew.drew) (by first|exact e4)).mono ?_;rintro e h6 ⟨uR,rfl,f9,L⟩;have p:Below ((a.alloc (.cells #[.string ES,.bool t,.slice g b.length k,.bool y,.slice i c.length l,.bool z,.slice j f.length m,.slice n cs.length o] 137)).alloc (.cells #[M,u1,u2,u3,N] 86)).heap.size ((a.alloc (.cells #[.string ES,.bool t,.slice g b.length k,.bool y,.slice i c.length l,.bool z,.slice j f.length m,.slice n cs.length o] 137)).alloc (.cells #[M,u1,u2,u3,N] 86)) h6:=(by first|exact L|exact QL L|exact QL (QL L));have q:=yT (aA.trans (p.mono aA.size));have r0:=(zg q 0).1;have r1:=(zg q 1).1;have r2:=(zg q 2).1;have r3:=(zg q 3).1;have r4:=(zg q 4).1;have r5:=(zg q 5).1;have r6:=(zg q 6).1;have r7:=(zg q 7).1;have f0:=(zg q 0).2;have f1:=(zg q 1).2;have f2:=(zg q 2).2;have f3:=(zg q 3).2;have f4:=(zg q 4).2;have f5:=(zg q 5).2;have f6:=(zg q 6).2;have f7:=(zg q 7).2;simp at r0 r1 r2 r3 r4 r5 r6 r7;have T:=(p.block a.heap.size (by simp;omega)).trans e3;have g0:=(zg T 0).1;have g1:=(zg T 1).1;have g2:=(zg T 2).1;have g3:=(zg T 3).1;have g4:=(zg T 4).1;have g5:=(zg T 5).1;have g6:=(zg T 6).1;have g7:=(zg T 7).1;simp at g0 g1 g2 g3 g4 g5 g6 g7)
 all_goals
  have s8:=pW q rfl (.string ES) (.bool t) (.slice g b.length k) (.bool y) (.slice i c.length l) (.bool z) (.slice j f.length m) (.slice n cs.length o);unfold kX kW at s8;simp only[yO] at s8;obtain⟨s0,s1,s2,s3,s4,s5,s6,s7⟩:=s8;have BW:=hid (bA.trans (p.mono bA.size));have AB:Below a.heap.size a h6:=((nbl a (.cells #[.string ES,.bool t,.slice g b.length k,.bool y,.slice i c.length l,.bool z,.slice j f.length m,.slice n cs.length o] 137)).alloc (by simp) (.cells #[M,u1,u2,u3,N] 86)).trans (p.mono (by simp;omega));have OW:=hid (uA (r.out.1.below AB) (uA (r.out.2.1.below AB) (uA (r.out.2.2.1.below AB) (r.out.2.2.2.below AB))));have i9:=hid f9;clear f9 L p q T r AB q0 q1 q2 q3 q4 e0 e4 e3 bA aA;go_wp2_with fail
  exact zN (v := .tuple #[.agg #[.string ES,.bool t,.slice g b.length k,.bool y,.slice i c.length l,.bool z,.slice j f.length m,.slice n cs.length o],uR]) (by simp[results,results55,go_sem,s0,s1,s2,s3,s4,s5,s6,s7]) rfl
   ⟨_,_,_,_,_,rfl,i9.out,pV BW.out (ze _) _ _ _ _ _ _ _ _,(cu OW.out.1 z4 _ _ _ _ _ _ _ _).mono (by omega),(cu OW.out.2.1 z6 _ _ _ _ _ _ _ _).mono (by omega),(cu OW.out.2.2.1 z8 _ _ _ _ _ _ _ _).mono (by omega),(NM OW.out.2.2.2 k7 _ _ _ _ _ _ _ _).mono (by omega)⟩
theorem Ou(x:Rd.V)(u:Value)(w:World)(d:Qh w)(b:OAt w (some x) u)(a:Rd.Good 4000 x):Calls prog 55 #[u] w (JB w x):=by
 by_cases h:∃ms,x = .obj ms/\Rd.qf ms [Rd.zH,Rd.zS,Rd.bDo,Rd.bOn,Rd.bIf]=true
 ·obtain⟨ms,rfl,g⟩:=h;obtain⟨i,c,cap,rfl,f⟩:=Y0 b;exact Ot ms i c cap w ⟨d,f,a⟩ g
 ·refine Oq x u w b a (λms e=>?_)
  cases hc:Rd.qf ms [Rd.zH,Rd.zS,Rd.bDo,Rd.bOn,Rd.bIf] with
  | false=>rfl
  | true=>exact absurd ⟨ms,e,hc⟩ h
end Go.Proofs.YtagnlbgbnfnapaaGreatDoor
