/- P -/
import Derived.Test.YtdakgnaojakldabGreatDoorT16
open Go.Proofs.Tryz
set_option maxRecDepth 100000
set_option maxHeartbeats 2000000
namespace Go.Proofs.YtdakgnaojakldabGreatDoor
open Go.RowKit
structure zD where
 eff:BA
 who:Bool×List BA
 act:Bool×List BA
 on:Bool×List BA
 ifs:List zX
def XK:zD:=⟨⟨#[]⟩,(false,[]),(false,[]),(false,[]),[]⟩
def xm:Rd.V->zD
 | .obj ms=>if Rd.zJ ms [Rd.zQ,Rd.zS,Rd.bDo,Rd.bOn,Rd.bIf] then ⟨Rd.ql Rd.xx (Rd.zf ms Rd.zQ),chS (Rd.zf ms Rd.zS),chS (Rd.zf ms Rd.bDo),chS (Rd.zf ms Rd.bOn),ZU (Rd.zf ms Rd.bIf)⟩ else XK
 | _=>XK
def Yd(w:World)(v:Rd.V)(e:Ending)(a:World):Prop:=
 ∃b c d f u,e = .returned (.tuple #[.agg #[.string (xm v).eff,.bool (xm v).who.1,b,.bool (xm v).act.1,c,.bool (xm v).on.1,d,f],u])/\FV (Rd.qP v) u/\Below w.heap.size w a /\
  zO a w.heap.size b (xm v).who.2/\zO a w.heap.size c (xm v).act.2/\zO a w.heap.size d (xm v).on.2/\qJ a w.heap.size f (xm v).ifs
def vQ:Obj := .cells #[.string ⟨#[]⟩,.bool false,.slice none 0 0,.bool false,.slice none 0 0,.bool false,.slice none 0 0,.slice none 0 0] 104
def Zt:Obj := .cells #[.string Rd.zQ,.string Rd.zS,.string Rd.bDo,.string Rd.bOn,.string Rd.bIf] 9
theorem gm(w:World)(a b c d f:BA)(t:TypeId):vo (w.alloc (.cells #[.string a,.string b,.string c,.string d,.string f] t)) (some ⟨w.heap.size,0,none⟩) [a,b,c,d,f]:=by
 have h:=heap_alloc_new w (.cells #[.string a,.string b,.string c,.string d,.string f] t);refine .inr ⟨w.heap.size,0,rfl,λj e=>?_⟩;simp only[List.length_cons,List.length_nil] at e;rw[Nat.zero_add,(za h j).1]
 have:j=0\/j=1\/j=2\/j=3\/j=4:=by omega
 rcases this with rfl|rfl|rfl|rfl|rfl<;>rfl
def uj(w:World)(b o:Nat)(a c d e:Value):World:=(((w.setCell ⟨b,o,none⟩ a).setCell ⟨b,o+1,none⟩ c).setCell ⟨b,o+2,none⟩ d).setCell ⟨b,o+3,none⟩ e
theorem iN(w:World)(b o:Nat)(a c d e:Value)(q:Nat)(h:q<o\/o+4<=q):(uj w b o a c d e).cell? ⟨b,q,none⟩=w.cell? ⟨b,q,none⟩:=by
 unfold uj;rw[World.cell?_setCell_other _ _ _ _ (by simp only[ne_eq,Addr.mk.injEq];omega),World.cell?_setCell_other _ _ _ _ (by simp only[ne_eq,Addr.mk.injEq];omega),World.cell?_setCell_other _ _ _ _ (by simp only[ne_eq,Addr.mk.injEq];omega),World.cell?_setCell_other _ _ _ _ (by simp only[ne_eq,Addr.mk.injEq];omega)]
theorem iM{w:World}{b o:Nat}{p q r s:Value}(c d e f:Value)(k:w.cell? ⟨b,o,none⟩=some p)(l:w.cell? ⟨b,o+1,none⟩=some q)(m:w.cell? ⟨b,o+2,none⟩=some r)(n:w.cell? ⟨b,o+3,none⟩=some s) :
  (uj w b o c d e f).cell? ⟨b,o,none⟩=some c/\(uj w b o c d e f).cell? ⟨b,o+1,none⟩=some d/\(uj w b o c d e f).cell? ⟨b,o+2,none⟩=some e/\(uj w b o c d e f).cell? ⟨b,o+3,none⟩=some f:=by
 unfold uj;have ne:∀i j:Nat,i≠j->∀(W:World) (x:Value),(W.setCell ⟨b,o+i,none⟩ x).cell? ⟨b,o+j,none⟩=W.cell? ⟨b,o+j,none⟩:=λi j a W x=>World.cell?_setCell_other _ _ _ _ (by simp only[ne_eq,Addr.mk.injEq];omega);have h:∀j:Nat,0≠j->∀(W:World) (x:Value),(W.setCell ⟨b,o,none⟩ x).cell? ⟨b,o+j,none⟩=W.cell? ⟨b,o+j,none⟩:=λj a W x=>World.cell?_setCell_other _ _ _ _ (by simp only[ne_eq,Addr.mk.injEq];omega);have g:∀i:Nat,i≠0->∀(W:World) (x:Value),(W.setCell ⟨b,o+i,none⟩ x).cell? ⟨b,o,none⟩=W.cell? ⟨b,o,none⟩:=λi a W x=>World.cell?_setCell_other _ _ _ _ (by simp only[ne_eq,Addr.mk.injEq];omega);refine⟨?_,?_,?_,?_⟩
 ·rw[g 3 (by omega),g 2 (by omega),g 1 (by omega)];exact World.cell?_setCell_same _ _ _ k
 ·rw[ne 3 1 (by omega),ne 2 1 (by omega)];exact World.cell?_setCell_same _ _ _ ((h 1 (by omega) _ _).trans l)
 ·rw[ne 3 2 (by omega)];exact World.cell?_setCell_same _ _ _ ((ne 1 2 (by omega) _ _).trans ((h 2 (by omega) _ _).trans m))
 ·exact World.cell?_setCell_same _ _ _ ((ne 2 3 (by omega) _ _).trans ((ne 1 3 (by omega) _ _).trans ((h 3 (by omega) _ _).trans n)))
def uk(w:World)(b:Nat)(a c d e f g h i:Value):World:=uj (uj w b 0 a c d e) b 4 f g h i
theorem iP{w:World}{b:Nat}{cs:Array Value}{t:TypeId}(h:w.heap[b]?=some (.cells cs t (0,0)))(J:cs.size=8)(a c d g i k l m:Value) :
  (uk w b a c d g i k l m).cell? ⟨b,0,none⟩=some a/\(uk w b a c d g i k l m).cell? ⟨b,1,none⟩=some c/\(uk w b a c d g i k l m).cell? ⟨b,2,none⟩=some d/\(uk w b a c d g i k l m).cell? ⟨b,3,none⟩=some g /\
  (uk w b a c d g i k l m).cell? ⟨b,4,none⟩=some i/\(uk w b a c d g i k l m).cell? ⟨b,5,none⟩=some k/\(uk w b a c d g i k l m).cell? ⟨b,6,none⟩=some l/\(uk w b a c d g i k l m).cell? ⟨b,7,none⟩=some m:=by
 have n:∀j,j<8->∃o,w.cell? ⟨b,j,none⟩=some o:=λj I=>⟨cs[j]'(by omega),by rw[(za h j).1];exact Array.getElem?_eq_getElem (by omega)⟩;obtain⟨K,A⟩:=n 0 (by omega);obtain⟨L,B⟩:=n 1 (by omega);obtain⟨M,C⟩:=n 2 (by omega);obtain⟨N,D⟩:=n 3 (by omega);obtain⟨O,E⟩:=n 4 (by omega);obtain⟨P,F⟩:=n 5 (by omega);obtain⟨Q,G⟩:=n 6 (by omega);obtain⟨R,H⟩:=n 7 (by omega);obtain⟨r,s,u,v⟩:=iM (o:=0) a c d g A B C D;have e:=λq p=>iN w b 0 a c d g q p;obtain⟨b0,x,y,z⟩:=iM (w:=uj w b 0 a c d g) (o:=4) i k l m ((e 4 (by omega)).trans E) ((e 5 (by omega)).trans F) ((e 6 (by omega)).trans G) ((e 7 (by omega)).trans H);have f:=λq p=>iN (uj w b 0 a c d g) b 4 i k l m q p;exact⟨(f 0 (by omega)).trans r,(f 1 (by omega)).trans s,(f 2 (by omega)).trans u,(f 3 (by omega)).trans v,b0,x,y,z⟩
theorem iO{c w:World}{B b:Nat}(h:Below B c w)(a:B<=b)(d e f g i j k l:Value):Below B c (uk w b d e f g i j k l):=
 (((((((h.setCell a _).setCell a _).setCell a _).setCell a _).setCell a _).setCell a _).setCell a _).setCell a _
theorem U5{w:World}{base:Nat}{c:Value}{d:List BA}(h:zO w base c d){b:Nat}(a:b<base)(e f g i j k l m:Value):zO (uk w b e f g i j k l m) base c d:=
 zI (zI (zI (zI (zI (zI (zI (zI h a _ _) a _ _) a _ _) a _ _) a _ _) a _ _) a _ _) a _ _
theorem LF{w:World}{base:Nat}{c:Value}{cs:List zX}(h:qJ w base c cs){b:Nat}(a:b<base)(d e f g i j k l:Value):qJ (uk w b d e f g i j k l) base c cs:=
 (((((((h.set a _ _).set a _ _).set a _ _).set a _ _).set a _ _).set a _ _).set a _ _).set a _ _
theorem zO.nil(w:World)(base:Nat):zO w base (.slice none 0 0) []:=World.ownsRow_nil _ _ _ _
theorem Mi(x:Rd.V)(u:Value)(w:World)(i:OAt w (some x) u)(o:Rd.Good 4000 x)(c:∀ms,x = .obj ms->Rd.zJ ms [Rd.zQ,Rd.zS,Rd.bDo,Rd.bOn,Rd.bIf]=false) :
  Calls prog 33 #[u] w (Yd w x):=by
 have q:xm x=XK:=by
  match x with
  | .str s=>rfl
  | .word b=>rfl
  | .list P=>rfl
  | .obj ms=>simp only[xm];rw[c ms rfl];rfl
 have n:Rd.qP x=1:=by
  match x with
  | .str s=>rfl
  | .word b=>rfl
  | .list P=>rfl
  | .obj ms=>simp only[Rd.qP];rw[c ms rfl];rfl
 unfold Yd;rw[q,n];have f:=nB w vQ;have d:=f.alloc (by simp) Zt
 have m:Calls prog 56 #[u,.slice (some ⟨w.heap.size+1,0,none⟩) 5 5] ((w.alloc vQ).alloc Zt) (YZ ((w.alloc vQ).alloc Zt)):=by
  by_cases h:∃ms,x = .obj ms
  ·obtain⟨ms,rfl⟩:=h;obtain⟨O,ao,cap,rfl,t⟩:=XL i;have k:ms.length<=4000:=by cases o with|obj _ h=>exact h
   have r:=gm (w.alloc vQ) Rd.zQ Rd.zS Rd.bDo Rd.bOn Rd.bIf 9;rw[World.size_alloc] at r
   have:=YO ms O ao cap [Rd.zQ,Rd.zS,Rd.bDo,Rd.bOn,Rd.bIf] (some ⟨w.heap.size+1,0,none⟩) 5 ((w.alloc vQ).alloc Zt) (by simp) k r (t.below d) false (c ms rfl)
   simpa using this
  ·exact iZ (some x) u 5 _ 5 _ (i.below d) (λms e=>h ⟨ms,by simpa using e⟩)
 obtain⟨T,y,rfl⟩:=ValAt.iface (show ValAt w (λb=>b<w.heap.size) x u from i)
 clear i o c q n;unfold Zt vQ Rd.zQ Rd.zS Rd.bDo Rd.bOn Rd.bIf at m;unfold vQ at f;unfold Zt vQ Rd.zQ Rd.zS Rd.bDo Rd.bOn Rd.bIf at d;go_enter func33,ntmps33
 go_wp2_with (go_at_call 56;refine m.mono ?_;rintro e Q ⟨p,rfl,g⟩;have j:Below w.heap.size w Q:=d.trans (g.mono (by simp;omega));have a:=xU (((Below.refl _ (w.alloc (.cells #[.string ⟨#[]⟩,.bool false,.slice none 0 0,.bool false,.slice none 0 0,.bool false,.slice none 0 0,.slice none 0 0] 104))).alloc (Nat.le_refl _) _).trans (g.mono (by simp)));have r0:=(za a 0).1;have z:=(za a 1).1;have A:=(za a 2).1;have B:=(za a 3).1;have C:=(za a 4).1;have D:=(za a 5).1;have E:=(za a 6).1;have F:=(za a 7).1;have R:=(za a 0).2;have f1:=(za a 1).2;have f2:=(za a 2).2;have S:=(za a 3).2;have U:=(za a 4).2;have W:=(za a 5).2;have X:=(za a 6).2;have Y:=(za a 7).2;simp at r0 z A B C D E F;have l:=iP a rfl (.string ⟨#[]⟩) (.bool false) (.slice none 0 0) (.bool false) (.slice none 0 0) (.bool false) (.slice none 0 0) (.slice none 0 0);unfold uk uj at l;simp only[Nat.zero_add] at l;obtain⟨G,H,I,J,K,L,M,N⟩:=l)
 exact bodyPost_ret (v := .tuple #[.agg #[.string ⟨#[]⟩,.bool false,.slice none 0 0,.bool false,.slice none 0 0,.bool false,.slice none 0 0,.slice none 0 0],.iface 96 (.agg #[.string p])]) (by simp[results,results33,go_sem,G,H,I,J,K,L,M,N]) rfl
  ⟨_,_,_,_,_,rfl,.inr (.inl ⟨rfl,_,rfl⟩),iO j (Nat.le_refl _) _ _ _ _ _ _ _ _,zO.nil _ _,zO.nil _ _,zO.nil _ _,qJ.nil _ _⟩
theorem xC.eff{w:World}{ms:List (BA×Rd.V)}{a:List (BA×Value)}{ao:Option Addr}{cap:Nat}(h:xC w ms a ao cap) :
  Calls prog 57 #[qC a Rd.zQ,.func (.func 58) #[] #[]] w (QM w (Rd.ql Rd.xx (Rd.zf ms Rd.zQ)) (Rd.zL Rd.xx (Rd.zf ms Rd.zQ))):=
 U8 _ _ _ _ _ 4000 w (enters_of func58 (by kernel_rfl) rfl) (h.obj.get Rd.zQ) (λs b=>by have:=Rd.xg h.good Rd.zQ _ b;cases this with|str _ h=>exact h) (λW s _ _=>Ej s W)
theorem xC.choice{w:World}{ms:List (BA×Rd.V)}{a:List (BA×Value)}{ao:Option Addr}{cap:Nat}(h:xC w ms a ao cap)(nm:BA) :
  Calls prog 59 #[qC a nm] w (QH w (Rd.zf ms nm)):=LW _ _ w h.env.d (h.obj.get nm) (λv b=>Rd.xg h.good nm v b)
theorem xC.conds{w:World}{ms:List (BA×Rd.V)}{a:List (BA×Value)}{ao:Option Addr}{cap:Nat}(h:xC w ms a ao cap)(nm:BA) :
  Calls prog 60 #[qC a nm] w (X7 w (Rd.zf ms nm)):=Ma _ _ w h.env (h.obj.get nm) (λv b=>Rd.xg h.good nm v b)
theorem CV{a b c d f:Nat}{u v x y z:Value}(g:FV a u)(h:FV b v)(i:FV c x)(k:FV d y)(l:FV f z):FVs [a,b,c,d,f] [u,v,x,y,z]:=by
 refine⟨rfl,λj d y hd e=>?_⟩
 match j with
 | 0=>simp at hd e;subst hd;subst e;exact g
 | 1=>simp at hd e;subst hd;subst e;exact h
 | 2=>simp at hd e;subst hd;subst e;exact i
 | 3=>simp at hd e;subst hd;subst e;exact k
 | 4=>simp at hd e;subst hd;subst e;exact l
 | j+5=>simp at hd
theorem BF{W:World}{b:Nat}{u v x y z:Value}{t:TypeId}(h:W.heap[b]?=some (.cells #[u,v,x,y,z] t (0,0))):yt W (some ⟨b,0,none⟩) [u,v,x,y,z]:=by
 refine .inr ⟨b,0,rfl,λj a=>?_⟩;simp only[List.length_cons,List.length_nil] at a;rw[Nat.zero_add,(za h j).1]
 have:j=0\/j=1\/j=2\/j=3\/j=4:=by omega
 rcases this with rfl|rfl|rfl|rfl|rfl<;>rfl
theorem zO.below{w c:World}{base:Nat}{a:Value}{b:List BA}(h:zO w base a b)(d:Below w.heap.size w c):zO c base a b:=ownsRow_below h d
theorem zO.mono{w:World}{base a:Nat}{b:Value}{c:List BA}(h:zO w base b c)(d:a<=base):zO w a b c:=jZ h d
theorem Mj(ms:List (BA×Rd.V))(us:List (BA×Value))(ao:Option Addr)(cap:Nat)(w:World)(hI:xC w ms us ao cap)(ho:Rd.zJ ms [Rd.zQ,Rd.zS,Rd.bDo,Rd.bOn,Rd.bIf]=true) :
  Calls prog 33 #[.iface 89 (.slice ao us.length cap)] w (Yd w (.obj ms)):=by
 have hC:Rd.qP (.obj ms)=Rd.zT [Rd.zL Rd.xx (Rd.zf ms Rd.zQ),Rd.chC (Rd.zf ms Rd.zS),Rd.chC (Rd.zf ms Rd.bDo),Rd.chC (Rd.zf ms Rd.bOn),Rd.ym (Rd.zf ms Rd.bIf)]:=by simp only[Rd.qP];rw[ho];rfl
 have hS:xm (.obj ms)=⟨Rd.ql Rd.xx (Rd.zf ms Rd.zQ),chS (Rd.zf ms Rd.zS),chS (Rd.zf ms Rd.bDo),chS (Rd.zf ms Rd.bOn),ZU (Rd.zf ms Rd.bIf)⟩:=by simp only[xm];rw[ho];rfl
 have e4:=nB w vQ;have a9:=e4.alloc (by simp) Zt;have hr:=gm (w.alloc vQ) Rd.zQ Rd.zS Rd.bDo Rd.bOn Rd.bIf 9;rw[World.size_alloc] at hr;have cR:=YO ms us ao cap [Rd.zQ,Rd.zS,Rd.bDo,Rd.bOn,Rd.bIf] (some ⟨w.heap.size+1,0,none⟩) 5 ((w.alloc vQ).alloc Zt) (by simp) hI.len hr (hI.obj.below a9) true ho;simp only[if_true,List.length_cons,List.length_nil] at cR;have cG:=λW nm (h:Below w.heap.size w W)=>(hI.below h).get nm;have cE:=λW (h:Below w.heap.size w W)=>(hI.below h).eff;have cH:=λW nm (h:Below w.heap.size w W)=>(hI.below h).choice nm;have cF:=λW (h:Below w.heap.size w W)=>(hI.below h).conds Rd.bIf;have b6:=λW (h:Below w.heap.size w W)=>(hI.below h).env.d.err;unfold Yd;rw[hC,hS];obtain⟨vE,h0⟩:∃x,qC us Rd.zQ=x:=⟨_,rfl⟩;obtain⟨v1,f9⟩:∃x,qC us Rd.zS=x:=⟨_,rfl⟩;obtain⟨v2,g8⟩:∃x,qC us Rd.bDo=x:=⟨_,rfl⟩;obtain⟨v3,g9⟩:∃x,qC us Rd.bOn=x:=⟨_,rfl⟩;obtain⟨vF,h4⟩:∃x,qC us Rd.bIf=x:=⟨_,rfl⟩;have a7:=λW h=>cG W Rd.zQ h;have a4:=λW h=>cG W Rd.zS h;have a5:=λW h=>cG W Rd.bDo h;have a6:=λW h=>cG W Rd.bOn h;have a8:=λW h=>cG W Rd.bIf h;have z:=λW h=>cH W Rd.zS h;have A:=λW h=>cH W Rd.bDo h;have B:=λW h=>cH W Rd.bOn h;unfold QH at z A B;unfold X7 at cF;simp only[h0] at a7 cE;simp only[f9] at a4 z;simp only[g8] at a5 A;simp only[g9] at a6 B;simp only[h4] at a8 cF;generalize Rd.ql Rd.xx (Rd.zf ms Rd.zQ)=ES at cE |-;generalize Rd.zL Rd.xx (Rd.zf ms Rd.zQ)=EC at cE |-;generalize chS (Rd.zf ms Rd.zS)=p1 at z |-;generalize Rd.chC (Rd.zf ms Rd.zS)=c1 at z |-;generalize chS (Rd.zf ms Rd.bDo)=p2 at A |-;generalize Rd.chC (Rd.zf ms Rd.bDo)=c2 at A |-;generalize chS (Rd.zf ms Rd.bOn)=p3 at B |-;generalize Rd.chC (Rd.zf ms Rd.bOn)=c3 at B |-;generalize ZU (Rd.zf ms Rd.bIf)=cs at cF |-;generalize Rd.ym (Rd.zf ms Rd.bIf)=cf at cF |-;obtain⟨s,b⟩:=p1;obtain⟨t,c⟩:=p2;obtain⟨y,f⟩:=p3;simp only at z A B |-;clear hI ho hS hC h0 f9 g8 g9 h4 cG hr cH;unfold Zt vQ at cR;unfold vQ at e4;unfold Zt vQ at a9;unfold Rd.zQ Rd.zS Rd.bDo Rd.bOn Rd.bIf at cR a9;unfold Rd.zQ at a7;unfold Rd.zS at a4;unfold Rd.bDo at a5;unfold Rd.bOn at a6;unfold Rd.bIf at a8;go_enter func33,ntmps33
 go_upto_region 9 with (first
  | (go_at_call 60;refine (cF d2 G).mono ?_;rintro e a ⟨m8,M,rfl,e9,b8,F⟩;obtain⟨n,o,rfl⟩:=F.slice)
  | (go_at_call 31;refine (a8 _ J).mono ?_;rintro e d2 ⟨rfl,hb10⟩;have G:Below w.heap.size w d2:=J.trans (hb10.mono J.size))
  | (go_at_call 59;refine (B w8 a0).mono ?_;rintro e w9 ⟨m7,u3,rfl,e7,b5,E⟩;obtain⟨j,m,rfl⟩:=yJ E;have c8:=a0.trans (b5.mono a0.size);have J:=c8.alloc c8.size (.cells #[.bool y,.slice j f.length m] 101))
  | (go_at_call 31;refine (a6 _ I).mono ?_;rintro e w8 ⟨rfl,Q⟩;have a0:Below w.heap.size w w8:=I.trans (Q.mono I.size))
  | (go_at_call 59;refine (A w6 Z).mono ?_;rintro e w7 ⟨m6,u2,rfl,e6,b4,D⟩;obtain⟨i,l,rfl⟩:=yJ D;have c7:=Z.trans (b4.mono Z.size);have I:=c7.alloc c7.size (.cells #[.bool t,.slice i c.length l] 101))
  | (go_at_call 31;refine (a5 _ H).mono ?_;rintro e w6 ⟨rfl,P⟩;have Z:Below w.heap.size w w6:=H.trans (P.mono H.size))
  | (go_at_call 59;refine (z w4 Y).mono ?_;rintro e w5 ⟨m5,u1,rfl,e5,b0,C⟩;obtain⟨g,k,rfl⟩:=yJ C;have c6:=Y.trans (b0.mono Y.size);have H:=c6.alloc c6.size (.cells #[.bool s,.slice g b.length k] 101))
  | (go_at_call 31;refine (a4 w3 X).mono ?_;rintro e w4 ⟨rfl,d1⟩;have Y:Below w.heap.size w w4:=X.trans (d1.mono X.size);have R:=c5.trans (d1.mono c5.size))
  | (go_at_call 57;refine (cE w2 U).mono ?_;rintro e w3 ⟨L,rfl,e8,d0⟩;have X:Below w.heap.size w w3:=U.trans (d0.mono U.size);have c5:=c4.trans (d0.mono c4.size))
  | (go_at_call 31;refine (a7 w1 T).mono ?_;rintro e w2 ⟨rfl,O⟩;have U:Below w.heap.size w w2:=T.trans (O.mono T.size);have c4:=c0.trans (O.mono c0.size))
  | (go_at_call 56;refine cR.mono ?_;rintro e w1 ⟨rfl,c9⟩;have T:Below w.heap.size w w1:=a9.trans (c9.mono (by simp;omega));have c0:=((Below.refl _ (w.alloc (.cells #[.string ⟨#[]⟩,.bool false,.slice none 0 0,.bool false,.slice none 0 0,.bool false,.slice none 0 0,.slice none 0 0] 104))).alloc (Nat.le_refl _) (.cells #[.string ⟨#[101,102,102,101,99,116]⟩,.string ⟨#[119,104,111]⟩,.string ⟨#[100,111]⟩,.string ⟨#[111,110]⟩,.string ⟨#[105,102]⟩] 9)).trans (c9.mono (by simp))))
 have T3:=hb10.trans (b8.mono hb10.size);have t9:=Q.trans (b5.mono Q.size);have T2:=(t9.alloc t9.size (.cells #[.bool y,.slice j f.length m] 101)).trans (T3.mono (by have:=t9.size;simp at this |-;omega));have t7:=P.trans (b4.mono P.size);have T1:=(t7.alloc t7.size (.cells #[.bool t,.slice i c.length l] 101)).trans (T2.mono (by have:=t7.size;simp at this |-;omega));have t5:=R.trans (b0.mono R.size);have T0:=(t5.alloc t5.size (.cells #[.bool s,.slice g b.length k] 101)).trans (T1.mono (by have:=t5.size;simp at this |-;omega));have k1:=xU T1;have k2:=xU T2;have k3:=xU T3;have a1:=(za k1 0).1;have i9:=(za k1 1).1;have a2:=(za k2 0).1;have j0:=(za k2 1).1;have a3:=(za k3 0).1;have j1:=(za k3 1).1;simp at a1 i9 a2 j0 a3 j1;have o1:zO a w4.heap.size (.slice g b.length k) b:=zO.below (zO.below C (nB w5 (.cells #[.bool s,.slice g b.length k] 101))) T1;have o2:zO a w6.heap.size (.slice i c.length l) c:=zO.below (zO.below D (nB w7 (.cells #[.bool t,.slice i c.length l] 101))) T2;have o3:zO a w8.heap.size (.slice j f.length m) f:=zO.below (zO.below E (nB w9 (.cells #[.bool y,.slice j f.length m] 101))) T3;have N:Below w.heap.size w a:=G.trans (b8.mono G.size);have z4:w.heap.size<w4.heap.size:=by have h1:=R.size;simp at h1;omega
 have z6:w.heap.size<w6.heap.size:=by have h1:=T0.size;have h2:=b0.size;have h3:=P.size;simp at h3;omega
 have z8:w.heap.size<w8.heap.size:=by have h2:=b4.size;have h3:=Q.size;simp at h3;omega
 have j8:w.heap.size<d2.heap.size:=by have h2:=b5.size;have h3:=hb10.size;simp at h3;omega
 have bA:Below w.heap.size w ((a.alloc (.cells #[.string ES,.bool s,.slice g b.length k,.bool t,.slice i c.length l,.bool y,.slice j f.length m,.slice n cs.length o] 104)).alloc (.cells #[L,u1,u2,u3,M] 70)):=(N.alloc N.size _).alloc (by have:=N.size;simp;omega) _;have aA:=(T0.alloc T0.size (.cells #[.string ES,.bool s,.slice g b.length k,.bool t,.slice i c.length l,.bool y,.slice j f.length m,.slice n cs.length o] 104)).alloc (by have:=T0.size;simp at this |-;omega) (.cells #[L,u1,u2,u3,M] 70);have e2:((a.alloc (.cells #[.string ES,.bool s,.slice g b.length k,.bool t,.slice i c.length l,.bool y,.slice j f.length m,.slice n cs.length o] 104)).alloc (.cells #[L,u1,u2,u3,M] 70)).heap[a.heap.size]?=some (.cells #[.string ES,.bool s,.slice g b.length k,.bool t,.slice i c.length l,.bool y,.slice j f.length m,.slice n cs.length o] 104):=(Qc a (.cells #[.string ES,.bool s,.slice g b.length k,.bool t,.slice i c.length l,.bool y,.slice j f.length m,.slice n cs.length o] 104) (.cells #[L,u1,u2,u3,M] 70)).1;have e3:((a.alloc (.cells #[.string ES,.bool s,.slice g b.length k,.bool t,.slice i c.length l,.bool y,.slice j f.length m,.slice n cs.length o] 104)).alloc (.cells #[L,u1,u2,u3,M] 70)).heap[a.heap.size+1]?=some (.cells #[L,u1,u2,u3,M] 70):=(Qc a (.cells #[.string ES,.bool s,.slice g b.length k,.bool t,.slice i c.length l,.bool y,.slice j f.length m,.slice n cs.length o] 104) (.cells #[L,u1,u2,u3,M] 70)).2
 have d9:∀W:World,Below w.heap.size w W->W.heap[a.heap.size+1]?=some (.cells #[L,u1,u2,u3,M] 70)->Calls prog 61 #[.slice (some ⟨a.heap.size+1,0,none⟩) 5 5] W λe w'=>∃u,e = .returned u/\FV (Rd.zT [EC,c1,c2,c3,cf]) u/\Below W.heap.size W w':=λW hW hg=>
  XC [EC,c1,c2,c3,cf] [L,u1,u2,u3,M] _ 5 W (b6 W hW) (by simp) (BF hg) (CV e8 e5 e6 e7 e9)
 have q0:=e8.cells;have q1:=e5.cells;have q2:=e6.cells;have q3:=e7.cells;have q4:=e9.cells;have r:=hid (And.intro o1 (And.intro o2 (And.intro o3 F)));clear cR a7 cE a4 a5 a6 a8 z A B cF b6 o1 o2 o3 F C D E k1 k2 k3 T1 T2 T3 t5 t7 t9 T0 c9 O d0 d1 b0 P b4 Q b5 hb10 c0 c4 c5 R T U X Y c6 H Z c7 I a0 c8 J G
 go_upto_region 10 with fail
 go_region_with (go_at_call 61;refine (d9 _ (by first|exact bA|exact bA.drew|exact bA.drew.drew) (by first|exact e3)).mono ?_;rintro e h5 ⟨uR,rfl,f8,K⟩;have p:Below ((a.alloc (.cells #[.string ES,.bool s,.slice g b.length k,.bool t,.slice i c.length l,.bool y,.slice j f.length m,.slice n cs.length o] 104)).alloc (.cells #[L,u1,u2,u3,M] 70)).heap.size ((a.alloc (.cells #[.string ES,.bool s,.slice g b.length k,.bool t,.slice i c.length l,.bool y,.slice j f.length m,.slice n cs.length o] 104)).alloc (.cells #[L,u1,u2,u3,M] 70)) h5:=(by first|exact K|exact Qj K|exact Qj (Qj K));have q:=xU (aA.trans (p.mono aA.size));have r0:=(za q 0).1;have r1:=(za q 1).1;have r2:=(za q 2).1;have r3:=(za q 3).1;have r4:=(za q 4).1;have r5:=(za q 5).1;have r6:=(za q 6).1;have r7:=(za q 7).1;have f0:=(za q 0).2;have f1:=(za q 1).2;have f2:=(za q 2).2;have f3:=(za q 3).2;have f4:=(za q 4).2;have f5:=(za q 5).2;have f6:=(za q 6).2;have f7:=(za q 7).2;simp at r0 r1 r2 r3 r4 r5 r6 r7;have S:=(p.block a.heap.size (by simp;omega)).trans e2;have g0:=(za S 0).1;have g1:=(za S 1).1;have g2:=(za S 2).1;have g3:=(za S 3).1;have g4:=(za S 4).1;have g5:=(za S 5).1;have g6:=(za S 6).1;have g7:=(za S 7).1;simp at g0 g1 g2 g3 g4 g5 g6 g7)
 all_goals
  have s8:=iP q rfl (.string ES) (.bool s) (.slice g b.length k) (.bool t) (.slice i c.length l) (.bool y) (.slice j f.length m) (.slice n cs.length o);unfold uk uj at s8;simp only[Nat.zero_add] at s8;obtain⟨s0,s1,s2,s3,s4,s5,s6,s7⟩:=s8;have BW:=hid (bA.trans (p.mono bA.size));have AB:Below a.heap.size a h5:=((nB a (.cells #[.string ES,.bool s,.slice g b.length k,.bool t,.slice i c.length l,.bool y,.slice j f.length m,.slice n cs.length o] 104)).alloc (by simp) (.cells #[L,u1,u2,u3,M] 70)).trans (p.mono (by simp;omega));have OW:=hid (And.intro (r.out.1.below AB) (And.intro (r.out.2.1.below AB) (And.intro (r.out.2.2.1.below AB) (r.out.2.2.2.below AB))));have i8:=hid f8;clear f8 K p q S r AB q0 q1 q2 q3 q4 d9 e3 e2 bA aA;go_wp2_with fail
  exact bodyPost_ret (v := .tuple #[.agg #[.string ES,.bool s,.slice g b.length k,.bool t,.slice i c.length l,.bool y,.slice j f.length m,.slice n cs.length o],uR]) (by simp[results,results33,go_sem,s0,s1,s2,s3,s4,s5,s6,s7]) rfl
   ⟨_,_,_,_,_,rfl,i8.out,iO BW.out (Nat.le_refl _) _ _ _ _ _ _ _ _,(U5 OW.out.1 z4 _ _ _ _ _ _ _ _).mono (by omega),(U5 OW.out.2.1 z6 _ _ _ _ _ _ _ _).mono (by omega),(U5 OW.out.2.2.1 z8 _ _ _ _ _ _ _ _).mono (by omega),(LF OW.out.2.2.2 j8 _ _ _ _ _ _ _ _).mono (by omega)⟩
theorem Mk(x:Rd.V)(u:Value)(w:World)(c:qR w)(b:OAt w (some x) u)(a:Rd.Good 4000 x):Calls prog 33 #[u] w (Yd w x):=by
 by_cases h:∃ms,x = .obj ms/\Rd.zJ ms [Rd.zQ,Rd.zS,Rd.bDo,Rd.bOn,Rd.bIf]=true
 ·obtain⟨ms,rfl,f⟩:=h;obtain⟨g,ao,cap,rfl,d⟩:=XL b;exact Mj ms g ao cap w ⟨c,d,a⟩ f
 ·refine Mi x u w b a (λms e=>?_)
  cases hc:Rd.zJ ms [Rd.zQ,Rd.zS,Rd.bDo,Rd.bOn,Rd.bIf] with
  | false=>rfl
  | true=>exact absurd ⟨ms,e,hc⟩ h
end Go.Proofs.YtdakgnaojakldabGreatDoor
