/- P -/
import Derived.Test.YtdakgnaojakldaaGreatDoorG15
open Go.Proofs.Tryz
set_option maxRecDepth 100000
set_option maxHeartbeats 2000000
namespace Go.Proofs.YtdakgnaojakldaaGreatDoor
open Go.RowKit
structure zw where
 eff:BA
 who:Bool×List BA
 act:Bool×List BA
 on:Bool×List BA
 ifs:List zJ
def Ym:zw:=⟨⟨#[]⟩,(false,[]),(false,[]),(false,[]),[]⟩
def xk:Rd.V->zw
 | .obj ms=>if Rd.zM ms [Rd.zN,Rd.zT,Rd.bDo,Rd.bOn,Rd.bIf] then ⟨Rd.qo Rd.xL (Rd.zf ms Rd.zN),chS (Rd.zf ms Rd.zT),chS (Rd.zf ms Rd.bDo),chS (Rd.zf ms Rd.bOn),ZE (Rd.zf ms Rd.bIf)⟩ else Ym
 | _=>Ym
def YR(w:World)(v:Rd.V)(e:Ending)(a:World):Prop:=
 ∃b c d f u,e = .returned (.tuple #[.agg #[.string (xk v).eff,.bool (xk v).who.1,b,.bool (xk v).act.1,c,.bool (xk v).on.1,d,f],u])/\FV (Rd.qN v) u/\Below w.heap.size w a /\
  zx a w.heap.size b (xk v).who.2/\zx a w.heap.size c (xk v).act.2/\zx a w.heap.size d (xk v).on.2/\qx a w.heap.size f (xk v).ifs
def uj:Obj := .cells #[.string ⟨#[]⟩,.bool false,.slice none 0 0,.bool false,.slice none 0 0,.bool false,.slice none 0 0,.slice none 0 0] 133
def ZP:Obj := .cells #[.string Rd.zN,.string Rd.zT,.string Rd.bDo,.string Rd.bOn,.string Rd.bIf] 9
theorem mf(w:World)(a b c d f:BA)(t:TypeId):vJ (w.alloc (.cells #[.string a,.string b,.string c,.string d,.string f] t)) (some ⟨w.heap.size,0,none⟩) [a,b,c,d,f]:=by
 have h:=heap_alloc_new w (.cells #[.string a,.string b,.string c,.string d,.string f] t);refine .inr ⟨w.heap.size,0,rfl,λj e=>?_⟩;simp only[List.length_cons,List.length_nil] at e;rw[Nat.zero_add,(za h j).1]
 have:j=0\/j=1\/j=2\/j=3\/j=4:=by omega
 rcases this with rfl|rfl|rfl|rfl|rfl<;>rfl
def uC(w:World)(b o:Nat)(a c d e:Value):World:=(((w.setCell ⟨b,o,none⟩ a).setCell ⟨b,o+1,none⟩ c).setCell ⟨b,o+2,none⟩ d).setCell ⟨b,o+3,none⟩ e
theorem nY(w:World)(b o:Nat)(a c d e:Value)(q:Nat)(h:q<o\/o+4<=q):(uC w b o a c d e).cell? ⟨b,q,none⟩=w.cell? ⟨b,q,none⟩:=by
 unfold uC;rw[World.cell?_setCell_other _ _ _ _ (by simp only[ne_eq,Addr.mk.injEq];omega),World.cell?_setCell_other _ _ _ _ (by simp only[ne_eq,Addr.mk.injEq];omega),World.cell?_setCell_other _ _ _ _ (by simp only[ne_eq,Addr.mk.injEq];omega),World.cell?_setCell_other _ _ _ _ (by simp only[ne_eq,Addr.mk.injEq];omega)]
theorem nX{w:World}{b o:Nat}{p q r s:Value}(c d e f:Value)(k:w.cell? ⟨b,o,none⟩=some p)(l:w.cell? ⟨b,o+1,none⟩=some q)(m:w.cell? ⟨b,o+2,none⟩=some r)(n:w.cell? ⟨b,o+3,none⟩=some s) :
  (uC w b o c d e f).cell? ⟨b,o,none⟩=some c/\(uC w b o c d e f).cell? ⟨b,o+1,none⟩=some d/\(uC w b o c d e f).cell? ⟨b,o+2,none⟩=some e/\(uC w b o c d e f).cell? ⟨b,o+3,none⟩=some f:=by
 unfold uC;have ne:∀i j:Nat,i≠j->∀(W:World) (x:Value),(W.setCell ⟨b,o+i,none⟩ x).cell? ⟨b,o+j,none⟩=W.cell? ⟨b,o+j,none⟩:=λi j a W x=>World.cell?_setCell_other _ _ _ _ (by simp only[ne_eq,Addr.mk.injEq];omega);have h:∀j:Nat,0≠j->∀(W:World) (x:Value),(W.setCell ⟨b,o,none⟩ x).cell? ⟨b,o+j,none⟩=W.cell? ⟨b,o+j,none⟩:=λj a W x=>World.cell?_setCell_other _ _ _ _ (by simp only[ne_eq,Addr.mk.injEq];omega);have g:∀i:Nat,i≠0->∀(W:World) (x:Value),(W.setCell ⟨b,o+i,none⟩ x).cell? ⟨b,o,none⟩=W.cell? ⟨b,o,none⟩:=λi a W x=>World.cell?_setCell_other _ _ _ _ (by simp only[ne_eq,Addr.mk.injEq];omega);refine⟨?_,?_,?_,?_⟩
 ·rw[g 3 (by omega),g 2 (by omega),g 1 (by omega)];exact World.cell?_setCell_same _ _ _ k
 ·rw[ne 3 1 (by omega),ne 2 1 (by omega)];exact World.cell?_setCell_same _ _ _ ((h 1 (by omega) _ _).trans l)
 ·rw[ne 3 2 (by omega)];exact World.cell?_setCell_same _ _ _ ((ne 1 2 (by omega) _ _).trans ((h 2 (by omega) _ _).trans m))
 ·exact World.cell?_setCell_same _ _ _ ((ne 2 3 (by omega) _ _).trans ((ne 1 3 (by omega) _ _).trans ((h 3 (by omega) _ _).trans n)))
def uD(w:World)(b:Nat)(a c d e f g h i:Value):World:=uC (uC w b 0 a c d e) b 4 f g h i
theorem og{w:World}{b:Nat}{cs:Array Value}{t:TypeId}(h:w.heap[b]?=some (.cells cs t (0,0)))(J:cs.size=8)(a c d g i k l m:Value) :
  (uD w b a c d g i k l m).cell? ⟨b,0,none⟩=some a/\(uD w b a c d g i k l m).cell? ⟨b,1,none⟩=some c/\(uD w b a c d g i k l m).cell? ⟨b,2,none⟩=some d/\(uD w b a c d g i k l m).cell? ⟨b,3,none⟩=some g /\
  (uD w b a c d g i k l m).cell? ⟨b,4,none⟩=some i/\(uD w b a c d g i k l m).cell? ⟨b,5,none⟩=some k/\(uD w b a c d g i k l m).cell? ⟨b,6,none⟩=some l/\(uD w b a c d g i k l m).cell? ⟨b,7,none⟩=some m:=by
 have n:∀j,j<8->∃o,w.cell? ⟨b,j,none⟩=some o:=λj I=>⟨cs[j]'(by omega),by rw[(za h j).1];exact Array.getElem?_eq_getElem (by omega)⟩;obtain⟨K,A⟩:=n 0 (by omega);obtain⟨L,B⟩:=n 1 (by omega);obtain⟨M,C⟩:=n 2 (by omega);obtain⟨N,D⟩:=n 3 (by omega);obtain⟨O,E⟩:=n 4 (by omega);obtain⟨P,F⟩:=n 5 (by omega);obtain⟨Q,G⟩:=n 6 (by omega);obtain⟨R,H⟩:=n 7 (by omega);obtain⟨r,s,u,v⟩:=nX (o:=0) a c d g A B C D;have e:=λq p=>nY w b 0 a c d g q p;obtain⟨b0,x,y,z⟩:=nX (w:=uC w b 0 a c d g) (o:=4) i k l m ((e 4 (by omega)).trans E) ((e 5 (by omega)).trans F) ((e 6 (by omega)).trans G) ((e 7 (by omega)).trans H);have f:=λq p=>nY (uC w b 0 a c d g) b 4 i k l m q p;exact⟨(f 0 (by omega)).trans r,(f 1 (by omega)).trans s,(f 2 (by omega)).trans u,(f 3 (by omega)).trans v,b0,x,y,z⟩
theorem nZ{a w:World}{B b:Nat}(h:Below B a w)(hb:B<=b)(c d e f g i j k:Value):Below B a (uD w b c d e f g i j k):=
 (((((((h.setCell hb _).setCell hb _).setCell hb _).setCell hb _).setCell hb _).setCell hb _).setCell hb _).setCell hb _
theorem ak{w:World}{base:Nat}{lv:Value}{a:List BA}(h:zx w base lv a){b:Nat}(hb:b<base)(c d e f g i j k:Value):zx (uD w b c d e f g i j k) base lv a:=
 zK (zK (zK (zK (zK (zK (zK (zK h hb _ _) hb _ _) hb _ _) hb _ _) hb _ _) hb _ _) hb _ _) hb _ _
theorem Od{w:World}{base:Nat}{lv:Value}{cs:List zJ}(h:qx w base lv cs){b:Nat}(hb:b<base)(a c d e f g i j:Value):qx (uD w b a c d e f g i j) base lv cs:=
 (((((((h.set hb _ _).set hb _ _).set hb _ _).set hb _ _).set hb _ _).set hb _ _).set hb _ _).set hb _ _
theorem zx.nil(w:World)(base:Nat):zx w base (.slice none 0 0) []:=World.ownsRow_nil _ _ _ _
theorem OG(x:Rd.V)(u:Value)(w:World)(i:OAt w (some x) u)(o:Rd.Good 4000 x)(c:∀ms,x = .obj ms->Rd.zM ms [Rd.zN,Rd.zT,Rd.bDo,Rd.bOn,Rd.bIf]=false) :
  Calls prog 53 #[u] w (YR w x):=by
 have q:xk x=Ym:=by
  match x with
  | .str s=>rfl
  | .word b=>rfl
  | .list P=>rfl
  | .obj ms=>simp only[xk];rw[c ms rfl];rfl
 have n:Rd.qN x=1:=by
  match x with
  | .str s=>rfl
  | .word b=>rfl
  | .list P=>rfl
  | .obj ms=>simp only[Rd.qN];rw[c ms rfl];rfl
 unfold YR;rw[q,n];have f:=nB w uj;have d:=f.alloc (by simp) ZP
 have m:Calls prog 97 #[u,.slice (some ⟨w.heap.size+1,0,none⟩) 5 5] ((w.alloc uj).alloc ZP) (JM ((w.alloc uj).alloc ZP)):=by
  by_cases h:∃ms,x = .obj ms
  ·obtain⟨ms,rfl⟩:=h;obtain⟨O,ao,cap,rfl,t⟩:=Yn i;have k:ms.length<=4000:=by cases o with|obj _ h=>exact h
   have r:=mf (w.alloc uj) Rd.zN Rd.zT Rd.bDo Rd.bOn Rd.bIf 9;rw[World.size_alloc] at r
   have:=JB ms O ao cap [Rd.zN,Rd.zT,Rd.bDo,Rd.bOn,Rd.bIf] (some ⟨w.heap.size+1,0,none⟩) 5 ((w.alloc uj).alloc ZP) (by simp) k r (t.below d) false (c ms rfl)
   simpa using this
  ·exact oC (some x) u 5 _ 5 _ (i.below d) (λms e=>h ⟨ms,by simpa using e⟩)
 obtain⟨T,y,rfl⟩:=ValAt.iface (show ValAt w (λb=>b<w.heap.size) x u from i)
 clear i o c q n;unfold ZP uj Rd.zN Rd.zT Rd.bDo Rd.bOn Rd.bIf at m;unfold uj at f;unfold ZP uj Rd.zN Rd.zT Rd.bDo Rd.bOn Rd.bIf at d;go_enter func53,ntmps53
 go_wp2_with (go_at_call 97;refine m.mono ?_;rintro e Q ⟨p,rfl,g⟩;have j:Below w.heap.size w Q:=d.trans (g.mono (by simp;omega));have a:=ym (((Below.refl _ (w.alloc (.cells #[.string ⟨#[]⟩,.bool false,.slice none 0 0,.bool false,.slice none 0 0,.bool false,.slice none 0 0,.slice none 0 0] 133))).alloc (Nat.le_refl _) _).trans (g.mono (by simp)));have r0:=(za a 0).1;have z:=(za a 1).1;have A:=(za a 2).1;have B:=(za a 3).1;have C:=(za a 4).1;have D:=(za a 5).1;have E:=(za a 6).1;have F:=(za a 7).1;have R:=(za a 0).2;have f1:=(za a 1).2;have f2:=(za a 2).2;have S:=(za a 3).2;have U:=(za a 4).2;have W:=(za a 5).2;have X:=(za a 6).2;have Y:=(za a 7).2;simp at r0 z A B C D E F;have l:=og a rfl (.string ⟨#[]⟩) (.bool false) (.slice none 0 0) (.bool false) (.slice none 0 0) (.bool false) (.slice none 0 0) (.slice none 0 0);unfold uD uC at l;simp only[Nat.zero_add] at l;obtain⟨G,H,I,J,K,L,M,N⟩:=l)
 exact bodyPost_ret (v := .tuple #[.agg #[.string ⟨#[]⟩,.bool false,.slice none 0 0,.bool false,.slice none 0 0,.bool false,.slice none 0 0,.slice none 0 0],.iface 125 (.agg #[.string p])]) (by simp[results,results53,go_sem,G,H,I,J,K,L,M,N]) rfl
  ⟨_,_,_,_,_,rfl,.inr (.inl ⟨rfl,_,rfl⟩),nZ j (Nat.le_refl _) _ _ _ _ _ _ _ _,zx.nil _ _,zx.nil _ _,zx.nil _ _,qx.nil _ _⟩
theorem xQ.eff{w:World}{ms:List (BA×Rd.V)}{a:List (BA×Value)}{ao:Option Addr}{cap:Nat}(h:xQ w ms a ao cap) :
  Calls prog 98 #[qF a Rd.zN,.func (.func 99) #[] #[]] w (Xa w (Rd.qo Rd.xL (Rd.zf ms Rd.zN)) (Rd.zQ Rd.xL (Rd.zf ms Rd.zN))):=
 aC _ _ _ _ _ 4000 w (enters_of func99 (by kernel_rfl) rfl) (h.obj.get Rd.zN) (λs b=>by have:=Rd.xA h.good Rd.zN _ b;cases this with|str _ h=>exact h) (λW s _ _=>Gu s W)
theorem xQ.choice{w:World}{ms:List (BA×Rd.V)}{a:List (BA×Value)}{ao:Option Addr}{cap:Nat}(h:xQ w ms a ao cap)(nm:BA) :
  Calls prog 100 #[qF a nm] w (Q8 w (Rd.zf ms nm)):=Ov _ _ w h.env.d (h.obj.get nm) (λv b=>Rd.xA h.good nm v b)
theorem xQ.conds{w:World}{ms:List (BA×Rd.V)}{a:List (BA×Value)}{ao:Option Addr}{cap:Nat}(h:xQ w ms a ao cap)(nm:BA) :
  Calls prog 101 #[qF a nm] w (YK w (Rd.zf ms nm)):=Oz _ _ w h.env (h.obj.get nm) (λv b=>Rd.xA h.good nm v b)
theorem Fb{a b c d f:Nat}{u v x y z:Value}(g:FV a u)(h:FV b v)(i:FV c x)(k:FV d y)(l:FV f z):FVs [a,b,c,d,f] [u,v,x,y,z]:=by
 refine⟨rfl,λj d y hd e=>?_⟩
 match j with
 | 0=>simp at hd e;subst hd;subst e;exact g
 | 1=>simp at hd e;subst hd;subst e;exact h
 | 2=>simp at hd e;subst hd;subst e;exact i
 | 3=>simp at hd e;subst hd;subst e;exact k
 | 4=>simp at hd e;subst hd;subst e;exact l
 | j+5=>simp at hd
theorem Ei{W:World}{b:Nat}{u v x y z:Value}{t:TypeId}(h:W.heap[b]?=some (.cells #[u,v,x,y,z] t (0,0))):yM W (some ⟨b,0,none⟩) [u,v,x,y,z]:=by
 refine .inr ⟨b,0,rfl,λj a=>?_⟩;simp only[List.length_cons,List.length_nil] at a;rw[Nat.zero_add,(za h j).1]
 have:j=0\/j=1\/j=2\/j=3\/j=4:=by omega
 rcases this with rfl|rfl|rfl|rfl|rfl<;>rfl
theorem zx.below{w b:World}{base:Nat}{lv:Value}{a:List BA}(h:zx w base lv a)(hb:Below w.heap.size w b):zx b base lv a:=ownsRow_below h hb
theorem zx.mono{w:World}{base a:Nat}{lv:Value}{b:List BA}(h:zx w base lv b)(hb:a<=base):zx w a lv b:=yD h hb
theorem OH(ms:List (BA×Rd.V))(us:List (BA×Value))(ao:Option Addr)(cap:Nat)(w:World)(hI:xQ w ms us ao cap)(ho:Rd.zM ms [Rd.zN,Rd.zT,Rd.bDo,Rd.bOn,Rd.bIf]=true) :
  Calls prog 53 #[.iface 118 (.slice ao us.length cap)] w (YR w (.obj ms)):=by
 have hC:Rd.qN (.obj ms)=Rd.zW [Rd.zQ Rd.xL (Rd.zf ms Rd.zN),Rd.chC (Rd.zf ms Rd.zT),Rd.chC (Rd.zf ms Rd.bDo),Rd.chC (Rd.zf ms Rd.bOn),Rd.yz (Rd.zf ms Rd.bIf)]:=by simp only[Rd.qN];rw[ho];rfl
 have hS:xk (.obj ms)=⟨Rd.qo Rd.xL (Rd.zf ms Rd.zN),chS (Rd.zf ms Rd.zT),chS (Rd.zf ms Rd.bDo),chS (Rd.zf ms Rd.bOn),ZE (Rd.zf ms Rd.bIf)⟩:=by simp only[xk];rw[ho];rfl
 have e4:=nB w uj;have a9:=e4.alloc (by simp) ZP;have hr:=mf (w.alloc uj) Rd.zN Rd.zT Rd.bDo Rd.bOn Rd.bIf 9;rw[World.size_alloc] at hr;have cR:=JB ms us ao cap [Rd.zN,Rd.zT,Rd.bDo,Rd.bOn,Rd.bIf] (some ⟨w.heap.size+1,0,none⟩) 5 ((w.alloc uj).alloc ZP) (by simp) hI.len hr (hI.obj.below a9) true ho;simp only[if_true,List.length_cons,List.length_nil] at cR;have cG:=λW nm (h:Below w.heap.size w W)=>(hI.below h).get nm;have cE:=λW (h:Below w.heap.size w W)=>(hI.below h).eff;have cH:=λW nm (h:Below w.heap.size w W)=>(hI.below h).choice nm;have cF:=λW (h:Below w.heap.size w W)=>(hI.below h).conds Rd.bIf;have b6:=λW (h:Below w.heap.size w W)=>(hI.below h).env.d.err;unfold YR;rw[hC,hS];obtain⟨vE,h0⟩:∃x,qF us Rd.zN=x:=⟨_,rfl⟩;obtain⟨v1,f9⟩:∃x,qF us Rd.zT=x:=⟨_,rfl⟩;obtain⟨v2,g8⟩:∃x,qF us Rd.bDo=x:=⟨_,rfl⟩;obtain⟨v3,g9⟩:∃x,qF us Rd.bOn=x:=⟨_,rfl⟩;obtain⟨vF,h4⟩:∃x,qF us Rd.bIf=x:=⟨_,rfl⟩;have a7:=λW h=>cG W Rd.zN h;have a4:=λW h=>cG W Rd.zT h;have a5:=λW h=>cG W Rd.bDo h;have a6:=λW h=>cG W Rd.bOn h;have a8:=λW h=>cG W Rd.bIf h;have z:=λW h=>cH W Rd.zT h;have A:=λW h=>cH W Rd.bDo h;have B:=λW h=>cH W Rd.bOn h;unfold Q8 at z A B;unfold YK at cF;simp only[h0] at a7 cE;simp only[f9] at a4 z;simp only[g8] at a5 A;simp only[g9] at a6 B;simp only[h4] at a8 cF;generalize Rd.qo Rd.xL (Rd.zf ms Rd.zN)=ES at cE |-;generalize Rd.zQ Rd.xL (Rd.zf ms Rd.zN)=EC at cE |-;generalize chS (Rd.zf ms Rd.zT)=p1 at z |-;generalize Rd.chC (Rd.zf ms Rd.zT)=c1 at z |-;generalize chS (Rd.zf ms Rd.bDo)=p2 at A |-;generalize Rd.chC (Rd.zf ms Rd.bDo)=c2 at A |-;generalize chS (Rd.zf ms Rd.bOn)=p3 at B |-;generalize Rd.chC (Rd.zf ms Rd.bOn)=c3 at B |-;generalize ZE (Rd.zf ms Rd.bIf)=cs at cF |-;generalize Rd.yz (Rd.zf ms Rd.bIf)=cf at cF |-;obtain⟨s,b⟩:=p1;obtain⟨t,c⟩:=p2;obtain⟨y,f⟩:=p3;simp only at z A B |-;clear hI ho hS hC h0 f9 g8 g9 h4 cG hr cH;unfold ZP uj at cR;unfold uj at e4;unfold ZP uj at a9;unfold Rd.zN Rd.zT Rd.bDo Rd.bOn Rd.bIf at cR a9;unfold Rd.zN at a7;unfold Rd.zT at a4;unfold Rd.bDo at a5;unfold Rd.bOn at a6;unfold Rd.bIf at a8;go_enter func53,ntmps53
 go_upto_region 9 with (first
  | (go_at_call 101;refine (cF d2 G).mono ?_;rintro e a ⟨m8,M,rfl,e9,b8,F⟩;obtain⟨n,o,rfl⟩:=F.slice)
  | (go_at_call 51;refine (a8 _ J).mono ?_;rintro e d2 ⟨rfl,hb10⟩;have G:Below w.heap.size w d2:=J.trans (hb10.mono J.size))
  | (go_at_call 100;refine (B w8 a0).mono ?_;rintro e w9 ⟨m7,u3,rfl,e7,b5,E⟩;obtain⟨j,m,rfl⟩:=qJ E;have c8:=a0.trans (b5.mono a0.size);have J:=c8.alloc c8.size (.cells #[.bool y,.slice j f.length m] 130))
  | (go_at_call 51;refine (a6 _ I).mono ?_;rintro e w8 ⟨rfl,Q⟩;have a0:Below w.heap.size w w8:=I.trans (Q.mono I.size))
  | (go_at_call 100;refine (A w6 Z).mono ?_;rintro e w7 ⟨m6,u2,rfl,e6,b4,D⟩;obtain⟨i,l,rfl⟩:=qJ D;have c7:=Z.trans (b4.mono Z.size);have I:=c7.alloc c7.size (.cells #[.bool t,.slice i c.length l] 130))
  | (go_at_call 51;refine (a5 _ H).mono ?_;rintro e w6 ⟨rfl,P⟩;have Z:Below w.heap.size w w6:=H.trans (P.mono H.size))
  | (go_at_call 100;refine (z w4 Y).mono ?_;rintro e w5 ⟨m5,u1,rfl,e5,b0,C⟩;obtain⟨g,k,rfl⟩:=qJ C;have c6:=Y.trans (b0.mono Y.size);have H:=c6.alloc c6.size (.cells #[.bool s,.slice g b.length k] 130))
  | (go_at_call 51;refine (a4 w3 X).mono ?_;rintro e w4 ⟨rfl,d1⟩;have Y:Below w.heap.size w w4:=X.trans (d1.mono X.size);have R:=c5.trans (d1.mono c5.size))
  | (go_at_call 98;refine (cE w2 U).mono ?_;rintro e w3 ⟨L,rfl,e8,d0⟩;have X:Below w.heap.size w w3:=U.trans (d0.mono U.size);have c5:=c4.trans (d0.mono c4.size))
  | (go_at_call 51;refine (a7 w1 T).mono ?_;rintro e w2 ⟨rfl,O⟩;have U:Below w.heap.size w w2:=T.trans (O.mono T.size);have c4:=c0.trans (O.mono c0.size))
  | (go_at_call 97;refine cR.mono ?_;rintro e w1 ⟨rfl,c9⟩;have T:Below w.heap.size w w1:=a9.trans (c9.mono (by simp;omega));have c0:=((Below.refl _ (w.alloc (.cells #[.string ⟨#[]⟩,.bool false,.slice none 0 0,.bool false,.slice none 0 0,.bool false,.slice none 0 0,.slice none 0 0] 133))).alloc (Nat.le_refl _) (.cells #[.string ⟨#[101,102,102,101,99,116]⟩,.string ⟨#[119,104,111]⟩,.string ⟨#[100,111]⟩,.string ⟨#[111,110]⟩,.string ⟨#[105,102]⟩] 9)).trans (c9.mono (by simp))))
 have T3:=hb10.trans (b8.mono hb10.size);have t9:=Q.trans (b5.mono Q.size);have T2:=(t9.alloc t9.size (.cells #[.bool y,.slice j f.length m] 130)).trans (T3.mono (by have:=t9.size;simp at this |-;omega));have t7:=P.trans (b4.mono P.size);have T1:=(t7.alloc t7.size (.cells #[.bool t,.slice i c.length l] 130)).trans (T2.mono (by have:=t7.size;simp at this |-;omega));have t5:=R.trans (b0.mono R.size);have T0:=(t5.alloc t5.size (.cells #[.bool s,.slice g b.length k] 130)).trans (T1.mono (by have:=t5.size;simp at this |-;omega));have k1:=ym T1;have k2:=ym T2;have k3:=ym T3;have a1:=(za k1 0).1;have i9:=(za k1 1).1;have a2:=(za k2 0).1;have j0:=(za k2 1).1;have a3:=(za k3 0).1;have j1:=(za k3 1).1;simp at a1 i9 a2 j0 a3 j1;have o1:zx a w4.heap.size (.slice g b.length k) b:=zx.below (zx.below C (nB w5 (.cells #[.bool s,.slice g b.length k] 130))) T1;have o2:zx a w6.heap.size (.slice i c.length l) c:=zx.below (zx.below D (nB w7 (.cells #[.bool t,.slice i c.length l] 130))) T2;have o3:zx a w8.heap.size (.slice j f.length m) f:=zx.below (zx.below E (nB w9 (.cells #[.bool y,.slice j f.length m] 130))) T3;have N:Below w.heap.size w a:=G.trans (b8.mono G.size);have z4:w.heap.size<w4.heap.size:=by have h1:=R.size;simp at h1;omega
 have z6:w.heap.size<w6.heap.size:=by have h1:=T0.size;have h2:=b0.size;have h3:=P.size;simp at h3;omega
 have z8:w.heap.size<w8.heap.size:=by have h2:=b4.size;have h3:=Q.size;simp at h3;omega
 have j8:w.heap.size<d2.heap.size:=by have h2:=b5.size;have h3:=hb10.size;simp at h3;omega
 have bA:Below w.heap.size w ((a.alloc (.cells #[.string ES,.bool s,.slice g b.length k,.bool t,.slice i c.length l,.bool y,.slice j f.length m,.slice n cs.length o] 133)).alloc (.cells #[L,u1,u2,u3,M] 74)):=(N.alloc N.size _).alloc (by have:=N.size;simp;omega) _;have aA:=(T0.alloc T0.size (.cells #[.string ES,.bool s,.slice g b.length k,.bool t,.slice i c.length l,.bool y,.slice j f.length m,.slice n cs.length o] 133)).alloc (by have:=T0.size;simp at this |-;omega) (.cells #[L,u1,u2,u3,M] 74);have e2:((a.alloc (.cells #[.string ES,.bool s,.slice g b.length k,.bool t,.slice i c.length l,.bool y,.slice j f.length m,.slice n cs.length o] 133)).alloc (.cells #[L,u1,u2,u3,M] 74)).heap[a.heap.size]?=some (.cells #[.string ES,.bool s,.slice g b.length k,.bool t,.slice i c.length l,.bool y,.slice j f.length m,.slice n cs.length o] 133):=(kC a (.cells #[.string ES,.bool s,.slice g b.length k,.bool t,.slice i c.length l,.bool y,.slice j f.length m,.slice n cs.length o] 133) (.cells #[L,u1,u2,u3,M] 74)).1;have e3:((a.alloc (.cells #[.string ES,.bool s,.slice g b.length k,.bool t,.slice i c.length l,.bool y,.slice j f.length m,.slice n cs.length o] 133)).alloc (.cells #[L,u1,u2,u3,M] 74)).heap[a.heap.size+1]?=some (.cells #[L,u1,u2,u3,M] 74):=(kC a (.cells #[.string ES,.bool s,.slice g b.length k,.bool t,.slice i c.length l,.bool y,.slice j f.length m,.slice n cs.length o] 133) (.cells #[L,u1,u2,u3,M] 74)).2
 have d9:∀W:World,Below w.heap.size w W->W.heap[a.heap.size+1]?=some (.cells #[L,u1,u2,u3,M] 74)->Calls prog 102 #[.slice (some ⟨a.heap.size+1,0,none⟩) 5 5] W λe w'=>∃u,e = .returned u/\FV (Rd.zW [EC,c1,c2,c3,cf]) u/\Below W.heap.size W w':=λW hW hg=>
  Yb [EC,c1,c2,c3,cf] [L,u1,u2,u3,M] _ 5 W (b6 W hW) (by simp) (Ei hg) (Fb e8 e5 e6 e7 e9)
 have q0:=e8.cells;have q1:=e5.cells;have q2:=e6.cells;have q3:=e7.cells;have q4:=e9.cells;have r:=hid (And.intro o1 (And.intro o2 (And.intro o3 F)));clear cR a7 cE a4 a5 a6 a8 z A B cF b6 o1 o2 o3 F C D E k1 k2 k3 T1 T2 T3 t5 t7 t9 T0 c9 O d0 d1 b0 P b4 Q b5 hb10 c0 c4 c5 R T U X Y c6 H Z c7 I a0 c8 J G
 go_upto_region 10 with fail
 go_region_with (go_at_call 102;refine (d9 _ (by first|exact bA|exact bA.drew|exact bA.drew.drew) (by first|exact e3)).mono ?_;rintro e h5 ⟨uR,rfl,f8,K⟩;have p:Below ((a.alloc (.cells #[.string ES,.bool s,.slice g b.length k,.bool t,.slice i c.length l,.bool y,.slice j f.length m,.slice n cs.length o] 133)).alloc (.cells #[L,u1,u2,u3,M] 74)).heap.size ((a.alloc (.cells #[.string ES,.bool s,.slice g b.length k,.bool t,.slice i c.length l,.bool y,.slice j f.length m,.slice n cs.length o] 133)).alloc (.cells #[L,u1,u2,u3,M] 74)) h5:=(by first|exact K|exact QC K|exact QC (QC K));have q:=ym (aA.trans (p.mono aA.size));have r0:=(za q 0).1;have r1:=(za q 1).1;have r2:=(za q 2).1;have r3:=(za q 3).1;have r4:=(za q 4).1;have r5:=(za q 5).1;have r6:=(za q 6).1;have r7:=(za q 7).1;have f0:=(za q 0).2;have f1:=(za q 1).2;have f2:=(za q 2).2;have f3:=(za q 3).2;have f4:=(za q 4).2;have f5:=(za q 5).2;have f6:=(za q 6).2;have f7:=(za q 7).2;simp at r0 r1 r2 r3 r4 r5 r6 r7;have S:=(p.block a.heap.size (by simp;omega)).trans e2;have g0:=(za S 0).1;have g1:=(za S 1).1;have g2:=(za S 2).1;have g3:=(za S 3).1;have g4:=(za S 4).1;have g5:=(za S 5).1;have g6:=(za S 6).1;have g7:=(za S 7).1;simp at g0 g1 g2 g3 g4 g5 g6 g7)
 all_goals
  have s8:=og q rfl (.string ES) (.bool s) (.slice g b.length k) (.bool t) (.slice i c.length l) (.bool y) (.slice j f.length m) (.slice n cs.length o);unfold uD uC at s8;simp only[Nat.zero_add] at s8;obtain⟨s0,s1,s2,s3,s4,s5,s6,s7⟩:=s8;have BW:=hid (bA.trans (p.mono bA.size));have AB:Below a.heap.size a h5:=((nB a (.cells #[.string ES,.bool s,.slice g b.length k,.bool t,.slice i c.length l,.bool y,.slice j f.length m,.slice n cs.length o] 133)).alloc (by simp) (.cells #[L,u1,u2,u3,M] 74)).trans (p.mono (by simp;omega));have OW:=hid (And.intro (r.out.1.below AB) (And.intro (r.out.2.1.below AB) (And.intro (r.out.2.2.1.below AB) (r.out.2.2.2.below AB))));have i8:=hid f8;clear f8 K p q S r AB q0 q1 q2 q3 q4 d9 e3 e2 bA aA;go_wp2_with fail
  exact bodyPost_ret (v := .tuple #[.agg #[.string ES,.bool s,.slice g b.length k,.bool t,.slice i c.length l,.bool y,.slice j f.length m,.slice n cs.length o],uR]) (by simp[results,results53,go_sem,s0,s1,s2,s3,s4,s5,s6,s7]) rfl
   ⟨_,_,_,_,_,rfl,i8.out,nZ BW.out (Nat.le_refl _) _ _ _ _ _ _ _ _,(ak OW.out.1 z4 _ _ _ _ _ _ _ _).mono (by omega),(ak OW.out.2.1 z6 _ _ _ _ _ _ _ _).mono (by omega),(ak OW.out.2.2.1 z8 _ _ _ _ _ _ _ _).mono (by omega),(Od OW.out.2.2.2 j8 _ _ _ _ _ _ _ _).mono (by omega)⟩
theorem OI(x:Rd.V)(u:Value)(w:World)(c:qW w)(b:OAt w (some x) u)(a:Rd.Good 4000 x):Calls prog 53 #[u] w (YR w x):=by
 by_cases h:∃ms,x = .obj ms/\Rd.zM ms [Rd.zN,Rd.zT,Rd.bDo,Rd.bOn,Rd.bIf]=true
 ·obtain⟨ms,rfl,f⟩:=h;obtain⟨g,ao,cap,rfl,d⟩:=Yn b;exact OH ms g ao cap w ⟨c,d,a⟩ f
 ·refine OG x u w b a (λms e=>?_)
  cases hc:Rd.zM ms [Rd.zN,Rd.zT,Rd.bDo,Rd.bOn,Rd.bIf] with
  | false=>rfl
  | true=>exact absurd ⟨ms,e,hc⟩ h
end Go.Proofs.YtdakgnaojakldaaGreatDoor
