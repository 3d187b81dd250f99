/- P -/
import Derived.Test.YtagnlbgbnfnapaaGreatDoorZ16
open Go.Proofs.Tryz
set_option maxRecDepth 100000
set_option maxHeartbeats 2000000
namespace Go.Proofs.YtagnlbgbnfnapaaGreatDoor
open Go.RowKit
structure zT where
 eff:BA
 who:Bool×List BA
 act:Bool×List BA
 on:Bool×List BA
 ifs:List qF
def Va:zT:=⟨⟨#[]⟩,(false,[]),(false,[]),(false,[]),[]⟩
def yx:Rd.V->zT
 | .obj ms=>if Rd.qh ms [Rd.ql,Rd.qz,Rd.bDo,Rd.bOn,Rd.bIf] then ⟨Rd.qZ Rd.yG (Rd.zl ms Rd.ql),chS (Rd.zl ms Rd.qz),chS (Rd.zl ms Rd.bDo),chS (Rd.zl ms Rd.bOn),XN (Rd.zl ms Rd.bIf)⟩ else Va
 | _=>Va
def VD(w:World)(v:Rd.V)(e:Ending)(a:World):Prop:=
 ∃b c d f u,e = .returned (.tuple #[.agg #[.string (yx v).eff,.bool (yx v).who.1,b,.bool (yx v).act.1,c,.bool (yx v).on.1,d,f],u])/\FV (Rd.xM v) u/\Below w.heap.size w a /\
  zZ a w.heap.size b (yx v).who.2/\zZ a w.heap.size c (yx v).act.2/\zZ a w.heap.size d (yx v).on.2/\xJ a w.heap.size f (yx v).ifs
def Zr:Obj := .cells #[.string ⟨#[]⟩,.bool false,.slice none 0 0,.bool false,.slice none 0 0,.bool false,.slice none 0 0,.slice none 0 0] 137
def Xi:Obj := .cells #[.string Rd.ql,.string Rd.qz,.string Rd.bDo,.string Rd.bOn,.string Rd.bIf] 9
theorem tJ(w:World)(a b c d f:BA)(t:TypeId):kI (w.alloc (.cells #[.string a,.string b,.string c,.string d,.string f] t)) (some ⟨w.heap.size,0,none⟩) [a,b,c,d,f]:=by
 have h:=zL w (.cells #[.string a,.string b,.string c,.string d,.string f] t);refine .inr ⟨w.heap.size,0,rfl,λj e=>?_⟩;simp only[uU,QW] at e;rw[qM,(zf h j).1]
 have:j=0\/j=1\/j=2\/j=3\/j=4:=by omega
 rcases this with rfl|rfl|rfl|rfl|rfl<;>rfl
def ZH(w:World)(b o:Nat)(a c d e:Value):World:=(((w.setCell ⟨b,o,none⟩ a).setCell ⟨b,o+1,none⟩ c).setCell ⟨b,o+2,none⟩ d).setCell ⟨b,o+3,none⟩ e
theorem Au(w:World)(b o:Nat)(a c d e:Value)(q:Nat)(h:q<o\/o+4<=q):(ZH w b o a c d e).cell? ⟨b,q,none⟩=w.cell? ⟨b,q,none⟩:=by
 unfold ZH;rw[xW _ _ _ _ (by simp only[ne_eq,Addr.mk.injEq];omega),xW _ _ _ _ (by simp only[ne_eq,Addr.mk.injEq];omega),xW _ _ _ _ (by simp only[ne_eq,Addr.mk.injEq];omega),xW _ _ _ _ (by simp only[ne_eq,Addr.mk.injEq];omega)]
theorem Ar{w:World}{b o:Nat}{p q r s:Value}(c d e f:Value)(k:w.cell? ⟨b,o,none⟩=some p)(l:w.cell? ⟨b,o+1,none⟩=some q)(m:w.cell? ⟨b,o+2,none⟩=some r)(n:w.cell? ⟨b,o+3,none⟩=some s) :
  (ZH w b o c d e f).cell? ⟨b,o,none⟩=some c/\(ZH w b o c d e f).cell? ⟨b,o+1,none⟩=some d/\(ZH w b o c d e f).cell? ⟨b,o+2,none⟩=some e/\(ZH w b o c d e f).cell? ⟨b,o+3,none⟩=some f:=by
 unfold ZH;have ne:∀i j:Nat,i≠j->∀(W:World) (x:Value),(W.setCell ⟨b,o+i,none⟩ x).cell? ⟨b,o+j,none⟩=W.cell? ⟨b,o+j,none⟩:=λi j a W x=>xW _ _ _ _ (by simp only[ne_eq,Addr.mk.injEq];omega);have h:∀j:Nat,0≠j->∀(W:World) (x:Value),(W.setCell ⟨b,o,none⟩ x).cell? ⟨b,o+j,none⟩=W.cell? ⟨b,o+j,none⟩:=λj a W x=>xW _ _ _ _ (by simp only[ne_eq,Addr.mk.injEq];omega);have g:∀i:Nat,i≠0->∀(W:World) (x:Value),(W.setCell ⟨b,o+i,none⟩ x).cell? ⟨b,o,none⟩=W.cell? ⟨b,o,none⟩:=λi a W x=>xW _ _ _ _ (by simp only[ne_eq,Addr.mk.injEq];omega);refine⟨?_,?_,?_,?_⟩
 ·rw[g 3 (by omega),g 2 (by omega),g 1 (by omega)];exact Zx _ _ _ k
 ·rw[ne 3 1 (by omega),ne 2 1 (by omega)];exact Zx _ _ _ ((h 1 (by omega) _ _).trans l)
 ·rw[ne 3 2 (by omega)];exact Zx _ _ _ ((ne 1 2 (by omega) _ _).trans ((h 2 (by omega) _ _).trans m))
 ·exact Zx _ _ _ ((ne 2 3 (by omega) _ _).trans ((ne 1 3 (by omega) _ _).trans ((h 3 (by omega) _ _).trans n)))
def ZI(w:World)(b:Nat)(a c d e f g h i:Value):World:=ZH (ZH w b 0 a c d e) b 4 f g h i
theorem Aw{w:World}{b:Nat}{cs:Array Value}{t:TypeId}(h:w.heap[b]?=some (.cells cs t (0,0)))(K:cs.size=8)(a c d g i k l m:Value) :
  (ZI w b a c d g i k l m).cell? ⟨b,0,none⟩=some a/\(ZI w b a c d g i k l m).cell? ⟨b,1,none⟩=some c/\(ZI w b a c d g i k l m).cell? ⟨b,2,none⟩=some d/\(ZI w b a c d g i k l m).cell? ⟨b,3,none⟩=some g /\
  (ZI w b a c d g i k l m).cell? ⟨b,4,none⟩=some i/\(ZI w b a c d g i k l m).cell? ⟨b,5,none⟩=some k/\(ZI w b a c d g i k l m).cell? ⟨b,6,none⟩=some l/\(ZI w b a c d g i k l m).cell? ⟨b,7,none⟩=some m:=by
 have n:∀j,j<8->∃o,w.cell? ⟨b,j,none⟩=some o:=λj J=>⟨cs[j]'(by omega),by rw[(zf h j).1];exact Array.getElem?_eq_getElem (by omega)⟩;obtain⟨L,B⟩:=n 0 (by omega);obtain⟨M,C⟩:=n 1 (by omega);obtain⟨N,D⟩:=n 2 (by omega);obtain⟨O,E⟩:=n 3 (by omega);obtain⟨P,F⟩:=n 4 (by omega);obtain⟨Q,G⟩:=n 5 (by omega);obtain⟨R,H⟩:=n 6 (by omega);obtain⟨S,I⟩:=n 7 (by omega);obtain⟨r,s,u,v⟩:=Ar (o:=0) a c d g B C D E;have e:=λq p=>Au w b 0 a c d g q p;obtain⟨x,y,z,A⟩:=Ar (w:=ZH w b 0 a c d g) (o:=4) i k l m ((e 4 (by omega)).trans F) ((e 5 (by omega)).trans G) ((e 6 (by omega)).trans H) ((e 7 (by omega)).trans I);have f:=λq p=>Au (ZH w b 0 a c d g) b 4 i k l m q p;exact⟨(f 0 (by omega)).trans r,(f 1 (by omega)).trans s,(f 2 (by omega)).trans u,(f 3 (by omega)).trans v,x,y,z,A⟩
theorem Av{a w:World}{B b:Nat}(h:Below B a w)(hb:B<=b)(c d e f g i j k:Value):Below B a (ZI w b c d e f g i j k):=
 (((((((h.setCell hb _).setCell hb _).setCell hb _).setCell hb _).setCell hb _).setCell hb _).setCell hb _).setCell hb _
theorem gP{w:World}{base:Nat}{a:Value}{c:List BA}(h:zZ w base a c){b:Nat}(hb:b<base)(d e f g i j k l:Value):zZ (ZI w b d e f g i j k l) base a c:=
 qb (qb (qb (qb (qb (qb (qb (qb h hb _ _) hb _ _) hb _ _) hb _ _) hb _ _) hb _ _) hb _ _) hb _ _
theorem Rx{w:World}{base:Nat}{a:Value}{cs:List qF}(h:xJ w base a cs){b:Nat}(hb:b<base)(c d e f g i j k:Value):xJ (ZI w b c d e f g i j k) base a cs:=
 (((((((h.set hb _ _).set hb _ _).set hb _ _).set hb _ _).set hb _ _).set hb _ _).set hb _ _).set hb _ _
theorem zZ.nil(w:World)(base:Nat):zZ w base (.slice none 0 0) []:=jR _ _ _ _
theorem Sc(x:Rd.V)(u:Value)(w:World)(i:OAt w (some x) u)(o:Rd.Good 4000 x)(c:∀ms,x = .obj ms->Rd.qh ms [Rd.ql,Rd.qz,Rd.bDo,Rd.bOn,Rd.bIf]=false) :
  Calls prog 55 #[u] w (VD w x):=by
 have q:yx x=Va:=by
  match x with
  | .str s=>rfl
  | .word b=>rfl
  | .list P=>rfl
  | .obj ms=>simp only[yx];rw[c ms rfl];rfl
 have n:Rd.xM x=1:=by
  match x with
  | .str s=>rfl
  | .word b=>rfl
  | .list P=>rfl
  | .obj ms=>simp only[Rd.xM];rw[c ms rfl];rfl
 unfold VD;rw[q,n];have f:=nB w Zr;have d:=f.alloc (by simp) Xi
 have m:Calls prog 96 #[u,.slice (some ⟨w.heap.size+1,0,none⟩) 5 5] ((w.alloc Zr).alloc Xi) (Uv ((w.alloc Zr).alloc Xi)):=by
  by_cases h:∃ms,x = .obj ms
  ·obtain⟨ms,rfl⟩:=h;obtain⟨O,ao,cap,rfl,t⟩:=Vb i;have k:ms.length<=4000:=by cases o with|obj _ h=>exact h
   have r:=tJ (w.alloc Zr) Rd.ql Rd.qz Rd.bDo Rd.bOn Rd.bIf 9;rw[JG] at r
   have:=Ud ms O ao cap [Rd.ql,Rd.qz,Rd.bDo,Rd.bOn,Rd.bIf] (some ⟨w.heap.size+1,0,none⟩) 5 ((w.alloc Zr).alloc Xi) (by simp) k r (t.below d) false (c ms rfl)
   simpa using this
  ·exact AQ (some x) u 5 _ 5 _ (i.below d) (λms e=>h ⟨ms,by simpa using e⟩)
 obtain⟨T,y,rfl⟩:=ValAt.iface (show ValAt w (λb=>b<w.heap.size) x u from i)
 clear i o c q n;unfold Xi Zr Rd.ql Rd.qz Rd.bDo Rd.bOn Rd.bIf at m;unfold Zr at f;unfold Xi Zr Rd.ql Rd.qz Rd.bDo Rd.bOn Rd.bIf at d;go_enter func55,ntmps55
 go_wp2_with (go_at_call 96;refine m.mono ?_;rintro e Q ⟨p,rfl,g⟩;have j:Below w.heap.size w Q:=d.trans (g.mono (by simp;omega));have a:=ja (((zi _ (w.alloc (.cells #[.string ⟨#[]⟩,.bool false,.slice none 0 0,.bool false,.slice none 0 0,.bool false,.slice none 0 0,.slice none 0 0] 137))).alloc (ze _) _).trans (g.mono (by simp)));have r0:=(zf a 0).1;have z:=(zf a 1).1;have A:=(zf a 2).1;have B:=(zf a 3).1;have C:=(zf a 4).1;have D:=(zf a 5).1;have E:=(zf a 6).1;have F:=(zf a 7).1;have R:=(zf a 0).2;have f1:=(zf a 1).2;have f2:=(zf a 2).2;have S:=(zf a 3).2;have U:=(zf a 4).2;have W:=(zf a 5).2;have X:=(zf a 6).2;have Y:=(zf a 7).2;simp at r0 z A B C D E F;have l:=Aw a rfl (.string ⟨#[]⟩) (.bool false) (.slice none 0 0) (.bool false) (.slice none 0 0) (.bool false) (.slice none 0 0) (.slice none 0 0);unfold ZI ZH at l;simp only[qM] at l;obtain⟨G,H,I,J,K,L,M,N⟩:=l)
 exact qa (v := .tuple #[.agg #[.string ⟨#[]⟩,.bool false,.slice none 0 0,.bool false,.slice none 0 0,.bool false,.slice none 0 0,.slice none 0 0],.iface 129 (.agg #[.string p])]) (by simp[results,results55,go_sem,G,H,I,J,K,L,M,N]) rfl
  ⟨_,_,_,_,_,rfl,.inr (.inl ⟨rfl,_,rfl⟩),Av j (ze _) _ _ _ _ _ _ _ _,zZ.nil _ _,zZ.nil _ _,zZ.nil _ _,xJ.nil _ _⟩
theorem yN.eff{w:World}{ms:List (BA×Rd.V)}{a:List (BA×Value)}{ao:Option Addr}{cap:Nat}(h:yN w ms a ao cap) :
  Calls prog 97 #[xA a Rd.ql,.func (.func 98) #[] #[]] w (YT w (Rd.qZ Rd.yG (Rd.zl ms Rd.ql)) (Rd.qf Rd.yG (Rd.zl ms Rd.ql))):=
 gU _ _ _ _ _ 4000 w (qx func98 (by kernel_rfl) rfl) (h.obj.get Rd.ql) (λs b=>by have:=Rd.yt h.good Rd.ql _ b;cases this with|str _ h=>exact h) (λW s _ _=>MG s W)
theorem yN.choice{w:World}{ms:List (BA×Rd.V)}{a:List (BA×Value)}{ao:Option Addr}{cap:Nat}(h:yN w ms a ao cap)(nm:BA) :
  Calls prog 99 #[xA a nm] w (YM w (Rd.zl ms nm)):=RL _ _ w h.env.d (h.obj.get nm) (λv b=>Rd.yt h.good nm v b)
theorem yN.conds{w:World}{ms:List (BA×Rd.V)}{a:List (BA×Value)}{ao:Option Addr}{cap:Nat}(h:yN w ms a ao cap)(nm:BA) :
  Calls prog 100 #[xA a nm] w (Vv w (Rd.zl ms nm)):=RS _ _ w h.env (h.obj.get nm) (λv b=>Rd.yt h.good nm v b)
theorem Lm{a b c d f:Nat}{u v x y z:Value}(g:FV a u)(h:FV b v)(i:FV c x)(k:FV d y)(l:FV f z):FVs [a,b,c,d,f] [u,v,x,y,z]:=by
 refine⟨rfl,λj d y hd e=>?_⟩
 match j with
 | 0=>simp at hd e;subst hd;subst e;exact g
 | 1=>simp at hd e;subst hd;subst e;exact h
 | 2=>simp at hd e;subst hd;subst e;exact i
 | 3=>simp at hd e;subst hd;subst e;exact k
 | 4=>simp at hd e;subst hd;subst e;exact l
 | j+5=>simp at hd
theorem Il{W:World}{b:Nat}{u v x y z:Value}{t:TypeId}(h:W.heap[b]?=some (.cells #[u,v,x,y,z] t (0,0))):jF W (some ⟨b,0,none⟩) [u,v,x,y,z]:=by
 refine .inr ⟨b,0,rfl,λj a=>?_⟩;simp only[uU,QW] at a;rw[qM,(zf h j).1]
 have:j=0\/j=1\/j=2\/j=3\/j=4:=by omega
 rcases this with rfl|rfl|rfl|rfl|rfl<;>rfl
theorem zZ.below{w c:World}{base:Nat}{a:Value}{b:List BA}(h:zZ w base a b)(hb:Below w.heap.size w c):zZ c base a b:=ownsRow_below h hb
theorem zZ.mono{w:World}{base a:Nat}{b:Value}{c:List BA}(h:zZ w base b c)(hb:a<=base):zZ w a b c:=kG h hb
theorem Sd(ms:List (BA×Rd.V))(us:List (BA×Value))(ao:Option Addr)(cap:Nat)(w:World)(hI:yN w ms us ao cap)(ho:Rd.qh ms [Rd.ql,Rd.qz,Rd.bDo,Rd.bOn,Rd.bIf]=true) :
  Calls prog 55 #[.iface 122 (.slice ao us.length cap)] w (VD w (.obj ms)):=by
 have hC:Rd.xM (.obj ms)=Rd.qA [Rd.qf Rd.yG (Rd.zl ms Rd.ql),Rd.chC (Rd.zl ms Rd.qz),Rd.chC (Rd.zl ms Rd.bDo),Rd.chC (Rd.zl ms Rd.bOn),Rd.jD (Rd.zl ms Rd.bIf)]:=by simp only[Rd.xM];rw[ho];rfl
 have hS:yx (.obj ms)=⟨Rd.qZ Rd.yG (Rd.zl ms Rd.ql),chS (Rd.zl ms Rd.qz),chS (Rd.zl ms Rd.bDo),chS (Rd.zl ms Rd.bOn),XN (Rd.zl ms Rd.bIf)⟩:=by simp only[yx];rw[ho];rfl
 have e4:=nB w Zr;have a9:=e4.alloc (by simp) Xi;have hr:=tJ (w.alloc Zr) Rd.ql Rd.qz Rd.bDo Rd.bOn Rd.bIf 9;rw[JG] at hr;have cR:=Ud ms us ao cap [Rd.ql,Rd.qz,Rd.bDo,Rd.bOn,Rd.bIf] (some ⟨w.heap.size+1,0,none⟩) 5 ((w.alloc Zr).alloc Xi) (by simp) hI.len hr (hI.obj.below a9) true ho;simp only[qO,uU,QW] at cR;have cG:=λW nm (h:Below w.heap.size w W)=>(hI.below h).get nm;have cE:=λW (h:Below w.heap.size w W)=>(hI.below h).eff;have cH:=λW nm (h:Below w.heap.size w W)=>(hI.below h).choice nm;have cF:=λW (h:Below w.heap.size w W)=>(hI.below h).conds Rd.bIf;have b6:=λW (h:Below w.heap.size w W)=>(hI.below h).env.d.err;unfold VD;rw[hC,hS];obtain⟨vE,h0⟩:∃x,xA us Rd.ql=x:=⟨_,rfl⟩;obtain⟨v1,f9⟩:∃x,xA us Rd.qz=x:=⟨_,rfl⟩;obtain⟨v2,g8⟩:∃x,xA us Rd.bDo=x:=⟨_,rfl⟩;obtain⟨v3,g9⟩:∃x,xA us Rd.bOn=x:=⟨_,rfl⟩;obtain⟨vF,h4⟩:∃x,xA us Rd.bIf=x:=⟨_,rfl⟩;have a7:=λW h=>cG W Rd.ql h;have a4:=λW h=>cG W Rd.qz h;have a5:=λW h=>cG W Rd.bDo h;have a6:=λW h=>cG W Rd.bOn h;have a8:=λW h=>cG W Rd.bIf h;have z:=λW h=>cH W Rd.qz h;have A:=λW h=>cH W Rd.bDo h;have B:=λW h=>cH W Rd.bOn h;unfold YM at z A B;unfold Vv at cF;simp only[h0] at a7 cE;simp only[f9] at a4 z;simp only[g8] at a5 A;simp only[g9] at a6 B;simp only[h4] at a8 cF;generalize Rd.qZ Rd.yG (Rd.zl ms Rd.ql)=ES at cE |-;generalize Rd.qf Rd.yG (Rd.zl ms Rd.ql)=EC at cE |-;generalize chS (Rd.zl ms Rd.qz)=p1 at z |-;generalize Rd.chC (Rd.zl ms Rd.qz)=c1 at z |-;generalize chS (Rd.zl ms Rd.bDo)=p2 at A |-;generalize Rd.chC (Rd.zl ms Rd.bDo)=c2 at A |-;generalize chS (Rd.zl ms Rd.bOn)=p3 at B |-;generalize Rd.chC (Rd.zl ms Rd.bOn)=c3 at B |-;generalize XN (Rd.zl ms Rd.bIf)=cs at cF |-;generalize Rd.jD (Rd.zl ms Rd.bIf)=cf at cF |-;obtain⟨s,b⟩:=p1;obtain⟨t,c⟩:=p2;obtain⟨y,f⟩:=p3;simp only at z A B |-;clear hI ho hS hC h0 f9 g8 g9 h4 cG hr cH;unfold Xi Zr at cR;unfold Zr at e4;unfold Xi Zr at a9;unfold Rd.ql Rd.qz Rd.bDo Rd.bOn Rd.bIf at cR a9;unfold Rd.ql at a7;unfold Rd.qz at a4;unfold Rd.bDo at a5;unfold Rd.bOn at a6;unfold Rd.bIf at a8;go_enter func55,ntmps55
 go_upto_region 9 with (first
  | (go_at_call 100;refine (cF d2 G).mono ?_;rintro e a ⟨m8,M,rfl,e9,b8,F⟩;obtain⟨n,o,rfl⟩:=F.slice)
  | (go_at_call 53;refine (a8 _ J).mono ?_;rintro e d2 ⟨rfl,hb10⟩;have G:Below w.heap.size w d2:=J.trans (hb10.mono J.size))
  | (go_at_call 99;refine (B w8 a0).mono ?_;rintro e w9 ⟨m7,u3,rfl,e7,b5,E⟩;obtain⟨j,m,rfl⟩:=jV E;have c8:=a0.trans (b5.mono a0.size);have J:=c8.alloc c8.size (.cells #[.bool y,.slice j f.length m] 134))
  | (go_at_call 53;refine (a6 _ I).mono ?_;rintro e w8 ⟨rfl,Q⟩;have a0:Below w.heap.size w w8:=I.trans (Q.mono I.size))
  | (go_at_call 99;refine (A w6 Z).mono ?_;rintro e w7 ⟨m6,u2,rfl,e6,b4,D⟩;obtain⟨i,l,rfl⟩:=jV D;have c7:=Z.trans (b4.mono Z.size);have I:=c7.alloc c7.size (.cells #[.bool t,.slice i c.length l] 134))
  | (go_at_call 53;refine (a5 _ H).mono ?_;rintro e w6 ⟨rfl,P⟩;have Z:Below w.heap.size w w6:=H.trans (P.mono H.size))
  | (go_at_call 99;refine (z w4 Y).mono ?_;rintro e w5 ⟨m5,u1,rfl,e5,b0,C⟩;obtain⟨g,k,rfl⟩:=jV C;have c6:=Y.trans (b0.mono Y.size);have H:=c6.alloc c6.size (.cells #[.bool s,.slice g b.length k] 134))
  | (go_at_call 53;refine (a4 w3 X).mono ?_;rintro e w4 ⟨rfl,d1⟩;have Y:Below w.heap.size w w4:=X.trans (d1.mono X.size);have R:=c5.trans (d1.mono c5.size))
  | (go_at_call 97;refine (cE w2 U).mono ?_;rintro e w3 ⟨L,rfl,e8,d0⟩;have X:Below w.heap.size w w3:=U.trans (d0.mono U.size);have c5:=c4.trans (d0.mono c4.size))
  | (go_at_call 53;refine (a7 w1 T).mono ?_;rintro e w2 ⟨rfl,O⟩;have U:Below w.heap.size w w2:=T.trans (O.mono T.size);have c4:=c0.trans (O.mono c0.size))
  | (go_at_call 96;refine cR.mono ?_;rintro e w1 ⟨rfl,c9⟩;have T:Below w.heap.size w w1:=a9.trans (c9.mono (by simp;omega));have c0:=((zi _ (w.alloc (.cells #[.string ⟨#[]⟩,.bool false,.slice none 0 0,.bool false,.slice none 0 0,.bool false,.slice none 0 0,.slice none 0 0] 137))).alloc (ze _) (.cells #[.string ⟨#[101,102,102,101,99,116]⟩,.string ⟨#[119,104,111]⟩,.string ⟨#[100,111]⟩,.string ⟨#[111,110]⟩,.string ⟨#[105,102]⟩] 9)).trans (c9.mono (by simp))))
 have T3:=hb10.trans (b8.mono hb10.size);have t9:=Q.trans (b5.mono Q.size);have T2:=(t9.alloc t9.size (.cells #[.bool y,.slice j f.length m] 134)).trans (T3.mono (by have:=t9.size;simp at this |-;omega));have t7:=P.trans (b4.mono P.size);have T1:=(t7.alloc t7.size (.cells #[.bool t,.slice i c.length l] 134)).trans (T2.mono (by have:=t7.size;simp at this |-;omega));have t5:=R.trans (b0.mono R.size);have T0:=(t5.alloc t5.size (.cells #[.bool s,.slice g b.length k] 134)).trans (T1.mono (by have:=t5.size;simp at this |-;omega));have k1:=ja T1;have k2:=ja T2;have k3:=ja T3;have a1:=(zf k1 0).1;have i9:=(zf k1 1).1;have a2:=(zf k2 0).1;have j0:=(zf k2 1).1;have a3:=(zf k3 0).1;have j1:=(zf k3 1).1;simp at a1 i9 a2 j0 a3 j1;have o1:zZ a w4.heap.size (.slice g b.length k) b:=zZ.below (zZ.below C (nB w5 (.cells #[.bool s,.slice g b.length k] 134))) T1;have o2:zZ a w6.heap.size (.slice i c.length l) c:=zZ.below (zZ.below D (nB w7 (.cells #[.bool t,.slice i c.length l] 134))) T2;have o3:zZ a w8.heap.size (.slice j f.length m) f:=zZ.below (zZ.below E (nB w9 (.cells #[.bool y,.slice j f.length m] 134))) T3;have N:Below w.heap.size w a:=G.trans (b8.mono G.size);have z4:w.heap.size<w4.heap.size:=by have h1:=R.size;simp at h1;omega
 have z6:w.heap.size<w6.heap.size:=by have h1:=T0.size;have h2:=b0.size;have h3:=P.size;simp at h3;omega
 have z8:w.heap.size<w8.heap.size:=by have h2:=b4.size;have h3:=Q.size;simp at h3;omega
 have j8:w.heap.size<d2.heap.size:=by have h2:=b5.size;have h3:=hb10.size;simp at h3;omega
 have bA:Below w.heap.size w ((a.alloc (.cells #[.string ES,.bool s,.slice g b.length k,.bool t,.slice i c.length l,.bool y,.slice j f.length m,.slice n cs.length o] 137)).alloc (.cells #[L,u1,u2,u3,M] 86)):=(N.alloc N.size _).alloc (by have:=N.size;simp;omega) _;have aA:=(T0.alloc T0.size (.cells #[.string ES,.bool s,.slice g b.length k,.bool t,.slice i c.length l,.bool y,.slice j f.length m,.slice n cs.length o] 137)).alloc (by have:=T0.size;simp at this |-;omega) (.cells #[L,u1,u2,u3,M] 86);have e2:((a.alloc (.cells #[.string ES,.bool s,.slice g b.length k,.bool t,.slice i c.length l,.bool y,.slice j f.length m,.slice n cs.length o] 137)).alloc (.cells #[L,u1,u2,u3,M] 86)).heap[a.heap.size]?=some (.cells #[.string ES,.bool s,.slice g b.length k,.bool t,.slice i c.length l,.bool y,.slice j f.length m,.slice n cs.length o] 137):=(X6 a (.cells #[.string ES,.bool s,.slice g b.length k,.bool t,.slice i c.length l,.bool y,.slice j f.length m,.slice n cs.length o] 137) (.cells #[L,u1,u2,u3,M] 86)).1;have e3:((a.alloc (.cells #[.string ES,.bool s,.slice g b.length k,.bool t,.slice i c.length l,.bool y,.slice j f.length m,.slice n cs.length o] 137)).alloc (.cells #[L,u1,u2,u3,M] 86)).heap[a.heap.size+1]?=some (.cells #[L,u1,u2,u3,M] 86):=(X6 a (.cells #[.string ES,.bool s,.slice g b.length k,.bool t,.slice i c.length l,.bool y,.slice j f.length m,.slice n cs.length o] 137) (.cells #[L,u1,u2,u3,M] 86)).2
 have d9:∀W:World,Below w.heap.size w W->W.heap[a.heap.size+1]?=some (.cells #[L,u1,u2,u3,M] 86)->Calls prog 101 #[.slice (some ⟨a.heap.size+1,0,none⟩) 5 5] W λe w'=>∃u,e = .returned u/\FV (Rd.qA [EC,c1,c2,c3,cf]) u/\Below W.heap.size W w':=λW hW hg=>
  JW [EC,c1,c2,c3,cf] [L,u1,u2,u3,M] _ 5 W (b6 W hW) (by simp) (Il hg) (Lm e8 e5 e6 e7 e9)
 have q0:=e8.cells;have q1:=e5.cells;have q2:=e6.cells;have q3:=e7.cells;have q4:=e9.cells;have r:=hid (vN o1 (vN o2 (vN o3 F)));clear cR a7 cE a4 a5 a6 a8 z A B cF b6 o1 o2 o3 F C D E k1 k2 k3 T1 T2 T3 t5 t7 t9 T0 c9 O d0 d1 b0 P b4 Q b5 hb10 c0 c4 c5 R T U X Y c6 H Z c7 I a0 c8 J G
 go_upto_region 10 with fail
 go_region_with (go_at_call 101;refine (d9 _ (by first|exact bA|exact bA.drew|exact bA.drew.drew) (by first|exact e3)).mono ?_;rintro e h5 ⟨uR,rfl,f8,K⟩;have p:Below ((a.alloc (.cells #[.string ES,.bool s,.slice g b.length k,.bool t,.slice i c.length l,.bool y,.slice j f.length m,.slice n cs.length o] 137)).alloc (.cells #[L,u1,u2,u3,M] 86)).heap.size ((a.alloc (.cells #[.string ES,.bool s,.slice g b.length k,.bool t,.slice i c.length l,.bool y,.slice j f.length m,.slice n cs.length o] 137)).alloc (.cells #[L,u1,u2,u3,M] 86)) h5:=(by first|exact K|exact Yh K|exact Yh (Yh K));have q:=ja (aA.trans (p.mono aA.size));have r0:=(zf q 0).1;have r1:=(zf q 1).1;have r2:=(zf q 2).1;have r3:=(zf q 3).1;have r4:=(zf q 4).1;have r5:=(zf q 5).1;have r6:=(zf q 6).1;have r7:=(zf q 7).1;have f0:=(zf q 0).2;have f1:=(zf q 1).2;have f2:=(zf q 2).2;have f3:=(zf q 3).2;have f4:=(zf q 4).2;have f5:=(zf q 5).2;have f6:=(zf q 6).2;have f7:=(zf q 7).2;simp at r0 r1 r2 r3 r4 r5 r6 r7;have S:=(p.block a.heap.size (by simp;omega)).trans e2;have g0:=(zf S 0).1;have g1:=(zf S 1).1;have g2:=(zf S 2).1;have g3:=(zf S 3).1;have g4:=(zf S 4).1;have g5:=(zf S 5).1;have g6:=(zf S 6).1;have g7:=(zf S 7).1;simp at g0 g1 g2 g3 g4 g5 g6 g7)
 all_goals
  have s8:=Aw q rfl (.string ES) (.bool s) (.slice g b.length k) (.bool t) (.slice i c.length l) (.bool y) (.slice j f.length m) (.slice n cs.length o);unfold ZI ZH at s8;simp only[qM] at s8;obtain⟨s0,s1,s2,s3,s4,s5,s6,s7⟩:=s8;have BW:=hid (bA.trans (p.mono bA.size));have AB:Below a.heap.size a h5:=((nB a (.cells #[.string ES,.bool s,.slice g b.length k,.bool t,.slice i c.length l,.bool y,.slice j f.length m,.slice n cs.length o] 137)).alloc (by simp) (.cells #[L,u1,u2,u3,M] 86)).trans (p.mono (by simp;omega));have OW:=hid (vN (r.out.1.below AB) (vN (r.out.2.1.below AB) (vN (r.out.2.2.1.below AB) (r.out.2.2.2.below AB))));have i8:=hid f8;clear f8 K p q S r AB q0 q1 q2 q3 q4 d9 e3 e2 bA aA;go_wp2_with fail
  exact qa (v := .tuple #[.agg #[.string ES,.bool s,.slice g b.length k,.bool t,.slice i c.length l,.bool y,.slice j f.length m,.slice n cs.length o],uR]) (by simp[results,results55,go_sem,s0,s1,s2,s3,s4,s5,s6,s7]) rfl
   ⟨_,_,_,_,_,rfl,i8.out,Av BW.out (ze _) _ _ _ _ _ _ _ _,(gP OW.out.1 z4 _ _ _ _ _ _ _ _).mono (by omega),(gP OW.out.2.1 z6 _ _ _ _ _ _ _ _).mono (by omega),(gP OW.out.2.2.1 z8 _ _ _ _ _ _ _ _).mono (by omega),(Rx OW.out.2.2.2 j8 _ _ _ _ _ _ _ _).mono (by omega)⟩
theorem Sg(x:Rd.V)(u:Value)(w:World)(c:xK w)(b:OAt w (some x) u)(a:Rd.Good 4000 x):Calls prog 55 #[u] w (VD w x):=by
 by_cases h:∃ms,x = .obj ms/\Rd.qh ms [Rd.ql,Rd.qz,Rd.bDo,Rd.bOn,Rd.bIf]=true
 ·obtain⟨ms,rfl,f⟩:=h;obtain⟨g,ao,cap,rfl,d⟩:=Vb b;exact Sd ms g ao cap w ⟨c,d,a⟩ f
 ·refine Sc x u w b a (λms e=>?_)
  cases hc:Rd.qh ms [Rd.ql,Rd.qz,Rd.bDo,Rd.bOn,Rd.bIf] with
  | false=>rfl
  | true=>exact absurd ⟨ms,e,hc⟩ h
end Go.Proofs.YtagnlbgbnfnapaaGreatDoor
