/- P -/
import Derived.Test.YtdakgnaojakldaaGreatDoorS17
open Go.Proofs.Tryz
set_option maxRecDepth 100000
set_option maxHeartbeats 2000000
namespace Go.Proofs.YtdakgnaojakldaaGreatDoor
open Go.RowKit
structure zz where
 eff:BY
 who:Bool×List BY
 act:Bool×List BY
 on:Bool×List BY
 ifs:List zQ
def Q5:zz:=⟨⟨#[]⟩,(false,[]),(false,[]),(false,[]),[]⟩
def qG:Rd.V->zz
 | .obj ms=>if Rd.zJ ms [Rd.zM,Rd.zU,Rd.bDo,Rd.bOn,Rd.bIf] then ⟨Rd.qd Rd.xu (Rd.zh ms Rd.zM),chS (Rd.zh ms Rd.zU),chS (Rd.zh ms Rd.bDo),chS (Rd.zh ms Rd.bOn),Zh (Rd.zh ms Rd.bIf)⟩ else Q5
 | _=>Q5
def Xv(w:World)(v:Rd.V)(e:Ending)(a:World):Prop:=
 ∃b c d f u,e = .returned (.tuple #[.agg #[.string (qG v).eff,.bool (qG v).who.1,b,.bool (qG v).act.1,c,.bool (qG v).on.1,d,f],u])/\FV (Rd.qB v) u/\Below w.heap.size w a /\
  zO a w.heap.size b (qG v).who.2/\zO a w.heap.size c (qG v).act.2/\zO a w.heap.size d (qG v).on.2/\qA a w.heap.size f (qG v).ifs
def jS:Obj := .cells #[.string ⟨#[]⟩,.bool false,.slice none 0 0,.bool false,.slice none 0 0,.bool false,.slice none 0 0,.slice none 0 0] 133
def kH:Obj := .cells #[.string Rd.zM,.string Rd.zU,.string Rd.bDo,.string Rd.bOn,.string Rd.bIf] 9
theorem cK(w:World)(a b c d f:BY)(t:TypeId):jB (w.alloc (.cells #[.string a,.string b,.string c,.string d,.string f] t)) (some ⟨w.heap.size,0,none⟩) [a,b,c,d,f]:=by
 have h:=heap_alloc_new w (.cells #[.string a,.string b,.string c,.string d,.string f] t);refine .inr ⟨w.heap.size,0,rfl,λj e=>?_⟩;simp only[List.length_cons,List.length_nil] at e;rw[Nat.zero_add,(ze h j).1]
 have:j=0\/j=1\/j=2\/j=3\/j=4:=by omega
 rcases this with rfl|rfl|rfl|rfl|rfl<;>rfl
def vw(w:World)(b o:Nat)(a c d e:Value):World:=(((w.setCell ⟨b,o,none⟩ a).setCell ⟨b,o+1,none⟩ c).setCell ⟨b,o+2,none⟩ d).setCell ⟨b,o+3,none⟩ e
theorem fe(w:World)(b o:Nat)(a c d e:Value)(q:Nat)(h:q<o\/o+4<=q):(vw w b o a c d e).cell? ⟨b,q,none⟩=w.cell? ⟨b,q,none⟩:=by
 unfold vw;rw[World.cell?_setCell_other _ _ _ _ (by simp only[ne_eq,Addr.mk.injEq];omega),World.cell?_setCell_other _ _ _ _ (by simp only[ne_eq,Addr.mk.injEq];omega),World.cell?_setCell_other _ _ _ _ (by simp only[ne_eq,Addr.mk.injEq];omega),World.cell?_setCell_other _ _ _ _ (by simp only[ne_eq,Addr.mk.injEq];omega)]
theorem eZ{w:World}{b o:Nat}{p q r s:Value}(c d e f:Value)(k:w.cell? ⟨b,o,none⟩=some p)(l:w.cell? ⟨b,o+1,none⟩=some q)(m:w.cell? ⟨b,o+2,none⟩=some r)(n:w.cell? ⟨b,o+3,none⟩=some s) :
  (vw w b o c d e f).cell? ⟨b,o,none⟩=some c/\(vw w b o c d e f).cell? ⟨b,o+1,none⟩=some d/\(vw w b o c d e f).cell? ⟨b,o+2,none⟩=some e/\(vw w b o c d e f).cell? ⟨b,o+3,none⟩=some f:=by
 unfold vw;have ne:∀i j:Nat,i≠j->∀(W:World) (x:Value),(W.setCell ⟨b,o+i,none⟩ x).cell? ⟨b,o+j,none⟩=W.cell? ⟨b,o+j,none⟩:=λi j a W x=>World.cell?_setCell_other _ _ _ _ (by simp only[ne_eq,Addr.mk.injEq];omega);have h:∀j:Nat,0≠j->∀(W:World) (x:Value),(W.setCell ⟨b,o,none⟩ x).cell? ⟨b,o+j,none⟩=W.cell? ⟨b,o+j,none⟩:=λj a W x=>World.cell?_setCell_other _ _ _ _ (by simp only[ne_eq,Addr.mk.injEq];omega);have g:∀i:Nat,i≠0->∀(W:World) (x:Value),(W.setCell ⟨b,o+i,none⟩ x).cell? ⟨b,o,none⟩=W.cell? ⟨b,o,none⟩:=λi a W x=>World.cell?_setCell_other _ _ _ _ (by simp only[ne_eq,Addr.mk.injEq];omega);refine⟨?_,?_,?_,?_⟩
 ·rw[g 3 (by omega),g 2 (by omega),g 1 (by omega)];exact World.cell?_setCell_same _ _ _ k
 ·rw[ne 3 1 (by omega),ne 2 1 (by omega)];exact World.cell?_setCell_same _ _ _ ((h 1 (by omega) _ _).trans l)
 ·rw[ne 3 2 (by omega)];exact World.cell?_setCell_same _ _ _ ((ne 1 2 (by omega) _ _).trans ((h 2 (by omega) _ _).trans m))
 ·exact World.cell?_setCell_same _ _ _ ((ne 2 3 (by omega) _ _).trans ((ne 1 3 (by omega) _ _).trans ((h 3 (by omega) _ _).trans n)))
def vz(w:World)(b:Nat)(a c d e f g h i:Value):World:=vw (vw w b 0 a c d e) b 4 f g h i
theorem fu{w:World}{b:Nat}{cs:Array Value}{t:TypeId}(h:w.heap[b]?=some (.cells cs t (0,0)))(J:cs.size=8)(a c d g i k l m:Value) :
  (vz w b a c d g i k l m).cell? ⟨b,0,none⟩=some a/\(vz w b a c d g i k l m).cell? ⟨b,1,none⟩=some c/\(vz w b a c d g i k l m).cell? ⟨b,2,none⟩=some d/\(vz w b a c d g i k l m).cell? ⟨b,3,none⟩=some g /\
  (vz w b a c d g i k l m).cell? ⟨b,4,none⟩=some i/\(vz w b a c d g i k l m).cell? ⟨b,5,none⟩=some k/\(vz w b a c d g i k l m).cell? ⟨b,6,none⟩=some l/\(vz w b a c d g i k l m).cell? ⟨b,7,none⟩=some m:=by
 have n:∀j,j<8->∃o,w.cell? ⟨b,j,none⟩=some o:=λj I=>⟨cs[j]'(by omega),by rw[(ze h j).1];exact Array.getElem?_eq_getElem (by omega)⟩;obtain⟨K,A⟩:=n 0 (by omega);obtain⟨L,B⟩:=n 1 (by omega);obtain⟨M,C⟩:=n 2 (by omega);obtain⟨N,D⟩:=n 3 (by omega);obtain⟨O,E⟩:=n 4 (by omega);obtain⟨P,F⟩:=n 5 (by omega);obtain⟨Q,G⟩:=n 6 (by omega);obtain⟨R,H⟩:=n 7 (by omega);obtain⟨r,s,u,v⟩:=eZ (o:=0) a c d g A B C D;have e:=λq p=>fe w b 0 a c d g q p;obtain⟨b0,x,y,z⟩:=eZ (w:=vw w b 0 a c d g) (o:=4) i k l m ((e 4 (by omega)).trans E) ((e 5 (by omega)).trans F) ((e 6 (by omega)).trans G) ((e 7 (by omega)).trans H);have f:=λq p=>fe (vw w b 0 a c d g) b 4 i k l m q p;exact⟨(f 0 (by omega)).trans r,(f 1 (by omega)).trans s,(f 2 (by omega)).trans u,(f 3 (by omega)).trans v,b0,x,y,z⟩
theorem fq{a w:World}{B b:Nat}(h:Below B a w)(hb:B<=b)(c d e f g i j k:Value):Below B a (vz w b c d e f g i j k):=
 (((((((h.setCell hb _).setCell hb _).setCell hb _).setCell hb _).setCell hb _).setCell hb _).setCell hb _).setCell hb _
theorem VV{w:World}{base:Nat}{a:Value}{c:List BY}(h:zO w base a c){b:Nat}(hb:b<base)(d e f g i j k l:Value):zO (vz w b d e f g i j k l) base a c:=
 zF (zF (zF (zF (zF (zF (zF (zF h hb _ _) hb _ _) hb _ _) hb _ _) hb _ _) hb _ _) hb _ _) hb _ _
theorem FJ{w:World}{base:Nat}{a:Value}{cs:List zQ}(h:qA w base a cs){b:Nat}(hb:b<base)(c d e f g i j k:Value):qA (vz w b c d e f g i j k) base a cs:=
 (((((((h.set hb _ _).set hb _ _).set hb _ _).set hb _ _).set hb _ _).set hb _ _).set hb _ _).set hb _ _
theorem zO.nil(w:World)(base:Nat):zO w base (.slice none 0 0) []:=World.ownsRow_nil _ _ _ _
theorem Ga(x:Rd.V)(u:Value)(w:World)(i:OAt w (some x) u)(o:Rd.Good 4000 x)(c:∀ms,x = .obj ms->Rd.zJ ms [Rd.zM,Rd.zU,Rd.bDo,Rd.bOn,Rd.bIf]=false) :
  Calls prog 53 #[u] w (Xv w x):=by
 have q:qG x=Q5:=by
  match x with
  | .str s=>rfl
  | .word b=>rfl
  | .list P=>rfl
  | .obj ms=>simp only[qG];rw[c ms rfl];rfl
 have n:Rd.qB x=1:=by
  match x with
  | .str s=>rfl
  | .word b=>rfl
  | .list P=>rfl
  | .obj ms=>simp only[Rd.qB];rw[c ms rfl];rfl
 unfold Xv;rw[q,n];have f:=nb w jS;have d:=f.alloc (by simp) kH
 have m:Calls prog 97 #[u,.slice (some ⟨w.heap.size+1,0,none⟩) 5 5] ((w.alloc jS).alloc kH) (Yn ((w.alloc jS).alloc kH)):=by
  by_cases h:∃ms,x = .obj ms
  ·obtain⟨ms,rfl⟩:=h;obtain⟨O,ao,cap,rfl,t⟩:=Q6 i;have k:ms.length<=4000:=by cases o with|obj _ h=>exact h
   have r:=cK (w.alloc jS) Rd.zM Rd.zU Rd.bDo Rd.bOn Rd.bIf 9;rw[World.size_alloc] at r
   have:=Yb ms O ao cap [Rd.zM,Rd.zU,Rd.bDo,Rd.bOn,Rd.bIf] (some ⟨w.heap.size+1,0,none⟩) 5 ((w.alloc jS).alloc kH) (by simp) k r (t.below d) false (c ms rfl)
   simpa using this
  ·exact fH (some x) u 5 _ 5 _ (i.below d) (λms e=>h ⟨ms,by simpa using e⟩)
 obtain⟨T,y,rfl⟩:=ValAt.iface (show ValAt w (λb=>b<w.heap.size) x u from i)
 clear i o c q n;unfold kH jS Rd.zM Rd.zU Rd.bDo Rd.bOn Rd.bIf at m;unfold jS at f;unfold kH jS Rd.zM Rd.zU Rd.bDo Rd.bOn Rd.bIf at d;go_enter func53,ntmps53
 go_wp2_with (go_at_call 97;refine m.mono ?_;rintro e Q ⟨p,rfl,g⟩;have j:Below w.heap.size w Q:=d.trans (g.mono (by simp;omega));have a:=xG (((Below.refl _ (w.alloc (.cells #[.string ⟨#[]⟩,.bool false,.slice none 0 0,.bool false,.slice none 0 0,.bool false,.slice none 0 0,.slice none 0 0] 133))).alloc (Nat.le_refl _) _).trans (g.mono (by simp)));have r0:=(ze a 0).1;have z:=(ze a 1).1;have A:=(ze a 2).1;have B:=(ze a 3).1;have C:=(ze a 4).1;have D:=(ze a 5).1;have E:=(ze a 6).1;have F:=(ze a 7).1;have R:=(ze a 0).2;have f1:=(ze a 1).2;have f2:=(ze a 2).2;have S:=(ze a 3).2;have U:=(ze a 4).2;have W:=(ze a 5).2;have X:=(ze a 6).2;have Y:=(ze a 7).2;simp at r0 z A B C D E F;have l:=fu a rfl (.string ⟨#[]⟩) (.bool false) (.slice none 0 0) (.bool false) (.slice none 0 0) (.bool false) (.slice none 0 0) (.slice none 0 0);unfold vz vw at l;simp only[Nat.zero_add] at l;obtain⟨G,H,I,J,K,L,M,N⟩:=l)
 exact bodyPost_ret (v := .tuple #[.agg #[.string ⟨#[]⟩,.bool false,.slice none 0 0,.bool false,.slice none 0 0,.bool false,.slice none 0 0,.slice none 0 0],.iface 125 (.agg #[.string p])]) (by simp[results,results53,go_sem,G,H,I,J,K,L,M,N]) rfl
  ⟨_,_,_,_,_,rfl,.inr (.inl ⟨rfl,_,rfl⟩),fq j (Nat.le_refl _) _ _ _ _ _ _ _ _,zO.nil _ _,zO.nil _ _,zO.nil _ _,qA.nil _ _⟩
theorem xg.eff{w:World}{ms:List (BY×Rd.V)}{a:List (BY×Value)}{ao:Option Addr}{cap:Nat}(h:xg w ms a ao cap) :
  Calls prog 98 #[qo a Rd.zM,.func (.func 99) #[] #[]] w (Qd w (Rd.qd Rd.xu (Rd.zh ms Rd.zM)) (Rd.zI Rd.xu (Rd.zh ms Rd.zM))):=
 VX _ _ _ _ _ 4000 w (enters_of func99 (by kernel_rfl) rfl) (h.obj.get Rd.zM) (λs b=>by have:=Rd.qV h.good Rd.zM _ b;cases this with|str _ h=>exact h) (λW s _ _=>Bc s W)
theorem xg.choice{w:World}{ms:List (BY×Rd.V)}{a:List (BY×Value)}{ao:Option Addr}{cap:Nat}(h:xg w ms a ao cap)(nm:BY) :
  Calls prog 100 #[qo a nm] w (Z7 w (Rd.zh ms nm)):=FN _ _ w h.env.d (h.obj.get nm) (λv b=>Rd.qV h.good nm v b)
theorem xg.conds{w:World}{ms:List (BY×Rd.V)}{a:List (BY×Value)}{ao:Option Addr}{cap:Nat}(h:xg w ms a ao cap)(nm:BY) :
  Calls prog 101 #[qo a nm] w (Xo w (Rd.zh ms nm)):=FR _ _ w h.env (h.obj.get nm) (λv b=>Rd.qV h.good nm v b)
theorem wE{a b c d f:Nat}{u v x y z:Value}(g:FV a u)(h:FV b v)(i:FV c x)(k:FV d y)(l:FV f z):FVs [a,b,c,d,f] [u,v,x,y,z]:=by
 refine⟨rfl,λj d y hd e=>?_⟩
 match j with
 | 0=>simp at hd e;subst hd;subst e;exact g
 | 1=>simp at hd e;subst hd;subst e;exact h
 | 2=>simp at hd e;subst hd;subst e;exact i
 | 3=>simp at hd e;subst hd;subst e;exact k
 | 4=>simp at hd e;subst hd;subst e;exact l
 | j+5=>simp at hd
theorem su{W:World}{b:Nat}{u v x y z:Value}{t:TypeId}(h:W.heap[b]?=some (.cells #[u,v,x,y,z] t (0,0))):xW W (some ⟨b,0,none⟩) [u,v,x,y,z]:=by
 refine .inr ⟨b,0,rfl,λj a=>?_⟩;simp only[List.length_cons,List.length_nil] at a;rw[Nat.zero_add,(ze h j).1]
 have:j=0\/j=1\/j=2\/j=3\/j=4:=by omega
 rcases this with rfl|rfl|rfl|rfl|rfl<;>rfl
theorem zO.below{w c:World}{base:Nat}{a:Value}{b:List BY}(h:zO w base a b)(hb:Below w.heap.size w c):zO c base a b:=ownsRow_below h hb
theorem zO.mono{w:World}{base a:Nat}{b:Value}{c:List BY}(h:zO w base b c)(hb:a<=base):zO w a b c:=xP h hb
theorem Gb(ms:List (BY×Rd.V))(us:List (BY×Value))(ao:Option Addr)(cap:Nat)(w:World)(hI:xg w ms us ao cap)(ho:Rd.zJ ms [Rd.zM,Rd.zU,Rd.bDo,Rd.bOn,Rd.bIf]=true) :
  Calls prog 53 #[.iface 118 (.slice ao us.length cap)] w (Xv w (.obj ms)):=by
 have hC:Rd.qB (.obj ms)=Rd.zN [Rd.zI Rd.xu (Rd.zh ms Rd.zM),Rd.chC (Rd.zh ms Rd.zU),Rd.chC (Rd.zh ms Rd.bDo),Rd.chC (Rd.zh ms Rd.bOn),Rd.yl (Rd.zh ms Rd.bIf)]:=by simp only[Rd.qB];rw[ho];rfl
 have hS:qG (.obj ms)=⟨Rd.qd Rd.xu (Rd.zh ms Rd.zM),chS (Rd.zh ms Rd.zU),chS (Rd.zh ms Rd.bDo),chS (Rd.zh ms Rd.bOn),Zh (Rd.zh ms Rd.bIf)⟩:=by simp only[qG];rw[ho];rfl
 have e5:=nb w jS;have b0:=e5.alloc (by simp) kH;have hr:=cK (w.alloc jS) Rd.zM Rd.zU Rd.bDo Rd.bOn Rd.bIf 9;rw[World.size_alloc] at hr;have cR:=Yb ms us ao cap [Rd.zM,Rd.zU,Rd.bDo,Rd.bOn,Rd.bIf] (some ⟨w.heap.size+1,0,none⟩) 5 ((w.alloc jS).alloc kH) (by simp) hI.len hr (hI.obj.below b0) true ho;simp only[if_true,List.length_cons,List.length_nil] at cR;have cG:=λW nm (h:Below w.heap.size w W)=>(hI.below h).get nm;have cE:=λW (h:Below w.heap.size w W)=>(hI.below h).eff;have cH:=λW nm (h:Below w.heap.size w W)=>(hI.below h).choice nm;have cF:=λW (h:Below w.heap.size w W)=>(hI.below h).conds Rd.bIf;have b7:=λW (h:Below w.heap.size w W)=>(hI.below h).env.d.err;unfold Xv;rw[hC,hS];obtain⟨vE,h4⟩:∃x,qo us Rd.zM=x:=⟨_,rfl⟩;obtain⟨v1,g8⟩:∃x,qo us Rd.zU=x:=⟨_,rfl⟩;obtain⟨v2,g9⟩:∃x,qo us Rd.bDo=x:=⟨_,rfl⟩;obtain⟨v3,h0⟩:∃x,qo us Rd.bOn=x:=⟨_,rfl⟩;obtain⟨vF,h5⟩:∃x,qo us Rd.bIf=x:=⟨_,rfl⟩;have a8:=λW h=>cG W Rd.zM h;have a5:=λW h=>cG W Rd.zU h;have a6:=λW h=>cG W Rd.bDo h;have a7:=λW h=>cG W Rd.bOn h;have a9:=λW h=>cG W Rd.bIf h;have A:=λW h=>cH W Rd.zU h;have B:=λW h=>cH W Rd.bDo h;have C:=λW h=>cH W Rd.bOn h;unfold Z7 at A B C;unfold Xo at cF;simp only[h4] at a8 cE;simp only[g8] at a5 A;simp only[g9] at a6 B;simp only[h0] at a7 C;simp only[h5] at a9 cF;generalize Rd.qd Rd.xu (Rd.zh ms Rd.zM)=ES at cE |-;generalize Rd.zI Rd.xu (Rd.zh ms Rd.zM)=EC at cE |-;generalize chS (Rd.zh ms Rd.zU)=p1 at A |-;generalize Rd.chC (Rd.zh ms Rd.zU)=c1 at A |-;generalize chS (Rd.zh ms Rd.bDo)=p2 at B |-;generalize Rd.chC (Rd.zh ms Rd.bDo)=c2 at B |-;generalize chS (Rd.zh ms Rd.bOn)=p3 at C |-;generalize Rd.chC (Rd.zh ms Rd.bOn)=c3 at C |-;generalize Zh (Rd.zh ms Rd.bIf)=cs at cF |-;generalize Rd.yl (Rd.zh ms Rd.bIf)=cf at cF |-;obtain⟨t,b⟩:=p1;obtain⟨y,c⟩:=p2;obtain⟨z,f⟩:=p3;simp only at A B C |-;clear hI ho hS hC h4 g8 g9 h0 h5 cG hr cH;unfold kH jS at cR;unfold jS at e5;unfold kH jS at b0;unfold Rd.zM Rd.zU Rd.bDo Rd.bOn Rd.bIf at cR b0;unfold Rd.zM at a8;unfold Rd.zU at a5;unfold Rd.bDo at a6;unfold Rd.bOn at a7;unfold Rd.bIf at a9;go_enter func53,ntmps53
 go_upto_region 9 with (first
  | (go_at_call 101;refine (cF d3 H).mono ?_;rintro e a ⟨m9,N,rfl,f8,b9,G⟩;obtain⟨n,o,rfl⟩:=G.slice)
  | (go_at_call 51;refine (a9 _ K).mono ?_;rintro e d3 ⟨rfl,s⟩;have H:Below w.heap.size w d3:=K.trans (s.mono K.size))
  | (go_at_call 100;refine (C w8 a4).mono ?_;rintro e w9 ⟨m8,u3,rfl,e8,b6,F⟩;obtain⟨j,m,rfl⟩:=yB F;have c9:=a4.trans (b6.mono a4.size);have K:=c9.alloc c9.size (.cells #[.bool z,.slice j f.length m] 130))
  | (go_at_call 51;refine (a7 _ J).mono ?_;rintro e w8 ⟨rfl,R⟩;have a4:Below w.heap.size w w8:=J.trans (R.mono J.size))
  | (go_at_call 100;refine (B w6 a0).mono ?_;rintro e w7 ⟨m7,u2,rfl,e7,b5,E⟩;obtain⟨i,l,rfl⟩:=yB E;have c8:=a0.trans (b5.mono a0.size);have J:=c8.alloc c8.size (.cells #[.bool y,.slice i c.length l] 130))
  | (go_at_call 51;refine (a6 _ I).mono ?_;rintro e w6 ⟨rfl,Q⟩;have a0:Below w.heap.size w w6:=I.trans (Q.mono I.size))
  | (go_at_call 100;refine (A w4 Z).mono ?_;rintro e w5 ⟨m6,u1,rfl,e6,b4,D⟩;obtain⟨g,k,rfl⟩:=yB D;have c7:=Z.trans (b4.mono Z.size);have I:=c7.alloc c7.size (.cells #[.bool t,.slice g b.length k] 130))
  | (go_at_call 51;refine (a5 w3 Y).mono ?_;rintro e w4 ⟨rfl,d2⟩;have Z:Below w.heap.size w w4:=Y.trans (d2.mono Y.size);have S:=c6.trans (d2.mono c6.size))
  | (go_at_call 98;refine (cE w2 X).mono ?_;rintro e w3 ⟨M,rfl,e9,d1⟩;have Y:Below w.heap.size w w3:=X.trans (d1.mono X.size);have c6:=c5.trans (d1.mono c5.size))
  | (go_at_call 51;refine (a8 w1 U).mono ?_;rintro e w2 ⟨rfl,P⟩;have X:Below w.heap.size w w2:=U.trans (P.mono U.size);have c5:=c4.trans (P.mono c4.size))
  | (go_at_call 97;refine cR.mono ?_;rintro e w1 ⟨rfl,d0⟩;have U:Below w.heap.size w w1:=b0.trans (d0.mono (by simp;omega));have c4:=((Below.refl _ (w.alloc (.cells #[.string ⟨#[]⟩,.bool false,.slice none 0 0,.bool false,.slice none 0 0,.bool false,.slice none 0 0,.slice none 0 0] 133))).alloc (Nat.le_refl _) (.cells #[.string ⟨#[101,102,102,101,99,116]⟩,.string ⟨#[119,104,111]⟩,.string ⟨#[100,111]⟩,.string ⟨#[111,110]⟩,.string ⟨#[105,102]⟩] 9)).trans (d0.mono (by simp))))
 have T3:=s.trans (b9.mono s.size);have t9:=R.trans (b6.mono R.size);have T2:=(t9.alloc t9.size (.cells #[.bool z,.slice j f.length m] 130)).trans (T3.mono (by have:=t9.size;simp at this |-;omega));have t7:=Q.trans (b5.mono Q.size);have T1:=(t7.alloc t7.size (.cells #[.bool y,.slice i c.length l] 130)).trans (T2.mono (by have:=t7.size;simp at this |-;omega));have t5:=S.trans (b4.mono S.size);have T0:=(t5.alloc t5.size (.cells #[.bool t,.slice g b.length k] 130)).trans (T1.mono (by have:=t5.size;simp at this |-;omega));have k1:=xG T1;have k2:=xG T2;have k3:=xG T3;have a1:=(ze k1 0).1;have j0:=(ze k1 1).1;have a2:=(ze k2 0).1;have j1:=(ze k2 1).1;have a3:=(ze k3 0).1;have j2:=(ze k3 1).1;simp at a1 j0 a2 j1 a3 j2;have o1:zO a w4.heap.size (.slice g b.length k) b:=zO.below (zO.below D (nb w5 (.cells #[.bool t,.slice g b.length k] 130))) T1;have o2:zO a w6.heap.size (.slice i c.length l) c:=zO.below (zO.below E (nb w7 (.cells #[.bool y,.slice i c.length l] 130))) T2;have o3:zO a w8.heap.size (.slice j f.length m) f:=zO.below (zO.below F (nb w9 (.cells #[.bool z,.slice j f.length m] 130))) T3;have O:Below w.heap.size w a:=H.trans (b9.mono H.size);have z4:w.heap.size<w4.heap.size:=by have h1:=S.size;simp at h1;omega
 have z6:w.heap.size<w6.heap.size:=by have h1:=T0.size;have h2:=b4.size;have h3:=Q.size;simp at h3;omega
 have z8:w.heap.size<w8.heap.size:=by have h2:=b5.size;have h3:=R.size;simp at h3;omega
 have j9:w.heap.size<d3.heap.size:=by have h2:=b6.size;have h3:=s.size;simp at h3;omega
 have bA:Below w.heap.size w ((a.alloc (.cells #[.string ES,.bool t,.slice g b.length k,.bool y,.slice i c.length l,.bool z,.slice j f.length m,.slice n cs.length o] 133)).alloc (.cells #[M,u1,u2,u3,N] 74)):=(O.alloc O.size _).alloc (by have:=O.size;simp;omega) _;have aA:=(T0.alloc T0.size (.cells #[.string ES,.bool t,.slice g b.length k,.bool y,.slice i c.length l,.bool z,.slice j f.length m,.slice n cs.length o] 133)).alloc (by have:=T0.size;simp at this |-;omega) (.cells #[M,u1,u2,u3,N] 74);have e3:((a.alloc (.cells #[.string ES,.bool t,.slice g b.length k,.bool y,.slice i c.length l,.bool z,.slice j f.length m,.slice n cs.length o] 133)).alloc (.cells #[M,u1,u2,u3,N] 74)).heap[a.heap.size]?=some (.cells #[.string ES,.bool t,.slice g b.length k,.bool y,.slice i c.length l,.bool z,.slice j f.length m,.slice n cs.length o] 133):=(vU a (.cells #[.string ES,.bool t,.slice g b.length k,.bool y,.slice i c.length l,.bool z,.slice j f.length m,.slice n cs.length o] 133) (.cells #[M,u1,u2,u3,N] 74)).1;have e4:((a.alloc (.cells #[.string ES,.bool t,.slice g b.length k,.bool y,.slice i c.length l,.bool z,.slice j f.length m,.slice n cs.length o] 133)).alloc (.cells #[M,u1,u2,u3,N] 74)).heap[a.heap.size+1]?=some (.cells #[M,u1,u2,u3,N] 74):=(vU a (.cells #[.string ES,.bool t,.slice g b.length k,.bool y,.slice i c.length l,.bool z,.slice j f.length m,.slice n cs.length o] 133) (.cells #[M,u1,u2,u3,N] 74)).2
 have e0:∀W:World,Below w.heap.size w W->W.heap[a.heap.size+1]?=some (.cells #[M,u1,u2,u3,N] 74)->Calls prog 102 #[.slice (some ⟨a.heap.size+1,0,none⟩) 5 5] W λe w'=>∃u,e = .returned u/\FV (Rd.zN [EC,c1,c2,c3,cf]) u/\Below W.heap.size W w':=λW hW hg=>
  QW [EC,c1,c2,c3,cf] [M,u1,u2,u3,N] _ 5 W (b7 W hW) (by simp) (su hg) (wE e9 e6 e7 e8 f8)
 have q0:=e9.cells;have q1:=e6.cells;have q2:=e7.cells;have q3:=e8.cells;have q4:=f8.cells;have r:=hid (And.intro o1 (And.intro o2 (And.intro o3 G)));clear cR a8 cE a5 a6 a7 a9 A B C cF b7 o1 o2 o3 G D E F k1 k2 k3 T1 T2 T3 t5 t7 t9 T0 d0 P d1 d2 b4 Q b5 R b6 s c4 c5 c6 S U X Y Z c7 I a0 c8 J a4 c9 K H
 go_upto_region 10 with fail
 go_region_with (go_at_call 102;refine (e0 _ (by first|exact bA|exact bA.drew|exact bA.drew.drew) (by first|exact e4)).mono ?_;rintro e h6 ⟨uR,rfl,f9,L⟩;have p:Below ((a.alloc (.cells #[.string ES,.bool t,.slice g b.length k,.bool y,.slice i c.length l,.bool z,.slice j f.length m,.slice n cs.length o] 133)).alloc (.cells #[M,u1,u2,u3,N] 74)).heap.size ((a.alloc (.cells #[.string ES,.bool t,.slice g b.length k,.bool y,.slice i c.length l,.bool z,.slice j f.length m,.slice n cs.length o] 133)).alloc (.cells #[M,u1,u2,u3,N] 74)) h6:=(by first|exact L|exact ZE L|exact ZE (ZE L));have q:=xG (aA.trans (p.mono aA.size));have r0:=(ze q 0).1;have r1:=(ze q 1).1;have r2:=(ze q 2).1;have r3:=(ze q 3).1;have r4:=(ze q 4).1;have r5:=(ze q 5).1;have r6:=(ze q 6).1;have r7:=(ze q 7).1;have f0:=(ze q 0).2;have f1:=(ze q 1).2;have f2:=(ze q 2).2;have f3:=(ze q 3).2;have f4:=(ze q 4).2;have f5:=(ze q 5).2;have f6:=(ze q 6).2;have f7:=(ze q 7).2;simp at r0 r1 r2 r3 r4 r5 r6 r7;have T:=(p.block a.heap.size (by simp;omega)).trans e3;have g0:=(ze T 0).1;have g1:=(ze T 1).1;have g2:=(ze T 2).1;have g3:=(ze T 3).1;have g4:=(ze T 4).1;have g5:=(ze T 5).1;have g6:=(ze T 6).1;have g7:=(ze T 7).1;simp at g0 g1 g2 g3 g4 g5 g6 g7)
 all_goals
  have s8:=fu q rfl (.string ES) (.bool t) (.slice g b.length k) (.bool y) (.slice i c.length l) (.bool z) (.slice j f.length m) (.slice n cs.length o);unfold vz vw at s8;simp only[Nat.zero_add] at s8;obtain⟨s0,s1,s2,s3,s4,s5,s6,s7⟩:=s8;have BW:=hid (bA.trans (p.mono bA.size));have AB:Below a.heap.size a h6:=((nb a (.cells #[.string ES,.bool t,.slice g b.length k,.bool y,.slice i c.length l,.bool z,.slice j f.length m,.slice n cs.length o] 133)).alloc (by simp) (.cells #[M,u1,u2,u3,N] 74)).trans (p.mono (by simp;omega));have OW:=hid (And.intro (r.out.1.below AB) (And.intro (r.out.2.1.below AB) (And.intro (r.out.2.2.1.below AB) (r.out.2.2.2.below AB))));have i9:=hid f9;clear f9 L p q T r AB q0 q1 q2 q3 q4 e0 e4 e3 bA aA;go_wp2_with fail
  exact bodyPost_ret (v := .tuple #[.agg #[.string ES,.bool t,.slice g b.length k,.bool y,.slice i c.length l,.bool z,.slice j f.length m,.slice n cs.length o],uR]) (by simp[results,results53,go_sem,s0,s1,s2,s3,s4,s5,s6,s7]) rfl
   ⟨_,_,_,_,_,rfl,i9.out,fq BW.out (Nat.le_refl _) _ _ _ _ _ _ _ _,(VV OW.out.1 z4 _ _ _ _ _ _ _ _).mono (by omega),(VV OW.out.2.1 z6 _ _ _ _ _ _ _ _).mono (by omega),(VV OW.out.2.2.1 z8 _ _ _ _ _ _ _ _).mono (by omega),(FJ OW.out.2.2.2 j9 _ _ _ _ _ _ _ _).mono (by omega)⟩
theorem Gc(x:Rd.V)(u:Value)(w:World)(c:qD w)(b:OAt w (some x) u)(a:Rd.Good 4000 x):Calls prog 53 #[u] w (Xv w x):=by
 by_cases h:∃ms,x = .obj ms/\Rd.zJ ms [Rd.zM,Rd.zU,Rd.bDo,Rd.bOn,Rd.bIf]=true
 ·obtain⟨ms,rfl,f⟩:=h;obtain⟨g,ao,cap,rfl,d⟩:=Q6 b;exact Gb ms g ao cap w ⟨c,d,a⟩ f
 ·refine Ga x u w b a (λms e=>?_)
  cases hc:Rd.zJ ms [Rd.zM,Rd.zU,Rd.bDo,Rd.bOn,Rd.bIf] with
  | false=>rfl
  | true=>exact absurd ⟨ms,e,hc⟩ h
end Go.Proofs.YtdakgnaojakldaaGreatDoor
