/- P -/
import Derived.Test.YtfjpcldndaiifaaGreatDoorA11
open Go.Proofs.Tryz
set_option maxRecDepth 100000
set_option maxHeartbeats 2000000
namespace Go.Proofs.YtfjpcldndaiifaaGreatDoor
open Go.RowKit
structure zS where
 eff:BY
 who:Bool×List BY
 act:Bool×List BY
 on:Bool×List BY
 ifs:List qj
def Ul:zS:=⟨⟨#[]⟩,(false,[]),(false,[]),(false,[]),[]⟩
def vP:Z.V->zS
 | .obj a=>if Z.qB a [Z.zM,Z.zY,Z.bDo,Z.bOn,Z.bIf] then ⟨Z.xN Z.yI (Z.zm a Z.zM),chS (Z.zm a Z.zY),chS (Z.zm a Z.bDo),chS (Z.zm a Z.bOn),Jm (Z.zm a Z.bIf)⟩ else Ul
 | _=>Ul
def U0(w:J)(v:Z.V)(e:Ending)(w':J):Prop:=
 ∃a b c d u,e=.returned (.tuple #[.agg #[S9 (vP v).eff,.bool (vP v).who.1,a,.bool (vP v).act.1,b,.bool (vP v).on.1,c,d],u])/\FV (Z.jd v) u/\BQ w w' /\
  zJ w' w.heap.size a (vP v).who.2/\zJ w' w.heap.size b (vP v).act.2/\zJ w' w.heap.size c (vP v).on.2/\xB w' w.heap.size d (vP v).ifs
def Qb:Obj := L8 #[R5,T9,R4,T9,R4,T9,R4,R4] 140
def Yl:Obj := L8 #[S9 Z.zM,S9 Z.zY,S9 Z.bDo,S9 Z.bOn,S9 Z.bIf] 9
theorem Dk(w:J)(a b c d f:BY)(t:TypeId):ZF (w.alloc (L8 #[S9 a,S9 b,S9 c,S9 d,S9 f] t)) (some (G8 w.heap.size 0)) [a,b,c,d,f]:=by
 have h:=zA w (L8 #[S9 a,S9 b,S9 c,S9 d,S9 f] t);refine .inr ⟨w.heap.size,0,rfl,λj e=>?_⟩;simp only[Qf,JQ]at e;rw[qV,(zg h j).1]
 have:j=0\/j=1\/j=2\/j=3\/j=4:=by omega
 rcases this with rfl|rfl|rfl|rfl|rfl<;>rfl
def Qs(w:J)(b o:Nat)(a c d e:Y):J:=(((w.setCell (G8 b o) a).setCell (G8 b (o+1)) c).setCell (G8 b (o+2)) d).setCell (G8 b (o+3)) e
theorem EE(w:J)(b o:Nat)(a c d e:Y)(q:Nat)(h:q<o\/o+4<=q):(Qs w b o a c d e).cell? (G8 b q)=w.cell? (G8 b q):=by
 unfold Qs;rw[xu _ _ _ _ (by simp only[ne_eq,Addr.mk.injEq];omega),xu _ _ _ _ (by simp only[ne_eq,Addr.mk.injEq];omega),xu _ _ _ _ (by simp only[ne_eq,Addr.mk.injEq];omega),xu _ _ _ _ (by simp only[ne_eq,Addr.mk.injEq];omega)]
theorem ED{w:J}{b o:Nat}{p q r s:Y}(c d e f:Y)(k:w.cell? (G8 b o)=some p)(l:w.cell? (G8 b (o+1))=some q)(m:w.cell? (G8 b (o+2))=some r)(n:w.cell? (G8 b (o+3))=some s):(Qs w b o c d e f).cell? (G8 b o)=some c/\(Qs w b o c d e f).cell? (G8 b (o+1))=some d/\(Qs w b o c d e f).cell? (G8 b (o+2))=some e/\(Qs w b o c d e f).cell? (G8 b (o+3))=some f:=by
 unfold Qs;have ne:∀i j:Nat,i≠j->∀(W:J) (x:Y),(W.setCell (G8 b (o+i)) x).cell? (G8 b (o+j))=W.cell? (G8 b (o+j)):=λi j a W x=>xu _ _ _ _ (by simp only[ne_eq,Addr.mk.injEq];omega);have h:∀j:Nat,0≠j->∀(W:J) (x:Y),(W.setCell (G8 b o) x).cell? (G8 b (o+j))=W.cell? (G8 b (o+j)):=λj a W x=>xu _ _ _ _ (by simp only[ne_eq,Addr.mk.injEq];omega);have g:∀i:Nat,i≠0->∀(W:J) (x:Y),(W.setCell (G8 b (o+i)) x).cell? (G8 b o)=W.cell? (G8 b o):=λi a W x=>xu _ _ _ _ (by simp only[ne_eq,Addr.mk.injEq];omega);refine⟨?_,?_,?_,?_⟩
 ·rw[g 3 (by omega),g 2 (by omega),g 1 (by omega)];exact ZR _ _ _ k
 ·rw[ne 3 1 (by omega),ne 2 1 (by omega)];exact ZR _ _ _ ((h 1 (by omega) _ _).trans l)
 ·rw[ne 3 2 (by omega)];exact ZR _ _ _ ((ne 1 2 (by omega) _ _).trans ((h 2 (by omega) _ _).trans m))
 exact ZR _ _ _ ((ne 2 3 (by omega) _ _).trans ((ne 1 3 (by omega) _ _).trans ((h 3 (by omega) _ _).trans n)))
def Qt(w:J)(b:Nat)(a c d e f g h i:Y):J:=Qs (Qs w b 0 a c d e) b 4 f g h i
theorem EH{w:J}{b:Nat}{cs:Array Y}{t:TypeId}(h:w.heap[b]?=some (.cells cs t (0,0)))(K:cs.size=8)(a c d g i k l m:Y):(Qt w b a c d g i k l m).cell? (G8 b 0)=some a/\(Qt w b a c d g i k l m).cell? (G8 b 1)=some c/\(Qt w b a c d g i k l m).cell? (G8 b 2)=some d/\(Qt w b a c d g i k l m).cell? (G8 b 3)=some g /\
  (Qt w b a c d g i k l m).cell? (G8 b 4)=some i/\(Qt w b a c d g i k l m).cell? (G8 b 5)=some k/\(Qt w b a c d g i k l m).cell? (G8 b 6)=some l/\(Qt w b a c d g i k l m).cell? (G8 b 7)=some m:=by
 have n:∀j,j<8->∃o,w.cell? (G8 b j)=some o:=λj I=>⟨cs[j]'(by omega),by rw[(zg h j).1];exact pK (by omega)⟩;obtain⟨L,A⟩:=n 0 (by omega);obtain⟨M,B⟩:=n 1 (by omega);obtain⟨N,C⟩:=n 2 (by omega);obtain⟨O,D⟩:=n 3 (by omega);obtain⟨P,E⟩:=n 4 (by omega);obtain⟨Q,F⟩:=n 5 (by omega);obtain⟨R,G⟩:=n 6 (by omega);obtain⟨S,H⟩:=n 7 (by omega);obtain⟨r,s,u,v⟩:=ED (o:=0) a c d g A B C D;have e:=λq p=>EE w b 0 a c d g q p;obtain⟨b0,x,y,z⟩:=ED (w:=Qs w b 0 a c d g) (o:=4) i k l m ((e 4 (by omega)).trans E) ((e 5 (by omega)).trans F) ((e 6 (by omega)).trans G) ((e 7 (by omega)).trans H);have f:=λq p=>EE (Qs w b 0 a c d g) b 4 i k l m q p;exact⟨(f 0 (by omega)).trans r,(f 1 (by omega)).trans s,(f 2 (by omega)).trans u,(f 3 (by omega)).trans v,b0,x,y,z⟩
theorem EG{c w:J}{B b:Nat}(h:Below B c w)(a:B<=b)(d e f g i j k l:Y):Below B c (Qt w b d e f g i j k l):=
 (((((((h.setCell a _).setCell a _).setCell a _).setCell a _).setCell a _).setCell a _).setCell a _).setCell a _
theorem nN{w:J}{base:Nat}{c:Y}{d:List BY}(h:zJ w base c d){b:Nat}(a:b<base)(e f g i j k l m:Y):zJ (Qt w b e f g i j k l m) base c d:=
 qa (qa (qa (qa (qa (qa (qa (qa h a _ _) a _ _) a _ _) a _ _) a _ _) a _ _) a _ _) a _ _
theorem zct{w:J}{base:Nat}{c:Y}{cs:List qj}(h:xB w base c cs){b:Nat}(a:b<base)(d e f g i j k l:Y):xB (Qt w b d e f g i j k l) base c cs:=
 (((((((h.set a _ _).set a _ _).set a _ _).set a _ _).set a _ _).set a _ _).set a _ _).set a _ _
theorem zJ.nil(w:J)(base:Nat):zJ w base R4 []:=qF _ _ _ _
theorem zcP(x:Z.V)(u:Y)(w:J)(j:OAt w (some x) u)(r:Z.Good 4000 x)(c:∀d,x=.obj d->Z.qB d [Z.zM,Z.zY,Z.bDo,Z.bOn,Z.bIf]=false):R8 61 #[u] w (U0 w x):=by
 have t:vP x=Ul:=by
  match x with
  | .str s=>rfl
  | .word b=>rfl
  | .list X=>rfl
  | .obj d=>simp only[vP];rw[c d rfl];rfl
 have q:Z.jd x=1:=by
  match x with
  | .str s=>rfl
  | .word b=>rfl
  | .list X=>rfl
  | .obj d=>simp only[Z.jd];rw[c d rfl];rfl
 unfold U0;rw[t,q];have g:=nbl w Qb;have f:=g.alloc (by simp) Yl
 have o:R8 104 #[u,TL (some (G8 (w.heap.size+1) 0)) 5 5] ((w.alloc Qb).alloc Yl) (az ((w.alloc Qb).alloc Yl)):=by
  by_cases h:∃d,x=.obj d
  ·obtain⟨d,rfl⟩:=h;obtain⟨W,A,l,rfl,B⟩:=Um j;have m:d.length<=4000:=by cases r with|obj _ h=>exact h
   have z:=Dk (w.alloc Qb) Z.zM Z.zY Z.bDo Z.bOn Z.bIf 9;rw[uH]at z
   have:=KX d W A l [Z.zM,Z.zY,Z.bDo,Z.bOn,Z.bIf] (some (G8 (w.heap.size+1) 0)) 5 ((w.alloc Qb).alloc Yl) (by simp) m z (B.below f) false (c d rfl)
   simpa using this
  exact EN (some x) u 5 _ 5 _ (j.below f) (λd e=>h ⟨d,by simpa using e⟩)
 obtain⟨T,y,rfl⟩:=ValAt.iface (show ValAt w (λb=>b<w.heap.size) x u from j)
 clear j r c t q;unfold Yl Qb Z.zM Z.zY Z.bDo Z.bOn Z.bIf at o;unfold Qb at g;unfold Yl Qb Z.zM Z.zY Z.bDo Z.bOn Z.bIf at f;go_enter func61,ntmps61;go_wp2_with(go_at_call 104;apply o.mono;rintro e w1⟨p,rfl,i⟩;have k:BQ w w1:=f.trans (i.mono (by simp;omega));have a:=jS (((zf _ (w.alloc (L8 #[R5,T9,R4,T9,R4,T9,R4,R4] 140))).alloc F7 _).trans (i.mono (by simp)));have C:=(zg a 0).1;have D:=(zg a 1).1;have E:=(zg a 2).1;have F:=(zg a 3).1;have G:=(zg a 4).1;have H:=(zg a 5).1;have I:=(zg a 6).1;have K:=(zg a 7).1;have f0:=(zg a 0).2;have f1:=(zg a 1).2;have f2:=(zg a 2).2;have f3:=(zg a 3).2;have f4:=(zg a 4).2;have f5:=(zg a 5).2;have f6:=(zg a 6).2;have f7:=(zg a 7).2;simp at C D E F G H I K;have n:=EH a rfl R5 T9 R4 T9 R4 T9 R4 R4;unfold Qt Qs at n;simp only[qV]at n;obtain⟨L,M,N,O,P,Q,R,S⟩:=n)
 exact zG (v := .tuple #[.agg #[R5,T9,R4,T9,R4,T9,R4,R4],.iface 132 (.agg #[S9 p])]) (by simp[results,results61,go_sem,L,M,N,O,P,Q,R,S]) rfl
  ⟨_,_,_,_,_,rfl,.inr (.inl ⟨rfl,_,rfl⟩),EG k F7 _ _ _ _ _ _ _ _,zJ.nil _ _,zJ.nil _ _,zJ.nil _ _,xB.nil _ _⟩
theorem jC.eff{w:J}{ms:List (BY×Z.V)}{a:List (BY×Y)}{ao:Option Addr}{cap:Nat}(h:jC w ms a ao cap):R8 105 #[xW a Z.zM,.func (.func 106) #[] #[]] w (JZ w (Z.xN Z.yI (Z.zm ms Z.zM)) (Z.qx Z.yI (Z.zm ms Z.zM))):=
 nS _ _ _ _ _ 4000 w (qo func106 (by kernel_rfl) rfl) (h.obj.get Z.zM) (λs b=>by have:=Z.jr h.good Z.zM _ b;cases this with|str _ h=>exact h) (λW s _ _=>Tv s W)
theorem jC.choice{w:J}{ms:List (BY×Z.V)}{a:List (BY×Y)}{ao:Option Addr}{cap:Nat}(h:jC w ms a ao cap)(nm:BY):R8 107 #[xW a nm] w (JK w (Z.zm ms nm)):=zcC _ _ w h.env.d (h.obj.get nm) (λv b=>Z.jr h.good nm v b)
theorem jC.conds{w:J}{ms:List (BY×Z.V)}{a:List (BY×Y)}{ao:Option Addr}{cap:Nat}(h:jC w ms a ao cap)(nm:BY):R8 108 #[xW a nm] w (UL w (Z.zm ms nm)):=zcG _ _ w h.env (h.obj.get nm) (λv b=>Z.jr h.good nm v b)
theorem Ry{a b c d f:Nat}{u v x y z:Y}(h:FV a u)(i:FV b v)(k:FV c x)(l:FV d y)(m:FV f z):FVs [a,b,c,d,f] [u,v,x,y,z]:=by
 refine⟨rfl,λj d y e g=>?_⟩
 match j with
 | 0=>simp at e g;subst e;subst g;exact h
 | 1=>simp at e g;subst e;subst g;exact i
 | 2=>simp at e g;subst e;subst g;exact k
 | 3=>simp at e g;subst e;subst g;exact l
 | 4=>simp at e g;subst e;subst g;exact m
 | j+5=>simp at e
theorem Py{W:J}{b:Nat}{u v x y z:Y}{t:TypeId}(h:W.heap[b]?=some (L8 #[u,v,x,y,z] t (0,0))):vV W (some (G8 b 0)) [u,v,x,y,z]:=by
 refine .inr ⟨b,0,rfl,λj a=>?_⟩;simp only[Qf,JQ]at a;rw[qV,(zg h j).1]
 have:j=0\/j=1\/j=2\/j=3\/j=4:=by omega
 rcases this with rfl|rfl|rfl|rfl|rfl<;>rfl
theorem zJ.below{w w':J}{base:Nat}{a:Y}{b:List BY}(h:zJ w base a b)(c:BQ w w'):zJ w' base a b:=ownsRow_below h c
theorem zJ.mono{w:J}{base a:Nat}{b:Y}{c:List BY}(h:zJ w base b c)(d:a<=base):zJ w a b c:=xS h d
theorem zcQ(ms:List (BY×Z.V))(us:List (BY×Y))(ao:Option Addr)(cap:Nat)(w:J)(hI:jC w ms us ao cap)(ho:Z.qB ms [Z.zM,Z.zY,Z.bDo,Z.bOn,Z.bIf]=true):R8 61 #[.iface 125 (TL ao us.length cap)] w (U0 w (.obj ms)):=by
 have hC:Z.jd (.obj ms)=Z.qZ [Z.qx Z.yI (Z.zm ms Z.zM),Z.chC (Z.zm ms Z.zY),Z.chC (Z.zm ms Z.bDo),Z.chC (Z.zm ms Z.bOn),Z.uM (Z.zm ms Z.bIf)]:=by simp only[Z.jd];rw[ho];rfl
 have hS:vP (.obj ms)=⟨Z.xN Z.yI (Z.zm ms Z.zM),chS (Z.zm ms Z.zY),chS (Z.zm ms Z.bDo),chS (Z.zm ms Z.bOn),Jm (Z.zm ms Z.bIf)⟩:=by simp only[vP];rw[ho];rfl
 have e9:=nbl w Qb;have b7:=e9.alloc (by simp) Yl;have hr:=Dk (w.alloc Qb) Z.zM Z.zY Z.bDo Z.bOn Z.bIf 9;rw[uH]at hr;have cR:=KX ms us ao cap [Z.zM,Z.zY,Z.bDo,Z.bOn,Z.bIf] (some (G8 (w.heap.size+1) 0)) 5 ((w.alloc Qb).alloc Yl) (by simp) hI.len hr (hI.obj.below b7) true ho;simp only[qJ,Qf,JQ]at cR;have cG:=λW nm (h:BQ w W)=>(hI.below h).get nm;have cE:=λW (h:BQ w W)=>(hI.below h).eff;have cH:=λW nm (h:BQ w W)=>(hI.below h).choice nm;have cF:=λW (h:BQ w W)=>(hI.below h).conds Z.bIf;have c4:=λW (h:BQ w W)=>(hI.below h).env.d.err;unfold U0;rw[hC,hS];obtain⟨vE,h8⟩:=Nm (xW us Z.zM);obtain⟨v1,h5⟩:=Nm (xW us Z.zY);obtain⟨v2,h6⟩:=Nm (xW us Z.bDo);obtain⟨v3,h7⟩:=Nm (xW us Z.bOn);obtain⟨vF,h9⟩:=Nm (xW us Z.bIf);have b5:=λW h=>cG W Z.zM h;have a9:=λW h=>cG W Z.zY h;have b0:=λW h=>cG W Z.bDo h;have b4:=λW h=>cG W Z.bOn h;have b6:=λW h=>cG W Z.bIf h;have A:=λW h=>cH W Z.zY h;have B:=λW h=>cH W Z.bDo h;have C:=λW h=>cH W Z.bOn h;unfold JK at A B C;unfold UL at cF;simp only[h8]at b5 cE;simp only[h5]at a9 A;simp only[h6]at b0 B;simp only[h7]at b4 C;simp only[h9]at b6 cF;generalize Z.xN Z.yI (Z.zm ms Z.zM)=ES at cE |-;generalize Z.qx Z.yI (Z.zm ms Z.zM)=EC at cE |-;generalize chS (Z.zm ms Z.zY)=p1 at A |-;generalize Z.chC (Z.zm ms Z.zY)=c1 at A |-;generalize chS (Z.zm ms Z.bDo)=p2 at B |-;generalize Z.chC (Z.zm ms Z.bDo)=c2 at B |-;generalize chS (Z.zm ms Z.bOn)=p3 at C |-;generalize Z.chC (Z.zm ms Z.bOn)=c3 at C |-;generalize Jm (Z.zm ms Z.bIf)=cs at cF |-;generalize Z.uM (Z.zm ms Z.bIf)=cf at cF |-;obtain⟨t,b⟩:=p1;obtain⟨y,c⟩:=p2;obtain⟨z,f⟩:=p3;simp only at A B C |-;clear hI ho hS hC h8 h5 h6 h7 h9 cG hr cH;unfold Yl Qb at cR;unfold Qb at e9;unfold Yl Qb at b7;unfold Z.zM Z.zY Z.bDo Z.bOn Z.bIf at cR b7;unfold Z.zM at b5;unfold Z.zY at a9;unfold Z.bDo at b0;unfold Z.bOn at b4;unfold Z.bIf at b6;go_enter func61,ntmps61
 go_upto_region 9 with(first
  |(go_at_call 108;apply(cF d7 H).mono;rintro e a⟨n1,O,rfl,h0,c6,G⟩;obtain⟨n,o,rfl⟩:=G.slice)
  |(go_at_call 59;apply(b6 _ L).mono;rintro e d7⟨rfl,s⟩;have H:BQ w d7:=L.trans (s.mono L.size))
  |(go_at_call 107;apply(C w8 a8).mono;rintro e w9⟨n0,u3,rfl,g8,c0,F⟩;obtain⟨j,m,rfl⟩:=xe F;have d3:=a8.trans (c0.mono a8.size);have L:=d3.alloc d3.size (L8 #[.bool z,TL j f.length m] 137))
  |(go_at_call 59;apply(b4 _ K).mono;rintro e w8⟨rfl,S⟩;have a8:BQ w w8:=K.trans (S.mono K.size))
  |(go_at_call 107;apply(B w6 a7).mono;rintro e w7⟨m9,u2,rfl,f9,b9,E⟩;obtain⟨i,l,rfl⟩:=xe E;have d2:=a7.trans (b9.mono a7.size);have K:=d2.alloc d2.size (L8 #[.bool y,TL i c.length l] 137))
  |(go_at_call 59;apply(b0 _ I).mono;rintro e w6⟨rfl,R⟩;have a7:BQ w w6:=I.trans (R.mono I.size))
  |(go_at_call 107;apply(A w4 a6).mono;rintro e w5⟨m8,u1,rfl,f8,b8,D⟩;obtain⟨g,k,rfl⟩:=xe D;have d1:=a6.trans (b8.mono a6.size);have I:=d1.alloc d1.size (L8 #[.bool t,TL g b.length k] 137))
  |(go_at_call 59;apply(a9 w3 a5).mono;rintro e w4⟨rfl,d6⟩;have a6:BQ w w4:=a5.trans (d6.mono a5.size);have T:=d0.trans (d6.mono d0.size))
  |(go_at_call 105;apply(cE w2 a4).mono;rintro e w3⟨N,rfl,g9,d5⟩;have a5:BQ w w3:=a4.trans (d5.mono a4.size);have d0:=c9.trans (d5.mono c9.size))
  |(go_at_call 59;apply(b5 w1 a0).mono;rintro e w2⟨rfl,Q⟩;have a4:BQ w w2:=a0.trans (Q.mono a0.size);have c9:=c8.trans (Q.mono c8.size))
  |(go_at_call 104;apply cR.mono;rintro e w1⟨rfl,d4⟩;have a0:BQ w w1:=b7.trans (d4.mono (by simp;omega));have c8:=((zf _ (w.alloc (L8 #[R5,T9,R4,T9,R4,T9,R4,R4] 140))).alloc F7 (L8 #[S9 ⟨#[101,102,102,101,99,116]⟩,S9 ⟨#[119,104,111]⟩,S9 ⟨#[100,111]⟩,S9 ⟨#[111,110]⟩,S9 ⟨#[105,102]⟩] 9)).trans (d4.mono (by simp))))
 have T3:=s.trans (c6.mono s.size);have t9:=S.trans (c0.mono S.size);have T2:=(t9.alloc t9.size (L8 #[.bool z,TL j f.length m] 137)).trans (T3.mono (by have:=t9.size;simp at this |-;omega));have t7:=R.trans (b9.mono R.size);have T1:=(t7.alloc t7.size (L8 #[.bool y,TL i c.length l] 137)).trans (T2.mono (by have:=t7.size;simp at this |-;omega));have t5:=T.trans (b8.mono T.size);have T0:=(t5.alloc t5.size (L8 #[.bool t,TL g b.length k] 137)).trans (T1.mono (by have:=t5.size;simp at this |-;omega));have k1:=jS T1;have k2:=jS T2;have k3:=jS T3;have a1:=(zg k1 0).1;have j1:=(zg k1 1).1;have a2:=(zg k2 0).1;have j2:=(zg k2 1).1;have a3:=(zg k3 0).1;have j3:=(zg k3 1).1;simp at a1 j1 a2 j2 a3 j3;have o1:zJ a w4.heap.size (TL g b.length k) b:=zJ.below (zJ.below D (nbl w5 (L8 #[.bool t,TL g b.length k] 137))) T1;have o2:zJ a w6.heap.size (TL i c.length l) c:=zJ.below (zJ.below E (nbl w7 (L8 #[.bool y,TL i c.length l] 137))) T2;have o3:zJ a w8.heap.size (TL j f.length m) f:=zJ.below (zJ.below F (nbl w9 (L8 #[.bool z,TL j f.length m] 137))) T3;have P:BQ w a:=H.trans (c6.mono H.size);have z4:w.heap.size<w4.heap.size:=by have h1:=T.size;simp at h1;omega
 have z6:w.heap.size<w6.heap.size:=by have h1:=T0.size;have h2:=b8.size;have h3:=R.size;simp at h3;omega
 have z8:w.heap.size<w8.heap.size:=by have h2:=b9.size;have h3:=S.size;simp at h3;omega
 have k4:w.heap.size<d7.heap.size:=by have h2:=c0.size;have h3:=s.size;simp at h3;omega
 have bA:BQ w ((a.alloc (L8 #[S9 ES,.bool t,TL g b.length k,.bool y,TL i c.length l,.bool z,TL j f.length m,TL n cs.length o] 140)).alloc (L8 #[N,u1,u2,u3,O] 82)):=(P.alloc P.size _).alloc (by have:=P.size;simp;omega) _;have aA:=(T0.alloc T0.size (L8 #[S9 ES,.bool t,TL g b.length k,.bool y,TL i c.length l,.bool z,TL j f.length m,TL n cs.length o] 140)).alloc (by have:=T0.size;simp at this |-;omega) (L8 #[N,u1,u2,u3,O] 82);have e7:((a.alloc (L8 #[S9 ES,.bool t,TL g b.length k,.bool y,TL i c.length l,.bool z,TL j f.length m,TL n cs.length o] 140)).alloc (L8 #[N,u1,u2,u3,O] 82)).heap[a.heap.size]?=some (L8 #[S9 ES,.bool t,TL g b.length k,.bool y,TL i c.length l,.bool z,TL j f.length m,TL n cs.length o] 140):=(Zn a (L8 #[S9 ES,.bool t,TL g b.length k,.bool y,TL i c.length l,.bool z,TL j f.length m,TL n cs.length o] 140) (L8 #[N,u1,u2,u3,O] 82)).1;have e8:((a.alloc (L8 #[S9 ES,.bool t,TL g b.length k,.bool y,TL i c.length l,.bool z,TL j f.length m,TL n cs.length o] 140)).alloc (L8 #[N,u1,u2,u3,O] 82)).heap[a.heap.size+1]?=some (L8 #[N,u1,u2,u3,O] 82):=(Zn a (L8 #[S9 ES,.bool t,TL g b.length k,.bool y,TL i c.length l,.bool z,TL j f.length m,TL n cs.length o] 140) (L8 #[N,u1,u2,u3,O] 82)).2
 have e4:∀W:J,BQ w W->W.heap[a.heap.size+1]?=some (L8 #[N,u1,u2,u3,O] 82)->R8 109 #[TL (some (G8 (a.heap.size+1) 0)) 5 5] W λe w'=>∃u,e=.returned u/\FV (Z.qZ [EC,c1,c2,c3,cf]) u/\BQ W w':=λW hW hg=>
  Ua [EC,c1,c2,c3,cf] [N,u1,u2,u3,O] _ 5 W (c4 W hW) (by simp) (Py hg) (Ry g9 f8 f9 g8 h0)
 have q0:=g9.cells;have q1:=f8.cells;have q2:=f9.cells;have q3:=g8.cells;have q4:=h0.cells;have r:=G7 (ZH o1 (ZH o2 (ZH o3 G)));clear cR b5 cE a9 b0 b4 b6 A B C cF c4 o1 o2 o3 G D E F k1 k2 k3 T1 T2 T3 t5 t7 t9 T0 d4 Q d5 d6 b8 R b9 S c0 s c8 c9 d0 T a0 a4 a5 a6 d1 I a7 d2 K a8 d3 L H
 go_upto_region 10 with fail
 go_region_with (go_at_call 109;apply(e4 _ (by first|exact bA|exact bA.drew|exact bA.drew.drew) (by first|exact e8)).mono;rintro e i0⟨uR,rfl,h4,M⟩;have p:Below ((a.alloc (L8 #[S9 ES,.bool t,TL g b.length k,.bool y,TL i c.length l,.bool z,TL j f.length m,TL n cs.length o] 140)).alloc (L8 #[N,u1,u2,u3,O] 82)).heap.size ((a.alloc (L8 #[S9 ES,.bool t,TL g b.length k,.bool y,TL i c.length l,.bool z,TL j f.length m,TL n cs.length o] 140)).alloc (L8 #[N,u1,u2,u3,O] 82)) i0:=(by first|exact M|exact Xe M|exact Xe (Xe M));have q:=jS (aA.trans (p.mono aA.size));have r0:=(zg q 0).1;have r1:=(zg q 1).1;have r2:=(zg q 2).1;have r3:=(zg q 3).1;have r4:=(zg q 4).1;have r5:=(zg q 5).1;have r6:=(zg q 6).1;have r7:=(zg q 7).1;have f0:=(zg q 0).2;have f1:=(zg q 1).2;have f2:=(zg q 2).2;have f3:=(zg q 3).2;have f4:=(zg q 4).2;have f5:=(zg q 5).2;have f6:=(zg q 6).2;have f7:=(zg q 7).2;simp at r0 r1 r2 r3 r4 r5 r6 r7;have X:=(p.block a.heap.size (by simp;omega)).trans e7;have g0:=(zg X 0).1;have g1:=(zg X 1).1;have g2:=(zg X 2).1;have g3:=(zg X 3).1;have g4:=(zg X 4).1;have g5:=(zg X 5).1;have g6:=(zg X 6).1;have g7:=(zg X 7).1;simp at g0 g1 g2 g3 g4 g5 g6 g7)
 all_goals
  have s8:=EH q rfl (S9 ES) (.bool t) (TL g b.length k) (.bool y) (TL i c.length l) (.bool z) (TL j f.length m) (TL n cs.length o);unfold Qt Qs at s8;simp only[qV]at s8;obtain⟨s0,s1,s2,s3,s4,s5,s6,s7⟩:=s8;have BW:=G7 (bA.trans (p.mono bA.size));have AB:BQ a i0:=((nbl a (L8 #[S9 ES,.bool t,TL g b.length k,.bool y,TL i c.length l,.bool z,TL j f.length m,TL n cs.length o] 140)).alloc (by simp) (L8 #[N,u1,u2,u3,O] 82)).trans (p.mono (by simp;omega));have OW:=G7 (ZH (r.o.1.below AB) (ZH (r.o.2.1.below AB) (ZH (r.o.2.2.1.below AB) (r.o.2.2.2.below AB))));have j0:=G7 h4;clear h4 M p q X r AB q0 q1 q2 q3 q4 e4 e8 e7 bA aA;go_wp2_with fail
  exact zG (v := .tuple #[.agg #[S9 ES,.bool t,TL g b.length k,.bool y,TL i c.length l,.bool z,TL j f.length m,TL n cs.length o],uR]) (by simp[results,results61,go_sem,s0,s1,s2,s3,s4,s5,s6,s7]) rfl
   ⟨_,_,_,_,_,rfl,j0.o,EG BW.o F7 _ _ _ _ _ _ _ _,(nN OW.o.1 z4 _ _ _ _ _ _ _ _).mono (by omega),(nN OW.o.2.1 z6 _ _ _ _ _ _ _ _).mono (by omega),(nN OW.o.2.2.1 z8 _ _ _ _ _ _ _ _).mono (by omega),(zct OW.o.2.2.2 k4 _ _ _ _ _ _ _ _).mono (by omega)⟩
theorem zcR(x:Z.V)(u:Y)(w:J)(g:yF w)(d:OAt w (some x) u)(c:Z.Good 4000 x):R8 61 #[u] w (U0 w x):=by
 by_cases h:∃a,x=.obj a/\Z.qB a [Z.zM,Z.zY,Z.bDo,Z.bOn,Z.bIf]=true
 ·obtain⟨a,rfl,j⟩:=h;obtain⟨k,f,b,rfl,i⟩:=Um d;exact zcQ a k f b w ⟨g,i,c⟩ j
 refine zcP x u w d c (λa e=>?_)
 cases hc:Z.qB a [Z.zM,Z.zY,Z.bDo,Z.bOn,Z.bIf] with
 | false=>rfl
 | true=>exact absurd ⟨a,e,hc⟩ h
theorem QP{b w w':J}{R:Nat}(h:b.grownBy w (some R))(k:zQ b.heap.size R w w'):b.grownBy w' (some R):=
 ⟨k.os.trans h.os,k.tape.trans h.tape,k.output.trans h.output,xD h.size k.size,λi c a=>(k.block i c (λe=>a (by rw[e]))).trans (h.block i c a)⟩
theorem uP{B R b o:Nat}(w:J)(v:Y)(c:B<=b):zQ B R w (w.setCell (G8 b o) v):=
 ⟨rfl,rfl,rfl,by simp[World.setCell],λk a _=>qy w (G8 b o) v k (λe=>by have:k=b:=e;omega)⟩
theorem eQ(w:J)(b o:Nat)(v:Y)(k:Nat)(h:k≠b):(w.setCell (G8 b o) v).heap[k]?=w.heap[k]?:=qy w (G8 b o) v k h
theorem VX(w:J)(b:Nat)(u v:Y)(h:w.cell? (G8 b 0)=some u):(w.setCell (G8 b 0) v).cell? (G8 b 0)=some v:=by
 unfold World.cell? World.setCell at *;simp only[ax,qJ];simp only at h
 cases hb:w.heap[b]? with
 | none=>rw[hb]at h;simp at h
 | some o=>
  rw[hb]at h
  cases o with
  | cells c t f=>
   simp at h |-;have a:=(JI.1 h).1;simp[a]
  | _=>simp at h
theorem Bh(w:J)(b:Nat)(v:Y):(w.setCell (G8 b 0) v).frozen? (G8 b 0)=w.frozen? (G8 b 0):=by rw[V8]
theorem zas(s:BY)(R d F:Nat)(m:J)(hs:s.size<=4000)(hR:R<m.heap.size)(b2:R≠5)(d2:5<m.heap.size)(hd:d<=8)(hv:Xc s R F)(f:Nat)(acc:List Z.V)(q:Nat)(w:J)(hf:f<F)
  (X:XM m R s d acc q w)(hq:q<=s.size)(z:Z.blank (Z.zk s.data.toList q)=false)(b5:2*(s.size-q)<f):R8 191 #[RG m.heap.size 0,RG (m.heap.size+1) 0,RG (m.heap.size+2) 0] w λe H=>uD (XM m R s d) (VD m R) (Z.stL s.data.toList d f acc q) e H:=by
 obtain⟨i0,a5,a6,a7,a8⟩:=qU zfw;obtain⟨lv,us,c1,c2,c3,c4⟩:=X.row;have cx:=X.cx;have cd:=X.cd;have f2:=X.size;have e3:=X.len;have n:=hv f hf (d+1) q w X.rd X.seq hq (by omega) (by omega) z b5;rw[show ((d+1:Nat):Int)=(d:Int)+1 by omega]at n;have S:Z.stL s.data.toList d f acc q=Z.stL s.data.toList d f acc q:=rfl
 conv at S=>rhs;unfold Z.stL
 have⟨HI,c9⟩:=D5 X c4;have y:=G7 (λk C=>World.ownsRow.lt c3 k C);have d4:us.length=acc.length:=by have:=c3.1;omega
 have b1:=G7 (λv q2 hx=>Z.fD (l:=s.data.toList) (f:=f) (d:=d+1) (p:=q) (q:=q2) (v:=v) (by omega) (by rw[U.zF];omega) z (by rw[U.zF];omega) hx);have a2:some (m.heap.size+2)≠lv.ownBlock:=λe=>by have:=(y.o _ e.symm).1;omega
 have⟨G,L⟩:=D5 a2 d2;clear X z b5 hv c4 a2
 cases hx:Z.qL s.data.toList f (d+1) q with
 | ok v q2=>
  rw[hx]at n S;simp only at S;have b3:=b1.o v q2 hx;rw[U.zF]at b3;have HE:=G7 S
  have t:=n.mono (R':=λe H=>∃T x,e=.returned (.tuple #[.iface T x,.nilIface])/\ValAt H (Blk w H) v (.iface T x)/\w.grownBy H (some R)/\zw H R s q2) (by
   rintro e H⟨u,rfl,h1,Q,h3⟩;obtain⟨T,x,rfl⟩:=h1.iface;exact⟨T,x,rfl,h1,Q,h3⟩)
  clear n hx S;go_enter func191,ntmps191
  go_wp2_with(first
   |(go_at_call 100;apply t.mono;rintro e r⟨T,x,rfl,d6,i,b6⟩;have k1:=i.cell c1 (by simp;omega);have o1:=kL c3 i (by omega))
   | (at_builtin;refine Yp _ rfl _ _ 128 rfl (m.heap.size+3) 121 i0 .nilIface 1 16 underlying128 a5 a6 a7 a8 rfl (by decide) _ _ _ rfl (o1.alloc _) (G8 r.heap.size 0) 1 1 [.iface T x] rfl rfl ?c1 ?c2 ?c3 ?c4 ?c5 ?_))
  case c1=>exact VW _ _ _
  case c2=>intro u I;simp at I;subst I;rfl
  case c3=>unfold maxLen;omega
  case c4=>omega
  case c5=>have:=i.size;simp;omega
  intro v' A D o _ a1
  obtain⟨O,P,rfl⟩:∃a c,v'=TL a (acc.length+1) c:=by
   rcases D.2 with⟨_,h⟩|⟨g,c,cur,h,_⟩
   ·omega
   exact⟨_,_,h⟩
  have W:=nbl r (L8 #[.iface T x] 121);have M:m.heap.size+2<r.heap.size:=by have:=i.size;omega
  have k3:A.cell? (G8 (m.heap.size+2) 0)=some lv:=o.cell (zi W k1) G.o
  have f3:A.frozen? (G8 (m.heap.size+2) 0)=false:=by
   rw[vw (w:=r.alloc (L8 #[.iface T x] 121)) (a:=(G8 (m.heap.size+2) 0)) (o.block _ (by simp;omega) G.o),vw (w:=r) (a:=(G8 (m.heap.size+2) 0)) (W.block _ M),vw (w:=w) (a:=(G8 (m.heap.size+2) 0)) (i.block _ (by show m.heap.size+2<_;omega) (by simp;omega))];exact c2
  have B:zQ m.heap.size R w (A.setCell (G8 (m.heap.size+2) 0) (TL O (acc.length+1) P)):=
   (((zQ.of i (by omega)).trans (zQ.own (yG r _ none) (λk C=>by cases C) (by omega))).trans (zQ.own o (λk C=>by have:=(y.o k C).1;omega) (by simp;omega))).trans (uP A _ (by omega))
  have K:=G7 B;clear B
  have b4:∀b,b<r.heap.size->lv.ownBlock≠some b->b≠m.heap.size+2->(A.setCell (G8 (m.heap.size+2) 0) (TL O (acc.length+1) P)).heap[b]?=r.heap[b]?:=λb h1 Q h3=>by
   rw[eQ _ _ _ _ _ h3,o.block b (by simp;omega) (λe=>Q e.symm),W.block b h1]
  have E:=G7 b4;clear b4;go_wp2;go_ret;refine uD.of ?_ HE.o;have e4:=i.size;have b7:=o.size;simp at b7
  have d8:(A.setCell (G8 (m.heap.size+2) 0) (TL O (acc.length+1) P)).cell? (G8 m.heap.size 0)=some (RG R 0):=by
   rw[Xd (w:=r) (a:=G8 m.heap.size 0) (E.o m.heap.size (by omega) (λe=>by have:=(y.o _ e).1;omega) (by omega))];exact i.cell cx (by simp;omega)
  have d1:(A.setCell (G8 (m.heap.size+2) 0) (TL O (acc.length+1) P)).cell? (G8 (m.heap.size+1) 0)=some (R9 (d:Int)):=by
   rw[Xd (w:=r) (a:=(G8 (m.heap.size+1) 0)) (E.o (m.heap.size+1) (by omega) (λe=>by have:=(y.o _ e).1;omega) (by omega))];exact i.cell cd (by simp;omega)
  have d7:∀k,(Value.slice O (acc.length+1) P).ownBlock=some k->m.heap.size+3<=k/\k<A.heap.size:=λk C=>World.ownsRow.lt D k C;refine⟨rfl,b6.same (E.o R (by have:=b6.lt;omega) (λe=>by have:=(y.o _ e).1;omega) (by omega)),(HI.o.seq.grown i b2).same (E.o _ (HI.o.seq.grown i b2).lt (λe=>by have:=(y.o _ e).1;have:=HI.o.seq.lt;have:=L.o;omega) (by have:=L.o;omega)),QP HI.o.grown K.o,by rw[Yi];omega,by simp;omega,d8,d1,TL O (acc.length+1) P,us++[.iface T x],VX _ _ _ _ k3,by rw[Bh];exact f3,?_,?_⟩
  ·rw[qE];exact D.kept (jR _ _ _ _) (.inr (λe=>by have:=(d7 _ e).1;omega))
  ·intro j v2 u a0 d3
   rcases Ff d3 with⟨hj,I⟩|⟨hj,I⟩
   ·have d5:acc[j]?=some v2:=by
     rw[P9]at a0;exact a0
    refine(c9.o j v2 u d5 I).move (λb z=>⟨z.1,by rw[Yi];omega,λe=>?_⟩) (λb z=>?_)
    ·rcases a1 with h|h
     ·exact z.2.2 (h.symm.trans e)
     rw[h]at e;simp at e;omega
    rw[E.o b (by omega) z.2.2 (by omega)];exact i.block b z.2.1 (by simp;omega)
   ·rw[d4]at hj;subst hj I;simp at a0;subst a0;refine d6.move (λb z=>⟨by have:=z.1;omega,by have:=z.2;rw[Yi];omega,λe=>?_⟩) (λb z=>?_)
    ·have h1:=z.1;have Q:=z.2
     rcases a1 with h|h
     ·have:=(y.o b (h.symm.trans e)).2;omega
     rw[h]at e;simp at e;omega
    ·have h1:=z.1;have Q:=z.2;exact E.o b Q (λe=>by have:=(y.o b e).2;omega) (by omega)
 | err c q2=>
  rw[hx]at n S;simp only at S;obtain⟨T2,N⟩:=V7 c q2;have HE:=G7 S;have HT:=G7 N
  cases hsb:starts s q with
  | true=>
   rw[hsb]at n
   have t:=n.mono (R':=λe H=>(∃T x,e=.returned (.tuple #[.iface T x,.iface T2 (.agg #[R9 (q2:Int)])]))/\w.grownBy H (some R)) (by
    rintro e H⟨u,rfl,⟨ha,z⟩,Q⟩;obtain⟨T,x,rfl⟩:=ha rfl;exact⟨⟨T,x,by rw[N]⟩,Q⟩)
   clear n hx S N;go_enter func191,ntmps191
   go_wp2_with(first
    |(go_at_call 100;apply t.mono;rintro e r⟨⟨T,x,rfl⟩,i⟩;have k1:=i.cell c1 (by simp;omega);have o1:=kL c3 i (by omega))
    | (at_builtin;refine Yp _ rfl _ _ 128 rfl (m.heap.size+3) 121 i0 .nilIface 1 16 underlying128 a5 a6 a7 a8 rfl (by decide) _ _ _ rfl (o1.alloc _) (G8 r.heap.size 0) 1 1 [.iface T x] rfl rfl ?c1 ?c2 ?c3 ?c4 ?c5 ?_))
   case c1=>exact VW _ _ _
   case c2=>intro u I;simp at I;subst I;rfl
   case c3=>unfold maxLen;omega
   case c4=>omega
   case c5=>have:=i.size;simp;omega
   intro v' A D o _ _
   obtain⟨O,P,rfl⟩:∃a c,v'=TL a (acc.length+1) c:=by
    rcases D.2 with⟨_,h⟩|⟨g,c,cur,h,_⟩
    ·omega
    exact⟨_,_,h⟩
   have W:=nbl r (L8 #[.iface T x] 121);have M:m.heap.size+2<r.heap.size:=by have:=i.size;omega
   have k3:A.cell? (G8 (m.heap.size+2) 0)=some lv:=o.cell (zi W k1) G.o
   have f3:A.frozen? (G8 (m.heap.size+2) 0)=false:=by
    rw[vw (w:=r.alloc (L8 #[.iface T x] 121)) (a:=(G8 (m.heap.size+2) 0)) (o.block _ (by simp;omega) G.o),vw (w:=r) (a:=(G8 (m.heap.size+2) 0)) (W.block _ M),vw (w:=w) (a:=(G8 (m.heap.size+2) 0)) (i.block _ (by show m.heap.size+2<_;omega) (by simp;omega))];exact c2
   have B:zQ m.heap.size R w (A.setCell (G8 (m.heap.size+2) 0) (TL O (acc.length+1) P)):=
    (((zQ.of i (by omega)).trans (zQ.own (yG r _ none) (λk C=>by cases C) (by omega))).trans (zQ.own o (λk C=>by have:=(y.o k C).1;omega) (by simp;omega))).trans (uP A _ (by omega))
   have K:=G7 B;clear B;go_wp2;go_ret;refine uD.of ?_ HE.o;exact⟨by rw[HT.o];rfl,QP HI.o.grown K.o,_,VX _ _ _ _ k3⟩
  | false=>
   rw[hsb]at n
   have t:=n.mono (R':=λe H=>e=.returned (.tuple #[.nilIface,.iface T2 (.agg #[R9 (q2:Int)])])/\w.grownBy H (some R)) (by
    rintro e H⟨u,rfl,⟨ha,z⟩,Q⟩;obtain rfl:=z rfl;exact⟨by rw[N],Q⟩)
   clear n hx S N;go_enter func191,ntmps191
   go_wp2_with(first
    |(go_at_call 100;apply t.mono;rintro e r⟨rfl,i⟩;have k1:=i.cell c1 (by simp;omega);have o1:=kL c3 i (by omega))
    | (at_builtin;refine Yp _ rfl _ _ 128 rfl (m.heap.size+3) 121 i0 .nilIface 1 16 underlying128 a5 a6 a7 a8 rfl (by decide) _ _ _ rfl (o1.alloc _) (G8 r.heap.size 0) 1 1 [.nilIface] rfl rfl ?c1 ?c2 ?c3 ?c4 ?c5 ?_))
   case c1=>exact VW _ _ _
   case c2=>intro u I;simp at I;subst I;rfl
   case c3=>unfold maxLen;omega
   case c4=>omega
   case c5=>have:=i.size;simp;omega
   intro v' A D o _ _
   obtain⟨O,P,rfl⟩:∃a c,v'=TL a (acc.length+1) c:=by
    rcases D.2 with⟨_,h⟩|⟨g,c,cur,h,_⟩
    ·omega
    exact⟨_,_,h⟩
   have W:=nbl r (L8 #[.nilIface] 121);have M:m.heap.size+2<r.heap.size:=by have:=i.size;omega
   have k3:A.cell? (G8 (m.heap.size+2) 0)=some lv:=o.cell (zi W k1) G.o
   have f3:A.frozen? (G8 (m.heap.size+2) 0)=false:=by
    rw[vw (w:=r.alloc (L8 #[.nilIface] 121)) (a:=(G8 (m.heap.size+2) 0)) (o.block _ (by simp;omega) G.o),vw (w:=r) (a:=(G8 (m.heap.size+2) 0)) (W.block _ M),vw (w:=w) (a:=(G8 (m.heap.size+2) 0)) (i.block _ (by show m.heap.size+2<_;omega) (by simp;omega))];exact c2
   have B:zQ m.heap.size R w (A.setCell (G8 (m.heap.size+2) 0) (TL O (acc.length+1) P)):=
    (((zQ.of i (by omega)).trans (zQ.own (yG r _ none) (λk C=>by cases C) (by omega))).trans (zQ.own o (λk C=>by have:=(y.o k C).1;omega) (by simp;omega))).trans (uP A _ (by omega))
   have K:=G7 B;clear B;go_wp2;go_ret;refine uD.of ?_ HE.o;exact⟨by rw[HT.o];rfl,QP HI.o.grown K.o,_,VX _ _ _ _ k3⟩
def pY(w:J)(R:Nat)(s:BY)(r:Z.Res (List Z.V))(e:Ending)(w':J):Prop:=match r with
 | .ok b q=>∃a,e=.returned (.tuple #[a,.nilIface])/\ValAt w' (Blk w w') (.list b) (.iface 128 a)/\w.grownBy w' (some R)/\zw w' R s q
 | .err c q=>∃a,e=.returned (.tuple #[a,Qn c q])/\w.grownBy w' (some R)
theorem zau(s:BY)(R d F:Nat)(b:J)(u:s.size<=4000)(m:R<b.heap.size)(e:R≠5)(k:5<b.heap.size)(x:Xc s R F):Reads s R 191 #[RG b.heap.size 0,RG (b.heap.size+1) 0,RG (b.heap.size+2) 0] (Z.stL s.data.toList d) F d (XM b R s d) (VD b R) where
 rd:=λ_ _ _ h=>h.rd
 mv:=λ_ _ _ _ _ h g p t=>h.mv m e g p t
 bad:=λ_ _ _ h=>by
  obtain⟨y,C,c1,_⟩:=h.row;exact⟨h.grown,y,c1⟩
 adv:=λf a q A B g i n h=>by
  unfold Z.stL at h
  cases hx:Z.qL s.data.toList f (d+1) q with
  | ok v z=>
   rw[hx]at h;injection h with h1 h2
   have:=Z.fD (l:=s.data.toList) (f:=f) (d:=d+1) (by omega) (by rw[U.zF];omega) i (by rw[U.zF];omega) hx
   rw[U.zF]at this;rw[<- h2];exact this
  | err c z=>rw[hx]at h;cases h
 one:=λf a q w n o r g i j=>zas s R d F b u m e k o x f a q w n r g i j
theorem XM.val{c:J}{R:Nat}{s:BY}{d:Nat}{acc:List Z.V}{q:Nat}{w:J}(h:XM c R s d acc q w):∃f,w.cell? (G8 (c.heap.size+2) 0)=some f/\ValAt w (Blk c w) (.list acc) (.iface 128 f):=by
 obtain⟨f,i,c1,c2,c3,c4⟩:=h.row;refine⟨f,c1,?_⟩;have p:=c3.1;have a:∀(j:Nat) (v:Z.V) (u:Y),acc[j]?=some v->i[j]?=some u->ValAt w (Blk c w) v u:=λj v u o l=>(c4 j v u o l).move (λb m=>⟨by omega,m.2.1⟩) (λ_ _=>rfl)
 rcases c3.2 with⟨rfl,h0⟩|⟨g,cap,cur,rfl,hB,hg,hrest⟩
 ·have e:i=[]:=Yx (by omega);subst e;exact .list acc [] none 0 (by simp;omega) (.inl rfl) a
 have n:=World.ownsRow.cells c3 (g:=g) rfl;have k:=(JI.1 hg).1
 have:=ValAt.list (w:=w) (S:=Blk c w) acc i (some (G8 g 0)) cap (by omega) (.inr ⟨g,rfl,⟨by omega,k⟩,λj u l=>by have:=n j u l;rw[addr_add]at this;simpa using this⟩) a
 rwa [show i.length=acc.length by omega]at this
theorem iA(w:J)(a:Y)(t:TypeId):(w.alloc (L8 #[a] t)).cell? (G8 w.heap.size 0)=some a:=by
 simp only[World.cell?,zA w (L8 #[a] t)];rfl
theorem Rw(w:J)(a:Y)(t:TypeId):(w.alloc (L8 #[a] t)).frozen? (G8 w.heap.size 0)=false:=by
 simp only[World.frozen?,zA w (L8 #[a] t)];rfl
theorem size_alloc(w:J)(o:Obj):(w.alloc o).heap.size=w.heap.size+1:=by simp
theorem Gq(w:J)(a b c:Y)(d e f:TypeId):(((w.alloc (L8 #[a] d)).alloc (L8 #[b] e)).alloc (L8 #[c] f)).cell? (G8 w.heap.size 0)=some a /\
  (((w.alloc (L8 #[a] d)).alloc (L8 #[b] e)).alloc (L8 #[c] f)).cell? (G8 (w.heap.size+1) 0)=some b /\
  (((w.alloc (L8 #[a] d)).alloc (L8 #[b] e)).alloc (L8 #[c] f)).cell? (G8 (w.heap.size+2) 0)=some c /\
  (((w.alloc (L8 #[a] d)).alloc (L8 #[b] e)).alloc (L8 #[c] f)).frozen? (G8 (w.heap.size+2) 0)=false:=by
 have g:=size_alloc w (L8 #[a] d);have h:=size_alloc (w.alloc (L8 #[a] d)) (L8 #[b] e);have c1:=iA w a d;have c2:=iA (w.alloc (L8 #[a] d)) b e;have c3:=iA ((w.alloc (L8 #[a] d)).alloc (L8 #[b] e)) c f;have f3:=Rw ((w.alloc (L8 #[a] d)).alloc (L8 #[b] e)) c f;rw[g]at c2;rw[h,g]at c3 f3;exact⟨(yG _ _ none).cell ((yG _ _ none).cell c1 (by simp)) (by simp),(yG _ _ none).cell c2 (by simp),c3,f3⟩
theorem zat(s:BY)(R p d F:Nat)(w:J)(z:zw w R s p)(y:qO w)(m:R≠5)(L:p<s.size)(G:s.size<=4000)(P:d<=9)(r:Xc s R F)(hF:2*(s.size-(p+1))+1<F):R8 151 #[RG R 0,R9 (d:Int)] w λe f=>pY w R s (Z.Ze s.data.toList (Z.stL s.data.toList d) 93 F d [] p) e f:=by
 have K:=z.lt;have x:=y.lt;have H:L9 191:=qo func191 (by kernel_rfl) rfl;have n:∀A B C:Obj,w.grownBy (((w.alloc A).alloc B).alloc C) (some R):=λA B C=>qg (qg (yG w A _) (yG _ B _)) (yG _ C _)
 have g:XM w R s d [] p (((w.alloc (L8 #[RG R 0] 212)).alloc (L8 #[R9 (d:Int)] 3)).alloc (L8 #[R4] 128)):=by
  have o:=Gq w (RG R 0) (R9 (d:Int)) R4 212 3 128;exact⟨((z.alloc _).alloc _).alloc _,y.grown (n _ _ _) m,n _ _ _,by simp,zD _,o.1,o.2.1,R4,[],o.2.2.1,o.2.2.2,qF _ _ _ _,λj v u r=>by simp at r⟩
 have a:=BK s R p d 93 191 F _ (Z.stL s.data.toList d) (XM w R s d) (VD w R) [] _ H (zau s R d F w G K m x r) g L G (by omega) (by decide) (by decide) hF;clear g r z y
 cases hx:Z.Ze s.data.toList (Z.stL s.data.toList d) 93 F d [] p with
 | ok N q=>
  rw[hx]at a
  have i:=a.mono (R':=λe f=>e=.returned .nilIface/\∃b,f.cell? (G8 (w.heap.size+2) 0)=some b/\ValAt f (Blk w f) (.list N) (.iface 128 b)/\w.grownBy f (some R)/\zw f R s q) (by
   rintro e f⟨rfl,h⟩;obtain⟨b,t,I⟩:=h.val;exact⟨rfl,b,t,I,h.grown,h.rd⟩)
  clear a hx;go_enter func151,ntmps151;go_wp2_with(go_at_call 188;apply i.mono;rintro e O⟨rfl,b,M,E,l,D⟩);go_ret2;exact⟨b,rfl,E,l,D⟩
 | err c q=>
  rw[hx]at a
  have i:=a.mono (R':=λe f=>e=.returned (Qn c q)/\∃b,f.cell? (G8 (w.heap.size+2) 0)=some b/\w.grownBy f (some R)) (by
   rintro e f⟨rfl,h,b,t⟩;exact⟨rfl,b,t,h⟩)
  clear a hx;go_enter func151,ntmps151;go_wp2_with(go_at_call 188;apply i.mono;rintro e O⟨rfl,b,M,l⟩);go_ret2;exact⟨b,rfl,l⟩
end Go.Proofs.YtfjpcldndaiifaaGreatDoor
