/- P -/
import Derived.Test.YtagnlbgbnfnapaaGreatDoorZ13
open Go.Proofs.Tryz
set_option maxRecDepth 100000
set_option maxHeartbeats 1000000
namespace Go.Proofs.YtagnlbgbnfnapaaGreatDoor
open Go.RowKit
structure Zw (w:World) (ms:List (BA×Rd.V)) (us:List (BA×Value)) (ao:Option Addr):Prop where
 names:us.map Prod.fst=ms.map Prod.fst
 mems:XV w ao us
 vals:∀(j:Nat) (x:BA×Rd.V) (u:BA×Value),ms[j]?=some x->us[j]?=some u->ValAt w (λb=>b<w.heap.size) x.2 u.2
theorem Vb{w:World}{ms:List (BA×Rd.V)}{u:Value}(h:OAt w (some (.obj ms)) u):∃a ao cap,u = .iface 122 (.slice ao a.length cap)/\Zw w ms a ao:=by
 have g:ValAt w (λb=>b<w.heap.size) (.obj ms) u:=h
 cases g with
 | obj _ a ao cap d c e=>
  refine⟨a,ao,cap,rfl,d,?_,e⟩
  rcases c with c|⟨b,ha,_,hc⟩
  ·exact .inl c
  ·exact .inr ⟨b,0,ha,λj f=>by simp only[qM];exact hc j _ (zt f)⟩
theorem Zw.len{w:World}{ms:List (BA×Rd.V)}{a:List (BA×Value)}{ao:Option Addr}(h:Zw w ms a ao):a.length=ms.length:=by
 have:=congrArg List.length h.names
 simpa using this
theorem Zw.below{w e:World}{ms:List (BA×Rd.V)}{d:List (BA×Value)}{ao:Option Addr}(h:Zw w ms d ao)(hb:Below w.heap.size w e):Zw e ms d ao:=
 ⟨h.names,Kj h.mems hb,λj x u g f=>(h.vals j x u g f).move (λ_ c=>xx c hb.size) (λb a=>hb.block b a)⟩
theorem Zw.ifaces{w:World}{ms:List (BA×Rd.V)}{b:List (BA×Value)}{ao:Option Addr}(h:Zw w ms b ao):∀m ∈ b,∃T x,m.2 = .iface T x:=by
 intro m d;obtain⟨j,c,rfl⟩:=Ql d;have a:j<ms.length:=by have:=h.len;omega
 exact (h.vals j ms[j] b[j] (zt a) (zt c)).iface
theorem pU{w:World}(nm:BA):∀{ms:List (BA×Rd.V)} {a:List (BA×Value)},a.map Prod.fst=ms.map Prod.fst ->
  (∀(j:Nat) (x:BA×Rd.V) (u:BA×Value),ms[j]?=some x->a[j]?=some u->ValAt w (λb=>b<w.heap.size) x.2 u.2)->OAt w (Rd.zl ms nm) (xA a nm)
 | [],[],_,_=>rfl
 | [],_::_,h,_=>by simp at h
 | _::_,[],h,_=>by simp at h
 | m::ms,u::a,h,hv=>by
  simp only[vw,List.cons.injEq] at h;unfold Rd.zl xA;rw[UA,UA,h.1]
  cases e:(m.1.toList==nm.toList) with
  | true=>exact hv 0 m u rfl rfl
  | false=>exact pU nm h.2 (λj x y c d=>hv (j+1) x y (by simpa using c) (by simpa using d))
theorem Zw.get{w:World}{ms:List (BA×Rd.V)}{a:List (BA×Value)}{ao:Option Addr}(h:Zw w ms a ao)(nm:BA):OAt w (Rd.zl ms nm) (xA a nm):=pU nm h.names h.vals
theorem gm{w:World}{ms:List (BA×Rd.V)}{a:List (BA×Value)}{ao:Option Addr}(cap:Nat)(h:Zw w ms a ao)(c:ms.length<=4000)(nm:BA) :
  Calls prog 53 #[.slice ao a.length cap,.string nm] w λe b=>e = .returned (xA a nm)/\Below w.heap.size w b:=
 dC a ao cap nm w (by have:=h.len;omega) h.mems h.ifaces
theorem Nb(g:List BA)(d:Option Addr)(b:Nat)(m:BA×Value)(B:Nat)(w:World)(n:g.length<=100)(i:kI w d g)(k:w.cell? ⟨B,0,none⟩=some (.slice d g.length b)) :
  Calls prog 145 #[QE m,.pointer (some ⟨B,0,none⟩)] w λe j=>e = .returned (.bool (g.any λs=>s.toList==m.1.toList))/\Below w.heap.size w j:=by
 obtain⟨a,v⟩:=m;unfold QE;simp only;have l:=λO:Obj=>zh (nB w O) k;have f:=λO:Obj=>nB w O;have c:=λO:Obj=>rz g a d b (w.alloc O) (by omega) (Zo i (f O));generalize g.any (λs=>s.toList==a.toList)=F at c;clear i;go_enter func145,ntmps145
 go_wp2_with (go_at_call 146;refine (c _).mono ?_;rintro e j ⟨rfl,h⟩)
 go_ret;exact⟨rfl,(f _).trans (h.mono (f _).size)⟩
theorem Dz(ms:List (BA×Rd.V))(b:List (BA×Value))(e:List BA)(h:b.map Prod.fst=ms.map Prod.fst) :
  uz (λj=>e.any λs=>s.toList==(vY b j).1.toList) b.length=Rd.qh ms e:=by
 have f:uz (λj=>e.any λs=>s.toList==(vY b j).1.toList) b.length=(b.map Prod.fst).all (λa=>e.any λs=>s.toList==a.toList):=by
  unfold uz;rw[List.all_map,vk,vP,vP]
  constructor
  ·intro h m g;obtain⟨j,d,rfl⟩:=Ql g
   have:=h j (vQ.2 d)
   rw[Yq b j d] at this;exact this
  ·intro h j d;have c:=vQ.1 d;rw[Yq b j c];exact h _ (xg c)
 rw[f,h,List.all_map]
 rfl
def Uv(w:World)(e:Ending)(a:World):Prop:=∃p,e = .returned (.tuple #[.slice none 0 0,.iface 129 (.agg #[.string p])])/\Below w.heap.size w a
theorem Ud(ms:List (BA×Rd.V))(i:List (BA×Value))(ao:Option Addr)(cap:Nat)(f:List BA)(c:Option Addr)(a:Nat)(w:World)(p:f.length<=100)(r:ms.length<=4000)(o:kI w c f)(h:Zw w ms i ao)(b:Bool)(n:Rd.qh ms f=b) :
  Calls prog 96 #[.iface 122 (.slice ao i.length cap),.slice c f.length a] w λe k=>
   if b then (e = .returned (.tuple #[.slice ao i.length cap,.nilIface])/\Below w.heap.size w k) else Uv w e k:=by
 have d:=nB w (.cells #[.slice c f.length a] 48);have m:∀args w,(callFunc 145 args).run prog w = .ok (.enter 145 args) w:=qx func145 (by kernel_rfl) rfl
 have l:=Dx i ao cap 145 #[.pointer (some ⟨w.heap.size,0,none⟩)] (λj=>f.any λs=>s.toList==(vY i j).1.toList) (w.alloc (.cells #[.slice c f.length a] 48)) (by have:=h.len;omega) m
  (Kj h.mems d) h.ifaces (λW j q hb=>Nb f c a (vY i j) w.heap.size W p (Zo o (d.trans (hb.mono (by simp)))) (zh hb (by simp)))
 rw[Dz ms i f h.names,n] at l;have t:=iI;clear m h o n
 cases b with
 | true=>
  simp only[qO];go_enter func96,ntmps96
  go_wp2_with (go_at_call 147;refine l.mono ?_;rintro e k ⟨rfl,g⟩)
  go_ret2;exact⟨rfl,d.trans (g.mono (by simp))⟩
 | false=>
  simp only[yB,yu];go_enter func96,ntmps96
  go_wp2_with (go_at_call 147;refine l.mono ?_;rintro e k ⟨rfl,g⟩)
  go_ret2;exact⟨_,rfl,d.trans (g.mono (by simp))⟩
theorem iH{w:World}{x:Option Rd.V}{u:Value}(h:OAt w x u)(d:∀ms,x≠some (.obj ms))(W:World):(Instr.typeAssert u 118 122 true).run prog W = .ok (.tuple #[.slice none 0 0,.bool false]) W:=by
 cases x with
 | none=>
  have a:u = .nilIface:=h;subst a;exact zal W
 | some v=>
  have c:ValAt w (λb=>b<w.heap.size) v u:=h
  cases c with
  | str s=>exact zam _ W
  | word b=>exact zan _ W
  | list e=>exact zak _ W
  | obj ms=>exact absurd rfl (d ms)
theorem AQ(x:Option Rd.V)(u:Value)(n:Nat)(b:Option Addr)(a:Nat)(w:World)(f:OAt w x u)(d:∀ms,x≠some (.obj ms)) :
  Calls prog 96 #[u,.slice b n a] w (Uv w):=by
 have g:=λW=>iH f d W;have c:=nB w (.cells #[.slice b n a] 48);have e:=f.form;clear f d
 rcases e with rfl|⟨T,y,rfl⟩
 ·go_enter func96,ntmps96
  go_wp2
  go_ret2;exact⟨_,rfl,c⟩
 ·go_enter func96,ntmps96
  go_wp2
  go_ret2;exact⟨_,rfl,c⟩
theorem qb{w:World}{base:Nat}{e:TypeId}{v:Value}{n:Nat}{xs:List Value}(h:w.ownsRow base e 1 v n xs){b:Nat}(hb:b<base)(o:Nat)(u:Value):(w.setCell ⟨b,o,none⟩ u).ownsRow base e 1 v n xs:=
 yh h (a:=⟨b,o,none⟩) (by intro c;have:=(h.lt b c).1;omega) u
theorem jV{w:World}{base:Nat}{e:TypeId}{v:Value}{n:Nat}{xs:List Value}(h:w.ownsRow base e 1 v n xs):∃a c,v = .slice a n c:=by
 rcases h.2 with ⟨rfl,rfl⟩|⟨g,c,cur,rfl,_⟩
 ·exact⟨_,_,rfl⟩
 ·exact⟨_,_,rfl⟩
theorem ja{w W:World}{O:Obj}(hb:Below (w.alloc O).heap.size (w.alloc O) W):W.heap[w.heap.size]?=some O:=(hb.block _ (by simp)).trans (zL w O)
def chS:Option Rd.V->Bool×List BA
 | some (.obj ms)=>if Rd.qh ms [Ref.qH] then (true,Rd.qW Rd.strOf (Rd.zl ms Ref.qH)) else (false,[])
 | x=>(false,Rd.qW Rd.strOf x)
def YM(w:World)(x:Option Rd.V)(e:Ending)(b:World):Prop:=
 ∃a u,e = .returned (.tuple #[.agg #[.bool (chS x).1,a],u])/\FV (Rd.chC x) u/\Below w.heap.size w b/\b.ownsRow w.heap.size 9 1 a (chS x).2.length ((chS x).2.map Value.string)
theorem gW{w:World}(a:kL w):VC 149 #[] Rd.strOf Rd.yM 4000 w:=λW y u b d hb=>
 Sb y u W (a.below hb) d (λs c=>by have:=b _ c;cases this with|str _ h=>exact h)
theorem nJ(x:Option Rd.V)(a:∀ms,x≠some (.obj ms)):chS x=(false,Rd.qW Rd.strOf x)/\Rd.chC x=Rd.qP Rd.yM x:=by
 match x with
 | none=>exact⟨rfl,rfl⟩
 | some (.str s)=>exact⟨rfl,rfl⟩
 | some (.word b)=>exact⟨rfl,rfl⟩
 | some (.list vs)=>exact⟨rfl,rfl⟩
 | some (.obj ms)=>exact absurd rfl (a ms)
theorem RI(x:Option Rd.V)(u:Value)(w:World)(n:kL w)(l:OAt w x u)(z:∀v,x=some v->Rd.Good 4000 v)(g:∀ms,x≠some (.obj ms)) :
  Calls prog 99 #[u] w (YM w x):=by
 unfold YM;rw[(nJ x g).1,(nJ x g).2];have C:=λW=>iH l g W;have b:=nB w (.cells #[.bool false,.slice none 0 0] 134);have t:∀args w,(callFunc 149 args).run prog w = .ok (.enter 149 args) w:=qx func149 (by kernel_rfl) rfl;have c1:=Kq x u 149 #[] Rd.strOf Rd.yM 4000 (w.alloc (.cells #[.bool false,.slice none 0 0] 134)) (n.below b).err t (l.below b) z (gW (n.below b));obtain⟨m,j⟩:=Nm (Rd.qW Rd.strOf x);obtain⟨c,o⟩:=Nm (Rd.qP Rd.yM x);rw[j,o] at c1;rw[j,o];have p:=l.form;clear l g n t j o z
 rcases p with rfl|⟨T,y,rfl⟩
 ·go_enter func99,ntmps99
  go_wp2_with (go_at_call 148;refine c1.mono ?_;rintro e s ⟨B,v,rfl,i,d,a⟩;have h:Below w.heap.size w s:=b.trans (d.mono (by simp));obtain⟨q,r,rfl⟩:=jV a;have f:=ja d;have r0:=(zf f 0).1;have k:=(zf f 1).1;have A:=(zf f 0).2;have f1:=(zf f 1).2;simp at r0 k)
  exact qa (v := .tuple #[.agg #[.bool false,.slice q m.length r],v]) (by simp[results,results99,go_sem,r0,k]) rfl ⟨_,_,rfl,i,(h.setCell (ze _) _).setCell (ze _) _,kG (qb (qb a (by simp) _ _) (by simp) _ _) (by simp)⟩
 ·go_enter func99,ntmps99
  go_wp2_with (go_at_call 148;refine c1.mono ?_;rintro e s ⟨B,v,rfl,i,d,a⟩;have h:Below w.heap.size w s:=b.trans (d.mono (by simp));obtain⟨q,r,rfl⟩:=jV a;have f:=ja d;have r0:=(zf f 0).1;have k:=(zf f 1).1;have A:=(zf f 0).2;have f1:=(zf f 1).2;simp at r0 k)
  exact qa (v := .tuple #[.agg #[.bool false,.slice q m.length r],v]) (by simp[results,results99,go_sem,r0,k]) rfl ⟨_,_,rfl,i,(h.setCell (ze _) _).setCell (ze _) _,kG (qb (qb a (by simp) _ _) (by simp) _ _) (by simp)⟩
theorem RJ(ms:List (BA×Rd.V))(u:Value)(w:World)(K:kL w)(hx:OAt w (some (.obj ms)) u)(L:Rd.Good 4000 (.obj ms)) :
  Calls prog 99 #[u] w (YM w (some (.obj ms))):=by
 obtain⟨Q,ao,cap,rfl,G⟩:=Vb hx;have I:ms.length<=4000:=by cases L with|obj _ h=>exact h
 have H:=λv h=>Rd.yt L Ref.qH v h;unfold YM;have Z:chS (some (.obj ms))=if Rd.qh ms [Ref.qH] then (true,Rd.qW Rd.strOf (Rd.zl ms Ref.qH)) else (false,[]):=rfl
 have Y:Rd.chC (some (.obj ms))=if Rd.qh ms [Ref.qH] then Rd.qP Rd.yM (Rd.zl ms Ref.qH) else 1:=rfl
 rw[Z,Y];have ta:=iI;have M:=nB w (.cells #[.bool false,.slice none 0 0] 134);have m:=M.alloc (by simp) (.cells #[.string Ref.qH] 9);have S:∀args w,(callFunc 149 args).run prog w = .ok (.enter 149 args) w:=qx func149 (by kernel_rfl) rfl;obtain⟨b,hb⟩:=Nm (Rd.qh ms [Ref.qH])
 have t:=Ud ms Q ao cap [Ref.qH] (some ⟨w.heap.size+1,0,none⟩) 1 ((w.alloc (.cells #[.bool false,.slice none 0 0] 134)).alloc (.cells #[.string Ref.qH] 9)) (by simp) I
  (.inr ⟨w.heap.size+1,0,rfl,λj hj=>by
    simp only[xV] at hj
    have:j=0:=by omega
    subst this;have h:=zL (w.alloc (.cells #[.bool false,.slice none 0 0] 134)) (.cells #[.string Ref.qH] 9);rw[JG] at h;exact (zf h 0).1⟩) (G.below m) b hb
 rw[hb];have E:=λW (h:Below w.heap.size w W)=>gm (w:=W) cap (G.below h) I Ref.qH;have F:=λW (h:Below w.heap.size w W)=>Kq (Rd.zl ms Ref.qH) (xA Q Ref.qH) 149 #[] Rd.strOf Rd.yM 4000 W (K.below h).err S ((G.below h).get Ref.qH) H (gW (K.below h));have z:=(G.get Ref.qH).form;obtain⟨X,A⟩:=Nm (xA Q Ref.qH);rw[A] at z;simp only[A] at E F;simp only[xV] at t;obtain⟨J,B⟩:=Nm (Rd.qW Rd.strOf (Rd.zl ms Ref.qH));obtain⟨c,N⟩:=Nm (Rd.qP Rd.yM (Rd.zl ms Ref.qH));simp only[B,N] at F;rw[B,N];clear hx K S B N L G A hb Z Y H;unfold Ref.qH at t E m
 cases b with
 | false=>
  simp only[yB,yu] at t |-;clear F E z;go_enter func99,ntmps99
  go_wp2_with (go_at_call 96;refine t.mono ?_;rintro e C ⟨p,rfl,d⟩;have a:Below w.heap.size w C:=m.trans (d.mono (by simp;omega));have k:=ja (((zi _ (w.alloc (.cells #[.bool false,.slice none 0 0] 134))).alloc (ze _) _).trans (d.mono (by simp)));have r0:=(zf k 0).1;have r:=(zf k 1).1;have U:=(zf k 0).2;have f1:=(zf k 1).2;simp at r0 r)
  exact qa (v := .tuple #[.agg #[.bool false,.slice none 0 0],.iface 129 (.agg #[.string p])]) (by simp[results,results99,go_sem,r0,r]) rfl ⟨_,_,rfl,.inr (.inl ⟨rfl,_,rfl⟩),(a.setCell (ze _) _).setCell (ze _) _,jR _ _ _ _⟩
 | true=>
  simp only[qO] at t |-
  rcases z with rfl|⟨T,y,rfl⟩
  ·go_enter func99,ntmps99
   go_wp2_with (first
    | (go_at_call 148;refine (F D i).mono ?_;rintro e R ⟨lv,v,rfl,x,o,f⟩;have s:Below w.heap.size w R:=i.trans (o.mono i.size);obtain⟨O,P,rfl⟩:=jV f;have q:w.heap.size<D.heap.size:=(by have h1:=g.size;simp at h1;omega);have k:=ja (g.trans (o.mono g.size));have r0:=(zf k 0).1;have r:=(zf k 1).1;have U:=(zf k 0).2;have f1:=(zf k 1).2;simp at r0 r)
    | (go_at_call 53;refine (E C a).mono ?_;rintro e D ⟨rfl,n⟩;have i:Below w.heap.size w D:=a.trans (n.mono a.size);have g:=l.trans (n.mono l.size))
    | (go_at_call 96;refine t.mono ?_;rintro e C ⟨rfl,d⟩;have a:Below w.heap.size w C:=m.trans (d.mono (by simp;omega));have l:=((zi _ (w.alloc (.cells #[.bool false,.slice none 0 0] 134))).alloc (ze _) (.cells #[.string ⟨#[110,111,116]⟩] 9)).trans (d.mono (by simp))))
   exact qa (v := .tuple #[.agg #[.bool true,.slice O J.length P],v]) (by simp[results,results99,go_sem,r0,r]) rfl ⟨_,_,rfl,x,(s.setCell (ze _) _).setCell (ze _) _,kG (qb (qb f q _ _) q _ _) (by omega)⟩
  ·go_enter func99,ntmps99
   go_wp2_with (first
    | (go_at_call 148;refine (F D i).mono ?_;rintro e R ⟨lv,v,rfl,x,o,f⟩;have s:Below w.heap.size w R:=i.trans (o.mono i.size);obtain⟨O,P,rfl⟩:=jV f;have q:w.heap.size<D.heap.size:=(by have h1:=g.size;simp at h1;omega);have k:=ja (g.trans (o.mono g.size));have r0:=(zf k 0).1;have r:=(zf k 1).1;have U:=(zf k 0).2;have f1:=(zf k 1).2;simp at r0 r)
    | (go_at_call 53;refine (E C a).mono ?_;rintro e D ⟨rfl,n⟩;have i:Below w.heap.size w D:=a.trans (n.mono a.size);have g:=l.trans (n.mono l.size))
    | (go_at_call 96;refine t.mono ?_;rintro e C ⟨rfl,d⟩;have a:Below w.heap.size w C:=m.trans (d.mono (by simp;omega));have l:=((zi _ (w.alloc (.cells #[.bool false,.slice none 0 0] 134))).alloc (ze _) (.cells #[.string ⟨#[110,111,116]⟩] 9)).trans (d.mono (by simp))))
   exact qa (v := .tuple #[.agg #[.bool true,.slice O J.length P],v]) (by simp[results,results99,go_sem,r0,r]) rfl ⟨_,_,rfl,x,(s.setCell (ze _) _).setCell (ze _) _,kG (qb (qb f q _ _) q _ _) (by omega)⟩
theorem RL(x:Option Rd.V)(u:Value)(w:World)(a:kL w)(c:OAt w x u)(b:∀v,x=some v->Rd.Good 4000 v):Calls prog 99 #[u] w (YM w x):=by
 by_cases h:∃ms,x=some (.obj ms)
 ·obtain⟨ms,rfl⟩:=h;exact RJ ms u w a c (b _ rfl)
 ·exact RI x u w a c b (λms e=>h ⟨ms,e⟩)
theorem rG(s:BA)(w:World)(b:s.size<=4000):Calls prog 324 #[.string s] w λe a=>e = .returned (.bool (Rd.short s))/\Below w.heap.size w a:=by
 have e:Rd.short s=decide ((s.size:Int)<=60):=by unfold Rd.short;exact bO.2 (by omega)
 rw[e];go_enter func324,ntmps324
 go_wp2
 go_ret;exact⟨rfl,zi _ _⟩
theorem MH(s:BA)(w:World)(f:s.size<=4000):Calls prog 329 #[.string s] w λe d=>e = .returned (.bool (Rd.filled s))/\Below w.heap.size w d:=by
 have c:=rG s w f;unfold Rd.filled;generalize Rd.short s=R at c
 cases h:(s.toList==[]) with
 | true=>
  have a:s.toList.isEmpty=true:=by rw[au];simpa using h
  rw[a];clear c a;go_enter func329,ntmps329
  go_wp2
  go_ret;exact⟨rfl,zi _ _⟩
 | false=>
  have a:s.toList.isEmpty=false:=by
   cases e:s.toList.isEmpty with
   | false=>rfl
   | true=>rw[au] at e;rw[e] at h;simp at h
  rw[a];clear a;go_enter func329,ntmps329
  go_wp2_with (go_at_call 324;refine c.mono ?_;rintro e d ⟨rfl,b⟩)
  go_ret;exact⟨rfl,b⟩
theorem dI(s p:BA)(w:World)(R:Bool)(a:R=(decide (p.size<=s.size)&&((s.extract 0 p.size).toList==p.toList))) :
  Calls prog 338 #[.string s,.string p] w λe b=>e = .returned (.bool R)/\b=w:=by
 by_cases h:p.size<=s.size
 ·rw[zF h,Qg] at a;have d:decide ((p.size:Int)<=(s.size:Int))=true:=zF (by omega);subst a;go_enter func338,ntmps338
  go_wp2
  go_ret;exact⟨rfl,rfl⟩
 ·rw[zH h,X8] at a;have d:decide ((p.size:Int)<=(s.size:Int))=false:=zH (by omega);subst a;go_enter func338,ntmps338
  go_wp2
  go_ret;exact⟨rfl,rfl⟩
def unsigned(s:BA):BA:=if 0<s.size/\(s.data.toList.getD 0 0).toNat=45 then s.extract 1 s.size else s
theorem tC(s:BA):(decide ((⟨#[45]⟩:BA).size<=s.size)&&((s.extract 0 (⟨#[45]⟩:BA).size).toList==(⟨#[45]⟩:BA).toList))=decide (0<s.size/\(s.data.toList.getD 0 0).toNat=45):=by
 have b:(⟨#[45]⟩:BA).size=1:=rfl;have c:(⟨#[45]⟩:BA).toList=[45]:=by rw[QQ]
 rw[b,c,QQ]
 by_cases h:0<s.size
 ·rw[zF (show 1<=s.size from h),Qg]
  have d:(s.extract 0 1).data.toList=[s.data.toList.getD 0 0]:=by
   cases hl:s.data.toList with
   | nil=>have:=Ref.zP s;rw[hl] at this;simp at this;omega
   | cons a r=>simp[hl]
  rw[d,vk,decide_eq_true_iff];simp only[List.cons_beq_cons,BEq.rfl,YJ,Zz]
  constructor
  ·intro e;exact⟨h,by rw[e];rfl⟩
  ·intro e;exact UInt8.toNat.inj e.2
 ·rw[zH (show ¬1<=s.size by omega),X8,zH (λe=>h e.1)]
theorem zaF(s:BA)(w:World):Calls prog 333 #[.string s,.string ⟨#[45]⟩] w λe a=>e = .returned (.string (unsigned s))/\a=w:=by
 have c:=dI s ⟨#[45]⟩ w _ (tC s).symm
 have c2:Calls prog 339 #[.string s,.string ⟨#[45]⟩] w λe a=>e = .returned (.string (unsigned s))/\a=w:=by
  unfold unsigned
  by_cases h:0<s.size/\(s.data.toList.getD 0 0).toNat=45
  ·rw[zb h];rw[zF h] at c;have b:(1:Int)<=(s.size:Int):=by have:=h.1;omega
   clear h;go_enter func339,ntmps339
   go_wp2_with (go_at_call 338;refine c.mono ?_;rintro e a ⟨rfl,rfl⟩)
   go_ret;exact⟨rfl,rfl⟩
  ·rw[za h];rw[zH h] at c;clear h;go_enter func339,ntmps339
   go_wp2_with (go_at_call 338;refine c.mono ?_;rintro e a ⟨rfl,rfl⟩)
   go_ret;exact⟨rfl,rfl⟩
 clear c;go_enter func333,ntmps333
 go_wp2_with (go_at_call 339;refine c2.mono ?_;rintro e a ⟨rfl,rfl⟩)
 go_ret;exact⟨rfl,rfl⟩
def ZY(c:Nat):Bool:=decide (48<=c/\c<=57)
theorem MF(c:Nat)(w:World)(f:c<256) :
  Calls prog 334 #[.int .u8 (c:Int)] w λe d=>e = .returned (.bool (ZY c))/\d=w:=by
 by_cases h1:48<=c
 ·have a:decide ((48:Int)<=(c:Int))=true:=zF (by omega)
  by_cases h2:c<=57
  ·have b:decide ((c:Int)<=57)=true:=zF (by omega);have e:ZY c=true:=by unfold ZY;simp;omega
   rw[e];go_enter func334,ntmps334
   go_wp2
   go_ret;exact⟨rfl,rfl⟩
  ·have b:decide ((c:Int)<=57)=false:=zH (by omega);have e:ZY c=false:=by unfold ZY;simp;omega
   rw[e];go_enter func334,ntmps334
   go_wp2
   go_ret;exact⟨rfl,rfl⟩
 ·have a:decide ((48:Int)<=(c:Int))=false:=zH (by omega);have e:ZY c=false:=by unfold ZY;simp;omega
  rw[e];go_enter func334,ntmps334
  go_wp2
  go_ret;exact⟨rfl,rfl⟩
theorem MM(s:BA):Ref.xB s=((s.toList==[48])||Ref.Zj (unsigned s)):=rfl
theorem rH(s:BA)(w:World):Calls prog 325 #[.string s] w λe a=>e = .returned (.bool (Ref.xB s))/\Below w.heap.size w a:=by
 have d:=zaF s;rw[MM];obtain⟨t,k⟩:=Nm (unsigned s);simp only[k] at d;rw[k];clear k
 cases h0:(s.toList==[48]) with
 | true=>
  rw[YK];go_enter func325,ntmps325
  go_wp2_with (go_at_call 333;refine (d _).mono ?_;rintro e a ⟨rfl,rfl⟩)
  go_ret;exact⟨rfl,zi _ _⟩
 | false=>
  rw[Xo]
  by_cases h1:1<=t.size
  ·have n:decide ((0:Int)<(t.size:Int))=true:=zF (by omega)
   by_cases h2:t.size<=18
   ·have o:decide ((t.size:Int)<=18)=true:=zF (by omega);have m:0<t.size:=h1;have b:=Ref.U6 t m
    by_cases h3:(t[0].toNat:Int)=48
    ·have p:((t[0].toNat:Int) != 48)=false:=by simp[h3]
     have e:Ref.Zj t=false:=Ref.OM t m h3;rw[e];clear e b;go_enter func325,ntmps325
     go_wp2_with (go_at_call 333;refine (d _).mono ?_;rintro e a ⟨rfl,rfl⟩)
     go_ret;exact⟨rfl,zi _ _⟩
    ·have p:((t[0].toNat:Int) != 48)=true:=by simp[h3]
     obtain⟨C,O,q,g⟩:=aV t w;have f:Below w.heap.size w (w.alloc O).drew:=(nB w _).drew
     have c:=mo t.size w.heap.size 0 C 334 #[] (λj=>(((t.data.toList.getD j 0).toNat:Nat):Int)) (λj=>ZY (t.data.toList.getD j 0).toNat) _ (by omega)
      (qx func334 (by kernel_rfl) rfl) g
      (λW j _ _=>(MF _ W (aM _)).mono λe a ⟨r,u⟩=>⟨r,u ▸ zi _ _⟩)
     have i:=mi t.data.toList ZY;rw[Ref.zP] at i;rw[i] at c
     have l:Ref.Zj t=t.data.toList.all λc=>ZY c.toNat:=by
      unfold Ref.Zj Ref.digits ZY;rw[zF (show 1<=t.size/\t.size<=18 from ⟨h1,h2⟩),b]
      have:(t[0].toNat != 48)=true:=by simp;omega
      rw[this]
      rfl
     rw[l];generalize (t.data.toList.all λc=>ZY c.toNat)=R at c;clear i l g b h3;go_enter func325,ntmps325
     go_wp2_with (first
      | (go_at_call 333;refine (d _).mono ?_;rintro e a ⟨rfl,rfl⟩)
      | (go_at_call 89;refine c.mono ?_;rintro e a ⟨rfl,h⟩))
     go_ret;exact⟨rfl,f.trans (h.mono f.size)⟩
   ·have o:decide ((t.size:Int)<=18)=false:=zH (by omega);rw[Ref.wC t (by omega)];go_enter func325,ntmps325
    go_wp2_with (go_at_call 333;refine (d _).mono ?_;rintro e a ⟨rfl,rfl⟩)
    go_ret;exact⟨rfl,zi _ _⟩
  ·have n:decide ((0:Int)<(t.size:Int))=false:=zH (by omega);rw[Ref.wC t (by omega)];go_enter func325,ntmps325
   go_wp2_with (go_at_call 333;refine (d _).mono ?_;rintro e a ⟨rfl,rfl⟩)
   go_ret;exact⟨rfl,zi _ _⟩
theorem zaD(x:Option Rd.V)(u:Value)(g:Nat)(i:Array Value)(f:BA->Bool)(L B:Nat)(w:World)(j:∀args w,(callFunc g args).run prog w = .ok (.enter g args) w)
  (h:OAt w x u)(k:∀s,x=some (.str s)->s.size<=L)(l:UG g i f L w)(n:w.cell? ⟨B,0,none⟩=some (.func (.func g) #[] i)) :
  Calls prog 332 #[u,.pointer (some ⟨B,0,none⟩)] w (YT w (Rd.qZ f x) (Rd.qf f x)):=by
 have c:=gU x u g i f L w j h k l;generalize Rd.qZ f x=S at c;generalize Rd.qf f x=C at c;have d:=h.form;clear h k l j
 rcases d with rfl|⟨T,y,rfl⟩
 ·go_enter func332,ntmps332
  go_wp2_with (go_at_call 97;refine c.mono ?_;rintro e m ⟨v,rfl,b,a⟩)
  go_ret2;exact⟨_,rfl,b,a⟩
 ·go_enter func332,ntmps332
  go_wp2_with (go_at_call 97;refine c.mono ?_;rintro e m ⟨v,rfl,b,a⟩)
  go_ret2;exact⟨_,rfl,b,a⟩
theorem XE.after{w b d:World}{a:List BA}{c:Nat}{e:Ending}(h:XE b a c e d)(hb:Below w.heap.size w b):XE w a c e d:=by
 obtain⟨k,u,f,g,i,j⟩:=h;exact⟨k,u,f,g,hb.trans (i.mono hb.size),kG j hb.size⟩
theorem iD(x:Option Rd.V)(u:Value)(g:Nat)(f:BA->Bool)(w:World)(z:xN w)(p:∀args w,(callFunc g args).run prog w = .ok (.enter g args) w)
  (n:OAt w x u)(q:∀v,x=some v->Rd.Good 4000 v)(r:UG g #[] f 4000 w) :
  Calls prog 323 #[u,.func (.func g) #[] #[]] w (XE w (Rd.qW (Rd.qZ f) x) (Rd.qP (Rd.qf f) x)):=by
 have a:=nB w (.cells #[.func (.func g) #[] #[]] 101);have o:∀args w,(callFunc 332 args).run prog w = .ok (.enter 332 args) w:=qx func332 (by kernel_rfl) rfl
 have c:=Kq x u 332 #[.pointer (some ⟨w.heap.size,0,none⟩)] (Rd.qZ f) (Rd.qf f) 4000 (w.alloc (.cells #[.func (.func g) #[] #[]] 101)) (z.below a) o (n.below a) q
  (λW y v j A hb=>zaD y v g #[] f 4000 w.heap.size W p A (λs m=>by have:=j _ m;cases this with|str _ h=>exact h)
    (λt s m i=>r t s m ((a.trans (hb.mono (by simp))).trans (i.mono (by have:=hb.size;simp at this;omega)))) (zh hb (by simp)))
 generalize Rd.qW (Rd.qZ f) x=S at c;generalize Rd.qP (Rd.qf f) x=C at c;have k:=n.form;clear n q r p o
 rcases k with rfl|⟨T,y,rfl⟩
 ·go_enter func323,ntmps323
  go_wp2_with (go_at_call 148;refine c.mono ?_;rintro e D h;have i:=h.after a;obtain⟨B,v,rfl,d,b,l⟩:=i)
  go_ret2;exact⟨_,_,rfl,d,b,l⟩
 ·go_enter func323,ntmps323
  go_wp2_with (go_at_call 148;refine c.mono ?_;rintro e D h;have i:=h.after a;obtain⟨B,v,rfl,d,b,l⟩:=i)
  go_ret2;exact⟨_,_,rfl,d,b,l⟩
def Looks(g:Nat)(b:Option Rd.V->List BA)(a:Option Rd.V->Nat)(w:World):Prop:=
 ∀W (x:Option Rd.V) (u:Value),(∀v,x=some v->Rd.Good 4000 v)->OAt W x u->Below w.heap.size w W->Calls prog g #[u] W (XE W (b x) (a x))
theorem Nu{w:World}(i:kL w):Looks 313 (Rd.qW Rd.strOf) (Rd.qP Rd.yM) w:=by
 intro W x u j g hb;have h:∀args w,(callFunc 149 args).run prog w = .ok (.enter 149 args) w:=qx func149 (by kernel_rfl) rfl;have c:=Kq x u 149 #[] Rd.strOf Rd.yM 4000 W (i.below hb).err h g j (gW (i.below hb));generalize Rd.qW Rd.strOf x=S at c;generalize Rd.qP Rd.yM x=C at c;have d:=g.form;clear g j h
 rcases d with rfl|⟨T,y,rfl⟩
 ·go_enter func313,ntmps313
  go_wp2_with (go_at_call 148;refine c.mono ?_;rintro e l ⟨k,v,rfl,b,a,f⟩)
  go_ret2;exact⟨_,_,rfl,b,a,f⟩
 ·go_enter func313,ntmps313
  go_wp2_with (go_at_call 148;refine c.mono ?_;rintro e l ⟨k,v,rfl,b,a,f⟩)
  go_ret2;exact⟨_,_,rfl,b,a,f⟩
theorem Ta{w:World}(k:kL w):Looks 315 (Rd.qW (Rd.qZ Rd.short)) (Rd.qP (Rd.qf Rd.short)) w:=by
 intro W x u i g hb;have h:∀args w,(callFunc 324 args).run prog w = .ok (.enter 324 args) w:=qx func324 (by kernel_rfl) rfl;have c:=iD x u 324 Rd.short W (k.below hb).err h g i (λj s l _=>rG s j l);generalize Rd.qW (Rd.qZ Rd.short) x=S at c;generalize Rd.qP (Rd.qf Rd.short) x=C at c;have d:=g.form;clear g i h
 rcases d with rfl|⟨T,y,rfl⟩
 ·go_enter func315,ntmps315
  go_wp2_with (go_at_call 323;refine c.mono ?_;rintro e n ⟨m,v,rfl,b,a,f⟩)
  go_ret2;exact⟨_,_,rfl,b,a,f⟩
 ·go_enter func315,ntmps315
  go_wp2_with (go_at_call 323;refine c.mono ?_;rintro e n ⟨m,v,rfl,b,a,f⟩)
  go_ret2;exact⟨_,_,rfl,b,a,f⟩
theorem Ez{w:World}(k:kL w):Looks 317 (Rd.qW (Rd.qZ Ref.xB)) (Rd.qP (Rd.qf Ref.xB)) w:=by
 intro W x u i g hb;have h:∀args w,(callFunc 325 args).run prog w = .ok (.enter 325 args) w:=qx func325 (by kernel_rfl) rfl;have c:=iD x u 325 Ref.xB W (k.below hb).err h g i (λj s _ _=>rH s j);generalize Rd.qW (Rd.qZ Ref.xB) x=S at c;generalize Rd.qP (Rd.qf Ref.xB) x=C at c;have d:=g.form;clear g i h
 rcases d with rfl|⟨T,y,rfl⟩
 ·go_enter func317,ntmps317
  go_wp2_with (go_at_call 323;refine c.mono ?_;rintro e m ⟨l,v,rfl,b,a,f⟩)
  go_ret2;exact⟨_,_,rfl,b,a,f⟩
 ·go_enter func317,ntmps317
  go_wp2_with (go_at_call 323;refine c.mono ?_;rintro e m ⟨l,v,rfl,b,a,f⟩)
  go_ret2;exact⟨_,_,rfl,b,a,f⟩
theorem zaM{w:World}(k:kL w):Looks 319 (Rd.qW (Rd.qZ Rd.filled)) (Rd.qP (Rd.qf Rd.filled)) w:=by
 intro W x u i g hb;have h:∀args w,(callFunc 329 args).run prog w = .ok (.enter 329 args) w:=qx func329 (by kernel_rfl) rfl;have c:=iD x u 329 Rd.filled W (k.below hb).err h g i (λj s l _=>MH s j l);generalize Rd.qW (Rd.qZ Rd.filled) x=S at c;generalize Rd.qP (Rd.qf Rd.filled) x=C at c;have d:=g.form;clear g i h
 rcases d with rfl|⟨T,y,rfl⟩
 ·go_enter func319,ntmps319
  go_wp2_with (go_at_call 323;refine c.mono ?_;rintro e n ⟨m,v,rfl,b,a,f⟩)
  go_ret2;exact⟨_,_,rfl,b,a,f⟩
 ·go_enter func319,ntmps319
  go_wp2_with (go_at_call 323;refine c.mono ?_;rintro e n ⟨m,v,rfl,b,a,f⟩)
  go_ret2;exact⟨_,_,rfl,b,a,f⟩
theorem Dj{w:World}:Looks 321 (λ_=>[]) (λx=>if x.isNone then 0 else 1) w:=by
 intro W x u _ a _
 cases x with
 | none=>
  have c:u = .nilIface:=a;subst c;go_enter func321,ntmps321
  go_wp2
  go_ret2;exact⟨_,_,rfl,.inl ⟨rfl,rfl⟩,zi _ _,jR _ _ _ _⟩
 | some v=>
  obtain⟨T,y,rfl⟩:=ValAt.iface (show ValAt W (λb=>b<W.heap.size) v u from a)
  clear a;go_enter func321,ntmps321
  go_wp2
  go_ret2;exact⟨_,_,rfl,.inr (.inl ⟨rfl,_,rfl⟩),zi _ _,jR _ _ _ _⟩
def aF(w:World)(x:Option Rd.V)(e:Ending)(a:World):Prop:=∃u,e = .returned (.tuple #[.bool (Rd.Jc x),u])/\FV (Rd.cls (Rd.Zh x) false) u/\Below w.heap.size w a
theorem RY(x:Option Rd.V)(u:Value)(w:World)(e:OAt w x u):Calls prog 194 #[u] w (aF w x):=by
 cases x with
 | none=>
  have g:u = .nilIface:=e;subst g;go_enter func194,ntmps194
  go_wp2
  go_ret2;exact⟨_,rfl,.inl ⟨rfl,rfl⟩,zi _ _⟩
 | some v=>
  have h:ValAt w (λb=>b<w.heap.size) v u:=e;clear e
  cases h with
  | word b=>
   have f:=zat;go_enter func194,ntmps194
   go_wp2
   go_ret2;exact⟨_,rfl,.inl ⟨rfl,rfl⟩,zi _ _⟩
  | str s=>
   have f:=zas;go_enter func194,ntmps194
   go_wp2
   go_ret2;exact⟨_,rfl,.inr (.inl ⟨rfl,_,rfl⟩),zi _ _⟩
  | list j i ao cap a c d=>
   clear a c d;have f:=zaq;go_enter func194,ntmps194
   go_wp2
   go_ret2;exact⟨_,rfl,.inr (.inl ⟨rfl,_,rfl⟩),zi _ _⟩
  | obj ms i ao cap a c d=>
   clear a c d;have f:=zar;go_enter func194,ntmps194
   go_wp2
   go_ret2;exact⟨_,rfl,.inr (.inl ⟨rfl,_,rfl⟩),zi _ _⟩
end Go.Proofs.YtagnlbgbnfnapaaGreatDoor
