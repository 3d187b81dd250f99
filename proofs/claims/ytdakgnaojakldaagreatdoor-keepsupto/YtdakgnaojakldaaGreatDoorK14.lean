/- P -/
import Derived.Test.YtdakgnaojakldaaGreatDoorK13
open Go.Proofs.Tryz
set_option maxRecDepth 100000
set_option maxHeartbeats 1000000
namespace Go.Proofs.YtdakgnaojakldaaGreatDoor
open Go.RowKit
structure ko (w:World) (ms:List (BY×Rd.V)) (us:List (BY×Value)) (ao:Option Addr):Prop where
 names:us.map Prod.fst=ms.map Prod.fst
 mems:QP w ao us
 vals:∀(j:Nat) (x:BY×Rd.V) (u:BY×Value),ms[j]?=some x->us[j]?=some u->ValAt w (λb=>b<w.heap.size) x.2 u.2
theorem YV{w:World}{ms:List (BY×Rd.V)}{u:Value}(h:OAt w (some (.obj ms)) u):∃c a cap,u = .iface 118 (.slice a c.length cap)/\ko w ms c a:=by
 have i:ValAt w (λb=>b<w.heap.size) (.obj ms) u:=h
 cases i with
 | obj _ c a cap e d f=>
  refine⟨c,a,cap,rfl,e,?_,f⟩
  rcases d with d|⟨b,ha,_,hc⟩
  ·exact .inl d
  ·exact .inr ⟨b,0,ha,λj g=>by simp only[yJ];exact hc j _ (zm g)⟩
theorem ko.len{w:World}{ms:List (BY×Rd.V)}{a:List (BY×Value)}{b:Option Addr}(h:ko w ms a b):a.length=ms.length:=by
 have:=congrArg List.length h.names
 simpa using this
theorem ko.below{w w':World}{ms:List (BY×Rd.V)}{e:List (BY×Value)}{d:Option Addr}(h:ko w ms e d)(hb:Below w.heap.size w w'):ko w' ms e d:=
 ⟨h.names,Uh h.mems hb,λj x u g f=>(h.vals j x u g f).move (λ_ c=>xL c hb.size) (λb a=>hb.block b a)⟩
theorem ko.ifaces{w:World}{ms:List (BY×Rd.V)}{b:List (BY×Value)}{c:Option Addr}(h:ko w ms b c):∀m ∈ b,∃T x,m.2 = .iface T x:=by
 intro m e;obtain⟨j,d,rfl⟩:=Z6 e;have a:j<ms.length:=by have:=h.len;omega
 exact (h.vals j ms[j] b[j] (zm a) (zm d)).iface
theorem lG{w:World}(nm:BY):∀{ms:List (BY×Rd.V)} {a:List (BY×Value)},a.map Prod.fst=ms.map Prod.fst ->
  (∀(j:Nat) (x:BY×Rd.V) (u:BY×Value),ms[j]?=some x->a[j]?=some u->ValAt w (λb=>b<w.heap.size) x.2 u.2)->OAt w (Rd.zl ms nm) (qY a nm)
 | [],[],_,_=>rfl
 | [],_::_,h,_=>by simp at h
 | _::_,[],h,_=>by simp at h
 | m::ms,u::a,h,hv=>by
  simp only[yf,List.cons.injEq] at h;unfold Rd.zl qY;rw[Jm,Jm,h.1]
  cases e:(m.1.toList==nm.toList) with
  | true=>exact hv 0 m u rfl rfl
  | false=>exact lG nm h.2 (λj x y c d=>hv (j+1) x y (by simpa using c) (by simpa using d))
theorem ko.get{w:World}{ms:List (BY×Rd.V)}{a:List (BY×Value)}{b:Option Addr}(h:ko w ms a b)(nm:BY):OAt w (Rd.zl ms nm) (qY a nm):=lG nm h.names h.vals
theorem bn{w:World}{ms:List (BY×Rd.V)}{a:List (BY×Value)}{b:Option Addr}(cap:Nat)(h:ko w ms a b)(c:ms.length<=4000)(nm:BY) :
  Calls prog 51 #[.slice b a.length cap,.string nm] w λe w'=>e = .returned (qY a nm)/\Below w.heap.size w w':=
 ai a b cap nm w (by have:=h.len;omega) h.mems h.ifaces
theorem Ib(g:List BY)(d:Option Addr)(b:Nat)(m:BY×Value)(B:Nat)(w:World)(l:g.length<=100)(i:Q3 w d g)(j:w.cell? ⟨B,0,none⟩=some (.slice d g.length b)) :
  Calls prog 148 #[ZN m,.pointer (some ⟨B,0,none⟩)] w λe w'=>e = .returned (.bool (g.any λs=>s.toList==m.1.toList))/\Below w.heap.size w w':=by
 obtain⟨a,v⟩:=m;unfold ZN;simp only;have k:=λO:Obj=>zh (nbl w O) j;have f:=λO:Obj=>nbl w O;have c:=λO:Obj=>Fx g a d b (w.alloc O) (by omega) (dC i (f O));generalize g.any (λs=>s.toList==a.toList)=F at c;clear i;go_enter func148,ntmps148
 go_wp2_with (go_at_call 149;refine (c _).mono ?_;rintro e w' ⟨rfl,h⟩)
 go_ret;exact⟨rfl,(f _).trans (h.mono (f _).size)⟩
theorem tX(ms:List (BY×Rd.V))(b:List (BY×Value))(e:List BY)(h:b.map Prod.fst=ms.map Prod.fst) :
  QH (λj=>e.any λs=>s.toList==(vD b j).1.toList) b.length=Rd.qd ms e:=by
 have f:QH (λj=>e.any λs=>s.toList==(vD b j).1.toList) b.length=(b.map Prod.fst).all (λa=>e.any λs=>s.toList==a.toList):=by
  unfold QH;rw[List.all_map,XA,Yu,Yu]
  constructor
  ·intro h m g;obtain⟨j,d,rfl⟩:=Z6 g
   have:=h j (uZ.2 d)
   rw[Xo b j d] at this;exact this
  ·intro h j d;have c:=uZ.1 d;rw[Xo b j c];exact h _ (xy c)
 rw[f,h,List.all_map]
 rfl
def Vk(w:World)(e:Ending)(w':World):Prop:=∃p,e = .returned (.tuple #[.slice none 0 0,.iface 125 (.agg #[.string p])])/\Below w.heap.size w w'
theorem J6(ms:List (BY×Rd.V))(i:List (BY×Value))(k:Option Addr)(cap:Nat)(f:List BY)(c:Option Addr)(a:Nat)(w:World)(p:f.length<=100)(r:ms.length<=4000)(o:Q3 w c f)(h:ko w ms i k)(b:Bool)(n:Rd.qd ms f=b) :
  Calls prog 97 #[.iface 118 (.slice k i.length cap),.slice c f.length a] w λe w'=>
   if b then (e = .returned (.tuple #[.slice k i.length cap,.nilIface])/\Below w.heap.size w w') else Vk w e w':=by
 have d:=nbl w (.cells #[.slice c f.length a] 42);have m:∀args w,(callFunc 148 args).run prog w = .ok (.enter 148 args) w:=enters_of func148 (by kernel_rfl) rfl
 have l:=tT i k cap 148 #[.pointer (some ⟨w.heap.size,0,none⟩)] (λj=>f.any λs=>s.toList==(vD i j).1.toList) (w.alloc (.cells #[.slice c f.length a] 42)) (by have:=h.len;omega) m
  (Uh h.mems d) h.ifaces (λW j q hb=>Ib f c a (vD i j) w.heap.size W p (dC o (d.trans (hb.mono (by simp)))) (zh hb (by simp)))
 rw[tX ms i f h.names,n] at l;have t:=dG;clear m h o n
 cases b with
 | true=>
  simp only[xu];go_enter func97,ntmps97
  go_wp2_with (go_at_call 150;refine l.mono ?_;rintro e w' ⟨rfl,g⟩)
  go_ret2;exact⟨rfl,d.trans (g.mono (by simp))⟩
 | false=>
  simp only[vg,jK];go_enter func97,ntmps97
  go_wp2_with (go_at_call 150;refine l.mono ?_;rintro e w' ⟨rfl,g⟩)
  go_ret2;exact⟨_,rfl,d.trans (g.mono (by simp))⟩
theorem dF{w:World}{x:Option Rd.V}{u:Value}(h:OAt w x u)(d:∀ms,x≠some (.obj ms))(W:World):(Instr.typeAssert u 114 118 true).run prog W = .ok (.tuple #[.slice none 0 0,.bool false]) W:=by
 cases x with
 | none=>
  have a:u = .nilIface:=h;subst a;exact Ru W
 | some v=>
  have c:ValAt w (λb=>b<w.heap.size) v u:=h
  cases c with
  | str s=>exact Rv _ W
  | word b=>exact Rw _ W
  | list e=>exact Rt _ W
  | obj ms=>exact absurd rfl (d ms)
theorem pF(x:Option Rd.V)(u:Value)(n:Nat)(b:Option Addr)(a:Nat)(w:World)(f:OAt w x u)(d:∀ms,x≠some (.obj ms)) :
  Calls prog 97 #[u,.slice b n a] w (Vk w):=by
 have g:=λW=>dF f d W;have c:=nbl w (.cells #[.slice b n a] 42);have e:=f.form;clear f d
 rcases e with rfl|⟨T,y,rfl⟩
 ·go_enter func97,ntmps97
  go_wp2
  go_ret2;exact⟨_,rfl,c⟩
 ·go_enter func97,ntmps97
  go_wp2
  go_ret2;exact⟨_,rfl,c⟩
theorem zU{w:World}{base:Nat}{e:TypeId}{v:Value}{n:Nat}{xs:List Value}(h:w.ownsRow base e 1 v n xs){b:Nat}(hb:b<base)(o:Nat)(u:Value):(w.setCell ⟨b,o,none⟩ u).ownsRow base e 1 v n xs:=
 xB h (a:=⟨b,o,none⟩) (by intro c;have:=(h.lt b c).1;omega) u
theorem qF{w:World}{base:Nat}{e:TypeId}{v:Value}{n:Nat}{xs:List Value}(h:w.ownsRow base e 1 v n xs):∃a c,v = .slice a n c:=by
 rcases h.2 with ⟨rfl,rfl⟩|⟨g,c,cur,rfl,_⟩
 ·exact⟨_,_,rfl⟩
 ·exact⟨_,_,rfl⟩
theorem yP{w W:World}{O:Obj}(hb:Below (w.alloc O).heap.size (w.alloc O) W):W.heap[w.heap.size]?=some O:=(hb.block _ (by simp)).trans (zO w O)
def chS:Option Rd.V->Bool×List BY
 | some (.obj ms)=>if Rd.qd ms [Ref.qL] then (true,Rd.qM Rd.strOf (Rd.zl ms Ref.qL)) else (false,[])
 | x=>(false,Rd.qM Rd.strOf x)
def XB(w:World)(x:Option Rd.V)(e:Ending)(w':World):Prop:=
 ∃lv u,e = .returned (.tuple #[.agg #[.bool (chS x).1,lv],u])/\FV (Rd.chC x) u/\Below w.heap.size w w'/\w'.ownsRow w.heap.size 9 1 lv (chS x).2.length ((chS x).2.map Value.string)
theorem bS{w:World}(a:uz w):Js 152 #[] Rd.strOf Rd.jf 4000 w:=λW y u b d hb=>
 NN y u W (a.below hb) d (λs c=>by have:=b _ c;cases this with|str _ h=>exact h)
theorem gD(x:Option Rd.V)(a:∀ms,x≠some (.obj ms)):chS x=(false,Rd.qM Rd.strOf x)/\Rd.chC x=Rd.qH Rd.jf x:=by
 match x with
 | none=>exact⟨rfl,rfl⟩
 | some (.str s)=>exact⟨rfl,rfl⟩
 | some (.word b)=>exact⟨rfl,rfl⟩
 | some (.list vs)=>exact⟨rfl,rfl⟩
 | some (.obj ms)=>exact absurd rfl (a ms)
theorem Nz(x:Option Rd.V)(u:Value)(w:World)(o:uz w)(m:OAt w x u)(z:∀v,x=some v->Rd.Good 4000 v)(g:∀ms,x≠some (.obj ms)) :
  Calls prog 100 #[u] w (XB w x):=by
 unfold XB;rw[(gD x g).1,(gD x g).2];have B:=λW=>dF m g W;have b:=nbl w (.cells #[.bool false,.slice none 0 0] 130);have t:∀args w,(callFunc 152 args).run prog w = .ok (.enter 152 args) w:=enters_of func152 (by kernel_rfl) rfl;have c1:=Um x u 152 #[] Rd.strOf Rd.jf 4000 (w.alloc (.cells #[.bool false,.slice none 0 0] 130)) (o.below b).err t (m.below b) z (bS (o.below b));obtain⟨n,j⟩:=Nm (Rd.qM Rd.strOf x);obtain⟨c,p⟩:=Nm (Rd.qH Rd.jf x);rw[j,p] at c1;rw[j,p];have q:=m.form;clear m g o t j p z
 rcases q with rfl|⟨T,y,rfl⟩
 ·go_enter func100,ntmps100
  go_wp2_with (go_at_call 151;refine c1.mono ?_;rintro e w1 ⟨lv,v,rfl,i,d,a⟩;have h:Below w.heap.size w w1:=b.trans (d.mono (by simp));obtain⟨r,s,rfl⟩:=qF a;have f:=yP d;have k:=(zg f 0).1;have l:=(zg f 1).1;have A:=(zg f 0).2;have f1:=(zg f 1).2;simp at k l)
  exact zL (v := .tuple #[.agg #[.bool false,.slice r n.length s],v]) (by simp[results,results100,go_sem,k,l]) rfl ⟨_,_,rfl,i,(h.setCell (ze _) _).setCell (ze _) _,xx (zU (zU a (by simp) _ _) (by simp) _ _) (by simp)⟩
 ·go_enter func100,ntmps100
  go_wp2_with (go_at_call 151;refine c1.mono ?_;rintro e w1 ⟨lv,v,rfl,i,d,a⟩;have h:Below w.heap.size w w1:=b.trans (d.mono (by simp));obtain⟨r,s,rfl⟩:=qF a;have f:=yP d;have k:=(zg f 0).1;have l:=(zg f 1).1;have A:=(zg f 0).2;have f1:=(zg f 1).2;simp at k l)
  exact zL (v := .tuple #[.agg #[.bool false,.slice r n.length s],v]) (by simp[results,results100,go_sem,k,l]) rfl ⟨_,_,rfl,i,(h.setCell (ze _) _).setCell (ze _) _,xx (zU (zU a (by simp) _ _) (by simp) _ _) (by simp)⟩
theorem NA(ms:List (BY×Rd.V))(u:Value)(w:World)(K:uz w)(hx:OAt w (some (.obj ms)) u)(L:Rd.Good 4000 (.obj ms)) :
  Calls prog 100 #[u] w (XB w (some (.obj ms))):=by
 obtain⟨Q,ao,cap,rfl,G⟩:=YV hx;have I:ms.length<=4000:=by cases L with|obj _ h=>exact h
 have H:=λv h=>Rd.yu L Ref.qL v h;unfold XB;have Z:chS (some (.obj ms))=if Rd.qd ms [Ref.qL] then (true,Rd.qM Rd.strOf (Rd.zl ms Ref.qL)) else (false,[]):=rfl
 have Y:Rd.chC (some (.obj ms))=if Rd.qd ms [Ref.qL] then Rd.qH Rd.jf (Rd.zl ms Ref.qL) else 1:=rfl
 rw[Z,Y];have ta:=dG;have M:=nbl w (.cells #[.bool false,.slice none 0 0] 130);have m:=M.alloc (by simp) (.cells #[.string Ref.qL] 9);have S:∀args w,(callFunc 152 args).run prog w = .ok (.enter 152 args) w:=enters_of func152 (by kernel_rfl) rfl;obtain⟨b,hb⟩:=Nm (Rd.qd ms [Ref.qL])
 have x:=J6 ms Q ao cap [Ref.qL] (some ⟨w.heap.size+1,0,none⟩) 1 ((w.alloc (.cells #[.bool false,.slice none 0 0] 130)).alloc (.cells #[.string Ref.qL] 9)) (by simp) I
  (.inr ⟨w.heap.size+1,0,rfl,λj hj=>by
    simp only[vO] at hj
    have:j=0:=by omega
    subst this;have h:=zO (w.alloc (.cells #[.bool false,.slice none 0 0] 130)) (.cells #[.string Ref.qL] 9);rw[jQ] at h;exact (zg h 0).1⟩) (G.below m) b hb
 rw[hb];have E:=λW (h:Below w.heap.size w W)=>bn (w:=W) cap (G.below h) I Ref.qL;have F:=λW (h:Below w.heap.size w W)=>Um (Rd.zl ms Ref.qL) (qY Q Ref.qL) 152 #[] Rd.strOf Rd.jf 4000 W (K.below h).err S ((G.below h).get Ref.qL) H (bS (K.below h));have A:=(G.get Ref.qL).form;obtain⟨X,B⟩:=Nm (qY Q Ref.qL);rw[B] at A;simp only[B] at E F;simp only[vO] at x;obtain⟨J,C⟩:=Nm (Rd.qM Rd.strOf (Rd.zl ms Ref.qL));obtain⟨c,N⟩:=Nm (Rd.qH Rd.jf (Rd.zl ms Ref.qL));simp only[C,N] at F;rw[C,N];clear hx K S C N L G B hb Z Y H;unfold Ref.qL at x E m
 cases b with
 | false=>
  simp only[vg,jK] at x |-;clear F E A;go_enter func100,ntmps100
  go_wp2_with (go_at_call 97;refine x.mono ?_;rintro e w1 ⟨p,rfl,d⟩;have a:Below w.heap.size w w1:=m.trans (d.mono (by simp;omega));have k:=yP (((zf _ (w.alloc (.cells #[.bool false,.slice none 0 0] 130))).alloc (ze _) _).trans (d.mono (by simp)));have r:=(zg k 0).1;have s:=(zg k 1).1;have U:=(zg k 0).2;have f1:=(zg k 1).2;simp at r s)
  exact zL (v := .tuple #[.agg #[.bool false,.slice none 0 0],.iface 125 (.agg #[.string p])]) (by simp[results,results100,go_sem,r,s]) rfl ⟨_,_,rfl,.inr (.inl ⟨rfl,_,rfl⟩),(a.setCell (ze _) _).setCell (ze _) _,qC _ _ _ _⟩
 | true=>
  simp only[xu] at x |-
  rcases A with rfl|⟨T,y,rfl⟩
  ·go_enter func100,ntmps100
   go_wp2_with (first
    | (go_at_call 151;refine (F D i).mono ?_;rintro e R ⟨lv,v,rfl,z,o,f⟩;have t:Below w.heap.size w R:=i.trans (o.mono i.size);obtain⟨O,P,rfl⟩:=qF f;have q:w.heap.size<D.heap.size:=(by have h1:=g.size;simp at h1;omega);have k:=yP (g.trans (o.mono g.size));have r:=(zg k 0).1;have s:=(zg k 1).1;have U:=(zg k 0).2;have f1:=(zg k 1).2;simp at r s)
    | (go_at_call 51;refine (E w1 a).mono ?_;rintro e D ⟨rfl,n⟩;have i:Below w.heap.size w D:=a.trans (n.mono a.size);have g:=l.trans (n.mono l.size))
    | (go_at_call 97;refine x.mono ?_;rintro e w1 ⟨rfl,d⟩;have a:Below w.heap.size w w1:=m.trans (d.mono (by simp;omega));have l:=((zf _ (w.alloc (.cells #[.bool false,.slice none 0 0] 130))).alloc (ze _) (.cells #[.string ⟨#[110,111,116]⟩] 9)).trans (d.mono (by simp))))
   exact zL (v := .tuple #[.agg #[.bool true,.slice O J.length P],v]) (by simp[results,results100,go_sem,r,s]) rfl ⟨_,_,rfl,z,(t.setCell (ze _) _).setCell (ze _) _,xx (zU (zU f q _ _) q _ _) (by omega)⟩
  ·go_enter func100,ntmps100
   go_wp2_with (first
    | (go_at_call 151;refine (F D i).mono ?_;rintro e R ⟨lv,v,rfl,z,o,f⟩;have t:Below w.heap.size w R:=i.trans (o.mono i.size);obtain⟨O,P,rfl⟩:=qF f;have q:w.heap.size<D.heap.size:=(by have h1:=g.size;simp at h1;omega);have k:=yP (g.trans (o.mono g.size));have r:=(zg k 0).1;have s:=(zg k 1).1;have U:=(zg k 0).2;have f1:=(zg k 1).2;simp at r s)
    | (go_at_call 51;refine (E w1 a).mono ?_;rintro e D ⟨rfl,n⟩;have i:Below w.heap.size w D:=a.trans (n.mono a.size);have g:=l.trans (n.mono l.size))
    | (go_at_call 97;refine x.mono ?_;rintro e w1 ⟨rfl,d⟩;have a:Below w.heap.size w w1:=m.trans (d.mono (by simp;omega));have l:=((zf _ (w.alloc (.cells #[.bool false,.slice none 0 0] 130))).alloc (ze _) (.cells #[.string ⟨#[110,111,116]⟩] 9)).trans (d.mono (by simp))))
   exact zL (v := .tuple #[.agg #[.bool true,.slice O J.length P],v]) (by simp[results,results100,go_sem,r,s]) rfl ⟨_,_,rfl,z,(t.setCell (ze _) _).setCell (ze _) _,xx (zU (zU f q _ _) q _ _) (by omega)⟩
theorem NB(x:Option Rd.V)(u:Value)(w:World)(a:uz w)(c:OAt w x u)(b:∀v,x=some v->Rd.Good 4000 v):Calls prog 100 #[u] w (XB w x):=by
 by_cases h:∃ms,x=some (.obj ms)
 ·obtain⟨ms,rfl⟩:=h;exact NA ms u w a c (b _ rfl)
 ·exact Nz x u w a c b (λms e=>h ⟨ms,e⟩)
theorem lV(s:BY)(w:World)(a:s.size<=4000):Calls prog 331 #[.string s] w λe w'=>e = .returned (.bool (Rd.short s))/\Below w.heap.size w w':=by
 have e:Rd.short s=decide ((s.size:Int)<=60):=by unfold Rd.short;exact decide_eq_decide.2 (by omega)
 rw[e];go_enter func331,ntmps331
 go_wp2
 go_ret;exact⟨rfl,zf _ _⟩
theorem Gc(s:BY)(w:World)(d:s.size<=4000):Calls prog 336 #[.string s] w λe w'=>e = .returned (.bool (Rd.filled s))/\Below w.heap.size w w':=by
 have c:=lV s w d;unfold Rd.filled;generalize Rd.short s=R at c
 cases h:(s.toList==[]) with
 | true=>
  have a:s.toList.isEmpty=true:=by rw[List.isEmpty_iff];simpa using h
  rw[a];clear c a;go_enter func336,ntmps336
  go_wp2
  go_ret;exact⟨rfl,zf _ _⟩
 | false=>
  have a:s.toList.isEmpty=false:=by
   cases e:s.toList.isEmpty with
   | false=>rfl
   | true=>rw[List.isEmpty_iff] at e;rw[e] at h;simp at h
  rw[a];clear a;go_enter func336,ntmps336
  go_wp2_with (go_at_call 331;refine c.mono ?_;rintro e w' ⟨rfl,b⟩)
  go_ret;exact⟨rfl,b⟩
theorem Fu(s p:BY)(w:World)(R:Bool)(a:R=(decide (p.size<=s.size)&&((s.extract 0 p.size).toList==p.toList))) :
  Calls prog 345 #[.string s,.string p] w λe w'=>e = .returned (.bool R)/\w'=w:=by
 by_cases h:p.size<=s.size
 ·rw[zB h,ZX] at a;have d:decide ((p.size:Int)<=(s.size:Int))=true:=zB (by omega);subst a;go_enter func345,ntmps345
  go_wp2
  go_ret;exact⟨rfl,rfl⟩
 ·rw[zM h,Yp] at a;have d:decide ((p.size:Int)<=(s.size:Int))=false:=zM (by omega);subst a;go_enter func345,ntmps345
  go_wp2
  go_ret;exact⟨rfl,rfl⟩
def unsigned(s:BY):BY:=if 0<s.size/\(s.data.toList.getD 0 0).toNat=45 then s.extract 1 s.size else s
theorem Lh(s:BY):(decide ((⟨#[45]⟩:BY).size<=s.size)&&((s.extract 0 (⟨#[45]⟩:BY).size).toList==(⟨#[45]⟩:BY).toList))=decide (0<s.size/\(s.data.toList.getD 0 0).toNat=45):=by
 have b:(⟨#[45]⟩:BY).size=1:=rfl;have c:(⟨#[45]⟩:BY).toList=[45]:=by rw[Q8]
 rw[b,c,Q8]
 by_cases h:0<s.size
 ·rw[zB (show 1<=s.size from h),ZX]
  have d:(s.extract 0 1).data.toList=[s.data.toList.getD 0 0]:=by
   cases hl:s.data.toList with
   | nil=>have:=Ref.zz s;rw[hl] at this;simp at this;omega
   | cons a r=>simp[hl]
  rw[d,XA,decide_eq_true_iff];simp only[List.cons_beq_cons,BEq.rfl,Yo,ku]
  constructor
  ·intro e;exact⟨h,by rw[e];rfl⟩
  ·intro e;exact UInt8.toNat.inj e.2
 ·rw[zM (show ¬1<=s.size by omega),Yp,zM (λe=>h e.1)]
theorem RY(s:BY)(w:World):Calls prog 340 #[.string s,.string ⟨#[45]⟩] w λe w'=>e = .returned (.string (unsigned s))/\w'=w:=by
 have c:=Fu s ⟨#[45]⟩ w _ (Lh s).symm
 have c2:Calls prog 346 #[.string s,.string ⟨#[45]⟩] w λe w'=>e = .returned (.string (unsigned s))/\w'=w:=by
  unfold unsigned
  by_cases h:0<s.size/\(s.data.toList.getD 0 0).toNat=45
  ·rw[zb h];rw[zB h] at c;have a:(1:Int)<=(s.size:Int):=by have:=h.1;omega
   clear h;go_enter func346,ntmps346
   go_wp2_with (go_at_call 345;refine c.mono ?_;rintro e w' ⟨rfl,rfl⟩)
   go_ret;exact⟨rfl,rfl⟩
  ·rw[za h];rw[zM h] at c;clear h;go_enter func346,ntmps346
   go_wp2_with (go_at_call 345;refine c.mono ?_;rintro e w' ⟨rfl,rfl⟩)
   go_ret;exact⟨rfl,rfl⟩
 clear c;go_enter func340,ntmps340
 go_wp2_with (go_at_call 346;refine c2.mono ?_;rintro e w' ⟨rfl,rfl⟩)
 go_ret;exact⟨rfl,rfl⟩
def Zi(c:Nat):Bool:=decide (48<=c/\c<=57)
theorem Ga(c:Nat)(w:World)(d:c<256) :
  Calls prog 341 #[.int .u8 (c:Int)] w λe w'=>e = .returned (.bool (Zi c))/\w'=w:=by
 by_cases h1:48<=c
 ·have a:decide ((48:Int)<=(c:Int))=true:=zB (by omega)
  by_cases h2:c<=57
  ·have b:decide ((c:Int)<=57)=true:=zB (by omega);have e:Zi c=true:=by unfold Zi;simp;omega
   rw[e];go_enter func341,ntmps341
   go_wp2
   go_ret;exact⟨rfl,rfl⟩
  ·have b:decide ((c:Int)<=57)=false:=zM (by omega);have e:Zi c=false:=by unfold Zi;simp;omega
   rw[e];go_enter func341,ntmps341
   go_wp2
   go_ret;exact⟨rfl,rfl⟩
 ·have a:decide ((48:Int)<=(c:Int))=false:=zM (by omega);have e:Zi c=false:=by unfold Zi;simp;omega
  rw[e];go_enter func341,ntmps341
  go_wp2
  go_ret;exact⟨rfl,rfl⟩
theorem Gi(s:BY):Ref.jW s=((s.toList==[48])||Ref.kM (unsigned s)):=rfl
theorem Gm(s:BY)(w:World):Calls prog 332 #[.string s] w λe w'=>e = .returned (.bool (Ref.jW s))/\Below w.heap.size w w':=by
 have b:=RY s;rw[Gi];obtain⟨t,i⟩:=Nm (unsigned s);simp only[i] at b;rw[i];clear i
 cases h0:(s.toList==[48]) with
 | true=>
  rw[Bool.true_or];go_enter func332,ntmps332
  go_wp2_with (go_at_call 340;refine (b _).mono ?_;rintro e w' ⟨rfl,rfl⟩)
  go_ret;exact⟨rfl,zf _ _⟩
 | false=>
  rw[Jd]
  by_cases h1:1<=t.size
  ·have m:decide ((0:Int)<(t.size:Int))=true:=zB (by omega)
   by_cases h2:t.size<=18
   ·have n:decide ((t.size:Int)<=18)=true:=zB (by omega);have l:0<t.size:=h1;have a:=Ref.X0 t l
    by_cases h3:(t[0].toNat:Int)=48
    ·have o:((t[0].toNat:Int) != 48)=false:=by simp[h3]
     have e:Ref.kM t=false:=Ref.bi t l h3;rw[e];clear e a;go_enter func332,ntmps332
     go_wp2_with (go_at_call 340;refine (b _).mono ?_;rintro e w' ⟨rfl,rfl⟩)
     go_ret;exact⟨rfl,zf _ _⟩
    ·have o:((t[0].toNat:Int) != 48)=true:=by simp[h3]
     obtain⟨C,O,p,f⟩:=fZ t w;have d:Below w.heap.size w (w.alloc O).drew:=(nbl w _).drew
     have c:=fu t.size w.heap.size 0 C 341 #[] (λj=>(((t.data.toList.getD j 0).toNat:Nat):Int)) (λj=>Zi (t.data.toList.getD j 0).toNat) _ (by omega)
      (enters_of func341 (by kernel_rfl) rfl) f
      (λW j _ _=>(Ga _ W (UInt8.toNat_lt _)).mono λe w' ⟨q,r⟩=>⟨q,r ▸ zf _ _⟩)
     have h:=fe t.data.toList Zi;rw[Ref.zz] at h;rw[h] at c
     have k:Ref.kM t=t.data.toList.all λc=>Zi c.toNat:=by
      unfold Ref.kM Ref.digits Zi;rw[zB (show 1<=t.size/\t.size<=18 from ⟨h1,h2⟩),a]
      have:(t[0].toNat != 48)=true:=by simp;omega
      rw[this]
      rfl
     rw[k];generalize (t.data.toList.all λc=>Zi c.toNat)=R at c;clear h k f a h3;go_enter func332,ntmps332
     go_wp2_with (first
      | (go_at_call 340;refine (b _).mono ?_;rintro e w' ⟨rfl,rfl⟩)
      | (go_at_call 132;refine c.mono ?_;rintro e w' ⟨rfl,g⟩))
     go_ret;exact⟨rfl,d.trans (g.mono d.size)⟩
   ·have n:decide ((t.size:Int)<=18)=false:=zM (by omega);rw[Ref.JZ t (by omega)];go_enter func332,ntmps332
    go_wp2_with (go_at_call 340;refine (b _).mono ?_;rintro e w' ⟨rfl,rfl⟩)
    go_ret;exact⟨rfl,zf _ _⟩
  ·have m:decide ((0:Int)<(t.size:Int))=false:=zM (by omega);rw[Ref.JZ t (by omega)];go_enter func332,ntmps332
   go_wp2_with (go_at_call 340;refine (b _).mono ?_;rintro e w' ⟨rfl,rfl⟩)
   go_ret;exact⟨rfl,zf _ _⟩
theorem RU(x:Option Rd.V)(u:Value)(g:Nat)(i:Array Value)(f:BY->Bool)(L B:Nat)(w:World)(j:∀args w,(callFunc g args).run prog w = .ok (.enter g args) w)
  (h:OAt w x u)(k:∀s,x=some (.str s)->s.size<=L)(l:VD g i f L w)(m:w.cell? ⟨B,0,none⟩=some (.func (.func g) #[] i)) :
  Calls prog 339 #[u,.pointer (some ⟨B,0,none⟩)] w (XL w (Rd.qR f x) (Rd.qa f x)):=by
 have c:=bQ x u g i f L w j h k l;generalize Rd.qR f x=S at c;generalize Rd.qa f x=C at c;have d:=h.form;clear h k l j
 rcases d with rfl|⟨T,y,rfl⟩
 ·go_enter func339,ntmps339
  go_wp2_with (go_at_call 98;refine c.mono ?_;rintro e w' ⟨v,rfl,b,a⟩)
  go_ret2;exact⟨_,rfl,b,a⟩
 ·go_enter func339,ntmps339
  go_wp2_with (go_at_call 98;refine c.mono ?_;rintro e w' ⟨v,rfl,b,a⟩)
  go_ret2;exact⟨_,rfl,b,a⟩
theorem QD.after{w w1 b:World}{a:List BY}{c:Nat}{e:Ending}(h:QD w1 a c e b)(hb:Below w.heap.size w w1):QD w a c e b:=by
 obtain⟨lv,u,d,f,g,i⟩:=h;exact⟨lv,u,d,f,hb.trans (g.mono hb.size),xx i hb.size⟩
theorem dz(x:Option Rd.V)(u:Value)(g:Nat)(f:BY->Bool)(w:World)(z:xE w)(p:∀args w,(callFunc g args).run prog w = .ok (.enter g args) w)
  (n:OAt w x u)(q:∀v,x=some v->Rd.Good 4000 v)(r:VD g #[] f 4000 w) :
  Calls prog 330 #[u,.func (.func g) #[] #[]] w (QD w (Rd.qM (Rd.qR f) x) (Rd.qH (Rd.qa f) x)):=by
 have a:=nbl w (.cells #[.func (.func g) #[] #[]] 25);have o:∀args w,(callFunc 339 args).run prog w = .ok (.enter 339 args) w:=enters_of func339 (by kernel_rfl) rfl
 have c:=Um x u 339 #[.pointer (some ⟨w.heap.size,0,none⟩)] (Rd.qR f) (Rd.qa f) 4000 (w.alloc (.cells #[.func (.func g) #[] #[]] 25)) (z.below a) o (n.below a) q
  (λW y v j A hb=>RU y v g #[] f 4000 w.heap.size W p A (λs m=>by have:=j _ m;cases this with|str _ h=>exact h)
    (λt s m i=>r t s m ((a.trans (hb.mono (by simp))).trans (i.mono (by have:=hb.size;simp at this;omega)))) (zh hb (by simp)))
 generalize Rd.qM (Rd.qR f) x=S at c;generalize Rd.qH (Rd.qa f) x=C at c;have k:=n.form;clear n q r p o
 rcases k with rfl|⟨T,y,rfl⟩
 ·go_enter func330,ntmps330
  go_wp2_with (go_at_call 151;refine c.mono ?_;rintro e w' h;have i:=h.after a;obtain⟨lv,v,rfl,d,b,l⟩:=i)
  go_ret2;exact⟨_,_,rfl,d,b,l⟩
 ·go_enter func330,ntmps330
  go_wp2_with (go_at_call 151;refine c.mono ?_;rintro e w' h;have i:=h.after a;obtain⟨lv,v,rfl,d,b,l⟩:=i)
  go_ret2;exact⟨_,_,rfl,d,b,l⟩
def Looks(g:Nat)(b:Option Rd.V->List BY)(a:Option Rd.V->Nat)(w:World):Prop:=
 ∀W (x:Option Rd.V) (u:Value),(∀v,x=some v->Rd.Good 4000 v)->OAt W x u->Below w.heap.size w W->Calls prog g #[u] W (QD W (b x) (a x))
theorem IC{w:World}(i:uz w):Looks 320 (Rd.qM Rd.strOf) (Rd.qH Rd.jf) w:=by
 intro W x u j g hb;have h:∀args w,(callFunc 152 args).run prog w = .ok (.enter 152 args) w:=enters_of func152 (by kernel_rfl) rfl;have c:=Um x u 152 #[] Rd.strOf Rd.jf 4000 W (i.below hb).err h g j (bS (i.below hb));generalize Rd.qM Rd.strOf x=S at c;generalize Rd.qH Rd.jf x=C at c;have d:=g.form;clear g j h
 rcases d with rfl|⟨T,y,rfl⟩
 ·go_enter func320,ntmps320
  go_wp2_with (go_at_call 151;refine c.mono ?_;rintro e w' ⟨lv,v,rfl,b,a,f⟩)
  go_ret2;exact⟨_,_,rfl,b,a,f⟩
 ·go_enter func320,ntmps320
  go_wp2_with (go_at_call 151;refine c.mono ?_;rintro e w' ⟨lv,v,rfl,b,a,f⟩)
  go_ret2;exact⟨_,_,rfl,b,a,f⟩
theorem Ol{w:World}(k:uz w):Looks 322 (Rd.qM (Rd.qR Rd.short)) (Rd.qH (Rd.qa Rd.short)) w:=by
 intro W x u i g hb;have h:∀args w,(callFunc 331 args).run prog w = .ok (.enter 331 args) w:=enters_of func331 (by kernel_rfl) rfl;have c:=dz x u 331 Rd.short W (k.below hb).err h g i (λj s l _=>lV s j l);generalize Rd.qM (Rd.qR Rd.short) x=S at c;generalize Rd.qH (Rd.qa Rd.short) x=C at c;have d:=g.form;clear g i h
 rcases d with rfl|⟨T,y,rfl⟩
 ·go_enter func322,ntmps322
  go_wp2_with (go_at_call 330;refine c.mono ?_;rintro e w' ⟨lv,v,rfl,b,a,f⟩)
  go_ret2;exact⟨_,_,rfl,b,a,f⟩
 ·go_enter func322,ntmps322
  go_wp2_with (go_at_call 330;refine c.mono ?_;rintro e w' ⟨lv,v,rfl,b,a,f⟩)
  go_ret2;exact⟨_,_,rfl,b,a,f⟩
theorem Ai{w:World}(k:uz w):Looks 324 (Rd.qM (Rd.qR Ref.jW)) (Rd.qH (Rd.qa Ref.jW)) w:=by
 intro W x u i g hb;have h:∀args w,(callFunc 332 args).run prog w = .ok (.enter 332 args) w:=enters_of func332 (by kernel_rfl) rfl;have c:=dz x u 332 Ref.jW W (k.below hb).err h g i (λj s _ _=>Gm s j);generalize Rd.qM (Rd.qR Ref.jW) x=S at c;generalize Rd.qH (Rd.qa Ref.jW) x=C at c;have d:=g.form;clear g i h
 rcases d with rfl|⟨T,y,rfl⟩
 ·go_enter func324,ntmps324
  go_wp2_with (go_at_call 330;refine c.mono ?_;rintro e w' ⟨lv,v,rfl,b,a,f⟩)
  go_ret2;exact⟨_,_,rfl,b,a,f⟩
 ·go_enter func324,ntmps324
  go_wp2_with (go_at_call 330;refine c.mono ?_;rintro e w' ⟨lv,v,rfl,b,a,f⟩)
  go_ret2;exact⟨_,_,rfl,b,a,f⟩
theorem Sc{w:World}(k:uz w):Looks 326 (Rd.qM (Rd.qR Rd.filled)) (Rd.qH (Rd.qa Rd.filled)) w:=by
 intro W x u i g hb;have h:∀args w,(callFunc 336 args).run prog w = .ok (.enter 336 args) w:=enters_of func336 (by kernel_rfl) rfl;have c:=dz x u 336 Rd.filled W (k.below hb).err h g i (λj s l _=>Gc s j l);generalize Rd.qM (Rd.qR Rd.filled) x=S at c;generalize Rd.qH (Rd.qa Rd.filled) x=C at c;have d:=g.form;clear g i h
 rcases d with rfl|⟨T,y,rfl⟩
 ·go_enter func326,ntmps326
  go_wp2_with (go_at_call 330;refine c.mono ?_;rintro e w' ⟨lv,v,rfl,b,a,f⟩)
  go_ret2;exact⟨_,_,rfl,b,a,f⟩
 ·go_enter func326,ntmps326
  go_wp2_with (go_at_call 330;refine c.mono ?_;rintro e w' ⟨lv,v,rfl,b,a,f⟩)
  go_ret2;exact⟨_,_,rfl,b,a,f⟩
theorem tq{w:World}:Looks 328 (λ_=>[]) (λx=>if x.isNone then 0 else 1) w:=by
 intro W x u _ a _
 cases x with
 | none=>
  have c:u = .nilIface:=a;subst c;go_enter func328,ntmps328
  go_wp2
  go_ret2;exact⟨_,_,rfl,.inl ⟨rfl,rfl⟩,zf _ _,qC _ _ _ _⟩
 | some v=>
  obtain⟨T,y,rfl⟩:=ValAt.iface (show ValAt W (λb=>b<W.heap.size) v u from a)
  clear a;go_enter func328,ntmps328
  go_wp2
  go_ret2;exact⟨_,_,rfl,.inr (.inl ⟨rfl,_,rfl⟩),zf _ _,qC _ _ _ _⟩
def Kc(w:World)(x:Option Rd.V)(e:Ending)(w':World):Prop:=∃u,e = .returned (.tuple #[.bool (Rd.Zp x),u])/\FV (Rd.cls (Rd.vG x) false) u/\Below w.heap.size w w'
theorem NJ(x:Option Rd.V)(u:Value)(w:World)(e:OAt w x u):Calls prog 201 #[u] w (Kc w x):=by
 cases x with
 | none=>
  have h:u = .nilIface:=e;subst h;go_enter func201,ntmps201
  go_wp2
  go_ret2;exact⟨_,rfl,.inl ⟨rfl,rfl⟩,zf _ _⟩
 | some v=>
  have i:ValAt w (λb=>b<w.heap.size) v u:=e;clear e
  cases i with
  | word b=>
   have f:=RD;go_enter func201,ntmps201
   go_wp2
   go_ret2;exact⟨_,rfl,.inl ⟨rfl,rfl⟩,zf _ _⟩
  | str s=>
   have f:=RA;go_enter func201,ntmps201
   go_wp2
   go_ret2;exact⟨_,rfl,.inr (.inl ⟨rfl,_,rfl⟩),zf _ _⟩
  | list k j g cap a c d=>
   clear a c d;have f:=Ry;go_enter func201,ntmps201
   go_wp2
   go_ret2;exact⟨_,rfl,.inr (.inl ⟨rfl,_,rfl⟩),zf _ _⟩
  | obj ms j g cap a c d=>
   clear a c d;have f:=Rz;go_enter func201,ntmps201
   go_wp2
   go_ret2;exact⟨_,rfl,.inr (.inl ⟨rfl,_,rfl⟩),zf _ _⟩
end Go.Proofs.YtdakgnaojakldaaGreatDoor
