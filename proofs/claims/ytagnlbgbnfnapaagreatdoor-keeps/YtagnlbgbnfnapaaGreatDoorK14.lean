/- P -/
import Derived.Test.YtagnlbgbnfnapaaGreatDoorK13
open Go.Proofs.Tryz
set_option maxRecDepth 100000
set_option maxHeartbeats 1000000
namespace Go.Proofs.YtagnlbgbnfnapaaGreatDoor
open Go.RowKit
structure kw (w:World) (ms:List (BY×Rd.V)) (us:List (BY×Value)) (ao:Option Addr):Prop where
 names:us.map Prod.fst=ms.map Prod.fst
 mems:QS w ao us
 vals:∀(j:Nat) (x:BY×Rd.V) (u:BY×Value),ms[j]?=some x->us[j]?=some u->ValAt w (λb=>b<w.heap.size) x.2 u.2
theorem Y0{w:World}{ms:List (BY×Rd.V)}{u:Value}(h:OAt w (some (.obj ms)) u):∃c a cap,u = .iface 122 (.slice a c.length cap)/\kw w ms c a:=by
 have i:ValAt w (λb=>b<w.heap.size) (.obj ms) u:=h
 cases i with
 | obj _ c a cap e d f=>
  refine⟨c,a,cap,rfl,e,?_,f⟩
  rcases d with d|⟨b,ha,_,hc⟩
  ·exact .inl d
  ·exact .inr ⟨b,0,ha,λj g=>by simp only[yO];exact hc j _ (zn g)⟩
theorem kw.len{w:World}{ms:List (BY×Rd.V)}{a:List (BY×Value)}{b:Option Addr}(h:kw w ms a b):a.length=ms.length:=by
 have:=congrArg List.length h.names
 simpa using this
theorem kw.below{w w':World}{ms:List (BY×Rd.V)}{e:List (BY×Value)}{d:Option Addr}(h:kw w ms e d)(hb:Below w.heap.size w w'):kw w' ms e d:=
 ⟨h.names,Uq h.mems hb,λj x u g f=>(h.vals j x u g f).move (λ_ c=>xM c hb.size) (λb a=>hb.block b a)⟩
theorem kw.ifaces{w:World}{ms:List (BY×Rd.V)}{b:List (BY×Value)}{c:Option Addr}(h:kw w ms b c):∀m ∈ b,∃T x,m.2 = .iface T x:=by
 intro m e;obtain⟨j,d,rfl⟩:=Qa e;have a:j<ms.length:=by have:=h.len;omega
 exact (h.vals j ms[j] b[j] (zn a) (zn d)).iface
theorem mh{w:World}(nm:BY):∀{ms:List (BY×Rd.V)} {a:List (BY×Value)},a.map Prod.fst=ms.map Prod.fst ->
  (∀(j:Nat) (x:BY×Rd.V) (u:BY×Value),ms[j]?=some x->a[j]?=some u->ValAt w (λb=>b<w.heap.size) x.2 u.2)->OAt w (Rd.zm ms nm) (xh a nm)
 | [],[],_,_=>rfl
 | [],_::_,h,_=>by simp at h
 | _::_,[],h,_=>by simp at h
 | m::ms,u::a,h,hv=>by
  simp only[yh,List.cons.injEq] at h;unfold Rd.zm xh;rw[Jq,Jq,h.1]
  cases e:(m.1.toList==nm.toList) with
  | true=>exact hv 0 m u rfl rfl
  | false=>exact mh nm h.2 (λj x y c d=>hv (j+1) x y (by simpa using c) (by simpa using d))
theorem kw.get{w:World}{ms:List (BY×Rd.V)}{a:List (BY×Value)}{b:Option Addr}(h:kw w ms a b)(nm:BY):OAt w (Rd.zm ms nm) (xh a nm):=mh nm h.names h.vals
theorem bL{w:World}{ms:List (BY×Rd.V)}{a:List (BY×Value)}{b:Option Addr}(cap:Nat)(h:kw w ms a b)(c:ms.length<=4000)(nm:BY) :
  Calls prog 53 #[.slice b a.length cap,.string nm] w λe w'=>e = .returned (xh a nm)/\Below w.heap.size w w':=
 aG a b cap nm w (by have:=h.len;omega) h.mems h.ifaces
theorem IB(g:List BY)(d:Option Addr)(b:Nat)(m:BY×Value)(B:Nat)(w:World)(l:g.length<=100)(i:Q8 w d g)(j:w.cell? ⟨B,0,none⟩=some (.slice d g.length b)) :
  Calls prog 145 #[ZP m,.pointer (some ⟨B,0,none⟩)] w λe w'=>e = .returned (.bool (g.any λs=>s.toList==m.1.toList))/\Below w.heap.size w w':=by
 obtain⟨a,v⟩:=m;unfold ZP;simp only;have k:=λO:Obj=>zi (nbl w O) j;have f:=λO:Obj=>nbl w O;have c:=λO:Obj=>FX g a d b (w.alloc O) (by omega) (dN i (f O));generalize g.any (λs=>s.toList==a.toList)=F at c;clear i;go_enter func145,ntmps145
 go_wp2_with (go_at_call 146;refine (c _).mono ?_;rintro e w' ⟨rfl,h⟩)
 go_ret;exact⟨rfl,(f _).trans (h.mono (f _).size)⟩
theorem wW(ms:List (BY×Rd.V))(b:List (BY×Value))(e:List BY)(h:b.map Prod.fst=ms.map Prod.fst) :
  QK (λj=>e.any λs=>s.toList==(vI b j).1.toList) b.length=Rd.qf ms e:=by
 have f:QK (λj=>e.any λs=>s.toList==(vI b j).1.toList) b.length=(b.map Prod.fst).all (λa=>e.any λs=>s.toList==a.toList):=by
  unfold QK;rw[List.all_map,XH,Yx,Yx]
  constructor
  ·intro h m g;obtain⟨j,d,rfl⟩:=Qa g
   have:=h j (ku.2 d)
   rw[Xv b j d] at this;exact this
  ·intro h j d;have c:=ku.1 d;rw[Xv b j c];exact h _ (xB c)
 rw[f,h,List.all_map]
 rfl
def Vs(w:World)(e:Ending)(w':World):Prop:=∃p,e = .returned (.tuple #[.slice none 0 0,.iface 129 (.agg #[.string p])])/\Below w.heap.size w w'
theorem Ve(ms:List (BY×Rd.V))(i:List (BY×Value))(k:Option Addr)(cap:Nat)(f:List BY)(c:Option Addr)(a:Nat)(w:World)(p:f.length<=100)(r:ms.length<=4000)(o:Q8 w c f)(h:kw w ms i k)(b:Bool)(n:Rd.qf ms f=b) :
  Calls prog 96 #[.iface 122 (.slice k i.length cap),.slice c f.length a] w λe w'=>
   if b then (e = .returned (.tuple #[.slice k i.length cap,.nilIface])/\Below w.heap.size w w') else Vs w e w':=by
 have d:=nbl w (.cells #[.slice c f.length a] 48);have m:∀args w,(callFunc 145 args).run prog w = .ok (.enter 145 args) w:=xg func145 (by kernel_rfl) rfl
 have l:=wT i k cap 145 #[.pointer (some ⟨w.heap.size,0,none⟩)] (λj=>f.any λs=>s.toList==(vI i j).1.toList) (w.alloc (.cells #[.slice c f.length a] 48)) (by have:=h.len;omega) m
  (Uq h.mems d) h.ifaces (λW j q hb=>IB f c a (vI i j) w.heap.size W p (dN o (d.trans (hb.mono (by simp)))) (zi hb (by simp)))
 rw[wW ms i f h.names,n] at l;have t:=dR;clear m h o n
 cases b with
 | true=>
  simp only[xy];go_enter func96,ntmps96
  go_wp2_with (go_at_call 147;refine l.mono ?_;rintro e w' ⟨rfl,g⟩)
  go_ret2;exact⟨rfl,d.trans (g.mono (by simp))⟩
 | false=>
  simp only[vo,jN];go_enter func96,ntmps96
  go_wp2_with (go_at_call 147;refine l.mono ?_;rintro e w' ⟨rfl,g⟩)
  go_ret2;exact⟨_,rfl,d.trans (g.mono (by simp))⟩
theorem dQ{w:World}{x:Option Rd.V}{u:Value}(h:OAt w x u)(d:∀ms,x≠some (.obj ms))(W:World):(Instr.typeAssert u 118 122 true).run prog W = .ok (.tuple #[.slice none 0 0,.bool false]) W:=by
 cases x with
 | none=>
  have a:u = .nilIface:=h;subst a;exact RY W
 | some v=>
  have c:ValAt w (λb=>b<w.heap.size) v u:=h
  cases c with
  | str s=>exact RZ _ W
  | word b=>exact Sa _ W
  | list e=>exact RX _ W
  | obj ms=>exact absurd rfl (d ms)
theorem rA(x:Option Rd.V)(u:Value)(n:Nat)(b:Option Addr)(a:Nat)(w:World)(f:OAt w x u)(d:∀ms,x≠some (.obj ms)) :
  Calls prog 96 #[u,.slice b n a] w (Vs w):=by
 have g:=λW=>dQ f d W;have c:=nbl w (.cells #[.slice b n a] 48);have e:=f.form;clear f d
 rcases e with rfl|⟨T,y,rfl⟩
 ·go_enter func96,ntmps96
  go_wp2
  go_ret2;exact⟨_,rfl,c⟩
 ·go_enter func96,ntmps96
  go_wp2
  go_ret2;exact⟨_,rfl,c⟩
theorem zU{w:World}{base:Nat}{e:TypeId}{v:Value}{n:Nat}{xs:List Value}(h:w.ownsRow base e 1 v n xs){b:Nat}(hb:b<base)(o:Nat)(u:Value):(w.setCell ⟨b,o,none⟩ u).ownsRow base e 1 v n xs:=
 xE h (a:=⟨b,o,none⟩) (by intro c;have:=(h.lt b c).1;omega) u
theorem qG{w:World}{base:Nat}{e:TypeId}{v:Value}{n:Nat}{xs:List Value}(h:w.ownsRow base e 1 v n xs):∃a c,v = .slice a n c:=by
 rcases h.2 with ⟨rfl,rfl⟩|⟨g,c,cur,rfl,_⟩
 ·exact⟨_,_,rfl⟩
 ·exact⟨_,_,rfl⟩
theorem yT{w W:World}{O:Obj}(hb:Below (w.alloc O).heap.size (w.alloc O) W):W.heap[w.heap.size]?=some O:=(hb.block _ (by simp)).trans (zQ w O)
def chS:Option Rd.V->Bool×List BY
 | some (.obj ms)=>if Rd.qf ms [Ref.qM] then (true,Rd.qN Rd.strOf (Rd.zm ms Ref.qM)) else (false,[])
 | x=>(false,Rd.qN Rd.strOf x)
def XI(w:World)(x:Option Rd.V)(e:Ending)(w':World):Prop:=
 ∃lv u,e = .returned (.tuple #[.agg #[.bool (chS x).1,lv],u])/\FV (Rd.chC x) u/\Below w.heap.size w w'/\w'.ownsRow w.heap.size 9 1 lv (chS x).2.length ((chS x).2.map Value.string)
theorem dm{w:World}(a:uB w):Jz 149 #[] Rd.strOf Rd.jl 4000 w:=λW y u b d hb=>
 Oj y u W (a.below hb) d (λs c=>by have:=b _ c;cases this with|str _ h=>exact h)
theorem ib(x:Option Rd.V)(a:∀ms,x≠some (.obj ms)):chS x=(false,Rd.qN Rd.strOf x)/\Rd.chC x=Rd.qJ Rd.jl x:=by
 match x with
 | none=>exact⟨rfl,rfl⟩
 | some (.str s)=>exact⟨rfl,rfl⟩
 | some (.word b)=>exact⟨rfl,rfl⟩
 | some (.list vs)=>exact⟨rfl,rfl⟩
 | some (.obj ms)=>exact absurd rfl (a ms)
theorem NV(x:Option Rd.V)(u:Value)(w:World)(o:uB w)(m:OAt w x u)(z:∀v,x=some v->Rd.Good 4000 v)(g:∀ms,x≠some (.obj ms)) :
  Calls prog 99 #[u] w (XI w x):=by
 unfold XI;rw[(ib x g).1,(ib x g).2];have B:=λW=>dQ m g W;have b:=nbl w (.cells #[.bool false,.slice none 0 0] 134);have t:∀args w,(callFunc 149 args).run prog w = .ok (.enter 149 args) w:=xg func149 (by kernel_rfl) rfl;have c1:=Uv x u 149 #[] Rd.strOf Rd.jl 4000 (w.alloc (.cells #[.bool false,.slice none 0 0] 134)) (o.below b).err t (m.below b) z (dm (o.below b));obtain⟨n,j⟩:=Nm (Rd.qN Rd.strOf x);obtain⟨c,p⟩:=Nm (Rd.qJ Rd.jl x);rw[j,p] at c1;rw[j,p];have q:=m.form;clear m g o t j p z
 rcases q with rfl|⟨T,y,rfl⟩
 ·go_enter func99,ntmps99
  go_wp2_with (go_at_call 148;refine c1.mono ?_;rintro e w1 ⟨lv,v,rfl,i,d,a⟩;have h:Below w.heap.size w w1:=b.trans (d.mono (by simp));obtain⟨r,s,rfl⟩:=qG a;have f:=yT d;have k:=(zg f 0).1;have l:=(zg f 1).1;have A:=(zg f 0).2;have f1:=(zg f 1).2;simp at k l)
  exact zN (v := .tuple #[.agg #[.bool false,.slice r n.length s],v]) (by simp[results,results99,go_sem,k,l]) rfl ⟨_,_,rfl,i,(h.setCell (ze _) _).setCell (ze _) _,xA (zU (zU a (by simp) _ _) (by simp) _ _) (by simp)⟩
 ·go_enter func99,ntmps99
  go_wp2_with (go_at_call 148;refine c1.mono ?_;rintro e w1 ⟨lv,v,rfl,i,d,a⟩;have h:Below w.heap.size w w1:=b.trans (d.mono (by simp));obtain⟨r,s,rfl⟩:=qG a;have f:=yT d;have k:=(zg f 0).1;have l:=(zg f 1).1;have A:=(zg f 0).2;have f1:=(zg f 1).2;simp at k l)
  exact zN (v := .tuple #[.agg #[.bool false,.slice r n.length s],v]) (by simp[results,results99,go_sem,k,l]) rfl ⟨_,_,rfl,i,(h.setCell (ze _) _).setCell (ze _) _,xA (zU (zU a (by simp) _ _) (by simp) _ _) (by simp)⟩
theorem NW(ms:List (BY×Rd.V))(u:Value)(w:World)(K:uB w)(hx:OAt w (some (.obj ms)) u)(L:Rd.Good 4000 (.obj ms)) :
  Calls prog 99 #[u] w (XI w (some (.obj ms))):=by
 obtain⟨Q,ao,cap,rfl,G⟩:=Y0 hx;have I:ms.length<=4000:=by cases L with|obj _ h=>exact h
 have H:=λv h=>Rd.yx L Ref.qM v h;unfold XI;have Z:chS (some (.obj ms))=if Rd.qf ms [Ref.qM] then (true,Rd.qN Rd.strOf (Rd.zm ms Ref.qM)) else (false,[]):=rfl
 have Y:Rd.chC (some (.obj ms))=if Rd.qf ms [Ref.qM] then Rd.qJ Rd.jl (Rd.zm ms Ref.qM) else 1:=rfl
 rw[Z,Y];have ta:=dR;have M:=nbl w (.cells #[.bool false,.slice none 0 0] 134);have m:=M.alloc (by simp) (.cells #[.string Ref.qM] 9);have S:∀args w,(callFunc 149 args).run prog w = .ok (.enter 149 args) w:=xg func149 (by kernel_rfl) rfl;obtain⟨b,hb⟩:=Nm (Rd.qf ms [Ref.qM])
 have x:=Ve ms Q ao cap [Ref.qM] (some ⟨w.heap.size+1,0,none⟩) 1 ((w.alloc (.cells #[.bool false,.slice none 0 0] 134)).alloc (.cells #[.string Ref.qM] 9)) (by simp) I
  (.inr ⟨w.heap.size+1,0,rfl,λj hj=>by
    simp only[vQ] at hj
    have:j=0:=by omega
    subst this;have h:=zQ (w.alloc (.cells #[.bool false,.slice none 0 0] 134)) (.cells #[.string Ref.qM] 9);rw[jT] at h;exact (zg h 0).1⟩) (G.below m) b hb
 rw[hb];have E:=λW (h:Below w.heap.size w W)=>bL (w:=W) cap (G.below h) I Ref.qM;have F:=λW (h:Below w.heap.size w W)=>Uv (Rd.zm ms Ref.qM) (xh Q Ref.qM) 149 #[] Rd.strOf Rd.jl 4000 W (K.below h).err S ((G.below h).get Ref.qM) H (dm (K.below h));have A:=(G.get Ref.qM).form;obtain⟨X,B⟩:=Nm (xh Q Ref.qM);rw[B] at A;simp only[B] at E F;simp only[vQ] at x;obtain⟨J,C⟩:=Nm (Rd.qN Rd.strOf (Rd.zm ms Ref.qM));obtain⟨c,N⟩:=Nm (Rd.qJ Rd.jl (Rd.zm ms Ref.qM));simp only[C,N] at F;rw[C,N];clear hx K S C N L G B hb Z Y H;unfold Ref.qM at x E m
 cases b with
 | false=>
  simp only[vo,jN] at x |-;clear F E A;go_enter func99,ntmps99
  go_wp2_with (go_at_call 96;refine x.mono ?_;rintro e w1 ⟨p,rfl,d⟩;have a:Below w.heap.size w w1:=m.trans (d.mono (by simp;omega));have k:=yT (((zf _ (w.alloc (.cells #[.bool false,.slice none 0 0] 134))).alloc (ze _) _).trans (d.mono (by simp)));have r:=(zg k 0).1;have s:=(zg k 1).1;have U:=(zg k 0).2;have f1:=(zg k 1).2;simp at r s)
  exact zN (v := .tuple #[.agg #[.bool false,.slice none 0 0],.iface 129 (.agg #[.string p])]) (by simp[results,results99,go_sem,r,s]) rfl ⟨_,_,rfl,.inr (.inl ⟨rfl,_,rfl⟩),(a.setCell (ze _) _).setCell (ze _) _,qD _ _ _ _⟩
 | true=>
  simp only[xy] at x |-
  rcases A with rfl|⟨T,y,rfl⟩
  ·go_enter func99,ntmps99
   go_wp2_with (first
    | (go_at_call 148;refine (F D i).mono ?_;rintro e R ⟨lv,v,rfl,z,o,f⟩;have t:Below w.heap.size w R:=i.trans (o.mono i.size);obtain⟨O,P,rfl⟩:=qG f;have q:w.heap.size<D.heap.size:=(by have h1:=g.size;simp at h1;omega);have k:=yT (g.trans (o.mono g.size));have r:=(zg k 0).1;have s:=(zg k 1).1;have U:=(zg k 0).2;have f1:=(zg k 1).2;simp at r s)
    | (go_at_call 53;refine (E w1 a).mono ?_;rintro e D ⟨rfl,n⟩;have i:Below w.heap.size w D:=a.trans (n.mono a.size);have g:=l.trans (n.mono l.size))
    | (go_at_call 96;refine x.mono ?_;rintro e w1 ⟨rfl,d⟩;have a:Below w.heap.size w w1:=m.trans (d.mono (by simp;omega));have l:=((zf _ (w.alloc (.cells #[.bool false,.slice none 0 0] 134))).alloc (ze _) (.cells #[.string ⟨#[110,111,116]⟩] 9)).trans (d.mono (by simp))))
   exact zN (v := .tuple #[.agg #[.bool true,.slice O J.length P],v]) (by simp[results,results99,go_sem,r,s]) rfl ⟨_,_,rfl,z,(t.setCell (ze _) _).setCell (ze _) _,xA (zU (zU f q _ _) q _ _) (by omega)⟩
  ·go_enter func99,ntmps99
   go_wp2_with (first
    | (go_at_call 148;refine (F D i).mono ?_;rintro e R ⟨lv,v,rfl,z,o,f⟩;have t:Below w.heap.size w R:=i.trans (o.mono i.size);obtain⟨O,P,rfl⟩:=qG f;have q:w.heap.size<D.heap.size:=(by have h1:=g.size;simp at h1;omega);have k:=yT (g.trans (o.mono g.size));have r:=(zg k 0).1;have s:=(zg k 1).1;have U:=(zg k 0).2;have f1:=(zg k 1).2;simp at r s)
    | (go_at_call 53;refine (E w1 a).mono ?_;rintro e D ⟨rfl,n⟩;have i:Below w.heap.size w D:=a.trans (n.mono a.size);have g:=l.trans (n.mono l.size))
    | (go_at_call 96;refine x.mono ?_;rintro e w1 ⟨rfl,d⟩;have a:Below w.heap.size w w1:=m.trans (d.mono (by simp;omega));have l:=((zf _ (w.alloc (.cells #[.bool false,.slice none 0 0] 134))).alloc (ze _) (.cells #[.string ⟨#[110,111,116]⟩] 9)).trans (d.mono (by simp))))
   exact zN (v := .tuple #[.agg #[.bool true,.slice O J.length P],v]) (by simp[results,results99,go_sem,r,s]) rfl ⟨_,_,rfl,z,(t.setCell (ze _) _).setCell (ze _) _,xA (zU (zU f q _ _) q _ _) (by omega)⟩
theorem NY(x:Option Rd.V)(u:Value)(w:World)(a:uB w)(c:OAt w x u)(b:∀v,x=some v->Rd.Good 4000 v):Calls prog 99 #[u] w (XI w x):=by
 by_cases h:∃ms,x=some (.obj ms)
 ·obtain⟨ms,rfl⟩:=h;exact NW ms u w a c (b _ rfl)
 ·exact NV x u w a c b (λms e=>h ⟨ms,e⟩)
theorem mP(s:BY)(w:World)(a:s.size<=4000):Calls prog 324 #[.string s] w λe w'=>e = .returned (.bool (Rd.short s))/\Below w.heap.size w w':=by
 have e:Rd.short s=decide ((s.size:Int)<=60):=by unfold Rd.short;exact decide_eq_decide.2 (by omega)
 rw[e];go_enter func324,ntmps324
 go_wp2
 go_ret;exact⟨rfl,zf _ _⟩
theorem Gy(s:BY)(w:World)(d:s.size<=4000):Calls prog 329 #[.string s] w λe w'=>e = .returned (.bool (Rd.filled s))/\Below w.heap.size w w':=by
 have c:=mP s w d;unfold Rd.filled;generalize Rd.short s=R at c
 cases h:(s.toList==[]) with
 | true=>
  have a:s.toList.isEmpty=true:=by rw[List.isEmpty_iff];simpa using h
  rw[a];clear c a;go_enter func329,ntmps329
  go_wp2
  go_ret;exact⟨rfl,zf _ _⟩
 | false=>
  have a:s.toList.isEmpty=false:=by
   cases e:s.toList.isEmpty with
   | false=>rfl
   | true=>rw[List.isEmpty_iff] at e;rw[e] at h;simp at h
  rw[a];clear a;go_enter func329,ntmps329
  go_wp2_with (go_at_call 324;refine c.mono ?_;rintro e w' ⟨rfl,b⟩)
  go_ret;exact⟨rfl,b⟩
theorem FT(s p:BY)(w:World)(R:Bool)(a:R=(decide (p.size<=s.size)&&((s.extract 0 p.size).toList==p.toList))) :
  Calls prog 338 #[.string s,.string p] w λe w'=>e = .returned (.bool R)/\w'=w:=by
 by_cases h:p.size<=s.size
 ·rw[zC h,Z0] at a;have d:decide ((p.size:Int)<=(s.size:Int))=true:=zC (by omega);subst a;go_enter func338,ntmps338
  go_wp2
  go_ret;exact⟨rfl,rfl⟩
 ·rw[zO h,Yt] at a;have d:decide ((p.size:Int)<=(s.size:Int))=false:=zO (by omega);subst a;go_enter func338,ntmps338
  go_wp2
  go_ret;exact⟨rfl,rfl⟩
def unsigned(s:BY):BY:=if 0<s.size/\(s.data.toList.getD 0 0).toNat=45 then s.extract 1 s.size else s
theorem LP(s:BY):(decide ((⟨#[45]⟩:BY).size<=s.size)&&((s.extract 0 (⟨#[45]⟩:BY).size).toList==(⟨#[45]⟩:BY).toList))=decide (0<s.size/\(s.data.toList.getD 0 0).toNat=45):=by
 have b:(⟨#[45]⟩:BY).size=1:=rfl;have c:(⟨#[45]⟩:BY).toList=[45]:=by rw[Xc]
 rw[b,c,Xc]
 by_cases h:0<s.size
 ·rw[zC (show 1<=s.size from h),Z0]
  have d:(s.extract 0 1).data.toList=[s.data.toList.getD 0 0]:=by
   cases hl:s.data.toList with
   | nil=>have:=Ref.zA s;rw[hl] at this;simp at this;omega
   | cons a r=>simp[hl]
  rw[d,XH,decide_eq_true_iff];simp only[List.cons_beq_cons,BEq.rfl,Yr,kH]
  constructor
  ·intro e;exact⟨h,by rw[e];rfl⟩
  ·intro e;exact UInt8.toNat.inj e.2
 ·rw[zO (show ¬1<=s.size by omega),Yt,zO (λe=>h e.1)]
theorem Sy(s:BY)(w:World):Calls prog 333 #[.string s,.string ⟨#[45]⟩] w λe w'=>e = .returned (.string (unsigned s))/\w'=w:=by
 have c:=FT s ⟨#[45]⟩ w _ (LP s).symm
 have c2:Calls prog 339 #[.string s,.string ⟨#[45]⟩] w λe w'=>e = .returned (.string (unsigned s))/\w'=w:=by
  unfold unsigned
  by_cases h:0<s.size/\(s.data.toList.getD 0 0).toNat=45
  ·rw[zb h];rw[zC h] at c;have a:(1:Int)<=(s.size:Int):=by have:=h.1;omega
   clear h;go_enter func339,ntmps339
   go_wp2_with (go_at_call 338;refine c.mono ?_;rintro e w' ⟨rfl,rfl⟩)
   go_ret;exact⟨rfl,rfl⟩
  ·rw[za h];rw[zO h] at c;clear h;go_enter func339,ntmps339
   go_wp2_with (go_at_call 338;refine c.mono ?_;rintro e w' ⟨rfl,rfl⟩)
   go_ret;exact⟨rfl,rfl⟩
 clear c;go_enter func333,ntmps333
 go_wp2_with (go_at_call 339;refine c2.mono ?_;rintro e w' ⟨rfl,rfl⟩)
 go_ret;exact⟨rfl,rfl⟩
def Zk(c:Nat):Bool:=decide (48<=c/\c<=57)
theorem Gw(c:Nat)(w:World)(d:c<256) :
  Calls prog 334 #[.int .u8 (c:Int)] w λe w'=>e = .returned (.bool (Zk c))/\w'=w:=by
 by_cases h1:48<=c
 ·have a:decide ((48:Int)<=(c:Int))=true:=zC (by omega)
  by_cases h2:c<=57
  ·have b:decide ((c:Int)<=57)=true:=zC (by omega);have e:Zk c=true:=by unfold Zk;simp;omega
   rw[e];go_enter func334,ntmps334
   go_wp2
   go_ret;exact⟨rfl,rfl⟩
  ·have b:decide ((c:Int)<=57)=false:=zO (by omega);have e:Zk c=false:=by unfold Zk;simp;omega
   rw[e];go_enter func334,ntmps334
   go_wp2
   go_ret;exact⟨rfl,rfl⟩
 ·have a:decide ((48:Int)<=(c:Int))=false:=zO (by omega);have e:Zk c=false:=by unfold Zk;simp;omega
  rw[e];go_enter func334,ntmps334
  go_wp2
  go_ret;exact⟨rfl,rfl⟩
theorem GH(s:BY):Ref.jY s=((s.toList==[48])||Ref.kS (unsigned s)):=rfl
theorem GK(s:BY)(w:World):Calls prog 325 #[.string s] w λe w'=>e = .returned (.bool (Ref.jY s))/\Below w.heap.size w w':=by
 have b:=Sy s;rw[GH];obtain⟨t,i⟩:=Nm (unsigned s);simp only[i] at b;rw[i];clear i
 cases h0:(s.toList==[48]) with
 | true=>
  rw[Bool.true_or];go_enter func325,ntmps325
  go_wp2_with (go_at_call 333;refine (b _).mono ?_;rintro e w' ⟨rfl,rfl⟩)
  go_ret;exact⟨rfl,zf _ _⟩
 | false=>
  rw[Ji]
  by_cases h1:1<=t.size
  ·have m:decide ((0:Int)<(t.size:Int))=true:=zC (by omega)
   by_cases h2:t.size<=18
   ·have n:decide ((t.size:Int)<=18)=true:=zC (by omega);have l:0<t.size:=h1;have a:=Ref.X6 t l
    by_cases h3:(t[0].toNat:Int)=48
    ·have o:((t[0].toNat:Int) != 48)=false:=by simp[h3]
     have e:Ref.kS t=false:=Ref.bJ t l h3;rw[e];clear e a;go_enter func325,ntmps325
     go_wp2_with (go_at_call 333;refine (b _).mono ?_;rintro e w' ⟨rfl,rfl⟩)
     go_ret;exact⟨rfl,zf _ _⟩
    ·have o:((t[0].toNat:Int) != 48)=true:=by simp[h3]
     obtain⟨C,O,p,f⟩:=gQ t w;have d:Below w.heap.size w (w.alloc O).drew:=(nbl w _).drew
     have c:=fZ t.size w.heap.size 0 C 334 #[] (λj=>(((t.data.toList.getD j 0).toNat:Nat):Int)) (λj=>Zk (t.data.toList.getD j 0).toNat) _ (by omega)
      (xg func334 (by kernel_rfl) rfl) f
      (λW j _ _=>(Gw _ W (VO _)).mono λe w' ⟨q,r⟩=>⟨q,r ▸ zf _ _⟩)
     have h:=fU t.data.toList Zk;rw[Ref.zA] at h;rw[h] at c
     have k:Ref.kS t=t.data.toList.all λc=>Zk c.toNat:=by
      unfold Ref.kS Ref.digits Zk;rw[zC (show 1<=t.size/\t.size<=18 from ⟨h1,h2⟩),a]
      have:(t[0].toNat != 48)=true:=by simp;omega
      rw[this]
      rfl
     rw[k];generalize (t.data.toList.all λc=>Zk c.toNat)=R at c;clear h k f a h3;go_enter func325,ntmps325
     go_wp2_with (first
      | (go_at_call 333;refine (b _).mono ?_;rintro e w' ⟨rfl,rfl⟩)
      | (go_at_call 89;refine c.mono ?_;rintro e w' ⟨rfl,g⟩))
     go_ret;exact⟨rfl,d.trans (g.mono d.size)⟩
   ·have n:decide ((t.size:Int)<=18)=false:=zO (by omega);rw[Ref.J8 t (by omega)];go_enter func325,ntmps325
    go_wp2_with (go_at_call 333;refine (b _).mono ?_;rintro e w' ⟨rfl,rfl⟩)
    go_ret;exact⟨rfl,zf _ _⟩
  ·have m:decide ((0:Int)<(t.size:Int))=false:=zO (by omega);rw[Ref.J8 t (by omega)];go_enter func325,ntmps325
   go_wp2_with (go_at_call 333;refine (b _).mono ?_;rintro e w' ⟨rfl,rfl⟩)
   go_ret;exact⟨rfl,zf _ _⟩
theorem Su(x:Option Rd.V)(u:Value)(g:Nat)(i:Array Value)(f:BY->Bool)(L B:Nat)(w:World)(j:∀args w,(callFunc g args).run prog w = .ok (.enter g args) w)
  (h:OAt w x u)(k:∀s,x=some (.str s)->s.size<=L)(l:VK g i f L w)(m:w.cell? ⟨B,0,none⟩=some (.func (.func g) #[] i)) :
  Calls prog 332 #[u,.pointer (some ⟨B,0,none⟩)] w (XU w (Rd.qV f x) (Rd.qb f x)):=by
 have c:=dh x u g i f L w j h k l;generalize Rd.qV f x=S at c;generalize Rd.qb f x=C at c;have d:=h.form;clear h k l j
 rcases d with rfl|⟨T,y,rfl⟩
 ·go_enter func332,ntmps332
  go_wp2_with (go_at_call 97;refine c.mono ?_;rintro e w' ⟨v,rfl,b,a⟩)
  go_ret2;exact⟨_,rfl,b,a⟩
 ·go_enter func332,ntmps332
  go_wp2_with (go_at_call 97;refine c.mono ?_;rintro e w' ⟨v,rfl,b,a⟩)
  go_ret2;exact⟨_,rfl,b,a⟩
theorem QH.after{w w1 b:World}{a:List BY}{c:Nat}{e:Ending}(h:QH w1 a c e b)(hb:Below w.heap.size w w1):QH w a c e b:=by
 obtain⟨lv,u,d,f,g,i⟩:=h;exact⟨lv,u,d,f,hb.trans (g.mono hb.size),xA i hb.size⟩
theorem dL(x:Option Rd.V)(u:Value)(g:Nat)(f:BY->Bool)(w:World)(z:xH w)(p:∀args w,(callFunc g args).run prog w = .ok (.enter g args) w)
  (n:OAt w x u)(q:∀v,x=some v->Rd.Good 4000 v)(r:VK g #[] f 4000 w) :
  Calls prog 323 #[u,.func (.func g) #[] #[]] w (QH w (Rd.qN (Rd.qV f) x) (Rd.qJ (Rd.qb f) x)):=by
 have a:=nbl w (.cells #[.func (.func g) #[] #[]] 101);have o:∀args w,(callFunc 332 args).run prog w = .ok (.enter 332 args) w:=xg func332 (by kernel_rfl) rfl
 have c:=Uv x u 332 #[.pointer (some ⟨w.heap.size,0,none⟩)] (Rd.qV f) (Rd.qb f) 4000 (w.alloc (.cells #[.func (.func g) #[] #[]] 101)) (z.below a) o (n.below a) q
  (λW y v j A hb=>Su y v g #[] f 4000 w.heap.size W p A (λs m=>by have:=j _ m;cases this with|str _ h=>exact h)
    (λt s m i=>r t s m ((a.trans (hb.mono (by simp))).trans (i.mono (by have:=hb.size;simp at this;omega)))) (zi hb (by simp)))
 generalize Rd.qN (Rd.qV f) x=S at c;generalize Rd.qJ (Rd.qb f) x=C at c;have k:=n.form;clear n q r p o
 rcases k with rfl|⟨T,y,rfl⟩
 ·go_enter func323,ntmps323
  go_wp2_with (go_at_call 148;refine c.mono ?_;rintro e w' h;have i:=h.after a;obtain⟨lv,v,rfl,d,b,l⟩:=i)
  go_ret2;exact⟨_,_,rfl,d,b,l⟩
 ·go_enter func323,ntmps323
  go_wp2_with (go_at_call 148;refine c.mono ?_;rintro e w' h;have i:=h.after a;obtain⟨lv,v,rfl,d,b,l⟩:=i)
  go_ret2;exact⟨_,_,rfl,d,b,l⟩
def Looks(g:Nat)(b:Option Rd.V->List BY)(a:Option Rd.V->Nat)(w:World):Prop:=
 ∀W (x:Option Rd.V) (u:Value),(∀v,x=some v->Rd.Good 4000 v)->OAt W x u->Below w.heap.size w W->Calls prog g #[u] W (QH W (b x) (a x))
theorem Lc{w:World}(i:uB w):Looks 313 (Rd.qN Rd.strOf) (Rd.qJ Rd.jl) w:=by
 intro W x u j g hb;have h:∀args w,(callFunc 149 args).run prog w = .ok (.enter 149 args) w:=xg func149 (by kernel_rfl) rfl;have c:=Uv x u 149 #[] Rd.strOf Rd.jl 4000 W (i.below hb).err h g j (dm (i.below hb));generalize Rd.qN Rd.strOf x=S at c;generalize Rd.qJ Rd.jl x=C at c;have d:=g.form;clear g j h
 rcases d with rfl|⟨T,y,rfl⟩
 ·go_enter func313,ntmps313
  go_wp2_with (go_at_call 148;refine c.mono ?_;rintro e w' ⟨lv,v,rfl,b,a,f⟩)
  go_ret2;exact⟨_,_,rfl,b,a,f⟩
 ·go_enter func313,ntmps313
  go_wp2_with (go_at_call 148;refine c.mono ?_;rintro e w' ⟨lv,v,rfl,b,a,f⟩)
  go_ret2;exact⟨_,_,rfl,b,a,f⟩
theorem OI{w:World}(k:uB w):Looks 315 (Rd.qN (Rd.qV Rd.short)) (Rd.qJ (Rd.qb Rd.short)) w:=by
 intro W x u i g hb;have h:∀args w,(callFunc 324 args).run prog w = .ok (.enter 324 args) w:=xg func324 (by kernel_rfl) rfl;have c:=dL x u 324 Rd.short W (k.below hb).err h g i (λj s l _=>mP s j l);generalize Rd.qN (Rd.qV Rd.short) x=S at c;generalize Rd.qJ (Rd.qb Rd.short) x=C at c;have d:=g.form;clear g i h
 rcases d with rfl|⟨T,y,rfl⟩
 ·go_enter func315,ntmps315
  go_wp2_with (go_at_call 323;refine c.mono ?_;rintro e w' ⟨lv,v,rfl,b,a,f⟩)
  go_ret2;exact⟨_,_,rfl,b,a,f⟩
 ·go_enter func315,ntmps315
  go_wp2_with (go_at_call 323;refine c.mono ?_;rintro e w' ⟨lv,v,rfl,b,a,f⟩)
  go_ret2;exact⟨_,_,rfl,b,a,f⟩
theorem AQ{w:World}(k:uB w):Looks 317 (Rd.qN (Rd.qV Ref.jY)) (Rd.qJ (Rd.qb Ref.jY)) w:=by
 intro W x u i g hb;have h:∀args w,(callFunc 325 args).run prog w = .ok (.enter 325 args) w:=xg func325 (by kernel_rfl) rfl;have c:=dL x u 325 Ref.jY W (k.below hb).err h g i (λj s _ _=>GK s j);generalize Rd.qN (Rd.qV Ref.jY) x=S at c;generalize Rd.qJ (Rd.qb Ref.jY) x=C at c;have d:=g.form;clear g i h
 rcases d with rfl|⟨T,y,rfl⟩
 ·go_enter func317,ntmps317
  go_wp2_with (go_at_call 323;refine c.mono ?_;rintro e w' ⟨lv,v,rfl,b,a,f⟩)
  go_ret2;exact⟨_,_,rfl,b,a,f⟩
 ·go_enter func317,ntmps317
  go_wp2_with (go_at_call 323;refine c.mono ?_;rintro e w' ⟨lv,v,rfl,b,a,f⟩)
  go_ret2;exact⟨_,_,rfl,b,a,f⟩
theorem SC{w:World}(k:uB w):Looks 319 (Rd.qN (Rd.qV Rd.filled)) (Rd.qJ (Rd.qb Rd.filled)) w:=by
 intro W x u i g hb;have h:∀args w,(callFunc 329 args).run prog w = .ok (.enter 329 args) w:=xg func329 (by kernel_rfl) rfl;have c:=dL x u 329 Rd.filled W (k.below hb).err h g i (λj s l _=>Gy s j l);generalize Rd.qN (Rd.qV Rd.filled) x=S at c;generalize Rd.qJ (Rd.qb Rd.filled) x=C at c;have d:=g.form;clear g i h
 rcases d with rfl|⟨T,y,rfl⟩
 ·go_enter func319,ntmps319
  go_wp2_with (go_at_call 323;refine c.mono ?_;rintro e w' ⟨lv,v,rfl,b,a,f⟩)
  go_ret2;exact⟨_,_,rfl,b,a,f⟩
 ·go_enter func319,ntmps319
  go_wp2_with (go_at_call 323;refine c.mono ?_;rintro e w' ⟨lv,v,rfl,b,a,f⟩)
  go_ret2;exact⟨_,_,rfl,b,a,f⟩
theorem wG{w:World}:Looks 321 (λ_=>[]) (λx=>if x.isNone then 0 else 1) w:=by
 intro W x u _ a _
 cases x with
 | none=>
  have c:u = .nilIface:=a;subst c;go_enter func321,ntmps321
  go_wp2
  go_ret2;exact⟨_,_,rfl,.inl ⟨rfl,rfl⟩,zf _ _,qD _ _ _ _⟩
 | some v=>
  obtain⟨T,y,rfl⟩:=ValAt.iface (show ValAt W (λb=>b<W.heap.size) v u from a)
  clear a;go_enter func321,ntmps321
  go_wp2
  go_ret2;exact⟨_,_,rfl,.inr (.inl ⟨rfl,_,rfl⟩),zf _ _,qD _ _ _ _⟩
def Kr(w:World)(x:Option Rd.V)(e:Ending)(w':World):Prop:=∃u,e = .returned (.tuple #[.bool (Rd.Zr x),u])/\FV (Rd.cls (Rd.vJ x) false) u/\Below w.heap.size w w'
theorem Oe(x:Option Rd.V)(u:Value)(w:World)(e:OAt w x u):Calls prog 194 #[u] w (Kr w x):=by
 cases x with
 | none=>
  have h:u = .nilIface:=e;subst h;go_enter func194,ntmps194
  go_wp2
  go_ret2;exact⟨_,rfl,.inl ⟨rfl,rfl⟩,zf _ _⟩
 | some v=>
  have i:ValAt w (λb=>b<w.heap.size) v u:=e;clear e
  cases i with
  | word b=>
   have f:=Si;go_enter func194,ntmps194
   go_wp2
   go_ret2;exact⟨_,rfl,.inl ⟨rfl,rfl⟩,zf _ _⟩
  | str s=>
   have f:=Sg;go_enter func194,ntmps194
   go_wp2
   go_ret2;exact⟨_,rfl,.inr (.inl ⟨rfl,_,rfl⟩),zf _ _⟩
  | list k j g cap a c d=>
   clear a c d;have f:=Sc;go_enter func194,ntmps194
   go_wp2
   go_ret2;exact⟨_,rfl,.inr (.inl ⟨rfl,_,rfl⟩),zf _ _⟩
  | obj ms j g cap a c d=>
   clear a c d;have f:=Sd;go_enter func194,ntmps194
   go_wp2
   go_ret2;exact⟨_,rfl,.inr (.inl ⟨rfl,_,rfl⟩),zf _ _⟩
end Go.Proofs.YtagnlbgbnfnapaaGreatDoor
