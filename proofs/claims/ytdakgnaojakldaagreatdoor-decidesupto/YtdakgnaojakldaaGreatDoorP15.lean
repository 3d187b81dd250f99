/- P -/
import Derived.Test.YtdakgnaojakldaaGreatDoorP14
open Go.Proofs.Tryz
set_option maxRecDepth 100000
set_option maxHeartbeats 1000000
namespace Go.Proofs.YtdakgnaojakldaaGreatDoor
open Go.RowKit
structure ZQ (w:World) (ms:List (BY×Rd.V)) (us:List (BY×Value)) (ao:Option Addr):Prop where
 names:us.map Prod.fst=ms.map Prod.fst
 mems:Yd w ao us
 vals:∀(j:Nat) (x:BY×Rd.V) (u:BY×Value),ms[j]?=some x->us[j]?=some u->ValAt w (λb=>b<w.heap.size) x.2 u.2
theorem Vq{w:World}{ms:List (BY×Rd.V)}{u:Value}(h:OAt w (some (.obj ms)) u):∃a ao cap,u = .iface 118 (.slice ao a.length cap)/\ZQ w ms a ao:=by
 have g:ValAt w (λb=>b<w.heap.size) (.obj ms) u:=h
 cases g with
 | obj _ a ao cap d c e=>
  refine⟨a,ao,cap,rfl,d,?_,e⟩
  rcases c with c|⟨b,ha,_,hc⟩
  ·exact .inl c
  ·exact .inr ⟨b,0,ha,λj f=>by simp only[qN];exact hc j _ (zm f)⟩
theorem ZQ.len{w:World}{ms:List (BY×Rd.V)}{a:List (BY×Value)}{ao:Option Addr}(h:ZQ w ms a ao):a.length=ms.length:=by
 have:=congrArg List.length h.names
 simpa using this
theorem ZQ.below{w w':World}{ms:List (BY×Rd.V)}{d:List (BY×Value)}{ao:Option Addr}(h:ZQ w ms d ao)(hb:Below w.heap.size w w'):ZQ w' ms d ao:=
 ⟨h.names,ae h.mems hb,λj x u f e=>(h.vals j x u f e).move (λ_ c=>xS c hb.size) (λb a=>hb.block b a)⟩
theorem ZQ.ifaces{w:World}{ms:List (BY×Rd.V)}{b:List (BY×Value)}{ao:Option Addr}(h:ZQ w ms b ao):∀m ∈ b,∃T x,m.2 = .iface T x:=by
 intro m d;obtain⟨j,c,rfl⟩:=Qb d;have a:j<ms.length:=by have:=h.len;omega
 exact (h.vals j ms[j] b[j] (zm a) (zm c)).iface
theorem rY{w:World}(nm:BY):∀{ms:List (BY×Rd.V)} {a:List (BY×Value)},a.map Prod.fst=ms.map Prod.fst ->
  (∀(j:Nat) (x:BY×Rd.V) (u:BY×Value),ms[j]?=some x->a[j]?=some u->ValAt w (λb=>b<w.heap.size) x.2 u.2)->OAt w (Rd.zl ms nm) (xz a nm)
 | [],[],_,_=>rfl
 | [],_::_,h,_=>by simp at h
 | _::_,[],h,_=>by simp at h
 | m::ms,u::a,h,hv=>by
  simp only[yK,List.cons.injEq] at h;unfold Rd.zl xz;rw[VS,VS,h.1]
  cases e:(m.1.toList==nm.toList) with
  | true=>exact hv 0 m u rfl rfl
  | false=>exact rY nm h.2 (λj x y c d=>hv (j+1) x y (by simpa using c) (by simpa using d))
theorem ZQ.get{w:World}{ms:List (BY×Rd.V)}{a:List (BY×Value)}{ao:Option Addr}(h:ZQ w ms a ao)(nm:BY):OAt w (Rd.zl ms nm) (xz a nm):=rY nm h.names h.vals
theorem gH{w:World}{ms:List (BY×Rd.V)}{a:List (BY×Value)}{ao:Option Addr}(cap:Nat)(h:ZQ w ms a ao)(b:ms.length<=4000)(nm:BY) :
  Calls prog 51 #[.slice ao a.length cap,.string nm] w λe w'=>e = .returned (xz a nm)/\Below w.heap.size w w':=
 fw a ao cap nm w (by have:=h.len;omega) h.mems h.ifaces
theorem Rt(g:List BY)(d:Option Addr)(b:Nat)(m:BY×Value)(B:Nat)(w:World)(l:g.length<=100)(i:Zi w d g)(j:w.cell? ⟨B,0,none⟩=some (.slice d g.length b)) :
  Calls prog 148 #[QV m,.pointer (some ⟨B,0,none⟩)] w λe w'=>e = .returned (.bool (g.any λs=>s.toList==m.1.toList))/\Below w.heap.size w w':=by
 obtain⟨a,v⟩:=m;unfold QV;simp only;have k:=λO:Obj=>zh (nbl w O) j;have f:=λO:Obj=>nbl w O;have c:=λO:Obj=>sG g a d b (w.alloc O) (by omega) (ZG i (f O));generalize g.any (λs=>s.toList==a.toList)=F at c;clear i;go_enter func148,ntmps148
 go_wp2_with (go_at_call 149;refine (c _).mono ?_;rintro e w' ⟨rfl,h⟩)
 go_ret;exact⟨rfl,(f _).trans (h.mono (f _).size)⟩
theorem Eu(ms:List (BY×Rd.V))(b:List (BY×Value))(e:List BY)(h:b.map Prod.fst=ms.map Prod.fst) :
  uT (λj=>e.any λs=>s.toList==(uB b j).1.toList) b.length=Rd.qg ms e:=by
 have f:uT (λj=>e.any λs=>s.toList==(uB b j).1.toList) b.length=(b.map Prod.fst).all (λa=>e.any λs=>s.toList==a.toList):=by
  unfold uT;rw[List.all_map,kL,ZM,ZM]
  constructor
  ·intro h m g;obtain⟨j,d,rfl⟩:=Qb g
   have:=h j (jW.2 d)
   rw[YP b j d] at this;exact this
  ·intro h j d;have c:=jW.1 d;rw[YP b j c];exact h _ (qA c)
 rw[f,h,List.all_map]
 rfl
def U1(w:World)(e:Ending)(w':World):Prop:=∃p,e = .returned (.tuple #[.slice none 0 0,.iface 125 (.agg #[.string p])])/\Below w.heap.size w w'
theorem UK(ms:List (BY×Rd.V))(i:List (BY×Value))(ao:Option Addr)(cap:Nat)(f:List BY)(c:Option Addr)(a:Nat)(w:World)(o:f.length<=100)(q:ms.length<=4000)(n:Zi w c f)(h:ZQ w ms i ao)(b:Bool)(m:Rd.qg ms f=b) :
  Calls prog 97 #[.iface 118 (.slice ao i.length cap),.slice c f.length a] w λe w'=>
   if b then (e = .returned (.tuple #[.slice ao i.length cap,.nilIface])/\Below w.heap.size w w') else U1 w e w':=by
 have d:=nbl w (.cells #[.slice c f.length a] 42);have l:∀args w,(callFunc 148 args).run prog w = .ok (.enter 148 args) w:=enters_of func148 (by kernel_rfl) rfl
 have k:=Es i ao cap 148 #[.pointer (some ⟨w.heap.size,0,none⟩)] (λj=>f.any λs=>s.toList==(uB i j).1.toList) (w.alloc (.cells #[.slice c f.length a] 42)) (by have:=h.len;omega) l
  (ae h.mems d) h.ifaces (λW j p hb=>Rt f c a (uB i j) w.heap.size W o (ZG n (d.trans (hb.mono (by simp)))) (zh hb (by simp)))
 rw[Eu ms i f h.names,m] at k;have r:=iZ;clear l h n m
 cases b with
 | true=>
  simp only[qJ];go_enter func97,ntmps97
  go_wp2_with (go_at_call 150;refine k.mono ?_;rintro e w' ⟨rfl,g⟩)
  go_ret2;exact⟨rfl,d.trans (g.mono (by simp))⟩
 | false=>
  simp only[yu,xV];go_enter func97,ntmps97
  go_wp2_with (go_at_call 150;refine k.mono ?_;rintro e w' ⟨rfl,g⟩)
  go_ret2;exact⟨_,rfl,d.trans (g.mono (by simp))⟩
theorem iY{w:World}{x:Option Rd.V}{u:Value}(h:OAt w x u)(d:∀ms,x≠some (.obj ms))(W:World):(Instr.typeAssert u 114 118 true).run prog W = .ok (.tuple #[.slice none 0 0,.bool false]) W:=by
 cases x with
 | none=>
  have a:u = .nilIface:=h;subst a;exact zcl W
 | some v=>
  have c:ValAt w (λb=>b<w.heap.size) v u:=h
  cases c with
  | str s=>exact zcm _ W
  | word b=>exact zcn _ W
  | list e=>exact zck _ W
  | obj ms=>exact absurd rfl (d ms)
theorem BD(x:Option Rd.V)(u:Value)(n:Nat)(b:Option Addr)(a:Nat)(w:World)(f:OAt w x u)(d:∀ms,x≠some (.obj ms)) :
  Calls prog 97 #[u,.slice b n a] w (U1 w):=by
 have g:=λW=>iY f d W;have c:=nbl w (.cells #[.slice b n a] 42);have e:=f.form;clear f d
 rcases e with rfl|⟨T,y,rfl⟩
 ·go_enter func97,ntmps97
  go_wp2
  go_ret2;exact⟨_,rfl,c⟩
 ·go_enter func97,ntmps97
  go_wp2
  go_ret2;exact⟨_,rfl,c⟩
theorem zV{w:World}{base:Nat}{e:TypeId}{v:Value}{n:Nat}{xs:List Value}(h:w.ownsRow base e 1 v n xs){b:Nat}(hb:b<base)(o:Nat)(u:Value):(w.setCell ⟨b,o,none⟩ u).ownsRow base e 1 v n xs:=
 qY h (a:=⟨b,o,none⟩) (by intro c;have:=(h.lt b c).1;omega) u
theorem uG{w:World}{base:Nat}{e:TypeId}{v:Value}{n:Nat}{xs:List Value}(h:w.ownsRow base e 1 v n xs):∃a c,v = .slice a n c:=by
 rcases h.2 with ⟨rfl,rfl⟩|⟨g,c,cur,rfl,_⟩
 ·exact⟨_,_,rfl⟩
 ·exact⟨_,_,rfl⟩
theorem jw{w W:World}{O:Obj}(hb:Below (w.alloc O).heap.size (w.alloc O) W):W.heap[w.heap.size]?=some O:=(hb.block _ (by simp)).trans (zB w O)
def chS:Option Rd.V->Bool×List BY
 | some (.obj ms)=>if Rd.qg ms [Ref.qR] then (true,Rd.qU Rd.strOf (Rd.zl ms Ref.qR)) else (false,[])
 | x=>(false,Rd.qU Rd.strOf x)
def Y1(w:World)(x:Option Rd.V)(e:Ending)(w':World):Prop:=
 ∃lv u,e = .returned (.tuple #[.agg #[.bool (chS x).1,lv],u])/\FV (Rd.chC x) u/\Below w.heap.size w w'/\w'.ownsRow w.heap.size 9 1 lv (chS x).2.length ((chS x).2.map Value.string)
theorem iy{w:World}(a:Zm w):V4 152 #[] Rd.strOf Rd.jQ 4000 w:=λW y u b d hb=>
 zak y u W (a.below hb) d (λs c=>by have:=b _ c;cases this with|str _ h=>exact h)
theorem nT(x:Option Rd.V)(a:∀ms,x≠some (.obj ms)):chS x=(false,Rd.qU Rd.strOf x)/\Rd.chC x=Rd.qL Rd.jQ x:=by
 match x with
 | none=>exact⟨rfl,rfl⟩
 | some (.str s)=>exact⟨rfl,rfl⟩
 | some (.word b)=>exact⟨rfl,rfl⟩
 | some (.list vs)=>exact⟨rfl,rfl⟩
 | some (.obj ms)=>exact absurd rfl (a ms)
theorem WY(x:Option Rd.V)(u:Value)(w:World)(o:Zm w)(m:OAt w x u)(z:∀v,x=some v->Rd.Good 4000 v)(g:∀ms,x≠some (.obj ms)) :
  Calls prog 100 #[u] w (Y1 w x):=by
 unfold Y1;rw[(nT x g).1,(nT x g).2];have B:=λW=>iY m g W;have b:=nbl w (.cells #[.bool false,.slice none 0 0] 130);have t:∀args w,(callFunc 152 args).run prog w = .ok (.enter 152 args) w:=enters_of func152 (by kernel_rfl) rfl;have c1:=aj x u 152 #[] Rd.strOf Rd.jQ 4000 (w.alloc (.cells #[.bool false,.slice none 0 0] 130)) (o.below b).err t (m.below b) z (iy (o.below b));obtain⟨n,j⟩:=Nm (Rd.qU Rd.strOf x);obtain⟨c,p⟩:=Nm (Rd.qL Rd.jQ x);rw[j,p] at c1;rw[j,p];have q:=m.form;clear m g o t j p z
 rcases q with rfl|⟨T,y,rfl⟩
 ·go_enter func100,ntmps100
  go_wp2_with (go_at_call 151;refine c1.mono ?_;rintro e w1 ⟨lv,v,rfl,i,d,a⟩;have h:Below w.heap.size w w1:=b.trans (d.mono (by simp));obtain⟨r,s,rfl⟩:=uG a;have f:=jw d;have k:=(zg f 0).1;have l:=(zg f 1).1;have A:=(zg f 0).2;have f1:=(zg f 1).2;simp at k l)
  exact zA (v := .tuple #[.agg #[.bool false,.slice r n.length s],v]) (by simp[results,results100,go_sem,k,l]) rfl ⟨_,_,rfl,i,(h.setCell (zf _) _).setCell (zf _) _,xC (zV (zV a (by simp) _ _) (by simp) _ _) (by simp)⟩
 ·go_enter func100,ntmps100
  go_wp2_with (go_at_call 151;refine c1.mono ?_;rintro e w1 ⟨lv,v,rfl,i,d,a⟩;have h:Below w.heap.size w w1:=b.trans (d.mono (by simp));obtain⟨r,s,rfl⟩:=uG a;have f:=jw d;have k:=(zg f 0).1;have l:=(zg f 1).1;have A:=(zg f 0).2;have f1:=(zg f 1).2;simp at k l)
  exact zA (v := .tuple #[.agg #[.bool false,.slice r n.length s],v]) (by simp[results,results100,go_sem,k,l]) rfl ⟨_,_,rfl,i,(h.setCell (zf _) _).setCell (zf _) _,xC (zV (zV a (by simp) _ _) (by simp) _ _) (by simp)⟩
theorem WZ(ms:List (BY×Rd.V))(u:Value)(w:World)(K:Zm w)(hx:OAt w (some (.obj ms)) u)(L:Rd.Good 4000 (.obj ms)) :
  Calls prog 100 #[u] w (Y1 w (some (.obj ms))):=by
 obtain⟨Q,ao,cap,rfl,G⟩:=Vq hx;have I:ms.length<=4000:=by cases L with|obj _ h=>exact h
 have H:=λv h=>Rd.yP L Ref.qR v h;unfold Y1;have Z:chS (some (.obj ms))=if Rd.qg ms [Ref.qR] then (true,Rd.qU Rd.strOf (Rd.zl ms Ref.qR)) else (false,[]):=rfl
 have Y:Rd.chC (some (.obj ms))=if Rd.qg ms [Ref.qR] then Rd.qL Rd.jQ (Rd.zl ms Ref.qR) else 1:=rfl
 rw[Z,Y];have ta:=iZ;have M:=nbl w (.cells #[.bool false,.slice none 0 0] 130);have m:=M.alloc (by simp) (.cells #[.string Ref.qR] 9);have S:∀args w,(callFunc 152 args).run prog w = .ok (.enter 152 args) w:=enters_of func152 (by kernel_rfl) rfl;obtain⟨b,hb⟩:=Nm (Rd.qg ms [Ref.qR])
 have x:=UK ms Q ao cap [Ref.qR] (some ⟨w.heap.size+1,0,none⟩) 1 ((w.alloc (.cells #[.bool false,.slice none 0 0] 130)).alloc (.cells #[.string Ref.qR] 9)) (by simp) I
  (.inr ⟨w.heap.size+1,0,rfl,λj hj=>by
    simp only[uP] at hj
    have:j=0:=by omega
    subst this;have h:=zB (w.alloc (.cells #[.bool false,.slice none 0 0] 130)) (.cells #[.string Ref.qR] 9);rw[vW] at h;exact (zg h 0).1⟩) (G.below m) b hb
 rw[hb];have E:=λW (h:Below w.heap.size w W)=>gH (w:=W) cap (G.below h) I Ref.qR;have F:=λW (h:Below w.heap.size w W)=>aj (Rd.zl ms Ref.qR) (xz Q Ref.qR) 152 #[] Rd.strOf Rd.jQ 4000 W (K.below h).err S ((G.below h).get Ref.qR) H (iy (K.below h));have A:=(G.get Ref.qR).form;obtain⟨X,B⟩:=Nm (xz Q Ref.qR);rw[B] at A;simp only[B] at E F;simp only[uP] at x;obtain⟨J,C⟩:=Nm (Rd.qU Rd.strOf (Rd.zl ms Ref.qR));obtain⟨c,N⟩:=Nm (Rd.qL Rd.jQ (Rd.zl ms Ref.qR));simp only[C,N] at F;rw[C,N];clear hx K S C N L G B hb Z Y H;unfold Ref.qR at x E m
 cases b with
 | false=>
  simp only[yu,xV] at x |-;clear F E A;go_enter func100,ntmps100
  go_wp2_with (go_at_call 97;refine x.mono ?_;rintro e w1 ⟨p,rfl,d⟩;have a:Below w.heap.size w w1:=m.trans (d.mono (by simp;omega));have k:=jw (((ze _ (w.alloc (.cells #[.bool false,.slice none 0 0] 130))).alloc (zf _) _).trans (d.mono (by simp)));have r:=(zg k 0).1;have s:=(zg k 1).1;have U:=(zg k 0).2;have f1:=(zg k 1).2;simp at r s)
  exact zA (v := .tuple #[.agg #[.bool false,.slice none 0 0],.iface 125 (.agg #[.string p])]) (by simp[results,results100,go_sem,r,s]) rfl ⟨_,_,rfl,.inr (.inl ⟨rfl,_,rfl⟩),(a.setCell (zf _) _).setCell (zf _) _,ql _ _ _ _⟩
 | true=>
  simp only[qJ] at x |-
  rcases A with rfl|⟨T,y,rfl⟩
  ·go_enter func100,ntmps100
   go_wp2_with (first
    | (go_at_call 151;refine (F D i).mono ?_;rintro e R ⟨lv,v,rfl,z,o,f⟩;have t:Below w.heap.size w R:=i.trans (o.mono i.size);obtain⟨O,P,rfl⟩:=uG f;have q:w.heap.size<D.heap.size:=(by have h1:=g.size;simp at h1;omega);have k:=jw (g.trans (o.mono g.size));have r:=(zg k 0).1;have s:=(zg k 1).1;have U:=(zg k 0).2;have f1:=(zg k 1).2;simp at r s)
    | (go_at_call 51;refine (E w1 a).mono ?_;rintro e D ⟨rfl,n⟩;have i:Below w.heap.size w D:=a.trans (n.mono a.size);have g:=l.trans (n.mono l.size))
    | (go_at_call 97;refine x.mono ?_;rintro e w1 ⟨rfl,d⟩;have a:Below w.heap.size w w1:=m.trans (d.mono (by simp;omega));have l:=((ze _ (w.alloc (.cells #[.bool false,.slice none 0 0] 130))).alloc (zf _) (.cells #[.string ⟨#[110,111,116]⟩] 9)).trans (d.mono (by simp))))
   exact zA (v := .tuple #[.agg #[.bool true,.slice O J.length P],v]) (by simp[results,results100,go_sem,r,s]) rfl ⟨_,_,rfl,z,(t.setCell (zf _) _).setCell (zf _) _,xC (zV (zV f q _ _) q _ _) (by omega)⟩
  ·go_enter func100,ntmps100
   go_wp2_with (first
    | (go_at_call 151;refine (F D i).mono ?_;rintro e R ⟨lv,v,rfl,z,o,f⟩;have t:Below w.heap.size w R:=i.trans (o.mono i.size);obtain⟨O,P,rfl⟩:=uG f;have q:w.heap.size<D.heap.size:=(by have h1:=g.size;simp at h1;omega);have k:=jw (g.trans (o.mono g.size));have r:=(zg k 0).1;have s:=(zg k 1).1;have U:=(zg k 0).2;have f1:=(zg k 1).2;simp at r s)
    | (go_at_call 51;refine (E w1 a).mono ?_;rintro e D ⟨rfl,n⟩;have i:Below w.heap.size w D:=a.trans (n.mono a.size);have g:=l.trans (n.mono l.size))
    | (go_at_call 97;refine x.mono ?_;rintro e w1 ⟨rfl,d⟩;have a:Below w.heap.size w w1:=m.trans (d.mono (by simp;omega));have l:=((ze _ (w.alloc (.cells #[.bool false,.slice none 0 0] 130))).alloc (zf _) (.cells #[.string ⟨#[110,111,116]⟩] 9)).trans (d.mono (by simp))))
   exact zA (v := .tuple #[.agg #[.bool true,.slice O J.length P],v]) (by simp[results,results100,go_sem,r,s]) rfl ⟨_,_,rfl,z,(t.setCell (zf _) _).setCell (zf _) _,xC (zV (zV f q _ _) q _ _) (by omega)⟩
theorem zaa(x:Option Rd.V)(u:Value)(w:World)(a:Zm w)(c:OAt w x u)(b:∀v,x=some v->Rd.Good 4000 v):Calls prog 100 #[u] w (Y1 w x):=by
 by_cases h:∃ms,x=some (.obj ms)
 ·obtain⟨ms,rfl⟩:=h;exact WZ ms u w a c (b _ rfl)
 ·exact WY x u w a c b (λms e=>h ⟨ms,e⟩)
theorem sO(s:BY)(w:World)(a:s.size<=4000):Calls prog 331 #[.string s] w λe w'=>e = .returned (.bool (Rd.short s))/\Below w.heap.size w w':=by
 have e:Rd.short s=decide ((s.size:Int)<=60):=by unfold Rd.short;exact decide_eq_decide.2 (by omega)
 rw[e];go_enter func331,ntmps331
 go_wp2
 go_ret;exact⟨rfl,ze _ _⟩
theorem OZ(s:BY)(w:World)(d:s.size<=4000):Calls prog 336 #[.string s] w λe w'=>e = .returned (.bool (Rd.filled s))/\Below w.heap.size w w':=by
 have c:=sO s w d;unfold Rd.filled;generalize Rd.short s=R at c
 cases h:(s.toList==[]) with
 | true=>
  have a:s.toList.isEmpty=true:=by rw[List.isEmpty_iff];simpa using h
  rw[a];clear c a;go_enter func336,ntmps336
  go_wp2
  go_ret;exact⟨rfl,ze _ _⟩
 | false=>
  have a:s.toList.isEmpty=false:=by
   cases e:s.toList.isEmpty with
   | false=>rfl
   | true=>rw[List.isEmpty_iff] at e;rw[e] at h;simp at h
  rw[a];clear a;go_enter func336,ntmps336
  go_wp2_with (go_at_call 331;refine c.mono ?_;rintro e w' ⟨rfl,b⟩)
  go_ret;exact⟨rfl,b⟩
theorem fG(s p:BY)(w:World)(R:Bool)(a:R=(decide (p.size<=s.size)&&((s.extract 0 p.size).toList==p.toList))) :
  Calls prog 345 #[.string s,.string p] w λe w'=>e = .returned (.bool R)/\w'=w:=by
 by_cases h:p.size<=s.size
 ·rw[zy h,jC] at a;have d:decide ((p.size:Int)<=(s.size:Int))=true:=zy (by omega);subst a;go_enter func345,ntmps345
  go_wp2
  go_ret;exact⟨rfl,rfl⟩
 ·rw[zJ h,uJ] at a;have d:decide ((p.size:Int)<=(s.size:Int))=false:=zJ (by omega);subst a;go_enter func345,ntmps345
  go_wp2
  go_ret;exact⟨rfl,rfl⟩
def unsigned(s:BY):BY:=if 0<s.size/\(s.data.toList.getD 0 0).toNat=45 then s.extract 1 s.size else s
theorem wM(s:BY):(decide ((⟨#[45]⟩:BY).size<=s.size)&&((s.extract 0 (⟨#[45]⟩:BY).size).toList==(⟨#[45]⟩:BY).toList))=decide (0<s.size/\(s.data.toList.getD 0 0).toNat=45):=by
 have b:(⟨#[45]⟩:BY).size=1:=rfl;have c:(⟨#[45]⟩:BY).toList=[45]:=by rw[ut]
 rw[b,c,ut]
 by_cases h:0<s.size
 ·rw[zy (show 1<=s.size from h),jC]
  have d:(s.extract 0 1).data.toList=[s.data.toList.getD 0 0]:=by
   cases hl:s.data.toList with
   | nil=>have:=Ref.zD s;rw[hl] at this;simp at this;omega
   | cons a r=>simp[hl]
  rw[d,kL,decide_eq_true_iff];simp only[List.cons_beq_cons,BEq.rfl,Y0,vJ]
  constructor
  ·intro e;exact⟨h,by rw[e];rfl⟩
  ·intro e;exact UInt8.toNat.inj e.2
 ·rw[zJ (show ¬1<=s.size by omega),uJ,zJ (λe=>h e.1)]
theorem zcG(s:BY)(w:World):Calls prog 340 #[.string s,.string ⟨#[45]⟩] w λe w'=>e = .returned (.string (unsigned s))/\w'=w:=by
 have c:=fG s ⟨#[45]⟩ w _ (wM s).symm
 have c2:Calls prog 346 #[.string s,.string ⟨#[45]⟩] w λe w'=>e = .returned (.string (unsigned s))/\w'=w:=by
  unfold unsigned
  by_cases h:0<s.size/\(s.data.toList.getD 0 0).toNat=45
  ·rw[zb h];rw[zy h] at c;have a:(1:Int)<=(s.size:Int):=by have:=h.1;omega
   clear h;go_enter func346,ntmps346
   go_wp2_with (go_at_call 345;refine c.mono ?_;rintro e w' ⟨rfl,rfl⟩)
   go_ret;exact⟨rfl,rfl⟩
  ·rw[za h];rw[zJ h] at c;clear h;go_enter func346,ntmps346
   go_wp2_with (go_at_call 345;refine c.mono ?_;rintro e w' ⟨rfl,rfl⟩)
   go_ret;exact⟨rfl,rfl⟩
 clear c;go_enter func340,ntmps340
 go_wp2_with (go_at_call 346;refine c2.mono ?_;rintro e w' ⟨rfl,rfl⟩)
 go_ret;exact⟨rfl,rfl⟩
def Qj(c:Nat):Bool:=decide (48<=c/\c<=57)
theorem OX(c:Nat)(w:World)(d:c<256) :
  Calls prog 341 #[.int .u8 (c:Int)] w λe w'=>e = .returned (.bool (Qj c))/\w'=w:=by
 by_cases h1:48<=c
 ·have a:decide ((48:Int)<=(c:Int))=true:=zy (by omega)
  by_cases h2:c<=57
  ·have b:decide ((c:Int)<=57)=true:=zy (by omega);have e:Qj c=true:=by unfold Qj;simp;omega
   rw[e];go_enter func341,ntmps341
   go_wp2
   go_ret;exact⟨rfl,rfl⟩
  ·have b:decide ((c:Int)<=57)=false:=zJ (by omega);have e:Qj c=false:=by unfold Qj;simp;omega
   rw[e];go_enter func341,ntmps341
   go_wp2
   go_ret;exact⟨rfl,rfl⟩
 ·have a:decide ((48:Int)<=(c:Int))=false:=zJ (by omega);have e:Qj c=false:=by unfold Qj;simp;omega
  rw[e];go_enter func341,ntmps341
  go_wp2
  go_ret;exact⟨rfl,rfl⟩
theorem Pm(s:BY):Ref.qF s=((s.toList==[48])||Ref.uk (unsigned s)):=rfl
theorem sP(s:BY)(w:World):Calls prog 332 #[.string s] w λe w'=>e = .returned (.bool (Ref.qF s))/\Below w.heap.size w w':=by
 have b:=zcG s;rw[Pm];obtain⟨t,i⟩:=Nm (unsigned s);simp only[i] at b;rw[i];clear i
 cases h0:(s.toList==[48]) with
 | true=>
  rw[VJ];go_enter func332,ntmps332
  go_wp2_with (go_at_call 340;refine (b _).mono ?_;rintro e w' ⟨rfl,rfl⟩)
  go_ret;exact⟨rfl,ze _ _⟩
 | false=>
  rw[Xa]
  by_cases h1:1<=t.size
  ·have m:decide ((0:Int)<(t.size:Int))=true:=zy (by omega)
   by_cases h2:t.size<=18
   ·have n:decide ((t.size:Int)<=18)=true:=zy (by omega);have l:0<t.size:=h1;have a:=Ref.X8 t l
    by_cases h3:(t[0].toNat:Int)=48
    ·have o:((t[0].toNat:Int) != 48)=false:=by simp[h3]
     have e:Ref.uk t=false:=Ref.gG t l h3;rw[e];clear e a;go_enter func332,ntmps332
     go_wp2_with (go_at_call 340;refine (b _).mono ?_;rintro e w' ⟨rfl,rfl⟩)
     go_ret;exact⟨rfl,ze _ _⟩
    ·have o:((t[0].toNat:Int) != 48)=true:=by simp[h3]
     obtain⟨C,O,p,f⟩:=dE t w;have d:Below w.heap.size w (w.alloc O).drew:=(nbl w _).drew
     have c:=mG t.size w.heap.size 0 C 341 #[] (λj=>(((t.data.toList.getD j 0).toNat:Nat):Int)) (λj=>Qj (t.data.toList.getD j 0).toNat) _ (by omega)
      (enters_of func341 (by kernel_rfl) rfl) f
      (λW j _ _=>(OX _ W (UInt8.toNat_lt _)).mono λe w' ⟨q,r⟩=>⟨q,r ▸ ze _ _⟩)
     have h:=mD t.data.toList Qj;rw[Ref.zD] at h;rw[h] at c
     have k:Ref.uk t=t.data.toList.all λc=>Qj c.toNat:=by
      unfold Ref.uk Ref.digits Qj;rw[zy (show 1<=t.size/\t.size<=18 from ⟨h1,h2⟩),a]
      have:(t[0].toNat != 48)=true:=by simp;omega
      rw[this]
      rfl
     rw[k];generalize (t.data.toList.all λc=>Qj c.toNat)=R at c;clear h k f a h3;go_enter func332,ntmps332
     go_wp2_with (first
      | (go_at_call 340;refine (b _).mono ?_;rintro e w' ⟨rfl,rfl⟩)
      | (go_at_call 132;refine c.mono ?_;rintro e w' ⟨rfl,g⟩))
     go_ret;exact⟨rfl,d.trans (g.mono d.size)⟩
   ·have n:decide ((t.size:Int)<=18)=false:=zJ (by omega);rw[Ref.UE t (by omega)];go_enter func332,ntmps332
    go_wp2_with (go_at_call 340;refine (b _).mono ?_;rintro e w' ⟨rfl,rfl⟩)
    go_ret;exact⟨rfl,ze _ _⟩
  ·have m:decide ((0:Int)<(t.size:Int))=false:=zJ (by omega);rw[Ref.UE t (by omega)];go_enter func332,ntmps332
   go_wp2_with (go_at_call 340;refine (b _).mono ?_;rintro e w' ⟨rfl,rfl⟩)
   go_ret;exact⟨rfl,ze _ _⟩
theorem zcD(x:Option Rd.V)(u:Value)(g:Nat)(i:Array Value)(f:BY->Bool)(L B:Nat)(w:World)(j:∀args w,(callFunc g args).run prog w = .ok (.enter g args) w)
  (h:OAt w x u)(k:∀s,x=some (.str s)->s.size<=L)(l:Kk g i f L w)(m:w.cell? ⟨B,0,none⟩=some (.func (.func g) #[] i)) :
  Calls prog 339 #[u,.pointer (some ⟨B,0,none⟩)] w (Jd w (Rd.xg f x) (Rd.qa f x)):=by
 have c:=iq x u g i f L w j h k l;generalize Rd.xg f x=S at c;generalize Rd.qa f x=C at c;have d:=h.form;clear h k l j
 rcases d with rfl|⟨T,y,rfl⟩
 ·go_enter func339,ntmps339
  go_wp2_with (go_at_call 98;refine c.mono ?_;rintro e w' ⟨v,rfl,b,a⟩)
  go_ret2;exact⟨_,rfl,b,a⟩
 ·go_enter func339,ntmps339
  go_wp2_with (go_at_call 98;refine c.mono ?_;rintro e w' ⟨v,rfl,b,a⟩)
  go_ret2;exact⟨_,rfl,b,a⟩
theorem XZ.after{w w1 b:World}{a:List BY}{c:Nat}{e:Ending}(h:XZ w1 a c e b)(hb:Below w.heap.size w w1):XZ w a c e b:=by
 obtain⟨lv,u,d,f,g,i⟩:=h;exact⟨lv,u,d,f,hb.trans (g.mono hb.size),xC i hb.size⟩
theorem iU(x:Option Rd.V)(u:Value)(g:Nat)(f:BY->Bool)(w:World)(z:xR w)(p:∀args w,(callFunc g args).run prog w = .ok (.enter g args) w)
  (n:OAt w x u)(q:∀v,x=some v->Rd.Good 4000 v)(r:Kk g #[] f 4000 w) :
  Calls prog 330 #[u,.func (.func g) #[] #[]] w (XZ w (Rd.qU (Rd.xg f) x) (Rd.qL (Rd.qa f) x)):=by
 have a:=nbl w (.cells #[.func (.func g) #[] #[]] 25);have o:∀args w,(callFunc 339 args).run prog w = .ok (.enter 339 args) w:=enters_of func339 (by kernel_rfl) rfl
 have c:=aj x u 339 #[.pointer (some ⟨w.heap.size,0,none⟩)] (Rd.xg f) (Rd.qa f) 4000 (w.alloc (.cells #[.func (.func g) #[] #[]] 25)) (z.below a) o (n.below a) q
  (λW y v j A hb=>zcD y v g #[] f 4000 w.heap.size W p A (λs m=>by have:=j _ m;cases this with|str _ h=>exact h)
    (λt s m i=>r t s m ((a.trans (hb.mono (by simp))).trans (i.mono (by have:=hb.size;simp at this;omega)))) (zh hb (by simp)))
 generalize Rd.qU (Rd.xg f) x=S at c;generalize Rd.qL (Rd.qa f) x=C at c;have k:=n.form;clear n q r p o
 rcases k with rfl|⟨T,y,rfl⟩
 ·go_enter func330,ntmps330
  go_wp2_with (go_at_call 151;refine c.mono ?_;rintro e w' h;have i:=h.after a;obtain⟨lv,v,rfl,d,b,l⟩:=i)
  go_ret2;exact⟨_,_,rfl,d,b,l⟩
 ·go_enter func330,ntmps330
  go_wp2_with (go_at_call 151;refine c.mono ?_;rintro e w' h;have i:=h.after a;obtain⟨lv,v,rfl,d,b,l⟩:=i)
  go_ret2;exact⟨_,_,rfl,d,b,l⟩
def Looks(g:Nat)(b:Option Rd.V->List BY)(a:Option Rd.V->Nat)(w:World):Prop:=
 ∀W (x:Option Rd.V) (u:Value),(∀v,x=some v->Rd.Good 4000 v)->OAt W x u->Below w.heap.size w W->Calls prog g #[u] W (XZ W (b x) (a x))
theorem Sg{w:World}(i:Zm w):Looks 320 (Rd.qU Rd.strOf) (Rd.qL Rd.jQ) w:=by
 intro W x u j g hb;have h:∀args w,(callFunc 152 args).run prog w = .ok (.enter 152 args) w:=enters_of func152 (by kernel_rfl) rfl;have c:=aj x u 152 #[] Rd.strOf Rd.jQ 4000 W (i.below hb).err h g j (iy (i.below hb));generalize Rd.qU Rd.strOf x=S at c;generalize Rd.qL Rd.jQ x=C at c;have d:=g.form;clear g j h
 rcases d with rfl|⟨T,y,rfl⟩
 ·go_enter func320,ntmps320
  go_wp2_with (go_at_call 151;refine c.mono ?_;rintro e w' ⟨lv,v,rfl,b,a,f⟩)
  go_ret2;exact⟨_,_,rfl,b,a,f⟩
 ·go_enter func320,ntmps320
  go_wp2_with (go_at_call 151;refine c.mono ?_;rintro e w' ⟨lv,v,rfl,b,a,f⟩)
  go_ret2;exact⟨_,_,rfl,b,a,f⟩
theorem zaP{w:World}(k:Zm w):Looks 322 (Rd.qU (Rd.xg Rd.short)) (Rd.qL (Rd.qa Rd.short)) w:=by
 intro W x u i g hb;have h:∀args w,(callFunc 331 args).run prog w = .ok (.enter 331 args) w:=enters_of func331 (by kernel_rfl) rfl;have c:=iU x u 331 Rd.short W (k.below hb).err h g i (λj s l _=>sO s j l);generalize Rd.qU (Rd.xg Rd.short) x=S at c;generalize Rd.qL (Rd.qa Rd.short) x=C at c;have d:=g.form;clear g i h
 rcases d with rfl|⟨T,y,rfl⟩
 ·go_enter func322,ntmps322
  go_wp2_with (go_at_call 330;refine c.mono ?_;rintro e w' ⟨lv,v,rfl,b,a,f⟩)
  go_ret2;exact⟨_,_,rfl,b,a,f⟩
 ·go_enter func322,ntmps322
  go_wp2_with (go_at_call 330;refine c.mono ?_;rintro e w' ⟨lv,v,rfl,b,a,f⟩)
  go_ret2;exact⟨_,_,rfl,b,a,f⟩
theorem FD{w:World}(k:Zm w):Looks 324 (Rd.qU (Rd.xg Ref.qF)) (Rd.qL (Rd.qa Ref.qF)) w:=by
 intro W x u i g hb;have h:∀args w,(callFunc 332 args).run prog w = .ok (.enter 332 args) w:=enters_of func332 (by kernel_rfl) rfl;have c:=iU x u 332 Ref.qF W (k.below hb).err h g i (λj s _ _=>sP s j);generalize Rd.qU (Rd.xg Ref.qF) x=S at c;generalize Rd.qL (Rd.qa Ref.qF) x=C at c;have d:=g.form;clear g i h
 rcases d with rfl|⟨T,y,rfl⟩
 ·go_enter func324,ntmps324
  go_wp2_with (go_at_call 330;refine c.mono ?_;rintro e w' ⟨lv,v,rfl,b,a,f⟩)
  go_ret2;exact⟨_,_,rfl,b,a,f⟩
 ·go_enter func324,ntmps324
  go_wp2_with (go_at_call 330;refine c.mono ?_;rintro e w' ⟨lv,v,rfl,b,a,f⟩)
  go_ret2;exact⟨_,_,rfl,b,a,f⟩
theorem zcM{w:World}(k:Zm w):Looks 326 (Rd.qU (Rd.xg Rd.filled)) (Rd.qL (Rd.qa Rd.filled)) w:=by
 intro W x u i g hb;have h:∀args w,(callFunc 336 args).run prog w = .ok (.enter 336 args) w:=enters_of func336 (by kernel_rfl) rfl;have c:=iU x u 336 Rd.filled W (k.below hb).err h g i (λj s l _=>OZ s j l);generalize Rd.qU (Rd.xg Rd.filled) x=S at c;generalize Rd.qL (Rd.qa Rd.filled) x=C at c;have d:=g.form;clear g i h
 rcases d with rfl|⟨T,y,rfl⟩
 ·go_enter func326,ntmps326
  go_wp2_with (go_at_call 330;refine c.mono ?_;rintro e w' ⟨lv,v,rfl,b,a,f⟩)
  go_ret2;exact⟨_,_,rfl,b,a,f⟩
 ·go_enter func326,ntmps326
  go_wp2_with (go_at_call 330;refine c.mono ?_;rintro e w' ⟨lv,v,rfl,b,a,f⟩)
  go_ret2;exact⟨_,_,rfl,b,a,f⟩
theorem DY{w:World}:Looks 328 (λ_=>[]) (λx=>if x.isNone then 0 else 1) w:=by
 intro W x u _ a _
 cases x with
 | none=>
  have c:u = .nilIface:=a;subst c;go_enter func328,ntmps328
  go_wp2
  go_ret2;exact⟨_,_,rfl,.inl ⟨rfl,rfl⟩,ze _ _,ql _ _ _ _⟩
 | some v=>
  obtain⟨T,y,rfl⟩:=ValAt.iface (show ValAt W (λb=>b<W.heap.size) v u from a)
  clear a;go_enter func328,ntmps328
  go_wp2
  go_ret2;exact⟨_,_,rfl,.inr (.inl ⟨rfl,_,rfl⟩),ze _ _,ql _ _ _ _⟩
def bT(w:World)(x:Option Rd.V)(e:Ending)(w':World):Prop:=∃u,e = .returned (.tuple #[.bool (Rd.Qp x),u])/\FV (Rd.cls (Rd.uC x) false) u/\Below w.heap.size w w'
theorem zah(x:Option Rd.V)(u:Value)(w:World)(e:OAt w x u):Calls prog 201 #[u] w (bT w x):=by
 cases x with
 | none=>
  have g:u = .nilIface:=e;subst g;go_enter func201,ntmps201
  go_wp2
  go_ret2;exact⟨_,rfl,.inl ⟨rfl,rfl⟩,ze _ _⟩
 | some v=>
  have h:ValAt w (λb=>b<w.heap.size) v u:=e;clear e
  cases h with
  | word b=>
   have f:=zcs;go_enter func201,ntmps201
   go_wp2
   go_ret2;exact⟨_,rfl,.inl ⟨rfl,rfl⟩,ze _ _⟩
  | str s=>
   have f:=zcr;go_enter func201,ntmps201
   go_wp2
   go_ret2;exact⟨_,rfl,.inr (.inl ⟨rfl,_,rfl⟩),ze _ _⟩
  | list j i ao cap a c d=>
   clear a c d;have f:=zcp;go_enter func201,ntmps201
   go_wp2
   go_ret2;exact⟨_,rfl,.inr (.inl ⟨rfl,_,rfl⟩),ze _ _⟩
  | obj ms i ao cap a c d=>
   clear a c d;have f:=zcq;go_enter func201,ntmps201
   go_wp2
   go_ret2;exact⟨_,rfl,.inr (.inl ⟨rfl,_,rfl⟩),ze _ _⟩
end Go.Proofs.YtdakgnaojakldaaGreatDoor
