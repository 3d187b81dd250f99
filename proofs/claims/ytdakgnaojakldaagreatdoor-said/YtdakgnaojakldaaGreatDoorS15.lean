/- P -/
import Derived.Test.YtdakgnaojakldaaGreatDoorS14
open Go.Proofs.Tryz
set_option maxRecDepth 100000
set_option maxHeartbeats 1000000
namespace Go.Proofs.YtdakgnaojakldaaGreatDoor
open Go.RowKit
structure jU (w:World) (ms:List (BY×Rd.V)) (us:List (BY×Value)) (ao:Option Addr):Prop where
 names:us.map Prod.fst=ms.map Prod.fst
 mems:Zp w ao us
 vals:∀(j:Nat) (x:BY×Rd.V) (u:BY×Value),ms[j]?=some x->us[j]?=some u->ValAt w (λb=>b<w.heap.size) x.2 u.2
theorem Q6{w:World}{ms:List (BY×Rd.V)}{u:Value}(h:OAt w (some (.obj ms)) u):∃a ao cap,u = .iface 118 (.slice ao a.length cap)/\jU w ms a ao:=by
 have g:ValAt w (λb=>b<w.heap.size) (.obj ms) u:=h
 cases g with
 | obj _ a ao cap d c e=>
  refine⟨a,ao,cap,rfl,d,?_,e⟩
  rcases c with c|⟨b,ha,_,hc⟩
  ·exact .inl c
  ·exact .inr ⟨b,0,ha,λj f=>by simp only[Nat.zero_add];exact hc j _ (List.getElem?_eq_getElem f)⟩
theorem jU.len{w:World}{ms:List (BY×Rd.V)}{a:List (BY×Value)}{ao:Option Addr}(h:jU w ms a ao):a.length=ms.length:=by
 have:=congrArg List.length h.names
 simpa using this
theorem jU.below{w e:World}{ms:List (BY×Rd.V)}{d:List (BY×Value)}{ao:Option Addr}(h:jU w ms d ao)(hb:Below w.heap.size w e):jU e ms d ao:=
 ⟨h.names,YY h.mems hb,λj x u g f=>(h.vals j x u g f).move (λ_ c=>Nat.lt_of_lt_of_le c hb.size) (λb a=>hb.block b a)⟩
theorem jU.ifaces{w:World}{ms:List (BY×Rd.V)}{b:List (BY×Value)}{ao:Option Addr}(h:jU w ms b ao):∀m ∈ b,∃T x,m.2 = .iface T x:=by
 intro m d;obtain⟨j,c,rfl⟩:=List.getElem_of_mem d;have a:j<ms.length:=by have:=h.len;omega
 exact (h.vals j ms[j] b[j] (List.getElem?_eq_getElem a) (List.getElem?_eq_getElem c)).iface
theorem aI{w:World}(nm:BY):∀{ms:List (BY×Rd.V)} {a:List (BY×Value)},a.map Prod.fst=ms.map Prod.fst ->
  (∀(j:Nat) (x:BY×Rd.V) (u:BY×Value),ms[j]?=some x->a[j]?=some u->ValAt w (λb=>b<w.heap.size) x.2 u.2)->OAt w (Rd.zh ms nm) (qo a nm)
 | [],[],_,_=>rfl
 | [],_::_,h,_=>by simp at h
 | _::_,[],h,_=>by simp at h
 | m::ms,u::a,h,hv=>by
  simp only[List.map_cons,List.cons.injEq] at h;unfold Rd.zh qo;rw[List.find?_cons,List.find?_cons,h.1]
  cases e:(m.1.toList==nm.toList) with
  | true=>exact hv 0 m u rfl rfl
  | false=>exact aI nm h.2 (λj x y c d=>hv (j+1) x y (by simpa using c) (by simpa using d))
theorem jU.get{w:World}{ms:List (BY×Rd.V)}{a:List (BY×Value)}{ao:Option Addr}(h:jU w ms a ao)(nm:BY):OAt w (Rd.zh ms nm) (qo a nm):=aI nm h.names h.vals
theorem VK{w:World}{ms:List (BY×Rd.V)}{a:List (BY×Value)}{ao:Option Addr}(cap:Nat)(h:jU w ms a ao)(c:ms.length<=4000)(nm:BY) :
  Calls prog 51 #[.slice ao a.length cap,.string nm] w λe b=>e = .returned (qo a nm)/\Below w.heap.size w b:=
 Vo a ao cap nm w (by have:=h.len;omega) h.mems h.ifaces
theorem Cq(g:List BY)(d:Option Addr)(b:Nat)(m:BY×Value)(B:Nat)(w:World)(n:g.length<=100)(i:jB w d g)(k:w.cell? ⟨B,0,none⟩=some (.slice d g.length b)) :
  Calls prog 148 #[uw m,.pointer (some ⟨B,0,none⟩)] w λe j=>e = .returned (.bool (g.any λs=>s.toList==m.1.toList))/\Below w.heap.size w j:=by
 obtain⟨a,v⟩:=m;unfold uw;simp only;have l:=λO:Obj=>zg (nb w O) k;have f:=λO:Obj=>nb w O;have c:=λO:Obj=>aR g a d b (w.alloc O) (by omega) (jQ i (f O));generalize g.any (λs=>s.toList==a.toList)=F at c;clear i;go_enter func148,ntmps148
 go_wp2_with (go_at_call 149;refine (c _).mono ?_;rintro e j ⟨rfl,h⟩)
 go_ret;exact⟨rfl,(f _).trans (h.mono (f _).size)⟩
theorem lD(ms:List (BY×Rd.V))(b:List (BY×Value))(e:List BY)(h:b.map Prod.fst=ms.map Prod.fst) :
  yX (λj=>e.any λs=>s.toList==(yM b j).1.toList) b.length=Rd.zJ ms e:=by
 have f:yX (λj=>e.any λs=>s.toList==(yM b j).1.toList) b.length=(b.map Prod.fst).all (λa=>e.any λs=>s.toList==a.toList):=by
  unfold yX;rw[List.all_map,Bool.eq_iff_iff,List.all_eq_true,List.all_eq_true]
  constructor
  ·intro h m g;obtain⟨j,d,rfl⟩:=List.getElem_of_mem g
   have:=h j (List.mem_range.2 d)
   rw[ZP b j d] at this;exact this
  ·intro h j d;have c:=List.mem_range.1 d;rw[ZP b j c];exact h _ (List.getElem_mem c)
 rw[f,h,List.all_map]
 rfl
def Yn(w:World)(e:Ending)(a:World):Prop:=∃p,e = .returned (.tuple #[.slice none 0 0,.iface 125 (.agg #[.string p])])/\Below w.heap.size w a
theorem Yb(ms:List (BY×Rd.V))(i:List (BY×Value))(ao:Option Addr)(cap:Nat)(f:List BY)(c:Option Addr)(a:Nat)(w:World)(p:f.length<=100)(r:ms.length<=4000)(o:jB w c f)(h:jU w ms i ao)(b:Bool)(n:Rd.zJ ms f=b) :
  Calls prog 97 #[.iface 118 (.slice ao i.length cap),.slice c f.length a] w λe k=>
   if b then (e = .returned (.tuple #[.slice ao i.length cap,.nilIface])/\Below w.heap.size w k) else Yn w e k:=by
 have d:=nb w (.cells #[.slice c f.length a] 42);have m:∀args w,(callFunc 148 args).run prog w = .ok (.enter 148 args) w:=enters_of func148 (by kernel_rfl) rfl
 have l:=lw i ao cap 148 #[.pointer (some ⟨w.heap.size,0,none⟩)] (λj=>f.any λs=>s.toList==(yM i j).1.toList) (w.alloc (.cells #[.slice c f.length a] 42)) (by have:=h.len;omega) m
  (YY h.mems d) h.ifaces (λW j q hb=>Cq f c a (yM i j) w.heap.size W p (jQ o (d.trans (hb.mono (by simp)))) (zg hb (by simp)))
 rw[lD ms i f h.names,n] at l;have t:=Uo;clear m h o n
 cases b with
 | true=>
  simp only[if_true];go_enter func97,ntmps97
  go_wp2_with (go_at_call 150;refine l.mono ?_;rintro e k ⟨rfl,g⟩)
  go_ret2;exact⟨rfl,d.trans (g.mono (by simp))⟩
 | false=>
  simp only[Bool.false_eq_true,if_false];go_enter func97,ntmps97
  go_wp2_with (go_at_call 150;refine l.mono ?_;rintro e k ⟨rfl,g⟩)
  go_ret2;exact⟨_,rfl,d.trans (g.mono (by simp))⟩
theorem Un{w:World}{x:Option Rd.V}{u:Value}(h:OAt w x u)(d:∀ms,x≠some (.obj ms))(W:World):(Instr.typeAssert u 114 118 true).run prog W = .ok (.tuple #[.slice none 0 0,.bool false]) W:=by
 cases x with
 | none=>
  have a:u = .nilIface:=h;subst a;exact Lu W
 | some v=>
  have c:ValAt w (λb=>b<w.heap.size) v u:=h
  cases c with
  | str s=>exact Lv _ W
  | word b=>exact Lx _ W
  | list e=>exact Lt _ W
  | obj ms=>exact absurd rfl (d ms)
theorem fH(x:Option Rd.V)(u:Value)(n:Nat)(b:Option Addr)(a:Nat)(w:World)(f:OAt w x u)(d:∀ms,x≠some (.obj ms)) :
  Calls prog 97 #[u,.slice b n a] w (Yn w):=by
 have g:=λW=>Un f d W;have c:=nb w (.cells #[.slice b n a] 42);have e:=f.form;clear f d
 rcases e with rfl|⟨T,y,rfl⟩
 ·go_enter func97,ntmps97
  go_wp2
  go_ret2;exact⟨_,rfl,c⟩
 ·go_enter func97,ntmps97
  go_wp2
  go_ret2;exact⟨_,rfl,c⟩
theorem zF{w:World}{base:Nat}{e:TypeId}{v:Value}{n:Nat}{xs:List Value}(h:w.ownsRow base e 1 v n xs){b:Nat}(hb:b<base)(o:Nat)(u:Value):(w.setCell ⟨b,o,none⟩ u).ownsRow base e 1 v n xs:=
 ownsRow_setCell_other h (a:=⟨b,o,none⟩) (by intro c;have:=(h.lt b c).1;omega) u
theorem yB{w:World}{base:Nat}{e:TypeId}{v:Value}{n:Nat}{xs:List Value}(h:w.ownsRow base e 1 v n xs):∃a c,v = .slice a n c:=by
 rcases h.2 with ⟨rfl,rfl⟩|⟨g,c,cur,rfl,_⟩
 ·exact⟨_,_,rfl⟩
 ·exact⟨_,_,rfl⟩
theorem xG{w W:World}{O:Obj}(hb:Below (w.alloc O).heap.size (w.alloc O) W):W.heap[w.heap.size]?=some O:=(hb.block _ (by simp)).trans (heap_alloc_new w O)
def chS:Option Rd.V->Bool×List BY
 | some (.obj ms)=>if Rd.zJ ms [Ref.qb] then (true,Rd.qc Rd.strOf (Rd.zh ms Ref.qb)) else (false,[])
 | x=>(false,Rd.qc Rd.strOf x)
def Z7(w:World)(x:Option Rd.V)(e:Ending)(b:World):Prop:=
 ∃a u,e = .returned (.tuple #[.agg #[.bool (chS x).1,a],u])/\FV (Rd.chC x) u/\Below w.heap.size w b/\b.ownsRow w.heap.size 9 1 a (chS x).2.length ((chS x).2.map Value.string)
theorem VZ{w:World}(a:jC w):Xu 152 #[] Rd.strOf Rd.qZ 4000 w:=λW y u b d hb=>
 FZ y u W (a.below hb) d (λs c=>by have:=b _ c;cases this with|str _ h=>exact h)
theorem Kl(x:Option Rd.V)(a:∀ms,x≠some (.obj ms)):chS x=(false,Rd.qc Rd.strOf x)/\Rd.chC x=Rd.zZ Rd.qZ x:=by
 match x with
 | none=>exact⟨rfl,rfl⟩
 | some (.str s)=>exact⟨rfl,rfl⟩
 | some (.word b)=>exact⟨rfl,rfl⟩
 | some (.list vs)=>exact⟨rfl,rfl⟩
 | some (.obj ms)=>exact absurd rfl (a ms)
theorem FL(x:Option Rd.V)(u:Value)(w:World)(n:jC w)(l:OAt w x u)(z:∀v,x=some v->Rd.Good 4000 v)(g:∀ms,x≠some (.obj ms)) :
  Calls prog 100 #[u] w (Z7 w x):=by
 unfold Z7;rw[(Kl x g).1,(Kl x g).2];have C:=λW=>Un l g W;have b:=nb w (.cells #[.bool false,.slice none 0 0] 130);have t:∀args w,(callFunc 152 args).run prog w = .ok (.enter 152 args) w:=enters_of func152 (by kernel_rfl) rfl;have c1:=Y4 x u 152 #[] Rd.strOf Rd.qZ 4000 (w.alloc (.cells #[.bool false,.slice none 0 0] 130)) (n.below b).err t (l.below b) z (VZ (n.below b));obtain⟨m,j⟩:=Nm (Rd.qc Rd.strOf x);obtain⟨c,o⟩:=Nm (Rd.zZ Rd.qZ x);rw[j,o] at c1;rw[j,o];have p:=l.form;clear l g n t j o z
 rcases p with rfl|⟨T,y,rfl⟩
 ·go_enter func100,ntmps100
  go_wp2_with (go_at_call 151;refine c1.mono ?_;rintro e s ⟨B,v,rfl,i,d,a⟩;have h:Below w.heap.size w s:=b.trans (d.mono (by simp));obtain⟨q,r,rfl⟩:=yB a;have f:=xG d;have r0:=(ze f 0).1;have k:=(ze f 1).1;have A:=(ze f 0).2;have f1:=(ze f 1).2;simp at r0 k)
  exact bodyPost_ret (v := .tuple #[.agg #[.bool false,.slice q m.length r],v]) (by simp[results,results100,go_sem,r0,k]) rfl ⟨_,_,rfl,i,(h.setCell (Nat.le_refl _) _).setCell (Nat.le_refl _) _,xP (zF (zF a (by simp) _ _) (by simp) _ _) (by simp)⟩
 ·go_enter func100,ntmps100
  go_wp2_with (go_at_call 151;refine c1.mono ?_;rintro e s ⟨B,v,rfl,i,d,a⟩;have h:Below w.heap.size w s:=b.trans (d.mono (by simp));obtain⟨q,r,rfl⟩:=yB a;have f:=xG d;have r0:=(ze f 0).1;have k:=(ze f 1).1;have A:=(ze f 0).2;have f1:=(ze f 1).2;simp at r0 k)
  exact bodyPost_ret (v := .tuple #[.agg #[.bool false,.slice q m.length r],v]) (by simp[results,results100,go_sem,r0,k]) rfl ⟨_,_,rfl,i,(h.setCell (Nat.le_refl _) _).setCell (Nat.le_refl _) _,xP (zF (zF a (by simp) _ _) (by simp) _ _) (by simp)⟩
theorem FM(ms:List (BY×Rd.V))(u:Value)(w:World)(K:jC w)(hx:OAt w (some (.obj ms)) u)(L:Rd.Good 4000 (.obj ms)) :
  Calls prog 100 #[u] w (Z7 w (some (.obj ms))):=by
 obtain⟨Q,ao,cap,rfl,G⟩:=Q6 hx;have I:ms.length<=4000:=by cases L with|obj _ h=>exact h
 have H:=λv h=>Rd.qV L Ref.qb v h;unfold Z7;have Z:chS (some (.obj ms))=if Rd.zJ ms [Ref.qb] then (true,Rd.qc Rd.strOf (Rd.zh ms Ref.qb)) else (false,[]):=rfl
 have Y:Rd.chC (some (.obj ms))=if Rd.zJ ms [Ref.qb] then Rd.zZ Rd.qZ (Rd.zh ms Ref.qb) else 1:=rfl
 rw[Z,Y];have ta:=Uo;have M:=nb w (.cells #[.bool false,.slice none 0 0] 130);have m:=M.alloc (by simp) (.cells #[.string Ref.qb] 9);have S:∀args w,(callFunc 152 args).run prog w = .ok (.enter 152 args) w:=enters_of func152 (by kernel_rfl) rfl;obtain⟨b,hb⟩:=Nm (Rd.zJ ms [Ref.qb])
 have t:=Yb ms Q ao cap [Ref.qb] (some ⟨w.heap.size+1,0,none⟩) 1 ((w.alloc (.cells #[.bool false,.slice none 0 0] 130)).alloc (.cells #[.string Ref.qb] 9)) (by simp) I
  (.inr ⟨w.heap.size+1,0,rfl,λj hj=>by
    simp only[List.length_singleton] at hj
    have:j=0:=by omega
    subst this;have h:=heap_alloc_new (w.alloc (.cells #[.bool false,.slice none 0 0] 130)) (.cells #[.string Ref.qb] 9);rw[World.size_alloc] at h;exact (ze h 0).1⟩) (G.below m) b hb
 rw[hb];have E:=λW (h:Below w.heap.size w W)=>VK (w:=W) cap (G.below h) I Ref.qb;have F:=λW (h:Below w.heap.size w W)=>Y4 (Rd.zh ms Ref.qb) (qo Q Ref.qb) 152 #[] Rd.strOf Rd.qZ 4000 W (K.below h).err S ((G.below h).get Ref.qb) H (VZ (K.below h));have z:=(G.get Ref.qb).form;obtain⟨X,A⟩:=Nm (qo Q Ref.qb);rw[A] at z;simp only[A] at E F;simp only[List.length_singleton] at t;obtain⟨J,B⟩:=Nm (Rd.qc Rd.strOf (Rd.zh ms Ref.qb));obtain⟨c,N⟩:=Nm (Rd.zZ Rd.qZ (Rd.zh ms Ref.qb));simp only[B,N] at F;rw[B,N];clear hx K S B N L G A hb Z Y H;unfold Ref.qb at t E m
 cases b with
 | false=>
  simp only[Bool.false_eq_true,if_false] at t |-;clear F E z;go_enter func100,ntmps100
  go_wp2_with (go_at_call 97;refine t.mono ?_;rintro e C ⟨p,rfl,d⟩;have a:Below w.heap.size w C:=m.trans (d.mono (by simp;omega));have k:=xG (((Below.refl _ (w.alloc (.cells #[.bool false,.slice none 0 0] 130))).alloc (Nat.le_refl _) _).trans (d.mono (by simp)));have r0:=(ze k 0).1;have r:=(ze k 1).1;have U:=(ze k 0).2;have f1:=(ze k 1).2;simp at r0 r)
  exact bodyPost_ret (v := .tuple #[.agg #[.bool false,.slice none 0 0],.iface 125 (.agg #[.string p])]) (by simp[results,results100,go_sem,r0,r]) rfl ⟨_,_,rfl,.inr (.inl ⟨rfl,_,rfl⟩),(a.setCell (Nat.le_refl _) _).setCell (Nat.le_refl _) _,World.ownsRow_nil _ _ _ _⟩
 | true=>
  simp only[if_true] at t |-
  rcases z with rfl|⟨T,y,rfl⟩
  ·go_enter func100,ntmps100
   go_wp2_with (first
    | (go_at_call 151;refine (F D i).mono ?_;rintro e R ⟨lv,v,rfl,x,o,f⟩;have s:Below w.heap.size w R:=i.trans (o.mono i.size);obtain⟨O,P,rfl⟩:=yB f;have q:w.heap.size<D.heap.size:=(by have h1:=g.size;simp at h1;omega);have k:=xG (g.trans (o.mono g.size));have r0:=(ze k 0).1;have r:=(ze k 1).1;have U:=(ze k 0).2;have f1:=(ze k 1).2;simp at r0 r)
    | (go_at_call 51;refine (E C a).mono ?_;rintro e D ⟨rfl,n⟩;have i:Below w.heap.size w D:=a.trans (n.mono a.size);have g:=l.trans (n.mono l.size))
    | (go_at_call 97;refine t.mono ?_;rintro e C ⟨rfl,d⟩;have a:Below w.heap.size w C:=m.trans (d.mono (by simp;omega));have l:=((Below.refl _ (w.alloc (.cells #[.bool false,.slice none 0 0] 130))).alloc (Nat.le_refl _) (.cells #[.string ⟨#[110,111,116]⟩] 9)).trans (d.mono (by simp))))
   exact bodyPost_ret (v := .tuple #[.agg #[.bool true,.slice O J.length P],v]) (by simp[results,results100,go_sem,r0,r]) rfl ⟨_,_,rfl,x,(s.setCell (Nat.le_refl _) _).setCell (Nat.le_refl _) _,xP (zF (zF f q _ _) q _ _) (by omega)⟩
  ·go_enter func100,ntmps100
   go_wp2_with (first
    | (go_at_call 151;refine (F D i).mono ?_;rintro e R ⟨lv,v,rfl,x,o,f⟩;have s:Below w.heap.size w R:=i.trans (o.mono i.size);obtain⟨O,P,rfl⟩:=yB f;have q:w.heap.size<D.heap.size:=(by have h1:=g.size;simp at h1;omega);have k:=xG (g.trans (o.mono g.size));have r0:=(ze k 0).1;have r:=(ze k 1).1;have U:=(ze k 0).2;have f1:=(ze k 1).2;simp at r0 r)
    | (go_at_call 51;refine (E C a).mono ?_;rintro e D ⟨rfl,n⟩;have i:Below w.heap.size w D:=a.trans (n.mono a.size);have g:=l.trans (n.mono l.size))
    | (go_at_call 97;refine t.mono ?_;rintro e C ⟨rfl,d⟩;have a:Below w.heap.size w C:=m.trans (d.mono (by simp;omega));have l:=((Below.refl _ (w.alloc (.cells #[.bool false,.slice none 0 0] 130))).alloc (Nat.le_refl _) (.cells #[.string ⟨#[110,111,116]⟩] 9)).trans (d.mono (by simp))))
   exact bodyPost_ret (v := .tuple #[.agg #[.bool true,.slice O J.length P],v]) (by simp[results,results100,go_sem,r0,r]) rfl ⟨_,_,rfl,x,(s.setCell (Nat.le_refl _) _).setCell (Nat.le_refl _) _,xP (zF (zF f q _ _) q _ _) (by omega)⟩
theorem FN(x:Option Rd.V)(u:Value)(w:World)(a:jC w)(c:OAt w x u)(b:∀v,x=some v->Rd.Good 4000 v):Calls prog 100 #[u] w (Z7 w x):=by
 by_cases h:∃ms,x=some (.obj ms)
 ·obtain⟨ms,rfl⟩:=h;exact FM ms u w a c (b _ rfl)
 ·exact FL x u w a c b (λms e=>h ⟨ms,e⟩)
theorem aW(s:BY)(w:World)(b:s.size<=4000):Calls prog 331 #[.string s] w λe a=>e = .returned (.bool (Rd.short s))/\Below w.heap.size w a:=by
 have e:Rd.short s=decide ((s.size:Int)<=60):=by unfold Rd.short;exact decide_eq_decide.2 (by omega)
 rw[e];go_enter func331,ntmps331
 go_wp2
 go_ret;exact⟨rfl,Below.refl _ _⟩
theorem Bd(s:BY)(w:World)(f:s.size<=4000):Calls prog 336 #[.string s] w λe d=>e = .returned (.bool (Rd.filled s))/\Below w.heap.size w d:=by
 have c:=aW s w f;unfold Rd.filled;generalize Rd.short s=R at c
 cases h:(s.toList==[]) with
 | true=>
  have a:s.toList.isEmpty=true:=by rw[List.isEmpty_iff];simpa using h
  rw[a];clear c a;go_enter func336,ntmps336
  go_wp2
  go_ret;exact⟨rfl,Below.refl _ _⟩
 | false=>
  have a:s.toList.isEmpty=false:=by
   cases e:s.toList.isEmpty with
   | false=>rfl
   | true=>rw[List.isEmpty_iff] at e;rw[e] at h;simp at h
  rw[a];clear a;go_enter func336,ntmps336
  go_wp2_with (go_at_call 331;refine c.mono ?_;rintro e d ⟨rfl,b⟩)
  go_ret;exact⟨rfl,b⟩
theorem Vu(s p:BY)(w:World)(R:Bool)(a:R=(decide (p.size<=s.size)&&((s.extract 0 p.size).toList==p.toList))) :
  Calls prog 345 #[.string s,.string p] w λe b=>e = .returned (.bool R)/\b=w:=by
 by_cases h:p.size<=s.size
 ·rw[decide_eq_true h,Bool.true_and] at a;have d:decide ((p.size:Int)<=(s.size:Int))=true:=decide_eq_true (by omega);subst a;go_enter func345,ntmps345
  go_wp2
  go_ret;exact⟨rfl,rfl⟩
 ·rw[decide_eq_false h,Bool.false_and] at a;have d:decide ((p.size:Int)<=(s.size:Int))=false:=decide_eq_false (by omega);subst a;go_enter func345,ntmps345
  go_wp2
  go_ret;exact⟨rfl,rfl⟩
def unsigned(s:BY):BY:=if 0<s.size/\(s.data.toList.getD 0 0).toNat=45 then s.extract 1 s.size else s
theorem bX(s:BY):(decide ((⟨#[45]⟩:BY).size<=s.size)&&((s.extract 0 (⟨#[45]⟩:BY).size).toList==(⟨#[45]⟩:BY).toList))=decide (0<s.size/\(s.data.toList.getD 0 0).toNat=45):=by
 have b:(⟨#[45]⟩:BY).size=1:=rfl;have c:(⟨#[45]⟩:BY).toList=[45]:=by rw[ByteArray.toList_eq]
 rw[b,c,ByteArray.toList_eq]
 by_cases h:0<s.size
 ·rw[decide_eq_true (show 1<=s.size from h),Bool.true_and]
  have d:(s.extract 0 1).data.toList=[s.data.toList.getD 0 0]:=by
   cases hl:s.data.toList with
   | nil=>have:=Ref.zx s;rw[hl] at this;simp at this;omega
   | cons a r=>simp[hl]
  rw[d,Bool.eq_iff_iff,decide_eq_true_iff];simp only[List.cons_beq_cons,BEq.rfl,Bool.and_true,beq_iff_eq]
  constructor
  ·intro e;exact⟨h,by rw[e];rfl⟩
  ·intro e;exact UInt8.toNat.inj e.2
 ·rw[decide_eq_false (show ¬1<=s.size by omega),Bool.false_and,decide_eq_false (λe=>h e.1)]
theorem LZ(s:BY)(w:World):Calls prog 340 #[.string s,.string ⟨#[45]⟩] w λe a=>e = .returned (.string (unsigned s))/\a=w:=by
 have c:=Vu s ⟨#[45]⟩ w _ (bX s).symm
 have c2:Calls prog 346 #[.string s,.string ⟨#[45]⟩] w λe a=>e = .returned (.string (unsigned s))/\a=w:=by
  unfold unsigned
  by_cases h:0<s.size/\(s.data.toList.getD 0 0).toNat=45
  ·rw[if_pos h];rw[decide_eq_true h] at c;have b:(1:Int)<=(s.size:Int):=by have:=h.1;omega
   clear h;go_enter func346,ntmps346
   go_wp2_with (go_at_call 345;refine c.mono ?_;rintro e a ⟨rfl,rfl⟩)
   go_ret;exact⟨rfl,rfl⟩
  ·rw[if_neg h];rw[decide_eq_false h] at c;clear h;go_enter func346,ntmps346
   go_wp2_with (go_at_call 345;refine c.mono ?_;rintro e a ⟨rfl,rfl⟩)
   go_ret;exact⟨rfl,rfl⟩
 clear c;go_enter func340,ntmps340
 go_wp2_with (go_at_call 346;refine c2.mono ?_;rintro e a ⟨rfl,rfl⟩)
 go_ret;exact⟨rfl,rfl⟩
def vL(c:Nat):Bool:=decide (48<=c/\c<=57)
theorem Bb(c:Nat)(w:World)(f:c<256) :
  Calls prog 341 #[.int .u8 (c:Int)] w λe d=>e = .returned (.bool (vL c))/\d=w:=by
 by_cases h1:48<=c
 ·have a:decide ((48:Int)<=(c:Int))=true:=decide_eq_true (by omega)
  by_cases h2:c<=57
  ·have b:decide ((c:Int)<=57)=true:=decide_eq_true (by omega);have e:vL c=true:=by unfold vL;simp;omega
   rw[e];go_enter func341,ntmps341
   go_wp2
   go_ret;exact⟨rfl,rfl⟩
  ·have b:decide ((c:Int)<=57)=false:=decide_eq_false (by omega);have e:vL c=false:=by unfold vL;simp;omega
   rw[e];go_enter func341,ntmps341
   go_wp2
   go_ret;exact⟨rfl,rfl⟩
 ·have a:decide ((48:Int)<=(c:Int))=false:=decide_eq_false (by omega);have e:vL c=false:=by unfold vL;simp;omega
  rw[e];go_enter func341,ntmps341
  go_wp2
  go_ret;exact⟨rfl,rfl⟩
theorem Bj(s:BY):Ref.qj s=((s.toList==[48])||Ref.jN (unsigned s)):=rfl
theorem aX(s:BY)(w:World):Calls prog 332 #[.string s] w λe a=>e = .returned (.bool (Ref.qj s))/\Below w.heap.size w a:=by
 have d:=LZ s;rw[Bj];obtain⟨t,k⟩:=Nm (unsigned s);simp only[k] at d;rw[k];clear k
 cases h0:(s.toList==[48]) with
 | true=>
  rw[Bool.true_or];go_enter func332,ntmps332
  go_wp2_with (go_at_call 340;refine (d _).mono ?_;rintro e a ⟨rfl,rfl⟩)
  go_ret;exact⟨rfl,Below.refl _ _⟩
 | false=>
  rw[Bool.false_or]
  by_cases h1:1<=t.size
  ·have n:decide ((0:Int)<(t.size:Int))=true:=decide_eq_true (by omega)
   by_cases h2:t.size<=18
   ·have o:decide ((t.size:Int)<=18)=true:=decide_eq_true (by omega);have m:0<t.size:=h1;have b:=Ref.YN t m
    by_cases h3:(t[0].toNat:Int)=48
    ·have p:((t[0].toNat:Int) != 48)=false:=by simp[h3]
     have e:Ref.jN t=false:=Ref.Ec t m h3;rw[e];clear e b;go_enter func332,ntmps332
     go_wp2_with (go_at_call 340;refine (d _).mono ?_;rintro e a ⟨rfl,rfl⟩)
     go_ret;exact⟨rfl,Below.refl _ _⟩
    ·have p:((t[0].toNat:Int) != 48)=true:=by simp[h3]
     obtain⟨C,O,q,g⟩:=JM t w;have f:Below w.heap.size w (w.alloc O).drew:=(nb w _).drew
     have c:=UU t.size w.heap.size 0 C 341 #[] (λj=>(((t.data.toList.getD j 0).toNat:Nat):Int)) (λj=>vL (t.data.toList.getD j 0).toNat) _ (by omega)
      (enters_of func341 (by kernel_rfl) rfl) g
      (λW j _ _=>(Bb _ W (UInt8.toNat_lt _)).mono λe a ⟨r,u⟩=>⟨r,u ▸ Below.refl _ _⟩)
     have i:=UT t.data.toList vL;rw[Ref.zx] at i;rw[i] at c
     have l:Ref.jN t=t.data.toList.all λc=>vL c.toNat:=by
      unfold Ref.jN Ref.digits vL;rw[decide_eq_true (show 1<=t.size/\t.size<=18 from ⟨h1,h2⟩),b]
      have:(t[0].toNat != 48)=true:=by simp;omega
      rw[this]
      rfl
     rw[l];generalize (t.data.toList.all λc=>vL c.toNat)=R at c;clear i l g b h3;go_enter func332,ntmps332
     go_wp2_with (first
      | (go_at_call 340;refine (d _).mono ?_;rintro e a ⟨rfl,rfl⟩)
      | (go_at_call 132;refine c.mono ?_;rintro e a ⟨rfl,h⟩))
     go_ret;exact⟨rfl,f.trans (h.mono f.size)⟩
   ·have o:decide ((t.size:Int)<=18)=false:=decide_eq_false (by omega);rw[Ref.dE t (by omega)];go_enter func332,ntmps332
    go_wp2_with (go_at_call 340;refine (d _).mono ?_;rintro e a ⟨rfl,rfl⟩)
    go_ret;exact⟨rfl,Below.refl _ _⟩
  ·have n:decide ((0:Int)<(t.size:Int))=false:=decide_eq_false (by omega);rw[Ref.dE t (by omega)];go_enter func332,ntmps332
   go_wp2_with (go_at_call 340;refine (d _).mono ?_;rintro e a ⟨rfl,rfl⟩)
   go_ret;exact⟨rfl,Below.refl _ _⟩
theorem LX(x:Option Rd.V)(u:Value)(g:Nat)(i:Array Value)(f:BY->Bool)(L B:Nat)(w:World)(j:∀args w,(callFunc g args).run prog w = .ok (.enter g args) w)
  (h:OAt w x u)(k:∀s,x=some (.str s)->s.size<=L)(l:Yq g i f L w)(n:w.cell? ⟨B,0,none⟩=some (.func (.func g) #[] i)) :
  Calls prog 339 #[u,.pointer (some ⟨B,0,none⟩)] w (Qd w (Rd.qd f x) (Rd.zI f x)):=by
 have c:=VX x u g i f L w j h k l;generalize Rd.qd f x=S at c;generalize Rd.zI f x=C at c;have d:=h.form;clear h k l j
 rcases d with rfl|⟨T,y,rfl⟩
 ·go_enter func339,ntmps339
  go_wp2_with (go_at_call 98;refine c.mono ?_;rintro e m ⟨v,rfl,b,a⟩)
  go_ret2;exact⟨_,rfl,b,a⟩
 ·go_enter func339,ntmps339
  go_wp2_with (go_at_call 98;refine c.mono ?_;rintro e m ⟨v,rfl,b,a⟩)
  go_ret2;exact⟨_,rfl,b,a⟩
theorem kZ.after{w b d:World}{a:List BY}{c:Nat}{e:Ending}(h:kZ b a c e d)(hb:Below w.heap.size w b):kZ w a c e d:=by
 obtain⟨k,u,f,g,i,j⟩:=h;exact⟨k,u,f,g,hb.trans (i.mono hb.size),xP j hb.size⟩
theorem Uj(x:Option Rd.V)(u:Value)(g:Nat)(f:BY->Bool)(w:World)(z:qC w)(p:∀args w,(callFunc g args).run prog w = .ok (.enter g args) w)
  (n:OAt w x u)(q:∀v,x=some v->Rd.Good 4000 v)(r:Yq g #[] f 4000 w) :
  Calls prog 330 #[u,.func (.func g) #[] #[]] w (kZ w (Rd.qc (Rd.qd f) x) (Rd.zZ (Rd.zI f) x)):=by
 have a:=nb w (.cells #[.func (.func g) #[] #[]] 25);have o:∀args w,(callFunc 339 args).run prog w = .ok (.enter 339 args) w:=enters_of func339 (by kernel_rfl) rfl
 have c:=Y4 x u 339 #[.pointer (some ⟨w.heap.size,0,none⟩)] (Rd.qd f) (Rd.zI f) 4000 (w.alloc (.cells #[.func (.func g) #[] #[]] 25)) (z.below a) o (n.below a) q
  (λW y v j A hb=>LX y v g #[] f 4000 w.heap.size W p A (λs m=>by have:=j _ m;cases this with|str _ h=>exact h)
    (λt s m i=>r t s m ((a.trans (hb.mono (by simp))).trans (i.mono (by have:=hb.size;simp at this;omega)))) (zg hb (by simp)))
 generalize Rd.qc (Rd.qd f) x=S at c;generalize Rd.zZ (Rd.zI f) x=C at c;have k:=n.form;clear n q r p o
 rcases k with rfl|⟨T,y,rfl⟩
 ·go_enter func330,ntmps330
  go_wp2_with (go_at_call 151;refine c.mono ?_;rintro e D h;have i:=h.after a;obtain⟨B,v,rfl,d,b,l⟩:=i)
  go_ret2;exact⟨_,_,rfl,d,b,l⟩
 ·go_enter func330,ntmps330
  go_wp2_with (go_at_call 151;refine c.mono ?_;rintro e D h;have i:=h.after a;obtain⟨B,v,rfl,d,b,l⟩:=i)
  go_ret2;exact⟨_,_,rfl,d,b,l⟩
def Looks(g:Nat)(b:Option Rd.V->List BY)(a:Option Rd.V->Nat)(w:World):Prop:=
 ∀W (x:Option Rd.V) (u:Value),(∀v,x=some v->Rd.Good 4000 v)->OAt W x u->Below w.heap.size w W->Calls prog g #[u] W (kZ W (b x) (a x))
theorem CQ{w:World}(i:jC w):Looks 320 (Rd.qc Rd.strOf) (Rd.zZ Rd.qZ) w:=by
 intro W x u j g hb;have h:∀args w,(callFunc 152 args).run prog w = .ok (.enter 152 args) w:=enters_of func152 (by kernel_rfl) rfl;have c:=Y4 x u 152 #[] Rd.strOf Rd.qZ 4000 W (i.below hb).err h g j (VZ (i.below hb));generalize Rd.qc Rd.strOf x=S at c;generalize Rd.zZ Rd.qZ x=C at c;have d:=g.form;clear g j h
 rcases d with rfl|⟨T,y,rfl⟩
 ·go_enter func320,ntmps320
  go_wp2_with (go_at_call 151;refine c.mono ?_;rintro e l ⟨k,v,rfl,b,a,f⟩)
  go_ret2;exact⟨_,_,rfl,b,a,f⟩
 ·go_enter func320,ntmps320
  go_wp2_with (go_at_call 151;refine c.mono ?_;rintro e l ⟨k,v,rfl,b,a,f⟩)
  go_ret2;exact⟨_,_,rfl,b,a,f⟩
theorem GK{w:World}(k:jC w):Looks 322 (Rd.qc (Rd.qd Rd.short)) (Rd.zZ (Rd.zI Rd.short)) w:=by
 intro W x u i g hb;have h:∀args w,(callFunc 331 args).run prog w = .ok (.enter 331 args) w:=enters_of func331 (by kernel_rfl) rfl;have c:=Uj x u 331 Rd.short W (k.below hb).err h g i (λj s l _=>aW s j l);generalize Rd.qc (Rd.qd Rd.short) x=S at c;generalize Rd.zZ (Rd.zI Rd.short) x=C at c;have d:=g.form;clear g i h
 rcases d with rfl|⟨T,y,rfl⟩
 ·go_enter func322,ntmps322
  go_wp2_with (go_at_call 330;refine c.mono ?_;rintro e n ⟨m,v,rfl,b,a,f⟩)
  go_ret2;exact⟨_,_,rfl,b,a,f⟩
 ·go_enter func322,ntmps322
  go_wp2_with (go_at_call 330;refine c.mono ?_;rintro e n ⟨m,v,rfl,b,a,f⟩)
  go_ret2;exact⟨_,_,rfl,b,a,f⟩
theorem mR{w:World}(k:jC w):Looks 324 (Rd.qc (Rd.qd Ref.qj)) (Rd.zZ (Rd.zI Ref.qj)) w:=by
 intro W x u i g hb;have h:∀args w,(callFunc 332 args).run prog w = .ok (.enter 332 args) w:=enters_of func332 (by kernel_rfl) rfl;have c:=Uj x u 332 Ref.qj W (k.below hb).err h g i (λj s _ _=>aX s j);generalize Rd.qc (Rd.qd Ref.qj) x=S at c;generalize Rd.zZ (Rd.zI Ref.qj) x=C at c;have d:=g.form;clear g i h
 rcases d with rfl|⟨T,y,rfl⟩
 ·go_enter func324,ntmps324
  go_wp2_with (go_at_call 330;refine c.mono ?_;rintro e m ⟨l,v,rfl,b,a,f⟩)
  go_ret2;exact⟨_,_,rfl,b,a,f⟩
 ·go_enter func324,ntmps324
  go_wp2_with (go_at_call 330;refine c.mono ?_;rintro e m ⟨l,v,rfl,b,a,f⟩)
  go_ret2;exact⟨_,_,rfl,b,a,f⟩
theorem Mi{w:World}(k:jC w):Looks 326 (Rd.qc (Rd.qd Rd.filled)) (Rd.zZ (Rd.zI Rd.filled)) w:=by
 intro W x u i g hb;have h:∀args w,(callFunc 336 args).run prog w = .ok (.enter 336 args) w:=enters_of func336 (by kernel_rfl) rfl;have c:=Uj x u 336 Rd.filled W (k.below hb).err h g i (λj s l _=>Bd s j l);generalize Rd.qc (Rd.qd Rd.filled) x=S at c;generalize Rd.zZ (Rd.zI Rd.filled) x=C at c;have d:=g.form;clear g i h
 rcases d with rfl|⟨T,y,rfl⟩
 ·go_enter func326,ntmps326
  go_wp2_with (go_at_call 330;refine c.mono ?_;rintro e n ⟨m,v,rfl,b,a,f⟩)
  go_ret2;exact⟨_,_,rfl,b,a,f⟩
 ·go_enter func326,ntmps326
  go_wp2_with (go_at_call 330;refine c.mono ?_;rintro e n ⟨m,v,rfl,b,a,f⟩)
  go_ret2;exact⟨_,_,rfl,b,a,f⟩
theorem iU{w:World}:Looks 328 (λ_=>[]) (λx=>if x.isNone then 0 else 1) w:=by
 intro W x u _ a _
 cases x with
 | none=>
  have c:u = .nilIface:=a;subst c;go_enter func328,ntmps328
  go_wp2
  go_ret2;exact⟨_,_,rfl,.inl ⟨rfl,rfl⟩,Below.refl _ _,World.ownsRow_nil _ _ _ _⟩
 | some v=>
  obtain⟨T,y,rfl⟩:=ValAt.iface (show ValAt W (λb=>b<W.heap.size) v u from a)
  clear a;go_enter func328,ntmps328
  go_wp2
  go_ret2;exact⟨_,_,rfl,.inr (.inl ⟨rfl,_,rfl⟩),Below.refl _ _,World.ownsRow_nil _ _ _ _⟩
def Jt(w:World)(x:Option Rd.V)(e:Ending)(a:World):Prop:=∃u,e = .returned (.tuple #[.bool (Rd.vv x),u])/\FV (Rd.cls (Rd.yA x) false) u/\Below w.heap.size w a
theorem FW(x:Option Rd.V)(u:Value)(w:World)(e:OAt w x u):Calls prog 201 #[u] w (Jt w x):=by
 cases x with
 | none=>
  have g:u = .nilIface:=e;subst g;go_enter func201,ntmps201
  go_wp2
  go_ret2;exact⟨_,rfl,.inl ⟨rfl,rfl⟩,Below.refl _ _⟩
 | some v=>
  have h:ValAt w (λb=>b<w.heap.size) v u:=e;clear e
  cases h with
  | word b=>
   have f:=LG;go_enter func201,ntmps201
   go_wp2
   go_ret2;exact⟨_,rfl,.inl ⟨rfl,rfl⟩,Below.refl _ _⟩
  | str s=>
   have f:=LF;go_enter func201,ntmps201
   go_wp2
   go_ret2;exact⟨_,rfl,.inr (.inl ⟨rfl,_,rfl⟩),Below.refl _ _⟩
  | list j i ao cap a c d=>
   clear a c d;have f:=LB;go_enter func201,ntmps201
   go_wp2
   go_ret2;exact⟨_,rfl,.inr (.inl ⟨rfl,_,rfl⟩),Below.refl _ _⟩
  | obj ms i ao cap a c d=>
   clear a c d;have f:=LD;go_enter func201,ntmps201
   go_wp2
   go_ret2;exact⟨_,rfl,.inr (.inl ⟨rfl,_,rfl⟩),Below.refl _ _⟩
end Go.Proofs.YtdakgnaojakldaaGreatDoor
