/- P -/
import Derived.Test.YtdakgnaojakldabGreatDoorT13
open Go.Proofs.Tryz
set_option maxRecDepth 100000
set_option maxHeartbeats 1000000
namespace Go.Proofs.YtdakgnaojakldabGreatDoor
open Go.RowKit
structure vS (w:World) (ms:List (BA×Rd.V)) (us:List (BA×Value)) (ao:Option Addr):Prop where
 names:us.map Prod.fst=ms.map Prod.fst
 mems:Z6 w ao us
 vals:∀(j:Nat) (x:BA×Rd.V) (u:BA×Value),ms[j]?=some x->us[j]?=some u->ValAt w (λb=>b<w.heap.size) x.2 u.2
theorem XL{w:World}{ms:List (BA×Rd.V)}{u:Value}(h:OAt w (some (.obj ms)) u):∃a ao cap,u = .iface 89 (.slice ao a.length cap)/\vS w ms a ao:=by
 have g:ValAt w (λb=>b<w.heap.size) (.obj ms) u:=h
 cases g with
 | obj _ a ao cap d c e=>
  refine⟨a,ao,cap,rfl,d,?_,e⟩
  rcases c with c|⟨b,ha,_,hc⟩
  ·exact .inl c
  ·exact .inr ⟨b,0,ha,λj f=>by simp only[Nat.zero_add];exact hc j _ (List.getElem?_eq_getElem f)⟩
theorem vS.len{w:World}{ms:List (BA×Rd.V)}{a:List (BA×Value)}{ao:Option Addr}(h:vS w ms a ao):a.length=ms.length:=by
 have:=congrArg List.length h.names
 simpa using this
theorem vS.below{w f:World}{ms:List (BA×Rd.V)}{e:List (BA×Value)}{ao:Option Addr}(h:vS w ms e ao)(a:Below w.heap.size w f):vS f ms e ao:=
 ⟨h.names,JI h.mems a,λj x u i g=>(h.vals j x u i g).move (λ_ d=>Nat.lt_of_lt_of_le d a.size) (λb c=>a.block b c)⟩
theorem vS.ifaces{w:World}{ms:List (BA×Rd.V)}{b:List (BA×Value)}{ao:Option Addr}(h:vS w ms b ao):∀m ∈ b,∃T x,m.2 = .iface T x:=by
 intro m d;obtain⟨j,c,rfl⟩:=List.getElem_of_mem d;have a:j<ms.length:=by have:=h.len;omega
 exact (h.vals j ms[j] b[j] (List.getElem?_eq_getElem a) (List.getElem?_eq_getElem c)).iface
theorem dO{w:World}(nm:BA):∀{ms:List (BA×Rd.V)} {a:List (BA×Value)},a.map Prod.fst=ms.map Prod.fst ->
  (∀(j:Nat) (x:BA×Rd.V) (u:BA×Value),ms[j]?=some x->a[j]?=some u->ValAt w (λb=>b<w.heap.size) x.2 u.2)->OAt w (Rd.zf ms nm) (qC a nm)
 | [],[],_,_=>rfl
 | [],_::_,h,_=>by simp at h
 | _::_,[],h,_=>by simp at h
 | m::ms,u::a,h,hv=>by
  simp only[List.map_cons,List.cons.injEq] at h;unfold Rd.zf qC;rw[List.find?_cons,List.find?_cons,h.1]
  cases e:(m.1.toList==nm.toList) with
  | true=>exact hv 0 m u rfl rfl
  | false=>exact dO nm h.2 (λj x y c d=>hv (j+1) x y (by simpa using c) (by simpa using d))
theorem vS.get{w:World}{ms:List (BA×Rd.V)}{a:List (BA×Value)}{ao:Option Addr}(h:vS w ms a ao)(nm:BA):OAt w (Rd.zf ms nm) (qC a nm):=dO nm h.names h.vals
theorem UM{w:World}{ms:List (BA×Rd.V)}{a:List (BA×Value)}{ao:Option Addr}(cap:Nat)(h:vS w ms a ao)(c:ms.length<=4000)(nm:BA) :
  Calls prog 31 #[.slice ao a.length cap,.string nm] w λe b=>e = .returned (qC a nm)/\Below w.heap.size w b:=
 Ul a ao cap nm w (by have:=h.len;omega) h.mems h.ifaces
theorem FK(g:List BA)(d:Option Addr)(b:Nat)(m:BA×Value)(B:Nat)(w:World)(n:g.length<=100)(i:vo w d g)(k:w.cell? ⟨B,0,none⟩=some (.slice d g.length b)) :
  Calls prog 87 #[kH m,.pointer (some ⟨B,0,none⟩)] w λe j=>e = .returned (.bool (g.any λs=>s.toList==m.1.toList))/\Below w.heap.size w j:=by
 obtain⟨a,v⟩:=m;unfold kH;simp only;have l:=λO:Obj=>zb (nB w O) k;have f:=λO:Obj=>nB w O;have c:=λO:Obj=>dY g a d b (w.alloc O) (by omega) (vN i (f O));generalize g.any (λs=>s.toList==a.toList)=F at c;clear i;go_enter func87,ntmps87
 go_wp2_with (go_at_call 88;refine (c _).mono ?_;rintro e j ⟨rfl,h⟩)
 go_ret;exact⟨rfl,(f _).trans (h.mono (f _).size)⟩
theorem oM(ms:List (BA×Rd.V))(b:List (BA×Value))(e:List BA)(h:b.map Prod.fst=ms.map Prod.fst) :
  jD (λj=>e.any λs=>s.toList==(jh b j).1.toList) b.length=Rd.zJ ms e:=by
 have f:jD (λj=>e.any λs=>s.toList==(jh b j).1.toList) b.length=(b.map Prod.fst).all (λa=>e.any λs=>s.toList==a.toList):=by
  unfold jD;rw[List.all_map,Bool.eq_iff_iff,List.all_eq_true,List.all_eq_true]
  constructor
  ·intro h m g;obtain⟨j,d,rfl⟩:=List.getElem_of_mem g
   have:=h j (List.mem_range.2 d)
   rw[Qs b j d] at this;exact this
  ·intro h j d;have c:=List.mem_range.1 d;rw[Qs b j c];exact h _ (List.getElem_mem c)
 rw[f,h,List.all_map]
 rfl
def YZ(w:World)(e:Ending)(a:World):Prop:=∃p,e = .returned (.tuple #[.slice none 0 0,.iface 96 (.agg #[.string p])])/\Below w.heap.size w a
theorem YO(ms:List (BA×Rd.V))(i:List (BA×Value))(ao:Option Addr)(cap:Nat)(f:List BA)(c:Option Addr)(a:Nat)(w:World)(q:f.length<=100)(t:ms.length<=4000)(p:vo w c f)(h:vS w ms i ao)(b:Bool)(o:Rd.zJ ms f=b) :
  Calls prog 56 #[.iface 89 (.slice ao i.length cap),.slice c f.length a] w λe k=>
   if b then (e = .returned (.tuple #[.slice ao i.length cap,.nilIface])/\Below w.heap.size w k) else YZ w e k:=by
 have d:=nB w (.cells #[.slice c f.length a] 47);have m:∀args w,(callFunc 87 args).run prog w = .ok (.enter 87 args) w:=enters_of func87 (by kernel_rfl) rfl
 have l:=oK i ao cap 87 #[.pointer (some ⟨w.heap.size,0,none⟩)] (λj=>f.any λs=>s.toList==(jh i j).1.toList) (w.alloc (.cells #[.slice c f.length a] 47)) (by have:=h.len;omega) m
  (JI h.mems d) h.ifaces (λW j r n=>FK f c a (jh i j) w.heap.size W q (vN p (d.trans (n.mono (by simp)))) (zb n (by simp)))
 rw[oM ms i f h.names,o] at l;have u:=Kz;clear m h p o
 cases b with
 | true=>
  simp only[if_true];go_enter func56,ntmps56
  go_wp2_with (go_at_call 89;refine l.mono ?_;rintro e k ⟨rfl,g⟩)
  go_ret2;exact⟨rfl,d.trans (g.mono (by simp))⟩
 | false=>
  simp only[Bool.false_eq_true,if_false];go_enter func56,ntmps56
  go_wp2_with (go_at_call 89;refine l.mono ?_;rintro e k ⟨rfl,g⟩)
  go_ret2;exact⟨_,rfl,d.trans (g.mono (by simp))⟩
theorem Ky{w:World}{x:Option Rd.V}{u:Value}(h:OAt w x u)(d:∀ms,x≠some (.obj ms))(W:World):(Instr.typeAssert u 85 89 true).run prog W = .ok (.tuple #[.slice none 0 0,.bool false]) W:=by
 cases x with
 | none=>
  have a:u = .nilIface:=h;subst a;exact Px W
 | some v=>
  have c:ValAt w (λb=>b<w.heap.size) v u:=h
  cases c with
  | str s=>exact Py _ W
  | word b=>exact Pz _ W
  | list e=>exact Pw _ W
  | obj ms=>exact absurd rfl (d ms)
theorem iZ(x:Option Rd.V)(u:Value)(n:Nat)(b:Option Addr)(a:Nat)(w:World)(f:OAt w x u)(d:∀ms,x≠some (.obj ms)) :
  Calls prog 56 #[u,.slice b n a] w (YZ w):=by
 have g:=λW=>Ky f d W;have c:=nB w (.cells #[.slice b n a] 47);have e:=f.form;clear f d
 rcases e with rfl|⟨T,y,rfl⟩
 ·go_enter func56,ntmps56
  go_wp2
  go_ret2;exact⟨_,rfl,c⟩
 ·go_enter func56,ntmps56
  go_wp2
  go_ret2;exact⟨_,rfl,c⟩
theorem zI{w:World}{base:Nat}{e:TypeId}{v:Value}{n:Nat}{xs:List Value}(h:w.ownsRow base e 1 v n xs){b:Nat}(d:b<base)(o:Nat)(u:Value):(w.setCell ⟨b,o,none⟩ u).ownsRow base e 1 v n xs:=
 ownsRow_setCell_other h (a:=⟨b,o,none⟩) (by intro c;have:=(h.lt b c).1;omega) u
theorem yJ{w:World}{base:Nat}{e:TypeId}{v:Value}{n:Nat}{xs:List Value}(h:w.ownsRow base e 1 v n xs):∃a c,v = .slice a n c:=by
 rcases h.2 with ⟨rfl,rfl⟩|⟨g,c,cur,rfl,_⟩
 ·exact⟨_,_,rfl⟩
 ·exact⟨_,_,rfl⟩
theorem xU{w W:World}{O:Obj}(a:Below (w.alloc O).heap.size (w.alloc O) W):W.heap[w.heap.size]?=some O:=(a.block _ (by simp)).trans (heap_alloc_new w O)
def chS:Option Rd.V->Bool×List BA
 | some (.obj ms)=>if Rd.zJ ms [Ref.zZ] then (true,Rd.qj Rd.strOf (Rd.zf ms Ref.zZ)) else (false,[])
 | x=>(false,Rd.qj Rd.strOf x)
def QH(w:World)(x:Option Rd.V)(e:Ending)(b:World):Prop:=
 ∃a u,e = .returned (.tuple #[.agg #[.bool (chS x).1,a],u])/\FV (Rd.chC x) u/\Below w.heap.size w b/\b.ownsRow w.heap.size 9 1 a (chS x).2.length ((chS x).2.map Value.string)
theorem Ka{w:World}(a:vv w):Yb 91 #[] Rd.strOf Rd.xB 4000 w:=λW y u b e c=>
 Mh y u W (a.below c) e (λs d=>by have:=b _ d;cases this with|str _ h=>exact h)
theorem aV(x:Option Rd.V)(a:∀ms,x≠some (.obj ms)):chS x=(false,Rd.qj Rd.strOf x)/\Rd.chC x=Rd.qf Rd.xB x:=by
 match x with
 | none=>exact⟨rfl,rfl⟩
 | some (.str s)=>exact⟨rfl,rfl⟩
 | some (.word b)=>exact⟨rfl,rfl⟩
 | some (.list vs)=>exact⟨rfl,rfl⟩
 | some (.obj ms)=>exact absurd rfl (a ms)
theorem LU(x:Option Rd.V)(u:Value)(w:World)(n:vv w)(l:OAt w x u)(z:∀v,x=some v->Rd.Good 4000 v)(g:∀ms,x≠some (.obj ms)) :
  Calls prog 59 #[u] w (QH w x):=by
 unfold QH;rw[(aV x g).1,(aV x g).2];have C:=λW=>Ky l g W;have b:=nB w (.cells #[.bool false,.slice none 0 0] 101);have t:∀args w,(callFunc 91 args).run prog w = .ok (.enter 91 args) w:=enters_of func91 (by kernel_rfl) rfl;have c1:=JN x u 91 #[] Rd.strOf Rd.xB 4000 (w.alloc (.cells #[.bool false,.slice none 0 0] 101)) (n.below b).err t (l.below b) z (Ka (n.below b));obtain⟨m,j⟩:=Nm (Rd.qj Rd.strOf x);obtain⟨c,o⟩:=Nm (Rd.qf Rd.xB x);rw[j,o] at c1;rw[j,o];have p:=l.form;clear l g n t j o z
 rcases p with rfl|⟨T,y,rfl⟩
 ·go_enter func59,ntmps59
  go_wp2_with (go_at_call 90;refine c1.mono ?_;rintro e s ⟨B,v,rfl,i,d,a⟩;have h:Below w.heap.size w s:=b.trans (d.mono (by simp));obtain⟨q,r,rfl⟩:=yJ a;have f:=xU d;have r0:=(za f 0).1;have k:=(za f 1).1;have A:=(za f 0).2;have f1:=(za f 1).2;simp at r0 k)
  exact bodyPost_ret (v := .tuple #[.agg #[.bool false,.slice q m.length r],v]) (by simp[results,results59,go_sem,r0,k]) rfl ⟨_,_,rfl,i,(h.setCell (Nat.le_refl _) _).setCell (Nat.le_refl _) _,jZ (zI (zI a (by simp) _ _) (by simp) _ _) (by simp)⟩
 ·go_enter func59,ntmps59
  go_wp2_with (go_at_call 90;refine c1.mono ?_;rintro e s ⟨B,v,rfl,i,d,a⟩;have h:Below w.heap.size w s:=b.trans (d.mono (by simp));obtain⟨q,r,rfl⟩:=yJ a;have f:=xU d;have r0:=(za f 0).1;have k:=(za f 1).1;have A:=(za f 0).2;have f1:=(za f 1).2;simp at r0 k)
  exact bodyPost_ret (v := .tuple #[.agg #[.bool false,.slice q m.length r],v]) (by simp[results,results59,go_sem,r0,k]) rfl ⟨_,_,rfl,i,(h.setCell (Nat.le_refl _) _).setCell (Nat.le_refl _) _,jZ (zI (zI a (by simp) _ _) (by simp) _ _) (by simp)⟩
theorem LV(ms:List (BA×Rd.V))(u:Value)(w:World)(K:vv w)(hx:OAt w (some (.obj ms)) u)(L:Rd.Good 4000 (.obj ms)) :
  Calls prog 59 #[u] w (QH w (some (.obj ms))):=by
 obtain⟨R,ao,cap,rfl,G⟩:=XL hx;have I:ms.length<=4000:=by cases L with|obj _ h=>exact h
 have H:=λv h=>Rd.xg L Ref.zZ v h;unfold QH;have hS:chS (some (.obj ms))=if Rd.zJ ms [Ref.zZ] then (true,Rd.qj Rd.strOf (Rd.zf ms Ref.zZ)) else (false,[]):=rfl
 have Z:Rd.chC (some (.obj ms))=if Rd.zJ ms [Ref.zZ] then Rd.qf Rd.xB (Rd.zf ms Ref.zZ) else 1:=rfl
 rw[hS,Z];have ta:=Kz;have N:=nB w (.cells #[.bool false,.slice none 0 0] 101);have m:=N.alloc (by simp) (.cells #[.string Ref.zZ] 9);have U:∀args w,(callFunc 91 args).run prog w = .ok (.enter 91 args) w:=enters_of func91 (by kernel_rfl) rfl;obtain⟨b,M⟩:=Nm (Rd.zJ ms [Ref.zZ])
 have t:=YO ms R ao cap [Ref.zZ] (some ⟨w.heap.size+1,0,none⟩) 1 ((w.alloc (.cells #[.bool false,.slice none 0 0] 101)).alloc (.cells #[.string Ref.zZ] 9)) (by simp) I
  (.inr ⟨w.heap.size+1,0,rfl,λj hj=>by
    simp only[List.length_singleton] at hj
    have:j=0:=by omega
    subst this;have h:=heap_alloc_new (w.alloc (.cells #[.bool false,.slice none 0 0] 101)) (.cells #[.string Ref.zZ] 9);rw[World.size_alloc] at h;exact (za h 0).1⟩) (G.below m) b M
 rw[M];have E:=λW (h:Below w.heap.size w W)=>UM (w:=W) cap (G.below h) I Ref.zZ;have F:=λW (h:Below w.heap.size w W)=>JN (Rd.zf ms Ref.zZ) (qC R Ref.zZ) 91 #[] Rd.strOf Rd.xB 4000 W (K.below h).err U ((G.below h).get Ref.zZ) H (Ka (K.below h));have z:=(G.get Ref.zZ).form;obtain⟨Y,A⟩:=Nm (qC R Ref.zZ);rw[A] at z;simp only[A] at E F;simp only[List.length_singleton] at t;obtain⟨J,B⟩:=Nm (Rd.qj Rd.strOf (Rd.zf ms Ref.zZ));obtain⟨c,O⟩:=Nm (Rd.qf Rd.xB (Rd.zf ms Ref.zZ));simp only[B,O] at F;rw[B,O];clear hx K U B O L G A M hS Z H;unfold Ref.zZ at t E m
 cases b with
 | false=>
  simp only[Bool.false_eq_true,if_false] at t |-;clear F E z;go_enter func59,ntmps59
  go_wp2_with (go_at_call 56;refine t.mono ?_;rintro e C ⟨p,rfl,d⟩;have a:Below w.heap.size w C:=m.trans (d.mono (by simp;omega));have k:=xU (((Below.refl _ (w.alloc (.cells #[.bool false,.slice none 0 0] 101))).alloc (Nat.le_refl _) _).trans (d.mono (by simp)));have r0:=(za k 0).1;have r:=(za k 1).1;have X:=(za k 0).2;have f1:=(za k 1).2;simp at r0 r)
  exact bodyPost_ret (v := .tuple #[.agg #[.bool false,.slice none 0 0],.iface 96 (.agg #[.string p])]) (by simp[results,results59,go_sem,r0,r]) rfl ⟨_,_,rfl,.inr (.inl ⟨rfl,_,rfl⟩),(a.setCell (Nat.le_refl _) _).setCell (Nat.le_refl _) _,World.ownsRow_nil _ _ _ _⟩
 | true=>
  simp only[if_true] at t |-
  rcases z with rfl|⟨T,y,rfl⟩
  ·go_enter func59,ntmps59
   go_wp2_with (first
    | (go_at_call 90;refine (F D i).mono ?_;rintro e S ⟨lv,v,rfl,x,o,f⟩;have s:Below w.heap.size w S:=i.trans (o.mono i.size);obtain⟨P,Q,rfl⟩:=yJ f;have q:w.heap.size<D.heap.size:=(by have h1:=g.size;simp at h1;omega);have k:=xU (g.trans (o.mono g.size));have r0:=(za k 0).1;have r:=(za k 1).1;have X:=(za k 0).2;have f1:=(za k 1).2;simp at r0 r)
    | (go_at_call 31;refine (E C a).mono ?_;rintro e D ⟨rfl,n⟩;have i:Below w.heap.size w D:=a.trans (n.mono a.size);have g:=l.trans (n.mono l.size))
    | (go_at_call 56;refine t.mono ?_;rintro e C ⟨rfl,d⟩;have a:Below w.heap.size w C:=m.trans (d.mono (by simp;omega));have l:=((Below.refl _ (w.alloc (.cells #[.bool false,.slice none 0 0] 101))).alloc (Nat.le_refl _) (.cells #[.string ⟨#[110,111,116]⟩] 9)).trans (d.mono (by simp))))
   exact bodyPost_ret (v := .tuple #[.agg #[.bool true,.slice P J.length Q],v]) (by simp[results,results59,go_sem,r0,r]) rfl ⟨_,_,rfl,x,(s.setCell (Nat.le_refl _) _).setCell (Nat.le_refl _) _,jZ (zI (zI f q _ _) q _ _) (by omega)⟩
  ·go_enter func59,ntmps59
   go_wp2_with (first
    | (go_at_call 90;refine (F D i).mono ?_;rintro e S ⟨lv,v,rfl,x,o,f⟩;have s:Below w.heap.size w S:=i.trans (o.mono i.size);obtain⟨P,Q,rfl⟩:=yJ f;have q:w.heap.size<D.heap.size:=(by have h1:=g.size;simp at h1;omega);have k:=xU (g.trans (o.mono g.size));have r0:=(za k 0).1;have r:=(za k 1).1;have X:=(za k 0).2;have f1:=(za k 1).2;simp at r0 r)
    | (go_at_call 31;refine (E C a).mono ?_;rintro e D ⟨rfl,n⟩;have i:Below w.heap.size w D:=a.trans (n.mono a.size);have g:=l.trans (n.mono l.size))
    | (go_at_call 56;refine t.mono ?_;rintro e C ⟨rfl,d⟩;have a:Below w.heap.size w C:=m.trans (d.mono (by simp;omega));have l:=((Below.refl _ (w.alloc (.cells #[.bool false,.slice none 0 0] 101))).alloc (Nat.le_refl _) (.cells #[.string ⟨#[110,111,116]⟩] 9)).trans (d.mono (by simp))))
   exact bodyPost_ret (v := .tuple #[.agg #[.bool true,.slice P J.length Q],v]) (by simp[results,results59,go_sem,r0,r]) rfl ⟨_,_,rfl,x,(s.setCell (Nat.le_refl _) _).setCell (Nat.le_refl _) _,jZ (zI (zI f q _ _) q _ _) (by omega)⟩
theorem LW(x:Option Rd.V)(u:Value)(w:World)(a:vv w)(c:OAt w x u)(b:∀v,x=some v->Rd.Good 4000 v):Calls prog 59 #[u] w (QH w x):=by
 by_cases h:∃ms,x=some (.obj ms)
 ·obtain⟨ms,rfl⟩:=h;exact LV ms u w a c (b _ rfl)
 ·exact LU x u w a c b (λms e=>h ⟨ms,e⟩)
theorem eF(s:BA)(w:World)(b:s.size<=4000):Calls prog 220 #[.string s] w λe a=>e = .returned (.bool (Rd.short s))/\Below w.heap.size w a:=by
 have e:Rd.short s=decide ((s.size:Int)<=60):=by unfold Rd.short;exact decide_eq_decide.2 (by omega)
 rw[e];go_enter func220,ntmps220
 go_wp2
 go_ret;exact⟨rfl,Below.refl _ _⟩
theorem El(s:BA)(w:World)(f:s.size<=4000):Calls prog 225 #[.string s] w λe d=>e = .returned (.bool (Rd.filled s))/\Below w.heap.size w d:=by
 have c:=eF s w f;unfold Rd.filled;generalize Rd.short s=R at c
 cases h:(s.toList==[]) with
 | true=>
  have a:s.toList.isEmpty=true:=by rw[List.isEmpty_iff];simpa using h
  rw[a];clear c a;go_enter func225,ntmps225
  go_wp2
  go_ret;exact⟨rfl,Below.refl _ _⟩
 | false=>
  have a:s.toList.isEmpty=false:=by
   cases e:s.toList.isEmpty with
   | false=>rfl
   | true=>rw[List.isEmpty_iff] at e;rw[e] at h;simp at h
  rw[a];clear a;go_enter func225,ntmps225
  go_wp2_with (go_at_call 220;refine c.mono ?_;rintro e d ⟨rfl,b⟩)
  go_ret;exact⟨rfl,b⟩
theorem Us(s p:BA)(w:World)(R:Bool)(a:R=(decide (p.size<=s.size)&&((s.extract 0 p.size).toList==p.toList))) :
  Calls prog 234 #[.string s,.string p] w λe b=>e = .returned (.bool R)/\b=w:=by
 by_cases h:p.size<=s.size
 ·rw[decide_eq_true h,Bool.true_and] at a;have d:decide ((p.size:Int)<=(s.size:Int))=true:=decide_eq_true (by omega);subst a;go_enter func234,ntmps234
  go_wp2
  go_ret;exact⟨rfl,rfl⟩
 ·rw[decide_eq_false h,Bool.false_and] at a;have d:decide ((p.size:Int)<=(s.size:Int))=false:=decide_eq_false (by omega);subst a;go_enter func234,ntmps234
  go_wp2
  go_ret;exact⟨rfl,rfl⟩
def unsigned(s:BA):BA:=if 0<s.size/\(s.data.toList.getD 0 0).toNat=45 then s.extract 1 s.size else s
theorem fU(s:BA):(decide ((⟨#[45]⟩:BA).size<=s.size)&&((s.extract 0 (⟨#[45]⟩:BA).size).toList==(⟨#[45]⟩:BA).toList))=decide (0<s.size/\(s.data.toList.getD 0 0).toNat=45):=by
 have b:(⟨#[45]⟩:BA).size=1:=rfl;have c:(⟨#[45]⟩:BA).toList=[45]:=by rw[ByteArray.toList_eq]
 rw[b,c,ByteArray.toList_eq]
 by_cases h:0<s.size
 ·rw[decide_eq_true (show 1<=s.size from h),Bool.true_and]
  have d:(s.extract 0 1).data.toList=[s.data.toList.getD 0 0]:=by
   cases hl:s.data.toList with
   | nil=>have:=Ref.zB s;rw[hl] at this;simp at this;omega
   | cons a r=>simp[hl]
  rw[d,Bool.eq_iff_iff,decide_eq_true_iff];simp only[List.cons_beq_cons,BEq.rfl,Bool.and_true,beq_iff_eq]
  constructor
  ·intro e;exact⟨h,by rw[e];rfl⟩
  ·intro e;exact UInt8.toNat.inj e.2
 ·rw[decide_eq_false (show ¬1<=s.size by omega),Bool.false_and,decide_eq_false (λe=>h e.1)]
theorem PZ(s:BA)(w:World):Calls prog 229 #[.string s,.string ⟨#[45]⟩] w λe a=>e = .returned (.string (unsigned s))/\a=w:=by
 have c:=Us s ⟨#[45]⟩ w _ (fU s).symm
 have c2:Calls prog 235 #[.string s,.string ⟨#[45]⟩] w λe a=>e = .returned (.string (unsigned s))/\a=w:=by
  unfold unsigned
  by_cases h:0<s.size/\(s.data.toList.getD 0 0).toNat=45
  ·rw[if_pos h];rw[decide_eq_true h] at c;have b:(1:Int)<=(s.size:Int):=by have:=h.1;omega
   clear h;go_enter func235,ntmps235
   go_wp2_with (go_at_call 234;refine c.mono ?_;rintro e a ⟨rfl,rfl⟩)
   go_ret;exact⟨rfl,rfl⟩
  ·rw[if_neg h];rw[decide_eq_false h] at c;clear h;go_enter func235,ntmps235
   go_wp2_with (go_at_call 234;refine c.mono ?_;rintro e a ⟨rfl,rfl⟩)
   go_ret;exact⟨rfl,rfl⟩
 clear c;go_enter func229,ntmps229
 go_wp2_with (go_at_call 235;refine c2.mono ?_;rintro e a ⟨rfl,rfl⟩)
 go_ret;exact⟨rfl,rfl⟩
def uC(c:Nat):Bool:=decide (48<=c/\c<=57)
theorem Ei(c:Nat)(w:World)(f:c<256) :
  Calls prog 230 #[.int .u8 (c:Int)] w λe d=>e = .returned (.bool (uC c))/\d=w:=by
 by_cases h1:48<=c
 ·have a:decide ((48:Int)<=(c:Int))=true:=decide_eq_true (by omega)
  by_cases h2:c<=57
  ·have b:decide ((c:Int)<=57)=true:=decide_eq_true (by omega);have e:uC c=true:=by unfold uC;simp;omega
   rw[e];go_enter func230,ntmps230
   go_wp2
   go_ret;exact⟨rfl,rfl⟩
  ·have b:decide ((c:Int)<=57)=false:=decide_eq_false (by omega);have e:uC c=false:=by unfold uC;simp;omega
   rw[e];go_enter func230,ntmps230
   go_wp2
   go_ret;exact⟨rfl,rfl⟩
 ·have a:decide ((48:Int)<=(c:Int))=false:=decide_eq_false (by omega);have e:uC c=false:=by unfold uC;simp;omega
  rw[e];go_enter func230,ntmps230
  go_wp2
  go_ret;exact⟨rfl,rfl⟩
theorem Es(s:BA):Ref.qE s=((s.toList==[48])||Ref.vK (unsigned s)):=rfl
theorem eG(s:BA)(w:World):Calls prog 221 #[.string s] w λe a=>e = .returned (.bool (Ref.qE s))/\Below w.heap.size w a:=by
 have d:=PZ s;rw[Es];obtain⟨t,k⟩:=Nm (unsigned s);simp only[k] at d;rw[k];clear k
 cases h0:(s.toList==[48]) with
 | true=>
  rw[Bool.true_or];go_enter func221,ntmps221
  go_wp2_with (go_at_call 229;refine (d _).mono ?_;rintro e a ⟨rfl,rfl⟩)
  go_ret;exact⟨rfl,Below.refl _ _⟩
 | false=>
  rw[Bool.false_or]
  by_cases h1:1<=t.size
  ·have n:decide ((0:Int)<(t.size:Int))=true:=decide_eq_true (by omega)
   by_cases h2:t.size<=18
   ·have o:decide ((t.size:Int)<=18)=true:=decide_eq_true (by omega);have m:0<t.size:=h1;have b:=Ref.Jr t m
    by_cases h3:(t[0].toNat:Int)=48
    ·have p:((t[0].toNat:Int) != 48)=false:=by simp[h3]
     have e:Ref.vK t=false:=Ref.Hu t m h3;rw[e];clear e b;go_enter func221,ntmps221
     go_wp2_with (go_at_call 229;refine (d _).mono ?_;rintro e a ⟨rfl,rfl⟩)
     go_ret;exact⟨rfl,Below.refl _ _⟩
    ·have p:((t[0].toNat:Int) != 48)=true:=by simp[h3]
     obtain⟨C,O,q,g⟩:=VJ t w;have f:Below w.heap.size w (w.alloc O).drew:=(nB w _).drew
     have c:=af t.size w.heap.size 0 C 230 #[] (λj=>(((t.data.toList.getD j 0).toNat:Nat):Int)) (λj=>uC (t.data.toList.getD j 0).toNat) _ (by omega)
      (enters_of func230 (by kernel_rfl) rfl) g
      (λW j _ _=>(Ei _ W (UInt8.toNat_lt _)).mono λe a ⟨r,u⟩=>⟨r,u ▸ Below.refl _ _⟩)
     have i:=ae t.data.toList uC;rw[Ref.zB] at i;rw[i] at c
     have l:Ref.vK t=t.data.toList.all λc=>uC c.toNat:=by
      unfold Ref.vK Ref.digits uC;rw[decide_eq_true (show 1<=t.size/\t.size<=18 from ⟨h1,h2⟩),b]
      have:(t[0].toNat != 48)=true:=by simp;omega
      rw[this]
      rfl
     rw[l];generalize (t.data.toList.all λc=>uC c.toNat)=R at c;clear i l g b h3;go_enter func221,ntmps221
     go_wp2_with (first
      | (go_at_call 229;refine (d _).mono ?_;rintro e a ⟨rfl,rfl⟩)
      | (go_at_call 49;refine c.mono ?_;rintro e a ⟨rfl,h⟩))
     go_ret;exact⟨rfl,f.trans (h.mono f.size)⟩
   ·have o:decide ((t.size:Int)<=18)=false:=decide_eq_false (by omega);rw[Ref.gJ t (by omega)];go_enter func221,ntmps221
    go_wp2_with (go_at_call 229;refine (d _).mono ?_;rintro e a ⟨rfl,rfl⟩)
    go_ret;exact⟨rfl,Below.refl _ _⟩
  ·have n:decide ((0:Int)<(t.size:Int))=false:=decide_eq_false (by omega);rw[Ref.gJ t (by omega)];go_enter func221,ntmps221
   go_wp2_with (go_at_call 229;refine (d _).mono ?_;rintro e a ⟨rfl,rfl⟩)
   go_ret;exact⟨rfl,Below.refl _ _⟩
theorem PV(x:Option Rd.V)(u:Value)(g:Nat)(i:Array Value)(f:BA->Bool)(L B:Nat)(w:World)(j:∀args w,(callFunc g args).run prog w = .ok (.enter g args) w)
  (h:OAt w x u)(k:∀s,x=some (.str s)->s.size<=L)(l:Y2 g i f L w)(n:w.cell? ⟨B,0,none⟩=some (.func (.func g) #[] i)) :
  Calls prog 228 #[u,.pointer (some ⟨B,0,none⟩)] w (QM w (Rd.ql f x) (Rd.zL f x)):=by
 have c:=U8 x u g i f L w j h k l;generalize Rd.ql f x=S at c;generalize Rd.zL f x=C at c;have d:=h.form;clear h k l j
 rcases d with rfl|⟨T,y,rfl⟩
 ·go_enter func228,ntmps228
  go_wp2_with (go_at_call 57;refine c.mono ?_;rintro e m ⟨v,rfl,b,a⟩)
  go_ret2;exact⟨_,rfl,b,a⟩
 ·go_enter func228,ntmps228
  go_wp2_with (go_at_call 57;refine c.mono ?_;rintro e m ⟨v,rfl,b,a⟩)
  go_ret2;exact⟨_,rfl,b,a⟩
theorem ZK.after{w d f:World}{b:List BA}{c:Nat}{e:Ending}(h:ZK d b c e f)(a:Below w.heap.size w d):ZK w b c e f:=by
 obtain⟨l,u,g,i,j,k⟩:=h;exact⟨l,u,g,i,a.trans (j.mono a.size),jZ k a.size⟩
theorem Kr(x:Option Rd.V)(u:Value)(g:Nat)(f:BA->Bool)(w:World)(A:qQ w)(q:∀args w,(callFunc g args).run prog w = .ok (.enter g args) w)
  (o:OAt w x u)(r:∀v,x=some v->Rd.Good 4000 v)(t:Y2 g #[] f 4000 w) :
  Calls prog 219 #[u,.func (.func g) #[] #[]] w (ZK w (Rd.qj (Rd.ql f) x) (Rd.qf (Rd.zL f) x)):=by
 have a:=nB w (.cells #[.func (.func g) #[] #[]] 77);have p:∀args w,(callFunc 228 args).run prog w = .ok (.enter 228 args) w:=enters_of func228 (by kernel_rfl) rfl
 have c:=JN x u 228 #[.pointer (some ⟨w.heap.size,0,none⟩)] (Rd.ql f) (Rd.zL f) 4000 (w.alloc (.cells #[.func (.func g) #[] #[]] 77)) (A.below a) p (o.below a) r
  (λW y v j B k=>PV y v g #[] f 4000 w.heap.size W q B (λs n=>by have:=j _ n;cases this with|str _ h=>exact h)
    (λz s n i=>t z s n ((a.trans (k.mono (by simp))).trans (i.mono (by have:=k.size;simp at this;omega)))) (zb k (by simp)))
 generalize Rd.qj (Rd.ql f) x=S at c;generalize Rd.qf (Rd.zL f) x=C at c;have l:=o.form;clear o r t q p
 rcases l with rfl|⟨T,y,rfl⟩
 ·go_enter func219,ntmps219
  go_wp2_with (go_at_call 90;refine c.mono ?_;rintro e E h;have i:=h.after a;obtain⟨D,v,rfl,d,b,m⟩:=i)
  go_ret2;exact⟨_,_,rfl,d,b,m⟩
 ·go_enter func219,ntmps219
  go_wp2_with (go_at_call 90;refine c.mono ?_;rintro e E h;have i:=h.after a;obtain⟨D,v,rfl,d,b,m⟩:=i)
  go_ret2;exact⟨_,_,rfl,d,b,m⟩
def Looks(g:Nat)(b:Option Rd.V->List BA)(a:Option Rd.V->Nat)(w:World):Prop:=
 ∀W (x:Option Rd.V) (u:Value),(∀v,x=some v->Rd.Good 4000 v)->OAt W x u->Below w.heap.size w W->Calls prog g #[u] W (ZK W (b x) (a x))
theorem FY{w:World}(i:vv w):Looks 209 (Rd.qj Rd.strOf) (Rd.qf Rd.xB) w:=by
 intro W x u j g k;have h:∀args w,(callFunc 91 args).run prog w = .ok (.enter 91 args) w:=enters_of func91 (by kernel_rfl) rfl;have c:=JN x u 91 #[] Rd.strOf Rd.xB 4000 W (i.below k).err h g j (Ka (i.below k));generalize Rd.qj Rd.strOf x=S at c;generalize Rd.qf Rd.xB x=C at c;have d:=g.form;clear g j h
 rcases d with rfl|⟨T,y,rfl⟩
 ·go_enter func209,ntmps209
  go_wp2_with (go_at_call 90;refine c.mono ?_;rintro e m ⟨l,v,rfl,b,a,f⟩)
  go_ret2;exact⟨_,_,rfl,b,a,f⟩
 ·go_enter func209,ntmps209
  go_wp2_with (go_at_call 90;refine c.mono ?_;rintro e m ⟨l,v,rfl,b,a,f⟩)
  go_ret2;exact⟨_,_,rfl,b,a,f⟩
theorem MZ{w:World}(k:vv w):Looks 211 (Rd.qj (Rd.ql Rd.short)) (Rd.qf (Rd.zL Rd.short)) w:=by
 intro W x u i g l;have h:∀args w,(callFunc 220 args).run prog w = .ok (.enter 220 args) w:=enters_of func220 (by kernel_rfl) rfl;have c:=Kr x u 220 Rd.short W (k.below l).err h g i (λj s m _=>eF s j m);generalize Rd.qj (Rd.ql Rd.short) x=S at c;generalize Rd.qf (Rd.zL Rd.short) x=C at c;have d:=g.form;clear g i h
 rcases d with rfl|⟨T,y,rfl⟩
 ·go_enter func211,ntmps211
  go_wp2_with (go_at_call 219;refine c.mono ?_;rintro e o ⟨n,v,rfl,b,a,f⟩)
  go_ret2;exact⟨_,_,rfl,b,a,f⟩
 ·go_enter func211,ntmps211
  go_wp2_with (go_at_call 219;refine c.mono ?_;rintro e o ⟨n,v,rfl,b,a,f⟩)
  go_ret2;exact⟨_,_,rfl,b,a,f⟩
theorem rQ{w:World}(k:vv w):Looks 213 (Rd.qj (Rd.ql Ref.qE)) (Rd.qf (Rd.zL Ref.qE)) w:=by
 intro W x u i g l;have h:∀args w,(callFunc 221 args).run prog w = .ok (.enter 221 args) w:=enters_of func221 (by kernel_rfl) rfl;have c:=Kr x u 221 Ref.qE W (k.below l).err h g i (λj s _ _=>eG s j);generalize Rd.qj (Rd.ql Ref.qE) x=S at c;generalize Rd.qf (Rd.zL Ref.qE) x=C at c;have d:=g.form;clear g i h
 rcases d with rfl|⟨T,y,rfl⟩
 ·go_enter func213,ntmps213
  go_wp2_with (go_at_call 219;refine c.mono ?_;rintro e n ⟨m,v,rfl,b,a,f⟩)
  go_ret2;exact⟨_,_,rfl,b,a,f⟩
 ·go_enter func213,ntmps213
  go_wp2_with (go_at_call 219;refine c.mono ?_;rintro e n ⟨m,v,rfl,b,a,f⟩)
  go_ret2;exact⟨_,_,rfl,b,a,f⟩
theorem Ri{w:World}(k:vv w):Looks 215 (Rd.qj (Rd.ql Rd.filled)) (Rd.qf (Rd.zL Rd.filled)) w:=by
 intro W x u i g l;have h:∀args w,(callFunc 225 args).run prog w = .ok (.enter 225 args) w:=enters_of func225 (by kernel_rfl) rfl;have c:=Kr x u 225 Rd.filled W (k.below l).err h g i (λj s m _=>El s j m);generalize Rd.qj (Rd.ql Rd.filled) x=S at c;generalize Rd.qf (Rd.zL Rd.filled) x=C at c;have d:=g.form;clear g i h
 rcases d with rfl|⟨T,y,rfl⟩
 ·go_enter func215,ntmps215
  go_wp2_with (go_at_call 219;refine c.mono ?_;rintro e o ⟨n,v,rfl,b,a,f⟩)
  go_ret2;exact⟨_,_,rfl,b,a,f⟩
 ·go_enter func215,ntmps215
  go_wp2_with (go_at_call 219;refine c.mono ?_;rintro e o ⟨n,v,rfl,b,a,f⟩)
  go_ret2;exact⟨_,_,rfl,b,a,f⟩
theorem om{w:World}:Looks 217 (λ_=>[]) (λx=>if x.isNone then 0 else 1) w:=by
 intro W x u _ a _
 cases x with
 | none=>
  have c:u = .nilIface:=a;subst c;go_enter func217,ntmps217
  go_wp2
  go_ret2;exact⟨_,_,rfl,.inl ⟨rfl,rfl⟩,Below.refl _ _,World.ownsRow_nil _ _ _ _⟩
 | some v=>
  obtain⟨T,y,rfl⟩:=ValAt.iface (show ValAt W (λb=>b<W.heap.size) v u from a)
  clear a;go_enter func217,ntmps217
  go_wp2
  go_ret2;exact⟨_,_,rfl,.inr (.inl ⟨rfl,_,rfl⟩),Below.refl _ _,World.ownsRow_nil _ _ _ _⟩
def Vt(w:World)(x:Option Rd.V)(e:Ending)(a:World):Prop:=∃u,e = .returned (.tuple #[.bool (Rd.uh x),u])/\FV (Rd.cls (Rd.yx x) false) u/\Below w.heap.size w a
theorem Me(x:Option Rd.V)(u:Value)(w:World)(e:OAt w x u):Calls prog 115 #[u] w (Vt w x):=by
 cases x with
 | none=>
  have g:u = .nilIface:=e;subst g;go_enter func115,ntmps115
  go_wp2
  go_ret2;exact⟨_,rfl,.inl ⟨rfl,rfl⟩,Below.refl _ _⟩
 | some v=>
  have h:ValAt w (λb=>b<w.heap.size) v u:=e;clear e
  cases h with
  | word b=>
   have f:=PI;go_enter func115,ntmps115
   go_wp2
   go_ret2;exact⟨_,rfl,.inl ⟨rfl,rfl⟩,Below.refl _ _⟩
  | str s=>
   have f:=PH;go_enter func115,ntmps115
   go_wp2
   go_ret2;exact⟨_,rfl,.inr (.inl ⟨rfl,_,rfl⟩),Below.refl _ _⟩
  | list j i ao cap a c d=>
   clear a c d;have f:=PE;go_enter func115,ntmps115
   go_wp2
   go_ret2;exact⟨_,rfl,.inr (.inl ⟨rfl,_,rfl⟩),Below.refl _ _⟩
  | obj ms i ao cap a c d=>
   clear a c d;have f:=PG;go_enter func115,ntmps115
   go_wp2
   go_ret2;exact⟨_,rfl,.inr (.inl ⟨rfl,_,rfl⟩),Below.refl _ _⟩
end Go.Proofs.YtdakgnaojakldabGreatDoor
