/- P -/
import Derived.Test.YtagnlbgbnfnapaaGreatDoorZ22
open Go.Proofs.Tryz
set_option maxRecDepth 100000
set_option maxHeartbeats 4000000
namespace Go.Proofs.YtagnlbgbnfnapaaGreatDoor
open Go.RowKit Go.Extern.Stop Go.Stop Go.Extern
def Vs(u:Value)(a:TypeId):Prop:=∀(W:World) (t:Addr),xN W->Calls prog 59 #[u,.iface a (.pointer (some t))] W λe b=>e = .returned (.bool false)/\Below W.heap.size W b
def K7(u:Value)(c:TypeId)(n:Nat)(x:Value):Prop:=∀(W:World) (a:Nat),xN W->(∀j,j<n->∃o,W.cell? ⟨a,j,none⟩=some o)->(∀j,j<n->W.frozen? ⟨a,j,none⟩=false) ->
 Calls prog 59 #[u,.iface c (.pointer (some ⟨a,0,none⟩))] W λe b=>e = .returned (.bool true)/\b.cell? ⟨a,0,none⟩=some x/\∀base,base<=a->base<=W.heap.size->Below base W b
theorem Jk(w:World)(a b:Obj):Below w.heap.size w ((w.alloc a).alloc b):=(nB w a).alloc (by simp) b
theorem Yg(T a E:TypeId)(v:Value)(f:kg T a)(d:yX E)(g:uu E)(c:Assign E T false):Vs (.iface E v) a:=λW t h=>
 Yj T a E v t W h f false (λb=>Below W.heap.size W b) (λO=>by
  refine (oQ E T v _ _ _ _ _ d g c).mono ?_;rintro e b ⟨rfl,hb⟩;exact⟨rfl,(Jk W _ O).trans (hb.mono (Jk W _ O).size)⟩)
theorem YY(T a E:TypeId)(n:Int)(v:Value)(g:kg T a)(f:yX E)(h:uu E)(c:Assign 143 T false)(d:Assign E T false):Vs (.iface 143 (.agg #[.int .i64 n,.iface E v])) a:=λW t i=>
 Yj T a _ _ t W i g false (λb=>Below W.heap.size W b) (λO=>by
  refine (Ib E T n v _ _ _ _ _ JS f h c d).mono ?_;rintro e b ⟨rfl,hb⟩;exact⟨rfl,(Jk W _ O).trans (hb.mono (Jk W _ O).size)⟩)
theorem aQ(E a:TypeId)(ok:Value->Prop)(x:Value)(i:kg E a)(m:yX E)(l:Assign E E true)(n:Xu E ok)(s:ok x):K7 (.iface E (.agg #[x])) a 1 x:=λW b r p q=>by
 obtain⟨o,g⟩:=p 0 (by omega);have f:=q 0 (by omega);refine Yj E a E (.agg #[x]) ⟨b,0,none⟩ W r i true (λh=>h.cell? ⟨b,0,none⟩=some x/\∀base,base<=b->base<=W.heap.size->Below base W h) (λO=>?_);refine (oP E a ok x _ o ⟨W.heap.size,0,none⟩ ⟨b,0,none⟩ _ m l i n s (zM (Yk W _ _) O) (zM (zM g _) O) (xZ (zM g _) (xZ g f _) O)).mono ?_;rintro e h ⟨rfl,j,k⟩;refine⟨rfl,j,λbase c d=>?_⟩;exact (((zi base W).alloc d _).alloc (by simp;omega) O).trans (k base c (by simp;omega))
theorem Ea(E a:TypeId)(ok:Value->Prop)(n:Int)(x:Value)(i:kg E a)(m:yX E)(q:Assign 143 E false)(l:Assign E E true)(p:Xu E ok)(u:ok x):K7 (.iface 143 (.agg #[.int .i64 n,.iface E (.agg #[x])])) a 1 x:=λW b t r s=>by
 obtain⟨o,g⟩:=r 0 (by omega);have f:=s 0 (by omega);refine Yj E a _ _ ⟨b,0,none⟩ W t i true (λh=>h.cell? ⟨b,0,none⟩=some x/\∀base,base<=b->base<=W.heap.size->Below base W h) (λO=>?_);refine (Ia E a ok n x _ o ⟨W.heap.size,0,none⟩ ⟨b,0,none⟩ _ JS m q l i p u (zM (Yk W _ _) O) (zM (zM g _) O) (xZ (zM g _) (xZ g f _) O)).mono ?_;rintro e h ⟨rfl,j,k⟩;refine⟨rfl,j,λbase c d=>?_⟩;exact (((zi base W).alloc d _).alloc (by simp;omega) O).trans (k base c (by simp;omega))
theorem za8(E:TypeId)(n:Int)(v:Value):K7 (.iface 143 (.agg #[.int .i64 n,.iface E v])) 217 2 (.int .i64 n):=λW b p j k=>by
 obtain⟨o,h⟩:=j 0 (by omega);obtain⟨q,a⟩:=j 1 (by omega);have f:=k 0 (by omega);have g:=k 1 (by omega);refine Yj 143 217 _ _ ⟨b,0,none⟩ W p Uo true (λi=>i.cell? ⟨b,0,none⟩=some (.int .i64 n)/\∀base,base<=b->base<=W.heap.size->Below base W i) (λO=>?_);refine (Hz 217 E n v _ o q ⟨W.heap.size,0,none⟩ b _ JS mX Uo (zM (Yk W _ _) O) (zM (zM h _) O) (zM (zM a _) O) (xZ (zM h _) (xZ h f _) O) (xZ (zM a _) (xZ a g _) O)).mono ?_;rintro e i ⟨rfl,l,m⟩;refine⟨rfl,l,λbase c d=>?_⟩;exact (((zi base W).alloc d _).alloc (by simp;omega) O).trans (m base c (by simp;omega))
def lN(u EL:Value):Prop:=∀W:World,Calls prog 58 #[u,EL] W λe a=>e = .returned (.bool false)/\Below W.heap.size W a
theorem TK(p:BA)(w:World)(f:xN w) :
  Calls prog 60 #[.iface 129 (.agg #[.string p])] w λe k=>e = .returned (.tuple #[.int .i64 5,.int .i64 0])/\Below w.heap.size w k:=by
 have d:=λi j=>Jk w i j;have c1:=λW t h=>Yg 143 217 129 (.agg #[.string p]) Uo Z4 QG Ep W t h;have c2:=λW t h=>Yg 216 218 129 (.agg #[.string p]) iP Z4 QG mQ W t h;go_enter func60,ntmps60
 go_wp2_with (first
  | (go_at_call 59;refine (c2 g _ (f.below a)).mono ?_;rintro e l ⟨rfl,c⟩)
  | (go_at_call 59;refine (c1 _ _ (f.below (d _ _))).mono ?_;rintro e g ⟨rfl,b⟩;have a:Below w.heap.size w g:=(d _ _).trans (b.mono (by simp;omega))))
 go_ret2;exact⟨rfl,a.trans (c.mono a.size)⟩
theorem XK{W:World}{cs:Array Value}{t:TypeId}{b:Nat}(h:W.heap[b]?=some (.cells cs t (0,0)))(n:Nat)(c:n<=cs.size):(∀j,j<n->∃o,W.cell? ⟨b,j,none⟩=some o)/\(∀j,j<n->W.frozen? ⟨b,j,none⟩=false):=by
 refine⟨λj a=>⟨cs[j]'(by omega),?_⟩,λj _=>(zf h j).2⟩;rw[(zf h j).1];exact Array.getElem?_eq_getElem (by omega)
theorem HY(r E:TypeId)(n:Int)(v i p q:Value)(a:Addr)(c:Nat)(w:World)(l:yX 143)(k:Assign 143 143 true)(m:kg 143 r)
  (o:w.cell? a=some (.pointer (some ⟨c,0,none⟩)))(f:w.cell? ⟨c,0,none⟩=some p)(h:w.cell? ⟨c,1,none⟩=some q)(f1:w.frozen? ⟨c,0,none⟩=false)(f2:w.frozen? ⟨c,1,none⟩=false) :
  Calls prog 107 #[.iface 143 (.agg #[.int .i64 n,.iface E v]),i,.agg #[.pointer (some ⟨7,r,none⟩),.pointer (some a),.int .u64 150],.iface 289 (.agg #[.pointer (some ⟨7,143,none⟩)])] w λe j=>
   e = .returned (.bool true)/\j.cell? ⟨c,0,none⟩=some (.int .i64 n)/\(∀base,base<=c->base<=w.heap.size->Below base w j)/\∀b,b<w.heap.size->b≠c->j.heap[b]?=w.heap[b]?:=by
 have t:=@xm prog 102 _ ReflectliteType.typeOf func102 (by kernel_rfl) (by kernel_rfl) (by kernel_rfl) (by kernel_rfl)
 have y:=@xm prog 299 _ (ReflectliteType.relation "AssignableTo" ReflectliteType.assignableTo) func299 (by kernel_rfl) (by kernel_rfl) (by kernel_rfl) (by kernel_rfl)
 have B:=@xm prog 104 _ (λargs=>ReflectliteValue.unpack (args.getD 0 (.tuple #[]))) func104 (by kernel_rfl) (by kernel_rfl) (by kernel_rfl) (by kernel_rfl)
 have u:=@xm prog 153 _ (ReflectliteValue.method (ReflectliteValue.valueError "reflectlite.Value.Elem" 0) ReflectliteValue.elem) func153 (by kernel_rfl) (by kernel_rfl) (by kernel_rfl) (by kernel_rfl)
 have x:=@xm prog 154 _ ReflectliteValue.set func154 (by kernel_rfl) (by kernel_rfl) (by kernel_rfl) (by kernel_rfl);have F:=l.typeOf;have C:=Tryz.erAssignableTo;have s:=k;unfold Assign at s;have G:=λw=>Tryz.stHeld n (.iface E v) w;have A:=λO=>m.elemV a ⟨c,0,none⟩ (w.alloc O) (zM o O);have D:=λO=>Tryz.stSet c (w.heap.size+1) n E v p q ((w.alloc O).alloc (.cells #[.int .i64 n,.iface E v] 143)) (by rw[JE _ _ _ _ (by simp)];rfl) (by rw[JE _ _ _ _ (by simp)];rfl) (zM (zM f O) _) (zM (zM h O) _) (xZ (zM f O) (xZ f f1 O) _) (xZ (zM h O) (xZ h f2 O) _);have fin:=λO=>(xW (((w.alloc O).alloc (.cells #[.int .i64 n,.iface E v] 143)).setCell ⟨c,0,none⟩ (.int .i64 n)) ⟨c,1,none⟩ ⟨c,0,none⟩ (.iface E v) (by simp)).trans (Zx ((w.alloc O).alloc (.cells #[.int .i64 n,.iface E v] 143)) ⟨c,0,none⟩ (.int .i64 n) (zM (zM f O) (.cells #[.int .i64 n,.iface E v] 143)));clear k m o l;go_enter func107,ntmps107
 go_wp2
 refine YG 1 ?_;rw[QK]
 go_wp2
 go_ret;refine⟨rfl,fin _,λbase d g=>?_,λb hb z=>?_⟩
 ·exact ((((zi base w).alloc g _).alloc (by simp;omega) _).setCell d _).setCell d _
 ·rw[X7 _ _ _ _ (by simp only;omega),X7 _ _ _ _ (by simp only;omega),Xn _ _ _ (by simp;omega),Xn _ _ _ hb]
theorem mH(E:TypeId)(n:Int)(v:Value)(W:World)(a:Nat)(t:xN W)(m:∀j,j<2->∃o,W.cell? ⟨a,j,none⟩=some o)(p:∀j,j<2->W.frozen? ⟨a,j,none⟩=false) :
  Calls prog 59 #[.iface 143 (.agg #[.int .i64 n,.iface E v]),.iface 217 (.pointer (some ⟨a,0,none⟩))] W λe c=>e = .returned (.bool true)/\c.cell? ⟨a,0,none⟩=some (.int .i64 n)/\(∀base,base<=a->base<=W.heap.size->Below base W c)/\∀b,b<W.heap.size->b≠a->c.heap[b]?=W.heap[b]?:=by
 obtain⟨o,l⟩:=m 0 (by omega);obtain⟨u,d⟩:=m 1 (by omega);have h:=p 0 (by omega);have i:=p 1 (by omega);refine Yj 143 217 _ _ ⟨a,0,none⟩ W t Uo true (λc=>c.cell? ⟨a,0,none⟩=some (.int .i64 n)/\(∀base,base<=a->base<=W.heap.size->Below base W c)/\∀b,b<W.heap.size->b≠a->c.heap[b]?=W.heap[b]?) (λO=>?_);refine (HY 217 E n v _ o u ⟨W.heap.size,0,none⟩ a _ JS mX Uo (zM (Yk W _ _) O) (zM (zM l _) O) (zM (zM d _) O) (xZ (zM l _) (xZ l h _) O) (xZ (zM d _) (xZ d i _) O)).mono ?_;rintro e c ⟨rfl,q,r,s⟩;refine⟨rfl,q,λbase f g=>?_,λb hb k=>?_⟩
 ·exact (((zi base W).alloc g _).alloc (by simp;omega) O).trans (r base f (by simp;omega))
 ·rw[s b (by simp;omega) k,Xn _ _ _ (by simp;omega),Xn _ _ _ hb]
theorem TN(n:Nat)(p:BA)(w:World)(g:xN w) :
  Calls prog 60 #[.iface 143 (.agg #[.int .i64 (n:Int),.iface 129 (.agg #[.string p])])] w λe r=>e = .returned (.tuple #[.int .i64 5,.int .i64 (n:Int)])/\Below w.heap.size w r:=by
 have f:=λk b=>Jk w k b;have c1:=λW q h l m=>mH 129 (n:Int) (.agg #[.string p]) W q h l m;have c2:=λW t h=>YY 216 218 129 (n:Int) (.agg #[.string p]) iP Z4 QG mW mQ W t h;have i:=λb=>XK (X6 w (.cells #[.int .i64 0,.nilIface] 143) b).1 2 (by decide);go_enter func60,ntmps60
 go_wp2_with (first
  | (go_at_call 59;refine (c2 j _ (g.below a)).mono ?_;rintro e s ⟨rfl,d⟩)
  | (go_at_call 59;refine (c1 _ w.heap.size (g.below (f _ _)) (i _).1 (i _).2).mono ?_;rintro e j ⟨rfl,o,c,_⟩;have a:Below w.heap.size w j:=(f _ _).trans (c _ (ze _) (by simp;omega))))
 go_ret2;exact⟨rfl,a.trans (d.mono a.size)⟩
theorem TM(n:Nat)(k:Int)(w:World)(m:xN w) :
  Calls prog 60 #[.iface 143 (.agg #[.int .i64 (n:Int),.iface 216 (.agg #[.int .i64 k])])] w λe v=>e = .returned (.tuple #[.int .i64 6,.int .i64 (n:Int)])/\Below w.heap.size w v:=by
 have l:=λr b=>Jk w r b;have c1:=λW j h c d=>mH 216 (n:Int) (.agg #[.int .i64 k]) W j h c d;have c2:=λW j h c d=>Ea 216 218 _ (n:Int) (.int .i64 k) iP JR mW Ej Md ⟨k,rfl⟩ W j h c d;have o:=λb=>XK (X6 w (.cells #[.int .i64 0,.nilIface] 143) b).1 2 (by decide);have u:=(X6 w (.cells #[.int .i64 0,.nilIface] 143) (.cells #[.int .i64 0] 216)).2;go_enter func60,ntmps60
 go_wp2_with (first
  | (go_at_call 59;refine (c2 q (w.heap.size+1) (m.below a) p.1 p.2).mono ?_;rintro e x ⟨rfl,t,g⟩)
  | (go_at_call 59;refine (c1 _ w.heap.size (m.below (l _ _)) (o _).1 (o _).2).mono ?_;rintro e q ⟨rfl,s,f,i⟩;have a:Below w.heap.size w q:=(l _ _).trans (f _ (ze _) (by simp;omega));have p:=XK ((i (w.heap.size+1) (by simp) (by omega)).trans u) 1 (by decide)))
 go_ret2;exact⟨rfl,a.trans (g _ (by omega) a.size)⟩
theorem Hu(b:Addr)(w:World) :
  Calls prog 58 #[.iface 414 (.pointer (some b)),.iface 414 (.pointer (some b))] w λe g=>e = .returned (.bool true)/\g=w:=by
 have n:=@xm prog 102 _ ReflectliteType.typeOf func102 (by kernel_rfl) (by kernel_rfl) (by kernel_rfl) (by kernel_rfl);have p:=Tryz.erTypeLong;have o:=Tryz.erComparable
 have m:=@xm prog 300 _ (ReflectliteType.method (λt=>do Rtype.noPackHeld "Comparable" t;pure (.bool (<- typeInfo t).comparable))) func300 (by kernel_rfl) (by kernel_rfl) (by kernel_rfl) (by kernel_rfl)
 have k:=Tryz.erComparableLong
 obtain⟨i,hi,a⟩:∃i,prog.info? 414=some i/\i.comparable=true:=by
  have h:(prog.info? 414).map (·.comparable)=some true:=by kernel_rfl
  obtain⟨i,d,f⟩:=vR.1 h;exact⟨i,d,f⟩
 obtain⟨j,c⟩:∃j,prog.info? 433=some j:=by
  have h:(prog.info? 433).isSome=true:=by kernel_rfl
  exact aH.1 h
 have l:=λW=>run_eql_iface_ptr_same (P:=prog) (w:=W) b underlying86 underlying414 hi a c;clear hi a c;go_enter func58,ntmps58
 go_wp2
 refine YG 1 ?_;rw[QK]
 go_wp2
 go_ret;exact⟨rfl,rfl⟩
theorem zaE(w:World)(a b c:Obj):Below w.heap.size w (((w.alloc a).alloc b).alloc c)/\(((w.alloc a).alloc b).alloc c).heap[w.heap.size]?=some a/\(((w.alloc a).alloc b).alloc c).heap[w.heap.size+1]?=some b/\(((w.alloc a).alloc b).alloc c).heap[w.heap.size+2]?=some c:=by
 refine⟨((nB _ _).alloc (by simp) _).alloc (by simp;omega) _,?_,?_,?_⟩
 ·rw[Xn _ _ _ (by simp;omega)];exact (X6 w a b).1
 ·rw[Xn _ _ _ (by simp)];exact (X6 w a b).2
 ·have h:=zL ((w.alloc a).alloc b) c;rw[JG,JG] at h;exact h
theorem boxes(w:World):Below w.heap.size w (((w.alloc (.cells #[.int .i64 0] 145)).alloc (.cells #[.int .i64 0] 146)).alloc (.cells #[.int .i64 0] 147)) /\
  (((w.alloc (.cells #[.int .i64 0] 145)).alloc (.cells #[.int .i64 0] 146)).alloc (.cells #[.int .i64 0] 147)).heap[w.heap.size]?=some (.cells #[.int .i64 0] 145) /\
  (((w.alloc (.cells #[.int .i64 0] 145)).alloc (.cells #[.int .i64 0] 146)).alloc (.cells #[.int .i64 0] 147)).heap[w.heap.size+1]?=some (.cells #[.int .i64 0] 146) /\
  (((w.alloc (.cells #[.int .i64 0] 145)).alloc (.cells #[.int .i64 0] 146)).alloc (.cells #[.int .i64 0] 147)).heap[w.heap.size+2]?=some (.cells #[.int .i64 0] 147):=zaE w _ _ _
theorem bX(E:TypeId)(v EL:Value)(y:TypeId)(G:Value)(i:EL = .iface y G)(c:Int)(q:Nat)(w:World)(u:xN w)(x:w.cell? ⟨0,0,none⟩=some EL)(z:lN (.iface E v) EL)(C:Vs (.iface E v) 150)(D:Vs (.iface E v) 151)(F:Vs (.iface E v) 152)
  (B:∀W,xN W->Calls prog 60 #[.iface E v] W λe o=>e = .returned (.tuple #[.int .i64 c,.int .i64 (q:Int)])/\Below W.heap.size W o) :
  Calls prog 26 #[.iface E v] w λe o=>e = .returned (.tuple #[.int .i64 c,.int .i64 (q:Int)])/\Below w.heap.size w o:=by
 obtain⟨h,_,_,_⟩:=boxes w;have A:=zh h x;have g:∀W,Below w.heap.size w W->xN W:=λW hb=>u.below hb;subst i;clear u x;go_enter func26,ntmps26
 go_wp2_with (first
  | (go_at_call 60;refine (B t (g t f)).mono ?_;rintro e H ⟨rfl,n⟩)
  | (go_at_call 59;refine (F s _ (g s d)).mono ?_;rintro e t ⟨rfl,m⟩;have f:Below w.heap.size w t:=d.trans (m.mono d.size))
  | (go_at_call 59;refine (D r _ (g r b)).mono ?_;rintro e s ⟨rfl,l⟩;have d:Below w.heap.size w s:=b.trans (l.mono b.size))
  | (go_at_call 59;refine (C p _ (g p a)).mono ?_;rintro e r ⟨rfl,k⟩;have b:Below w.heap.size w r:=a.trans (k.mono a.size))
  | (go_at_call 58;refine (z _).mono ?_;rintro e p ⟨rfl,j⟩;have a:Below w.heap.size w p:=h.trans (j.mono h.size)))
 go_ret2;exact⟨rfl,f.trans (n.mono f.size)⟩
theorem Ka(E:TypeId)(v:Value)(a:Addr)(b:yX E)(c:uu E):lN (.iface E v) (.iface 414 (.pointer (some a))):=λW=>by
 refine (Hw E v a W b c).mono ?_;rintro e d ⟨rfl,rfl⟩;exact⟨rfl,zi _ _⟩
theorem Ig(w:World):Calls prog 26 #[.nilIface] w λe b=>e = .returned (.tuple #[.int .i64 0,.int .i64 0])/\Below w.heap.size w b:=by
 obtain⟨a,_,_,_⟩:=boxes w;go_enter func26,ntmps26
 go_wp2
 go_ret2;exact⟨rfl,a⟩
theorem Ie(a:Addr)(w:World)(c:w.cell? ⟨0,0,none⟩=some (.iface 414 (.pointer (some a)))):Calls prog 26 #[.iface 414 (.pointer (some a))] w λe f=>e = .returned (.tuple #[.int .i64 1,.int .i64 0])/\Below w.heap.size w f:=by
 obtain⟨b,_,_,_⟩:=boxes w;have d:=zh b c;clear c;go_enter func26,ntmps26
 go_wp2_with (go_at_call 58;refine (Hu a _).mono ?_;rintro e g ⟨rfl,rfl⟩)
 go_ret2;exact⟨rfl,b⟩
theorem Ii(k:Int)(j:Addr)(w:World)(l:xN w)(m:w.cell? ⟨0,0,none⟩=some (.iface 414 (.pointer (some j)))) :
  Calls prog 26 #[.iface 145 (.agg #[.int .i64 k])] w λe u=>e = .returned (.tuple #[.int .i64 2,.int .i64 k])/\Below w.heap.size w u:=by
 obtain⟨g,n,t,q2⟩:=boxes w;have r:=zh g m;have o:∀W,Below w.heap.size w W->xN W:=λW hb=>l.below hb;have q:=Ka 145 (.agg #[.int .i64 k]) j oU OJ;have p:=aQ 145 150 _ (.int .i64 k) Vq oU Er Mf ⟨k,rfl⟩;have s:=n;clear l m n t q2;go_enter func26,ntmps26
 go_wp2_with (first
  | (go_at_call 59;refine (p f (w.heap.size) (o f b) (XK d 1 (by decide)).1 (XK d 1 (by decide)).2).mono ?_;rintro e y ⟨rfl,x,i⟩)
  | (go_at_call 58;refine (q _).mono ?_;rintro e f ⟨rfl,a⟩;have b:Below w.heap.size w f:=g.trans (a.mono g.size);have d:=(a.block (w.heap.size) (by first|(simp;done)|(simp;omega))).trans s;have v:w.heap.size+3<=f.heap.size:=(by have:=a.size;simp at this;omega)))
 go_quiet (fail)
 go_wp2
 go_ret2;have c:=i w.heap.size (by omega) (b.size);refine⟨rfl,?_⟩;have h:=b.trans c;exact⟨h.os,h.tape,h.output,h.size,h.block⟩
theorem Ic(k:Int)(p:Addr)(w:World)(r:xN w)(s:w.cell? ⟨0,0,none⟩=some (.iface 414 (.pointer (some p)))) :
  Calls prog 26 #[.iface 146 (.agg #[.int .i64 k])] w λe C=>e = .returned (.tuple #[.int .i64 3,.int .i64 k])/\Below w.heap.size w C:=by
 obtain⟨l,B,u,q2⟩:=boxes w;have y:=zh l s;have q:∀W,Below w.heap.size w W->xN W:=λW hb=>r.below hb;have x:=Ka 146 (.agg #[.int .i64 k]) p bU wu;have A:=λW t h=>Yg 145 150 146 (.agg #[.int .i64 k]) Vq bU wu Eh W t h;have v:=aQ 146 151 _ (.int .i64 k) Un bU Eg Mc ⟨k,rfl⟩;have z:=u;clear r s B u q2;go_enter func26,ntmps26
 go_wp2_with (first
  | (go_at_call 59;refine (v j (w.heap.size+1) (q j d) (XK g 1 (by decide)).1 (XK g 1 (by decide)).2).mono ?_;rintro e F ⟨rfl,E,m⟩)
  | (go_at_call 59;refine (A i _ (q i c)).mono ?_;rintro e j ⟨rfl,b⟩;have d:Below w.heap.size w j:=c.trans (b.mono c.size);have g:=(b.block (w.heap.size+1) (by have:=c.size;have:=o;omega)).trans n;have D:w.heap.size+3<=j.heap.size:=(by have:=b.size;omega))
  | (go_at_call 58;refine (x _).mono ?_;rintro e i ⟨rfl,a⟩;have c:Below w.heap.size w i:=l.trans (a.mono l.size);have n:=(a.block (w.heap.size+1) (by first|(simp;done)|(simp;omega))).trans z;have o:w.heap.size+3<=i.heap.size:=(by have:=a.size;simp at this;omega)))
 go_quiet (fail)
 go_wp2
 go_ret2;have f:=m w.heap.size (by omega) (d.size);refine⟨rfl,?_⟩;have h:=d.trans f;exact⟨h.os,h.tape,h.output,h.size,h.block⟩
theorem Ij(k:Int)(x:Addr)(w:World)(y:xN w)(z:w.cell? ⟨0,0,none⟩=some (.iface 414 (.pointer (some x)))) :
  Calls prog 26 #[.iface 147 (.agg #[.int .i64 k])] w λe I=>e = .returned (.tuple #[.int .i64 4,.int .i64 k])/\Below w.heap.size w I:=by
 obtain⟨o,G,H,q2⟩:=boxes w;have C:=zh o z;have p:∀W,Below w.heap.size w W->xN W:=λW hb=>y.below hb;have B:=Ka 147 (.agg #[.int .i64 k]) x U3 fV;have E:=λW t h=>Yg 145 150 147 (.agg #[.int .i64 k]) Vq U3 fV Et W t h;have F:=λW t h=>Yg 146 151 147 (.agg #[.int .i64 k]) Un U3 fV Es W t h;have A:=aQ 147 152 _ (.int .i64 k) KW U3 Eu Mg ⟨k,rfl⟩;have D:=q2;clear y z G H q2;go_enter func26,ntmps26
 go_wp2_with (first
  | (go_at_call 59;refine (A n (w.heap.size+2) (p n g) (XK j 1 (by decide)).1 (XK j 1 (by decide)).2).mono ?_;rintro e L ⟨rfl,K,q⟩)
  | (go_at_call 59;refine (F m _ (p m f)).mono ?_;rintro e n ⟨rfl,c⟩;have g:Below w.heap.size w n:=f.trans (c.mono f.size);have j:=(c.block (w.heap.size+2) (by have:=f.size;have:=v;omega)).trans s;have J:w.heap.size+3<=n.heap.size:=(by have:=c.size;omega))
  | (go_at_call 59;refine (E l _ (p l d)).mono ?_;rintro e m ⟨rfl,b⟩;have f:Below w.heap.size w m:=d.trans (b.mono d.size);have s:=(b.block (w.heap.size+2) (by have:=d.size;have:=u;omega)).trans r;have v:w.heap.size+3<=m.heap.size:=(by have:=b.size;omega))
  | (go_at_call 58;refine (B _).mono ?_;rintro e l ⟨rfl,a⟩;have d:Below w.heap.size w l:=o.trans (a.mono o.size);have r:=(a.block (w.heap.size+2) (by first|(simp;done)|(simp;omega))).trans D;have u:w.heap.size+3<=l.heap.size:=(by have:=a.size;simp at this;omega)))
 go_quiet (fail)
 go_wp2
 go_ret2;have i:=q w.heap.size (by omega) (g.size);refine⟨rfl,?_⟩;have h:=g.trans i;exact⟨h.os,h.tape,h.output,h.size,h.block⟩
theorem Ih(c:Int)(q:Nat)(u:Value)(a:Addr)(w:World)(d:xN w)(b:w.cell? ⟨0,0,none⟩=some (.iface 414 (.pointer (some a))))(h:QR (.iface 414 (.pointer (some a))) c q u) :
  Calls prog 26 #[u] w λe i=>e = .returned (.tuple #[.int .i64 c,.int .i64 (q:Int)])/\Below w.heap.size w i:=by
 cases h with
 | ok=>exact Ig w
 | long=>exact Ie a w b
 | text _ _ g=>
  rcases g with rfl|rfl|rfl
  ·exact Ii _ a w d b
  ·exact Ic _ a w d b
  ·exact Ij _ a w d b
 | doc p=>
  exact bX _ _ _ _ _ rfl 5 0 w d b (Ka _ _ a Z4 QG) (Yg _ _ _ _ Vq Z4 QG mR) (Yg _ _ _ _ Un Z4 QG mP) (Yg _ _ _ _ KW Z4 QG mU) (λW f=>TK p W f)
 | shape n p=>
  exact bX _ _ _ _ _ rfl 5 q w d b (λW=>oO _ _ _ a W JS Z4 QG) (YY _ _ _ _ _ Vq Z4 QG mY mR) (YY _ _ _ _ _ Un Z4 QG mV mP) (YY _ _ _ _ _ KW Z4 QG mZ mU) (λW f=>TN q p W f)
 | pat n k=>
  exact bX _ _ _ _ _ rfl 6 q w d b (λW=>oO _ _ _ a W JS JR V5) (YY _ _ _ _ _ Vq JR V5 mY Em) (YY _ _ _ _ _ Un JR V5 mV Ei) (YY _ _ _ _ _ KW JR V5 mZ En) (λW f=>TM q k W f)
structure Qh (w:World) (aL:Addr):Prop where
 q:XB w (.iface 414 (.pointer (some aL)))
theorem Qh.below{w b:World}{a:Addr}(h:Qh w a)(hb:Below w.heap.size w b):Qh b a:=⟨h.q.below hb⟩
end Go.Proofs.YtagnlbgbnfnapaaGreatDoor
