/- P -/
import Derived.Test.YtdakgnaojakldaaGreatDoorS23
open Go.Proofs.Tryz
set_option maxRecDepth 100000
set_option maxHeartbeats 4000000
namespace Go.Proofs.YtdakgnaojakldaaGreatDoor
open Go.RowKit Go.Extern.Stop Go.Stop Go.Extern
def Xm(u:Value)(a:TypeId):Prop:=∀(W:World) (t:Addr),qC W->Calls prog 57 #[u,.iface a (.pointer (some t))] W λe b=>e = .returned (.bool false)/\Below W.heap.size W b
def UI(u:Value)(c:TypeId)(n:Nat)(x:Value):Prop:=∀(W:World) (a:Nat),qC W->(∀j,j<n->∃o,W.cell? ⟨a,j,none⟩=some o)->(∀j,j<n->W.frozen? ⟨a,j,none⟩=false) ->
 Calls prog 57 #[u,.iface c (.pointer (some ⟨a,0,none⟩))] W λe b=>e = .returned (.bool true)/\b.cell? ⟨a,0,none⟩=some x/\∀base,base<=a->base<=W.heap.size->Below base W b
theorem QB(w:World)(a b:Obj):Below w.heap.size w ((w.alloc a).alloc b):=(nb w a).alloc (by simp) b
theorem ZC(T a E:TypeId)(v:Value)(f:jG T a)(d:xL E)(g:yS E)(c:Assign E T false):Xm (.iface E v) a:=λW t h=>
 Qm T a E v t W h f false (λb=>Below W.heap.size W b) (λO=>by
  refine (aa E T v _ _ _ _ _ d g c).mono ?_;rintro e b ⟨rfl,hb⟩;exact⟨rfl,(QB W _ O).trans (hb.mono (QB W _ O).size)⟩)
theorem Qg(T a E:TypeId)(n:Int)(v:Value)(g:jG T a)(f:xL E)(h:yS E)(c:Assign 138 T false)(d:Assign E T false):Xm (.iface 138 (.agg #[.int .i64 n,.iface E v])) a:=λW t i=>
 Qm T a _ _ t W i g false (λb=>Below W.heap.size W b) (λO=>by
  refine (rU E T n v _ _ _ _ _ XM f h c d).mono ?_;rintro e b ⟨rfl,hb⟩;exact⟨rfl,(QB W _ O).trans (hb.mono (QB W _ O).size)⟩)
theorem JH(E a:TypeId)(ok:Value->Prop)(x:Value)(i:jG E a)(m:xL E)(l:Assign E E true)(n:kR E ok)(s:ok x):UI (.iface E (.agg #[x])) a 1 x:=λW b r p q=>by
 obtain⟨o,g⟩:=p 0 (by omega);have f:=q 0 (by omega);refine Qm E a E (.agg #[x]) ⟨b,0,none⟩ W r i true (λh=>h.cell? ⟨b,0,none⟩=some x/\∀base,base<=b->base<=W.heap.size->Below base W h) (λO=>?_);refine (K9 E a ok x _ o ⟨W.heap.size,0,none⟩ ⟨b,0,none⟩ _ m l i n s (zB (Qn W _ _) O) (zB (zB g _) O) (yw (zB g _) (yw g f _) O)).mono ?_;rintro e h ⟨rfl,j,k⟩;refine⟨rfl,j,λbase c d=>?_⟩;exact (((Below.refl base W).alloc d _).alloc (by simp;omega) O).trans (k base c (by simp;omega))
theorem lV(E a:TypeId)(ok:Value->Prop)(n:Int)(x:Value)(i:jG E a)(m:xL E)(q:Assign 138 E false)(l:Assign E E true)(p:kR E ok)(u:ok x):UI (.iface 138 (.agg #[.int .i64 n,.iface E (.agg #[x])])) a 1 x:=λW b t r s=>by
 obtain⟨o,g⟩:=r 0 (by omega);have f:=s 0 (by omega);refine Qm E a _ _ ⟨b,0,none⟩ W t i true (λh=>h.cell? ⟨b,0,none⟩=some x/\∀base,base<=b->base<=W.heap.size->Below base W h) (λO=>?_);refine (rT E a ok n x _ o ⟨W.heap.size,0,none⟩ ⟨b,0,none⟩ _ XM m q l i p u (zB (Qn W _ _) O) (zB (zB g _) O) (yw (zB g _) (yw g f _) O)).mono ?_;rintro e h ⟨rfl,j,k⟩;refine⟨rfl,j,λbase c d=>?_⟩;exact (((Below.refl base W).alloc d _).alloc (by simp;omega) O).trans (k base c (by simp;omega))
def UN(u EL:Value):Prop:=∀W:World,Calls prog 56 #[u,EL] W λe a=>e = .returned (.bool false)/\Below W.heap.size W a
theorem Ij(p:BY)(w:World)(f:qC w) :
  Calls prog 58 #[.iface 125 (.agg #[.string p])] w λe k=>e = .returned (.tuple #[.int .i64 5,.int .i64 0])/\Below w.heap.size w k:=by
 have d:=λi j=>QB w i j;have c1:=λW t h=>ZC 138 229 125 (.agg #[.string p]) Uy vN uy mr W t h;have c2:=λW t h=>ZC 228 230 125 (.agg #[.string p]) Uw vN uy U2 W t h;go_enter func58,ntmps58
 go_wp2_with (first
  | (go_at_call 57;refine (c2 g _ (f.below a)).mono ?_;rintro e l ⟨rfl,c⟩)
  | (go_at_call 57;refine (c1 _ _ (f.below (d _ _))).mono ?_;rintro e g ⟨rfl,b⟩;have a:Below w.heap.size w g:=(d _ _).trans (b.mono (by simp;omega))))
 go_ret2;exact⟨rfl,a.trans (c.mono a.size)⟩
theorem Zg{W:World}{cs:Array Value}{t:TypeId}{b:Nat}(h:W.heap[b]?=some (.cells cs t (0,0)))(n:Nat)(c:n<=cs.size):(∀j,j<n->∃o,W.cell? ⟨b,j,none⟩=some o)/\(∀j,j<n->W.frozen? ⟨b,j,none⟩=false):=by
 refine⟨λj a=>⟨cs[j]'(by omega),?_⟩,λj _=>(ze h j).2⟩;rw[(ze h j).1];exact Array.getElem?_eq_getElem (by omega)
theorem rR(r E:TypeId)(n:Int)(v i p q:Value)(a:Addr)(c:Nat)(w:World)(l:xL 138)(k:Assign 138 138 true)(m:jG 138 r)
  (o:w.cell? a=some (.pointer (some ⟨c,0,none⟩)))(f:w.cell? ⟨c,0,none⟩=some p)(h:w.cell? ⟨c,1,none⟩=some q)(f1:w.frozen? ⟨c,0,none⟩=false)(f2:w.frozen? ⟨c,1,none⟩=false) :
  Calls prog 108 #[.iface 138 (.agg #[.int .i64 n,.iface E v]),i,.agg #[.pointer (some ⟨7,r,none⟩),.pointer (some a),.int .u64 150],.iface 283 (.agg #[.pointer (some ⟨7,138,none⟩)])] w λe j=>
   e = .returned (.bool true)/\j.cell? ⟨c,0,none⟩=some (.int .i64 n)/\(∀base,base<=c->base<=w.heap.size->Below base w j)/\∀b,b<w.heap.size->b≠c->j.heap[b]?=w.heap[b]?:=by
 have t:=@run_callFunc_extern prog 103 _ ReflectliteType.typeOf func103 (by kernel_rfl) (by kernel_rfl) (by kernel_rfl) (by kernel_rfl)
 have y:=@run_callFunc_extern prog 306 _ (ReflectliteType.relation "AssignableTo" ReflectliteType.assignableTo) func306 (by kernel_rfl) (by kernel_rfl) (by kernel_rfl) (by kernel_rfl)
 have B:=@run_callFunc_extern prog 105 _ (λargs=>ReflectliteValue.unpack (args.getD 0 (.tuple #[]))) func105 (by kernel_rfl) (by kernel_rfl) (by kernel_rfl) (by kernel_rfl)
 have u:=@run_callFunc_extern prog 156 _ (ReflectliteValue.method (ReflectliteValue.valueError "reflectlite.Value.Elem" 0) ReflectliteValue.elem) func156 (by kernel_rfl) (by kernel_rfl) (by kernel_rfl) (by kernel_rfl)
 have x:=@run_callFunc_extern prog 157 _ ReflectliteValue.set func157 (by kernel_rfl) (by kernel_rfl) (by kernel_rfl) (by kernel_rfl);have F:=l.typeOf;have C:=Tryz.erAssignableTo;have s:=k;unfold Assign at s;have G:=λw=>Tryz.stHeld n (.iface E v) w;have A:=λO=>m.elemV a ⟨c,0,none⟩ (w.alloc O) (zB o O);have D:=λO=>Tryz.stSet c (w.heap.size+1) n E v p q ((w.alloc O).alloc (.cells #[.int .i64 n,.iface E v] 138)) (by rw[World.cell?_alloc_at _ _ _ _ (by simp)];rfl) (by rw[World.cell?_alloc_at _ _ _ _ (by simp)];rfl) (zB (zB f O) _) (zB (zB h O) _) (yw (zB f O) (yw f f1 O) _) (yw (zB h O) (yw h f2 O) _);have fin:=λO=>(World.cell?_setCell_other (((w.alloc O).alloc (.cells #[.int .i64 n,.iface E v] 138)).setCell ⟨c,0,none⟩ (.int .i64 n)) ⟨c,1,none⟩ ⟨c,0,none⟩ (.iface E v) (by simp)).trans (World.cell?_setCell_same ((w.alloc O).alloc (.cells #[.int .i64 n,.iface E v] 138)) ⟨c,0,none⟩ (.int .i64 n) (zB (zB f O) (.cells #[.int .i64 n,.iface E v] 138)));clear k m o l;go_enter func108,ntmps108
 go_wp2
 refine wp_loop_rounds 1 ?_;rw[rounds_succ]
 go_wp2
 go_ret;refine⟨rfl,fin _,λbase d g=>?_,λb hb z=>?_⟩
 ·exact ((((Below.refl base w).alloc g _).alloc (by simp;omega) _).setCell d _).setCell d _
 ·rw[Below.heap_setCell _ _ _ _ (by simp only;omega),Below.heap_setCell _ _ _ _ (by simp only;omega),Below.heap_alloc _ _ _ (by simp;omega),Below.heap_alloc _ _ _ hb]
theorem U0(E:TypeId)(n:Int)(v:Value)(W:World)(a:Nat)(t:qC W)(m:∀j,j<2->∃o,W.cell? ⟨a,j,none⟩=some o)(p:∀j,j<2->W.frozen? ⟨a,j,none⟩=false) :
  Calls prog 57 #[.iface 138 (.agg #[.int .i64 n,.iface E v]),.iface 229 (.pointer (some ⟨a,0,none⟩))] W λe c=>e = .returned (.bool true)/\c.cell? ⟨a,0,none⟩=some (.int .i64 n)/\(∀base,base<=a->base<=W.heap.size->Below base W c)/\∀b,b<W.heap.size->b≠a->c.heap[b]?=W.heap[b]?:=by
 obtain⟨o,l⟩:=m 0 (by omega);obtain⟨u,d⟩:=m 1 (by omega);have h:=p 0 (by omega);have i:=p 1 (by omega);refine Qm 138 229 _ _ ⟨a,0,none⟩ W t Uy true (λc=>c.cell? ⟨a,0,none⟩=some (.int .i64 n)/\(∀base,base<=a->base<=W.heap.size->Below base W c)/\∀b,b<W.heap.size->b≠a->c.heap[b]?=W.heap[b]?) (λO=>?_);refine (rR 229 E n v _ o u ⟨W.heap.size,0,none⟩ a _ XM mD Uy (zB (Qn W _ _) O) (zB (zB l _) O) (zB (zB d _) O) (yw (zB l _) (yw l h _) O) (yw (zB d _) (yw d i _) O)).mono ?_;rintro e c ⟨rfl,q,r,s⟩;refine⟨rfl,q,λbase f g=>?_,λb hb k=>?_⟩
 ·exact (((Below.refl base W).alloc g _).alloc (by simp;omega) O).trans (r base f (by simp;omega))
 ·rw[s b (by simp;omega) k,Below.heap_alloc _ _ _ (by simp;omega),Below.heap_alloc _ _ _ hb]
theorem Il(n:Nat)(p:BY)(w:World)(g:qC w) :
  Calls prog 58 #[.iface 138 (.agg #[.int .i64 (n:Int),.iface 125 (.agg #[.string p])])] w λe r=>e = .returned (.tuple #[.int .i64 5,.int .i64 (n:Int)])/\Below w.heap.size w r:=by
 have f:=λk b=>QB w k b;have c1:=λW q h l m=>U0 125 (n:Int) (.agg #[.string p]) W q h l m;have c2:=λW t h=>Qg 228 230 125 (n:Int) (.agg #[.string p]) Uw vN uy U6 U2 W t h;have i:=λb=>Zg (vU w (.cells #[.int .i64 0,.nilIface] 138) b).1 2 (by decide);go_enter func58,ntmps58
 go_wp2_with (first
  | (go_at_call 57;refine (c2 j _ (g.below a)).mono ?_;rintro e s ⟨rfl,d⟩)
  | (go_at_call 57;refine (c1 _ w.heap.size (g.below (f _ _)) (i _).1 (i _).2).mono ?_;rintro e j ⟨rfl,o,c,_⟩;have a:Below w.heap.size w j:=(f _ _).trans (c _ (Nat.le_refl _) (by simp;omega))))
 go_ret2;exact⟨rfl,a.trans (d.mono a.size)⟩
theorem Ik(n:Nat)(k:Int)(w:World)(m:qC w) :
  Calls prog 58 #[.iface 138 (.agg #[.int .i64 (n:Int),.iface 228 (.agg #[.int .i64 k])])] w λe v=>e = .returned (.tuple #[.int .i64 6,.int .i64 (n:Int)])/\Below w.heap.size w v:=by
 have l:=λr b=>QB w r b;have c1:=λW j h c d=>U0 228 (n:Int) (.agg #[.int .i64 k]) W j h c d;have c2:=λW j h c d=>lV 228 230 _ (n:Int) (.int .i64 k) Uw QU U6 mg Am ⟨k,rfl⟩ W j h c d;have o:=λb=>Zg (vU w (.cells #[.int .i64 0,.nilIface] 138) b).1 2 (by decide);have u:=(vU w (.cells #[.int .i64 0,.nilIface] 138) (.cells #[.int .i64 0] 228)).2;go_enter func58,ntmps58
 go_wp2_with (first
  | (go_at_call 57;refine (c2 q (w.heap.size+1) (m.below a) p.1 p.2).mono ?_;rintro e x ⟨rfl,t,g⟩)
  | (go_at_call 57;refine (c1 _ w.heap.size (m.below (l _ _)) (o _).1 (o _).2).mono ?_;rintro e q ⟨rfl,s,f,i⟩;have a:Below w.heap.size w q:=(l _ _).trans (f _ (Nat.le_refl _) (by simp;omega));have p:=Zg ((i (w.heap.size+1) (by simp) (by omega)).trans u) 1 (by decide)))
 go_ret2;exact⟨rfl,a.trans (g _ (by omega) a.size)⟩
theorem rO(b:Addr)(w:World) :
  Calls prog 56 #[.iface 418 (.pointer (some b)),.iface 418 (.pointer (some b))] w λe g=>e = .returned (.bool true)/\g=w:=by
 have n:=@run_callFunc_extern prog 103 _ ReflectliteType.typeOf func103 (by kernel_rfl) (by kernel_rfl) (by kernel_rfl) (by kernel_rfl);have p:=Tryz.erTypeLong;have o:=Tryz.erComparable
 have m:=@run_callFunc_extern prog 307 _ (ReflectliteType.method (λt=>do Rtype.noPackHeld "Comparable" t;pure (.bool (<- typeInfo t).comparable))) func307 (by kernel_rfl) (by kernel_rfl) (by kernel_rfl) (by kernel_rfl)
 have k:=Tryz.erComparableLong
 obtain⟨i,hi,a⟩:∃i,prog.info? 418=some i/\i.comparable=true:=by
  have h:(prog.info? 418).map (·.comparable)=some true:=by kernel_rfl
  obtain⟨i,d,f⟩:=Option.map_eq_some_iff.1 h;exact⟨i,d,f⟩
 obtain⟨j,c⟩:∃j,prog.info? 437=some j:=by
  have h:(prog.info? 437).isSome=true:=by kernel_rfl
  exact Option.isSome_iff_exists.1 h
 have l:=λW=>run_eql_iface_ptr_same (P:=prog) (w:=W) b underlying74 underlying418 hi a c;clear hi a c;go_enter func56,ntmps56
 go_wp2
 refine wp_loop_rounds 1 ?_;rw[rounds_succ]
 go_wp2
 go_ret;exact⟨rfl,rfl⟩
theorem LY(w:World)(a b c:Obj):Below w.heap.size w (((w.alloc a).alloc b).alloc c)/\(((w.alloc a).alloc b).alloc c).heap[w.heap.size]?=some a/\(((w.alloc a).alloc b).alloc c).heap[w.heap.size+1]?=some b/\(((w.alloc a).alloc b).alloc c).heap[w.heap.size+2]?=some c:=by
 refine⟨((nb _ _).alloc (by simp) _).alloc (by simp;omega) _,?_,?_,?_⟩
 ·rw[Below.heap_alloc _ _ _ (by simp;omega)];exact (vU w a b).1
 ·rw[Below.heap_alloc _ _ _ (by simp)];exact (vU w a b).2
 ·have h:=heap_alloc_new ((w.alloc a).alloc b) c;rw[World.size_alloc,World.size_alloc] at h;exact h
theorem boxes(w:World):Below w.heap.size w (((w.alloc (.cells #[.int .i64 0] 140)).alloc (.cells #[.int .i64 0] 141)).alloc (.cells #[.int .i64 0] 142)) /\
  (((w.alloc (.cells #[.int .i64 0] 140)).alloc (.cells #[.int .i64 0] 141)).alloc (.cells #[.int .i64 0] 142)).heap[w.heap.size]?=some (.cells #[.int .i64 0] 140) /\
  (((w.alloc (.cells #[.int .i64 0] 140)).alloc (.cells #[.int .i64 0] 141)).alloc (.cells #[.int .i64 0] 142)).heap[w.heap.size+1]?=some (.cells #[.int .i64 0] 141) /\
  (((w.alloc (.cells #[.int .i64 0] 140)).alloc (.cells #[.int .i64 0] 141)).alloc (.cells #[.int .i64 0] 142)).heap[w.heap.size+2]?=some (.cells #[.int .i64 0] 142):=LY w _ _ _
theorem Vf(E:TypeId)(v EL:Value)(y:TypeId)(G:Value)(i:EL = .iface y G)(c:Int)(q:Nat)(w:World)(u:qC w)(x:w.cell? ⟨0,0,none⟩=some EL)(z:UN (.iface E v) EL)(C:Xm (.iface E v) 145)(D:Xm (.iface E v) 146)(F:Xm (.iface E v) 147)
  (B:∀W,qC W->Calls prog 58 #[.iface E v] W λe o=>e = .returned (.tuple #[.int .i64 c,.int .i64 (q:Int)])/\Below W.heap.size W o) :
  Calls prog 33 #[.iface E v] w λe o=>e = .returned (.tuple #[.int .i64 c,.int .i64 (q:Int)])/\Below w.heap.size w o:=by
 obtain⟨h,_,_,_⟩:=boxes w;have A:=zg h x;have g:∀W,Below w.heap.size w W->qC W:=λW hb=>u.below hb;subst i;clear u x;go_enter func33,ntmps33
 go_wp2_with (first
  | (go_at_call 58;refine (B t (g t f)).mono ?_;rintro e H ⟨rfl,n⟩)
  | (go_at_call 57;refine (F s _ (g s d)).mono ?_;rintro e t ⟨rfl,m⟩;have f:Below w.heap.size w t:=d.trans (m.mono d.size))
  | (go_at_call 57;refine (D r _ (g r b)).mono ?_;rintro e s ⟨rfl,l⟩;have d:Below w.heap.size w s:=b.trans (l.mono b.size))
  | (go_at_call 57;refine (C p _ (g p a)).mono ?_;rintro e r ⟨rfl,k⟩;have b:Below w.heap.size w r:=a.trans (k.mono a.size))
  | (go_at_call 56;refine (z _).mono ?_;rintro e p ⟨rfl,j⟩;have a:Below w.heap.size w p:=h.trans (j.mono h.size)))
 go_ret2;exact⟨rfl,f.trans (n.mono f.size)⟩
theorem YS(E:TypeId)(v:Value)(a:Addr)(b:xL E)(c:yS E):UN (.iface E v) (.iface 418 (.pointer (some a))):=λW=>by
 refine (rP E v a W b c).mono ?_;rintro e d ⟨rfl,rfl⟩;exact⟨rfl,Below.refl _ _⟩
theorem rX(w:World):Calls prog 33 #[.nilIface] w λe b=>e = .returned (.tuple #[.int .i64 0,.int .i64 0])/\Below w.heap.size w b:=by
 obtain⟨a,_,_,_⟩:=boxes w;go_enter func33,ntmps33
 go_wp2
 go_ret2;exact⟨rfl,a⟩
theorem rW(a:Addr)(w:World)(c:w.cell? ⟨0,0,none⟩=some (.iface 418 (.pointer (some a)))):Calls prog 33 #[.iface 418 (.pointer (some a))] w λe f=>e = .returned (.tuple #[.int .i64 1,.int .i64 0])/\Below w.heap.size w f:=by
 obtain⟨b,_,_,_⟩:=boxes w;have d:=zg b c;clear c;go_enter func33,ntmps33
 go_wp2_with (go_at_call 56;refine (rO a _).mono ?_;rintro e g ⟨rfl,rfl⟩)
 go_ret2;exact⟨rfl,b⟩
theorem rZ(k:Int)(j:Addr)(w:World)(l:qC w)(m:w.cell? ⟨0,0,none⟩=some (.iface 418 (.pointer (some j)))) :
  Calls prog 33 #[.iface 140 (.agg #[.int .i64 k])] w λe u=>e = .returned (.tuple #[.int .i64 2,.int .i64 k])/\Below w.heap.size w u:=by
 obtain⟨g,n,t,q2⟩:=boxes w;have r:=zg g m;have o:∀W,Below w.heap.size w W->qC W:=λW hb=>l.below hb;have q:=YS 140 (.agg #[.int .i64 k]) j ae DY;have p:=JH 140 145 _ (.int .i64 k) Xi ae mF Ap ⟨k,rfl⟩;have s:=n;clear l m n t q2;go_enter func33,ntmps33
 go_wp2_with (first
  | (go_at_call 57;refine (p f (w.heap.size) (o f b) (Zg d 1 (by decide)).1 (Zg d 1 (by decide)).2).mono ?_;rintro e y ⟨rfl,x,i⟩)
  | (go_at_call 56;refine (q _).mono ?_;rintro e f ⟨rfl,a⟩;have b:Below w.heap.size w f:=g.trans (a.mono g.size);have d:=(a.block (w.heap.size) (by first|(simp;done)|(simp;omega))).trans s;have v:w.heap.size+3<=f.heap.size:=(by have:=a.size;simp at this;omega)))
 go_quiet (fail)
 go_wp2
 go_ret2;have c:=i w.heap.size (by omega) (b.size);refine⟨rfl,?_⟩;have h:=b.trans c;exact⟨h.os,h.tape,h.output,h.size,h.block⟩
theorem rV(k:Int)(p:Addr)(w:World)(r:qC w)(s:w.cell? ⟨0,0,none⟩=some (.iface 418 (.pointer (some p)))) :
  Calls prog 33 #[.iface 141 (.agg #[.int .i64 k])] w λe C=>e = .returned (.tuple #[.int .i64 3,.int .i64 k])/\Below w.heap.size w C:=by
 obtain⟨l,B,u,q2⟩:=boxes w;have y:=zg l s;have q:∀W,Below w.heap.size w W->qC W:=λW hb=>r.below hb;have x:=YS 141 (.agg #[.int .i64 k]) p Vd dA;have A:=λW t h=>ZC 140 145 141 (.agg #[.int .i64 k]) Xi Vd dA lY W t h;have v:=JH 141 146 _ (.int .i64 k) Yl Vd lX Al ⟨k,rfl⟩;have z:=u;clear r s B u q2;go_enter func33,ntmps33
 go_wp2_with (first
  | (go_at_call 57;refine (v j (w.heap.size+1) (q j d) (Zg g 1 (by decide)).1 (Zg g 1 (by decide)).2).mono ?_;rintro e F ⟨rfl,E,m⟩)
  | (go_at_call 57;refine (A i _ (q i c)).mono ?_;rintro e j ⟨rfl,b⟩;have d:Below w.heap.size w j:=c.trans (b.mono c.size);have g:=(b.block (w.heap.size+1) (by have:=c.size;have:=o;omega)).trans n;have D:w.heap.size+3<=j.heap.size:=(by have:=b.size;omega))
  | (go_at_call 56;refine (x _).mono ?_;rintro e i ⟨rfl,a⟩;have c:Below w.heap.size w i:=l.trans (a.mono l.size);have n:=(a.block (w.heap.size+1) (by first|(simp;done)|(simp;omega))).trans z;have o:w.heap.size+3<=i.heap.size:=(by have:=a.size;simp at this;omega)))
 go_quiet (fail)
 go_wp2
 go_ret2;have f:=m w.heap.size (by omega) (d.size);refine⟨rfl,?_⟩;have h:=d.trans f;exact⟨h.os,h.tape,h.output,h.size,h.block⟩
theorem si(k:Int)(x:Addr)(w:World)(y:qC w)(z:w.cell? ⟨0,0,none⟩=some (.iface 418 (.pointer (some x)))) :
  Calls prog 33 #[.iface 142 (.agg #[.int .i64 k])] w λe I=>e = .returned (.tuple #[.int .i64 4,.int .i64 k])/\Below w.heap.size w I:=by
 obtain⟨o,G,H,q2⟩:=boxes w;have C:=zg o z;have p:∀W,Below w.heap.size w W->qC W:=λW hb=>y.below hb;have B:=YS 142 (.agg #[.int .i64 k]) x YK VJ;have E:=λW t h=>ZC 140 145 142 (.agg #[.int .i64 k]) Xi YK VJ mH W t h;have F:=λW t h=>ZC 141 146 142 (.agg #[.int .i64 k]) Yl YK VJ mG W t h;have A:=JH 142 147 _ (.int .i64 k) Jn YK mJ Aq ⟨k,rfl⟩;have D:=q2;clear y z G H q2;go_enter func33,ntmps33
 go_wp2_with (first
  | (go_at_call 57;refine (A n (w.heap.size+2) (p n g) (Zg j 1 (by decide)).1 (Zg j 1 (by decide)).2).mono ?_;rintro e L ⟨rfl,K,q⟩)
  | (go_at_call 57;refine (F m _ (p m f)).mono ?_;rintro e n ⟨rfl,c⟩;have g:Below w.heap.size w n:=f.trans (c.mono f.size);have j:=(c.block (w.heap.size+2) (by have:=f.size;have:=v;omega)).trans s;have J:w.heap.size+3<=n.heap.size:=(by have:=c.size;omega))
  | (go_at_call 57;refine (E l _ (p l d)).mono ?_;rintro e m ⟨rfl,b⟩;have f:Below w.heap.size w m:=d.trans (b.mono d.size);have s:=(b.block (w.heap.size+2) (by have:=d.size;have:=u;omega)).trans r;have v:w.heap.size+3<=m.heap.size:=(by have:=b.size;omega))
  | (go_at_call 56;refine (B _).mono ?_;rintro e l ⟨rfl,a⟩;have d:Below w.heap.size w l:=o.trans (a.mono o.size);have r:=(a.block (w.heap.size+2) (by first|(simp;done)|(simp;omega))).trans D;have u:w.heap.size+3<=l.heap.size:=(by have:=a.size;simp at this;omega)))
 go_quiet (fail)
 go_wp2
 go_ret2;have i:=q w.heap.size (by omega) (g.size);refine⟨rfl,?_⟩;have h:=g.trans i;exact⟨h.os,h.tape,h.output,h.size,h.block⟩
theorem rY(c:Int)(q:Nat)(u:Value)(a:Addr)(w:World)(d:qC w)(b:w.cell? ⟨0,0,none⟩=some (.iface 418 (.pointer (some a))))(h:vI (.iface 418 (.pointer (some a))) c q u) :
  Calls prog 33 #[u] w λe i=>e = .returned (.tuple #[.int .i64 c,.int .i64 (q:Int)])/\Below w.heap.size w i:=by
 cases h with
 | ok=>exact rX w
 | long=>exact rW a w b
 | text _ _ g=>
  rcases g with rfl|rfl|rfl
  ·exact rZ _ a w d b
  ·exact rV _ a w d b
  ·exact si _ a w d b
 | doc p=>
  exact Vf _ _ _ _ _ rfl 5 0 w d b (YS _ _ a vN uy) (ZC _ _ _ _ Xi vN uy U3) (ZC _ _ _ _ Yl vN uy U1) (ZC _ _ _ _ Jn vN uy U4) (λW f=>Ij p W f)
 | shape n p=>
  exact Vf _ _ _ _ _ rfl 5 q w d b (λW=>K8 _ _ _ a W XM vN uy) (Qg _ _ _ _ _ Xi vN uy U7 U3) (Qg _ _ _ _ _ Yl vN uy U5 U1) (Qg _ _ _ _ _ Jn vN uy U8 U4) (λW f=>Il q p W f)
 | pat n k=>
  exact Vf _ _ _ _ _ rfl 6 q w d b (λW=>K8 _ _ _ a W XM QU XY) (Qg _ _ _ _ _ Xi QU XY U7 mi) (Qg _ _ _ _ _ Yl QU XY U5 mf) (Qg _ _ _ _ _ Jn QU XY U8 mo) (λW f=>Ik q k W f)
theorem vI.form{EL:Value}{c:Int}{q:Nat}{u:Value}(h:vI EL c q u)(a:∃T y,EL = .iface T y):u = .nilIface\/∃T y,u = .iface T y:=by
 cases h with
 | ok=>exact .inl rfl
 | long=>exact .inr a
 | text _ _ _=>obtain⟨T,b⟩:=Qo c q;exact .inr ⟨T,_,b⟩
 | doc p=>exact .inr ⟨_,_,rfl⟩
 | shape n p=>exact .inr ⟨_,_,rfl⟩
 | pat n k=>exact .inr ⟨_,_,rfl⟩
structure Z6 (w:World) (aL:Addr):Prop where
 q:kW w (.iface 418 (.pointer (some aL)))
theorem Z6.below{w b:World}{a:Addr}(h:Z6 w a)(hb:Below w.heap.size w b):Z6 b a:=⟨h.q.below hb⟩
end Go.Proofs.YtdakgnaojakldaaGreatDoor
