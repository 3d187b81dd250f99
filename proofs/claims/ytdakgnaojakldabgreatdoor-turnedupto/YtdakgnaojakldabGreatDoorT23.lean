/- P -/
import Derived.Test.YtdakgnaojakldabGreatDoorT22
open Go.Proofs.Tryz
set_option maxRecDepth 100000
set_option maxHeartbeats 4000000
namespace Go.Proofs.YtdakgnaojakldabGreatDoor
open Go.RowKit Go.Extern.Stop Go.Stop Go.Extern
def X4(u:Value)(a:TypeId):Prop:=∀(W:World) (t:Addr),qQ W->Calls prog 37 #[u,.iface a (.pointer (some t))] W λe b=>e = .returned (.bool false)/\Below W.heap.size W b
def KY(u:Value)(c:TypeId)(n:Nat)(x:Value):Prop:=∀(W:World) (a:Nat),qQ W->(∀j,j<n->∃o,W.cell? ⟨a,j,none⟩=some o)->(∀j,j<n->W.frozen? ⟨a,j,none⟩=false) ->
 Calls prog 37 #[u,.iface c (.pointer (some ⟨a,0,none⟩))] W λe b=>e = .returned (.bool true)/\b.cell? ⟨a,0,none⟩=some x/\∀base,base<=a->base<=W.heap.size->Below base W b
theorem Xh(w:World)(a b:Obj):Below w.heap.size w ((w.alloc a).alloc b):=(nB w a).alloc (by simp) b
theorem Qi(T a E:TypeId)(v:Value)(f:vB T a)(d:xX E)(g:jB E)(c:Assign E T false):X4 (.iface E v) a:=λW t i=>
 QW T a E v t W i f false (λb=>Below W.heap.size W b) (λO=>by
  refine (cZ E T v _ _ _ _ _ d g c).mono ?_;rintro e b ⟨rfl,h⟩;exact⟨rfl,(Xh W _ O).trans (h.mono (Xh W _ O).size)⟩)
theorem QR(T a E:TypeId)(n:Int)(v:Value)(g:vB T a)(f:xX E)(h:jB E)(c:Assign 110 T false)(d:Assign E T false):X4 (.iface 110 (.agg #[.int .i64 n,.iface E v])) a:=λW t j=>
 QW T a _ _ t W j g false (λb=>Below W.heap.size W b) (λO=>by
  refine (Br E T n v _ _ _ _ _ Yu f h c d).mono ?_;rintro e b ⟨rfl,i⟩;exact⟨rfl,(Xh W _ O).trans (i.mono (Xh W _ O).size)⟩)
theorem VF(E a:TypeId)(ok:Value->Prop)(x:Value)(i:vB E a)(m:xX E)(l:Assign E E true)(n:ZC E ok)(s:ok x):KY (.iface E (.agg #[x])) a 1 x:=λW b r p q=>by
 obtain⟨o,g⟩:=p 0 (by omega);have f:=q 0 (by omega);refine QW E a E (.agg #[x]) ⟨b,0,none⟩ W r i true (λh=>h.cell? ⟨b,0,none⟩=some x/\∀base,base<=b->base<=W.heap.size->Below base W h) (λO=>?_);refine (cK E a ok x _ o ⟨W.heap.size,0,none⟩ ⟨b,0,none⟩ _ m l i n s (zF (QX W _ _) O) (zF (zF g _) O) (yV (zF g _) (yV g f _) O)).mono ?_;rintro e h ⟨rfl,j,k⟩;refine⟨rfl,j,λbase c d=>?_⟩;exact (((Below.refl base W).alloc d _).alloc (by simp;omega) O).trans (k base c (by simp;omega))
theorem pK(E a:TypeId)(ok:Value->Prop)(n:Int)(x:Value)(i:vB E a)(m:xX E)(q:Assign 110 E false)(l:Assign E E true)(p:ZC E ok)(u:ok x):KY (.iface 110 (.agg #[.int .i64 n,.iface E (.agg #[x])])) a 1 x:=λW b t r s=>by
 obtain⟨o,g⟩:=r 0 (by omega);have f:=s 0 (by omega);refine QW E a _ _ ⟨b,0,none⟩ W t i true (λh=>h.cell? ⟨b,0,none⟩=some x/\∀base,base<=b->base<=W.heap.size->Below base W h) (λO=>?_);refine (Bq E a ok n x _ o ⟨W.heap.size,0,none⟩ ⟨b,0,none⟩ _ Yu m q l i p u (zF (QX W _ _) O) (zF (zF g _) O) (yV (zF g _) (yV g f _) O)).mono ?_;rintro e h ⟨rfl,j,k⟩;refine⟨rfl,j,λbase c d=>?_⟩;exact (((Below.refl base W).alloc d _).alloc (by simp;omega) O).trans (k base c (by simp;omega))
def K7(u EL:Value):Prop:=∀W:World,Calls prog 36 #[u,EL] W λe a=>e = .returned (.bool false)/\Below W.heap.size W a
theorem NK(p:BA)(w:World)(f:qQ w) :
  Calls prog 38 #[.iface 96 (.agg #[.string p])] w λe k=>e = .returned (.tuple #[.int .i64 5,.int .i64 0])/\Below w.heap.size w k:=by
 have d:=λi j=>Xh w i j;have c1:=λW t h=>Qi 110 166 96 (.agg #[.string p]) KL uH kJ rD W t h;have c2:=λW t h=>Qi 165 167 96 (.agg #[.string p]) KI uH kJ ay W t h;go_enter func38,ntmps38
 go_wp2_with (first
  | (go_at_call 37;refine (c2 g _ (f.below a)).mono ?_;rintro e l ⟨rfl,c⟩)
  | (go_at_call 37;refine (c1 _ _ (f.below (d _ _))).mono ?_;rintro e g ⟨rfl,b⟩;have a:Below w.heap.size w g:=(d _ _).trans (b.mono (by simp;omega))))
 go_ret2;exact⟨rfl,a.trans (c.mono a.size)⟩
theorem ZQ{W:World}{cs:Array Value}{t:TypeId}{b:Nat}(h:W.heap[b]?=some (.cells cs t (0,0)))(n:Nat)(c:n<=cs.size):(∀j,j<n->∃o,W.cell? ⟨b,j,none⟩=some o)/\(∀j,j<n->W.frozen? ⟨b,j,none⟩=false):=by
 refine⟨λj a=>⟨cs[j]'(by omega),?_⟩,λj _=>(za h j).2⟩;rw[(za h j).1];exact Array.getElem?_eq_getElem (by omega)
theorem Bp(r E:TypeId)(n:Int)(v i p q:Value)(a:Addr)(c:Nat)(w:World)(l:xX 110)(k:Assign 110 110 true)(m:vB 110 r)
  (o:w.cell? a=some (.pointer (some ⟨c,0,none⟩)))(f:w.cell? ⟨c,0,none⟩=some p)(h:w.cell? ⟨c,1,none⟩=some q)(f1:w.frozen? ⟨c,0,none⟩=false)(f2:w.frozen? ⟨c,1,none⟩=false) :
  Calls prog 67 #[.iface 110 (.agg #[.int .i64 n,.iface E v]),i,.agg #[.pointer (some ⟨7,r,none⟩),.pointer (some a),.int .u64 150],.iface 203 (.agg #[.pointer (some ⟨7,110,none⟩)])] w λe j=>
   e = .returned (.bool true)/\j.cell? ⟨c,0,none⟩=some (.int .i64 n)/\(∀base,base<=c->base<=w.heap.size->Below base w j)/\∀b,b<w.heap.size->b≠c->j.heap[b]?=w.heap[b]?:=by
 have t:=@run_callFunc_extern prog 62 _ ReflectliteType.typeOf func62 (by kernel_rfl) (by kernel_rfl) (by kernel_rfl) (by kernel_rfl)
 have y:=@run_callFunc_extern prog 196 _ (ReflectliteType.relation "AssignableTo" ReflectliteType.assignableTo) func196 (by kernel_rfl) (by kernel_rfl) (by kernel_rfl) (by kernel_rfl)
 have C:=@run_callFunc_extern prog 64 _ (λargs=>ReflectliteValue.unpack (args.getD 0 (.tuple #[]))) func64 (by kernel_rfl) (by kernel_rfl) (by kernel_rfl) (by kernel_rfl)
 have u:=@run_callFunc_extern prog 95 _ (ReflectliteValue.method (ReflectliteValue.valueError "reflectlite.Value.Elem" 0) ReflectliteValue.elem) func95 (by kernel_rfl) (by kernel_rfl) (by kernel_rfl) (by kernel_rfl)
 have x:=@run_callFunc_extern prog 96 _ ReflectliteValue.set func96 (by kernel_rfl) (by kernel_rfl) (by kernel_rfl) (by kernel_rfl);have G:=l.typeOf;have D:=Tryz.erAssignableTo;have s:=k;unfold Assign at s;have H:=λw=>Tryz.stHeld n (.iface E v) w;have B:=λO=>m.elemV a ⟨c,0,none⟩ (w.alloc O) (zF o O);have F:=λO=>Tryz.stSet c (w.heap.size+1) n E v p q ((w.alloc O).alloc (.cells #[.int .i64 n,.iface E v] 110)) (by rw[World.cell?_alloc_at _ _ _ _ (by simp)];rfl) (by rw[World.cell?_alloc_at _ _ _ _ (by simp)];rfl) (zF (zF f O) _) (zF (zF h O) _) (yV (zF f O) (yV f f1 O) _) (yV (zF h O) (yV h f2 O) _);have fin:=λO=>(World.cell?_setCell_other (((w.alloc O).alloc (.cells #[.int .i64 n,.iface E v] 110)).setCell ⟨c,0,none⟩ (.int .i64 n)) ⟨c,1,none⟩ ⟨c,0,none⟩ (.iface E v) (by simp)).trans (World.cell?_setCell_same ((w.alloc O).alloc (.cells #[.int .i64 n,.iface E v] 110)) ⟨c,0,none⟩ (.int .i64 n) (zF (zF f O) (.cells #[.int .i64 n,.iface E v] 110)));clear k m o l;go_enter func67,ntmps67
 go_wp2
 refine wp_loop_rounds 1 ?_;rw[rounds_succ]
 go_wp2
 go_ret;refine⟨rfl,fin _,λbase d g=>?_,λb z A=>?_⟩
 ·exact ((((Below.refl base w).alloc g _).alloc (by simp;omega) _).setCell d _).setCell d _
 ·rw[Below.heap_setCell _ _ _ _ (by simp only;omega),Below.heap_setCell _ _ _ _ (by simp only;omega),Below.heap_alloc _ _ _ (by simp;omega),Below.heap_alloc _ _ _ z]
theorem ak(E:TypeId)(n:Int)(v:Value)(W:World)(a:Nat)(u:qQ W)(m:∀j,j<2->∃o,W.cell? ⟨a,j,none⟩=some o)(p:∀j,j<2->W.frozen? ⟨a,j,none⟩=false) :
  Calls prog 37 #[.iface 110 (.agg #[.int .i64 n,.iface E v]),.iface 166 (.pointer (some ⟨a,0,none⟩))] W λe c=>e = .returned (.bool true)/\c.cell? ⟨a,0,none⟩=some (.int .i64 n)/\(∀base,base<=a->base<=W.heap.size->Below base W c)/\∀b,b<W.heap.size->b≠a->c.heap[b]?=W.heap[b]?:=by
 obtain⟨o,l⟩:=m 0 (by omega);obtain⟨w,d⟩:=m 1 (by omega);have h:=p 0 (by omega);have i:=p 1 (by omega);refine QW 110 166 _ _ ⟨a,0,none⟩ W u KL true (λc=>c.cell? ⟨a,0,none⟩=some (.int .i64 n)/\(∀base,base<=a->base<=W.heap.size->Below base W c)/\∀b,b<W.heap.size->b≠a->c.heap[b]?=W.heap[b]?) (λO=>?_);refine (Bp 166 E n v _ o w ⟨W.heap.size,0,none⟩ a _ Yu rE KL (zF (QX W _ _) O) (zF (zF l _) O) (zF (zF d _) O) (yV (zF l _) (yV l h _) O) (yV (zF d _) (yV d i _) O)).mono ?_;rintro e c ⟨rfl,q,r,s⟩;refine⟨rfl,q,λbase f g=>?_,λb t k=>?_⟩
 ·exact (((Below.refl base W).alloc g _).alloc (by simp;omega) O).trans (r base f (by simp;omega))
 ·rw[s b (by simp;omega) k,Below.heap_alloc _ _ _ (by simp;omega),Below.heap_alloc _ _ _ t]
theorem NM(n:Nat)(p:BA)(w:World)(g:qQ w) :
  Calls prog 38 #[.iface 110 (.agg #[.int .i64 (n:Int),.iface 96 (.agg #[.string p])])] w λe r=>e = .returned (.tuple #[.int .i64 5,.int .i64 (n:Int)])/\Below w.heap.size w r:=by
 have f:=λk b=>Xh w k b;have c1:=λW q h l m=>ak 96 (n:Int) (.agg #[.string p]) W q h l m;have c2:=λW t h=>QR 165 167 96 (n:Int) (.agg #[.string p]) KI uH kJ aD ay W t h;have i:=λb=>ZQ (Qc w (.cells #[.int .i64 0,.nilIface] 110) b).1 2 (by decide);go_enter func38,ntmps38
 go_wp2_with (first
  | (go_at_call 37;refine (c2 j _ (g.below a)).mono ?_;rintro e s ⟨rfl,d⟩)
  | (go_at_call 37;refine (c1 _ w.heap.size (g.below (f _ _)) (i _).1 (i _).2).mono ?_;rintro e j ⟨rfl,o,c,_⟩;have a:Below w.heap.size w j:=(f _ _).trans (c _ (Nat.le_refl _) (by simp;omega))))
 go_ret2;exact⟨rfl,a.trans (d.mono a.size)⟩
theorem NL(n:Nat)(k:Int)(w:World)(m:qQ w) :
  Calls prog 38 #[.iface 110 (.agg #[.int .i64 (n:Int),.iface 165 (.agg #[.int .i64 k])])] w λe v=>e = .returned (.tuple #[.int .i64 6,.int .i64 (n:Int)])/\Below w.heap.size w v:=by
 have l:=λr b=>Xh w r b;have c1:=λW j h c d=>ak 165 (n:Int) (.agg #[.int .i64 k]) W j h c d;have c2:=λW j h c d=>pK 165 167 _ (n:Int) (.int .i64 k) KI XA aD rq DJ ⟨k,rfl⟩ W j h c d;have o:=λb=>ZQ (Qc w (.cells #[.int .i64 0,.nilIface] 110) b).1 2 (by decide);have u:=(Qc w (.cells #[.int .i64 0,.nilIface] 110) (.cells #[.int .i64 0] 165)).2;go_enter func38,ntmps38
 go_wp2_with (first
  | (go_at_call 37;refine (c2 q (w.heap.size+1) (m.below a) p.1 p.2).mono ?_;rintro e x ⟨rfl,t,g⟩)
  | (go_at_call 37;refine (c1 _ w.heap.size (m.below (l _ _)) (o _).1 (o _).2).mono ?_;rintro e q ⟨rfl,s,f,i⟩;have a:Below w.heap.size w q:=(l _ _).trans (f _ (Nat.le_refl _) (by simp;omega));have p:=ZQ ((i (w.heap.size+1) (by simp) (by omega)).trans u) 1 (by decide)))
 go_ret2;exact⟨rfl,a.trans (g _ (by omega) a.size)⟩
theorem Bj(b:Addr)(w:World) :
  Calls prog 36 #[.iface 291 (.pointer (some b)),.iface 291 (.pointer (some b))] w λe k=>e = .returned (.bool true)/\k=w:=by
 have o:=@run_callFunc_extern prog 62 _ ReflectliteType.typeOf func62 (by kernel_rfl) (by kernel_rfl) (by kernel_rfl) (by kernel_rfl);have q:=Tryz.erTypeLong;have p:=Tryz.erComparable
 have n:=@run_callFunc_extern prog 197 _ (ReflectliteType.method (λt=>do Rtype.noPackHeld "Comparable" t;pure (.bool (<- typeInfo t).comparable))) func197 (by kernel_rfl) (by kernel_rfl) (by kernel_rfl) (by kernel_rfl)
 have l:=Tryz.erComparableLong
 obtain⟨i,c,a⟩:∃i,prog.info? 291=some i/\i.comparable=true:=by
  have h:(prog.info? 291).map (·.comparable)=some true:=by kernel_rfl
  obtain⟨i,f,g⟩:=Option.map_eq_some_iff.1 h;exact⟨i,f,g⟩
 obtain⟨j,d⟩:∃j,prog.info? 311=some j:=by
  have h:(prog.info? 311).isSome=true:=by kernel_rfl
  exact Option.isSome_iff_exists.1 h
 have m:=λW=>run_eql_iface_ptr_same (P:=prog) (w:=W) b underlying70 underlying291 c a d;clear c a d;go_enter func36,ntmps36
 go_wp2
 refine wp_loop_rounds 1 ?_;rw[rounds_succ]
 go_wp2
 go_ret;exact⟨rfl,rfl⟩
theorem PY(w:World)(a b c:Obj):Below w.heap.size w (((w.alloc a).alloc b).alloc c)/\(((w.alloc a).alloc b).alloc c).heap[w.heap.size]?=some a/\(((w.alloc a).alloc b).alloc c).heap[w.heap.size+1]?=some b/\(((w.alloc a).alloc b).alloc c).heap[w.heap.size+2]?=some c:=by
 refine⟨((nB _ _).alloc (by simp) _).alloc (by simp;omega) _,?_,?_,?_⟩
 ·rw[Below.heap_alloc _ _ _ (by simp;omega)];exact (Qc w a b).1
 ·rw[Below.heap_alloc _ _ _ (by simp)];exact (Qc w a b).2
 ·have h:=heap_alloc_new ((w.alloc a).alloc b) c;rw[World.size_alloc,World.size_alloc] at h;exact h
theorem boxes(w:World):Below w.heap.size w (((w.alloc (.cells #[.int .i64 0] 112)).alloc (.cells #[.int .i64 0] 113)).alloc (.cells #[.int .i64 0] 114)) /\
  (((w.alloc (.cells #[.int .i64 0] 112)).alloc (.cells #[.int .i64 0] 113)).alloc (.cells #[.int .i64 0] 114)).heap[w.heap.size]?=some (.cells #[.int .i64 0] 112) /\
  (((w.alloc (.cells #[.int .i64 0] 112)).alloc (.cells #[.int .i64 0] 113)).alloc (.cells #[.int .i64 0] 114)).heap[w.heap.size+1]?=some (.cells #[.int .i64 0] 113) /\
  (((w.alloc (.cells #[.int .i64 0] 112)).alloc (.cells #[.int .i64 0] 113)).alloc (.cells #[.int .i64 0] 114)).heap[w.heap.size+2]?=some (.cells #[.int .i64 0] 114):=PY w _ _ _
theorem Uc(E:TypeId)(v EL:Value)(y:TypeId)(H:Value)(i:EL = .iface y H)(c:Int)(q:Nat)(w:World)(u:qQ w)(x:w.cell? ⟨0,0,none⟩=some EL)(z:K7 (.iface E v) EL)(D:X4 (.iface E v) 117)(F:X4 (.iface E v) 118)(G:X4 (.iface E v) 119)
  (B:∀W,qQ W->Calls prog 38 #[.iface E v] W λe o=>e = .returned (.tuple #[.int .i64 c,.int .i64 (q:Int)])/\Below W.heap.size W o) :
  Calls prog 19 #[.iface E v] w λe o=>e = .returned (.tuple #[.int .i64 c,.int .i64 (q:Int)])/\Below w.heap.size w o:=by
 obtain⟨h,_,_,_⟩:=boxes w;have A:=zb h x;have g:∀W,Below w.heap.size w W->qQ W:=λW C=>u.below C;subst i;clear u x;go_enter func19,ntmps19
 go_wp2_with (first
  | (go_at_call 38;refine (B t (g t f)).mono ?_;rintro e I ⟨rfl,n⟩)
  | (go_at_call 37;refine (G s _ (g s d)).mono ?_;rintro e t ⟨rfl,m⟩;have f:Below w.heap.size w t:=d.trans (m.mono d.size))
  | (go_at_call 37;refine (F r _ (g r b)).mono ?_;rintro e s ⟨rfl,l⟩;have d:Below w.heap.size w s:=b.trans (l.mono b.size))
  | (go_at_call 37;refine (D p _ (g p a)).mono ?_;rintro e r ⟨rfl,k⟩;have b:Below w.heap.size w r:=a.trans (k.mono a.size))
  | (go_at_call 36;refine (z _).mono ?_;rintro e p ⟨rfl,j⟩;have a:Below w.heap.size w p:=h.trans (j.mono h.size)))
 go_ret2;exact⟨rfl,f.trans (n.mono f.size)⟩
theorem JB(E:TypeId)(v:Value)(a:Addr)(b:xX E)(c:jB E):K7 (.iface E v) (.iface 291 (.pointer (some a))):=λW=>by
 refine (Bl E v a W b c).mono ?_;rintro e d ⟨rfl,rfl⟩;exact⟨rfl,Below.refl _ _⟩
theorem Bv(w:World):Calls prog 19 #[.nilIface] w λe b=>e = .returned (.tuple #[.int .i64 0,.int .i64 0])/\Below w.heap.size w b:=by
 obtain⟨a,_,_,_⟩:=boxes w;go_enter func19,ntmps19
 go_wp2
 go_ret2;exact⟨rfl,a⟩
theorem Bu(a:Addr)(w:World)(c:w.cell? ⟨0,0,none⟩=some (.iface 291 (.pointer (some a)))):Calls prog 19 #[.iface 291 (.pointer (some a))] w λe f=>e = .returned (.tuple #[.int .i64 1,.int .i64 0])/\Below w.heap.size w f:=by
 obtain⟨b,_,_,_⟩:=boxes w;have d:=zb b c;clear c;go_enter func19,ntmps19
 go_wp2_with (go_at_call 36;refine (Bj a _).mono ?_;rintro e g ⟨rfl,rfl⟩)
 go_ret2;exact⟨rfl,b⟩
theorem Bz(k:Int)(j:Addr)(w:World)(l:qQ w)(m:w.cell? ⟨0,0,none⟩=some (.iface 291 (.pointer (some j)))) :
  Calls prog 19 #[.iface 112 (.agg #[.int .i64 k])] w λe v=>e = .returned (.tuple #[.int .i64 2,.int .i64 k])/\Below w.heap.size w v:=by
 obtain⟨g,n,u,q2⟩:=boxes w;have r:=zb g m;have o:∀W,Below w.heap.size w W->qQ W:=λW s=>l.below s;have q:=JB 112 (.agg #[.int .i64 k]) j dh Hr;have p:=VF 112 117 _ (.int .i64 k) XY dh rF DL ⟨k,rfl⟩;have t:=n;clear l m n u q2;go_enter func19,ntmps19
 go_wp2_with (first
  | (go_at_call 37;refine (p f (w.heap.size) (o f b) (ZQ d 1 (by decide)).1 (ZQ d 1 (by decide)).2).mono ?_;rintro e z ⟨rfl,y,i⟩)
  | (go_at_call 36;refine (q _).mono ?_;rintro e f ⟨rfl,a⟩;have b:Below w.heap.size w f:=g.trans (a.mono g.size);have d:=(a.block (w.heap.size) (by first|(simp;done)|(simp;omega))).trans t;have x:w.heap.size+3<=f.heap.size:=(by have:=a.size;simp at this;omega)))
 go_quiet (fail)
 go_wp2
 go_ret2;have c:=i w.heap.size (by omega) (b.size);refine⟨rfl,?_⟩;have h:=b.trans c;exact⟨h.os,h.tape,h.output,h.size,h.block⟩
theorem Bt(k:Int)(p:Addr)(w:World)(r:qQ w)(s:w.cell? ⟨0,0,none⟩=some (.iface 291 (.pointer (some p)))) :
  Calls prog 19 #[.iface 113 (.agg #[.int .i64 k])] w λe D=>e = .returned (.tuple #[.int .i64 3,.int .i64 k])/\Below w.heap.size w D:=by
 obtain⟨l,C,u,q2⟩:=boxes w;have y:=zb l s;have q:∀W,Below w.heap.size w W->qQ W:=λW z=>r.below z;have x:=JB 113 (.agg #[.int .i64 k]) p Ua gG;have B:=λW t h=>Qi 112 117 113 (.agg #[.int .i64 k]) XY Ua gG pY W t h;have v:=VF 113 118 _ (.int .i64 k) YW Ua pX DI ⟨k,rfl⟩;have A:=u;clear r s C u q2;go_enter func19,ntmps19
 go_wp2_with (first
  | (go_at_call 37;refine (v j (w.heap.size+1) (q j d) (ZQ g 1 (by decide)).1 (ZQ g 1 (by decide)).2).mono ?_;rintro e G ⟨rfl,F,m⟩)
  | (go_at_call 37;refine (B i _ (q i c)).mono ?_;rintro e j ⟨rfl,b⟩;have d:Below w.heap.size w j:=c.trans (b.mono c.size);have g:=(b.block (w.heap.size+1) (by have:=c.size;have:=o;omega)).trans n;have E:w.heap.size+3<=j.heap.size:=(by have:=b.size;omega))
  | (go_at_call 36;refine (x _).mono ?_;rintro e i ⟨rfl,a⟩;have c:Below w.heap.size w i:=l.trans (a.mono l.size);have n:=(a.block (w.heap.size+1) (by first|(simp;done)|(simp;omega))).trans A;have o:w.heap.size+3<=i.heap.size:=(by have:=a.size;simp at this;omega)))
 go_quiet (fail)
 go_wp2
 go_ret2;have f:=m w.heap.size (by omega) (d.size);refine⟨rfl,?_⟩;have h:=d.trans f;exact⟨h.os,h.tape,h.output,h.size,h.block⟩
theorem BC(k:Int)(x:Addr)(w:World)(y:qQ w)(z:w.cell? ⟨0,0,none⟩=some (.iface 291 (.pointer (some x)))) :
  Calls prog 19 #[.iface 114 (.agg #[.int .i64 k])] w λe J=>e = .returned (.tuple #[.int .i64 4,.int .i64 k])/\Below w.heap.size w J:=by
 obtain⟨o,H,I,q2⟩:=boxes w;have C:=zb o z;have p:∀W,Below w.heap.size w W->qQ W:=λW D=>y.below D;have B:=JB 114 (.agg #[.int .i64 k]) x Jo UK;have F:=λW t h=>Qi 112 117 114 (.agg #[.int .i64 k]) XY Jo UK rH W t h;have G:=λW t h=>Qi 113 118 114 (.agg #[.int .i64 k]) YW Jo UK rG W t h;have A:=VF 114 119 _ (.int .i64 k) Vl Jo rJ DN ⟨k,rfl⟩;have E:=q2;clear y z H I q2;go_enter func19,ntmps19
 go_wp2_with (first
  | (go_at_call 37;refine (A n (w.heap.size+2) (p n g) (ZQ j 1 (by decide)).1 (ZQ j 1 (by decide)).2).mono ?_;rintro e M ⟨rfl,L,q⟩)
  | (go_at_call 37;refine (G m _ (p m f)).mono ?_;rintro e n ⟨rfl,c⟩;have g:Below w.heap.size w n:=f.trans (c.mono f.size);have j:=(c.block (w.heap.size+2) (by have:=f.size;have:=v;omega)).trans s;have K:w.heap.size+3<=n.heap.size:=(by have:=c.size;omega))
  | (go_at_call 37;refine (F l _ (p l d)).mono ?_;rintro e m ⟨rfl,b⟩;have f:Below w.heap.size w m:=d.trans (b.mono d.size);have s:=(b.block (w.heap.size+2) (by have:=d.size;have:=u;omega)).trans r;have v:w.heap.size+3<=m.heap.size:=(by have:=b.size;omega))
  | (go_at_call 36;refine (B _).mono ?_;rintro e l ⟨rfl,a⟩;have d:Below w.heap.size w l:=o.trans (a.mono o.size);have r:=(a.block (w.heap.size+2) (by first|(simp;done)|(simp;omega))).trans E;have u:w.heap.size+3<=l.heap.size:=(by have:=a.size;simp at this;omega)))
 go_quiet (fail)
 go_wp2
 go_ret2;have i:=q w.heap.size (by omega) (g.size);refine⟨rfl,?_⟩;have h:=g.trans i;exact⟨h.os,h.tape,h.output,h.size,h.block⟩
theorem Bw(c:Int)(q:Nat)(u:Value)(a:Addr)(w:World)(d:qQ w)(b:w.cell? ⟨0,0,none⟩=some (.iface 291 (.pointer (some a))))(h:uw (.iface 291 (.pointer (some a))) c q u) :
  Calls prog 19 #[u] w λe i=>e = .returned (.tuple #[.int .i64 c,.int .i64 (q:Int)])/\Below w.heap.size w i:=by
 cases h with
 | ok=>exact Bv w
 | long=>exact Bu a w b
 | text _ _ g=>
  rcases g with rfl|rfl|rfl
  ·exact Bz _ a w d b
  ·exact Bt _ a w d b
  ·exact BC _ a w d b
 | doc p=>
  exact Uc _ _ _ _ _ rfl 5 0 w d b (JB _ _ a uH kJ) (Qi _ _ _ _ XY uH kJ az) (Qi _ _ _ _ YW uH kJ ax) (Qi _ _ _ _ Vl uH kJ aB) (λW f=>NK p W f)
 | shape n p=>
  exact Uc _ _ _ _ _ rfl 5 q w d b (λW=>cB _ _ _ a W Yu uH kJ) (QR _ _ _ _ _ XY uH kJ aF az) (QR _ _ _ _ _ YW uH kJ aC ax) (QR _ _ _ _ _ Vl uH kJ aG aB) (λW f=>NM q p W f)
 | pat n k=>
  exact Uc _ _ _ _ _ rfl 6 q w d b (λW=>cB _ _ _ a W Yu XA YF) (QR _ _ _ _ _ XY XA YF aF rz) (QR _ _ _ _ _ YW XA YF aC rf) (QR _ _ _ _ _ Vl XA YF aG rA) (λW f=>NL q k W f)
theorem uw.form{EL:Value}{c:Int}{q:Nat}{u:Value}(h:uw EL c q u)(a:∃T y,EL = .iface T y):u = .nilIface\/∃T y,u = .iface T y:=by
 cases h with
 | ok=>exact .inl rfl
 | long=>exact .inr a
 | text _ _ _=>obtain⟨T,b⟩:=QY c q;exact .inr ⟨T,_,b⟩
 | doc p=>exact .inr ⟨_,_,rfl⟩
 | shape n p=>exact .inr ⟨_,_,rfl⟩
 | pat n k=>exact .inr ⟨_,_,rfl⟩
structure Zz (w:World) (aL:Addr):Prop where
 q:ZG w (.iface 291 (.pointer (some aL)))
theorem Zz.below{w b:World}{a:Addr}(h:Zz w a)(c:Below w.heap.size w b):Zz b a:=⟨h.q.below c⟩
end Go.Proofs.YtdakgnaojakldabGreatDoor
