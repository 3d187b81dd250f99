/- P -/
import Derived.Test.YtdakgnaojakldaaGreatDoorK22
open Go.Proofs.Tryz
set_option maxRecDepth 100000
set_option maxHeartbeats 4000000
namespace Go.Proofs.YtdakgnaojakldaaGreatDoor
open Go.RowKit Go.Extern.Stop Go.Stop Go.Extern
def Jb(u:Value)(a:TypeId):Prop:=∀(W:World) (t:Addr),xE W->Calls prog 57 #[u,.iface a (.pointer (some t))] W λe w'=>e = .returned (.bool false)/\Below W.heap.size W w'
def dS(u:Value)(b:TypeId)(n:Nat)(x:Value):Prop:=∀(W:World) (a:Nat),xE W->(∀j,j<n->∃o,W.cell? ⟨a,j,none⟩=some o)->(∀j,j<n->W.frozen? ⟨a,j,none⟩=false) ->
 Calls prog 57 #[u,.iface b (.pointer (some ⟨a,0,none⟩))] W λe w'=>e = .returned (.bool true)/\w'.cell? ⟨a,0,none⟩=some x/\∀base,base<=a->base<=W.heap.size->Below base W w'
theorem Yl(w:World)(a b:Obj):Below w.heap.size w ((w.alloc a).alloc b):=(nbl w a).alloc (by simp) b
theorem Xg(T a E:TypeId)(v:Value)(d:uG T a)(c:yT E)(f:vP E)(b:Assign E T false):Jb (.iface E v) a:=λW t g=>
 XX T a E v t W g d false (λw'=>Below W.heap.size W w') (λO=>by
  refine (iQ E T v _ _ _ _ _ c f b).mono ?_;rintro e w' ⟨rfl,hb⟩;exact⟨rfl,(Yl W _ O).trans (hb.mono (Yl W _ O).size)⟩)
theorem XQ(T a E:TypeId)(n:Int)(v:Value)(f:uG T a)(d:yT E)(g:vP E)(b:Assign 138 T false)(c:Assign E T false):Jb (.iface 138 (.agg #[.int .i64 n,.iface E v])) a:=λW t h=>
 XX T a _ _ t W h f false (λw'=>Below W.heap.size W w') (λO=>by
  refine (DR E T n v _ _ _ _ _ JD d g b c).mono ?_;rintro e w' ⟨rfl,hb⟩;exact⟨rfl,(Yl W _ O).trans (hb.mono (Yl W _ O).size)⟩)
theorem Kr(E a:TypeId)(ok:Value->Prop)(x:Value)(h:uG E a)(l:yT E)(k:Assign E E true)(m:Qw E ok)(r:ok x):dS (.iface E (.agg #[x])) a 1 x:=λW b q n p=>by
 obtain⟨o,g⟩:=n 0 (by omega);have f:=p 0 (by omega);refine XX E a E (.agg #[x]) ⟨b,0,none⟩ W q h true (λw'=>w'.cell? ⟨b,0,none⟩=some x/\∀base,base<=b->base<=W.heap.size->Below base W w') (λO=>?_);refine (iP E a ok x _ o ⟨W.heap.size,0,none⟩ ⟨b,0,none⟩ _ l k h m r (zQ (XY W _ _) O) (zQ (zQ g _) O) (jV (zQ g _) (jV g f _) O)).mono ?_;rintro e w' ⟨rfl,i,j⟩;refine⟨rfl,i,λbase c d=>?_⟩;exact (((zf base W).alloc d _).alloc (by simp;omega) O).trans (j base c (by simp;omega))
theorem wD(E a:TypeId)(ok:Value->Prop)(n:Int)(x:Value)(h:uG E a)(l:yT E)(p:Assign 138 E false)(k:Assign E E true)(m:Qw E ok)(t:ok x):dS (.iface 138 (.agg #[.int .i64 n,.iface E (.agg #[x])])) a 1 x:=λW b s q r=>by
 obtain⟨o,g⟩:=q 0 (by omega);have f:=r 0 (by omega);refine XX E a _ _ ⟨b,0,none⟩ W s h true (λw'=>w'.cell? ⟨b,0,none⟩=some x/\∀base,base<=b->base<=W.heap.size->Below base W w') (λO=>?_);refine (DN E a ok n x _ o ⟨W.heap.size,0,none⟩ ⟨b,0,none⟩ _ JD l p k h m t (zQ (XY W _ _) O) (zQ (zQ g _) O) (jV (zQ g _) (jV g f _) O)).mono ?_;rintro e w' ⟨rfl,i,j⟩;refine⟨rfl,i,λbase c d=>?_⟩;exact (((zf base W).alloc d _).alloc (by simp;omega) O).trans (j base c (by simp;omega))
def ed(u EL:Value):Prop:=∀W:World,Calls prog 56 #[u,EL] W λe w'=>e = .returned (.bool false)/\Below W.heap.size W w'
theorem OU(p:BY)(w:World)(f:xE w) :
  Calls prog 58 #[.iface 125 (.agg #[.string p])] w λe w'=>e = .returned (.tuple #[.int .i64 5,.int .i64 0])/\Below w.heap.size w w':=by
 have d:=λg i=>Yl w g i;have c1:=λW t h=>Xg 138 229 125 (.agg #[.string p]) dO Zk ZO wT W t h;have c2:=λW t h=>Xg 228 230 125 (.agg #[.string p]) dM Zk ZO fK W t h;go_enter func58,ntmps58
 go_wp2_with (first
  | (go_at_call 57;refine (c2 w1 _ (f.below a)).mono ?_;rintro e j ⟨rfl,c⟩)
  | (go_at_call 57;refine (c1 _ _ (f.below (d _ _))).mono ?_;rintro e w1 ⟨rfl,b⟩;have a:Below w.heap.size w w1:=(d _ _).trans (b.mono (by simp;omega))))
 go_ret2;exact⟨rfl,a.trans (c.mono a.size)⟩
theorem QK{W:World}{cs:Array Value}{t:TypeId}{b:Nat}(h:W.heap[b]?=some (.cells cs t (0,0)))(n:Nat)(c:n<=cs.size):(∀j,j<n->∃o,W.cell? ⟨b,j,none⟩=some o)/\(∀j,j<n->W.frozen? ⟨b,j,none⟩=false):=by
 refine⟨λj a=>⟨cs[j]'(by omega),?_⟩,λj _=>(zg h j).2⟩;rw[(zg h j).1];exact Array.getElem?_eq_getElem (by omega)
theorem DL(q E:TypeId)(n:Int)(v i o p:Value)(a:Addr)(c:Nat)(w:World)(k:yT 138)(j:Assign 138 138 true)(l:uG 138 q)
  (m:w.cell? a=some (.pointer (some ⟨c,0,none⟩)))(f:w.cell? ⟨c,0,none⟩=some o)(h:w.cell? ⟨c,1,none⟩=some p)(f1:w.frozen? ⟨c,0,none⟩=false)(f2:w.frozen? ⟨c,1,none⟩=false) :
  Calls prog 108 #[.iface 138 (.agg #[.int .i64 n,.iface E v]),i,.agg #[.pointer (some ⟨7,q,none⟩),.pointer (some a),.int .u64 150],.iface 283 (.agg #[.pointer (some ⟨7,138,none⟩)])] w λe w'=>
   e = .returned (.bool true)/\w'.cell? ⟨c,0,none⟩=some (.int .i64 n)/\(∀base,base<=c->base<=w.heap.size->Below base w w')/\∀b,b<w.heap.size->b≠c->w'.heap[b]?=w.heap[b]?:=by
 have s:=@xC prog 103 _ ReflectliteType.typeOf func103 (by kernel_rfl) (by kernel_rfl) (by kernel_rfl) (by kernel_rfl)
 have x:=@xC prog 306 _ (ReflectliteType.relation "AssignableTo" ReflectliteType.assignableTo) func306 (by kernel_rfl) (by kernel_rfl) (by kernel_rfl) (by kernel_rfl)
 have A:=@xC prog 105 _ (λargs=>ReflectliteValue.unpack (args.getD 0 (.tuple #[]))) func105 (by kernel_rfl) (by kernel_rfl) (by kernel_rfl) (by kernel_rfl)
 have t:=@xC prog 156 _ (ReflectliteValue.method (ReflectliteValue.valueError "reflectlite.Value.Elem" 0) ReflectliteValue.elem) func156 (by kernel_rfl) (by kernel_rfl) (by kernel_rfl) (by kernel_rfl)
 have u:=@xC prog 157 _ ReflectliteValue.set func157 (by kernel_rfl) (by kernel_rfl) (by kernel_rfl) (by kernel_rfl);have C:=k.typeOf;have B:=Tryz.erAssignableTo;have r:=j;unfold Assign at r;have D:=λw=>Tryz.stHeld n (.iface E v) w;have z:=λO=>l.elemV a ⟨c,0,none⟩ (w.alloc O) (zQ m O);have st:=λO=>Tryz.stSet c (w.heap.size+1) n E v o p ((w.alloc O).alloc (.cells #[.int .i64 n,.iface E v] 138)) (by rw[Km _ _ _ _ (by simp)];rfl) (by rw[Km _ _ _ _ (by simp)];rfl) (zQ (zQ f O) _) (zQ (zQ h O) _) (jV (zQ f O) (jV f f1 O) _) (jV (zQ h O) (jV h f2 O) _);have fin:=λO=>(qK (((w.alloc O).alloc (.cells #[.int .i64 n,.iface E v] 138)).setCell ⟨c,0,none⟩ (.int .i64 n)) ⟨c,1,none⟩ ⟨c,0,none⟩ (.iface E v) (by simp)).trans (uH ((w.alloc O).alloc (.cells #[.int .i64 n,.iface E v] 138)) ⟨c,0,none⟩ (.int .i64 n) (zQ (zQ f O) (.cells #[.int .i64 n,.iface E v] 138)));clear j l m k;go_enter func108,ntmps108
 go_wp2
 refine Ym 1 ?_;rw[Qp]
 go_wp2
 go_ret;refine⟨rfl,fin _,λbase d g=>?_,λb hb y=>?_⟩
 ·exact ((((zf base w).alloc g _).alloc (by simp;omega) _).setCell d _).setCell d _
 ·rw[qb _ _ _ _ (by simp only;omega),qb _ _ _ _ (by simp only;omega),kX _ _ _ (by simp;omega),kX _ _ _ hb]
theorem fI(E:TypeId)(n:Int)(v:Value)(W:World)(a:Nat)(s:xE W)(l:∀j,j<2->∃o,W.cell? ⟨a,j,none⟩=some o)(m:∀j,j<2->W.frozen? ⟨a,j,none⟩=false) :
  Calls prog 57 #[.iface 138 (.agg #[.int .i64 n,.iface E v]),.iface 229 (.pointer (some ⟨a,0,none⟩))] W λe w'=>e = .returned (.bool true)/\w'.cell? ⟨a,0,none⟩=some (.int .i64 n)/\(∀base,base<=a->base<=W.heap.size->Below base W w')/\∀b,b<W.heap.size->b≠a->w'.heap[b]?=W.heap[b]?:=by
 obtain⟨o,k⟩:=l 0 (by omega);obtain⟨t,c⟩:=l 1 (by omega);have g:=m 0 (by omega);have h:=m 1 (by omega);refine XX 138 229 _ _ ⟨a,0,none⟩ W s dO true (λw'=>w'.cell? ⟨a,0,none⟩=some (.int .i64 n)/\(∀base,base<=a->base<=W.heap.size->Below base W w')/\∀b,b<W.heap.size->b≠a->w'.heap[b]?=W.heap[b]?) (λO=>?_);refine (DL 229 E n v _ o t ⟨W.heap.size,0,none⟩ a _ JD wU dO (zQ (XY W _ _) O) (zQ (zQ k _) O) (zQ (zQ c _) O) (jV (zQ k _) (jV k g _) O) (jV (zQ c _) (jV c h _) O)).mono ?_;rintro e w' ⟨rfl,p,q,r⟩;refine⟨rfl,p,λbase d f=>?_,λb hb i=>?_⟩
 ·exact (((zf base W).alloc f _).alloc (by simp;omega) O).trans (q base d (by simp;omega))
 ·rw[r b (by simp;omega) i,kX _ _ _ (by simp;omega),kX _ _ _ hb]
theorem OX(n:Nat)(p:BY)(w:World)(g:xE w) :
  Calls prog 58 #[.iface 138 (.agg #[.int .i64 (n:Int),.iface 125 (.agg #[.string p])])] w λe w'=>e = .returned (.tuple #[.int .i64 5,.int .i64 (n:Int)])/\Below w.heap.size w w':=by
 have f:=λj b=>Yl w j b;have c1:=λW o h k l=>fI 125 (n:Int) (.agg #[.string p]) W o h k l;have c2:=λW t h=>XQ 228 230 125 (n:Int) (.agg #[.string p]) dM Zk ZO fQ fK W t h;have i:=λb=>QK (uu w (.cells #[.int .i64 0,.nilIface] 138) b).1 2 (by decide);go_enter func58,ntmps58
 go_wp2_with (first
  | (go_at_call 57;refine (c2 w1 _ (g.below a)).mono ?_;rintro e q ⟨rfl,d⟩)
  | (go_at_call 57;refine (c1 _ w.heap.size (g.below (f _ _)) (i _).1 (i _).2).mono ?_;rintro e w1 ⟨rfl,m,c,_⟩;have a:Below w.heap.size w w1:=(f _ _).trans (c _ (ze _) (by simp;omega))))
 go_ret2;exact⟨rfl,a.trans (d.mono a.size)⟩
theorem OV(n:Nat)(k:Int)(w:World)(m:xE w) :
  Calls prog 58 #[.iface 138 (.agg #[.int .i64 (n:Int),.iface 228 (.agg #[.int .i64 k])])] w λe w'=>e = .returned (.tuple #[.int .i64 6,.int .i64 (n:Int)])/\Below w.heap.size w w':=by
 have l:=λq b=>Yl w q b;have c1:=λW j h c d=>fI 228 (n:Int) (.agg #[.int .i64 k]) W j h c d;have c2:=λW j h c d=>wD 228 230 _ (n:Int) (.int .i64 k) dM YM fQ wL FJ ⟨k,rfl⟩ W j h c d;have o:=λb=>QK (uu w (.cells #[.int .i64 0,.nilIface] 138) b).1 2 (by decide);have t:=(uu w (.cells #[.int .i64 0,.nilIface] 138) (.cells #[.int .i64 0] 228)).2;go_enter func58,ntmps58
 go_wp2_with (first
  | (go_at_call 57;refine (c2 w1 (w.heap.size+1) (m.below a) p.1 p.2).mono ?_;rintro e u ⟨rfl,s,g⟩)
  | (go_at_call 57;refine (c1 _ w.heap.size (m.below (l _ _)) (o _).1 (o _).2).mono ?_;rintro e w1 ⟨rfl,r,f,i⟩;have a:Below w.heap.size w w1:=(l _ _).trans (f _ (ze _) (by simp;omega));have p:=QK ((i (w.heap.size+1) (by simp) (by omega)).trans t) 1 (by decide)))
 go_ret2;exact⟨rfl,a.trans (g _ (by omega) a.size)⟩
theorem DI(b:Addr)(w:World) :
  Calls prog 56 #[.iface 418 (.pointer (some b)),.iface 418 (.pointer (some b))] w λe w'=>e = .returned (.bool true)/\w'=w:=by
 have m:=@xC prog 103 _ ReflectliteType.typeOf func103 (by kernel_rfl) (by kernel_rfl) (by kernel_rfl) (by kernel_rfl);have o:=Tryz.erTypeLong;have n:=Tryz.erComparable
 have l:=@xC prog 307 _ (ReflectliteType.method (λt=>do Rtype.noPackHeld "Comparable" t;pure (.bool (<- typeInfo t).comparable))) func307 (by kernel_rfl) (by kernel_rfl) (by kernel_rfl) (by kernel_rfl)
 have g:=Tryz.erComparableLong
 obtain⟨i,hi,a⟩:∃i,prog.info? 418=some i/\i.comparable=true:=by
  have h:(prog.info? 418).map (·.comparable)=some true:=by kernel_rfl
  obtain⟨i,d,f⟩:=Qb.1 h;exact⟨i,d,f⟩
 obtain⟨j,c⟩:∃j,prog.info? 437=some j:=by
  have h:(prog.info? 437).isSome=true:=by kernel_rfl
  exact Option.isSome_iff_exists.1 h
 have k:=λW=>run_eql_iface_ptr_same (P:=prog) (w:=W) b underlying74 underlying418 hi a c;clear hi a c;go_enter func56,ntmps56
 go_wp2
 refine Ym 1 ?_;rw[Qp]
 go_wp2
 go_ret;exact⟨rfl,rfl⟩
theorem RX(w:World)(a b c:Obj):Below w.heap.size w (((w.alloc a).alloc b).alloc c)/\(((w.alloc a).alloc b).alloc c).heap[w.heap.size]?=some a/\(((w.alloc a).alloc b).alloc c).heap[w.heap.size+1]?=some b/\(((w.alloc a).alloc b).alloc c).heap[w.heap.size+2]?=some c:=by
 refine⟨((nbl _ _).alloc (by simp) _).alloc (by simp;omega) _,?_,?_,?_⟩
 ·rw[kX _ _ _ (by simp;omega)];exact (uu w a b).1
 ·rw[kX _ _ _ (by simp)];exact (uu w a b).2
 ·have h:=zO ((w.alloc a).alloc b) c;rw[jQ,jQ] at h;exact h
theorem boxes(w:World):Below w.heap.size w (((w.alloc (.cells #[.int .i64 0] 140)).alloc (.cells #[.int .i64 0] 141)).alloc (.cells #[.int .i64 0] 142)) /\
  (((w.alloc (.cells #[.int .i64 0] 140)).alloc (.cells #[.int .i64 0] 141)).alloc (.cells #[.int .i64 0] 142)).heap[w.heap.size]?=some (.cells #[.int .i64 0] 140) /\
  (((w.alloc (.cells #[.int .i64 0] 140)).alloc (.cells #[.int .i64 0] 141)).alloc (.cells #[.int .i64 0] 142)).heap[w.heap.size+1]?=some (.cells #[.int .i64 0] 141) /\
  (((w.alloc (.cells #[.int .i64 0] 140)).alloc (.cells #[.int .i64 0] 141)).alloc (.cells #[.int .i64 0] 142)).heap[w.heap.size+2]?=some (.cells #[.int .i64 0] 142):=RX w _ _ _
theorem K7(E:TypeId)(v EL:Value)(u:TypeId)(D:Value)(i:EL = .iface u D)(c:Int)(q:Nat)(w:World)(s:xE w)(t:w.cell? ⟨0,0,none⟩=some EL)(x:ed (.iface E v) EL)(A:Jb (.iface E v) 145)(B:Jb (.iface E v) 146)(C:Jb (.iface E v) 147)
  (z:∀W,xE W->Calls prog 58 #[.iface E v] W λe w'=>e = .returned (.tuple #[.int .i64 c,.int .i64 (q:Int)])/\Below W.heap.size W w') :
  Calls prog 33 #[.iface E v] w λe w'=>e = .returned (.tuple #[.int .i64 c,.int .i64 (q:Int)])/\Below w.heap.size w w':=by
 obtain⟨h,_,_,_⟩:=boxes w;have y:=zh h t;have g:∀W,Below w.heap.size w W->xE W:=λW hb=>s.below hb;subst i;clear s t;go_enter func33,ntmps33
 go_wp2_with (first
  | (go_at_call 58;refine (z r (g r f)).mono ?_;rintro e F ⟨rfl,n⟩)
  | (go_at_call 57;refine (C p _ (g p d)).mono ?_;rintro e r ⟨rfl,m⟩;have f:Below w.heap.size w r:=d.trans (m.mono d.size))
  | (go_at_call 57;refine (B o _ (g o b)).mono ?_;rintro e p ⟨rfl,l⟩;have d:Below w.heap.size w p:=b.trans (l.mono b.size))
  | (go_at_call 57;refine (A w1 _ (g w1 a)).mono ?_;rintro e o ⟨rfl,k⟩;have b:Below w.heap.size w o:=a.trans (k.mono a.size))
  | (go_at_call 56;refine (x _).mono ?_;rintro e w1 ⟨rfl,j⟩;have a:Below w.heap.size w w1:=h.trans (j.mono h.size)))
 go_ret2;exact⟨rfl,f.trans (n.mono f.size)⟩
theorem V6(E:TypeId)(v:Value)(a:Addr)(b:yT E)(c:vP E):ed (.iface E v) (.iface 418 (.pointer (some a))):=λW=>by
 refine (DJ E v a W b c).mono ?_;rintro e w' ⟨rfl,rfl⟩;exact⟨rfl,zf _ _⟩
theorem DV(w:World):Calls prog 33 #[.nilIface] w λe w'=>e = .returned (.tuple #[.int .i64 0,.int .i64 0])/\Below w.heap.size w w':=by
 obtain⟨a,_,_,_⟩:=boxes w;go_enter func33,ntmps33
 go_wp2
 go_ret2;exact⟨rfl,a⟩
theorem DU(a:Addr)(w:World)(c:w.cell? ⟨0,0,none⟩=some (.iface 418 (.pointer (some a)))):Calls prog 33 #[.iface 418 (.pointer (some a))] w λe w'=>e = .returned (.tuple #[.int .i64 1,.int .i64 0])/\Below w.heap.size w w':=by
 obtain⟨b,_,_,_⟩:=boxes w;have d:=zh b c;clear c;go_enter func33,ntmps33
 go_wp2_with (go_at_call 56;refine (DI a _).mono ?_;rintro e w1 ⟨rfl,rfl⟩)
 go_ret2;exact⟨rfl,b⟩
theorem DX(k:Int)(i:Addr)(w:World)(j:xE w)(l:w.cell? ⟨0,0,none⟩=some (.iface 418 (.pointer (some i)))) :
  Calls prog 33 #[.iface 140 (.agg #[.int .i64 k])] w λe w'=>e = .returned (.tuple #[.int .i64 2,.int .i64 k])/\Below w.heap.size w w':=by
 obtain⟨f,m,s,q2⟩:=boxes w;have q:=zh f l;have n:∀W,Below w.heap.size w W->xE W:=λW hb=>j.below hb;have p:=V6 140 (.agg #[.int .i64 k]) i iR LJ;have o:=Kr 140 145 _ (.int .i64 k) Y9 iR wW FL ⟨k,rfl⟩;have r:=m;clear j l m s q2;go_enter func33,ntmps33
 go_wp2_with (first
  | (go_at_call 57;refine (o w1 (w.heap.size) (n w1 b) (QK d 1 (by decide)).1 (QK d 1 (by decide)).2).mono ?_;rintro e v ⟨rfl,u,g⟩)
  | (go_at_call 56;refine (p _).mono ?_;rintro e w1 ⟨rfl,a⟩;have b:Below w.heap.size w w1:=f.trans (a.mono f.size);have d:=(a.block (w.heap.size) (by first|(simp;done)|(simp;omega))).trans r;have t:w.heap.size+3<=w1.heap.size:=(by have:=a.size;simp at this;omega)))
 go_quiet (fail)
 go_wp2
 go_ret2;have c:=g w.heap.size (by omega) (b.size);refine⟨rfl,?_⟩;have h:=b.trans c;exact⟨h.os,h.tape,h.output,h.size,h.block⟩
theorem DT(k:Int)(o:Addr)(w:World)(q:xE w)(r:w.cell? ⟨0,0,none⟩=some (.iface 418 (.pointer (some o)))) :
  Calls prog 33 #[.iface 141 (.agg #[.int .i64 k])] w λe w'=>e = .returned (.tuple #[.int .i64 3,.int .i64 k])/\Below w.heap.size w w':=by
 obtain⟨j,A,s,q2⟩:=boxes w;have x:=zh j r;have p:∀W,Below w.heap.size w W->xE W:=λW hb=>q.below hb;have v:=V6 141 (.agg #[.int .i64 k]) o K5 nI;have z:=λW t h=>Xg 140 145 141 (.agg #[.int .i64 k]) Y9 K5 nI wI W t h;have u:=Kr 141 146 _ (.int .i64 k) Vf K5 wH FH ⟨k,rfl⟩;have y:=s;clear q r A s q2;go_enter func33,ntmps33
 go_wp2_with (first
  | (go_at_call 57;refine (u i (w.heap.size+1) (p i d) (QK g 1 (by decide)).1 (QK g 1 (by decide)).2).mono ?_;rintro e D ⟨rfl,C,l⟩)
  | (go_at_call 57;refine (z w1 _ (p w1 c)).mono ?_;rintro e i ⟨rfl,b⟩;have d:Below w.heap.size w i:=c.trans (b.mono c.size);have g:=(b.block (w.heap.size+1) (by have:=c.size;have:=n;omega)).trans m;have B:w.heap.size+3<=i.heap.size:=(by have:=b.size;omega))
  | (go_at_call 56;refine (v _).mono ?_;rintro e w1 ⟨rfl,a⟩;have c:Below w.heap.size w w1:=j.trans (a.mono j.size);have m:=(a.block (w.heap.size+1) (by first|(simp;done)|(simp;omega))).trans y;have n:w.heap.size+3<=w1.heap.size:=(by have:=a.size;simp at this;omega)))
 go_quiet (fail)
 go_wp2
 go_ret2;have f:=l w.heap.size (by omega) (d.size);refine⟨rfl,?_⟩;have h:=d.trans f;exact⟨h.os,h.tape,h.output,h.size,h.block⟩
theorem DY(k:Int)(v:Addr)(w:World)(x:xE w)(y:w.cell? ⟨0,0,none⟩=some (.iface 418 (.pointer (some v)))) :
  Calls prog 33 #[.iface 142 (.agg #[.int .i64 k])] w λe w'=>e = .returned (.tuple #[.int .i64 4,.int .i64 k])/\Below w.heap.size w w':=by
 obtain⟨n,F,G,q2⟩:=boxes w;have B:=zh n y;have o:∀W,Below w.heap.size w W->xE W:=λW hb=>x.below hb;have A:=V6 142 (.agg #[.int .i64 k]) v VX bg;have D:=λW t h=>Xg 140 145 142 (.agg #[.int .i64 k]) Y9 VX bg wY W t h;have E:=λW t h=>Xg 141 146 142 (.agg #[.int .i64 k]) Vf VX bg wX W t h;have z:=Kr 142 147 _ (.int .i64 k) UM VX wZ FM ⟨k,rfl⟩;have C:=q2;clear x y F G q2;go_enter func33,ntmps33
 go_wp2_with (first
  | (go_at_call 57;refine (z m (w.heap.size+2) (o m g) (QK j 1 (by decide)).1 (QK j 1 (by decide)).2).mono ?_;rintro e J ⟨rfl,I,p⟩)
  | (go_at_call 57;refine (E l _ (o l f)).mono ?_;rintro e m ⟨rfl,c⟩;have g:Below w.heap.size w m:=f.trans (c.mono f.size);have j:=(c.block (w.heap.size+2) (by have:=f.size;have:=u;omega)).trans r;have H:w.heap.size+3<=m.heap.size:=(by have:=c.size;omega))
  | (go_at_call 57;refine (D w1 _ (o w1 d)).mono ?_;rintro e l ⟨rfl,b⟩;have f:Below w.heap.size w l:=d.trans (b.mono d.size);have r:=(b.block (w.heap.size+2) (by have:=d.size;have:=s;omega)).trans q;have u:w.heap.size+3<=l.heap.size:=(by have:=b.size;omega))
  | (go_at_call 56;refine (A _).mono ?_;rintro e w1 ⟨rfl,a⟩;have d:Below w.heap.size w w1:=n.trans (a.mono n.size);have q:=(a.block (w.heap.size+2) (by first|(simp;done)|(simp;omega))).trans C;have s:w.heap.size+3<=w1.heap.size:=(by have:=a.size;simp at this;omega)))
 go_quiet (fail)
 go_wp2
 go_ret2;have i:=p w.heap.size (by omega) (g.size);refine⟨rfl,?_⟩;have h:=g.trans i;exact⟨h.os,h.tape,h.output,h.size,h.block⟩
theorem DW(c:Int)(q:Nat)(u:Value)(a:Addr)(w:World)(d:xE w)(b:w.cell? ⟨0,0,none⟩=some (.iface 418 (.pointer (some a))))(h:kZ (.iface 418 (.pointer (some a))) c q u) :
  Calls prog 33 #[u] w λe w'=>e = .returned (.tuple #[.int .i64 c,.int .i64 (q:Int)])/\Below w.heap.size w w':=by
 cases h with
 | ok=>exact DV w
 | long=>exact DU a w b
 | text _ _ g=>
  rcases g with rfl|rfl|rfl
  ·exact DX _ a w d b
  ·exact DT _ a w d b
  ·exact DY _ a w d b
 | doc p=>
  exact K7 _ _ _ _ _ rfl 5 0 w d b (V6 _ _ a Zk ZO) (Xg _ _ _ _ Y9 Zk ZO fM) (Xg _ _ _ _ Vf Zk ZO fJ) (Xg _ _ _ _ UM Zk ZO fO) (λW f=>OU p W f)
 | shape n p=>
  exact K7 _ _ _ _ _ rfl 5 q w d b (λW=>iO _ _ _ a W JD Zk ZO) (XQ _ _ _ _ _ Y9 Zk ZO fT fM) (XQ _ _ _ _ _ Vf Zk ZO fP fJ) (XQ _ _ _ _ _ UM Zk ZO fU fO) (λW f=>OX q p W f)
 | pat n k=>
  exact K7 _ _ _ _ _ rfl 6 q w d b (λW=>iO _ _ _ a W JD YM JY) (XQ _ _ _ _ _ Y9 YM JY fT wO) (XQ _ _ _ _ _ Vf YM JY fP wJ) (XQ _ _ _ _ _ UM YM JY fU wQ) (λW f=>OV q k W f)
theorem kZ.form{EL:Value}{c:Int}{q:Nat}{u:Value}(h:kZ EL c q u)(a:∃T y,EL = .iface T y):u = .nilIface\/∃T y,u = .iface T y:=by
 cases h with
 | ok=>exact .inl rfl
 | long=>exact .inr a
 | text _ _ _=>obtain⟨T,b⟩:=XZ c q;exact .inr ⟨T,_,b⟩
 | doc p=>exact .inr ⟨_,_,rfl⟩
 | shape n p=>exact .inr ⟨_,_,rfl⟩
 | pat n k=>exact .inr ⟨_,_,rfl⟩
structure ZZ (w:World) (aL:Addr):Prop where
 q:QB w (.iface 418 (.pointer (some aL)))
theorem ZZ.below{w w':World}{a:Addr}(h:ZZ w a)(hb:Below w.heap.size w w'):ZZ w' a:=⟨h.q.below hb⟩
end Go.Proofs.YtdakgnaojakldaaGreatDoor
