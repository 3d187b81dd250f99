/- P -/
import Derived.Test.YtagnlbgbnfnapaaGreatDoorK22
open Go.Proofs.Tryz
set_option maxRecDepth 100000
set_option maxHeartbeats 4000000
namespace Go.Proofs.YtagnlbgbnfnapaaGreatDoor
open Go.RowKit Go.Extern.Stop Go.Stop Go.Extern
def Jg(u:Value)(a:TypeId):Prop:=∀(W:World) (t:Addr),xH W->Calls prog 59 #[u,.iface a (.pointer (some t))] W λe w'=>e = .returned (.bool false)/\Below W.heap.size W w'
def U2(u:Value)(b:TypeId)(n:Nat)(x:Value):Prop:=∀(W:World) (a:Nat),xH W->(∀j,j<n->∃o,W.cell? ⟨a,j,none⟩=some o)->(∀j,j<n->W.frozen? ⟨a,j,none⟩=false) ->
 Calls prog 59 #[u,.iface b (.pointer (some ⟨a,0,none⟩))] W λe w'=>e = .returned (.bool true)/\w'.cell? ⟨a,0,none⟩=some x/\∀base,base<=a->base<=W.heap.size->Below base W w'
theorem Yp(w:World)(a b:Obj):Below w.heap.size w ((w.alloc a).alloc b):=(nbl w a).alloc (by simp) b
theorem Xk(T a E:TypeId)(v:Value)(d:uj T a)(c:yN E)(f:vR E)(b:Assign E T false):Jg (.iface E v) a:=λW t g=>
 Xq T a E v t W g d false (λw'=>Below W.heap.size W w') (λO=>by
  refine (lG E T v _ _ _ _ _ c f b).mono ?_;rintro e w' ⟨rfl,hb⟩;exact⟨rfl,(Yp W _ O).trans (hb.mono (Yp W _ O).size)⟩)
theorem XY(T a E:TypeId)(n:Int)(v:Value)(f:uj T a)(d:yN E)(g:vR E)(b:Assign 143 T false)(c:Assign E T false):Jg (.iface 143 (.agg #[.int .i64 n,.iface E v])) a:=λW t h=>
 Xq T a _ _ t W h f false (λw'=>Below W.heap.size W w') (λO=>by
  refine (Em E T n v _ _ _ _ _ YQ d g b c).mono ?_;rintro e w' ⟨rfl,hb⟩;exact⟨rfl,(Yp W _ O).trans (hb.mono (Yp W _ O).size)⟩)
theorem KH(E a:TypeId)(ok:Value->Prop)(x:Value)(h:uj E a)(l:yN E)(k:Assign E E true)(m:QA E ok)(r:ok x):U2 (.iface E (.agg #[x])) a 1 x:=λW b q n p=>by
 obtain⟨o,g⟩:=n 0 (by omega);have f:=p 0 (by omega);refine Xq E a E (.agg #[x]) ⟨b,0,none⟩ W q h true (λw'=>w'.cell? ⟨b,0,none⟩=some x/\∀base,base<=b->base<=W.heap.size->Below base W w') (λO=>?_);refine (lF E a ok x _ o ⟨W.heap.size,0,none⟩ ⟨b,0,none⟩ _ l k h m r (zF (Xr W _ _) O) (zF (zF g _) O) (x9 (zF g _) (x9 g f _) O)).mono ?_;rintro e w' ⟨rfl,i,j⟩;refine⟨rfl,i,λbase c d=>?_⟩;exact (((zf base W).alloc d _).alloc (by simp;omega) O).trans (j base c (by simp;omega))
theorem Ad(E a:TypeId)(ok:Value->Prop)(n:Int)(x:Value)(h:uj E a)(l:yN E)(p:Assign 143 E false)(k:Assign E E true)(m:QA E ok)(t:ok x):U2 (.iface 143 (.agg #[.int .i64 n,.iface E (.agg #[x])])) a 1 x:=λW b s q r=>by
 obtain⟨o,g⟩:=q 0 (by omega);have f:=r 0 (by omega);refine Xq E a _ _ ⟨b,0,none⟩ W s h true (λw'=>w'.cell? ⟨b,0,none⟩=some x/\∀base,base<=b->base<=W.heap.size->Below base W w') (λO=>?_);refine (El E a ok n x _ o ⟨W.heap.size,0,none⟩ ⟨b,0,none⟩ _ YQ l p k h m t (zF (Xr W _ _) O) (zF (zF g _) O) (x9 (zF g _) (x9 g f _) O)).mono ?_;rintro e w' ⟨rfl,i,j⟩;refine⟨rfl,i,λbase c d=>?_⟩;exact (((zf base W).alloc d _).alloc (by simp;omega) O).trans (j base c (by simp;omega))
theorem Tq(E:TypeId)(n:Int)(v:Value):U2 (.iface 143 (.agg #[.int .i64 n,.iface E v])) 217 2 (.int .i64 n):=λW b m i j=>by
 obtain⟨o,h⟩:=i 0 (by omega);obtain⟨p,a⟩:=i 1 (by omega);have f:=j 0 (by omega);have g:=j 1 (by omega);refine Xq 143 217 _ _ ⟨b,0,none⟩ W m Vn true (λw'=>w'.cell? ⟨b,0,none⟩=some (.int .i64 n)/\∀base,base<=b->base<=W.heap.size->Below base W w') (λO=>?_);refine (Ei 217 E n v _ o p ⟨W.heap.size,0,none⟩ b _ YQ gL Vn (zF (Xr W _ _) O) (zF (zF h _) O) (zF (zF a _) O) (x9 (zF h _) (x9 h f _) O) (x9 (zF a _) (x9 a g _) O)).mono ?_;rintro e w' ⟨rfl,k,l⟩;refine⟨rfl,k,λbase c d=>?_⟩;exact (((zf base W).alloc d _).alloc (by simp;omega) O).trans (l base c (by simp;omega))
def eZ(u EL:Value):Prop:=∀W:World,Calls prog 58 #[u,EL] W λe w'=>e = .returned (.bool false)/\Below W.heap.size W w'
theorem Ps(p:BY)(w:World)(f:xH w) :
  Calls prog 60 #[.iface 129 (.agg #[.string p])] w λe w'=>e = .returned (.tuple #[.int .i64 5,.int .i64 0])/\Below w.heap.size w w':=by
 have d:=λg i=>Yp w g i;have c1:=λW t h=>Xk 143 217 129 (.agg #[.string p]) Vn Zm ZQ Ao W t h;have c2:=λW t h=>Xk 216 218 129 (.agg #[.string p]) dY Zm ZQ gG W t h;go_enter func60,ntmps60
 go_wp2_with (first
  | (go_at_call 59;refine (c2 w1 _ (f.below a)).mono ?_;rintro e j ⟨rfl,c⟩)
  | (go_at_call 59;refine (c1 _ _ (f.below (d _ _))).mono ?_;rintro e w1 ⟨rfl,b⟩;have a:Below w.heap.size w w1:=(d _ _).trans (b.mono (by simp;omega))))
 go_ret2;exact⟨rfl,a.trans (c.mono a.size)⟩
theorem QN{W:World}{cs:Array Value}{t:TypeId}{b:Nat}(h:W.heap[b]?=some (.cells cs t (0,0)))(n:Nat)(c:n<=cs.size):(∀j,j<n->∃o,W.cell? ⟨b,j,none⟩=some o)/\(∀j,j<n->W.frozen? ⟨b,j,none⟩=false):=by
 refine⟨λj a=>⟨cs[j]'(by omega),?_⟩,λj _=>(zg h j).2⟩;rw[(zg h j).1];exact eF (by omega)
theorem Ej(q E:TypeId)(n:Int)(v i o p:Value)(a:Addr)(c:Nat)(w:World)(k:yN 143)(j:Assign 143 143 true)(l:uj 143 q)
  (m:w.cell? a=some (.pointer (some ⟨c,0,none⟩)))(f:w.cell? ⟨c,0,none⟩=some o)(h:w.cell? ⟨c,1,none⟩=some p)(f1:w.frozen? ⟨c,0,none⟩=false)(f2:w.frozen? ⟨c,1,none⟩=false) :
  Calls prog 107 #[.iface 143 (.agg #[.int .i64 n,.iface E v]),i,.agg #[.pointer (some ⟨7,q,none⟩),.pointer (some a),.int .u64 150],.iface 289 (.agg #[.pointer (some ⟨7,143,none⟩)])] w λe w'=>
   e = .returned (.bool true)/\w'.cell? ⟨c,0,none⟩=some (.int .i64 n)/\(∀base,base<=c->base<=w.heap.size->Below base w w')/\∀b,b<w.heap.size->b≠c->w'.heap[b]?=w.heap[b]?:=by
 have s:=@qQ prog 102 _ ReflectliteType.typeOf func102 (by kernel_rfl) (by kernel_rfl) (by kernel_rfl) (by kernel_rfl)
 have x:=@qQ prog 299 _ (ReflectliteType.relation "AssignableTo" ReflectliteType.assignableTo) func299 (by kernel_rfl) (by kernel_rfl) (by kernel_rfl) (by kernel_rfl)
 have A:=@qQ prog 104 _ (λargs=>ReflectliteValue.unpack (args.getD 0 (.tuple #[]))) func104 (by kernel_rfl) (by kernel_rfl) (by kernel_rfl) (by kernel_rfl)
 have t:=@qQ prog 153 _ (ReflectliteValue.method (ReflectliteValue.valueError "reflectlite.Value.Elem" 0) ReflectliteValue.elem) func153 (by kernel_rfl) (by kernel_rfl) (by kernel_rfl) (by kernel_rfl)
 have u:=@qQ prog 154 _ ReflectliteValue.set func154 (by kernel_rfl) (by kernel_rfl) (by kernel_rfl) (by kernel_rfl);have C:=k.typeOf;have B:=Tryz.erAssignableTo;have r:=j;unfold Assign at r;have D:=λw=>Tryz.stHeld n (.iface E v) w;have z:=λO=>l.elemV a ⟨c,0,none⟩ (w.alloc O) (zF m O);have st:=λO=>Tryz.stSet c (w.heap.size+1) n E v o p ((w.alloc O).alloc (.cells #[.int .i64 n,.iface E v] 143)) (by rw[JC _ _ _ _ (by simp)];rfl) (by rw[JC _ _ _ _ (by simp)];rfl) (zF (zF f O) _) (zF (zF h O) _) (x9 (zF f O) (x9 f f1 O) _) (x9 (zF h O) (x9 h f2 O) _);have fin:=λO=>(qH (((w.alloc O).alloc (.cells #[.int .i64 n,.iface E v] 143)).setCell ⟨c,0,none⟩ (.int .i64 n)) ⟨c,1,none⟩ ⟨c,0,none⟩ (.iface E v) (by simp)).trans (uk ((w.alloc O).alloc (.cells #[.int .i64 n,.iface E v] 143)) ⟨c,0,none⟩ (.int .i64 n) (zF (zF f O) (.cells #[.int .i64 n,.iface E v] 143)));clear j l m k;go_enter func107,ntmps107
 go_wp2
 refine XF 1 ?_;rw[ZX]
 go_wp2
 go_ret;refine⟨rfl,fin _,λbase d g=>?_,λb hb y=>?_⟩
 ·exact ((((zf base w).alloc g _).alloc (by simp;omega) _).setCell d _).setCell d _
 ·rw[qc _ _ _ _ (by simp only;omega),qc _ _ _ _ (by simp only;omega),Za _ _ _ (by simp;omega),Za _ _ _ hb]
theorem gD(E:TypeId)(n:Int)(v:Value)(W:World)(a:Nat)(s:xH W)(l:∀j,j<2->∃o,W.cell? ⟨a,j,none⟩=some o)(m:∀j,j<2->W.frozen? ⟨a,j,none⟩=false) :
  Calls prog 59 #[.iface 143 (.agg #[.int .i64 n,.iface E v]),.iface 217 (.pointer (some ⟨a,0,none⟩))] W λe w'=>e = .returned (.bool true)/\w'.cell? ⟨a,0,none⟩=some (.int .i64 n)/\(∀base,base<=a->base<=W.heap.size->Below base W w')/\∀b,b<W.heap.size->b≠a->w'.heap[b]?=W.heap[b]?:=by
 obtain⟨o,k⟩:=l 0 (by omega);obtain⟨t,c⟩:=l 1 (by omega);have g:=m 0 (by omega);have h:=m 1 (by omega);refine Xq 143 217 _ _ ⟨a,0,none⟩ W s Vn true (λw'=>w'.cell? ⟨a,0,none⟩=some (.int .i64 n)/\(∀base,base<=a->base<=W.heap.size->Below base W w')/\∀b,b<W.heap.size->b≠a->w'.heap[b]?=W.heap[b]?) (λO=>?_);refine (Ej 217 E n v _ o t ⟨W.heap.size,0,none⟩ a _ YQ gL Vn (zF (Xr W _ _) O) (zF (zF k _) O) (zF (zF c _) O) (x9 (zF k _) (x9 k g _) O) (x9 (zF c _) (x9 c h _) O)).mono ?_;rintro e w' ⟨rfl,p,q,r⟩;refine⟨rfl,p,λbase d f=>?_,λb hb i=>?_⟩
 ·exact (((zf base W).alloc f _).alloc (by simp;omega) O).trans (q base d (by simp;omega))
 ·rw[r b (by simp;omega) i,Za _ _ _ (by simp;omega),Za _ _ _ hb]
theorem Pv(n:Nat)(p:BY)(w:World)(g:xH w) :
  Calls prog 60 #[.iface 143 (.agg #[.int .i64 (n:Int),.iface 129 (.agg #[.string p])])] w λe w'=>e = .returned (.tuple #[.int .i64 5,.int .i64 (n:Int)])/\Below w.heap.size w w':=by
 have f:=λj b=>Yp w j b;have c1:=λW o h k l=>gD 129 (n:Int) (.agg #[.string p]) W o h k l;have c2:=λW t h=>XY 216 218 129 (n:Int) (.agg #[.string p]) dY Zm ZQ gK gG W t h;have i:=λb=>QN (uy w (.cells #[.int .i64 0,.nilIface] 143) b).1 2 (by decide);go_enter func60,ntmps60
 go_wp2_with (first
  | (go_at_call 59;refine (c2 w1 _ (g.below a)).mono ?_;rintro e q ⟨rfl,d⟩)
  | (go_at_call 59;refine (c1 _ w.heap.size (g.below (f _ _)) (i _).1 (i _).2).mono ?_;rintro e w1 ⟨rfl,m,c,_⟩;have a:Below w.heap.size w w1:=(f _ _).trans (c _ (ze _) (by simp;omega))))
 go_ret2;exact⟨rfl,a.trans (d.mono a.size)⟩
theorem Pt(n:Nat)(k:Int)(w:World)(m:xH w) :
  Calls prog 60 #[.iface 143 (.agg #[.int .i64 (n:Int),.iface 216 (.agg #[.int .i64 k])])] w λe w'=>e = .returned (.tuple #[.int .i64 6,.int .i64 (n:Int)])/\Below w.heap.size w w':=by
 have l:=λq b=>Yp w q b;have c1:=λW j h c d=>gD 216 (n:Int) (.agg #[.int .i64 k]) W j h c d;have c2:=λW j h c d=>Ad 216 218 _ (n:Int) (.int .i64 k) dY YP gK Ai Gf ⟨k,rfl⟩ W j h c d;have o:=λb=>QN (uy w (.cells #[.int .i64 0,.nilIface] 143) b).1 2 (by decide);have t:=(uy w (.cells #[.int .i64 0,.nilIface] 143) (.cells #[.int .i64 0] 216)).2;go_enter func60,ntmps60
 go_wp2_with (first
  | (go_at_call 59;refine (c2 w1 (w.heap.size+1) (m.below a) p.1 p.2).mono ?_;rintro e u ⟨rfl,s,g⟩)
  | (go_at_call 59;refine (c1 _ w.heap.size (m.below (l _ _)) (o _).1 (o _).2).mono ?_;rintro e w1 ⟨rfl,r,f,i⟩;have a:Below w.heap.size w w1:=(l _ _).trans (f _ (ze _) (by simp;omega));have p:=QN ((i (w.heap.size+1) (by simp) (by omega)).trans t) 1 (by decide)))
 go_ret2;exact⟨rfl,a.trans (g _ (by omega) a.size)⟩
theorem Ef(b:Addr)(w:World) :
  Calls prog 58 #[.iface 414 (.pointer (some b)),.iface 414 (.pointer (some b))] w λe w'=>e = .returned (.bool true)/\w'=w:=by
 have m:=@qQ prog 102 _ ReflectliteType.typeOf func102 (by kernel_rfl) (by kernel_rfl) (by kernel_rfl) (by kernel_rfl);have o:=Tryz.erTypeLong;have n:=Tryz.erComparable
 have l:=@qQ prog 300 _ (ReflectliteType.method (λt=>do Rtype.noPackHeld "Comparable" t;pure (.bool (<- typeInfo t).comparable))) func300 (by kernel_rfl) (by kernel_rfl) (by kernel_rfl) (by kernel_rfl)
 have g:=Tryz.erComparableLong
 obtain⟨i,hi,a⟩:∃i,prog.info? 414=some i/\i.comparable=true:=by
  have h:(prog.info? 414).map (·.comparable)=some true:=by kernel_rfl
  obtain⟨i,d,f⟩:=Qg.1 h;exact⟨i,d,f⟩
 obtain⟨j,c⟩:∃j,prog.info? 433=some j:=by
  have h:(prog.info? 433).isSome=true:=by kernel_rfl
  exact Option.isSome_iff_exists.1 h
 have k:=λW=>run_eql_iface_ptr_same (P:=prog) (w:=W) b underlying86 underlying414 hi a c;clear hi a c;go_enter func58,ntmps58
 go_wp2
 refine XF 1 ?_;rw[ZX]
 go_wp2
 go_ret;exact⟨rfl,rfl⟩
theorem Sw(w:World)(a b c:Obj):Below w.heap.size w (((w.alloc a).alloc b).alloc c)/\(((w.alloc a).alloc b).alloc c).heap[w.heap.size]?=some a/\(((w.alloc a).alloc b).alloc c).heap[w.heap.size+1]?=some b/\(((w.alloc a).alloc b).alloc c).heap[w.heap.size+2]?=some c:=by
 refine⟨((nbl _ _).alloc (by simp) _).alloc (by simp;omega) _,?_,?_,?_⟩
 ·rw[Za _ _ _ (by simp;omega)];exact (uy w a b).1
 ·rw[Za _ _ _ (by simp)];exact (uy w a b).2
 ·have h:=zQ ((w.alloc a).alloc b) c;rw[jT,jT] at h;exact h
theorem boxes(w:World):Below w.heap.size w (((w.alloc (.cells #[.int .i64 0] 145)).alloc (.cells #[.int .i64 0] 146)).alloc (.cells #[.int .i64 0] 147)) /\
  (((w.alloc (.cells #[.int .i64 0] 145)).alloc (.cells #[.int .i64 0] 146)).alloc (.cells #[.int .i64 0] 147)).heap[w.heap.size]?=some (.cells #[.int .i64 0] 145) /\
  (((w.alloc (.cells #[.int .i64 0] 145)).alloc (.cells #[.int .i64 0] 146)).alloc (.cells #[.int .i64 0] 147)).heap[w.heap.size+1]?=some (.cells #[.int .i64 0] 146) /\
  (((w.alloc (.cells #[.int .i64 0] 145)).alloc (.cells #[.int .i64 0] 146)).alloc (.cells #[.int .i64 0] 147)).heap[w.heap.size+2]?=some (.cells #[.int .i64 0] 147):=Sw w _ _ _
theorem au(E:TypeId)(v EL:Value)(u:TypeId)(D:Value)(i:EL = .iface u D)(c:Int)(q:Nat)(w:World)(s:xH w)(t:w.cell? ⟨0,0,none⟩=some EL)(x:eZ (.iface E v) EL)(A:Jg (.iface E v) 150)(B:Jg (.iface E v) 151)(C:Jg (.iface E v) 152)
  (z:∀W,xH W->Calls prog 60 #[.iface E v] W λe w'=>e = .returned (.tuple #[.int .i64 c,.int .i64 (q:Int)])/\Below W.heap.size W w') :
  Calls prog 26 #[.iface E v] w λe w'=>e = .returned (.tuple #[.int .i64 c,.int .i64 (q:Int)])/\Below w.heap.size w w':=by
 obtain⟨h,_,_,_⟩:=boxes w;have y:=zi h t;have g:∀W,Below w.heap.size w W->xH W:=λW hb=>s.below hb;subst i;clear s t;go_enter func26,ntmps26
 go_wp2_with (first
  | (go_at_call 60;refine (z r (g r f)).mono ?_;rintro e F ⟨rfl,n⟩)
  | (go_at_call 59;refine (C p _ (g p d)).mono ?_;rintro e r ⟨rfl,m⟩;have f:Below w.heap.size w r:=d.trans (m.mono d.size))
  | (go_at_call 59;refine (B o _ (g o b)).mono ?_;rintro e p ⟨rfl,l⟩;have d:Below w.heap.size w p:=b.trans (l.mono b.size))
  | (go_at_call 59;refine (A w1 _ (g w1 a)).mono ?_;rintro e o ⟨rfl,k⟩;have b:Below w.heap.size w o:=a.trans (k.mono a.size))
  | (go_at_call 58;refine (x _).mono ?_;rintro e w1 ⟨rfl,j⟩;have a:Below w.heap.size w w1:=h.trans (j.mono h.size)))
 go_ret2;exact⟨rfl,f.trans (n.mono f.size)⟩
theorem Ue(E:TypeId)(v:Value)(a:Addr)(b:yN E)(c:vR E):eZ (.iface E v) (.iface 414 (.pointer (some a))):=λW=>by
 refine (Eg E v a W b c).mono ?_;rintro e w' ⟨rfl,rfl⟩;exact⟨rfl,zf _ _⟩
theorem Ep(w:World):Calls prog 26 #[.nilIface] w λe w'=>e = .returned (.tuple #[.int .i64 0,.int .i64 0])/\Below w.heap.size w w':=by
 obtain⟨a,_,_,_⟩:=boxes w;go_enter func26,ntmps26
 go_wp2
 go_ret2;exact⟨rfl,a⟩
theorem Eo(a:Addr)(w:World)(c:w.cell? ⟨0,0,none⟩=some (.iface 414 (.pointer (some a)))):Calls prog 26 #[.iface 414 (.pointer (some a))] w λe w'=>e = .returned (.tuple #[.int .i64 1,.int .i64 0])/\Below w.heap.size w w':=by
 obtain⟨b,_,_,_⟩:=boxes w;have d:=zi b c;clear c;go_enter func26,ntmps26
 go_wp2_with (go_at_call 58;refine (Ef a _).mono ?_;rintro e w1 ⟨rfl,rfl⟩)
 go_ret2;exact⟨rfl,b⟩
theorem Es(k:Int)(i:Addr)(w:World)(j:xH w)(l:w.cell? ⟨0,0,none⟩=some (.iface 414 (.pointer (some i)))) :
  Calls prog 26 #[.iface 145 (.agg #[.int .i64 k])] w λe w'=>e = .returned (.tuple #[.int .i64 2,.int .i64 k])/\Below w.heap.size w w':=by
 obtain⟨f,m,s,q2⟩:=boxes w;have q:=zi f l;have n:∀W,Below w.heap.size w W->xH W:=λW hb=>j.below hb;have p:=Ue 145 (.agg #[.int .i64 k]) i lH Mi;have o:=KH 145 150 _ (.int .i64 k) Je lH Ap Gh ⟨k,rfl⟩;have r:=m;clear j l m s q2;go_enter func26,ntmps26
 go_wp2_with (first
  | (go_at_call 59;refine (o w1 (w.heap.size) (n w1 b) (QN d 1 (by decide)).1 (QN d 1 (by decide)).2).mono ?_;rintro e v ⟨rfl,u,g⟩)
  | (go_at_call 58;refine (p _).mono ?_;rintro e w1 ⟨rfl,a⟩;have b:Below w.heap.size w w1:=f.trans (a.mono f.size);have d:=(a.block (w.heap.size) (by first|(simp;done)|(simp;omega))).trans r;have t:w.heap.size+3<=w1.heap.size:=(by have:=a.size;simp at this;omega)))
 go_quiet (fail)
 go_wp2
 go_ret2;have c:=g w.heap.size (by omega) (b.size);refine⟨rfl,?_⟩;have h:=b.trans c;exact⟨h.os,h.tape,h.output,h.size,h.block⟩
theorem En(k:Int)(o:Addr)(w:World)(q:xH w)(r:w.cell? ⟨0,0,none⟩=some (.iface 414 (.pointer (some o)))) :
  Calls prog 26 #[.iface 146 (.agg #[.int .i64 k])] w λe w'=>e = .returned (.tuple #[.int .i64 3,.int .i64 k])/\Below w.heap.size w w':=by
 obtain⟨j,A,s,q2⟩:=boxes w;have x:=zi j r;have p:∀W,Below w.heap.size w W->xH W:=λW hb=>q.below hb;have v:=Ue 146 (.agg #[.int .i64 k]) o aj og;have z:=λW t h=>Xk 145 150 146 (.agg #[.int .i64 k]) Je aj og Ag W t h;have u:=KH 146 151 _ (.int .i64 k) Vm aj Af Gd ⟨k,rfl⟩;have y:=s;clear q r A s q2;go_enter func26,ntmps26
 go_wp2_with (first
  | (go_at_call 59;refine (u i (w.heap.size+1) (p i d) (QN g 1 (by decide)).1 (QN g 1 (by decide)).2).mono ?_;rintro e D ⟨rfl,C,l⟩)
  | (go_at_call 59;refine (z w1 _ (p w1 c)).mono ?_;rintro e i ⟨rfl,b⟩;have d:Below w.heap.size w i:=c.trans (b.mono c.size);have g:=(b.block (w.heap.size+1) (by have:=c.size;have:=n;omega)).trans m;have B:w.heap.size+3<=i.heap.size:=(by have:=b.size;omega))
  | (go_at_call 58;refine (v _).mono ?_;rintro e w1 ⟨rfl,a⟩;have c:Below w.heap.size w w1:=j.trans (a.mono j.size);have m:=(a.block (w.heap.size+1) (by first|(simp;done)|(simp;omega))).trans y;have n:w.heap.size+3<=w1.heap.size:=(by have:=a.size;simp at this;omega)))
 go_quiet (fail)
 go_wp2
 go_ret2;have f:=l w.heap.size (by omega) (d.size);refine⟨rfl,?_⟩;have h:=d.trans f;exact⟨h.os,h.tape,h.output,h.size,h.block⟩
theorem Et(k:Int)(v:Addr)(w:World)(x:xH w)(y:w.cell? ⟨0,0,none⟩=some (.iface 414 (.pointer (some v)))) :
  Calls prog 26 #[.iface 147 (.agg #[.int .i64 k])] w λe w'=>e = .returned (.tuple #[.int .i64 4,.int .i64 k])/\Below w.heap.size w w':=by
 obtain⟨n,F,G,q2⟩:=boxes w;have B:=zi n y;have o:∀W,Below w.heap.size w W->xH W:=λW hb=>x.below hb;have A:=Ue 147 (.agg #[.int .i64 k]) v V8 bI;have D:=λW t h=>Xk 145 150 147 (.agg #[.int .i64 k]) Je V8 bI Ar W t h;have E:=λW t h=>Xk 146 151 147 (.agg #[.int .i64 k]) Vm V8 bI Aq W t h;have z:=KH 147 152 _ (.int .i64 k) UX V8 Au Gi ⟨k,rfl⟩;have C:=q2;clear x y F G q2;go_enter func26,ntmps26
 go_wp2_with (first
  | (go_at_call 59;refine (z m (w.heap.size+2) (o m g) (QN j 1 (by decide)).1 (QN j 1 (by decide)).2).mono ?_;rintro e J ⟨rfl,I,p⟩)
  | (go_at_call 59;refine (E l _ (o l f)).mono ?_;rintro e m ⟨rfl,c⟩;have g:Below w.heap.size w m:=f.trans (c.mono f.size);have j:=(c.block (w.heap.size+2) (by have:=f.size;have:=u;omega)).trans r;have H:w.heap.size+3<=m.heap.size:=(by have:=c.size;omega))
  | (go_at_call 59;refine (D w1 _ (o w1 d)).mono ?_;rintro e l ⟨rfl,b⟩;have f:Below w.heap.size w l:=d.trans (b.mono d.size);have r:=(b.block (w.heap.size+2) (by have:=d.size;have:=s;omega)).trans q;have u:w.heap.size+3<=l.heap.size:=(by have:=b.size;omega))
  | (go_at_call 58;refine (A _).mono ?_;rintro e w1 ⟨rfl,a⟩;have d:Below w.heap.size w w1:=n.trans (a.mono n.size);have q:=(a.block (w.heap.size+2) (by first|(simp;done)|(simp;omega))).trans C;have s:w.heap.size+3<=w1.heap.size:=(by have:=a.size;simp at this;omega)))
 go_quiet (fail)
 go_wp2
 go_ret2;have i:=p w.heap.size (by omega) (g.size);refine⟨rfl,?_⟩;have h:=g.trans i;exact⟨h.os,h.tape,h.output,h.size,h.block⟩
theorem Er(c:Int)(q:Nat)(u:Value)(a:Addr)(w:World)(d:xH w)(b:w.cell? ⟨0,0,none⟩=some (.iface 414 (.pointer (some a))))(h:Z6 (.iface 414 (.pointer (some a))) c q u) :
  Calls prog 26 #[u] w λe w'=>e = .returned (.tuple #[.int .i64 c,.int .i64 (q:Int)])/\Below w.heap.size w w':=by
 cases h with
 | ok=>exact Ep w
 | long=>exact Eo a w b
 | text _ _ g=>
  rcases g with rfl|rfl|rfl
  ·exact Es _ a w d b
  ·exact En _ a w d b
  ·exact Et _ a w d b
 | doc p=>
  exact au _ _ _ _ _ rfl 5 0 w d b (Ue _ _ a Zm ZQ) (Xk _ _ _ _ Je Zm ZQ gH) (Xk _ _ _ _ Vm Zm ZQ gF) (Xk _ _ _ _ UX Zm ZQ gI) (λW f=>Ps p W f)
 | shape n p=>
  exact au _ _ _ _ _ rfl 5 q w d b (λW=>lD _ _ _ a W YQ Zm ZQ) (XY _ _ _ _ _ Je Zm ZQ gM gH) (XY _ _ _ _ _ Vm Zm ZQ gJ gF) (XY _ _ _ _ _ UX Zm ZQ gN gI) (λW f=>Pv q p W f)
 | pat n k=>
  exact au _ _ _ _ _ rfl 6 q w d b (λW=>lD _ _ _ a W YQ YP J7) (XY _ _ _ _ _ Je YP J7 gM Ak) (XY _ _ _ _ _ Vm YP J7 gJ Ah) (XY _ _ _ _ _ UX YP J7 gN Al) (λW f=>Pt q k W f)
structure Z5 (w:World) (aL:Addr):Prop where
 q:QF w (.iface 414 (.pointer (some aL)))
theorem Z5.below{w w':World}{a:Addr}(h:Z5 w a)(hb:Below w.heap.size w w'):Z5 w' a:=⟨h.q.below hb⟩
end Go.Proofs.YtagnlbgbnfnapaaGreatDoor
