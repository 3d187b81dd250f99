/- P -/
import Derived.Test.YtfjpcldndaiifaaGreatDoorA14
import Derived.Test.YtfjpcldndaiifaaGreatDoorRows
open Go.Proofs.Tryz
set_option maxRecDepth 100000
set_option maxHeartbeats 4000000
namespace Go.Proofs.YtfjpcldndaiifaaGreatDoor
open Go.RowKit Go.Extern.Stop Go.Stop Go.Extern
def UH(u:Y)(a:TypeId):Prop:=∀(W:J) (t:Addr),yj W->R8 65 #[u,.iface a (.pointer (some t))] W (G5 (.bool false) W)
def fH(u:Y)(c:TypeId)(n:Nat)(x:Y):Prop:=∀(W:J) (a:Nat),yj W->(∀j,j<n->∃o,W.cell? (G8 a j)=some o)->(∀j,j<n->W.frozen? (G8 a j)=false) ->
 R8 65 #[u,.iface c (RG a 0)] W λe b=>e=.returned (.bool true)/\b.cell? (G8 a 0)=some x/\∀base,base<=a->base<=W.heap.size->Below base W b
theorem Vw(w:J)(a b:Obj):BQ w ((w.alloc a).alloc b):=(nbl w a).alloc (by simp) b
theorem Jf(T a E:TypeId)(v:Y)(f:ZQ T a)(d:jZ E)(g:kZ E)(c:Assign E T false):UH (.iface E v) a:=λW t i=>
 Jo T a E v t W i f false (λb=>BQ W b) (λO=>by
  apply(AJ E T v _ _ _ _ _ d g c).mono;rintro e b⟨rfl,h⟩;exact⟨rfl,(Vw W _ O).trans (h.mono (Vw W _ O).size)⟩)
theorem J5(T a E:TypeId)(n:Int)(v:Y)(g:ZQ T a)(f:jZ E)(h:kZ E)(c:Assign 146 T false)(d:Assign E T false):UH (.iface 146 (.agg #[R9 n,.iface E v])) a:=λW t j=>
 Jo T a _ _ t W j g false (λb=>BQ W b) (λO=>by
  apply(Po E T n v _ _ _ _ _ V6 f h c d).mono;rintro e b⟨rfl,i⟩;exact⟨rfl,(Vw W _ O).trans (i.mono (Vw W _ O).size)⟩)
theorem ib(E a:TypeId)(h:Y->Prop)(x:Y)(j:ZQ E a)(n:jZ E)(m:Assign E E true)(p:Yv E h)(t:h x):fH (.iface E (.agg #[x])) a 1 x:=λW b s q r=>by
 obtain⟨o,g⟩:=q 0 (by omega);have f:=r 0 (by omega);refine Jo E a E (.agg #[x]) (G8 b 0) W s j true (λi=>i.cell? (G8 b 0)=some x/\∀base,base<=b->base<=W.heap.size->Below base W i) (λO=>?_);apply(AC E a h x _ o (G8 W.heap.size 0) (G8 b 0) _ n m j p t (zR (Jp W _ _) O) (zR (zR g _) O) (jQ (zR g _) (jQ g f _) O)).mono;rintro e i⟨rfl,k,l⟩;refine⟨rfl,k,λbase c d=>?_⟩;exact(((zf base W).alloc d _).alloc (by simp;omega) O).trans (l base c (by simp;omega))
theorem IJ(E a:TypeId)(h:Y->Prop)(n:Int)(x:Y)(j:ZQ E a)(p:jZ E)(r:Assign 146 E false)(m:Assign E E true)(q:Yv E h)(v:h x):fH (.iface 146 (.agg #[R9 n,.iface E (.agg #[x])])) a 1 x:=λW b u s t=>by
 obtain⟨o,g⟩:=s 0 (by omega);have f:=t 0 (by omega);refine Jo E a _ _ (G8 b 0) W u j true (λi=>i.cell? (G8 b 0)=some x/\∀base,base<=b->base<=W.heap.size->Below base W i) (λO=>?_);apply(Pn E a h n x _ o (G8 W.heap.size 0) (G8 b 0) _ V6 p r m j q v (zR (Jp W _ _) O) (zR (zR g _) O) (jQ (zR g _) (jQ g f _) O)).mono;rintro e i⟨rfl,k,l⟩;refine⟨rfl,k,λbase c d=>?_⟩;exact(((zf base W).alloc d _).alloc (by simp;omega) O).trans (l base c (by simp;omega))
def pX(u EL:Y):Prop:=∀W:J,R8 64 #[u,EL] W (G5 (.bool false) W)
theorem zdM(p:BY)(w:J)(f:yj w):R8 66 #[.iface 132 (.agg #[S9 p])] w (G5 (.tuple #[.int .i64 5,.int .i64 0]) w):=by
 have d:=λi j=>Vw w i j;have c1:=λW t h=>Jf 146 245 132 (.agg #[S9 p]) ag QO Xy Lb W t h;have c2:=λW t h=>Jf 188 246 132 (.agg #[S9 p]) pz QO Xy sI W t h;go_enter func66,ntmps66
 go_wp2_with(first
  |(go_at_call 65;apply(c2 g _ (f.below a)).mono;rintro e l⟨rfl,c⟩)
  |(go_at_call 65;apply(c1 _ _ (f.below (d _ _))).mono;rintro e g⟨rfl,b⟩;have a:BQ w g:=(d _ _).trans (b.mono (by simp;omega))))
 go_ret2;exact⟨rfl,a.trans (c.mono a.size)⟩
theorem YH{W:J}{cs:Array Y}{t:TypeId}{b:Nat}(h:W.heap[b]?=some (.cells cs t (0,0)))(n:Nat)(c:n<=cs.size):(∀j,j<n->∃o,W.cell? (G8 b j)=some o)/\(∀j,j<n->W.frozen? (G8 b j)=false):=by
 refine⟨λj a=>⟨cs[j]'(by omega),?_⟩,λj _=>(zg h j).2⟩;rw[(zg h j).1];exact pK (by omega)
theorem Pm(q E:TypeId)(n:Int)(v h o p:Y)(a:Addr)(c:Nat)(w:J)(k:jZ 146)(j:Assign 146 146 true)(l:ZQ 146 q)
  (m:w.cell? a=some (.pointer (some ⟨c,0,none⟩)))(t1:w.cell? ⟨c,0,none⟩=some o)(t2:w.cell? ⟨c,1,none⟩=some p)(f1:w.frozen? ⟨c,0,none⟩=false)(f2:w.frozen? ⟨c,1,none⟩=false):R8 115 #[.iface 146 (.agg #[.int .i64 n,.iface E v]),h,.agg #[.pointer (some ⟨7,q,none⟩),.pointer (some a),.int .u64 150],.iface 302 (.agg #[.pointer (some ⟨7,146,none⟩)])] w λe i=>
   e=.returned (.bool true)/\i.cell? ⟨c,0,none⟩=some (.int .i64 n)/\(∀base,base<=c->base<=w.heap.size->Below base w i)/\∀b,b<w.heap.size->b≠c->i.heap[b]?=w.heap[b]?:=by
 have s:=bz
 have x:=bW
 have B:=cB
 have t:=kT
 have u:=mE;have F:=k.typeOf;have C:=Tryz.erAssignableTo;have r:=j;unfold Assign at r;have G:∀w:J,(ReflectliteValue.unpack (.iface 146 (.agg #[.int .i64 n,.iface E v]))).run prog w=.ok (.agg #[.pointer (some ⟨7,146,none⟩),.pointer (some ⟨w.heap.size,0,none⟩),.int .u64 153]) (w.alloc (.cells #[.int .i64 n,.iface E v] 146)):=λw=>Tryz.stHeld n (.iface E v) w;have A:=λO=>l.elemV a ⟨c,0,none⟩ (w.alloc O) (zR m O);have D:=λO=>Tryz.stSet c (w.heap.size+1) n E v o p ((w.alloc O).alloc (.cells #[.int .i64 n,.iface E v] 146)) (by rw[U1 _ _ _ _ (by simp)];rfl) (by rw[U1 _ _ _ _ (by simp)];rfl) (zR (zR t1 O) _) (zR (zR t2 O) _) (jQ (zR t1 O) (jQ t1 f1 O) _) (jQ (zR t2 O) (jQ t2 f2 O) _);have fin:=λO=>(xu (((w.alloc O).alloc (.cells #[.int .i64 n,.iface E v] 146)).setCell ⟨c,0,none⟩ (.int .i64 n)) ⟨c,1,none⟩ ⟨c,0,none⟩ (.iface E v) (by simp)).trans (ZR ((w.alloc O).alloc (.cells #[.int .i64 n,.iface E v] 146)) ⟨c,0,none⟩ (.int .i64 n) (zR (zR t1 O) (.cells #[.int .i64 n,.iface E v] 146)));clear j l m k;go_enter func115,ntmps115;go_wp2;refine Qy 1 ?_;rw[Zi];go_wp2;go_ret;refine⟨rfl,fin _,λbase f g=>?_,λb y z=>?_⟩
 ·exact((((zf base w).alloc g _).alloc (by simp;omega) _).setCell f _).setCell f _
 rw[qy _ _ _ _ (by simp only;omega),qy _ _ _ _ (by simp only;omega),Qz _ _ _ (by simp;omega),Qz _ _ _ y]
theorem sG(E:TypeId)(n:Int)(v:Y)(W:J)(a:Nat)(u:yj W)(m:∀j,j<2->∃o,W.cell? (G8 a j)=some o)(p:∀j,j<2->W.frozen? (G8 a j)=false):R8 65 #[.iface 146 (.agg #[R9 n,.iface E v]),.iface 245 (RG a 0)] W λe c=>e=.returned (.bool true)/\c.cell? (G8 a 0)=some (R9 n)/\(∀base,base<=a->base<=W.heap.size->Below base W c)/\∀b,b<W.heap.size->b≠a->c.heap[b]?=W.heap[b]?:=by
 obtain⟨o,l⟩:=m 0 (by omega);obtain⟨w,d⟩:=m 1 (by omega);have h:=p 0 (by omega);have i:=p 1 (by omega);refine Jo 146 245 _ _ (G8 a 0) W u ag true (λc=>c.cell? (G8 a 0)=some (R9 n)/\(∀base,base<=a->base<=W.heap.size->Below base W c)/\∀b,b<W.heap.size->b≠a->c.heap[b]?=W.heap[b]?) (λO=>?_);apply(Pm 245 E n v _ o w (G8 W.heap.size 0) a _ V6 sO ag (zR (Jp W _ _) O) (zR (zR l _) O) (zR (zR d _) O) (jQ (zR l _) (jQ l h _) O) (jQ (zR d _) (jQ d i _) O)).mono;rintro e c⟨rfl,q,r,s⟩;refine⟨rfl,q,λbase f g=>?_,λb t k=>?_⟩
 ·exact(((zf base W).alloc g _).alloc (by simp;omega) O).trans (r base f (by simp;omega))
 rw[s b (by simp;omega) k,Qz _ _ _ (by simp;omega),Qz _ _ _ t]
theorem zdO(n:Nat)(p:BY)(w:J)(g:yj w):R8 66 #[.iface 146 (.agg #[R9 (n:Int),.iface 132 (.agg #[S9 p])])] w (G5 (.tuple #[.int .i64 5,.int .i64 (n:Int)]) w):=by
 have f:=λk b=>Vw w k b;have c1:=λW q h l m=>sG 132 (n:Int) (.agg #[S9 p]) W q h l m;have c2:=λW t h=>J5 188 246 132 (n:Int) (.agg #[S9 p]) pz QO Xy sN sI W t h;have i:=λb=>YH (Zn w (L8 #[R9 0,.nilIface] 146) b).1 2 (by decide);go_enter func66,ntmps66
 go_wp2_with(first
  |(go_at_call 65;apply(c2 j _ (g.below a)).mono;rintro e s⟨rfl,d⟩)
  |(go_at_call 65;apply(c1 _ w.heap.size (g.below (f _ _)) (i _).1 (i _).2).mono;rintro e j⟨rfl,o,c,_⟩;have a:BQ w j:=(f _ _).trans (c _ F7 (by simp;omega))))
 go_ret2;exact⟨rfl,a.trans (d.mono a.size)⟩
theorem zdN(n:Nat)(k:Int)(w:J)(m:yj w):R8 66 #[.iface 146 (.agg #[R9 (n:Int),.iface 188 (.agg #[R9 k])])] w (G5 (.tuple #[.int .i64 6,.int .i64 (n:Int)]) w):=by
 have l:=λr b=>Vw w r b;have c1:=λW j h c d=>sG 188 (n:Int) (.agg #[R9 k]) W j h c d;have c2:=λW j h c d=>IJ 188 246 _ (n:Int) (R9 k) pz V5 sN IW SA ⟨k,rfl⟩ W j h c d;have o:=λb=>YH (Zn w (L8 #[R9 0,.nilIface] 146) b).1 2 (by decide);have u:=(Zn w (L8 #[R9 0,.nilIface] 146) (L8 #[R9 0] 188)).2;go_enter func66,ntmps66
 go_wp2_with(first
  |(go_at_call 65;apply(c2 q (w.heap.size+1) (m.below a) p.1 p.2).mono;rintro e x⟨rfl,t,g⟩)
  |(go_at_call 65;apply(c1 _ w.heap.size (m.below (l _ _)) (o _).1 (o _).2).mono;rintro e q⟨rfl,s,f,i⟩;have a:BQ w q:=(l _ _).trans (f _ F7 (by simp;omega));have p:=YH ((i (w.heap.size+1) (by simp) (by omega)).trans u) 1 (by decide)))
 go_ret2;exact⟨rfl,a.trans (g _ (by omega) a.size)⟩
theorem Pi(b:Addr)(w:J):R8 64 #[.iface 391 (.pointer (some b)),.iface 391 (.pointer (some b))] w λe k=>e=.returned (.bool true)/\k=w:=by
 have o:=bz;have q:=Tryz.erTypeLong;have p:=Tryz.erComparable
 have n:=@zO prog 280 _ (ReflectliteType.method (λt=>do Rtype.noPackHeld "Comparable" t;pure (.bool (<- typeInfo t).comparable))) func280 (by kernel_rfl) (by kernel_rfl) (by kernel_rfl) (by kernel_rfl)
 have l:=Tryz.erComparableLong
 obtain⟨i,c,a⟩:∃i,prog.info? 391=some i/\i.comparable=true:=by
  have h:(prog.info? 391).map (·.comparable)=some true:=by kernel_rfl
  obtain⟨i,f,g⟩:=vT.1 h;exact⟨i,f,g⟩
 obtain⟨j,d⟩:∃j,prog.info? 410=some j:=by
  have h:(prog.info? 410).isSome=true:=by kernel_rfl
  exact gK.1 h
 have m:=λW=>run_eql_iface_ptr_same (P:=prog) (w:=W) b underlying82 underlying391 c a d;clear c a d;go_enter func64,ntmps64;go_wp2;refine Qy 1 ?_;rw[Zi];go_wp2;go_ret;exact⟨rfl,rfl⟩
theorem zfm(w:J)(a b c:Obj):BQ w (((w.alloc a).alloc b).alloc c)/\(((w.alloc a).alloc b).alloc c).heap[w.heap.size]?=some a/\(((w.alloc a).alloc b).alloc c).heap[w.heap.size+1]?=some b/\(((w.alloc a).alloc b).alloc c).heap[w.heap.size+2]?=some c:=by
 refine⟨((nbl _ _).alloc (by simp) _).alloc (by simp;omega) _,?_,?_,?_⟩
 ·rw[Qz _ _ _ (by simp;omega)];exact(Zn w a b).1
 ·rw[Qz _ _ _ (by simp)];exact(Zn w a b).2
 have h:=zA ((w.alloc a).alloc b) c;rw[uH,uH]at h;exact h
theorem boxes(w:J):BQ w (((w.alloc (L8 #[R9 0] 148)).alloc (L8 #[R9 0] 149)).alloc (L8 #[R9 0] 150)) /\
  (((w.alloc (L8 #[R9 0] 148)).alloc (L8 #[R9 0] 149)).alloc (L8 #[R9 0] 150)).heap[w.heap.size]?=some (L8 #[R9 0] 148) /\
  (((w.alloc (L8 #[R9 0] 148)).alloc (L8 #[R9 0] 149)).alloc (L8 #[R9 0] 150)).heap[w.heap.size+1]?=some (L8 #[R9 0] 149) /\
  (((w.alloc (L8 #[R9 0] 148)).alloc (L8 #[R9 0] 149)).alloc (L8 #[R9 0] 150)).heap[w.heap.size+2]?=some (L8 #[R9 0] 150):=zfm w _ _ _
theorem ll(E:TypeId)(v EL:Y)(y:TypeId)(H:Y)(i:EL=.iface y H)(c:Int)(q:Nat)(w:J)(u:yj w)(x:w.cell? (G8 0 0)=some EL)(z:pX (.iface E v) EL)(D:UH (.iface E v) 153)(F:UH (.iface E v) 154)(G:UH (.iface E v) 155)
  (B:∀W,yj W->R8 66 #[.iface E v] W (G5 (.tuple #[.int .i64 c,.int .i64 (q:Int)]) W)):R8 34 #[.iface E v] w (G5 (.tuple #[.int .i64 c,.int .i64 (q:Int)]) w):=by
 obtain⟨h,_,_,_⟩:=boxes w;have A:=zi h x;have g:∀W,BQ w W->yj W:=λW C=>u.below C;subst i;clear u x;go_enter func34,ntmps34
 go_wp2_with(first
  |(go_at_call 66;apply(B t (g t f)).mono;rintro e I⟨rfl,n⟩)
  |(go_at_call 65;apply(G s _ (g s d)).mono;rintro e t⟨rfl,m⟩;have f:BQ w t:=d.trans (m.mono d.size))
  |(go_at_call 65;apply(F r _ (g r b)).mono;rintro e s⟨rfl,l⟩;have d:BQ w s:=b.trans (l.mono b.size))
  |(go_at_call 65;apply(D p _ (g p a)).mono;rintro e r⟨rfl,k⟩;have b:BQ w r:=a.trans (k.mono a.size))
  |(go_at_call 64;apply(z _).mono;rintro e p⟨rfl,j⟩;have a:BQ w p:=h.trans (j.mono h.size)))
 go_ret2;exact⟨rfl,f.trans (n.mono f.size)⟩
theorem dm(E:TypeId)(v:Y)(a:Addr)(b:jZ E)(c:kZ E):pX (.iface E v) (.iface 391 (.pointer (some a))):=λW=>by
 apply(Pj E v a W b c).mono;rintro e d⟨rfl,rfl⟩;exact⟨rfl,zf _ _⟩
theorem Pt(w:J):R8 34 #[.nilIface] w (G5 (.tuple #[.int .i64 0,.int .i64 0]) w):=by
 obtain⟨a,_,_,_⟩:=boxes w;go_enter func34,ntmps34;go_wp2;go_ret2;exact⟨rfl,a⟩
theorem Ps(a:Addr)(w:J)(c:w.cell? (G8 0 0)=some (.iface 391 (.pointer (some a)))):R8 34 #[.iface 391 (.pointer (some a))] w (G5 (.tuple #[.int .i64 1,.int .i64 0]) w):=by
 obtain⟨b,_,_,_⟩:=boxes w;have d:=zi b c;clear c;go_enter func34,ntmps34;go_wp2_with(go_at_call 64;apply(Pi a _).mono;rintro e g⟨rfl,rfl⟩);go_ret2;exact⟨rfl,b⟩
theorem Pv(k:Int)(j:Addr)(w:J)(l:yj w)(m:w.cell? (G8 0 0)=some (.iface 391 (.pointer (some j)))):R8 34 #[.iface 148 (.agg #[R9 k])] w (G5 (.tuple #[.int .i64 2,.int .i64 k]) w):=by
 obtain⟨g,n,u,v⟩:=boxes w;have r:=zi g m;have o:∀W,BQ w W->yj W:=λW s=>l.below s;have q:=dm 148 (.agg #[R9 k]) j AP zbk;have p:=ib 148 153 _ (R9 k) UF AP Lc SC ⟨k,rfl⟩;have t:=n;clear l m n u v;go_enter func34,ntmps34
 go_wp2_with(first
  |(go_at_call 65;apply(p f (w.heap.size) (o f b) (YH d 1 (by decide)).1 (YH d 1 (by decide)).2).mono;rintro e A⟨rfl,z,i⟩)
  |(go_at_call 64;apply(q _).mono;rintro e f⟨rfl,a⟩;have b:BQ w f:=g.trans (a.mono g.size);have d:=(a.block (w.heap.size) (by first|(simp;done)|(simp;omega))).trans t;have y:w.heap.size+3<=f.heap.size:=(by have:=a.size;simp at this;omega)))
 go_quiet (fail)
 go_wp2;go_ret2;have c:=i w.heap.size (by omega) (b.size);refine⟨rfl,?_⟩;have h:=b.trans c;exact⟨h.os,h.tape,h.output,h.size,h.block⟩
theorem Pp(k:Int)(p:Addr)(w:J)(r:yj w)(s:w.cell? (G8 0 0)=some (.iface 391 (.pointer (some p)))):R8 34 #[.iface 149 (.agg #[R9 k])] w (G5 (.tuple #[.int .i64 3,.int .i64 k]) w):=by
 obtain⟨l,C,u,D⟩:=boxes w;have y:=zi l s;have q:∀W,BQ w W->yj W:=λW z=>r.below z;have x:=dm 149 (.agg #[R9 k]) p lg Dv;have B:=λW t h=>Jf 148 153 149 (.agg #[R9 k]) UF lg Dv IU W t h;have v:=ib 149 154 _ (R9 k) af lg IR Sz ⟨k,rfl⟩;have A:=u;clear r s C u D;go_enter func34,ntmps34
 go_wp2_with(first
  |(go_at_call 65;apply(v j (w.heap.size+1) (q j d) (YH g 1 (by decide)).1 (YH g 1 (by decide)).2).mono;rintro e H⟨rfl,G,m⟩)
  |(go_at_call 65;apply(B i _ (q i c)).mono;rintro e j⟨rfl,b⟩;have d:BQ w j:=c.trans (b.mono c.size);have g:=(b.block (w.heap.size+1) (by have:=c.size;have:=o;omega)).trans n;have F:w.heap.size+3<=j.heap.size:=(by have:=b.size;omega))
  |(go_at_call 64;apply(x _).mono;rintro e i⟨rfl,a⟩;have c:BQ w i:=l.trans (a.mono l.size);have n:=(a.block (w.heap.size+1) (by first|(simp;done)|(simp;omega))).trans A;have o:w.heap.size+3<=i.heap.size:=(by have:=a.size;simp at this;omega)))
 go_quiet (fail)
 go_wp2;go_ret2;have f:=m w.heap.size (by omega) (d.size);refine⟨rfl,?_⟩;have h:=d.trans f;exact⟨h.os,h.tape,h.output,h.size,h.block⟩
theorem Pw(k:Int)(x:Addr)(w:J)(y:yj w)(z:w.cell? (G8 0 0)=some (.iface 391 (.pointer (some x)))):R8 34 #[.iface 150 (.agg #[R9 k])] w (G5 (.tuple #[.int .i64 4,.int .i64 k]) w):=by
 obtain⟨o,I,K,A⟩:=boxes w;have D:=zi o z;have p:∀W,BQ w W->yj W:=λW E=>y.below E;have C:=dm 150 (.agg #[R9 k]) x bV mU;have G:=λW t h=>Jf 148 153 150 (.agg #[R9 k]) UF bV mU Le W t h;have H:=λW t h=>Jf 149 154 150 (.agg #[R9 k]) af bV mU Ld W t h;have B:=ib 150 155 _ (R9 k) fw bV Lf SE ⟨k,rfl⟩;have F:=A;clear y z I K A;go_enter func34,ntmps34
 go_wp2_with(first
  |(go_at_call 65;apply(B n (w.heap.size+2) (p n g) (YH j 1 (by decide)).1 (YH j 1 (by decide)).2).mono;rintro e O⟨rfl,N,q⟩)
  |(go_at_call 65;apply(H m _ (p m f)).mono;rintro e n⟨rfl,c⟩;have g:BQ w n:=f.trans (c.mono f.size);have j:=(c.block (w.heap.size+2) (by have:=f.size;have:=v;omega)).trans s;have M:w.heap.size+3<=n.heap.size:=(by have:=c.size;omega))
  |(go_at_call 65;apply(G l _ (p l d)).mono;rintro e m⟨rfl,b⟩;have f:BQ w m:=d.trans (b.mono d.size);have s:=(b.block (w.heap.size+2) (by have:=d.size;have:=u;omega)).trans r;have v:w.heap.size+3<=m.heap.size:=(by have:=b.size;omega))
  |(go_at_call 64;apply(C _).mono;rintro e l⟨rfl,a⟩;have d:BQ w l:=o.trans (a.mono o.size);have r:=(a.block (w.heap.size+2) (by first|(simp;done)|(simp;omega))).trans F;have u:w.heap.size+3<=l.heap.size:=(by have:=a.size;simp at this;omega)))
 go_quiet (fail)
 go_wp2;go_ret2;have i:=q w.heap.size (by omega) (g.size);refine⟨rfl,?_⟩;have h:=g.trans i;exact⟨h.os,h.tape,h.output,h.size,h.block⟩
theorem lh(c:Int)(q:Nat)(u:Y)(a:Addr)(w:J)(d:yj w)(b:w.cell? (G8 0 0)=some (.iface 391 (.pointer (some a))))(h:XL (.iface 391 (.pointer (some a))) c q u):R8 34 #[u] w (G5 (.tuple #[.int .i64 c,.int .i64 (q:Int)]) w):=by
 cases h with
 | ok=>exact Pt w
 | long=>exact Ps a w b
 | text _ _ g=>
  rcases g with rfl|rfl|rfl
  ·exact Pv _ a w d b
  ·exact Pp _ a w d b
  ·exact Pw _ a w d b
 | doc p=>
  exact ll _ _ _ _ _ rfl 5 0 w d b (dm _ _ a QO Xy) (Jf _ _ _ _ UF QO Xy sJ) (Jf _ _ _ _ af QO Xy sH) (Jf _ _ _ _ fw QO Xy sK) (λW f=>zdM p W f)
 | shape n p=>
  exact ll _ _ _ _ _ rfl 5 q w d b (λW=>AA _ _ _ a W V6 QO Xy) (J5 _ _ _ _ _ UF QO Xy sP sJ) (J5 _ _ _ _ _ af QO Xy sM sH) (J5 _ _ _ _ _ fw QO Xy sQ sK) (λW f=>zdO q p W f)
 | pat n k=>
  exact ll _ _ _ _ _ rfl 6 q w d b (λW=>AA _ _ _ a W V6 V5 KJ) (J5 _ _ _ _ _ UF V5 KJ sP IY) (J5 _ _ _ _ _ af V5 KJ sM IV) (J5 _ _ _ _ _ fw V5 KJ sQ IZ) (λW f=>zdN q k W f)
structure jL (w:J) (aL:Addr):Prop where
 q:Yz w (.iface 391 (.pointer (some aL)))
theorem jL.below{w w':J}{a:Addr}(h:jL w a)(b:BQ w w'):jL w' a:=⟨h.q.below b⟩
theorem Mr(s:BY)(j:Addr)(w:J)(g:jL w j):R8 24 #[S9 s] w (G5 (.tuple #[.int .i64 (Z.qC s).1,.int .i64 ((Z.qC s).2:Int)]) w):=by
 have c1:=iW s w _ _ _ rfl g.q;obtain⟨⟨c,q⟩,f⟩:∃x,Z.qC s=x:=⟨_,rfl⟩;rw[f]at c1 |-;unfold Yr at c1;simp only at c1 |-;have c2:=λW u (k:BQ w W) h=>lh c q u j W (g.below k).q.p.d.err (g.below k).q.long h;clear g f;go_enter func24,ntmps24
 go_wp2_with(first
  |(go_at_call 34;apply(c2 _ _ a l).mono;rintro e v⟨rfl,i⟩)
  |(go_at_call 33;apply c1.mono;rintro e t⟨m,n,o,u,rfl,l,b,_⟩;have a:=b.alloc b.size (L8 #[TL m n o] 80)))
 go_ret2;exact⟨rfl,a.trans (i.mono a.size)⟩
end Go.Proofs.YtfjpcldndaiifaaGreatDoor
namespace Go.Proofs.YtfjpcldndaiifaaGreatDoor.laws
open Go.ChangeShapes Go.WideShapes Go.ChangeAt Go.RowKit Go.Joins Go.Deep
section
variable {H:Type} {enc:TypeId×Y->H} {P:Program} {w:J} {base:Nat} {sp:Nat->Bool} {held:Bool}
theorem Gn{fuel:Nat}{t:TypeId}{a:Array Field}{cs:List Y}{e:List (DataW H)}{p:List MemPlace}(x:P.underlying t=some (.struct a))
  (r:∀(i:Nat) (f:Field),a[i]?=some f->f.offset=i/\P.cellsOf f.type=1)(j:P.cellsOf t=a.size)(h:DataW.trod enc P w base sp held fuel t cs=some (.agg e,p)):cs.length=a.size/\∀(i:Nat) (f:Field),a[i]?=some f->∃v d q n,cs[i]?=some v/\e[i]?=some d/\DataW.trod enc P w base sp held n f.type [v]=some (d,q):=by
 obtain⟨c,n,rfl,y,m,z,b⟩:=DataW.trod_struct x h
 have k:e=c.map (·.1):=by
  have:=congrArg Prod.fst y
  simpa using this
 rw[j]at m;refine⟨m,λi f l=>?_⟩;have s:i<a.size:=(JI.1 l).1;obtain⟨u,o⟩:=r i f l;have g:=b i f l;rw[u,o,P7]at g
 have hcut:(cs.drop i).take 1=[cs[i]'(by omega)]:=by
  rw[jD (by omega)];rfl
 rw[hcut]at g;exact⟨cs[i]'(by omega),(c[i]'(by omega)).1,(c[i]'(by omega)).2,n,P7,by rw[k];simp[List.getElem?_eq_getElem (show i<c.length by omega)],g⟩
theorem Cn{α:Type}(c:Nat):∀(n:Nat) (row:Nat->List α) (a:List α),a.length=n*c->(∀i,i<n->(a.drop (i*c)).take c=row i)->a=(List.range n).flatMap row
 | 0,_,a,hl,_=>by
  have:a=[]:=Y6.1 (by simpa using hl)
  simp[this]
 | n+1,row,a,hl,h=>by
  have g:a.length=n*c+c:=by rw[hl,Nat.succ_mul]
  have b:a.take (n*c)=(List.range n).flatMap row:=by
   refine Cn c n row _ (by rw[jg];omega) (λi f=>?_);have j:i*c+c<=n*c:=by rw[<- Nat.succ_mul];exact Yy c f
   rw[<- h i (by omega),List.drop_take,gG];congr 1;omega
  have d:a.drop (n*c)=row n:=by
   rw[<- h n (by omega)];exact(uA (by rw[ve];omega)).symm
  rw[VJ,List.flatMap_append,<- b];have e:[n].flatMap row=a.drop (n*c):=by rw[d];simp
  rw[e,VK]
theorem sF{fuel:Nat}{t e:TypeId}{n c:Nat}{cs:List Y}{g:List (DataW H)}{p:List MemPlace}(l:P.underlying t=some (.array n e))(o:P.cellsOf e=c)(f:P.cellsOf t=n*c)
  (h:DataW.trod enc P w base sp held fuel t cs=some (.agg g,p))(row:Nat->List Y)
  (u:∀(i:Nat) (d:DataW H) (m:List Y) (a:Nat) (q:List MemPlace),i<n->g[i]?=some d->DataW.trod enc P w base sp held a e m=some (d,q)->m=row i):cs=(List.range n).flatMap row:=by
 have b:cs.length=n*c:=by
  cases fuel with
  | zero=>simp[DataW.trod]at h
  | succ fuel=>
   simp only[DataW.trod,l]at h;split at h
   ·rename_i s;rw[s,f]
   cases h
 refine Cn c n row cs b (λi k=>?_);obtain⟨a,d,q,r,j⟩:=Lib.array_elem l h i k;rw[o]at j;exact u i d _ a q k r j
theorem Tn{fuel:Nat}{t:TypeId}{a:Array Field}{cs:List Y}{g:List (IntKind×Int)}{p:List MemPlace}(B:P.underlying t=some (.struct a))
  (u:∀(i:Nat) (f:Field),a[i]?=some f->f.offset=i/\P.cellsOf f.type=1)(y:∀(i:Nat) (f:Field),a[i]?=some f->∃k z,g[i]?=some (k,z)/\P.underlying f.type=some (.int k))(j:P.cellsOf t=a.size)(A:g.length=a.size)
  (h:DataW.trod enc P w base sp held fuel t cs=some (.agg (g.map λx => .lit (.int x.1 x.2)),p)):cs=g.map λx=>Value.int x.1 x.2:=by
 obtain⟨F,c⟩:=Gn B u j h;apply UN;intro i
 by_cases hi:i<a.size
 ·obtain⟨v,d,q,n,D,b,o⟩:=c i a[i] (by simp[hi]);obtain⟨k,z,e,C⟩:=y i a[i] (by simp[hi]);obtain⟨s,l,E,_⟩:=fQ C o;have r:v=.int k s:=by simpa using l
  have m:d=.lit (.int k s):=by
   have:=congrArg Prod.fst E
   simpa using this
  rw[ui,e]at b;simp only[Ja,Option.some.injEq]at b;rw[m]at b;injection b with b
  injection b with _ b
  rw[D,ui,e,r,<- b]
  rfl
 rw[aK (by omega),aK (by simp;omega)]
end
theorem Gw{P:Program}{w:J}{n:String}{g:Nat}{cs:Array Y}(c:P.globalNamed n=some g)(h:w.var? P n=some cs):∃t a,w.heap[g]?=some (.cells cs t a):=by
 unfold World.var? at h;rw[c]at h;simp only[Option.bind_some]at h;split at h
 ·rename_i b t a e;injection h with h
  subst h;exact⟨t,a,e⟩
 cases h
def eF:Nat->List (IntKind×Int)
 | 0=>[(.u8,194),(.u8,223),(.i64,1),(.u8,128),(.u8,191)]
 | 1=>[(.u8,224),(.u8,224),(.i64,2),(.u8,160),(.u8,191)]
 | 2=>[(.u8,225),(.u8,236),(.i64,2),(.u8,128),(.u8,191)]
 | 3=>[(.u8,237),(.u8,237),(.i64,2),(.u8,128),(.u8,159)]
 | 4=>[(.u8,238),(.u8,239),(.i64,2),(.u8,128),(.u8,191)]
 | 5=>[(.u8,240),(.u8,240),(.i64,3),(.u8,144),(.u8,191)]
 | 6=>[(.u8,241),(.u8,243),(.i64,3),(.u8,128),(.u8,191)]
 | _=>[(.u8,244),(.u8,244),(.i64,3),(.u8,128),(.u8,143)]
def zdp:DataW Unit := .agg ((List.range 8).map λi => .agg ((eF i).map λx => .lit (.int x.1 x.2)))
theorem zdq:(Rows.laid_warrant_texts_sequences:DataW Unit)=zdp:=by kernel_rfl
theorem Bl:prog.globalNamed "warrant/texts.sequences" = some 5:=by kernel_rfl
theorem zfU:(prog.globals[(5:Nat)]?).map (·.type)=some 374:=by kernel_rfl
theorem LK:prog.cellsOf 374=8*5:=by kernel_rfl
theorem tC:prog.cellsOf 373=5:=by kernel_rfl
theorem zdv {W:J} (h:Lib.VarReads prog W "warrant/texts.sequences" Rows.laid_warrant_texts_sequences):qO W:=by
 obtain⟨g,t,u,v,p,D,s,n,w⟩:=h;obtain rfl:=Option.some.inj (Bl.symm.trans D);obtain rfl:=Option.some.inj (zfU.symm.trans s);rw[zdq]at w
 have r:u.toList=(List.range 8).flatMap λi=>(eF i).map λx=>Value.int x.1 x.2:=by
  refine sF underlying374 tC LK w _ (λi d F o q E m C=>?_);rw[ui,aM E]at m;simp only[Ja,Option.some.injEq]at m;subst m
  have y:∀i,(eF i).map Prod.fst=[.u8,.u8,.i64,.u8,.u8]:=by
   intro i;unfold eF;split<;>rfl
  refine Tn underlying373 ?_ ?_ (by rw[tC];rfl) (by have:=congrArg List.length (y i);simpa using this) C
  ·intro j f a
   match j,a with
   | 0,a=>simp at a;subst a;exact⟨rfl,by kernel_rfl⟩
   | 1,a=>simp at a;subst a;exact⟨rfl,by kernel_rfl⟩
   | 2,a=>simp at a;subst a;exact⟨rfl,by kernel_rfl⟩
   | 3,a=>simp at a;subst a;exact⟨rfl,by kernel_rfl⟩
   | 4,a=>simp at a;subst a;exact⟨rfl,by kernel_rfl⟩
   | j+5,a=>simp at a
  intro j f a;have b:=congrArg (λl=>l[j]?) (y i);simp only[ui]at b
  match j,a,b with
  | 0,a,b=>
   obtain⟨⟨k,z⟩,c,rfl⟩:=vT.1 b;simp at a;subst a;exact⟨_,z,c,by kernel_rfl⟩
  | 1,a,b=>
   obtain⟨⟨k,z⟩,c,rfl⟩:=vT.1 b;simp at a;subst a;exact⟨_,z,c,by kernel_rfl⟩
  | 2,a,b=>
   obtain⟨⟨k,z⟩,c,rfl⟩:=vT.1 b;simp at a;subst a;exact⟨_,z,c,by kernel_rfl⟩
  | 3,a,b=>
   obtain⟨⟨k,z⟩,c,rfl⟩:=vT.1 b;simp at a;subst a;exact⟨_,z,c,by kernel_rfl⟩
  | 4,a,b=>
   obtain⟨⟨k,z⟩,c,rfl⟩:=vT.1 b;simp at a;subst a;exact⟨_,z,c,by kernel_rfl⟩
  | j+5,a,_=>simp at a
 obtain⟨t,A,B⟩:=Gw Bl n;refine⟨t,A,?_⟩
 have e:u=Z6.toArray:=by
  rw[<- Y3,r]
  rfl
 rw[<- e];exact B
theorem KQ{W:J}{fuel:Nat}{xs:List Y}{q:List MemPlace}(nm:BY){r t:UInt8}{u v:List UInt8}{f1 f2:FuncId}
  (y:((List.range prog.funcs.size).filter λf=>(prog.funcs[f]?).any (·.name.toUTF8.data.toList==r::u))=[f1])
  (z:((List.range prog.funcs.size).filter λf=>(prog.funcs[f]?).any (·.name.toUTF8.data.toList==t::v))=[f2])
  (h:DataW.trod (funcToken prog) prog W 0 (λ_=>true) true fuel 346 xs=some (.agg [.lit (.string nm.data.toList),.held (r::u),.held (t::v)],q)):xs=[S9 nm,.func (.func f1) #[] #[],.func (.func f2) #[] #[]]:=by
 obtain⟨A,b⟩:=Gn underlying346 (λj f a=>by
  match j,a with
  | 0,a=>simp at a;subst a;exact⟨rfl,by kernel_rfl⟩
  | 1,a=>simp at a;subst a;exact⟨rfl,by kernel_rfl⟩
  | 2,a=>simp at a;subst a;exact⟨rfl,by kernel_rfl⟩
  | j+3,a=>simp at a) (by kernel_rfl) h
 obtain⟨E,d0,I,F,g,c,n⟩:=b 0 _ rfl;obtain⟨M,d1,K,G,i,d,o⟩:=b 1 _ rfl;obtain⟨N,d2,L,H,k,e,p⟩:=b 2 _ rfl;simp only[jE,kW,Option.some.injEq]at c d e;subst c;subst d;subst e;obtain⟨s,B,D,_⟩:=aF underlying9 n;have w:=func_of_trod underlying343 y o;have x:=func_of_trod underlying344 z p;have C:E=S9 s:=by simpa using B
 have m:s=nm:=by
  have:=congrArg Prod.fst D
  simp only[DataW.lit.injEq,Lit.string.injEq]at this;exact XJ (Y3.1 this.symm)
 have l:xs.length=3:=A
 match xs,l with
 | [x0,x1,x2],_=>
  simp only[jE,kW,Option.some.injEq]at g i k;rw[g,i,k,C,m,w,x]
def zaz:Nat->List UInt8
 | 0=>[119,97,114,114,97,110,116,47,100,111,99,117,109,101,110,116,115,46,108,105,107,101,86,97,108,117,101,115]
 | 1=>[119,97,114,114,97,110,116,47,100,111,99,117,109,101,110,116,115,46,115,97,109,101,86,97,108,117,101,115]
 | 2=>[119,97,114,114,97,110,116,47,100,111,99,117,109,101,110,116,115,46,98,101,108,111,119,86,97,108,117,101,115]
 | 3=>[119,97,114,114,97,110,116,47,100,111,99,117,109,101,110,116,115,46,117,110,100,101,114,86,97,108,117,101,115]
 | _=>[119,97,114,114,97,110,116,47,100,111,99,117,109,101,110,116,115,46,97,98,115,101,110,116,86,97,108,117,101,115]
def zfg:Nat->List UInt8
 | 0=>[119,97,114,114,97,110,116,47,100,111,99,117,109,101,110,116,115,46,105,115,76,105,107,101]
 | 1=>[119,97,114,114,97,110,116,47,100,111,99,117,109,101,110,116,115,46,105,115,83,97,109,101]
 | 2=>[119,97,114,114,97,110,116,47,100,111,99,117,109,101,110,116,115,46,105,115,66,101,108,111,119]
 | 3=>[119,97,114,114,97,110,116,47,100,111,99,117,109,101,110,116,115,46,105,115,85,110,100,101,114]
 | _=>[119,97,114,114,97,110,116,47,100,111,99,117,109,101,110,116,115,46,105,115,65,98,115,101,110,116]
def DY:DataW (List UInt8) := .agg ((List.range 5).map λi => .agg [.lit (.string (opN i).data.toList),.held (zaz i),.held (zfg i)])
theorem zbG:∃d,(Rows.laid_warrant_documents_operations:DataW Unit)=.iface "func table" d/\d.funcsOut=DY:=⟨_,rfl,by kernel_rfl⟩
theorem Bj:prog.globalNamed "warrant/documents.operations" = some 6:=by kernel_rfl
theorem zfT:(prog.globals[(6:Nat)]?).map (·.type)=some 376:=by kernel_rfl
theorem LH:prog.cellsOf 376=5*3:=by kernel_rfl
theorem LJ:prog.cellsOf 346=3:=by kernel_rfl
def zbJ(i:Nat):List Y:=[S9 (opN i),.func (.func (opL i)) #[] #[],.func (.func (opT i)) #[] #[]]
theorem zbP {W:J} {d:DataW Unit} (k:d.funcsOut=DY) (h:funcsAt prog W "warrant/documents.operations" d):XX W:=by
 obtain⟨g,t,m,n,p,v,l,c,o⟩:=h;obtain rfl:=Option.some.inj (Bj.symm.trans v);obtain rfl:=Option.some.inj (zfT.symm.trans l);rw[k]at o
 have j:m.toList=(List.range 5).flatMap zbJ:=by
  refine sF underlying376 LJ LH o _ (λi d w f q r a b=>?_);rw[ui,aM r]at a;simp only[Ja,Option.some.injEq]at a;subst a
  rcases lt5 r with rfl|rfl|rfl|rfl|rfl
  ·exact KQ (opN 0) (f1:=opL 0) (f2:=opT 0) (by kernel_rfl) (by kernel_rfl) b
  ·exact KQ (opN 1) (f1:=opL 1) (f2:=opT 1) (by kernel_rfl) (by kernel_rfl) b
  ·exact KQ (opN 2) (f1:=opL 2) (f2:=opT 2) (by kernel_rfl) (by kernel_rfl) b
  ·exact KQ (opN 3) (f1:=opL 3) (f2:=opT 3) (by kernel_rfl) (by kernel_rfl) b
  exact KQ (opN 4) (f1:=opL 4) (f2:=opT 4) (by kernel_rfl) (by kernel_rfl) b
 obtain⟨t,s,u⟩:=Gw Bj c;refine⟨t,s,?_⟩
 have e:m=Ur.toArray:=by
  rw[<- Y3,j]
  rfl
 rw[<- e];exact u
theorem own:ownKnob prog.godebug=none:=by kernel_rfl
theorem Bi:prog.globalNamed "warrant/texts.ErrLong" = some 0:=by kernel_rfl
theorem Rz:prog.globalNamed "errors.errorType" = some 1:=by kernel_rfl
theorem zc7:(prog.cutTypes.find? (·.1 == "internal/reflectlite.rtype")).map (·.2)=some 302:=by kernel_rfl
theorem zfq:prog.types.size=431:=by kernel_rfl
theorem zbC:((List.range 431).filter λt=>prog.rowNamed t [101,114,114,111,114])=[82]:=by kernel_rfl
theorem handle:typeHandle prog 82=.pointer (some (G8 7 82)):=by kernel_rfl
theorem Rb:Rows.laid_unicode_utf8_first=Lib.firstData:=by kernel_rfl
theorem GY:(Rows.laid_unicode_utf8_acceptRanges:DataW Unit)=Lib.acceptData:=by kernel_rfl
theorem FQ : "*" ++ "errors.errorString" = "*errors.errorString":=by decide
theorem zby (u:TypeId) (h:prog.typeName? 3 u=some "*errors.errorString"):u=391:=
 typeName_ptr_named (nm := "errors.errorString") (by rw[FQ];kernel_rfl) (by kernel_rfl) (by decide) u (by rw[FQ];exact h)
theorem zaS{W:J}(h:W.ShapedOpen prog):XV W:=
 Go.Proofs.cell_of_shapedOpen_int (zero:=#[R9 0]) (t:=3) h (DL (by kernel_rfl)) (by kernel_rfl) rfl (by kernel_rfl) (by kernel_rfl) underlying3
def laidAll:List (String×DataW Unit):=[("unicode/utf8.acceptRanges",Rows.laid_unicode_utf8_acceptRanges),("errors.errorType",Rows.laid_errors_errorType),("warrant/texts.ErrLong",Rows.laid_warrant_texts_ErrLong),("warrant/texts.sequences",Rows.laid_warrant_texts_sequences),("warrant/documents.operations",Rows.laid_warrant_documents_operations),("unicode/utf8.first",Rows.laid_unicode_utf8_first)]
def BP:List (String×DataW Unit):=[("unicode/utf8.acceptRanges",Rows.laid_unicode_utf8_acceptRanges),("warrant/texts.ErrLong",Rows.laid_warrant_texts_ErrLong),("warrant/texts.sequences",Rows.laid_warrant_texts_sequences),("unicode/utf8.first",Rows.laid_unicode_utf8_first)]
theorem Ph{W:J}(h:laidMetH prog laidAll W)(z:W.ShapedOpen prog):∃m,jL W m:=by
 have w:laidMet prog BP W/\handlesMet prog [("errors.errorType",Rows.laid_errors_errorType),("warrant/documents.operations",Rows.laid_warrant_documents_operations)] W:=h
 obtain⟨j,y⟩:=w
 have b:uG W:=by
  have B:Lib.VarReads prog W "unicode/utf8.first" Lib.firstData:=by rw[<- Rb];exact Lib.laidMet.reads j (.tail _ (.tail _ (.tail _ (.head _))))
  have C:Lib.VarReads prog W "unicode/utf8.acceptRanges" Lib.acceptData:=by rw[<- GY];exact Lib.laidMet.reads j (.head _)
  exact utf8Tabs_of_readsT (U8Types.of196 Tryz.lays196) ⟨by kernel_rfl,by kernel_rfl,by kernel_rfl,by kernel_rfl,by kernel_rfl,by kernel_rfl,by kernel_rfl⟩ B C
 have c:yj W:=by
  obtain⟨i,u,D,o,p,q,r,k⟩:=y _ (.head _);have v:i=[101,114,114,111,114]:=(Option.some.inj o).symm;subst v;obtain rfl:=Option.some.inj (zc7.symm.trans p);have l:D ∈ (List.range 431).filter λt=>prog.rowNamed t [101,114,114,111,114]:=List.mem_filter.2 ⟨vk.2 (by rw[<- zfq];exact q),r⟩;rw[zbC]at l;obtain rfl:=yx.1 l;rw[handle]at k;show W.cell? _=_
  simpa using World.var?_cell Rz k 0
 have e:XX W:=by
  obtain⟨d,x,f⟩:=zbG
  exact zbP f (h.funcs (n := "warrant/documents.operations") (d:=d) (by rw[<- x];exact .tail _ (.tail _ (.tail _ (.tail _ (.head _))))))
 have g:qO W:=zdv (Lib.laidMet.reads j (.tail _ (.tail _ (.head _))));obtain⟨a,s,A,_⟩:=laid_sentinel (tp:=391) (te:=410) (ts:=9) (laidMet.tail j) Bi (by kernel_rfl) underlying82 zby underlying391 underlying410 rfl rfl underlying9 (by kernel_rfl) (by kernel_rfl);exact⟨a,⟨⟨⟨⟨b,zaS z,c⟩,e⟩,g,by simpa using World.var?_cell Bi A 0⟩⟩⟩
noncomputable def low:Nat:=(World.holding prog default ⟨#[],#[],[]⟩).heap.size
noncomputable def put (h:Array Obj) (g:Nat) (cs:Array Y):Array Obj:=h.modify g fun
 | .cells _ t frozen => .cells cs t frozen
 | o=>o
noncomputable def laidWorld (a:Os):J:=
 { World.holding prog a ⟨#[L8 #[S9 ⟨#[116,104,101,32,116,101,120,116,32,105,115,32,116,111,111,32,108,111,110,103]⟩] 410],#[],[]⟩ with
  heap:=put (put (put (put (put (put (World.holding prog a ⟨#[L8 #[S9 ⟨#[116,104,101,32,116,101,120,116,32,105,115,32,116,111,111,32,108,111,110,103]⟩] 410],#[],[]⟩).heap
   0 #[.iface 391 (RG low 0)])
   1 #[.iface 302 (.agg #[RG 7 82])])
   2 (Lib.firstTab.map λz=>Value.int .u8 z).toArray)
   3 ((List.range 16).flatMap λi=>[Value.int .u8 (Lib.accLo i),Value.int .u8 (Lib.accHi i)]).toArray)
   5 Z6.toArray)
   6 Ur.toArray }
theorem WR(b:Os)(a:Array Y):laidMetH prog laidAll ((laidWorld b).forCall (λ_ _=>0) ⟨#[],a,[]⟩).memory:=
 laidMetH_of_parts3 (fuel:=8) (LaidIn.of_run (l:=BP) [0,2,3,5,low] 8 (by kernel_rfl) (by kernel_rfl) (by kernel_rfl) (by kernel_rfl)).met (by kernel_rfl) (by kernel_rfl)
theorem laidOut:laidOutB prog=true:=by kernel_rfl
theorem zfo{H:Type}{enc:TypeId×Y->H}{P:Program}(s:laidOutB P=true){W W':J}(r:BQ W W'):∀(a:List TypeId) (f:List Y) (e:List (DataW H)) (c:List MemPlace),(∀t ∈ a,P.readableRec t=true/\t<P.types.size)->DataW.TrodAll enc P W 0 (λ_=>true) true a f e c->(∀x ∈ c,x.block<W.heap.size) ->
   DataW.TrodAll enc P W' 0 (λb=>decide (b<W.heap.size)) true a f e c:=by
 intro a
 induction a with
 | nil=>
  intro f e c _ h _;obtain⟨rfl,rfl,rfl⟩:=trodAll_nil h;exact trodAll_mk0
 | cons t a w=>
  intro f e c l h k;obtain⟨v,j,d,g,p,q,rfl,rfl,rfl,n,o⟩:=trodAll_cons h;have m:=l t (List.mem_cons_self ..);exact trodAll_cons_mk (Below.trod s m.1 m.2 n r (λx i=>k x (aN _ i))) (w j g q (λt u=>l t (List.mem_cons_of_mem _ u)) o (λx i=>k x (rD _ i)))
end Go.Proofs.YtfjpcldndaiifaaGreatDoor.laws
