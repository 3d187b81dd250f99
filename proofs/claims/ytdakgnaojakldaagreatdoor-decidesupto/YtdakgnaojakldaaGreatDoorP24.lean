/- P -/
import Derived.Test.YtdakgnaojakldaaGreatDoorP23
import Derived.Test.YtdakgnaojakldaaGreatDoorRows
import Derived.ProofKit
import Derived.OpenShut
import Derived.JoinedCond
import Derived.Lib.SmallJoins
import Derived.Deep.SlicePairs
import Derived.Deep.DeepHandedRow
import Derived.Deep.DeepWitnessRowRef
import Derived.Lib.LaidIn
import Derived.Lib.LaidU8T
import Derived.Stop.LaidErr
import Derived.LaidHandle
import Derived.LaidMore
import Derived.Shelf.Vars
open Go.Proofs.Tryz
set_option maxRecDepth 100000
set_option maxHeartbeats 4000000
namespace Go.Proofs.YtdakgnaojakldaaGreatDoor
open Go.RowKit Go.Extern.Stop Go.Stop Go.Extern
def VI(u:Value)(a:TypeId):Prop:=∀(W:World) (t:Addr),xR W->Calls prog 57 #[u,.iface a (.pointer (some t))] W λe w'=>e = .returned (.bool false)/\Below W.heap.size W w'
def lJ(u:Value)(b:TypeId)(n:Nat)(x:Value):Prop:=∀(W:World) (a:Nat),xR W->(∀j,j<n->∃o,W.cell? ⟨a,j,none⟩=some o)->(∀j,j<n->W.frozen? ⟨a,j,none⟩=false) ->
 Calls prog 57 #[u,.iface b (.pointer (some ⟨a,0,none⟩))] W λe w'=>e = .returned (.bool true)/\w'.cell? ⟨a,0,none⟩=some x/\∀base,base<=a->base<=W.heap.size->Below base W w'
theorem JH(w:World)(a b:Obj):Below w.heap.size w ((w.alloc a).alloc b):=(nbl w a).alloc (by simp) b
theorem YE(T a E:TypeId)(v:Value)(d:Zq T a)(c:jD E)(f:uQ E)(b:Assign E T false):VI (.iface E v) a:=λW t g=>
 Jl T a E v t W g d false (λw'=>Below W.heap.size W w') (λO=>by
  refine (ru E T v _ _ _ _ _ c f b).mono ?_;rintro e w' ⟨rfl,hb⟩;exact⟨rfl,(JH W _ O).trans (hb.mono (JH W _ O).size)⟩)
theorem Jg(T a E:TypeId)(n:Int)(v:Value)(f:Zq T a)(d:jD E)(g:uQ E)(b:Assign 138 T false)(c:Assign E T false):VI (.iface 138 (.agg #[.int .i64 n,.iface E v])) a:=λW t h=>
 Jl T a _ _ t W h f false (λw'=>Below W.heap.size W w') (λO=>by
  refine (Mh E T n v _ _ _ _ _ Um d g b c).mono ?_;rintro e w' ⟨rfl,hb⟩;exact⟨rfl,(JH W _ O).trans (hb.mono (JH W _ O).size)⟩)
theorem dx(E a:TypeId)(ok:Value->Prop)(x:Value)(h:Zq E a)(l:jD E)(k:Assign E E true)(m:XQ E ok)(r:ok x):lJ (.iface E (.agg #[x])) a 1 x:=λW b q n p=>by
 obtain⟨o,g⟩:=n 0 (by omega);have f:=p 0 (by omega);refine Jl E a E (.agg #[x]) ⟨b,0,none⟩ W q h true (λw'=>w'.cell? ⟨b,0,none⟩=some x/\∀base,base<=b->base<=W.heap.size->Below base W w') (λO=>?_);refine (rq E a ok x _ o ⟨W.heap.size,0,none⟩ ⟨b,0,none⟩ _ l k h m r (zP (Jm W _ _) O) (zP (zP g _) O) (uh (zP g _) (uh g f _) O)).mono ?_;rintro e w' ⟨rfl,i,j⟩;refine⟨rfl,i,λbase c d=>?_⟩;exact (((ze base W).alloc d _).alloc (by simp;omega) O).trans (j base c (by simp;omega))
theorem EQ(E a:TypeId)(ok:Value->Prop)(n:Int)(x:Value)(h:Zq E a)(l:jD E)(p:Assign 138 E false)(k:Assign E E true)(m:XQ E ok)(t:ok x):lJ (.iface 138 (.agg #[.int .i64 n,.iface E (.agg #[x])])) a 1 x:=λW b s q r=>by
 obtain⟨o,g⟩:=q 0 (by omega);have f:=r 0 (by omega);refine Jl E a _ _ ⟨b,0,none⟩ W s h true (λw'=>w'.cell? ⟨b,0,none⟩=some x/\∀base,base<=b->base<=W.heap.size->Below base W w') (λO=>?_);refine (Mg E a ok n x _ o ⟨W.heap.size,0,none⟩ ⟨b,0,none⟩ _ Um l p k h m t (zP (Jm W _ _) O) (zP (zP g _) O) (uh (zP g _) (uh g f _) O)).mono ?_;rintro e w' ⟨rfl,i,j⟩;refine⟨rfl,i,λbase c d=>?_⟩;exact (((ze base W).alloc d _).alloc (by simp;omega) O).trans (j base c (by simp;omega))
def lQ(u EL:Value):Prop:=∀W:World,Calls prog 56 #[u,EL] W λe w'=>e = .returned (.bool false)/\Below W.heap.size W w'
theorem zbi(p:BY)(w:World)(f:xR w) :
  Calls prog 58 #[.iface 125 (.agg #[.string p])] w λe w'=>e = .returned (.tuple #[.int .i64 5,.int .i64 0])/\Below w.heap.size w w':=by
 have d:=λg i=>JH w g i;have c1:=λW t h=>YE 138 229 125 (.agg #[.string p]) lD Ql QW Fe W t h;have c2:=λW t h=>YE 228 230 125 (.agg #[.string p]) lw Ql QW mZ W t h;go_enter func58,ntmps58
 go_wp2_with (first
  | (go_at_call 57;refine (c2 w1 _ (f.below a)).mono ?_;rintro e j ⟨rfl,c⟩)
  | (go_at_call 57;refine (c1 _ _ (f.below (d _ _))).mono ?_;rintro e w1 ⟨rfl,b⟩;have a:Below w.heap.size w w1:=(d _ _).trans (b.mono (by simp;omega))))
 go_ret2;exact⟨rfl,a.trans (c.mono a.size)⟩
theorem X4{W:World}{cs:Array Value}{t:TypeId}{b:Nat}(h:W.heap[b]?=some (.cells cs t (0,0)))(n:Nat)(c:n<=cs.size):(∀j,j<n->∃o,W.cell? ⟨b,j,none⟩=some o)/\(∀j,j<n->W.frozen? ⟨b,j,none⟩=false):=by
 refine⟨λj a=>⟨cs[j]'(by omega),?_⟩,λj _=>(zg h j).2⟩;rw[(zg h j).1];exact Array.getElem?_eq_getElem (by omega)
theorem Mf(q E:TypeId)(n:Int)(v i o p:Value)(a:Addr)(c:Nat)(w:World)(k:jD 138)(j:Assign 138 138 true)(l:Zq 138 q)
  (m:w.cell? a=some (.pointer (some ⟨c,0,none⟩)))(f:w.cell? ⟨c,0,none⟩=some o)(h:w.cell? ⟨c,1,none⟩=some p)(f1:w.frozen? ⟨c,0,none⟩=false)(f2:w.frozen? ⟨c,1,none⟩=false) :
  Calls prog 108 #[.iface 138 (.agg #[.int .i64 n,.iface E v]),i,.agg #[.pointer (some ⟨7,q,none⟩),.pointer (some a),.int .u64 150],.iface 283 (.agg #[.pointer (some ⟨7,138,none⟩)])] w λe w'=>
   e = .returned (.bool true)/\w'.cell? ⟨c,0,none⟩=some (.int .i64 n)/\(∀base,base<=c->base<=w.heap.size->Below base w w')/\∀b,b<w.heap.size->b≠c->w'.heap[b]?=w.heap[b]?:=by
 have s:=@xQ prog 103 _ ReflectliteType.typeOf func103 (by kernel_rfl) (by kernel_rfl) (by kernel_rfl) (by kernel_rfl)
 have x:=@xQ prog 306 _ (ReflectliteType.relation "AssignableTo" ReflectliteType.assignableTo) func306 (by kernel_rfl) (by kernel_rfl) (by kernel_rfl) (by kernel_rfl)
 have A:=@xQ prog 105 _ (λargs=>ReflectliteValue.unpack (args.getD 0 (.tuple #[]))) func105 (by kernel_rfl) (by kernel_rfl) (by kernel_rfl) (by kernel_rfl)
 have t:=@xQ prog 156 _ (ReflectliteValue.method (ReflectliteValue.valueError "reflectlite.Value.Elem" 0) ReflectliteValue.elem) func156 (by kernel_rfl) (by kernel_rfl) (by kernel_rfl) (by kernel_rfl)
 have u:=@xQ prog 157 _ ReflectliteValue.set func157 (by kernel_rfl) (by kernel_rfl) (by kernel_rfl) (by kernel_rfl);have C:=k.typeOf;have B:=Tryz.erAssignableTo;have r:=j;unfold Assign at r;have D:=λw=>Tryz.stHeld n (.iface E v) w;have z:=λO=>l.elemV a ⟨c,0,none⟩ (w.alloc O) (zP m O);have st:=λO=>Tryz.stSet c (w.heap.size+1) n E v o p ((w.alloc O).alloc (.cells #[.int .i64 n,.iface E v] 138)) (by rw[Ko _ _ _ _ (by simp)];rfl) (by rw[Ko _ _ _ _ (by simp)];rfl) (zP (zP f O) _) (zP (zP h O) _) (uh (zP f O) (uh f f1 O) _) (uh (zP h O) (uh h f2 O) _);have fin:=λO=>(qO (((w.alloc O).alloc (.cells #[.int .i64 n,.iface E v] 138)).setCell ⟨c,0,none⟩ (.int .i64 n)) ⟨c,1,none⟩ ⟨c,0,none⟩ (.iface E v) (by simp)).trans (Zr ((w.alloc O).alloc (.cells #[.int .i64 n,.iface E v] 138)) ⟨c,0,none⟩ (.int .i64 n) (zP (zP f O) (.cells #[.int .i64 n,.iface E v] 138)));clear j l m k;go_enter func108,ntmps108
 go_wp2
 refine JI 1 ?_;rw[Xz]
 go_wp2
 go_ret;refine⟨rfl,fin _,λbase d g=>?_,λb hb y=>?_⟩
 ·exact ((((ze base w).alloc g _).alloc (by simp;omega) _).setCell d _).setCell d _
 ·rw[qd _ _ _ _ (by simp only;omega),qd _ _ _ _ (by simp only;omega),Z8 _ _ _ (by simp;omega),Z8 _ _ _ hb]
theorem mX(E:TypeId)(n:Int)(v:Value)(W:World)(a:Nat)(s:xR W)(l:∀j,j<2->∃o,W.cell? ⟨a,j,none⟩=some o)(m:∀j,j<2->W.frozen? ⟨a,j,none⟩=false) :
  Calls prog 57 #[.iface 138 (.agg #[.int .i64 n,.iface E v]),.iface 229 (.pointer (some ⟨a,0,none⟩))] W λe w'=>e = .returned (.bool true)/\w'.cell? ⟨a,0,none⟩=some (.int .i64 n)/\(∀base,base<=a->base<=W.heap.size->Below base W w')/\∀b,b<W.heap.size->b≠a->w'.heap[b]?=W.heap[b]?:=by
 obtain⟨o,k⟩:=l 0 (by omega);obtain⟨t,c⟩:=l 1 (by omega);have g:=m 0 (by omega);have h:=m 1 (by omega);refine Jl 138 229 _ _ ⟨a,0,none⟩ W s lD true (λw'=>w'.cell? ⟨a,0,none⟩=some (.int .i64 n)/\(∀base,base<=a->base<=W.heap.size->Below base W w')/\∀b,b<W.heap.size->b≠a->w'.heap[b]?=W.heap[b]?) (λO=>?_);refine (Mf 229 E n v _ o t ⟨W.heap.size,0,none⟩ a _ Um Ff lD (zP (Jm W _ _) O) (zP (zP k _) O) (zP (zP c _) O) (uh (zP k _) (uh k g _) O) (uh (zP c _) (uh c h _) O)).mono ?_;rintro e w' ⟨rfl,p,q,r⟩;refine⟨rfl,p,λbase d f=>?_,λb hb i=>?_⟩
 ·exact (((ze base W).alloc f _).alloc (by simp;omega) O).trans (q base d (by simp;omega))
 ·rw[r b (by simp;omega) i,Z8 _ _ _ (by simp;omega),Z8 _ _ _ hb]
theorem zbk(n:Nat)(p:BY)(w:World)(g:xR w) :
  Calls prog 58 #[.iface 138 (.agg #[.int .i64 (n:Int),.iface 125 (.agg #[.string p])])] w λe w'=>e = .returned (.tuple #[.int .i64 5,.int .i64 (n:Int)])/\Below w.heap.size w w':=by
 have f:=λj b=>JH w j b;have c1:=λW o h k l=>mX 125 (n:Int) (.agg #[.string p]) W o h k l;have c2:=λW t h=>Jg 228 230 125 (n:Int) (.agg #[.string p]) lw Ql QW nz mZ W t h;have i:=λb=>X4 (ky w (.cells #[.int .i64 0,.nilIface] 138) b).1 2 (by decide);go_enter func58,ntmps58
 go_wp2_with (first
  | (go_at_call 57;refine (c2 w1 _ (g.below a)).mono ?_;rintro e q ⟨rfl,d⟩)
  | (go_at_call 57;refine (c1 _ w.heap.size (g.below (f _ _)) (i _).1 (i _).2).mono ?_;rintro e w1 ⟨rfl,m,c,_⟩;have a:Below w.heap.size w w1:=(f _ _).trans (c _ (zf _) (by simp;omega))))
 go_ret2;exact⟨rfl,a.trans (d.mono a.size)⟩
theorem zbj(n:Nat)(k:Int)(w:World)(m:xR w) :
  Calls prog 58 #[.iface 138 (.agg #[.int .i64 (n:Int),.iface 228 (.agg #[.int .i64 k])])] w λe w'=>e = .returned (.tuple #[.int .i64 6,.int .i64 (n:Int)])/\Below w.heap.size w w':=by
 have l:=λq b=>JH w q b;have c1:=λW j h c d=>mX 228 (n:Int) (.agg #[.int .i64 k]) W j h c d;have c2:=λW j h c d=>EQ 228 230 _ (n:Int) (.int .i64 k) lw Vd nz EX Oj ⟨k,rfl⟩ W j h c d;have o:=λb=>X4 (ky w (.cells #[.int .i64 0,.nilIface] 138) b).1 2 (by decide);have t:=(ky w (.cells #[.int .i64 0,.nilIface] 138) (.cells #[.int .i64 0] 228)).2;go_enter func58,ntmps58
 go_wp2_with (first
  | (go_at_call 57;refine (c2 w1 (w.heap.size+1) (m.below a) p.1 p.2).mono ?_;rintro e u ⟨rfl,s,g⟩)
  | (go_at_call 57;refine (c1 _ w.heap.size (m.below (l _ _)) (o _).1 (o _).2).mono ?_;rintro e w1 ⟨rfl,r,f,i⟩;have a:Below w.heap.size w w1:=(l _ _).trans (f _ (zf _) (by simp;omega));have p:=X4 ((i (w.heap.size+1) (by simp) (by omega)).trans t) 1 (by decide)))
 go_ret2;exact⟨rfl,a.trans (g _ (by omega) a.size)⟩
theorem Mc(b:Addr)(w:World) :
  Calls prog 56 #[.iface 418 (.pointer (some b)),.iface 418 (.pointer (some b))] w λe w'=>e = .returned (.bool true)/\w'=w:=by
 have m:=@xQ prog 103 _ ReflectliteType.typeOf func103 (by kernel_rfl) (by kernel_rfl) (by kernel_rfl) (by kernel_rfl);have o:=Tryz.erTypeLong;have n:=Tryz.erComparable
 have l:=@xQ prog 307 _ (ReflectliteType.method (λt=>do Rtype.noPackHeld "Comparable" t;pure (.bool (<- typeInfo t).comparable))) func307 (by kernel_rfl) (by kernel_rfl) (by kernel_rfl) (by kernel_rfl)
 have g:=Tryz.erComparableLong
 obtain⟨i,hi,a⟩:∃i,prog.info? 418=some i/\i.comparable=true:=by
  have h:(prog.info? 418).map (·.comparable)=some true:=by kernel_rfl
  obtain⟨i,d,f⟩:=vU.1 h;exact⟨i,d,f⟩
 obtain⟨j,c⟩:∃j,prog.info? 437=some j:=by
  have h:(prog.info? 437).isSome=true:=by kernel_rfl
  exact bV.1 h
 have k:=λW=>run_eql_iface_ptr_same (P:=prog) (w:=W) b underlying74 underlying418 hi a c;clear hi a c;go_enter func56,ntmps56
 go_wp2
 refine JI 1 ?_;rw[Xz]
 go_wp2
 go_ret;exact⟨rfl,rfl⟩
theorem zcF(w:World)(a b c:Obj):Below w.heap.size w (((w.alloc a).alloc b).alloc c)/\(((w.alloc a).alloc b).alloc c).heap[w.heap.size]?=some a/\(((w.alloc a).alloc b).alloc c).heap[w.heap.size+1]?=some b/\(((w.alloc a).alloc b).alloc c).heap[w.heap.size+2]?=some c:=by
 refine⟨((nbl _ _).alloc (by simp) _).alloc (by simp;omega) _,?_,?_,?_⟩
 ·rw[Z8 _ _ _ (by simp;omega)];exact (ky w a b).1
 ·rw[Z8 _ _ _ (by simp)];exact (ky w a b).2
 ·have h:=zB ((w.alloc a).alloc b) c;rw[vW,vW] at h;exact h
theorem boxes(w:World):Below w.heap.size w (((w.alloc (.cells #[.int .i64 0] 140)).alloc (.cells #[.int .i64 0] 141)).alloc (.cells #[.int .i64 0] 142)) /\
  (((w.alloc (.cells #[.int .i64 0] 140)).alloc (.cells #[.int .i64 0] 141)).alloc (.cells #[.int .i64 0] 142)).heap[w.heap.size]?=some (.cells #[.int .i64 0] 140) /\
  (((w.alloc (.cells #[.int .i64 0] 140)).alloc (.cells #[.int .i64 0] 141)).alloc (.cells #[.int .i64 0] 142)).heap[w.heap.size+1]?=some (.cells #[.int .i64 0] 141) /\
  (((w.alloc (.cells #[.int .i64 0] 140)).alloc (.cells #[.int .i64 0] 141)).alloc (.cells #[.int .i64 0] 142)).heap[w.heap.size+2]?=some (.cells #[.int .i64 0] 142):=zcF w _ _ _
theorem eO(E:TypeId)(v EL:Value)(u:TypeId)(D:Value)(i:EL = .iface u D)(c:Int)(q:Nat)(w:World)(s:xR w)(t:w.cell? ⟨0,0,none⟩=some EL)(x:lQ (.iface E v) EL)(A:VI (.iface E v) 145)(B:VI (.iface E v) 146)(C:VI (.iface E v) 147)
  (z:∀W,xR W->Calls prog 58 #[.iface E v] W λe w'=>e = .returned (.tuple #[.int .i64 c,.int .i64 (q:Int)])/\Below W.heap.size W w') :
  Calls prog 33 #[.iface E v] w λe w'=>e = .returned (.tuple #[.int .i64 c,.int .i64 (q:Int)])/\Below w.heap.size w w':=by
 obtain⟨h,_,_,_⟩:=boxes w;have y:=zh h t;have g:∀W,Below w.heap.size w W->xR W:=λW hb=>s.below hb;subst i;clear s t;go_enter func33,ntmps33
 go_wp2_with (first
  | (go_at_call 58;refine (z r (g r f)).mono ?_;rintro e F ⟨rfl,n⟩)
  | (go_at_call 57;refine (C p _ (g p d)).mono ?_;rintro e r ⟨rfl,m⟩;have f:Below w.heap.size w r:=d.trans (m.mono d.size))
  | (go_at_call 57;refine (B o _ (g o b)).mono ?_;rintro e p ⟨rfl,l⟩;have d:Below w.heap.size w p:=b.trans (l.mono b.size))
  | (go_at_call 57;refine (A w1 _ (g w1 a)).mono ?_;rintro e o ⟨rfl,k⟩;have b:Below w.heap.size w o:=a.trans (k.mono a.size))
  | (go_at_call 56;refine (x _).mono ?_;rintro e w1 ⟨rfl,j⟩;have a:Below w.heap.size w w1:=h.trans (j.mono h.size)))
 go_ret2;exact⟨rfl,f.trans (n.mono f.size)⟩
theorem KR(E:TypeId)(v:Value)(a:Addr)(b:jD E)(c:uQ E):lQ (.iface E v) (.iface 418 (.pointer (some a))):=λW=>by
 refine (Md E v a W b c).mono ?_;rintro e w' ⟨rfl,rfl⟩;exact⟨rfl,ze _ _⟩
theorem Mk(w:World):Calls prog 33 #[.nilIface] w λe w'=>e = .returned (.tuple #[.int .i64 0,.int .i64 0])/\Below w.heap.size w w':=by
 obtain⟨a,_,_,_⟩:=boxes w;go_enter func33,ntmps33
 go_wp2
 go_ret2;exact⟨rfl,a⟩
theorem Mj(a:Addr)(w:World)(c:w.cell? ⟨0,0,none⟩=some (.iface 418 (.pointer (some a)))):Calls prog 33 #[.iface 418 (.pointer (some a))] w λe w'=>e = .returned (.tuple #[.int .i64 1,.int .i64 0])/\Below w.heap.size w w':=by
 obtain⟨b,_,_,_⟩:=boxes w;have d:=zh b c;clear c;go_enter func33,ntmps33
 go_wp2_with (go_at_call 56;refine (Mc a _).mono ?_;rintro e w1 ⟨rfl,rfl⟩)
 go_ret2;exact⟨rfl,b⟩
theorem Mm(k:Int)(i:Addr)(w:World)(j:xR w)(l:w.cell? ⟨0,0,none⟩=some (.iface 418 (.pointer (some i)))) :
  Calls prog 33 #[.iface 140 (.agg #[.int .i64 k])] w λe w'=>e = .returned (.tuple #[.int .i64 2,.int .i64 k])/\Below w.heap.size w w':=by
 obtain⟨f,m,s,q2⟩:=boxes w;have q:=zh f l;have n:∀W,Below w.heap.size w W->xR W:=λW hb=>j.below hb;have p:=KR 140 (.agg #[.int .i64 k]) i ry Tp;have o:=dx 140 145 _ (.int .i64 k) VG ry Fg Om ⟨k,rfl⟩;have r:=m;clear j l m s q2;go_enter func33,ntmps33
 go_wp2_with (first
  | (go_at_call 57;refine (o w1 (w.heap.size) (n w1 b) (X4 d 1 (by decide)).1 (X4 d 1 (by decide)).2).mono ?_;rintro e v ⟨rfl,u,g⟩)
  | (go_at_call 56;refine (p _).mono ?_;rintro e w1 ⟨rfl,a⟩;have b:Below w.heap.size w w1:=f.trans (a.mono f.size);have d:=(a.block (w.heap.size) (by first|(simp;done)|(simp;omega))).trans r;have t:w.heap.size+3<=w1.heap.size:=(by have:=a.size;simp at this;omega)))
 go_quiet (fail)
 go_wp2
 go_ret2;have c:=g w.heap.size (by omega) (b.size);refine⟨rfl,?_⟩;have h:=b.trans c;exact⟨h.os,h.tape,h.output,h.size,h.block⟩
theorem Mi(k:Int)(o:Addr)(w:World)(q:xR w)(r:w.cell? ⟨0,0,none⟩=some (.iface 418 (.pointer (some o)))) :
  Calls prog 33 #[.iface 141 (.agg #[.int .i64 k])] w λe w'=>e = .returned (.tuple #[.int .i64 3,.int .i64 k])/\Below w.heap.size w w':=by
 obtain⟨j,A,s,q2⟩:=boxes w;have x:=zh j r;have p:∀W,Below w.heap.size w W->xR W:=λW hb=>q.below hb;have v:=KR 141 (.agg #[.int .i64 k]) o eG Ag;have z:=λW t h=>YE 140 145 141 (.agg #[.int .i64 k]) VG eG Ag EU W t h;have u:=dx 141 146 _ (.int .i64 k) UW eG ET Oi ⟨k,rfl⟩;have y:=s;clear q r A s q2;go_enter func33,ntmps33
 go_wp2_with (first
  | (go_at_call 57;refine (u i (w.heap.size+1) (p i d) (X4 g 1 (by decide)).1 (X4 g 1 (by decide)).2).mono ?_;rintro e D ⟨rfl,C,l⟩)
  | (go_at_call 57;refine (z w1 _ (p w1 c)).mono ?_;rintro e i ⟨rfl,b⟩;have d:Below w.heap.size w i:=c.trans (b.mono c.size);have g:=(b.block (w.heap.size+1) (by have:=c.size;have:=n;omega)).trans m;have B:w.heap.size+3<=i.heap.size:=(by have:=b.size;omega))
  | (go_at_call 56;refine (v _).mono ?_;rintro e w1 ⟨rfl,a⟩;have c:Below w.heap.size w w1:=j.trans (a.mono j.size);have m:=(a.block (w.heap.size+1) (by first|(simp;done)|(simp;omega))).trans y;have n:w.heap.size+3<=w1.heap.size:=(by have:=a.size;simp at this;omega)))
 go_quiet (fail)
 go_wp2
 go_ret2;have f:=l w.heap.size (by omega) (d.size);refine⟨rfl,?_⟩;have h:=d.trans f;exact⟨h.os,h.tape,h.output,h.size,h.block⟩
theorem Mo(k:Int)(v:Addr)(w:World)(x:xR w)(y:w.cell? ⟨0,0,none⟩=some (.iface 418 (.pointer (some v)))) :
  Calls prog 33 #[.iface 142 (.agg #[.int .i64 k])] w λe w'=>e = .returned (.tuple #[.int .i64 4,.int .i64 k])/\Below w.heap.size w w':=by
 obtain⟨n,F,G,q2⟩:=boxes w;have B:=zh n y;have o:∀W,Below w.heap.size w W->xR W:=λW hb=>x.below hb;have A:=KR 142 (.agg #[.int .i64 k]) v KI gF;have D:=λW t h=>YE 140 145 142 (.agg #[.int .i64 k]) VG KI gF Fj W t h;have E:=λW t h=>YE 141 146 142 (.agg #[.int .i64 k]) UW KI gF Fh W t h;have z:=dx 142 147 _ (.int .i64 k) aZ KI Fp Oo ⟨k,rfl⟩;have C:=q2;clear x y F G q2;go_enter func33,ntmps33
 go_wp2_with (first
  | (go_at_call 57;refine (z m (w.heap.size+2) (o m g) (X4 j 1 (by decide)).1 (X4 j 1 (by decide)).2).mono ?_;rintro e J ⟨rfl,I,p⟩)
  | (go_at_call 57;refine (E l _ (o l f)).mono ?_;rintro e m ⟨rfl,c⟩;have g:Below w.heap.size w m:=f.trans (c.mono f.size);have j:=(c.block (w.heap.size+2) (by have:=f.size;have:=u;omega)).trans r;have H:w.heap.size+3<=m.heap.size:=(by have:=c.size;omega))
  | (go_at_call 57;refine (D w1 _ (o w1 d)).mono ?_;rintro e l ⟨rfl,b⟩;have f:Below w.heap.size w l:=d.trans (b.mono d.size);have r:=(b.block (w.heap.size+2) (by have:=d.size;have:=s;omega)).trans q;have u:w.heap.size+3<=l.heap.size:=(by have:=b.size;omega))
  | (go_at_call 56;refine (A _).mono ?_;rintro e w1 ⟨rfl,a⟩;have d:Below w.heap.size w w1:=n.trans (a.mono n.size);have q:=(a.block (w.heap.size+2) (by first|(simp;done)|(simp;omega))).trans C;have s:w.heap.size+3<=w1.heap.size:=(by have:=a.size;simp at this;omega)))
 go_quiet (fail)
 go_wp2
 go_ret2;have i:=p w.heap.size (by omega) (g.size);refine⟨rfl,?_⟩;have h:=g.trans i;exact⟨h.os,h.tape,h.output,h.size,h.block⟩
theorem Ml(c:Int)(q:Nat)(u:Value)(a:Addr)(w:World)(d:xR w)(b:w.cell? ⟨0,0,none⟩=some (.iface 418 (.pointer (some a))))(h:Qa (.iface 418 (.pointer (some a))) c q u) :
  Calls prog 33 #[u] w λe w'=>e = .returned (.tuple #[.int .i64 c,.int .i64 (q:Int)])/\Below w.heap.size w w':=by
 cases h with
 | ok=>exact Mk w
 | long=>exact Mj a w b
 | text _ _ g=>
  rcases g with rfl|rfl|rfl
  ·exact Mm _ a w d b
  ·exact Mi _ a w d b
  ·exact Mo _ a w d b
 | doc p=>
  exact eO _ _ _ _ _ rfl 5 0 w d b (KR _ _ a Ql QW) (YE _ _ _ _ VG Ql QW ni) (YE _ _ _ _ UW Ql QW mY) (YE _ _ _ _ aZ Ql QW nu) (λW f=>zbi p W f)
 | shape n p=>
  exact eO _ _ _ _ _ rfl 5 q w d b (λW=>pY _ _ _ a W Um Ql QW) (Jg _ _ _ _ _ VG Ql QW nC ni) (Jg _ _ _ _ _ UW Ql QW ny mY) (Jg _ _ _ _ _ aZ Ql QW nD nu) (λW f=>zbk q p W f)
 | pat n k=>
  exact eO _ _ _ _ _ rfl 6 q w d b (λW=>pY _ _ _ a W Um Vd UD) (Jg _ _ _ _ _ VG Vd UD nC EZ) (Jg _ _ _ _ _ UW Vd UD ny EW) (Jg _ _ _ _ _ aZ Vd UD nD Fa) (λW f=>zbj q k W f)
theorem Qa.form{EL:Value}{c:Int}{q:Nat}{u:Value}(h:Qa EL c q u)(a:∃T y,EL = .iface T y):u = .nilIface\/∃T y,u = .iface T y:=by
 cases h with
 | ok=>exact .inl rfl
 | long=>exact .inr a
 | text _ _ _=>obtain⟨T,b⟩:=Jn c q;exact .inr ⟨T,_,b⟩
 | doc p=>exact .inr ⟨_,_,rfl⟩
 | shape n p=>exact .inr ⟨_,_,rfl⟩
 | pat n k=>exact .inr ⟨_,_,rfl⟩
structure Qu (w:World) (aL:Addr):Prop where
 q:XV w (.iface 418 (.pointer (some aL)))
theorem Qu.below{w w':World}{a:Addr}(h:Qu w a)(hb:Below w.heap.size w w'):Qu w' a:=⟨h.q.below hb⟩
end Go.Proofs.YtdakgnaojakldaaGreatDoor
namespace Go.Proofs.YtdakgnaojakldaaGreatDoor.laws
open Go.ChangeShapes Go.WideShapes Go.ChangeAt Go.RowKit Go.Joins Go.Deep
section
variable {H:Type} {enc:TypeId×Value->H} {P:Program} {w:World} {base:Nat} {sp:Nat->Bool} {held:Bool}
theorem Dm{fuel:Nat}{t:TypeId}{a:Array Field}{cs:List Value}{c:List (DataW H)}{p:List MemPlace}(s:P.underlying t=some (.struct a))
  (m:∀(i:Nat) (f:Field),a[i]?=some f->f.offset=i/\P.cellsOf f.type=1)(g:P.cellsOf t=a.size)(h:DataW.trod enc P w base sp held fuel t cs=some (.agg c,p)) :
  cs.length=a.size/\∀(i:Nat) (f:Field),a[i]?=some f->∃v d q n,cs[i]?=some v/\c[i]?=some d/\DataW.trod enc P w base sp held n f.type [v]=some (d,q):=by
 obtain⟨xs,n,rfl,u,k,x,b⟩:=DataW.trod_struct s h
 have j:c=xs.map (·.1):=by
  have:=congrArg Prod.fst u
  simpa using this
 rw[g] at k;refine⟨k,λi f hi=>?_⟩;have o:i<a.size:=(YY.1 hi).1;obtain⟨r,l⟩:=m i f hi;have e:=b i f hi;rw[r,l,zm (by omega)] at e
 have hcut:(cs.drop i).take 1=[cs[i]'(by omega)]:=by
  rw[jf (by omega)];rfl
 rw[hcut] at e;exact⟨cs[i]'(by omega),(xs[i]'(by omega)).1,(xs[i]'(by omega)).2,n,zm (by omega),by rw[j];simp[List.getElem?_eq_getElem (show i<xs.length by omega)],e⟩
theorem tX{α:Type}(c:Nat):∀(n:Nat) (row:Nat->List α) (cs:List α),cs.length=n*c->(∀i,i<n->(cs.drop (i*c)).take c=row i)->cs=(List.range n).flatMap row
 | 0,_,cs,hl,_=>by
  have:cs=[]:=Y7.1 (by simpa using hl)
  simp[this]
 | n+1,row,cs,hl,h=>by
  have e:cs.length=n*c+c:=by rw[hl,Nat.succ_mul]
  have a:cs.take (n*c)=(List.range n).flatMap row:=by
   refine tX c n row _ (by rw[vT];omega) (λi hi=>?_);have hle:i*c+c<=n*c:=by rw[<- Nat.succ_mul];exact VY c hi
   rw[<- h i (by omega),List.drop_take,List.take_take];congr 1;omega
  have b:cs.drop (n*c)=row n:=by
   rw[<- h n (by omega)];exact (ZO (by rw[jV];omega)).symm
  rw[JR,List.flatMap_append,<- a];have d:[n].flatMap row=cs.drop (n*c):=by rw[b];simp
  rw[d,JS]
theorem mW{fuel:Nat}{t e:TypeId}{n c:Nat}{cs:List Value}{f:List (DataW H)}{p:List MemPlace}(j:P.underlying t=some (.array n e))(k:P.cellsOf e=c)(b:P.cellsOf t=n*c)
  (h:DataW.trod enc P w base sp held fuel t cs=some (.agg f,p))(row:Nat->List Value)
  (o:∀(i:Nat) (d:DataW H) (xs:List Value) (a:Nat) (q:List MemPlace),i<n->f[i]?=some d->DataW.trod enc P w base sp held a e xs=some (d,q)->xs=row i):cs=(List.range n).flatMap row:=by
 have hlen:cs.length=n*c:=by
  cases fuel with
  | zero=>simp[DataW.trod] at h
  | succ fuel=>
   simp only[DataW.trod,j] at h
   split at h
   ·rename_i m;rw[m,b]
   ·cases h
 refine tX c n row cs hlen (λi hi=>?_);obtain⟨a,d,q,l,g⟩:=Lib.array_elem j h i hi;rw[k] at g;exact o i d _ a q hi l g
theorem OQ{fuel:Nat}{t:TypeId}{a:Array Field}{cs:List Value}{g:List (IntKind×Int)}{p:List MemPlace}(B:P.underlying t=some (.struct a))
  (u:∀(i:Nat) (f:Field),a[i]?=some f->f.offset=i/\P.cellsOf f.type=1)(y:∀(i:Nat) (f:Field),a[i]?=some f->∃k z,g[i]?=some (k,z)/\P.underlying f.type=some (.int k))(j:P.cellsOf t=a.size)(A:g.length=a.size)
  (h:DataW.trod enc P w base sp held fuel t cs=some (.agg (g.map λx => .lit (.int x.1 x.2)),p)):cs=g.map λx=>Value.int x.1 x.2:=by
 obtain⟨F,c⟩:=Dm B u j h;apply VR;intro i
 by_cases hi:i<a.size
 ·obtain⟨v,d,q,n,D,b,o⟩:=c i a[i] (by simp[hi]);obtain⟨k,z,e,C⟩:=y i a[i] (by simp[hi]);obtain⟨s,l,E,_⟩:=DataW.trod_int C o;have r:v = .int k s:=by simpa using l
  have m:d = .lit (.int k s):=by
   have:=congrArg Prod.fst E
   simpa using this
  rw[uO,e] at b;simp only[Yy,Option.some.injEq] at b;rw[m] at b;injection b with b
  injection b with _ b
  rw[D,uO,e,r,<- b]
  rfl
 ·rw[Ka (by omega),Ka (by simp;omega)]
end
theorem Dw{P:Program}{w:World}{n:String}{g:Nat}{cs:Array Value}(b:P.globalNamed n=some g)(h:w.var? P n=some cs):∃t fr,w.heap[g]?=some (.cells cs t fr):=by
 unfold World.var? at h;rw[b] at h;simp only[Option.bind_some] at h
 split at h
 ·rename_i a t fr e;injection h with h
  subst h;exact⟨t,fr,e⟩
 ·cases h
def aM:Nat->List (IntKind×Int)
 | 0=>[(.u8,194),(.u8,223),(.i64,1),(.u8,128),(.u8,191)]
 | 1=>[(.u8,224),(.u8,224),(.i64,2),(.u8,160),(.u8,191)]
 | 2=>[(.u8,225),(.u8,236),(.i64,2),(.u8,128),(.u8,191)]
 | 3=>[(.u8,237),(.u8,237),(.i64,2),(.u8,128),(.u8,159)]
 | 4=>[(.u8,238),(.u8,239),(.i64,2),(.u8,128),(.u8,191)]
 | 5=>[(.u8,240),(.u8,240),(.i64,3),(.u8,144),(.u8,191)]
 | 6=>[(.u8,241),(.u8,243),(.i64,3),(.u8,128),(.u8,191)]
 | _=>[(.u8,244),(.u8,244),(.i64,3),(.u8,128),(.u8,143)]
def zaX:DataW Unit := .agg ((List.range 8).map λi => .agg ((aM i).map λx => .lit (.int x.1 x.2)))
theorem zaY:(Rows.laid_warrant_texts_sequences:DataW Unit)=zaX:=by kernel_rfl
theorem rW:prog.globalNamed "warrant/texts.sequences" = some 5:=by kernel_rfl
theorem zde:(prog.globals[(5:Nat)]?).map (·.type)=some 400:=by kernel_rfl
theorem FQ:prog.cellsOf 400=8*5:=by kernel_rfl
theorem nM:prog.cellsOf 399=5:=by kernel_rfl
theorem za3 {W:World} (h:Lib.VarReads prog W "warrant/texts.sequences" Rows.laid_warrant_texts_sequences):qE W:=by
 obtain⟨g,t,cs,fuel,p,y,s,n,u⟩:=h;obtain rfl:=Option.some.inj (rW.symm.trans y);obtain rfl:=Option.some.inj (zde.symm.trans s);rw[zaY] at u
 have r:cs.toList=(List.range 8).flatMap λi=>(aM i).map λx=>Value.int x.1 x.2:=by
  refine mW underlying400 nM FQ u _ (λi d xs o q hi m w=>?_);rw[uO,Kb hi] at m;simp only[Yy,Option.some.injEq] at m;subst m
  have v:∀i,(aM i).map Prod.fst=[.u8,.u8,.i64,.u8,.u8]:=by
   intro i;unfold aM
   split<;>rfl
  refine OQ underlying399 ?_ ?_ (by rw[nM];rfl) (by have:=congrArg List.length (v i);simpa using this) w
  ·intro j f a
   match j,a with
   | 0,a=>simp at a;subst a;exact⟨rfl,by kernel_rfl⟩
   | 1,a=>simp at a;subst a;exact⟨rfl,by kernel_rfl⟩
   | 2,a=>simp at a;subst a;exact⟨rfl,by kernel_rfl⟩
   | 3,a=>simp at a;subst a;exact⟨rfl,by kernel_rfl⟩
   | 4,a=>simp at a;subst a;exact⟨rfl,by kernel_rfl⟩
   | j+5,a=>simp at a
  ·intro j f a;have b:=congrArg (λl=>l[j]?) (v i);simp only[uO] at b
   match j,a,b with
   | 0,a,b=>
    obtain⟨⟨k,z⟩,c,rfl⟩:=vU.1 b;simp at a;subst a;exact⟨_,z,c,by kernel_rfl⟩
   | 1,a,b=>
    obtain⟨⟨k,z⟩,c,rfl⟩:=vU.1 b;simp at a;subst a;exact⟨_,z,c,by kernel_rfl⟩
   | 2,a,b=>
    obtain⟨⟨k,z⟩,c,rfl⟩:=vU.1 b;simp at a;subst a;exact⟨_,z,c,by kernel_rfl⟩
   | 3,a,b=>
    obtain⟨⟨k,z⟩,c,rfl⟩:=vU.1 b;simp at a;subst a;exact⟨_,z,c,by kernel_rfl⟩
   | 4,a,b=>
    obtain⟨⟨k,z⟩,c,rfl⟩:=vU.1 b;simp at a;subst a;exact⟨_,z,c,by kernel_rfl⟩
   | j+5,a,_=>simp at a
 obtain⟨t,fr,hb⟩:=Dw rW n;refine⟨t,fr,?_⟩
 have e:cs=Zf.toArray:=by
  rw[<- YZ,r]
  rfl
 rw[<- e];exact hb
theorem UH{W:World}{fuel:Nat}{xs:List Value}{q:List MemPlace}(nm:BY){r t:UInt8}{u v:List UInt8}{f1 f2:FuncId}
  (y:((List.range prog.funcs.size).filter λf=>(prog.funcs[f]?).any (·.name.toUTF8.data.toList==r::u))=[f1])
  (z:((List.range prog.funcs.size).filter λf=>(prog.funcs[f]?).any (·.name.toUTF8.data.toList==t::v))=[f2])
  (h:DataW.trod (funcToken prog) prog W 0 (λ_=>true) true fuel 342 xs=some (.agg [.lit (.string nm.data.toList),.held (r::u),.held (t::v)],q)) :
  xs=[.string nm,.func (.func f1) #[] #[],.func (.func f2) #[] #[]]:=by
 obtain⟨A,b⟩:=Dm underlying342 (λj f a=>by
  match j,a with
  | 0,a=>simp at a;subst a;exact⟨rfl,by kernel_rfl⟩
  | 1,a=>simp at a;subst a;exact⟨rfl,by kernel_rfl⟩
  | 2,a=>simp at a;subst a;exact⟨rfl,by kernel_rfl⟩
  | j+3,a=>simp at a) (by kernel_rfl) h
 obtain⟨E,F,L,I,g,c,n⟩:=b 0 _ rfl;obtain⟨N,G,M,J,i,d,o⟩:=b 1 _ rfl;obtain⟨O,H,q2,K,k,e,p⟩:=b 2 _ rfl;simp only[yV,uM,Option.some.injEq] at c d e;subst c;subst d;subst e;obtain⟨s,B,D,_⟩:=VO underlying9 n;have w:=func_of_trod underlying339 y o;have x:=func_of_trod underlying340 z p;have C:E = .string s:=by simpa using B
 have m:s=nm:=by
  have:=congrArg Prod.fst D
  simp only[DataW.lit.injEq,Lit.string.injEq] at this;exact Yr (YZ.1 this.symm)
 have l:xs.length=3:=A
 match xs,l with
 | [x0,x1,x2],_=>
  simp only[yV,uM,Option.some.injEq] at g i k;rw[g,i,k,C,m,w,x]
def Sq:Nat->List UInt8
 | 0=>[119,97,114,114,97,110,116,47,100,111,99,117,109,101,110,116,115,46,108,105,107,101,86,97,108,117,101,115]
 | 1=>[119,97,114,114,97,110,116,47,100,111,99,117,109,101,110,116,115,46,115,97,109,101,86,97,108,117,101,115]
 | 2=>[119,97,114,114,97,110,116,47,100,111,99,117,109,101,110,116,115,46,98,101,108,111,119,86,97,108,117,101,115]
 | 3=>[119,97,114,114,97,110,116,47,100,111,99,117,109,101,110,116,115,46,117,110,100,101,114,86,97,108,117,101,115]
 | _=>[119,97,114,114,97,110,116,47,100,111,99,117,109,101,110,116,115,46,97,98,115,101,110,116,86,97,108,117,101,115]
def zcA:Nat->List UInt8
 | 0=>[119,97,114,114,97,110,116,47,100,111,99,117,109,101,110,116,115,46,105,115,76,105,107,101]
 | 1=>[119,97,114,114,97,110,116,47,100,111,99,117,109,101,110,116,115,46,105,115,83,97,109,101]
 | 2=>[119,97,114,114,97,110,116,47,100,111,99,117,109,101,110,116,115,46,105,115,66,101,108,111,119]
 | 3=>[119,97,114,114,97,110,116,47,100,111,99,117,109,101,110,116,115,46,105,115,85,110,100,101,114]
 | _=>[119,97,114,114,97,110,116,47,100,111,99,117,109,101,110,116,115,46,105,115,65,98,115,101,110,116]
def AJ:DataW (List UInt8) := .agg ((List.range 5).map λi => .agg [.lit (.string (opN i).data.toList),.held (Sq i),.held (zcA i)])
theorem TQ:∃d,(Rows.laid_warrant_documents_operations:DataW Unit) = .iface "func table" d/\d.funcsOut=AJ:=⟨_,rfl,by kernel_rfl⟩
theorem rV:prog.globalNamed "warrant/documents.operations" = some 6:=by kernel_rfl
theorem zdd:(prog.globals[(6:Nat)]?).map (·.type)=some 402:=by kernel_rfl
theorem FO:prog.cellsOf 402=5*3:=by kernel_rfl
theorem FP:prog.cellsOf 342=3:=by kernel_rfl
def TT(i:Nat):List Value:=[.string (opN i),.func (.func (opL i)) #[] #[],.func (.func (opT i)) #[] #[]]
theorem Wd {W:World} {d:DataW Unit} (k:d.funcsOut=AJ) (h:funcsAt prog W "warrant/documents.operations" d):Xi W:=by
 obtain⟨g,t,cs,fuel,p,n,l,c,m⟩:=h;obtain rfl:=Option.some.inj (rV.symm.trans n);obtain rfl:=Option.some.inj (zdd.symm.trans l);rw[k] at m
 have j:cs.toList=(List.range 5).flatMap TT:=by
  refine mW underlying402 FP FO m _ (λi d xs f q hi a b=>?_);rw[uO,Kb hi] at a;simp only[Yy,Option.some.injEq] at a;subst a
  rcases lt5 hi with rfl|rfl|rfl|rfl|rfl
  ·exact UH (opN 0) (f1:=opL 0) (f2:=opT 0) (by kernel_rfl) (by kernel_rfl) b
  ·exact UH (opN 1) (f1:=opL 1) (f2:=opT 1) (by kernel_rfl) (by kernel_rfl) b
  ·exact UH (opN 2) (f1:=opL 2) (f2:=opT 2) (by kernel_rfl) (by kernel_rfl) b
  ·exact UH (opN 3) (f1:=opL 3) (f2:=opT 3) (by kernel_rfl) (by kernel_rfl) b
  ·exact UH (opN 4) (f1:=opL 4) (f2:=opT 4) (by kernel_rfl) (by kernel_rfl) b
 obtain⟨t,fr,hb⟩:=Dw rV c;refine⟨t,fr,?_⟩
 have e:cs=Vu.toArray:=by
  rw[<- YZ,j]
  rfl
 rw[<- e];exact hb
theorem own:ownKnob prog.godebug=none:=by kernel_rfl
theorem rU:prog.globalNamed "warrant/texts.ErrLong" = some 0:=by kernel_rfl
theorem Nu:prog.globalNamed "errors.errorType" = some 1:=by kernel_rfl
theorem zaH:(prog.cutTypes.find? (·.1 == "internal/reflectlite.rtype")).map (·.2)=some 283:=by kernel_rfl
theorem zcJ:prog.types.size=458:=by kernel_rfl
theorem TK:((List.range 458).filter λt=>prog.rowNamed t [101,114,114,111,114])=[74]:=by kernel_rfl
theorem handle:typeHandle prog 74 = .pointer (some ⟨7,74,none⟩):=by kernel_rfl
theorem MU:Rows.laid_unicode_utf8_first=Lib.firstData:=by kernel_rfl
theorem DZ:(Rows.laid_unicode_utf8_acceptRanges:DataW Unit)=Lib.acceptData:=by kernel_rfl
theorem Ct : "*" ++ "errors.errorString" = "*errors.errorString":=by decide
theorem TF (u:TypeId) (h:prog.typeName? 3 u=some "*errors.errorString"):u=418:=
 typeName_ptr_named (nm := "errors.errorString") (by rw[Ct];kernel_rfl) (by kernel_rfl) (by decide) u (by rw[Ct];exact h)
theorem SG{W:World}(h:W.ShapedOpen prog):XU W:=
 Go.Proofs.cell_of_shapedOpen_int (zero:=#[.int .i64 0]) (t:=3) h (of_decide_eq_true (by kernel_rfl)) (by kernel_rfl) rfl (by kernel_rfl) (by kernel_rfl) underlying3
def laidAll:List (String×DataW Unit):=[("unicode/utf8.acceptRanges",Rows.laid_unicode_utf8_acceptRanges),("errors.errorType",Rows.laid_errors_errorType),("warrant/texts.ErrLong",Rows.laid_warrant_texts_ErrLong),("warrant/texts.sequences",Rows.laid_warrant_texts_sequences),("warrant/documents.operations",Rows.laid_warrant_documents_operations),("unicode/utf8.first",Rows.laid_unicode_utf8_first)]
def sZ:List (String×DataW Unit):=[("unicode/utf8.acceptRanges",Rows.laid_unicode_utf8_acceptRanges),("warrant/texts.ErrLong",Rows.laid_warrant_texts_ErrLong),("warrant/texts.sequences",Rows.laid_warrant_texts_sequences),("unicode/utf8.first",Rows.laid_unicode_utf8_first)]
theorem Ma{W:World}(h:laidMetH prog laidAll W)(y:W.ShapedOpen prog):∃l,Qu W l:=by
 have v:laidMet prog sZ W/\handlesMet prog [("errors.errorType",Rows.laid_errors_errorType),("warrant/documents.operations",Rows.laid_warrant_documents_operations)] W:=h
 obtain⟨i,x⟩:=v
 have b:kW W:=by
  have A:Lib.VarReads prog W "unicode/utf8.first" Lib.firstData:=by rw[<- MU];exact Lib.laidMet.reads i (.tail _ (.tail _ (.tail _ (.head _))))
  have B:Lib.VarReads prog W "unicode/utf8.acceptRanges" Lib.acceptData:=by rw[<- DZ];exact Lib.laidMet.reads i (.head _)
  exact utf8Tabs_of_readsT (U8Types.of196 Tryz.lays196) ⟨by kernel_rfl,by kernel_rfl,by kernel_rfl,by kernel_rfl,by kernel_rfl,by kernel_rfl,by kernel_rfl⟩ A B
 have c:xR W:=by
  obtain⟨name,u,C,m,o,p,q,j⟩:=x _ (.head _);have r:name=[101,114,114,111,114]:=(Option.some.inj m).symm;subst r;obtain rfl:=Option.some.inj (zaH.symm.trans o);have k:C ∈ (List.range 458).filter λt=>prog.rowNamed t [101,114,114,111,114]:=List.mem_filter.2 ⟨jW.2 (by rw[<- zcJ];exact p),q⟩;rw[TK] at k;obtain rfl:=xX.1 k;rw[handle] at j;show W.cell? _=_
  simpa using World.var?_cell Nu j 0
 have e:Xi W:=by
  obtain⟨d,w,f⟩:=TQ
  exact Wd f (h.funcs (n := "warrant/documents.operations") (d:=d) (by rw[<- w];exact .tail _ (.tail _ (.tail _ (.tail _ (.head _))))))
 have g:qE W:=za3 (Lib.laidMet.reads i (.tail _ (.tail _ (.head _))));obtain⟨a,s,z,_⟩:=laid_sentinel (tp:=418) (te:=437) (ts:=9) (laidMet.tail i) rU (by kernel_rfl) underlying74 TF underlying418 underlying437 rfl rfl underlying9 (by kernel_rfl) (by kernel_rfl);exact⟨a,⟨⟨⟨⟨b,SG y,c⟩,e⟩,g,by simpa using World.var?_cell rU z 0⟩⟩⟩
noncomputable def low:Nat:=(World.holding prog default ⟨#[],#[],[]⟩).heap.size
noncomputable def put (h:Array Obj) (g:Nat) (cs:Array Value):Array Obj:=h.modify g fun
 | .cells _ t frozen => .cells cs t frozen
 | o=>o
noncomputable def laidWorld (os:Os):World:=
 { World.holding prog os ⟨#[.cells #[.string ⟨#[116,104,101,32,116,101,120,116,32,105,115,32,116,111,111,32,108,111,110,103]⟩] 437],#[],[]⟩ with
  heap:=put (put (put (put (put (put (World.holding prog os ⟨#[.cells #[.string ⟨#[116,104,101,32,116,101,120,116,32,105,115,32,116,111,111,32,108,111,110,103]⟩] 437],#[],[]⟩).heap
   0 #[.iface 418 (.pointer (some ⟨low,0,none⟩))])
   1 #[.iface 283 (.agg #[.pointer (some ⟨7,74,none⟩)])])
   2 (Lib.firstTab.map λz=>Value.int .u8 z).toArray)
   3 ((List.range 16).flatMap λi=>[Value.int .u8 (Lib.accLo i),Value.int .u8 (Lib.accHi i)]).toArray)
   5 Zf.toArray)
   6 Vu.toArray }
theorem Rw(os:Os)(args:Array Value):laidMetH prog laidAll ((laidWorld os).forCall (λ_ _=>0) ⟨#[],args,[]⟩).memory:=
 laidMetH_of_parts3 (fuel:=8) (LaidIn.of_run (l:=sZ) [0,2,3,5,low] 8 (by kernel_rfl) (by kernel_rfl) (by kernel_rfl) (by kernel_rfl)).met (by kernel_rfl) (by kernel_rfl)
theorem laidOut:laidOutB prog=true:=by kernel_rfl
theorem zcH{H:Type}{enc:TypeId×Value->H}{P:Program}(o:laidOutB P=true){W W':World}(hb:Below W.heap.size W W') :
  ∀(ts:List TypeId) (e:List Value) (c:List (DataW H)) (a:List MemPlace),(∀t ∈ ts,P.readableRec t=true/\t<P.types.size)->DataW.TrodAll enc P W 0 (λ_=>true) true ts e c a->(∀x ∈ a,x.block<W.heap.size) ->
   DataW.TrodAll enc P W' 0 (λb=>decide (b<W.heap.size)) true ts e c a:=by
 intro ts
 induction ts with
 | nil=>
  intro e c a _ h _;obtain⟨rfl,rfl,rfl⟩:=trodAll_nil h;exact trodAll_mk0
 | cons t ts s=>
  intro e c a k h j;obtain⟨v,i,d,f,p,q,rfl,rfl,rfl,m,n⟩:=trodAll_cons h;have l:=k t (List.mem_cons_self ..);exact trodAll_cons_mk (Below.trod o l.1 l.2 m hb (λx g=>j x (Kc _ g))) (s i f q (λt r=>k t (List.mem_cons_of_mem _ r)) n (λx g=>j x (lX _ g)))
end Go.Proofs.YtdakgnaojakldaaGreatDoor.laws
