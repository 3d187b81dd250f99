/- P -/
import Derived.Test.YtfjpcldndaiifaaGreatDoorA09
open Go.Proofs.Tryz
set_option maxRecDepth 100000
set_option maxHeartbeats 1000000
namespace Go.Proofs.YtfjpcldndaiifaaGreatDoor
open Go.RowKit
structure Qi (w:J) (ms:List (BY×Z.V)) (us:List (BY×Y)) (ao:Option Addr):Prop where
 names:us.map Prod.fst=ms.map Prod.fst
 mems:YN w ao us
 vals:∀(j:Nat) (x:BY×Z.V) (u:BY×Y),ms[j]?=some x->us[j]?=some u->ValAt w (λb=>b<w.heap.size) x.2 u.2
theorem Um{w:J}{ms:List (BY×Z.V)}{u:Y}(h:OAt w (some (.obj ms)) u):∃d c a,u=.iface 125 (TL c d.length a)/\Qi w ms d c:=by
 have k:ValAt w (λb=>b<w.heap.size) (.obj ms) u:=h
 cases k with
 | obj _ d c a f e g=>
  refine⟨d,c,a,rfl,f,?_,g⟩
  rcases e with e|⟨b,ha,_,hc⟩
  ·exact .inl e
  exact .inr ⟨b,0,ha,λj i=>by simp only[qV];exact hc j _ (zn i)⟩
theorem Qi.len{w:J}{ms:List (BY×Z.V)}{a:List (BY×Y)}{ao:Option Addr}(h:Qi w ms a ao):a.length=ms.length:=by
 have:=congrArg List.length h.names
 simpa using this
theorem Qi.below{w w':J}{ms:List (BY×Z.V)}{e:List (BY×Y)}{ao:Option Addr}(h:Qi w ms e ao)(a:BQ w w'):Qi w' ms e ao:=
 ⟨h.names,dL h.mems a,λj x u g f=>(h.vals j x u g f).move (λ_ d=>xO d a.size) (λb c=>a.block b c)⟩
theorem Qi.ifaces{w:J}{ms:List (BY×Z.V)}{b:List (BY×Y)}{ao:Option Addr}(h:Qi w ms b ao):∀m ∈ b,∃T x,m.2=.iface T x:=by
 intro m d;obtain⟨j,c,rfl⟩:=QB d;have a:j<ms.length:=by have:=h.len;omega
 exact(h.vals j ms[j] b[j] (zn a) (zn c)).iface
theorem Bo{w:J}(nm:BY):∀{a:List (BY×Z.V)} {c:List (BY×Y)},c.map Prod.fst=a.map Prod.fst ->
  (∀(j:Nat) (x:BY×Z.V) (u:BY×Y),a[j]?=some x->c[j]?=some u->ValAt w (λb=>b<w.heap.size) x.2 u.2)->OAt w (Z.zm a nm) (xW c nm)
 | [],[],_,_=>rfl
 | [],_::_,h,_=>by simp at h
 | _::_,[],h,_=>by simp at h
 | m::a,u::c,h,hv=>by
  simp only[yO,List.cons.injEq]at h;unfold Z.zm xW;rw[UO,UO,h.1]
  cases e:(m.1.toList==nm.toList) with
  | true=>exact hv 0 m u rfl rfl
  | false=>exact Bo nm h.2 (λj x y d f=>hv (j+1) x y (by simpa using d) (by simpa using f))
theorem Qi.get{w:J}{ms:List (BY×Z.V)}{a:List (BY×Y)}{ao:Option Addr}(h:Qi w ms a ao)(nm:BY):OAt w (Z.zm ms nm) (xW a nm):=Bo nm h.names h.vals
theorem mW{w:J}{ms:List (BY×Z.V)}{a:List (BY×Y)}{ao:Option Addr}(cap:Nat)(h:Qi w ms a ao)(c:ms.length<=4000)(nm:BY):R8 59 #[TL ao a.length cap,S9 nm] w (G5 (xW a nm) w):=
 lH a ao cap nm w (by have:=h.len;omega) h.mems h.ifaces
theorem WP(g:List BY)(d:Option Addr)(b:Nat)(m:BY×Y)(B:Nat)(w:J)(n:g.length<=100)(i:ZF w d g)(k:w.cell? (G8 B 0)=some (TL d g.length b)):R8 154 #[Xx m,RG B 0] w (G5 (.bool (g.any λs=>s.toList==m.1.toList)) w):=by
 obtain⟨a,v⟩:=m;unfold Xx;simp only;have l:=λO:Obj=>zi (nbl w O) k;have f:=λO:Obj=>nbl w O;have c:=λO:Obj=>Bw g a d b (w.alloc O) (by omega) (Z9 i (f O));generalize g.any (λs=>s.toList==a.toList)=F at c;clear i;go_enter func154,ntmps154;go_wp2_with(go_at_call 155;apply(c _).mono;rintro e j⟨rfl,h⟩);go_ret;exact⟨rfl,(f _).trans (h.mono (f _).size)⟩
theorem Ih(ms:List (BY×Z.V))(b:List (BY×Y))(e:List BY)(h:b.map Prod.fst=ms.map Prod.fst):Zc (λj=>e.any λs=>s.toList==(kI b j).1.toList) b.length=Z.qB ms e:=by
 have f:Zc (λj=>e.any λs=>s.toList==(kI b j).1.toList) b.length=(b.map Prod.fst).all (λa=>e.any λs=>s.toList==a.toList):=by
  unfold Zc;rw[List.all_map,Zp,Zq,Zq]
  constructor
  ·intro h m g;obtain⟨j,d,rfl⟩:=QB g
   have:=h j (vk.2 d)
   rw[Jv b j d]at this;exact this
  intro h j d;have c:=vk.1 d;rw[Jv b j c];exact h _ (qm c)
 rw[f,h,List.all_map]
 rfl
def az(w:J)(e:Ending)(w':J):Prop:=∃p,e=.returned (.tuple #[R4,.iface 132 (.agg #[S9 p])])/\BQ w w'
theorem KX(ms:List (BY×Z.V))(k:List (BY×Y))(ao:Option Addr)(cap:Nat)(f:List BY)(c:Option Addr)(a:Nat)(w:J)(r:f.length<=100)(u:ms.length<=4000)(q:ZF w c f)(h:Qi w ms k ao)(b:Bool)(p:Z.qB ms f=b):R8 104 #[.iface 125 (TL ao k.length cap),TL c f.length a] w λe l=>
   if b then (e=.returned (.tuple #[TL ao k.length cap,.nilIface])/\BQ w l) else az w e l:=by
 have d:=nbl w (L8 #[TL c f.length a] 57);have n:L9 154:=qo func154 (by kernel_rfl) rfl
 have m:=Ie k ao cap 154 #[RG w.heap.size 0] (λj=>f.any λs=>s.toList==(kI k j).1.toList) (w.alloc (L8 #[TL c f.length a] 57)) (by have:=h.len;omega) n
  (dL h.mems d) h.ifaces (λW j t o=>WP f c a (kI k j) w.heap.size W r (Z9 q (d.trans (o.mono (by simp)))) (zi o (by simp)))
 rw[Ih ms k f h.names,p]at m;have v:=oQ;clear n h q p
 cases b with
 | true=>
  simp only[qJ];go_enter func104,ntmps104;go_wp2_with(go_at_call 156;apply m.mono;rintro e l⟨rfl,i⟩);go_ret2;exact⟨rfl,d.trans (i.mono (by simp))⟩
 | false=>
  simp only[yu,xX];go_enter func104,ntmps104;go_wp2_with(go_at_call 156;apply m.mono;rintro e l⟨rfl,i⟩);go_ret2;exact⟨_,rfl,d.trans (i.mono (by simp))⟩
theorem oP{w:J}{x:Option Z.V}{u:Y}(h:OAt w x u)(e:∀a,x≠some (.obj a))(W:J):(Instr.typeAssert u 121 125 true).run prog W=.ok (.tuple #[R4,T9]) W:=by
 cases x with
 | none=>
  have c:u=.nilIface:=h;subst c;exact ze1 W
 | some v=>
  have d:ValAt w (λb=>b<w.heap.size) v u:=h
  cases d with
  | str s=>exact ze2 _ W
  | word b=>exact ze3 _ W
  | list f=>exact ze0 _ W
  | obj a=>exact absurd rfl (e a)
theorem EN(x:Option Z.V)(u:Y)(n:Nat)(b:Option Addr)(a:Nat)(w:J)(f:OAt w x u)(d:∀g,x≠some (.obj g)):R8 104 #[u,TL b n a] w (az w):=by
 have h:=λW=>oP f d W;have c:=nbl w (L8 #[TL b n a] 57);have e:=f.form;clear f d
 rcases e with rfl|⟨T,y,rfl⟩
 ·go_enter func104,ntmps104;go_wp2;go_ret2;exact⟨_,rfl,c⟩
 go_enter func104,ntmps104;go_wp2;go_ret2;exact⟨_,rfl,c⟩
theorem qa{w:J}{base:Nat}{e:TypeId}{v:Y}{n:Nat}{xs:List Y}(h:w.ownsRow base e 1 v n xs){b:Nat}(d:b<base)(o:Nat)(u:Y):(w.setCell (G8 b o) u).ownsRow base e 1 v n xs:=
 xz h (a:=G8 b o) (by intro c;have:=(h.lt b c).1;omega) u
theorem xe{w:J}{base:Nat}{e:TypeId}{v:Y}{n:Nat}{xs:List Y}(h:w.ownsRow base e 1 v n xs):∃a c,v=TL a n c:=by
 rcases h.2 with⟨rfl,rfl⟩|⟨g,c,cur,rfl,_⟩
 ·exact⟨_,_,rfl⟩
 exact⟨_,_,rfl⟩
theorem jS{w W:J}{O:Obj}(a:Below (w.alloc O).heap.size (w.alloc O) W):W.heap[w.heap.size]?=some O:=(a.block _ (by simp)).trans (zA w O)
def chS:Option Z.V->Bool×List BY
 | some (.obj ms)=>if Z.qB ms [U.xx] then (true,Z.xy Z.strOf (Z.zm ms U.xx)) else (false,[])
 | x=>(false,Z.xy Z.strOf x)
def JK(w:J)(x:Option Z.V)(e:Ending)(w':J):Prop:=
 ∃a u,e=.returned (.tuple #[.agg #[.bool (chS x).1,a],u])/\FV (Z.chC x) u/\BQ w w'/\w'.ownsRow w.heap.size 9 1 a (chS x).2.length ((chS x).2.map Value.string)
theorem nU{w:J}(a:ZJ w):UY 158 #[] Z.strOf Z.vO 4000 w:=λW y u b e c=>
 zcL y u W (a.below c) e (λs d=>by have:=b _ d;cases this with|str _ h=>exact h)
theorem tT(x:Option Z.V)(c:∀a,x≠some (.obj a)):chS x=(false,Z.xy Z.strOf x)/\Z.chC x=Z.xm Z.vO x:=by
 match x with
 | none=>exact⟨rfl,rfl⟩
 | some (.str s)=>exact⟨rfl,rfl⟩
 | some (.word b)=>exact⟨rfl,rfl⟩
 | some (.list vs)=>exact⟨rfl,rfl⟩
 | some (.obj a)=>exact absurd rfl (c a)
theorem zcA(x:Option Z.V)(u:Y)(w:J)(p:ZJ w)(n:OAt w x u)(B:∀v,x=some v->Z.Good 4000 v)(g:∀D,x≠some (.obj D)):R8 107 #[u] w (JK w x):=by
 unfold JK;rw[(tT x g).1,(tT x g).2];have E:=λW=>oP n g W;have b:=nbl w (L8 #[T9,R4] 137);have A:L9 158:=qo func158 (by kernel_rfl) rfl;have c1:=dQ x u 158 #[] Z.strOf Z.vO 4000 (w.alloc (L8 #[T9,R4] 137)) (p.below b).err A (n.below b) B (nU (p.below b));obtain⟨o,k⟩:=Nm (Z.xy Z.strOf x);obtain⟨c,q⟩:=Nm (Z.xm Z.vO x);rw[k,q]at c1;rw[k,q];have r:=n.form;clear n g p A k q B
 rcases r with rfl|⟨T,y,rfl⟩
 ·go_enter func107,ntmps107;go_wp2_with(go_at_call 157;apply c1.mono;rintro e z⟨C,v,rfl,j,d,a⟩;have i:BQ w z:=b.trans (d.mono (by simp));obtain⟨s,t,rfl⟩:=xe a;have f:=jS d;have l:=(zg f 0).1;have m:=(zg f 1).1;have f0:=(zg f 0).2;have f1:=(zg f 1).2;simp at l m);exact zG (v := .tuple #[.agg #[T9,TL s o.length t],v]) (by simp[results,results107,go_sem,l,m]) rfl ⟨_,_,rfl,j,(i.setCell F7 _).setCell F7 _,xS (qa (qa a (by simp) _ _) (by simp) _ _) (by simp)⟩
 go_enter func107,ntmps107;go_wp2_with(go_at_call 157;apply c1.mono;rintro e z⟨C,v,rfl,j,d,a⟩;have i:BQ w z:=b.trans (d.mono (by simp));obtain⟨s,t,rfl⟩:=xe a;have f:=jS d;have l:=(zg f 0).1;have m:=(zg f 1).1;have f0:=(zg f 0).2;have f1:=(zg f 1).2;simp at l m);exact zG (v := .tuple #[.agg #[T9,TL s o.length t],v]) (by simp[results,results107,go_sem,l,m]) rfl ⟨_,_,rfl,j,(i.setCell F7 _).setCell F7 _,xS (qa (qa a (by simp) _ _) (by simp) _ _) (by simp)⟩
theorem zcB(ms:List (BY×Z.V))(u:Y)(w:J)(O:ZJ w)(hx:OAt w (some (.obj ms)) u)(P:Z.Good 4000 (.obj ms)):R8 107 #[u] w (JK w (some (.obj ms))):=by
 obtain⟨us,ao,I,rfl,K⟩:=Um hx;have M:ms.length<=4000:=by cases P with|obj _ h=>exact h
 have L:=λv h=>Z.jr P U.xx v h;unfold JK;have hS:chS (some (.obj ms))=if Z.qB ms [U.xx] then (true,Z.xy Z.strOf (Z.zm ms U.xx)) else (false,[]):=rfl
 have hC:Z.chC (some (.obj ms))=if Z.qB ms [U.xx] then Z.xm Z.vO (Z.zm ms U.xx) else 1:=rfl
 rw[hS,hC];have ta:=oQ;have R:=nbl w (L8 #[T9,R4] 137);have m:=R.alloc (by simp) (L8 #[S9 U.xx] 9);have e1:L9 158:=qo func158 (by kernel_rfl) rfl;obtain⟨b,Q⟩:=Nm (Z.qB ms [U.xx])
 have z:=KX ms us ao I [U.xx] (some (G8 (w.heap.size+1) 0)) 1 ((w.alloc (L8 #[T9,R4] 137)).alloc (L8 #[S9 U.xx] 9)) (by simp) M
  (.inr ⟨w.heap.size+1,0,rfl,λj hj=>by
    simp only[kX]at hj
    have:j=0:=by omega
    subst this;have h:=zA (w.alloc (L8 #[T9,R4] 137)) (L8 #[S9 U.xx] 9);rw[uH]at h;exact(zg h 0).1⟩) (K.below m) b Q
 rw[Q];have G:=λW (h:BQ w W)=>mW (w:=W) I (K.below h) M U.xx;have H:=λW (h:BQ w W)=>dQ (Z.zm ms U.xx) (xW us U.xx) 158 #[] Z.strOf Z.vO 4000 W (O.below h).err e1 ((K.below h).get U.xx) L (nU (O.below h));have B:=(K.get U.xx).form;obtain⟨gv,C⟩:=Nm (xW us U.xx);rw[C]at B;simp only[C]at G H;simp only[kX]at z;obtain⟨N,D⟩:=Nm (Z.xy Z.strOf (Z.zm ms U.xx));obtain⟨c,S⟩:=Nm (Z.xm Z.vO (Z.zm ms U.xx));simp only[D,S]at H;rw[D,S];clear hx O e1 D S P K C Q hS hC L;unfold U.xx at z G m
 cases b with
 | false=>
  simp only[yu,xX]at z |-;clear H G B;go_enter func107,ntmps107;go_wp2_with(go_at_call 104;apply z.mono;rintro e E⟨p,rfl,d⟩;have a:BQ w E:=m.trans (d.mono (by simp;omega));have k:=jS (((zf _ (w.alloc (L8 #[T9,R4] 137))).alloc F7 _).trans (d.mono (by simp)));have s:=(zg k 0).1;have t:=(zg k 1).1;have f0:=(zg k 0).2;have f1:=(zg k 1).2;simp at s t);exact zG (v := .tuple #[.agg #[T9,R4],.iface 132 (.agg #[S9 p])]) (by simp[results,results107,go_sem,s,t]) rfl ⟨_,_,rfl,.inr (.inl ⟨rfl,_,rfl⟩),(a.setCell F7 _).setCell F7 _,qF _ _ _ _⟩
 | true=>
  simp only[qJ]at z |-
  rcases B with rfl|⟨T,y,rfl⟩
  ·go_enter func107,ntmps107
   go_wp2_with(first
    |(go_at_call 157;apply(H F i).mono;rintro e w3⟨lv,v,rfl,A,o,f⟩;have x:BQ w w3:=i.trans (o.mono i.size);obtain⟨X,lc,rfl⟩:=xe f;have q:w.heap.size<F.heap.size:=(by have h1:=g.size;simp at h1;omega);have k:=jS (g.trans (o.mono g.size));have s:=(zg k 0).1;have t:=(zg k 1).1;have f0:=(zg k 0).2;have f1:=(zg k 1).2;simp at s t)
    |(go_at_call 59;apply(G E a).mono;rintro e F⟨rfl,n⟩;have i:BQ w F:=a.trans (n.mono a.size);have g:=l.trans (n.mono l.size))
    |(go_at_call 104;apply z.mono;rintro e E⟨rfl,d⟩;have a:BQ w E:=m.trans (d.mono (by simp;omega));have l:=((zf _ (w.alloc (L8 #[T9,R4] 137))).alloc F7 (L8 #[S9 ⟨#[110,111,116]⟩] 9)).trans (d.mono (by simp))))
   exact zG (v := .tuple #[.agg #[L6,TL X N.length lc],v]) (by simp[results,results107,go_sem,s,t]) rfl ⟨_,_,rfl,A,(x.setCell F7 _).setCell F7 _,xS (qa (qa f q _ _) q _ _) (by omega)⟩
  go_enter func107,ntmps107
  go_wp2_with(first
   |(go_at_call 157;apply(H F i).mono;rintro e w3⟨lv,v,rfl,A,o,f⟩;have x:BQ w w3:=i.trans (o.mono i.size);obtain⟨X,lc,rfl⟩:=xe f;have q:w.heap.size<F.heap.size:=(by have h1:=g.size;simp at h1;omega);have k:=jS (g.trans (o.mono g.size));have s:=(zg k 0).1;have t:=(zg k 1).1;have f0:=(zg k 0).2;have f1:=(zg k 1).2;simp at s t)
   |(go_at_call 59;apply(G E a).mono;rintro e F⟨rfl,n⟩;have i:BQ w F:=a.trans (n.mono a.size);have g:=l.trans (n.mono l.size))
   |(go_at_call 104;apply z.mono;rintro e E⟨rfl,d⟩;have a:BQ w E:=m.trans (d.mono (by simp;omega));have l:=((zf _ (w.alloc (L8 #[T9,R4] 137))).alloc F7 (L8 #[S9 ⟨#[110,111,116]⟩] 9)).trans (d.mono (by simp))))
  exact zG (v := .tuple #[.agg #[L6,TL X N.length lc],v]) (by simp[results,results107,go_sem,s,t]) rfl ⟨_,_,rfl,A,(x.setCell F7 _).setCell F7 _,xS (qa (qa f q _ _) q _ _) (by omega)⟩
theorem zcC(x:Option Z.V)(u:Y)(w:J)(b:ZJ w)(d:OAt w x u)(c:∀v,x=some v->Z.Good 4000 v):R8 107 #[u] w (JK w x):=by
 by_cases h:∃a,x=some (.obj a)
 ·obtain⟨a,rfl⟩:=h;exact zcB a u w b d (c _ rfl)
 exact zcA x u w b d c (λa e=>h ⟨a,e⟩)
theorem BH(s:BY)(w:J)(b:s.size<=4000):R8 304 #[S9 s] w (G5 (.bool (Z.short s)) w):=by
 have e:Z.short s=decide ((s.size:Int)<=60):=by unfold Z.short;exact Ki.2 (by omega)
 rw[e];go_enter func304,ntmps304;go_wp2;go_ret;exact⟨rfl,zf _ _⟩
theorem Tw(s:BY)(w:J)(f:s.size<=4000):R8 309 #[S9 s] w (G5 (.bool (Z.filled s)) w):=by
 have c:=BH s w f;unfold Z.filled;generalize Z.short s=R at c
 cases h:(s.toList==[]) with
 | true=>
  have a:s.toList.isEmpty=true:=by rw[List.isEmpty_iff];simpa using h
  rw[a];clear c a;go_enter func309,ntmps309;go_wp2;go_ret;exact⟨rfl,zf _ _⟩
 | false=>
  have a:s.toList.isEmpty=false:=by
   cases e:s.toList.isEmpty with
   | false=>rfl
   | true=>rw[List.isEmpty_iff]at e;rw[e]at h;simp at h
  rw[a];clear a;go_enter func309,ntmps309;go_wp2_with(go_at_call 304;apply c.mono;rintro e d⟨rfl,b⟩);go_ret;exact⟨rfl,b⟩
theorem lN(s p:BY)(w:J)(R:Bool)(a:R=(decide (p.size<=s.size)&&((s.extract 0 p.size).toList==p.toList))):R8 318 #[S9 s,S9 p] w λe b=>e=.returned (.bool R)/\b=w:=by
 by_cases h:p.size<=s.size
 ·rw[zB h,jY]at a;have d:decide ((p.size:Int)<=(s.size:Int))=true:=P5;subst a;go_enter func318,ntmps318;go_wp2;go_ret;exact⟨rfl,rfl⟩
 rw[zI h,kS]at a;have d:decide ((p.size:Int)<=(s.size:Int))=false:=P6;subst a;go_enter func318,ntmps318;go_wp2;go_ret;exact⟨rfl,rfl⟩
def unsigned(s:BY):BY:=if 0<s.size/\(s.data.toList.getD 0 0).toNat=45 then s.extract 1 s.size else s
theorem Db(s:BY):(decide ((⟨#[45]⟩:BY).size<=s.size)&&((s.extract 0 (⟨#[45]⟩:BY).size).toList==(⟨#[45]⟩:BY).toList))=decide (0<s.size/\(s.data.toList.getD 0 0).toNat=45):=by
 have b:(⟨#[45]⟩:BY).size=1:=rfl;have c:(⟨#[45]⟩:BY).toList=[45]:=by rw[ko]
 rw[b,c,ko]
 by_cases h:0<s.size
 ·rw[zB (show 1<=s.size from h),jY]
  have d:(s.extract 0 1).data.toList=[s.data.toList.getD 0 0]:=by
   cases hl:s.data.toList with
   | nil=>have:=U.zF s;rw[hl]at this;simp at this;omega
   | cons a r=>simp[hl]
  rw[d,Zp,decide_eq_true_iff];simp only[List.cons_beq_cons,BEq.rfl,JJ,vC]
  constructor
  ·intro e;exact⟨h,by rw[e];rfl⟩
  intro e;exact UInt8.toNat.inj e.2
 rw[zI (show ¬1<=s.size by omega),kS,zI (λe=>h e.1)]
theorem zfn(s:BY)(w:J):R8 313 #[S9 s,S9 ⟨#[45]⟩] w λe a=>e=.returned (S9 (unsigned s))/\a=w:=by
 have c:=lN s ⟨#[45]⟩ w _ (Db s).symm
 have c2:R8 319 #[S9 s,S9 ⟨#[45]⟩] w λe a=>e=.returned (S9 (unsigned s))/\a=w:=by
  unfold unsigned
  by_cases h:0<s.size/\(s.data.toList.getD 0 0).toNat=45
  ·rw[zb h];rw[zB h]at c;have b:(1:Int)<=(s.size:Int):=by have:=h.1;omega
   clear h;go_enter func319,ntmps319;go_wp2_with(go_at_call 318;apply c.mono;rintro e a⟨rfl,rfl⟩);go_ret;exact⟨rfl,rfl⟩
  rw[za h];rw[zI h]at c;clear h;go_enter func319,ntmps319;go_wp2_with(go_at_call 318;apply c.mono;rintro e a⟨rfl,rfl⟩);go_ret;exact⟨rfl,rfl⟩
 clear c;go_enter func313,ntmps313;go_wp2_with(go_at_call 319;apply c2.mono;rintro e a⟨rfl,rfl⟩);go_ret;exact⟨rfl,rfl⟩
def QM(c:Nat):Bool:=decide (48<=c/\c<=57)
theorem Tu(c:Nat)(w:J)(b:c<256):R8 314 #[.int .u8 (c:Int)] w λe a=>e=.returned (.bool (QM c))/\a=w:=by
 by_cases h1:48<=c
 ·have d1:decide ((48:Int)<=(c:Int))=true:=P5
  by_cases h2:c<=57
  ·have d2:decide ((c:Int)<=57)=true:=P5;have e:QM c=true:=by unfold QM;simp;omega
   rw[e];go_enter func314,ntmps314;go_wp2;go_ret;exact⟨rfl,rfl⟩
  have d2:decide ((c:Int)<=57)=false:=P6;have e:QM c=false:=by unfold QM;simp;omega
  rw[e];go_enter func314,ntmps314;go_wp2;go_ret;exact⟨rfl,rfl⟩
 have d1:decide ((48:Int)<=(c:Int))=false:=P6;have e:QM c=false:=by unfold QM;simp;omega
 rw[e];go_enter func314,ntmps314;go_wp2;go_ret;exact⟨rfl,rfl⟩
theorem TE(s:BY):U.qW s=((s.toList==[48])||U.uT (unsigned s)):=rfl
theorem BI(s:BY)(w:J):R8 305 #[S9 s] w (G5 (.bool (U.qW s)) w):=by
 have d:=zfn s;rw[TE];obtain⟨t,k⟩:=Nm (unsigned s);simp only[k]at d;rw[k];clear k
 cases h0:(s.toList==[48]) with
 | true=>
  rw[UI];go_enter func305,ntmps305;go_wp2_with(go_at_call 313;apply(d _).mono;rintro e a⟨rfl,rfl⟩);go_ret;exact⟨rfl,zf _ _⟩
 | false=>
  rw[XI]
  by_cases h1:1<=t.size
  ·have d1:decide ((0:Int)<(t.size:Int))=true:=P5
   by_cases h2:t.size<=18
   ·have d2:decide ((t.size:Int)<=18)=true:=P5;have m:0<t.size:=h1;have b:=U.YK t m
    by_cases h3:(t[0].toNat:Int)=48
    ·have d3:((t[0].toNat:Int) != 48)=false:=by simp[h3]
     have e:U.uT t=false:=U.mV t m h3;rw[e];clear e b;go_enter func305,ntmps305;go_wp2_with(go_at_call 313;apply(d _).mono;rintro e a⟨rfl,rfl⟩);go_ret;exact⟨rfl,zf _ _⟩
    have d3:((t[0].toNat:Int) != 48)=true:=by simp[h3]
    obtain⟨C,O,n,g⟩:=iw t w;have f:BQ w (w.alloc O).drew:=(nbl w _).drew
    have c:=rV t.size w.heap.size 0 C 314 #[] (λj=>(((t.data.toList.getD j 0).toNat:Nat):Int)) (λj=>QM (t.data.toList.getD j 0).toNat) _ (by omega)
     (qo func314 (by kernel_rfl) rfl) g
     (λW j _ _=>(Tu _ W (bu _)).mono λe a ⟨o,p⟩=>⟨o,p ▸ zf _ _⟩)
    have i:=rT t.data.toList QM;rw[U.zF]at i;rw[i]at c
    have l:U.uT t=t.data.toList.all λc=>QM c.toNat:=by
     unfold U.uT U.digits QM;rw[zB (show 1<=t.size/\t.size<=18 from ⟨h1,h2⟩),b]
     have:(t[0].toNat != 48)=true:=by simp;omega
     rw[this]
     rfl
    rw[l];generalize (t.data.toList.all λc=>QM c.toNat)=R at c;clear i l g b h3;go_enter func305,ntmps305
    go_wp2_with(first
     |(go_at_call 313;apply(d _).mono;rintro e a⟨rfl,rfl⟩)
     |(go_at_call 97;apply c.mono;rintro e a⟨rfl,h⟩))
    go_ret;exact⟨rfl,f.trans (h.mono f.size)⟩
   have d2:decide ((t.size:Int)<=18)=false:=P6;rw[U.KL t (by omega)];go_enter func305,ntmps305;go_wp2_with(go_at_call 313;apply(d _).mono;rintro e a⟨rfl,rfl⟩);go_ret;exact⟨rfl,zf _ _⟩
  have d1:decide ((0:Int)<(t.size:Int))=false:=P6;rw[U.KL t (by omega)];go_enter func305,ntmps305;go_wp2_with(go_at_call 313;apply(d _).mono;rintro e a⟨rfl,rfl⟩);go_ret;exact⟨rfl,zf _ _⟩
theorem zfk(x:Option Z.V)(u:Y)(g:Nat)(j:Array Y)(f:BY->Bool)(L B:Nat)(w:J)(k:L9 g)
  (i:OAt w x u)(l:∀s,x=some (.str s)->s.size<=L)(m:aY g j f L w)(o:w.cell? (G8 B 0)=some (.func (.func g) #[] j)):R8 312 #[u,RG B 0] w (JZ w (Z.xN f x) (Z.qx f x)):=by
 have c:=nS x u g j f L w k i l m;generalize Z.xN f x=S at c;generalize Z.qx f x=C at c;have h:=i.form;clear i l m k
 rcases h with rfl|⟨T,y,rfl⟩
 ·go_enter func312,ntmps312;go_wp2_with(go_at_call 105;apply c.mono;rintro e n⟨v,rfl,d,b⟩);go_ret2;exact⟨_,rfl,d,b⟩
 go_enter func312,ntmps312;go_wp2_with(go_at_call 105;apply c.mono;rintro e n⟨v,rfl,d,b⟩);go_ret2;exact⟨_,rfl,d,b⟩
theorem YD.after{w w1 d:J}{b:List BY}{c:Nat}{e:Ending}(h:YD w1 b c e d)(a:BQ w w1):YD w b c e d:=by
 obtain⟨k,u,f,g,i,j⟩:=h;exact⟨k,u,f,g,a.trans (i.mono a.size),xS j a.size⟩
theorem oL(x:Option Z.V)(u:Y)(g:Nat)(f:BY->Bool)(w:J)(B:yj w)(r:L9 g)
  (p:OAt w x u)(t:∀v,x=some v->Z.Good 4000 v)(z:aY g #[] f 4000 w):R8 303 #[u,.func (.func g) #[] #[]] w (YD w (Z.xy (Z.xN f) x) (Z.xm (Z.qx f) x)):=by
 have b:=nbl w (L8 #[.func (.func g) #[] #[]] 48);have q:L9 312:=qo func312 (by kernel_rfl) rfl
 have c:=dQ x u 312 #[RG w.heap.size 0] (Z.xN f) (Z.qx f) 4000 (w.alloc (L8 #[.func (.func g) #[] #[]] 48)) (B.below b) q (p.below b) t
  (λW y v k D l=>zfk y v g #[] f 4000 w.heap.size W r D (λs o=>by have:=k _ o;cases this with|str _ h=>exact h)
    (λA s o j=>z A s o ((b.trans (l.mono (by simp))).trans (j.mono (by have:=l.size;simp at this;omega)))) (zi l (by simp)))
 generalize Z.xy (Z.xN f) x=S at c;generalize Z.xm (Z.qx f) x=C at c;have m:=p.form;clear p t z r q
 rcases m with rfl|⟨T,y,rfl⟩
 ·go_enter func303,ntmps303;go_wp2_with(go_at_call 157;apply c.mono;rintro e F h;have j:=h.after b;obtain⟨E,v,rfl,i,d,n⟩:=j);go_ret2;exact⟨_,_,rfl,i,d,n⟩
 go_enter func303,ntmps303;go_wp2_with(go_at_call 157;apply c.mono;rintro e F h;have j:=h.after b;obtain⟨E,v,rfl,i,d,n⟩:=j);go_ret2;exact⟨_,_,rfl,i,d,n⟩
def Looks(g:Nat)(b:Option Z.V->List BY)(a:Option Z.V->Nat)(w:J):Prop:=
 ∀W (x:Option Z.V) (u:Y),(∀v,x=some v->Z.Good 4000 v)->OAt W x u->BQ w W->R8 g #[u] W (YD W (b x) (a x))
theorem zao{w:J}(j:ZJ w):Looks 293 (Z.xy Z.strOf) (Z.xm Z.vO) w:=by
 intro W x u k h l;have i:L9 158:=qo func158 (by kernel_rfl) rfl;have c:=dQ x u 158 #[] Z.strOf Z.vO 4000 W (j.below l).err i h k (nU (j.below l));generalize Z.xy Z.strOf x=S at c;generalize Z.xm Z.vO x=C at c;have f:=h.form;clear h k i
 rcases f with rfl|⟨T,y,rfl⟩
 ·go_enter func293,ntmps293;go_wp2_with(go_at_call 157;apply c.mono;rintro e n⟨m,v,rfl,d,b,g⟩);go_ret2;exact⟨_,_,rfl,d,b,g⟩
 go_enter func293,ntmps293;go_wp2_with(go_at_call 157;apply c.mono;rintro e n⟨m,v,rfl,d,b,g⟩);go_ret2;exact⟨_,_,rfl,d,b,g⟩
theorem zdg{w:J}(l:ZJ w):Looks 295 (Z.xy (Z.xN Z.short)) (Z.xm (Z.qx Z.short)) w:=by
 intro W x u j h m;have i:L9 304:=qo func304 (by kernel_rfl) rfl;have c:=oL x u 304 Z.short W (l.below m).err i h j (λk s n _=>BH s k n);generalize Z.xy (Z.xN Z.short) x=S at c;generalize Z.xm (Z.qx Z.short) x=C at c;have f:=h.form;clear h j i
 rcases f with rfl|⟨T,y,rfl⟩
 ·go_enter func295,ntmps295;go_wp2_with(go_at_call 303;apply c.mono;rintro e p⟨o,v,rfl,d,b,g⟩);go_ret2;exact⟨_,_,rfl,d,b,g⟩
 go_enter func295,ntmps295;go_wp2_with(go_at_call 303;apply c.mono;rintro e p⟨o,v,rfl,d,b,g⟩);go_ret2;exact⟨_,_,rfl,d,b,g⟩
theorem Lt{w:J}(l:ZJ w):Looks 297 (Z.xy (Z.xN U.qW)) (Z.xm (Z.qx U.qW)) w:=by
 intro W x u j h m;have i:L9 305:=qo func305 (by kernel_rfl) rfl;have c:=oL x u 305 U.qW W (l.below m).err i h j (λk s _ _=>BI s k);generalize Z.xy (Z.xN U.qW) x=S at c;generalize Z.xm (Z.qx U.qW) x=C at c;have f:=h.form;clear h j i
 rcases f with rfl|⟨T,y,rfl⟩
 ·go_enter func297,ntmps297;go_wp2_with(go_at_call 303;apply c.mono;rintro e o⟨n,v,rfl,d,b,g⟩);go_ret2;exact⟨_,_,rfl,d,b,g⟩
 go_enter func297,ntmps297;go_wp2_with(go_at_call 303;apply c.mono;rintro e o⟨n,v,rfl,d,b,g⟩);go_ret2;exact⟨_,_,rfl,d,b,g⟩
theorem zft{w:J}(l:ZJ w):Looks 299 (Z.xy (Z.xN Z.filled)) (Z.xm (Z.qx Z.filled)) w:=by
 intro W x u j h m;have i:L9 309:=qo func309 (by kernel_rfl) rfl;have c:=oL x u 309 Z.filled W (l.below m).err i h j (λk s n _=>Tw s k n);generalize Z.xy (Z.xN Z.filled) x=S at c;generalize Z.xm (Z.qx Z.filled) x=C at c;have f:=h.form;clear h j i
 rcases f with rfl|⟨T,y,rfl⟩
 ·go_enter func299,ntmps299;go_wp2_with(go_at_call 303;apply c.mono;rintro e p⟨o,v,rfl,d,b,g⟩);go_ret2;exact⟨_,_,rfl,d,b,g⟩
 go_enter func299,ntmps299;go_wp2_with(go_at_call 303;apply c.mono;rintro e p⟨o,v,rfl,d,b,g⟩);go_ret2;exact⟨_,_,rfl,d,b,g⟩
theorem GX{w:J}:Looks 301 (λ_=>[]) (λx=>if x.isNone then 0 else 1) w:=by
 intro W x u _ a _
 cases x with
 | none=>
  have c:u=.nilIface:=a;subst c;go_enter func301,ntmps301;go_wp2;go_ret2;exact⟨_,_,rfl,.inl ⟨rfl,rfl⟩,zf _ _,qF _ _ _ _⟩
 | some v=>
  obtain⟨T,y,rfl⟩:=ValAt.iface (show ValAt W (λb=>b<W.heap.size) v u from a)
  clear a;go_enter func301,ntmps301;go_wp2;go_ret2;exact⟨_,_,rfl,.inr (.inl ⟨rfl,_,rfl⟩),zf _ _,qF _ _ _ _⟩
def gI(w:J)(x:Option Z.V)(e:Ending)(w':J):Prop:=∃u,e=.returned (.tuple #[.bool (Z.QS x),u])/\FV (Z.cls (Z.kJ x) false) u/\BQ w w'
theorem zcI(x:Option Z.V)(u:Y)(w:J)(f:OAt w x u):R8 199 #[u] w (gI w x):=by
 cases x with
 | none=>
  have i:u=.nilIface:=f;subst i;go_enter func199,ntmps199;go_wp2;go_ret2;exact⟨_,rfl,.inl ⟨rfl,rfl⟩,zf _ _⟩
 | some v=>
  have j:ValAt w (λb=>b<w.heap.size) v u:=f;clear f
  cases j with
  | word b=>
   have g:=ze8;go_enter func199,ntmps199;go_wp2;go_ret2;exact⟨_,rfl,.inl ⟨rfl,rfl⟩,zf _ _⟩
  | str s=>
   have g:=ze7;go_enter func199,ntmps199;go_wp2;go_ret2;exact⟨_,rfl,.inr (.inl ⟨rfl,_,rfl⟩),zf _ _⟩
  | list m k h a c d e=>
   clear c d e;have g:=ze5;go_enter func199,ntmps199;go_wp2;go_ret2;exact⟨_,rfl,.inr (.inl ⟨rfl,_,rfl⟩),zf _ _⟩
  | obj l k h a c d e=>
   clear c d e;have g:=ze6;go_enter func199,ntmps199;go_wp2;go_ret2;exact⟨_,rfl,.inr (.inl ⟨rfl,_,rfl⟩),zf _ _⟩
def opN:Nat->BY
 | 0=>⟨#[108,105,107,101]⟩
 | 1=>⟨#[115,97,109,101]⟩
 | 2=>⟨#[98,101,108,111,119]⟩
 | 3=>⟨#[117,110,100,101,114]⟩
 | _=>⟨#[97,98,115,101,110,116]⟩
def opL:Nat->Nat
 | 0=>293
 | 1=>295
 | 2=>297
 | 3=>299
 | _=>301
def opT:Nat->Nat
 | 0=>294
 | 1=>296
 | 2=>298
 | 3=>300
 | _=>302
def Ur:List Y:=[S9 (opN 0),.func (.func (opL 0)) #[] #[],.func (.func (opT 0)) #[] #[],S9 (opN 1),.func (.func (opL 1)) #[] #[],.func (.func (opT 1)) #[] #[],S9 (opN 2),.func (.func (opL 2)) #[] #[],.func (.func (opT 2)) #[] #[],
 S9 (opN 3),.func (.func (opL 3)) #[] #[],.func (.func (opT 3)) #[] #[],S9 (opN 4),.func (.func (opL 4)) #[] #[],.func (.func (opT 4)) #[] #[]]
def XX(w:J):Prop:=∃t a,w.heap[(6:Nat)]?=some (.cells Ur.toArray t a)
theorem XX.below{w w':J}(h:XX w)(b:BQ w w'):XX w':=by
 obtain⟨t,a,h⟩:=h;exact⟨t,a,(b.block _ (JI.1 h).1).trans h⟩
theorem zbR:(prog.info? 376).map (·.size)=some Ur.toArray.size:=by kernel_rfl
theorem lt5{k:Nat}(h:k<5):k=0\/k=1\/k=2\/k=3\/k=4:=by omega
theorem zbO(W:J)(k:Nat)(a:k<5):(Instr.index 376 (.agg Ur.toArray) (R9 (k:Int))).run prog W=.ok (.agg #[S9 (opN k),.func (.func (opL k)) #[] #[],.func (.func (opT k)) #[] #[]]) W:=by
 rcases lt5 a with rfl|rfl|rfl|rfl|rfl
 ·kernel_rfl
 ·kernel_rfl
 ·kernel_rfl
 ·kernel_rfl
 kernel_rfl
theorem Vp{w:J}{b:Nat}{h i j:Y}(a c d:Y)(e:w.cell? (G8 b 0)=some h)(f:w.cell? (G8 b 1)=some i)(g:w.cell? (G8 b 2)=some j):(((w.setCell (G8 b 0) a).setCell (G8 b 1) c).setCell (G8 b 2) d).cell? (G8 b 0)=some a/\(((w.setCell (G8 b 0) a).setCell (G8 b 1) c).setCell (G8 b 2) d).cell? (G8 b 1)=some c/\(((w.setCell (G8 b 0) a).setCell (G8 b 1) c).setCell (G8 b 2) d).cell? (G8 b 2)=some d:=by
 refine⟨?_,?_,?_⟩
 ·rw[xu _ _ _ _ (by simp),xu _ _ _ _ (by simp),ZR _ _ _ e]
 ·rw[xu _ _ _ _ (by simp)];exact ZR _ _ _ ((xu _ _ _ _ (by simp)).trans f)
 exact ZR _ _ _ ((xu _ _ _ _ (by simp)).trans ((xu _ _ _ _ (by simp)).trans g))
def ug(name:BY):Option Nat:=zC (λk=>(opN k).toList==name.toList) 5
def opV:Option Nat->Y
 | some k => .agg #[S9 (opN k),.func (.func (opL k)) #[] #[],.func (.func (opT k)) #[] #[]]
 | none => .agg #[R5,.nilFunc,.nilFunc]
theorem mZ(name:BY)(w:J)(D:XX w):R8 218 #[S9 name] w (G5 (.tuple #[opV (ug name),.bool (ug name).isSome]) w):=by
 have l:=nbl w (L8 #[R5,.nilFunc,.nilFunc] 346);obtain⟨tt,R,u⟩:=D.below l;have c:=λW k I=>zbO W k I;have sf:=λW a g m=>ZB prog W a (.func (.func g) #[] #[]) m rfl;have sn:=λW a m=>ZB prog W a .nilFunc m rfl;have n:=zbR;obtain⟨A,t⟩:=Nm Ur.toArray;rw[t]at u n;simp only[t]at c;obtain⟨F,hF⟩:=Nm (ug name);rw[hF];unfold ug at hF;have C:=G7 hF;clear t D hF;go_enter func218,ntmps218;go_wp2_with (refine wpList_load_row rfl 376 _ rfl 6 rfl tt A R _ u underlying376 rfl n ?_);clear u n
 go_loopw [7] (λx wr=>∃k:Nat,k<=5/\x=R9 k/\(∀j,j<k->((opN j).toList==name.toList)=false)/\Below (w.alloc (L8 #[R5,.nilFunc,.nilFunc] 346)).heap.size (w.alloc (L8 #[R5,.nilFunc,.nilFunc] 346)) wr) (λx _=>5-(intOf x).toNat)
 case atStart=>exact⟨0,by omega,rfl,λj H=>by omega,zf _ _⟩
 case round=>
  obtain⟨k,I,rfl,p,b⟩:=hrel;have h:=G7 p;have i:=jS b;have y:=(zg i 0).1;have z:=(zg i 1).1;have B:=(zg i 2).1;have f0:=(zg i 0).2;have f1:=(zg i 1).2;have f2:=(zg i 2).2;have hz:w.heap.size<wr.heap.size:=by have h1:=b.size;simp at h1;omega
  simp at y z B;clear p i
  by_cases hlt:k<5
  ·have T:=λW=>c W k hlt;obtain⟨N,o⟩:=Nm (opN k);obtain⟨r,d⟩:=Nm (opL k);obtain⟨s,f⟩:=Nm (opT k);simp only[o,d,f]at T;clear c;have S:w.heap.size≠wr.heap.size:=by omega
   cases heq:(N.toList==name.toList) with
   | false=>
    have q:G6 (∀j,j<k+1->((opN j).toList==name.toList)=false):=λj H=>by
     by_cases e:j=k
     ·subst e;rw[o];exact heq
     exact h.o j (by omega)
    clear o d f;go_wp2;go_roundw
    case rel=>exact⟨k+1,by omega,by go_num,q.o,b.alloc b.size _⟩
    case measure=>simp[intOf];omega
   | true=>
    have e:=Xp (λk=>(opN k).toList==name.toList) 5 k hlt h.o (by show ((opN k).toList==name.toList)=true;rw[o];exact heq);rw[C.o]at e;have G:opV F=.agg #[S9 N,.func (.func r) #[] #[],.func (.func s) #[] #[]]:=by rw[e];simp only[opV,o,d,f]
    have E:F.isSome=true:=by rw[e];rfl
    have⟨Q,P⟩:=D5 G E;clear o d f e G E;obtain⟨K,L,M⟩:=Vp (S9 N) (.func (.func r) #[] #[]) (.func (.func s) #[] #[]) y z B;have V:=λO=>zR K O;have X:=λO=>zR L O;have q2:=λO=>zR M O;clear K L M;go_wp2;exact zG (v := .tuple #[.agg #[S9 N,.func (.func r) #[] #[],.func (.func s) #[] #[]],L6]) (by simp[results,results218,go_sem,V,X,q2]) rfl ⟨by rw[Q.o,P.o],((((l.trans (b.mono (by simp))).setCell F7 _).setCell F7 _).setCell F7 _).alloc (by simp[World.setCell];omega) _⟩
  have e:=Xq (λk=>(opN k).toList==name.toList) 5 (λj H=>h.o j (by omega));rw[C.o]at e;subst e;go_wp2;exact zG (v := .tuple #[.agg #[R5,.nilFunc,.nilFunc],T9]) (by simp[results,results218,go_sem,y,z,B]) rfl ⟨rfl,(((l.trans (b.mono (by simp))).setCell F7 _).setCell F7 _).setCell F7 _⟩
def Yg:Option Z.V->Option Nat
 | some (.str s)=>ug s
 | _=>none
def gJ(w:J)(x:Option Z.V)(e:Ending)(w':J):Prop:=∃u,e=.returned (.tuple #[opV (Yg x),u])/\FV (if (Yg x).isSome then 0 else 1) u/\BQ w w'
theorem zbE:ug ⟨#[]⟩=none:=by kernel_rfl
theorem ze4{w:J}{x:Option Z.V}{u:Y}(h:OAt w x u)(d:∀s,x≠some (.str s))(W:J):(Instr.typeAssert u 121 289 true).run prog W=.ok (.tuple #[R5,T9]) W:=by
 cases x with
 | none=>
  have a:u=.nilIface:=h;subst a;exact oW W
 | some v=>
  have c:ValAt w (λb=>b<w.heap.size) v u:=h
  cases c with
  | str s=>exact absurd rfl (d s)
  | word b=>exact pg _ W
  | list f=>exact oU _ W
  | obj e=>exact oZ _ W
theorem DZ(x:Option Z.V)(a:∀s,x≠some (.str s)):Yg x=none:=by
 match x with
 | none=>rfl
 | some (.str s)=>exact absurd rfl (a s)
 | some (.word b)=>rfl
 | some (.list vs)=>rfl
 | some (.obj ms)=>rfl
theorem EO(s:BY)(x:Bool)(u:Y)(w:J)(A:XX w)(C:u=.nilIface\/∃T y,u=.iface T y)(F:∀W,(Instr.typeAssert u 121 289 true).run prog W=.ok (.tuple #[S9 s,.bool x]) W)(B:ug s=none):R8 198 #[u] w λe D=>∃p,e=.returned (.tuple #[.agg #[R5,.nilFunc,.nilFunc],.iface 132 (.agg #[S9 p])])/\BQ w D:=by
 have f:=nbl w (L8 #[R5,.nilFunc,.nilFunc] 346);have c:=mZ s _ (A.below f);rw[B]at c;unfold opV at c;simp only[uB]at c;have E:=λW a m=>ZB prog W a .nilFunc m rfl;clear A B
 cases x with
 | true=>
  rcases C with rfl|⟨T,y,rfl⟩
  ·go_enter func198,ntmps198;go_wp2_with(go_at_call 218;apply c.mono;rintro e j⟨rfl,b⟩;have d:=jS b;have g:=(zg d 0).1;have h:=(zg d 1).1;have i:=(zg d 2).1;have f0:=(zg d 0).2;have f1:=(zg d 1).2;have f2:=(zg d 2).2;simp at g h i;have z:w.heap.size<j.heap.size:=(by have h1:=b.size;simp at h1;omega);have k:w.heap.size≠j.heap.size:=(by omega);obtain⟨q,r,t⟩:=Vp R5 .nilFunc .nilFunc g h i;have l:=λO=>zR q O;have n:=λO=>zR r O;have o:=λO=>zR t O);exact zG (v := .tuple #[.agg #[R5,.nilFunc,.nilFunc],.iface 132 (.agg #[S9 ⟨#[111,112]⟩])]) (by simp[results,results198,go_sem,l,n,o]) rfl ⟨_,rfl,((((f.trans (b.mono (by simp))).setCell F7 _).setCell F7 _).setCell F7 _).alloc (by simp[World.setCell];omega) _⟩
  ·go_enter func198,ntmps198;go_wp2_with(go_at_call 218;apply c.mono;rintro e j⟨rfl,b⟩;have d:=jS b;have g:=(zg d 0).1;have h:=(zg d 1).1;have i:=(zg d 2).1;have f0:=(zg d 0).2;have f1:=(zg d 1).2;have f2:=(zg d 2).2;simp at g h i;have z:w.heap.size<j.heap.size:=(by have h1:=b.size;simp at h1;omega);have k:w.heap.size≠j.heap.size:=(by omega);obtain⟨q,r,t⟩:=Vp R5 .nilFunc .nilFunc g h i;have l:=λO=>zR q O;have n:=λO=>zR r O;have o:=λO=>zR t O);exact zG (v := .tuple #[.agg #[R5,.nilFunc,.nilFunc],.iface 132 (.agg #[S9 ⟨#[111,112]⟩])]) (by simp[results,results198,go_sem,l,n,o]) rfl ⟨_,rfl,((((f.trans (b.mono (by simp))).setCell F7 _).setCell F7 _).setCell F7 _).alloc (by simp[World.setCell];omega) _⟩
 | false=>
  rcases C with rfl|⟨T,y,rfl⟩
  ·go_enter func198,ntmps198;go_wp2_with(go_at_call 218;apply c.mono;rintro e j⟨rfl,b⟩;have d:=jS b;have g:=(zg d 0).1;have h:=(zg d 1).1;have i:=(zg d 2).1;have f0:=(zg d 0).2;have f1:=(zg d 1).2;have f2:=(zg d 2).2;simp at g h i;have z:w.heap.size<j.heap.size:=(by have h1:=b.size;simp at h1;omega);have k:w.heap.size≠j.heap.size:=(by omega);obtain⟨q,r,t⟩:=Vp R5 .nilFunc .nilFunc g h i;have l:=λO=>zR q O;have n:=λO=>zR r O;have o:=λO=>zR t O);exact zG (v := .tuple #[.agg #[R5,.nilFunc,.nilFunc],.iface 132 (.agg #[S9 ⟨#[111,112]⟩])]) (by simp[results,results198,go_sem,l,n,o]) rfl ⟨_,rfl,((((f.trans (b.mono (by simp))).setCell F7 _).setCell F7 _).setCell F7 _).alloc (by simp[World.setCell];omega) _⟩
  go_enter func198,ntmps198;go_wp2_with(go_at_call 218;apply c.mono;rintro e j⟨rfl,b⟩;have d:=jS b;have g:=(zg d 0).1;have h:=(zg d 1).1;have i:=(zg d 2).1;have f0:=(zg d 0).2;have f1:=(zg d 1).2;have f2:=(zg d 2).2;simp at g h i;have z:w.heap.size<j.heap.size:=(by have h1:=b.size;simp at h1;omega);have k:w.heap.size≠j.heap.size:=(by omega);obtain⟨q,r,t⟩:=Vp R5 .nilFunc .nilFunc g h i;have l:=λO=>zR q O;have n:=λO=>zR r O;have o:=λO=>zR t O);exact zG (v := .tuple #[.agg #[R5,.nilFunc,.nilFunc],.iface 132 (.agg #[S9 ⟨#[111,112]⟩])]) (by simp[results,results198,go_sem,l,n,o]) rfl ⟨_,rfl,((((f.trans (b.mono (by simp))).setCell F7 _).setCell F7 _).setCell F7 _).alloc (by simp[World.setCell];omega) _⟩
theorem zcK(s:BY)(k:Nat)(w:J)(h:XX w)(i:ug s=some k):R8 198 #[.iface 289 (S9 s)] w (G5 (.tuple #[opV (some k),.nilIface]) w):=by
 have f:=nbl w (L8 #[R5,.nilFunc,.nilFunc] 346);have c:=mZ s _ (h.below f);rw[i]at c;unfold opV at c |-;simp only[uC]at c |-;generalize opN k=N at c |-;generalize opL k=fl at c |-;generalize opT k=ft at c |-;have C:=K9;have B:=λW a g m=>ZB prog W a (.func (.func g) #[] #[]) m rfl;clear h i;go_enter func198,ntmps198;go_wp2_with(go_at_call 218;apply c.mono;rintro e o⟨rfl,b⟩;have d:=jS b;have j:=(zg d 0).1;have l:=(zg d 1).1;have n:=(zg d 2).1;have f0:=(zg d 0).2;have f1:=(zg d 1).2;have f2:=(zg d 2).2;simp at j l n;have A:w.heap.size<o.heap.size:=(by have h1:=b.size;simp at h1;omega);have p:w.heap.size≠o.heap.size:=(by omega);obtain⟨u,x,y⟩:=Vp (S9 N) (.func (.func fl) #[] #[]) (.func (.func ft) #[] #[]) j l n;have q:=λO=>zR u O;have r:=λO=>zR x O;have t:=λO=>zR y O);exact zG (v := .tuple #[.agg #[S9 N,.func (.func fl) #[] #[],.func (.func ft) #[] #[]],.nilIface]) (by simp[results,results198,go_sem,q,r,t]) rfl ⟨rfl,((((f.trans (b.mono (by simp))).setCell F7 _).setCell F7 _).setCell F7 _).alloc (by simp[World.setCell];omega) _⟩
theorem zcJ(x:Option Z.V)(u:Y)(w:J)(d:XX w)(f:OAt w x u):R8 198 #[u] w (gJ w x):=by
 by_cases h:∃s,x=some (.str s)
 ·obtain⟨s,rfl⟩:=h;have i:ValAt w (λb=>b<w.heap.size) (.str s) u:=f
  cases i with
  | str _=>
   cases hn:ug s with
   | none=>
    apply(EO s true _ w d (.inr ⟨_,_,rfl⟩) (λW=>K9 _ W) hn).mono;rintro e g⟨p,rfl,c⟩;refine⟨.iface 132 (.agg #[S9 p]),?_,?_,c⟩
    ·show _=Ending.returned (.tuple #[opV (ug s),_]);rw[hn];rfl
    ·show FV (if (ug s).isSome then 0 else 1) _;rw[hn];exact .inr (.inl ⟨rfl,p,rfl⟩)
   | some k=>
    apply(zcK s k w d hn).mono;rintro e g⟨rfl,c⟩;refine⟨.nilIface,?_,?_,c⟩
    ·show _=Ending.returned (.tuple #[opV (ug s),_]);rw[hn]
    show FV (if (ug s).isSome then 0 else 1) _;rw[hn];exact .inl ⟨rfl,rfl⟩
 have a:∀s,x≠some (.str s):=λs e=>h ⟨s,e⟩;apply(EO ⟨#[]⟩ false u w d f.form (λW=>ze4 f a W) zbE).mono;rintro e g⟨p,rfl,c⟩;refine⟨.iface 132 (.agg #[S9 p]),?_,?_,c⟩
 ·rw[DZ x a];rfl
 rw[DZ x a];exact .inr (.inl ⟨rfl,p,rfl⟩)
theorem zbL{w:J}(g:ZJ w)(k:Nat)(h:k<5):Looks (opL k) (Z.uS (opN k)) (Z.yZ (opN k)) w:=by
 rcases lt5 h with rfl|rfl|rfl|rfl|rfl
 ·have a:U.xE (opN 0)=true:=by kernel_rfl
  have c:Z.uS (opN 0)=Z.xy Z.strOf:=by funext x;unfold Z.uS;rw[a];rfl
  have d:Z.yZ (opN 0)=Z.xm Z.vO:=by funext x;unfold Z.yZ;rw[a];rfl
  rw[c,d];exact zao g
 ·have a:U.xE (opN 1)=false:=by kernel_rfl
  have b:Z.vM (opN 1)=true:=by kernel_rfl
  have c:Z.uS (opN 1)=Z.xy (Z.xN Z.short):=by funext x;unfold Z.uS;rw[a,b];rfl
  have d:Z.yZ (opN 1)=Z.xm (Z.qx Z.short):=by funext x;unfold Z.yZ;rw[a,b];rfl
  rw[c,d];exact zdg g
 ·have a:U.xE (opN 2)=false:=by kernel_rfl
  have b:Z.vM (opN 2)=false:=by kernel_rfl
  have e:Z.vK (opN 2)=true:=by kernel_rfl
  have c:Z.uS (opN 2)=Z.xy (Z.xN U.qW):=by funext x;unfold Z.uS;rw[a,b,e];rfl
  have d:Z.yZ (opN 2)=Z.xm (Z.qx U.qW):=by funext x;unfold Z.yZ;rw[a,b,e];rfl
  rw[c,d];exact Lt g
 ·have a:U.xE (opN 3)=false:=by kernel_rfl
  have b:Z.vM (opN 3)=false:=by kernel_rfl
  have e:Z.vK (opN 3)=false:=by kernel_rfl
  have f:Z.Xu (opN 3)=true:=by kernel_rfl
  have c:Z.uS (opN 3)=Z.xy (Z.xN Z.filled):=by funext x;unfold Z.uS;rw[a,b,e,f];rfl
  have d:Z.yZ (opN 3)=Z.xm (Z.qx Z.filled):=by funext x;unfold Z.yZ;rw[a,b,e,f];rfl
  rw[c,d];exact zft g
 have a:U.xE (opN 4)=false:=by kernel_rfl
 have b:Z.vM (opN 4)=false:=by kernel_rfl
 have e:Z.vK (opN 4)=false:=by kernel_rfl
 have f:Z.Xu (opN 4)=false:=by kernel_rfl
 have c:Z.uS (opN 4)=λ_=>[]:=by funext x;unfold Z.uS;rw[a,b,e,f];rfl
 have d:Z.yZ (opN 4)=λx=>if x.isNone then 0 else 1:=by funext x;unfold Z.yZ;rw[a,b,e,f];rfl
 rw[c,d];exact GX
theorem mY{s:BY}{k:Nat}(h:ug s=some k):k<5/\opN k=s/\(U.Zz s||U.xR s)=true:=by
 obtain⟨a,b,_⟩:=cz h
 have e:opN k=s:=by
  have:(opN k).toList=s.toList:=by simpa using b
  rw[ko,ko]at this;exact XJ (Y3.1 this)
 refine⟨a,e,?_⟩;rw[<- e]
 rcases lt5 a with rfl|rfl|rfl|rfl|rfl
 ·kernel_rfl
 ·kernel_rfl
 ·kernel_rfl
 ·kernel_rfl
 kernel_rfl
theorem zbF{s:BY}(h:ug s=none):(U.Zz s||U.xR s)=false:=by
 have a:=Kn h;have b:=a 0 (by decide);have c:=a 1 (by decide);have d:=a 2 (by decide);have e:=a 3 (by decide);have f:=a 4 (by decide);unfold U.Zz U.xR;simp only[opN]at b c d e f;rw[ko]at b c d e f;rw[Bool.beq_comm]at b c d e f;rw[c,e,d,b,f]
 rfl
structure qj where
 op:BY
 key:BY
 vals:List BY
 no:Bool
def Ye:qj:=⟨⟨#[]⟩,⟨#[]⟩,[],false⟩
def Zw:Z.V->qj
 | .obj a=>if Z.qB a [U.bOp,U.zL,U.zK,U.bNo] then (match Yg (Z.zm a U.bOp) with
  | some k=>⟨opN k,Z.xN U.ql (Z.zm a U.zL),Z.uS (opN k) (Z.zm a U.zK),Z.QS (Z.zm a U.bNo)⟩
  | none=>Ye) else Ye
 | _=>Ye
theorem iQ(ms:List (BY×Z.V)):Z.condC (.obj ms)=if Z.qB ms [U.bOp,U.zL,U.zK,U.bNo] then (match Yg (Z.zm ms U.bOp) with
  | some k=>Z.qZ [Z.qx U.ql (Z.zm ms U.zL),Z.yZ (opN k) (Z.zm ms U.zK),Z.cls (Z.kJ (Z.zm ms U.bNo)) false]
  | none=>1) else 1:=by
 simp only[Z.condC]
 cases Z.qB ms [U.bOp,U.zL,U.zK,U.bNo] with
 | false=>rfl
 | true=>
  simp only[qJ]
  match Z.zm ms U.bOp with
  | none=>rfl
  | some (.word b)=>rfl
  | some (.list vs)=>rfl
  | some (.obj ms)=>rfl
  | some (.str s)=>
   simp only[Z.opV,Yg]
   cases h:ug s with
   | none=>rw[zbF h];rfl
   | some k=>
    obtain⟨_,e,a⟩:=mY h;simp only[a,qJ,e]
def UJ(w:J)(v:Z.V)(e:Ending)(w':J):Prop:=
 ∃a u,e=.returned (.tuple #[.agg #[S9 (Zw v).op,S9 (Zw v).key,a,.bool (Zw v).no],u])/\FV (Z.condC v) u/\BQ w w'/\w'.ownsRow w.heap.size 9 1 a (Zw v).vals.length ((Zw v).vals.map Value.string)
structure yF (w:J):Prop where
 d:ZJ w
 ops:XX w
theorem yF.below{w w':J}(h:yF w)(a:BQ w w'):yF w':=⟨h.d.below a,h.ops.below a⟩
theorem TD(w:J):aY 57 #[] U.ql 4000 w:=λW s a _=>dw s W (by unfold maxLen;omega)
def Qa:Obj := L8 #[R5,R5,R4,T9] 262
def X3:Obj := L8 #[S9 U.bOp,S9 U.zL,S9 U.zK,S9 U.bNo] 9
theorem om{w:J}{b:Nat}{j k l m:Y}(a c d e:Y)(f:w.cell? (G8 b 0)=some j)(g:w.cell? (G8 b 1)=some k)(h:w.cell? (G8 b 2)=some l)(i:w.cell? (G8 b 3)=some m):((((w.setCell (G8 b 0) a).setCell (G8 b 1) c).setCell (G8 b 2) d).setCell (G8 b 3) e).cell? (G8 b 0)=some a/\((((w.setCell (G8 b 0) a).setCell (G8 b 1) c).setCell (G8 b 2) d).setCell (G8 b 3) e).cell? (G8 b 1)=some c /\
  ((((w.setCell (G8 b 0) a).setCell (G8 b 1) c).setCell (G8 b 2) d).setCell (G8 b 3) e).cell? (G8 b 2)=some d/\((((w.setCell (G8 b 0) a).setCell (G8 b 1) c).setCell (G8 b 2) d).setCell (G8 b 3) e).cell? (G8 b 3)=some e:=by
 obtain⟨n,o,p⟩:=Vp a c d f g h;refine⟨?_,?_,?_,?_⟩
 ·rw[xu _ _ _ _ (by simp)];exact n
 ·rw[xu _ _ _ _ (by simp)];exact o
 ·rw[xu _ _ _ _ (by simp)];exact p
 exact ZR _ _ _ ((xu _ _ _ _ (by simp)).trans ((xu _ _ _ _ (by simp)).trans ((xu _ _ _ _ (by simp)).trans i)))
theorem Dj(w:J)(a b c d:BY)(t:TypeId):ZF (w.alloc (L8 #[S9 a,S9 b,S9 c,S9 d] t)) (some (G8 w.heap.size 0)) [a,b,c,d]:=by
 have h:=zA w (L8 #[S9 a,S9 b,S9 c,S9 d] t);refine .inr ⟨w.heap.size,0,rfl,λj e=>?_⟩;simp only[Qf,JQ]at e;rw[qV,(zg h j).1]
 have:j=0\/j=1\/j=2\/j=3:=by omega
 rcases this with rfl|rfl|rfl|rfl<;>rfl
theorem zcD(x:Z.V)(u:Y)(w:J)(j:OAt w (some x) u)(q:Z.Good 4000 x)(a:∀c,x=.obj c->Z.qB c [U.bOp,U.zL,U.zK,U.bNo]=false):R8 160 #[u] w (UJ w x):=by
 have r:Zw x=Ye:=by
  match x with
  | .str s=>rfl
  | .word b=>rfl
  | .list L=>rfl
  | .obj c=>simp only[Zw];rw[a c rfl];rfl
 have o:Z.condC x=1:=by
  match x with
  | .str s=>rfl
  | .word b=>rfl
  | .list L=>rfl
  | .obj c=>rw[iQ,a c rfl];rfl
 unfold UJ;rw[r,o];have g:=nbl w Qa;have d:=g.alloc (by simp) X3
 have n:R8 104 #[u,TL (some (G8 (w.heap.size+1) 0)) 4 4] ((w.alloc Qa).alloc X3) (az ((w.alloc Qa).alloc X3)):=by
  by_cases h:∃c,x=.obj c
  ·obtain⟨c,rfl⟩:=h;obtain⟨K,D,l,rfl,E⟩:=Um j;have m:c.length<=4000:=by cases q with|obj _ h=>exact h
   have t:=Dj (w.alloc Qa) U.bOp U.zL U.zK U.bNo 9;rw[uH]at t
   have:=KX c K D l [U.bOp,U.zL,U.zK,U.bNo] (some (G8 (w.heap.size+1) 0)) 4 ((w.alloc Qa).alloc X3) (by simp) m t (E.below d) false (a c rfl)
   simpa using this
  exact EN (some x) u 4 _ 4 _ (j.below d) (λc e=>h ⟨c,by simpa using e⟩)
 obtain⟨T,y,rfl⟩:=ValAt.iface (show ValAt w (λb=>b<w.heap.size) x u from j)
 clear j q a r o;unfold X3 Qa U.bOp U.zL U.zK U.bNo at n;unfold Qa at g;unfold X3 Qa U.bOp U.zL U.zK U.bNo at d;go_enter func160,ntmps160;go_wp2_with(go_at_call 104;apply n.mono;rintro e M⟨p,rfl,i⟩;have k:BQ w M:=d.trans (i.mono (by simp;omega));have f:=jS (((zf _ (w.alloc (L8 #[R5,R5,R4,T9] 262))).alloc F7 _).trans (i.mono (by simp)));have z:=(zg f 0).1;have A:=(zg f 1).1;have B:=(zg f 2).1;have C:=(zg f 3).1;have f0:=(zg f 0).2;have f1:=(zg f 1).2;have f2:=(zg f 2).2;have f3:=(zg f 3).2;simp at z A B C;obtain⟨F,G,H,I⟩:=om R5 R5 R4 T9 z A B C)
 exact zG (v := .tuple #[.agg #[R5,R5,R4,T9],.iface 132 (.agg #[S9 p])]) (by simp[results,results160,go_sem,F,G,H,I]) rfl
  ⟨_,_,rfl,.inr (.inl ⟨rfl,_,rfl⟩),(((k.setCell F7 _).setCell F7 _).setCell F7 _).setCell F7 _,qF _ _ _ _⟩
end Go.Proofs.YtfjpcldndaiifaaGreatDoor
