/- P -/
import Derived.Test.YtdakgnaojakldabGreatDoorT21
open Go.Proofs.Tryz
set_option maxRecDepth 100000
set_option maxHeartbeats 2000000
namespace Go.Proofs.YtdakgnaojakldabGreatDoor
open Go.RowKit
def Qu:Rd.V->Nat
 | .obj ms=>ms.length
 | _=>0
def stX:Rd.V->Option Rd.V
 | .obj ms=>Rd.zf ms Rd.yS
 | _=>none
def qd:Option Rd.V->List Rd.V
 | some (.list vs)=>vs
 | _=>[]
theorem Au(v:Rd.V):Rd.vX v=if Qu v≠1\/(qd (stX v)).length<1\/10<(qd (stX v)).length then (5,0) else Rd.ZX ((qd (stX v)).map Rd.xq) 0:=by
 match v with
 | .str s=>rfl
 | .word b=>rfl
 | .list a=>rfl
 | .obj ms=>
  have key:∀X:Option Rd.V,(match X with
    | some (.list a)=>if ms.length≠1\/a.length<1\/10<a.length then ((5:Int),0) else Rd.ZX (a.map Rd.xq) 0
    | _=>(5,0))=if ms.length≠1\/(qd X).length<1\/10<(qd X).length then (5,0) else Rd.ZX ((qd X).map Rd.xq) 0:=by
   intro X
   match X with
   | none=>simp[qd]
   | some (.str s)=>simp[qd]
   | some (.word b)=>simp[qd]
   | some (.obj m)=>simp[qd]
   | some (.list a)=>rfl
  exact key _
theorem gQ{w:World}{v:Rd.V}{u:Value}(h:OAt w (some v) u)(g:Rd.Good 4000 v):∃ao cap b f,(∀W,(Instr.typeAssert u 85 89 true).run prog W = .ok (.tuple #[.slice ao (Qu v) cap,.bool b]) W) /\
  (∀W,Below w.heap.size w W->Calls prog 31 #[.slice ao (Qu v) cap,.string Rd.yS] W λe m=>e = .returned f/\Below W.heap.size W m)/\OAt w (stX v) f:=by
 by_cases ho:∃ms,v = .obj ms
 ·obtain⟨ms,rfl⟩:=ho;obtain⟨l,ao,cap,rfl,a⟩:=XL h;have c:ms.length<=4000:=by cases g with|obj _ h=>exact h
  refine⟨ao,cap,true,qC l Rd.yS,λW=>?_,λW i=>?_,a.get Rd.yS⟩
  ·show _=Result.ok (Value.tuple #[.slice ao ms.length cap,.bool true]) W;rw[<- a.len];exact Kz _ W
  ·have:=UM (w:=W) cap (a.below i) c Rd.yS
   rw[a.len] at this;exact this
 ·have d:∀ms,some v≠some (.obj ms):=λms e=>ho ⟨ms,by simpa using e⟩
  have j:Qu v=0:=by
   cases v with
   | obj ms=>exact absurd ⟨ms,rfl⟩ ho
   | _=>rfl
  have k:stX v=none:=by
   cases v with
   | obj ms=>exact absurd ⟨ms,rfl⟩ ho
   | _=>rfl
  rw[j,k];exact⟨none,0,false,.nilIface,λW=>Ky h d W,λW _=>Ul [] none 0 Rd.yS W (by simp) (.inl rfl) (by simp),rfl⟩
theorem fH{w:World}{x:Option Rd.V}{u:Value}(h:OAt w x u):∃k cap b,(∀W,(Instr.typeAssert u 85 92 true).run prog W = .ok (.tuple #[.slice k (qd x).length cap,.bool b]) W) /\
  ∃f:List Value,f.length=(qd x).length/\yt w k f/\∀(j:Nat) (v:Rd.V) (u:Value),(qd x)[j]?=some v->f[j]?=some u->OAt w (some v) u:=by
 by_cases ho:∃a,x=some (.list a)
 ·obtain⟨a,rfl⟩:=ho;have d:ValAt w (λb=>b<w.heap.size) (.list a) u:=h
  cases d with
  | list _ f ao cap i g l=>
   refine⟨ao,cap,true,λW=>?_,f,i,?_,λj v u d o=>l j v u d o⟩
   ·show _=Result.ok (Value.tuple #[.slice ao a.length cap,.bool true]) W;rw[<- i];exact Kv _ W
   ·rcases g with g|⟨b,ha,_,hc⟩
    ·exact .inl g
    ·exact .inr ⟨b,0,ha,λj m=>by rw[Nat.zero_add];exact hc j _ (List.getElem?_eq_getElem m)⟩
 ·have c:∀a,x≠some (.list a):=λa e=>ho ⟨a,e⟩
  have n:qd x=[]:=by
   match x with
   | none=>rfl
   | some (.str s)=>rfl
   | some (.word b)=>rfl
   | some (.obj ms)=>rfl
   | some (.list a)=>exact absurd rfl (c a)
  rw[n];exact⟨none,0,false,λW=>Kw h c W,[],rfl,.inl rfl,λj v u d _=>by simp at d⟩
theorem Am(s:BA)(w:World)(EL:Value)(v:Rd.V)(q:Nat)(M:ZG w EL)(N:s.size<=4000)(G:Rd.xN s.data.toList = .ok v q)(l:Qu v≠1\/(qd (stX v)).length<1\/10<(qd (stX v)).length) :
  Calls prog 18 #[.string s] w (QI w EL (5,0) []):=by
 have j:=nB w uU;have p:=U9 s (w.alloc uU) (M.below j).seq N;rw[G] at p;unfold Zh at p;simp only at p;have z:=Rd.YP G;rw[Ref.zB] at z
 have L:Rd.Good 4000 v:=by
  clear p G l
  induction z with
  | str t h=>exact .str t (by omega)
  | word b=>exact .word b
  | list S h _ J=>exact .list S (by omega) J
  | obj ms h H R _ J=>exact .obj ms (by omega) H (λm D=>by have:=R m D;omega) J
 obtain⟨n,I⟩:=Nm (Qu v);obtain⟨m,D⟩:=Nm ((qd (stX v)).length);have c:=λW u (h:OAt W (some v) u)=>gQ h L;have d:=λW x (h:OAt W (stX v) x)=>fH h;rw[I,D] at l;simp only[I] at c;simp only[D] at d;unfold uU at j p;unfold Rd.yS at c;clear M N G I D z L
 by_cases h1:n=1
 ·subst h1
  by_cases H:m=0
  ·subst H;go_enter func18,ntmps18
   go_wp2_with (first
    | (go_at_call 31;refine (A i (Below.refl _ _)).mono ?_;rintro e Q ⟨rfl,k⟩;have a:=f.trans (k.mono f.size);obtain⟨r0,K⟩:=one_cell a)
    | (go_at_call 30;refine p.mono ?_;rintro e i ⟨u,rfl,g,f⟩;have B:OAt i (some v) u:=ValAt.move g (λ_ C=>C.2) (λ_ _=>rfl);obtain⟨ao,cap,bb,x,F,A,o⟩:=c i u B;obtain⟨P,r,O,E,_⟩:=d i x o;obtain⟨T,y,rfl⟩:=ValAt.iface g))
   exact bodyPost_ret (v := .tuple #[.agg #[.slice none 0 0],.iface 96 (.agg #[.string ⟨#[100,111,99,117,109,101,110,116]⟩])]) (by simp[results,results18,go_sem,r0]) rfl ⟨_,_,_,_,rfl,.doc _,(j.trans (a.mono (by simp))).setCell (Nat.le_refl _) _,λh=>by simp at h⟩
  ·have X:((m:Int)==0)=false:=by simp;omega
   have Y:decide ((10:Int)<(m:Int))=true:=by simp;omega
   go_enter func18,ntmps18
   go_wp2_with (first
    | (go_at_call 31;refine (A i (Below.refl _ _)).mono ?_;rintro e Q ⟨rfl,k⟩;have a:=f.trans (k.mono f.size);obtain⟨r0,K⟩:=one_cell a)
    | (go_at_call 30;refine p.mono ?_;rintro e i ⟨u,rfl,g,f⟩;have B:OAt i (some v) u:=ValAt.move g (λ_ C=>C.2) (λ_ _=>rfl);obtain⟨ao,cap,bb,x,F,A,o⟩:=c i u B;obtain⟨P,r,O,E,_⟩:=d i x o;obtain⟨T,y,rfl⟩:=ValAt.iface g))
   exact bodyPost_ret (v := .tuple #[.agg #[.slice none 0 0],.iface 96 (.agg #[.string ⟨#[100,111,99,117,109,101,110,116]⟩])]) (by simp[results,results18,go_sem,r0]) rfl ⟨_,_,_,_,rfl,.doc _,(j.trans (a.mono (by simp))).setCell (Nat.le_refl _) _,λh=>by simp at h⟩
 ·have U:((n:Int) != 1)=true:=by simp;omega
  clear l;go_enter func18,ntmps18
  go_wp2_with (first
   | (go_at_call 31;refine (A i (Below.refl _ _)).mono ?_;rintro e Q ⟨rfl,k⟩;have a:=f.trans (k.mono f.size);obtain⟨r0,K⟩:=one_cell a)
   | (go_at_call 30;refine p.mono ?_;rintro e i ⟨u,rfl,g,f⟩;have B:OAt i (some v) u:=ValAt.move g (λ_ C=>C.2) (λ_ _=>rfl);obtain⟨ao,cap,bb,x,F,A,o⟩:=c i u B;obtain⟨P,r,O,E,_⟩:=d i x o;obtain⟨T,y,rfl⟩:=ValAt.iface g))
  exact bodyPost_ret (v := .tuple #[.agg #[.slice none 0 0],.iface 96 (.agg #[.string ⟨#[100,111,99,117,109,101,110,116]⟩])]) (by simp[results,results18,go_sem,r0]) rfl ⟨_,_,_,_,rfl,.doc _,(j.trans (a.mono (by simp))).setCell (Nat.le_refl _) _,λh=>by simp at h⟩
theorem Dr{L:Nat}(g:L<=4000){v:Rd.V}(h:Rd.Good L v):Rd.Good 4000 v:=by
 induction h with
 | str t h=>exact .str t (by omega)
 | word b=>exact .word b
 | list f h _ a=>exact .list f (by omega) a
 | obj ms h c d _ a=>exact .obj ms (by omega) c (λm e=>by have:=d m e;omega) a
theorem yD.below{w d:World}{base:Nat}{b:Value}{c:List zD}(h:yD w base b c)(a:Below w.heap.size w d):yD d base b c:=by
 obtain⟨xs,e,f⟩:=h;exact⟨xs,ownsRow_below e a,λj g=>(f j g).below a⟩
theorem yD.mono{w:World}{base a:Nat}{c:Value}{d:List zD}(h:yD w base c d)(b:a<=base):yD w a c d:=by
 obtain⟨xs,e,f⟩:=h;exact⟨xs,jZ e b,λj g=>(f j g).mono b⟩
theorem yD.set{w:World}{base:Nat}{c:Value}{d:List zD}(h:yD w base c d){b:Nat}(f:b<base)(o:Nat)(u:Value):yD (w.setCell ⟨b,o,none⟩ u) base c d:=by
 obtain⟨xs,a,e⟩:=h;exact⟨xs,il a (by intro g;have:=(a.lt b g).1;omega) o u,λj i=>(e j i).set f o u⟩
theorem gI{w W:World}{T:TypeId}{x:Value}{a o:Nat}(c:Below (w.alloc (.cells #[.slice none 0 0] 68)).heap.size (w.alloc (.cells #[.slice none 0 0] 68)) W)(h:W.cell? ⟨a,o,none⟩=some (.iface T x))(y:Value) :
  (W.setCell ⟨w.heap.size,0,none⟩ y).cell? ⟨a,o,none⟩=some (.iface T x):=by
 have d:a≠w.heap.size:=by
  intro e;subst e;have b:=(za (xU c) o).1;rw[h] at b
  cases o with
  | zero=>simp at b
  | succ o=>simp at b
 rw[World.cell?_setCell_other _ _ _ _ (by simp only[ne_eq,Addr.mk.injEq];omega)];exact h
theorem Cj(cs:List Nat)(a:List Value)(ao:Option Addr)(cap:Nat)(w:World)(i:a.length<=100000)(f:yt w ao a)(hF:FVs cs a) :
  Calls prog 34 #[.slice ao a.length cap,.func (.func 35) #[] #[]] w λe g=>
   e = .returned (.tuple #[.int .i64 (((zm (λj=>cs.getD j 0 != 0) cs.length).getD 0:Nat):Int),.bool (zm (λj=>cs.getD j 0 != 0) cs.length).isSome])/\Below w.heap.size w g:=by
 have d:∀args w,(callFunc 35 args).run prog w = .ok (.enter 35 args) w:=enters_of func35 (by kernel_rfl) rfl
 have c:=Uk a ao cap _ (λj=>cs.getD j 0 != 0) w (by omega) d f hF.form (λW j b h=>by
  have:=eu _ _ W (hF.at j b)
  rw[show a[j]=a.getD j .nilIface by rw[List.getD_eq_getElem?_getD,List.getElem?_eq_getElem b];rfl] at this;exact this)
 rw[hF.1] at c |-;exact c
theorem nE{L:Nat}{v:Rd.V}(h:Rd.Good L v):∀x ∈ qd (stX v),Rd.Good L x:=by
 intro x a
 match v with
 | .str s=>simp[stX,qd] at a
 | .word b=>simp[stX,qd] at a
 | .list d=>simp[stX,qd] at a
 | .obj ms=>
  cases hg:Rd.zf ms Rd.yS with
  | none=>simp only[stX,hg,qd,List.not_mem_nil] at a
  | some y=>
   have c:=Rd.xg h Rd.yS y hg
   cases y with
   | list d=>
    simp only[stX,hg,qd] at a
    cases c with|list _ _ h=>exact h x a
   | str s=>simp only[stX,hg,qd,List.not_mem_nil] at a
   | word b=>simp only[stX,hg,qd,List.not_mem_nil] at a
   | obj m=>simp only[stX,hg,qd,List.not_mem_nil] at a
theorem Ap(s:BA)(w:World)(EL:Value)(v:Rd.V)(q:Nat)(hQ:ZG w EL)(hs:s.size<=4000)(hr:Rd.xN s.data.toList = .ok v q)(h1:Qu v=1)(h2:1<=(qd (stX v)).length)(h3:(qd (stX v)).length<=10) :
  Calls prog 18 #[.string s] w (QI w EL (Rd.kC ((qd (stX v)).map Rd.qP) 0) ((qd (stX v)).map xm)):=by
 have t:=nB w uU;have cc:=U9 s (w.alloc uU) (hQ.below t).seq hs;rw[hr] at cc;unfold Zh at cc;simp only at cc;have b4:=Rd.YP hr;rw[Ref.zB] at b4;have hG:=Dr hs b4;have b1:=nE hG;have f:=λW u (h:OAt W (some v) u)=>gQ h hG;have E:=λW gv (h:OAt W (stX v) gv)=>fH h;simp only[h1] at f;obtain⟨U,b5⟩:=Nm (qd (stX v));rw[b5] at h2 h3 b1 |-;simp only[b5] at E;have cE:=λ(S:List Value) ao cap W (hb:Below w.heap.size w W)=>AR U S ao cap W (hQ.below hb).p
 have Z:∀c ∈ U.map Rd.qP,c<=2:=by
  intro c hc;rw[List.mem_map] at hc;obtain⟨x,_,rfl⟩:=hc;exact Rd.Oz x
 have hlen:(U.map Rd.qP).length=U.length:=by simp
 obtain⟨cs,b3⟩:=Nm (U.map Rd.qP);have X:=cE;simp only[b3] at X;rw[b3] at Z hlen |-;obtain⟨ss,a1⟩:=Nm (U.map xm);have f7:ss.length=U.length:=by rw[<- a1];simp
 simp only[a1] at X;rw[a1];obtain⟨m,hm⟩:=Nm U.length;rw[hm] at h2 h3 hlen;have K:=λ(ys:List Value) fa fc W hn d8 hF=>Cj cs ys fa fc W hn d8 hF;have a6:=hid E;have a5:=hid b1;have HE:=hid X;have i:=hid hm;unfold uU at t cc;unfold Rd.yS at f;have d2:((m:Int)==0)=false:=by simp;omega
 have d3:decide ((10:Int)<(m:Int))=false:=by simp;omega
 clear hQ hs hr b4 hG h1 b5 b3 a1 hm cE X E b1
 cases I:zm (λj=>cs.getD j 0 != 0) cs.length with
 | none=>
  have hz:Rd.kC cs 0=(0,0):=Rd.Uh cs 0 (λc hc=>by
   obtain⟨j,hj,rfl⟩:=JG hc
   simpa using Yv I j hj)
  rw[hz];simp only[I,Option.getD_none,Option.isSome_none] at K;clear hz I Z;go_enter func18,ntmps18
  go_wp2_with (first
   | (go_at_call 34;refine r.mono ?_;rintro e w4 ⟨rfl,A⟩;have g:=n.trans (A.mono n.size);obtain⟨r0,f0⟩:=one_cell g)
   | (go_at_call 32;refine o.mono ?_;rintro e w3 ⟨oa,fa,oc,fc,ys,rfl,l,F,G,L,O⟩;have n:=a.trans (L.mono a.size);have r:=K ys fa fc w3 (by omega) F G;rw[l] at r)
   | (go_at_call 31;refine (cG H (Below.refl _ _)).mono ?_;rintro e w2 ⟨rfl,b⟩;have a:=z.trans (b.mono z.size);have J:Below w.heap.size w w2:=t.trans (a.mono (by simp));have o:=HE.out S lo D w2 J d (by omega) (Jp P b) (λj x y I hy=>(Q j x y I hy).below b) a5.out;rw[d,i.out] at o)
   | (go_at_call 30;refine cc.mono ?_;rintro e H ⟨u,rfl,C,z⟩;have hO:OAt H (some v) u:=ValAt.move C (λ_ hb=>hb.2) (λ_ _=>rfl);obtain⟨ao,cap,bb,gv,c8,cG,N⟩:=f H u hO;obtain⟨lo,D,lb,R,S,d,P,Q⟩:=a6.out H gv N;have a4:S.length=m:=d.trans i.out;rw[i.out] at R;obtain⟨T,y,rfl⟩:=ValAt.iface C))
  have e1:w.heap.size<w2.heap.size:=by have h:=a.size;simp at h;omega
  exact bodyPost_ret (v := .tuple #[.agg #[.slice oa m oc],.nilIface]) (by simp[results,results18,go_sem,r0]) rfl ⟨_,_,_,_,rfl,.ok,(t.trans (g.mono (by simp))).setCell (Nat.le_refl _) _,λ_=>((O.below A).set e1 _ _).mono (by omega)⟩
 | some k=>
  obtain⟨a0,c1,c2⟩:=Jq I;have Y:cs.getD k 0=cs[k]:=by rw[List.getD_eq_getElem?_getD,List.getElem?_eq_getElem a0];rfl
  have c0:cs[k]≠0:=by rw[<- Y];simpa using c1
  have c3:=Z cs[k] (List.getElem_mem a0)
  have hz:Rd.kC cs 0=(if cs[k]=1 then 5 else 6,0+k+1):=Rd.dB cs 0 k a0 (λj hj=>by
   have:=c2 j hj
   rw[List.getD_eq_getElem?_getD,List.getElem?_eq_getElem (show j<cs.length by omega)] at this
   simpa using this) c0 c3
  rw[hz,Nat.zero_add];simp only[I,Option.getD_some,Option.isSome_some] at K;have f5:k<m:=by omega
  have f4:(k:Int)<(m:Int):=by omega
  have M:cs[k]=1\/cs[k]=2:=by omega
  obtain⟨ck,a3⟩:∃c,cs[k]=c:=⟨_,rfl⟩;rw[a3] at M Y |-;have b7:=hid Y;clear hz I Z c1 c2 Y c0 c3 a3 a0
  rcases M with rfl|rfl
  ·simp only[if_true];go_enter func18,ntmps18
   go_upto_region 11 with (first
   | (go_at_call 34;refine r.mono ?_;rintro e w4 ⟨rfl,A⟩;have g:=n.trans (A.mono n.size);obtain⟨r0,f0⟩:=one_cell g;have B:=(G.at k (by omega));rw[b7.out] at B;rcases B with ⟨h,_⟩|⟨_,pp,hyk⟩|⟨h,_⟩;(exfalso;simp at h);rotate_left;(exfalso;simp at h);rcases F with hnil|⟨fb,fo,rfl,hfc⟩;(exfalso;rw[hnil] at l;simp at l;omega);have qk:=zb A (hfc k (by omega));rw[hyk] at qk;have e4:=gI g qk)
   | (go_at_call 32;refine o.mono ?_;rintro e w3 ⟨oa,fa,oc,fc,ys,rfl,l,F,G,L,O⟩;have n:=a.trans (L.mono a.size);have r:=K ys fa fc w3 (by omega) F G;rw[l] at r)
   | (go_at_call 31;refine (cG H (Below.refl _ _)).mono ?_;rintro e w2 ⟨rfl,b⟩;have a:=z.trans (b.mono z.size);have J:Below w.heap.size w w2:=t.trans (a.mono (by simp));have o:=HE.out S lo D w2 J d (by omega) (Jp P b) (λj x y I hy=>(Q j x y I hy).below b) a5.out;rw[d,i.out] at o)
   | (go_at_call 30;refine cc.mono ?_;rintro e H ⟨u,rfl,C,z⟩;have hO:OAt H (some v) u:=ValAt.move C (λ_ hb=>hb.2) (λ_ _=>rfl);obtain⟨ao,cap,bb,gv,c8,cG,N⟩:=f H u hO;obtain⟨lo,D,lb,R,S,d,P,Q⟩:=a6.out H gv N;have a4:S.length=m:=d.trans i.out;rw[i.out] at R;obtain⟨T,y,rfl⟩:=ValAt.iface C))
   go_region
   all_goals
    go_wp2_with fail;exact bodyPost_ret (v := .tuple #[.agg #[.slice none 0 0],.iface 110 (.agg #[.int .i64 (((k+1:Nat)):Int),.iface 96 (.agg #[.string pp])])]) (by simp[results,results18,go_sem,r0]) rfl ⟨_,_,_,_,rfl,.shape (k+1) pp,((t.trans (g.mono (by simp))).setCell (Nat.le_refl _) _).drew,λh=>by simp at h⟩
  ·simp only[show ¬(2:Nat)=1 by decide,if_false];go_enter func18,ntmps18
   go_upto_region 11 with (first
   | (go_at_call 34;refine r.mono ?_;rintro e w4 ⟨rfl,A⟩;have g:=n.trans (A.mono n.size);obtain⟨r0,f0⟩:=one_cell g;have B:=(G.at k (by omega));rw[b7.out] at B;rcases B with ⟨h,_⟩|⟨h,_⟩|⟨_,pp,hyk⟩;(exfalso;simp at h);(exfalso;simp at h);rcases F with hnil|⟨fb,fo,rfl,hfc⟩;(exfalso;rw[hnil] at l;simp at l;omega);have qk:=zb A (hfc k (by omega));rw[hyk] at qk;have e4:=gI g qk)
   | (go_at_call 32;refine o.mono ?_;rintro e w3 ⟨oa,fa,oc,fc,ys,rfl,l,F,G,L,O⟩;have n:=a.trans (L.mono a.size);have r:=K ys fa fc w3 (by omega) F G;rw[l] at r)
   | (go_at_call 31;refine (cG H (Below.refl _ _)).mono ?_;rintro e w2 ⟨rfl,b⟩;have a:=z.trans (b.mono z.size);have J:Below w.heap.size w w2:=t.trans (a.mono (by simp));have o:=HE.out S lo D w2 J d (by omega) (Jp P b) (λj x y I hy=>(Q j x y I hy).below b) a5.out;rw[d,i.out] at o)
   | (go_at_call 30;refine cc.mono ?_;rintro e H ⟨u,rfl,C,z⟩;have hO:OAt H (some v) u:=ValAt.move C (λ_ hb=>hb.2) (λ_ _=>rfl);obtain⟨ao,cap,bb,gv,c8,cG,N⟩:=f H u hO;obtain⟨lo,D,lb,R,S,d,P,Q⟩:=a6.out H gv N;have a4:S.length=m:=d.trans i.out;rw[i.out] at R;obtain⟨T,y,rfl⟩:=ValAt.iface C))
   go_region
   all_goals
    go_wp2_with fail;exact bodyPost_ret (v := .tuple #[.agg #[.slice none 0 0],.iface 110 (.agg #[.int .i64 (((k+1:Nat)):Int),.iface 165 (.agg #[.int .i64 pp])])]) (by simp[results,results18,go_sem,r0]) rfl ⟨_,_,_,_,rfl,.pat (k+1) pp,((t.trans (g.mono (by simp))).setCell (Nat.le_refl _) _).drew,λh=>by simp at h⟩
def jP(s:BA):List zD:=if 4000<s.size then [] else match Rd.xN s.data.toList with
 | .ok v _=>(qd (stX v)).map xm
 | .err _ _=>[]
theorem Ar(s:BA)(w:World)(EL:Value)(T:TypeId)(y:Value)(b:EL = .iface T y)(a:ZG w EL) :
  Calls prog 18 #[.string s] w (QI w EL (Rd.yU s) (jP s)):=by
 have f:Rd.yU s=if 4000<s.size then (1,0) else match Rd.xN s.data.toList with
  | .err e q=>(e,q)
  | .ok v _=>Rd.vX v:=rfl
 have g:jP s=if 4000<s.size then [] else match Rd.xN s.data.toList with
  | .ok v _=>(qd (stX v)).map xm
  | .err _ _=>[]:=rfl
 by_cases h:4000<s.size
 ·rw[f,g,if_pos h,if_pos h];exact Aq s w EL T y b a h
 ·rw[f,g,if_neg h,if_neg h]
  cases hr:Rd.xN s.data.toList with
  | err c q=>exact Ao s w EL c q a (by omega) hr
  | ok v q=>
   simp only;rw[Au];have d:=Rd.YP hr
   by_cases hb:Qu v≠1\/(qd (stX v)).length<1\/10<(qd (stX v)).length
   ·rw[if_pos hb];refine (Am s w EL v q a (by omega) hr hb).mono ?_;rintro e o ⟨l,n,m,u,i,j,k,_⟩;exact⟨l,n,m,u,i,j,k,λh=>by simp at h⟩
   ·rw[if_neg hb,Rd.Ug (L:=s.data.toList.length) _ 0 (nE d)];exact Ap s w EL v q a (by omega) hr (by omega) (by omega) (by omega)
end Go.Proofs.YtdakgnaojakldabGreatDoor
