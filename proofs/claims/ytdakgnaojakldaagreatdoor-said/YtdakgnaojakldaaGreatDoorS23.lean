/- P -/
import Derived.Test.YtdakgnaojakldaaGreatDoorS22
open Go.Proofs.Tryz
set_option maxRecDepth 100000
set_option maxHeartbeats 2000000
namespace Go.Proofs.YtdakgnaojakldaaGreatDoor
open Go.RowKit
def Zq:Rd.V->Nat
 | .obj ms=>ms.length
 | _=>0
def stX:Rd.V->Option Rd.V
 | .obj ms=>Rd.zh ms Rd.xS
 | _=>none
def zV:Option Rd.V->List Rd.V
 | some (.list vs)=>vs
 | _=>[]
theorem KY(v:Rd.V):Rd.uh v=if Zq v≠1\/(zV (stX v)).length<1\/10<(zV (stX v)).length then (5,0) else Rd.Zj ((zV (stX v)).map Rd.qR) 0:=by
 match v with
 | .str s=>rfl
 | .word b=>rfl
 | .list a=>rfl
 | .obj ms=>
  have key:∀X:Option Rd.V,(match X with
    | some (.list a)=>if ms.length≠1\/a.length<1\/10<a.length then ((5:Int),0) else Rd.Zj (a.map Rd.qR) 0
    | _=>(5,0))=if ms.length≠1\/(zV X).length<1\/10<(zV X).length then (5,0) else Rd.Zj ((zV X).map Rd.qR) 0:=by
   intro X
   match X with
   | none=>simp[zV]
   | some (.str s)=>simp[zV]
   | some (.word b)=>simp[zV]
   | some (.obj m)=>simp[zV]
   | some (.list a)=>rfl
  exact key _
theorem dJ{w:World}{v:Rd.V}{u:Value}(h:OAt w (some v) u)(g:Rd.Good 4000 v):∃ao cap b f,(∀W,(Instr.typeAssert u 114 118 true).run prog W = .ok (.tuple #[.slice ao (Zq v) cap,.bool b]) W) /\
  (∀W,Below w.heap.size w W->Calls prog 51 #[.slice ao (Zq v) cap,.string Rd.xS] W λe l=>e = .returned f/\Below W.heap.size W l)/\OAt w (stX v) f:=by
 by_cases ho:∃ms,v = .obj ms
 ·obtain⟨ms,rfl⟩:=ho;obtain⟨k,ao,cap,rfl,a⟩:=Q6 h;have c:ms.length<=4000:=by cases g with|obj _ h=>exact h
  refine⟨ao,cap,true,qo k Rd.xS,λW=>?_,λW hb=>?_,a.get Rd.xS⟩
  ·show _=Result.ok (Value.tuple #[.slice ao ms.length cap,.bool true]) W;rw[<- a.len];exact Uo _ W
  ·have:=VK (w:=W) cap (a.below hb) c Rd.xS
   rw[a.len] at this;exact this
 ·have d:∀ms,some v≠some (.obj ms):=λms e=>ho ⟨ms,by simpa using e⟩
  have i:Zq v=0:=by
   cases v with
   | obj ms=>exact absurd ⟨ms,rfl⟩ ho
   | _=>rfl
  have j:stX v=none:=by
   cases v with
   | obj ms=>exact absurd ⟨ms,rfl⟩ ho
   | _=>rfl
  rw[i,j];exact⟨none,0,false,.nilIface,λW=>Un h d W,λW _=>Vo [] none 0 Rd.xS W (by simp) (.inl rfl) (by simp),rfl⟩
theorem bI{w:World}{x:Option Rd.V}{u:Value}(h:OAt w x u):∃lo cap b,(∀W,(Instr.typeAssert u 114 121 true).run prog W = .ok (.tuple #[.slice lo (zV x).length cap,.bool b]) W) /\
  ∃f:List Value,f.length=(zV x).length/\xW w lo f/\∀(j:Nat) (v:Rd.V) (u:Value),(zV x)[j]?=some v->f[j]?=some u->OAt w (some v) u:=by
 by_cases ho:∃a,x=some (.list a)
 ·obtain⟨a,rfl⟩:=ho;have d:ValAt w (λb=>b<w.heap.size) (.list a) u:=h
  cases d with
  | list _ f ao cap i g k=>
   refine⟨ao,cap,true,λW=>?_,f,i,?_,λj v u d n=>k j v u d n⟩
   ·show _=Result.ok (Value.tuple #[.slice ao a.length cap,.bool true]) W;rw[<- i];exact Ul _ W
   ·rcases g with g|⟨b,ha,_,hc⟩
    ·exact .inl g
    ·exact .inr ⟨b,0,ha,λj l=>by rw[Nat.zero_add];exact hc j _ (List.getElem?_eq_getElem l)⟩
 ·have c:∀a,x≠some (.list a):=λa e=>ho ⟨a,e⟩
  have m:zV x=[]:=by
   match x with
   | none=>rfl
   | some (.str s)=>rfl
   | some (.word b)=>rfl
   | some (.obj ms)=>rfl
   | some (.list a)=>exact absurd rfl (c a)
  rw[m];exact⟨none,0,false,λW=>Um h c W,[],rfl,.inl rfl,λj v u d _=>by simp at d⟩
theorem pG(s:BY)(w:World)(EL:Value)(v:Rd.V)(q:Nat)(M:kW w EL)(N:s.size<=4000)(F:Rd.xI s.data.toList = .ok v q)(l:Zq v≠1\/(zV (stX v)).length<1\/10<(zV (stX v)).length) :
  Calls prog 32 #[.string s] w (Z8 w EL (5,0) []):=by
 have j:=nb w vV;have p:=VY s (w.alloc vV) (M.below j).seq N;rw[F] at p;unfold uU at p;simp only at p;have z:=Rd.Yc F;rw[Ref.zx] at z
 have L:Rd.Good 4000 v:=by
  clear p F l
  induction z with
  | str t h=>exact .str t (by omega)
  | word b=>exact .word b
  | list R h _ I=>exact .list R (by omega) I
  | obj ms h G Q _ I=>exact .obj ms (by omega) G (λm C=>by have:=Q m C;omega) I
 obtain⟨n,H⟩:=Nm (Zq v);obtain⟨m,C⟩:=Nm ((zV (stX v)).length);have c:=λW u (h:OAt W (some v) u)=>dJ h L;have d:=λW x (h:OAt W (stX v) x)=>bI h;rw[H,C] at l;simp only[H] at c;simp only[C] at d;unfold vV at j p;unfold Rd.xS at c;clear M N F H C z L
 by_cases h1:n=1
 ·subst h1
  by_cases G:m=0
  ·subst G;go_enter func32,ntmps32
   go_wp2_with (first
    | (go_at_call 51;refine (A i (Below.refl _ _)).mono ?_;rintro e P ⟨rfl,k⟩;have a:=f.trans (k.mono f.size);obtain⟨r0,K⟩:=one_cell a)
    | (go_at_call 50;refine p.mono ?_;rintro e i ⟨u,rfl,g,f⟩;have B:OAt i (some v) u:=ValAt.move g (λ_ hb=>hb.2) (λ_ _=>rfl);obtain⟨ao,cap,J,x,E,A,o⟩:=c i u B;obtain⟨lo,r,O,D,_⟩:=d i x o;obtain⟨T,y,rfl⟩:=ValAt.iface g))
   exact bodyPost_ret (v := .tuple #[.agg #[.slice none 0 0],.iface 125 (.agg #[.string ⟨#[100,111,99,117,109,101,110,116]⟩])]) (by simp[results,results32,go_sem,r0]) rfl ⟨_,_,_,_,rfl,.doc _,(j.trans (a.mono (by simp))).setCell (Nat.le_refl _) _,λh=>by simp at h⟩
  ·have U:((m:Int)==0)=false:=by simp;omega
   have X:decide ((10:Int)<(m:Int))=true:=by simp;omega
   go_enter func32,ntmps32
   go_wp2_with (first
    | (go_at_call 51;refine (A i (Below.refl _ _)).mono ?_;rintro e P ⟨rfl,k⟩;have a:=f.trans (k.mono f.size);obtain⟨r0,K⟩:=one_cell a)
    | (go_at_call 50;refine p.mono ?_;rintro e i ⟨u,rfl,g,f⟩;have B:OAt i (some v) u:=ValAt.move g (λ_ hb=>hb.2) (λ_ _=>rfl);obtain⟨ao,cap,J,x,E,A,o⟩:=c i u B;obtain⟨lo,r,O,D,_⟩:=d i x o;obtain⟨T,y,rfl⟩:=ValAt.iface g))
   exact bodyPost_ret (v := .tuple #[.agg #[.slice none 0 0],.iface 125 (.agg #[.string ⟨#[100,111,99,117,109,101,110,116]⟩])]) (by simp[results,results32,go_sem,r0]) rfl ⟨_,_,_,_,rfl,.doc _,(j.trans (a.mono (by simp))).setCell (Nat.le_refl _) _,λh=>by simp at h⟩
 ·have S:((n:Int) != 1)=true:=by simp;omega
  clear l;go_enter func32,ntmps32
  go_wp2_with (first
   | (go_at_call 51;refine (A i (Below.refl _ _)).mono ?_;rintro e P ⟨rfl,k⟩;have a:=f.trans (k.mono f.size);obtain⟨r0,K⟩:=one_cell a)
   | (go_at_call 50;refine p.mono ?_;rintro e i ⟨u,rfl,g,f⟩;have B:OAt i (some v) u:=ValAt.move g (λ_ hb=>hb.2) (λ_ _=>rfl);obtain⟨ao,cap,J,x,E,A,o⟩:=c i u B;obtain⟨lo,r,O,D,_⟩:=d i x o;obtain⟨T,y,rfl⟩:=ValAt.iface g))
  exact bodyPost_ret (v := .tuple #[.agg #[.slice none 0 0],.iface 125 (.agg #[.string ⟨#[100,111,99,117,109,101,110,116]⟩])]) (by simp[results,results32,go_sem,r0]) rfl ⟨_,_,_,_,rfl,.doc _,(j.trans (a.mono (by simp))).setCell (Nat.le_refl _) _,λh=>by simp at h⟩
theorem wY{L:Nat}(g:L<=4000){v:Rd.V}(h:Rd.Good L v):Rd.Good 4000 v:=by
 induction h with
 | str t h=>exact .str t (by omega)
 | word b=>exact .word b
 | list f h _ a=>exact .list f (by omega) a
 | obj ms h c d _ a=>exact .obj ms (by omega) c (λm e=>by have:=d m e;omega) a
theorem yc.below{w c:World}{base:Nat}{a:Value}{b:List zz}(h:yc w base a b)(hb:Below w.heap.size w c):yc c base a b:=by
 obtain⟨xs,d,e⟩:=h;exact⟨xs,ownsRow_below d hb,λj f=>(e j f).below hb⟩
theorem yc.mono{w:World}{base a:Nat}{b:Value}{c:List zz}(h:yc w base b c)(hb:a<=base):yc w a b c:=by
 obtain⟨xs,d,e⟩:=h;exact⟨xs,xP d hb,λj f=>(e j f).mono hb⟩
theorem yc.set{w:World}{base:Nat}{c:Value}{d:List zz}(h:yc w base c d){b:Nat}(hb:b<base)(o:Nat)(u:Value):yc (w.setCell ⟨b,o,none⟩ u) base c d:=by
 obtain⟨xs,a,e⟩:=h;exact⟨xs,dX a (by intro f;have:=(a.lt b f).1;omega) o u,λj g=>(e j g).set hb o u⟩
theorem dD{w W:World}{T:TypeId}{x:Value}{a o:Nat}(hb:Below (w.alloc (.cells #[.slice none 0 0] 72)).heap.size (w.alloc (.cells #[.slice none 0 0] 72)) W)(h:W.cell? ⟨a,o,none⟩=some (.iface T x))(y:Value) :
  (W.setCell ⟨w.heap.size,0,none⟩ y).cell? ⟨a,o,none⟩=some (.iface T x):=by
 have c:a≠w.heap.size:=by
  intro e;subst e;have b:=(ze (xG hb) o).1;rw[h] at b
  cases o with
  | zero=>simp at b
  | succ o=>simp at b
 rw[World.cell?_setCell_other _ _ _ _ (by simp only[ne_eq,Addr.mk.injEq];omega)];exact h
theorem tJ(cs:List Nat)(a:List Value)(ao:Option Addr)(cap:Nat)(w:World)(h:a.length<=100000)(f:xW w ao a)(hF:FVs cs a) :
  Calls prog 54 #[.slice ao a.length cap,.func (.func 55) #[] #[]] w λe g=>
   e = .returned (.tuple #[.int .i64 (((zl (λj=>cs.getD j 0 != 0) cs.length).getD 0:Nat):Int),.bool (zl (λj=>cs.getD j 0 != 0) cs.length).isSome])/\Below w.heap.size w g:=by
 have d:∀args w,(callFunc 55 args).run prog w = .ok (.enter 55 args) w:=enters_of func55 (by kernel_rfl) rfl
 have c:=Vn a ao cap _ (λj=>cs.getD j 0 != 0) w (by omega) d f hF.form (λW j b hb=>by
  have:=aU _ _ W (hF.at j b)
  rw[show a[j]=a.getD j .nilIface by rw[List.getD_eq_getElem?_getD,List.getElem?_eq_getElem b];rfl] at this;exact this)
 rw[hF.1] at c |-;exact c
theorem UD{L:Nat}{v:Rd.V}(h:Rd.Good L v):∀x ∈ zV (stX v),Rd.Good L x:=by
 intro x a
 match v with
 | .str s=>simp[stX,zV] at a
 | .word b=>simp[stX,zV] at a
 | .list d=>simp[stX,zV] at a
 | .obj ms=>
  cases hg:Rd.zh ms Rd.xS with
  | none=>simp only[stX,hg,zV,List.not_mem_nil] at a
  | some y=>
   have c:=Rd.qV h Rd.xS y hg
   cases y with
   | list d=>
    simp only[stX,hg,zV] at a
    cases c with|list _ _ h=>exact h x a
   | str s=>simp only[stX,hg,zV,List.not_mem_nil] at a
   | word b=>simp only[stX,hg,zV,List.not_mem_nil] at a
   | obj m=>simp only[stX,hg,zV,List.not_mem_nil] at a
theorem pJ(s:BY)(w:World)(EL:Value)(v:Rd.V)(q:Nat)(hQ:kW w EL)(hs:s.size<=4000)(hr:Rd.xI s.data.toList = .ok v q)(h1:Zq v=1)(h2:1<=(zV (stX v)).length)(h3:(zV (stX v)).length<=10) :
  Calls prog 32 #[.string s] w (Z8 w EL (Rd.ul ((zV (stX v)).map Rd.qB) 0) ((zV (stX v)).map qG)):=by
 have t:=nb w vV;have cc:=VY s (w.alloc vV) (hQ.below t).seq hs;rw[hr] at cc;unfold uU at cc;simp only at cc;have b3:=Rd.Yc hr;rw[Ref.zx] at b3;have hG:=wY hs b3;have b1:=UD hG;have f:=λW u (h:OAt W (some v) u)=>dJ h hG;have E:=λW gv (h:OAt W (stX v) gv)=>bI h;simp only[h1] at f;obtain⟨U,b4⟩:=Nm (zV (stX v));rw[b4] at h2 h3 b1 |-;simp only[b4] at E;have cE:=λ(S:List Value) ao cap W (hb:Below w.heap.size w W)=>ry U S ao cap W (hQ.below hb).p
 have Z:∀c ∈ U.map Rd.qB,c<=2:=by
  intro c hc;rw[List.mem_map] at hc;obtain⟨x,_,rfl⟩:=hc;exact Rd.IQ x
 have hlen:(U.map Rd.qB).length=U.length:=by simp
 obtain⟨cs,b2⟩:=Nm (U.map Rd.qB);have X:=cE;simp only[b2] at X;rw[b2] at Z hlen |-;obtain⟨ss,a1⟩:=Nm (U.map qG);have f6:ss.length=U.length:=by rw[<- a1];simp
 simp only[a1] at X;rw[a1];obtain⟨m,hm⟩:=Nm U.length;rw[hm] at h2 h3 hlen;have K:=λ(ys:List Value) fa fc W hn d6 hF=>tJ cs ys fa fc W hn d6 hF;have a6:=hid E;have a5:=hid b1;have HE:=hid X;have i:=hid hm;unfold vV at t cc;unfold Rd.xS at f;have d2:((m:Int)==0)=false:=by simp;omega
 have d3:decide ((10:Int)<(m:Int))=false:=by simp;omega
 clear hQ hs hr b3 hG h1 b4 b2 a1 hm cE X E b1
 cases I:zl (λj=>cs.getD j 0 != 0) cs.length with
 | none=>
  have hz:Rd.ul cs 0=(0,0):=Rd.Vj cs 0 (λc hc=>by
   obtain⟨j,hj,rfl⟩:=YX hc
   simpa using XN I j hj)
  rw[hz];simp only[I,Option.getD_none,Option.isSome_none] at K;clear hz I Z;go_enter func32,ntmps32
  go_wp2_with (first
   | (go_at_call 54;refine r.mono ?_;rintro e w4 ⟨rfl,A⟩;have g:=n.trans (A.mono n.size);obtain⟨r0,f0⟩:=one_cell g)
   | (go_at_call 52;refine o.mono ?_;rintro e w3 ⟨oa,fa,oc,fc,ys,rfl,l,F,G,L,O⟩;have n:=a.trans (L.mono a.size);have r:=K ys fa fc w3 (by omega) F G;rw[l] at r)
   | (go_at_call 51;refine (cG H (Below.refl _ _)).mono ?_;rintro e w2 ⟨rfl,b⟩;have a:=z.trans (b.mono z.size);have J:Below w.heap.size w w2:=t.trans (a.mono (by simp));have o:=HE.out S lo D w2 J d (by omega) (YL P b) (λj x y I hy=>(Q j x y I hy).below b) a5.out;rw[d,i.out] at o)
   | (go_at_call 50;refine cc.mono ?_;rintro e H ⟨u,rfl,C,z⟩;have hO:OAt H (some v) u:=ValAt.move C (λ_ hb=>hb.2) (λ_ _=>rfl);obtain⟨ao,cap,bb,gv,c6,cG,N⟩:=f H u hO;obtain⟨lo,D,lb,R,S,d,P,Q⟩:=a6.out H gv N;have a4:S.length=m:=d.trans i.out;rw[i.out] at R;obtain⟨T,y,rfl⟩:=ValAt.iface C))
  have d9:w.heap.size<w2.heap.size:=by have h:=a.size;simp at h;omega
  exact bodyPost_ret (v := .tuple #[.agg #[.slice oa m oc],.nilIface]) (by simp[results,results32,go_sem,r0]) rfl ⟨_,_,_,_,rfl,.ok,(t.trans (g.mono (by simp))).setCell (Nat.le_refl _) _,λ_=>((O.below A).set d9 _ _).mono (by omega)⟩
 | some k=>
  obtain⟨a0,c0,c1⟩:=YM I;have Y:cs.getD k 0=cs[k]:=by rw[List.getD_eq_getElem?_getD,List.getElem?_eq_getElem a0];rfl
  have b9:cs[k]≠0:=by rw[<- Y];simpa using c0
  have c2:=Z cs[k] (List.getElem_mem a0)
  have hz:Rd.ul cs 0=(if cs[k]=1 then 5 else 6,0+k+1):=Rd.ai cs 0 k a0 (λj hj=>by
   have:=c1 j hj
   rw[List.getD_eq_getElem?_getD,List.getElem?_eq_getElem (show j<cs.length by omega)] at this
   simpa using this) b9 c2
  rw[hz,Nat.zero_add];simp only[I,Option.getD_some,Option.isSome_some] at K;have f4:k<m:=by omega
  have f3:(k:Int)<(m:Int):=by omega
  have M:cs[k]=1\/cs[k]=2:=by omega
  obtain⟨ck,a3⟩:∃c,cs[k]=c:=⟨_,rfl⟩;rw[a3] at M Y |-;have b6:=hid Y;clear hz I Z c0 c1 Y b9 c2 a3 a0
  rcases M with rfl|rfl
  ·simp only[if_true];go_enter func32,ntmps32
   go_upto_region 11 with (first
   | (go_at_call 54;refine r.mono ?_;rintro e w4 ⟨rfl,A⟩;have g:=n.trans (A.mono n.size);obtain⟨r0,f0⟩:=one_cell g;have B:=(G.at k (by omega));rw[b6.out] at B;rcases B with ⟨h,_⟩|⟨_,pp,hyk⟩|⟨h,_⟩;(exfalso;simp at h);rotate_left;(exfalso;simp at h);rcases F with hnil|⟨fb,fo,rfl,hfc⟩;(exfalso;rw[hnil] at l;simp at l;omega);have qk:=zg A (hfc k (by omega));rw[hyk] at qk;have e2:=dD g qk)
   | (go_at_call 52;refine o.mono ?_;rintro e w3 ⟨oa,fa,oc,fc,ys,rfl,l,F,G,L,O⟩;have n:=a.trans (L.mono a.size);have r:=K ys fa fc w3 (by omega) F G;rw[l] at r)
   | (go_at_call 51;refine (cG H (Below.refl _ _)).mono ?_;rintro e w2 ⟨rfl,b⟩;have a:=z.trans (b.mono z.size);have J:Below w.heap.size w w2:=t.trans (a.mono (by simp));have o:=HE.out S lo D w2 J d (by omega) (YL P b) (λj x y I hy=>(Q j x y I hy).below b) a5.out;rw[d,i.out] at o)
   | (go_at_call 50;refine cc.mono ?_;rintro e H ⟨u,rfl,C,z⟩;have hO:OAt H (some v) u:=ValAt.move C (λ_ hb=>hb.2) (λ_ _=>rfl);obtain⟨ao,cap,bb,gv,c6,cG,N⟩:=f H u hO;obtain⟨lo,D,lb,R,S,d,P,Q⟩:=a6.out H gv N;have a4:S.length=m:=d.trans i.out;rw[i.out] at R;obtain⟨T,y,rfl⟩:=ValAt.iface C))
   go_region
   all_goals
    go_wp2_with fail;exact bodyPost_ret (v := .tuple #[.agg #[.slice none 0 0],.iface 138 (.agg #[.int .i64 (((k+1:Nat)):Int),.iface 125 (.agg #[.string pp])])]) (by simp[results,results32,go_sem,r0]) rfl ⟨_,_,_,_,rfl,.shape (k+1) pp,((t.trans (g.mono (by simp))).setCell (Nat.le_refl _) _).drew,λh=>by simp at h⟩
  ·simp only[show ¬(2:Nat)=1 by decide,if_false];go_enter func32,ntmps32
   go_upto_region 11 with (first
   | (go_at_call 54;refine r.mono ?_;rintro e w4 ⟨rfl,A⟩;have g:=n.trans (A.mono n.size);obtain⟨r0,f0⟩:=one_cell g;have B:=(G.at k (by omega));rw[b6.out] at B;rcases B with ⟨h,_⟩|⟨h,_⟩|⟨_,pp,hyk⟩;(exfalso;simp at h);(exfalso;simp at h);rcases F with hnil|⟨fb,fo,rfl,hfc⟩;(exfalso;rw[hnil] at l;simp at l;omega);have qk:=zg A (hfc k (by omega));rw[hyk] at qk;have e2:=dD g qk)
   | (go_at_call 52;refine o.mono ?_;rintro e w3 ⟨oa,fa,oc,fc,ys,rfl,l,F,G,L,O⟩;have n:=a.trans (L.mono a.size);have r:=K ys fa fc w3 (by omega) F G;rw[l] at r)
   | (go_at_call 51;refine (cG H (Below.refl _ _)).mono ?_;rintro e w2 ⟨rfl,b⟩;have a:=z.trans (b.mono z.size);have J:Below w.heap.size w w2:=t.trans (a.mono (by simp));have o:=HE.out S lo D w2 J d (by omega) (YL P b) (λj x y I hy=>(Q j x y I hy).below b) a5.out;rw[d,i.out] at o)
   | (go_at_call 50;refine cc.mono ?_;rintro e H ⟨u,rfl,C,z⟩;have hO:OAt H (some v) u:=ValAt.move C (λ_ hb=>hb.2) (λ_ _=>rfl);obtain⟨ao,cap,bb,gv,c6,cG,N⟩:=f H u hO;obtain⟨lo,D,lb,R,S,d,P,Q⟩:=a6.out H gv N;have a4:S.length=m:=d.trans i.out;rw[i.out] at R;obtain⟨T,y,rfl⟩:=ValAt.iface C))
   go_region
   all_goals
    go_wp2_with fail;exact bodyPost_ret (v := .tuple #[.agg #[.slice none 0 0],.iface 138 (.agg #[.int .i64 (((k+1:Nat)):Int),.iface 228 (.agg #[.int .i64 pp])])]) (by simp[results,results32,go_sem,r0]) rfl ⟨_,_,_,_,rfl,.pat (k+1) pp,((t.trans (g.mono (by simp))).setCell (Nat.le_refl _) _).drew,λh=>by simp at h⟩
def yF(s:BY):List zz:=if 4000<s.size then [] else match Rd.xI s.data.toList with
 | .ok v _=>(zV (stX v)).map qG
 | .err _ _=>[]
theorem pM(s:BY)(w:World)(EL:Value)(T:TypeId)(y:Value)(b:EL = .iface T y)(a:kW w EL) :
  Calls prog 32 #[.string s] w (Z8 w EL (Rd.xV s) (yF s)):=by
 have f:Rd.xV s=if 4000<s.size then (1,0) else match Rd.xI s.data.toList with
  | .err e q=>(e,q)
  | .ok v _=>Rd.uh v:=rfl
 have g:yF s=if 4000<s.size then [] else match Rd.xI s.data.toList with
  | .ok v _=>(zV (stX v)).map qG
  | .err _ _=>[]:=rfl
 by_cases h:4000<s.size
 ·rw[f,g,if_pos h,if_pos h];exact pK s w EL T y b a h
 ·rw[f,g,if_neg h,if_neg h]
  cases hr:Rd.xI s.data.toList with
  | err c q=>exact pI s w EL c q a (by omega) hr
  | ok v q=>
   simp only;rw[KY];have d:=Rd.Yc hr
   by_cases hb:Zq v≠1\/(zV (stX v)).length<1\/10<(zV (stX v)).length
   ·rw[if_pos hb];refine (pG s w EL v q a (by omega) hr hb).mono ?_;rintro e o ⟨l,n,m,u,i,j,k,_⟩;exact⟨l,n,m,u,i,j,k,λh=>by simp at h⟩
   ·rw[if_neg hb,Rd.Vi (L:=s.data.toList.length) _ 0 (UD d)];exact pJ s w EL v q a (by omega) hr (by omega) (by omega) (by omega)
end Go.Proofs.YtdakgnaojakldaaGreatDoor
