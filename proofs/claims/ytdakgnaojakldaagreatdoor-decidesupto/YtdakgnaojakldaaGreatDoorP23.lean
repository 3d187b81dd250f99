/- P -/
import Derived.Test.YtdakgnaojakldaaGreatDoorP22
open Go.Proofs.Tryz
set_option maxRecDepth 100000
set_option maxHeartbeats 2000000
namespace Go.Proofs.YtdakgnaojakldaaGreatDoor
open Go.RowKit
def YQ:Rd.V->Nat
 | .obj ms=>ms.length
 | _=>0
def stX:Rd.V->Option Rd.V
 | .obj ms=>Rd.zl ms Rd.yX
 | _=>none
def qy:Option Rd.V->List Rd.V
 | some (.list vs)=>vs
 | _=>[]
theorem Lh(v:Rd.V):Rd.ug v=if YQ v≠1\/(qy (stX v)).length<1\/10<(qy (stX v)).length then (5,0) else Rd.ZV ((qy (stX v)).map Rd.x8) 0:=by
 match v with
 | .str s=>rfl
 | .word b=>rfl
 | .list a=>rfl
 | .obj ms=>
  have key:∀X:Option Rd.V,(match X with
    | some (.list a)=>if ms.length≠1\/a.length<1\/10<a.length then ((5:Int),0) else Rd.ZV (a.map Rd.x8) 0
    | _=>(5,0))=if ms.length≠1\/(qy X).length<1\/10<(qy X).length then (5,0) else Rd.ZV ((qy X).map Rd.x8) 0:=by
   intro X
   match X with
   | none=>simp[qy]
   | some (.str s)=>simp[qy]
   | some (.word b)=>simp[qy]
   | some (.obj m)=>simp[qy]
   | some (.list a)=>rfl
  exact key _
theorem Aq{w:World}{v:Rd.V}{u:Value}(h:OAt w (some v) u)(g:Rd.Good 4000 v):∃ao cap b f,(∀W,(Instr.typeAssert u 114 118 true).run prog W = .ok (.tuple #[.slice ao (YQ v) cap,.bool b]) W) /\
  (∀W,Below w.heap.size w W->Calls prog 51 #[.slice ao (YQ v) cap,.string Rd.yX] W λe w'=>e = .returned f/\Below W.heap.size W w')/\OAt w (stX v) f:=by
 by_cases ho:∃ms,v = .obj ms
 ·obtain⟨ms,rfl⟩:=ho;obtain⟨k,ao,cap,rfl,a⟩:=Vq h;have c:ms.length<=4000:=by cases g with|obj _ h=>exact h
  refine⟨ao,cap,true,xz k Rd.yX,λW=>?_,λW hb=>?_,a.get Rd.yX⟩
  ·show _=Result.ok (Value.tuple #[.slice ao ms.length cap,.bool true]) W;rw[<- a.len];exact iZ _ W
  ·have:=gH (w:=W) cap (a.below hb) c Rd.yX
   rw[a.len] at this;exact this
 ·have d:∀ms,some v≠some (.obj ms):=λms e=>ho ⟨ms,by simpa using e⟩
  have i:YQ v=0:=by
   cases v with
   | obj ms=>exact absurd ⟨ms,rfl⟩ ho
   | _=>rfl
  have j:stX v=none:=by
   cases v with
   | obj ms=>exact absurd ⟨ms,rfl⟩ ho
   | _=>rfl
  rw[i,j];exact⟨none,0,false,.nilIface,λW=>iY h d W,λW _=>fw [] none 0 Rd.yX W (by simp) (.inl rfl) (by simp),rfl⟩
theorem tY{w:World}{x:Option Rd.V}{u:Value}(h:OAt w x u):∃lo cap b,(∀W,(Instr.typeAssert u 114 121 true).run prog W = .ok (.tuple #[.slice lo (qy x).length cap,.bool b]) W) /\
  ∃f:List Value,f.length=(qy x).length/\jY w lo f/\∀(j:Nat) (v:Rd.V) (u:Value),(qy x)[j]?=some v->f[j]?=some u->OAt w (some v) u:=by
 by_cases ho:∃a,x=some (.list a)
 ·obtain⟨a,rfl⟩:=ho;have d:ValAt w (λb=>b<w.heap.size) (.list a) u:=h
  cases d with
  | list _ f ao cap i g k=>
   refine⟨ao,cap,true,λW=>?_,f,i,?_,λj v u d n=>k j v u d n⟩
   ·show _=Result.ok (Value.tuple #[.slice ao a.length cap,.bool true]) W;rw[<- i];exact iW _ W
   ·rcases g with g|⟨b,ha,_,hc⟩
    ·exact .inl g
    ·exact .inr ⟨b,0,ha,λj l=>by rw[qN];exact hc j _ (zm l)⟩
 ·have c:∀a,x≠some (.list a):=λa e=>ho ⟨a,e⟩
  have m:qy x=[]:=by
   match x with
   | none=>rfl
   | some (.str s)=>rfl
   | some (.word b)=>rfl
   | some (.obj ms)=>rfl
   | some (.list a)=>exact absurd rfl (c a)
  rw[m];exact⟨none,0,false,λW=>iX h c W,[],rfl,.inl rfl,λj v u d _=>by simp at d⟩
theorem Lc(s:BY)(w:World)(EL:Value)(v:Rd.V)(q:Nat)(M:XV w EL)(N:s.size<=4000)(F:Rd.yS s.data.toList = .ok v q)(k:YQ v≠1\/(qy (stX v)).length<1\/10<(qy (stX v)).length) :
  Calls prog 32 #[.string s] w (Y2 w EL (5,0) []):=by
 have i:=nbl w Qs;have o:=iw s (w.alloc Qs) (M.below i).seq N;rw[F] at o;unfold Xj at o;simp only at o;have x:=Rd.aG F;rw[Ref.zD] at x
 have L:Rd.Good 4000 v:=by
  clear o F k
  induction x with
  | str t h=>exact .str t (by omega)
  | word b=>exact .word b
  | list R h _ I=>exact .list R (by omega) I
  | obj ms h G Q _ I=>exact .obj ms (by omega) G (λm B=>by have:=Q m B;omega) I
 obtain⟨n,H⟩:=Nm (YQ v);obtain⟨m,B⟩:=Nm ((qy (stX v)).length);have c:=λW u (h:OAt W (some v) u)=>Aq h L;have d:=λW r (h:OAt W (stX v) r)=>tY h;rw[H,B] at k;simp only[H] at c;simp only[B] at d;unfold Qs at i o;unfold Rd.yX at c;clear M N F H B x L
 by_cases h1:n=1
 ·subst h1
  by_cases G:m=0
  ·subst G;go_enter func32,ntmps32
   go_wp2_with (first
    | (go_at_call 51;refine (z w1 (ze _ _)).mono ?_;rintro e P ⟨rfl,j⟩;have a:=f.trans (j.mono f.size);obtain⟨C,K⟩:=one_cell a)
    | (go_at_call 50;refine o.mono ?_;rintro e w1 ⟨u,rfl,g,f⟩;have A:OAt w1 (some v) u:=ValAt.move g (λ_ hb=>hb.2) (λ_ _=>rfl);obtain⟨ao,cap,J,r,E,z,l⟩:=c w1 u A;obtain⟨lo,p,O,D,_⟩:=d w1 r l;obtain⟨T,y,rfl⟩:=ValAt.iface g))
   exact zA (v := .tuple #[.agg #[.slice none 0 0],.iface 125 (.agg #[.string ⟨#[100,111,99,117,109,101,110,116]⟩])]) (by simp[results,results32,go_sem,C]) rfl ⟨_,_,_,_,rfl,.doc _,(i.trans (a.mono (by simp))).setCell (zf _) _,λh=>by simp at h⟩
  ·have U:((m:Int)==0)=false:=by simp;omega
   have X:decide ((10:Int)<(m:Int))=true:=by simp;omega
   go_enter func32,ntmps32
   go_wp2_with (first
    | (go_at_call 51;refine (z w1 (ze _ _)).mono ?_;rintro e P ⟨rfl,j⟩;have a:=f.trans (j.mono f.size);obtain⟨C,K⟩:=one_cell a)
    | (go_at_call 50;refine o.mono ?_;rintro e w1 ⟨u,rfl,g,f⟩;have A:OAt w1 (some v) u:=ValAt.move g (λ_ hb=>hb.2) (λ_ _=>rfl);obtain⟨ao,cap,J,r,E,z,l⟩:=c w1 u A;obtain⟨lo,p,O,D,_⟩:=d w1 r l;obtain⟨T,y,rfl⟩:=ValAt.iface g))
   exact zA (v := .tuple #[.agg #[.slice none 0 0],.iface 125 (.agg #[.string ⟨#[100,111,99,117,109,101,110,116]⟩])]) (by simp[results,results32,go_sem,C]) rfl ⟨_,_,_,_,rfl,.doc _,(i.trans (a.mono (by simp))).setCell (zf _) _,λh=>by simp at h⟩
 ·have S:((n:Int) != 1)=true:=by simp;omega
  clear k;go_enter func32,ntmps32
  go_wp2_with (first
   | (go_at_call 51;refine (z w1 (ze _ _)).mono ?_;rintro e P ⟨rfl,j⟩;have a:=f.trans (j.mono f.size);obtain⟨C,K⟩:=one_cell a)
   | (go_at_call 50;refine o.mono ?_;rintro e w1 ⟨u,rfl,g,f⟩;have A:OAt w1 (some v) u:=ValAt.move g (λ_ hb=>hb.2) (λ_ _=>rfl);obtain⟨ao,cap,J,r,E,z,l⟩:=c w1 u A;obtain⟨lo,p,O,D,_⟩:=d w1 r l;obtain⟨T,y,rfl⟩:=ValAt.iface g))
  exact zA (v := .tuple #[.agg #[.slice none 0 0],.iface 125 (.agg #[.string ⟨#[100,111,99,117,109,101,110,116]⟩])]) (by simp[results,results32,go_sem,C]) rfl ⟨_,_,_,_,rfl,.doc _,(i.trans (a.mono (by simp))).setCell (zf _) _,λh=>by simp at h⟩
theorem NL{L:Nat}(g:L<=4000){v:Rd.V}(h:Rd.Good L v):Rd.Good 4000 v:=by
 induction h with
 | str t h=>exact .str t (by omega)
 | word b=>exact .word b
 | list f h _ a=>exact .list f (by omega) a
 | obj ms h c d _ a=>exact .obj ms (by omega) c (λm e=>by have:=d m e;omega) a
theorem vG.below{w w':World}{base:Nat}{lv:Value}{a:List zS}(h:vG w base lv a)(hb:Below w.heap.size w w'):vG w' base lv a:=by
 obtain⟨xs,b,c⟩:=h;exact⟨xs,ownsRow_below b hb,λj d=>(c j d).below hb⟩
theorem vG.mono{w:World}{base a:Nat}{lv:Value}{b:List zS}(h:vG w base lv b)(hb:a<=base):vG w a lv b:=by
 obtain⟨xs,c,d⟩:=h;exact⟨xs,xC c hb,λj e=>(d j e).mono hb⟩
theorem vG.set{w:World}{base:Nat}{lv:Value}{c:List zS}(h:vG w base lv c){b:Nat}(hb:b<base)(o:Nat)(u:Value):vG (w.setCell ⟨b,o,none⟩ u) base lv c:=by
 obtain⟨xs,a,d⟩:=h;exact⟨xs,AR a (by intro e;have:=(a.lt b e).1;omega) o u,λj f=>(d j f).set hb o u⟩
theorem Ai{w W:World}{T:TypeId}{x:Value}{a o:Nat}(hb:Below (w.alloc (.cells #[.slice none 0 0] 72)).heap.size (w.alloc (.cells #[.slice none 0 0] 72)) W)(h:W.cell? ⟨a,o,none⟩=some (.iface T x))(y:Value) :
  (W.setCell ⟨w.heap.size,0,none⟩ y).cell? ⟨a,o,none⟩=some (.iface T x):=by
 have c:a≠w.heap.size:=by
  intro e;subst e;have b:=(zg (jw hb) o).1;rw[h] at b
  cases o with
  | zero=>simp at b
  | succ o=>simp at b
 rw[qO _ _ _ _ (by simp only[ne_eq,Addr.mk.injEq];omega)];exact h
theorem Na(cs:List Nat)(a:List Value)(ao:Option Addr)(cap:Nat)(w:World)(g:a.length<=100000)(f:jY w ao a)(hF:FVs cs a) :
  Calls prog 54 #[.slice ao a.length cap,.func (.func 55) #[] #[]] w λe w'=>
   e = .returned (.tuple #[.int .i64 (((zx (λj=>cs.getD j 0 != 0) cs.length).getD 0:Nat):Int),.bool (zx (λj=>cs.getD j 0 != 0) cs.length).isSome])/\Below w.heap.size w w':=by
 have d:∀args w,(callFunc 55 args).run prog w = .ok (.enter 55 args) w:=enters_of func55 (by kernel_rfl) rfl
 have c:=eZ a ao cap _ (λj=>cs.getD j 0 != 0) w (by omega) d f hF.form (λW j b hb=>by
  have:=sJ _ _ W (hF.at j b)
  rw[show a[j]=a.getD j .nilIface by rw[zQ,zm b];rfl] at this;exact this)
 rw[hF.1] at c |-;exact c
theorem Dy{L:Nat}{v:Rd.V}(h:Rd.Good L v):∀x ∈ qy (stX v),Rd.Good L x:=by
 intro x a
 match v with
 | .str s=>simp[stX,qy] at a
 | .word b=>simp[stX,qy] at a
 | .list d=>simp[stX,qy] at a
 | .obj ms=>
  cases hg:Rd.zl ms Rd.yX with
  | none=>simp only[stX,hg,qy,bS] at a
  | some y=>
   have c:=Rd.yP h Rd.yX y hg
   cases y with
   | list d=>
    simp only[stX,hg,qy] at a
    cases c with|list _ _ h=>exact h x a
   | str s=>simp only[stX,hg,qy,bS] at a
   | word b=>simp only[stX,hg,qy,bS] at a
   | obj m=>simp only[stX,hg,qy,bS] at a
theorem Le(s:BY)(w:World)(EL:Value)(v:Rd.V)(q:Nat)(hQ:XV w EL)(hs:s.size<=4000)(hr:Rd.yS s.data.toList = .ok v q)(h1:YQ v=1)(h2:1<=(qy (stX v)).length)(h3:(qy (stX v)).length<=10) :
  Calls prog 32 #[.string s] w (Y2 w EL (Rd.QN ((qy (stX v)).map Rd.yJ) 0) ((qy (stX v)).map jS)):=by
 have t:=nbl w Qs;have cc:=iw s (w.alloc Qs) (hQ.below t).seq hs;rw[hr] at cc;unfold Xj at cc;simp only at cc;have b2:=Rd.aG hr;rw[Ref.zD] at b2;have hG:=NL hs b2;have b0:=Dy hG;have f:=λW u (h:OAt W (some v) u)=>Aq h hG;have E:=λW gv (h:OAt W (stX v) gv)=>tY h;simp only[h1] at f;obtain⟨S,b3⟩:=Nm (qy (stX v));rw[b3] at h2 h3 b0 |-;simp only[b3] at E;have cE:=λ(R:List Value) ao cap W (hb:Below w.heap.size w W)=>LK S R ao cap W (hQ.below hb).p
 have Y:∀c ∈ S.map Rd.yJ,c<=2:=by
  intro c hc;rw[yf] at hc;obtain⟨x,_,rfl⟩:=hc;exact Rd.zbP x
 have hlen:(S.map Rd.yJ).length=S.length:=by simp
 obtain⟨cs,b1⟩:=Nm (S.map Rd.yJ);have U:=cE;simp only[b1] at U;rw[b1] at Y hlen |-;obtain⟨ss,a0⟩:=Nm (S.map jS);have f6:ss.length=S.length:=by rw[<- a0];simp
 simp only[a0] at U;rw[a0];obtain⟨m,hm⟩:=Nm S.length;rw[hm] at h2 h3 hlen;have J:=λ(ys:List Value) fa fc W hn d6 hF=>Na cs ys fa fc W hn d6 hF;have a5:=hid E;have a4:=hid b0;have HE:=hid U;have i:=hid hm;unfold Qs at t cc;unfold Rd.yX at f;have d2:((m:Int)==0)=false:=by simp;omega
 have d3:decide ((10:Int)<(m:Int))=false:=by simp;omega
 clear hQ hs hr b2 hG h1 b3 b1 a0 hm cE U E b0
 cases H:zx (λj=>cs.getD j 0 != 0) cs.length with
 | none=>
  have hz:Rd.QN cs 0=(0,0):=Rd.rG cs 0 (λc hc=>by
   obtain⟨j,hj,rfl⟩:=aa hc
   simpa using Uo H j hj)
  rw[hz];simp only[H,QF,kS] at J;clear hz H Y;go_enter func32,ntmps32
  go_wp2_with (first
   | (go_at_call 54;refine r.mono ?_;rintro e w4 ⟨rfl,A⟩;have g:=n.trans (A.mono n.size);obtain⟨r0,f0⟩:=one_cell g)
   | (go_at_call 52;refine o.mono ?_;rintro e w3 ⟨oa,fa,oc,fc,ys,rfl,l,F,G,K,N⟩;have n:=a.trans (K.mono a.size);have r:=J ys fa fc w3 (by omega) F G;rw[l] at r)
   | (go_at_call 51;refine (cG w1 (ze _ _)).mono ?_;rintro e w2 ⟨rfl,b⟩;have a:=z.trans (b.mono z.size);have I:Below w.heap.size w w2:=t.trans (a.mono (by simp));have o:=HE.out R lo D w2 I d (by omega) (KJ O b) (λj x y H hy=>(P j x y H hy).below b) a4.out;rw[d,i.out] at o)
   | (go_at_call 50;refine cc.mono ?_;rintro e w1 ⟨u,rfl,C,z⟩;have hO:OAt w1 (some v) u:=ValAt.move C (λ_ hb=>hb.2) (λ_ _=>rfl);obtain⟨ao,cap,bb,gv,c6,cG,M⟩:=f w1 u hO;obtain⟨lo,D,lb,Q,R,d,O,P⟩:=a5.out w1 gv M;have a3:R.length=m:=d.trans i.out;rw[i.out] at Q;obtain⟨T,y,rfl⟩:=ValAt.iface C))
  have d9:w.heap.size<w2.heap.size:=by have h:=a.size;simp at h;omega
  exact zA (v := .tuple #[.agg #[.slice oa m oc],.nilIface]) (by simp[results,results32,go_sem,r0]) rfl ⟨_,_,_,_,rfl,.ok,(t.trans (g.mono (by simp))).setCell (zf _) _,λ_=>((N.below A).set d9 _ _).mono (by omega)⟩
 | some k=>
  obtain⟨Z,b9,c0⟩:=KL H;have X:cs.getD k 0=cs[k]:=by rw[zQ,zm Z];rfl
  have b8:cs[k]≠0:=by rw[<- X];simpa using b9
  have c1:=Y cs[k] (qA Z)
  have hz:Rd.QN cs 0=(if cs[k]=1 then 5 else 6,0+k+1):=Rd.rH cs 0 k Z (λj hj=>by
   have:=c0 j hj
   rw[zQ,zm (show j<cs.length by omega)] at this
   simpa using this) b8 c1
  rw[hz,qN];simp only[H,yB,uw] at J;have f4:k<m:=by omega
  have f3:(k:Int)<(m:Int):=by omega
  have L:cs[k]=1\/cs[k]=2:=by omega
  obtain⟨ck,a2⟩:∃c,cs[k]=c:=⟨_,rfl⟩;rw[a2] at L X |-;have b5:=hid X;clear hz H Y b9 c0 X b8 c1 a2 Z
  rcases L with rfl|rfl
  ·simp only[qJ];go_enter func32,ntmps32
   go_upto_region 11 with (first
   | (go_at_call 54;refine r.mono ?_;rintro e w4 ⟨rfl,A⟩;have g:=n.trans (A.mono n.size);obtain⟨r0,f0⟩:=one_cell g;have B:=(G.at k (by omega));rw[b5.out] at B;rcases B with ⟨h,_⟩|⟨_,pp,hyk⟩|⟨h,_⟩;(exfalso;simp at h);rotate_left;(exfalso;simp at h);rcases F with hnil|⟨fb,fo,rfl,hfc⟩;(exfalso;rw[hnil] at l;simp at l;omega);have qk:=zh A (hfc k (by omega));rw[hyk] at qk;have e2:=Ai g qk)
   | (go_at_call 52;refine o.mono ?_;rintro e w3 ⟨oa,fa,oc,fc,ys,rfl,l,F,G,K,N⟩;have n:=a.trans (K.mono a.size);have r:=J ys fa fc w3 (by omega) F G;rw[l] at r)
   | (go_at_call 51;refine (cG w1 (ze _ _)).mono ?_;rintro e w2 ⟨rfl,b⟩;have a:=z.trans (b.mono z.size);have I:Below w.heap.size w w2:=t.trans (a.mono (by simp));have o:=HE.out R lo D w2 I d (by omega) (KJ O b) (λj x y H hy=>(P j x y H hy).below b) a4.out;rw[d,i.out] at o)
   | (go_at_call 50;refine cc.mono ?_;rintro e w1 ⟨u,rfl,C,z⟩;have hO:OAt w1 (some v) u:=ValAt.move C (λ_ hb=>hb.2) (λ_ _=>rfl);obtain⟨ao,cap,bb,gv,c6,cG,M⟩:=f w1 u hO;obtain⟨lo,D,lb,Q,R,d,O,P⟩:=a5.out w1 gv M;have a3:R.length=m:=d.trans i.out;rw[i.out] at Q;obtain⟨T,y,rfl⟩:=ValAt.iface C))
   go_region
   all_goals
    go_wp2_with fail;exact zA (v := .tuple #[.agg #[.slice none 0 0],.iface 138 (.agg #[.int .i64 (((k+1:Nat)):Int),.iface 125 (.agg #[.string pp])])]) (by simp[results,results32,go_sem,r0]) rfl ⟨_,_,_,_,rfl,.shape (k+1) pp,((t.trans (g.mono (by simp))).setCell (zf _) _).drew,λh=>by simp at h⟩
  ·simp only[show ¬(2:Nat)=1 by decide,xV];go_enter func32,ntmps32
   go_upto_region 11 with (first
   | (go_at_call 54;refine r.mono ?_;rintro e w4 ⟨rfl,A⟩;have g:=n.trans (A.mono n.size);obtain⟨r0,f0⟩:=one_cell g;have B:=(G.at k (by omega));rw[b5.out] at B;rcases B with ⟨h,_⟩|⟨h,_⟩|⟨_,pp,hyk⟩;(exfalso;simp at h);(exfalso;simp at h);rcases F with hnil|⟨fb,fo,rfl,hfc⟩;(exfalso;rw[hnil] at l;simp at l;omega);have qk:=zh A (hfc k (by omega));rw[hyk] at qk;have e2:=Ai g qk)
   | (go_at_call 52;refine o.mono ?_;rintro e w3 ⟨oa,fa,oc,fc,ys,rfl,l,F,G,K,N⟩;have n:=a.trans (K.mono a.size);have r:=J ys fa fc w3 (by omega) F G;rw[l] at r)
   | (go_at_call 51;refine (cG w1 (ze _ _)).mono ?_;rintro e w2 ⟨rfl,b⟩;have a:=z.trans (b.mono z.size);have I:Below w.heap.size w w2:=t.trans (a.mono (by simp));have o:=HE.out R lo D w2 I d (by omega) (KJ O b) (λj x y H hy=>(P j x y H hy).below b) a4.out;rw[d,i.out] at o)
   | (go_at_call 50;refine cc.mono ?_;rintro e w1 ⟨u,rfl,C,z⟩;have hO:OAt w1 (some v) u:=ValAt.move C (λ_ hb=>hb.2) (λ_ _=>rfl);obtain⟨ao,cap,bb,gv,c6,cG,M⟩:=f w1 u hO;obtain⟨lo,D,lb,Q,R,d,O,P⟩:=a5.out w1 gv M;have a3:R.length=m:=d.trans i.out;rw[i.out] at Q;obtain⟨T,y,rfl⟩:=ValAt.iface C))
   go_region
   all_goals
    go_wp2_with fail;exact zA (v := .tuple #[.agg #[.slice none 0 0],.iface 138 (.agg #[.int .i64 (((k+1:Nat)):Int),.iface 228 (.agg #[.int .i64 pp])])]) (by simp[results,results32,go_sem,r0]) rfl ⟨_,_,_,_,rfl,.pat (k+1) pp,((t.trans (g.mono (by simp))).setCell (zf _) _).drew,λh=>by simp at h⟩
def Zj(s:BY):List zS:=if 4000<s.size then [] else match Rd.yS s.data.toList with
 | .ok v _=>(qy (stX v)).map jS
 | .err _ _=>[]
theorem Lg(s:BY)(w:World)(EL:Value)(T:TypeId)(y:Value)(b:EL = .iface T y)(a:XV w EL) :
  Calls prog 32 #[.string s] w (Y2 w EL (Rd.xy s) (Zj s)):=by
 have f:Rd.xy s=if 4000<s.size then (1,0) else match Rd.yS s.data.toList with
  | .err e q=>(e,q)
  | .ok v _=>Rd.ug v:=rfl
 have g:Zj s=if 4000<s.size then [] else match Rd.yS s.data.toList with
  | .ok v _=>(qy (stX v)).map jS
  | .err _ _=>[]:=rfl
 by_cases h:4000<s.size
 ·rw[f,g,zb h,zb h];exact Lf s w EL T y b a h
 ·rw[f,g,za h,za h]
  cases hr:Rd.yS s.data.toList with
  | err c q=>exact Ld s w EL c q a (by omega) hr
  | ok v q=>
   simp only;rw[Lh];have d:=Rd.aG hr
   by_cases hb:YQ v≠1\/(qy (stX v)).length<1\/10<(qy (stX v)).length
   ·rw[zb hb];refine (Lc s w EL v q a (by omega) hr hb).mono ?_;rintro e w' ⟨l,n,m,u,i,j,k,_⟩;exact⟨l,n,m,u,i,j,k,λh=>by simp at h⟩
   ·rw[za hb,Rd.rF (L:=s.data.toList.length) _ 0 (Dy d)];exact Le s w EL v q a (by omega) hr (by omega) (by omega) (by omega)
end Go.Proofs.YtdakgnaojakldaaGreatDoor
