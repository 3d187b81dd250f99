/- P -/
import Derived.Test.YtagnlbgbnfnapaaGreatDoorK21
open Go.Proofs.Tryz
set_option maxRecDepth 100000
set_option maxHeartbeats 2000000
namespace Go.Proofs.YtagnlbgbnfnapaaGreatDoor
open Go.RowKit
def Xx:Rd.V->Nat
 | .obj ms=>ms.length
 | _=>0
def stX:Rd.V->Option Rd.V
 | .obj ms=>Rd.zm ms Rd.yF
 | _=>none
def qo:Option Rd.V->List Rd.V
 | some (.list vs)=>vs
 | _=>[]
theorem Dv(v:Rd.V):Rd.jX v=if Xx v≠1\/(qo (stX v)).length<1\/10<(qo (stX v)).length then (5,0) else Rd.kL ((qo (stX v)).map Rd.xP) 0:=by
 match v with
 | .str s=>rfl
 | .word b=>rfl
 | .list a=>rfl
 | .obj ms=>
  have key:∀X:Option Rd.V,(match X with
    | some (.list a)=>if ms.length≠1\/a.length<1\/10<a.length then ((5:Int),0) else Rd.kL (a.map Rd.xP) 0
    | _=>(5,0))=if ms.length≠1\/(qo X).length<1\/10<(qo X).length then (5,0) else Rd.kL ((qo X).map Rd.xP) 0:=by
   intro X
   match X with
   | none=>simp[qo]
   | some (.str s)=>simp[qo]
   | some (.word b)=>simp[qo]
   | some (.obj m)=>simp[qo]
   | some (.list a)=>rfl
  exact key _
theorem oz{w:World}{v:Rd.V}{u:Value}(h:OAt w (some v) u)(i:Rd.Good 4000 v):∃a cap b g,(∀W,(Instr.typeAssert u 118 122 true).run prog W = .ok (.tuple #[.slice a (Xx v) cap,.bool b]) W) /\
  (∀W,Below w.heap.size w W->Calls prog 53 #[.slice a (Xx v) cap,.string Rd.yF] W λe w'=>e = .returned g/\Below W.heap.size W w')/\OAt w (stX v) g:=by
 by_cases ho:∃ms,v = .obj ms
 ·obtain⟨ms,rfl⟩:=ho;obtain⟨l,a,cap,rfl,c⟩:=Y0 h;have d:ms.length<=4000:=by cases i with|obj _ h=>exact h
  refine⟨a,cap,true,xh l Rd.yF,λW=>?_,λW hb=>?_,c.get Rd.yF⟩
  ·show _=Result.ok (Value.tuple #[.slice a ms.length cap,.bool true]) W;rw[<- c.len];exact dR _ W
  ·have:=bL (w:=W) cap (c.below hb) d Rd.yF
   rw[c.len] at this;exact this
 ·have f:∀ms,some v≠some (.obj ms):=λms e=>ho ⟨ms,by simpa using e⟩
  have j:Xx v=0:=by
   cases v with
   | obj ms=>exact absurd ⟨ms,rfl⟩ ho
   | _=>rfl
  have k:stX v=none:=by
   cases v with
   | obj ms=>exact absurd ⟨ms,rfl⟩ ho
   | _=>rfl
  rw[j,k];exact⟨none,0,false,.nilIface,λW=>dQ h f W,λW _=>aG [] none 0 Rd.yF W (by simp) (.inl rfl) (by simp),rfl⟩
theorem nH{w:World}{x:Option Rd.V}{u:Value}(h:OAt w x u):∃lo cap b,(∀W,(Instr.typeAssert u 118 125 true).run prog W = .ok (.tuple #[.slice lo (qo x).length cap,.bool b]) W) /\
  ∃f:List Value,f.length=(qo x).length/\jA w lo f/\∀(j:Nat) (v:Rd.V) (u:Value),(qo x)[j]?=some v->f[j]?=some u->OAt w (some v) u:=by
 by_cases ho:∃a,x=some (.list a)
 ·obtain⟨a,rfl⟩:=ho;have d:ValAt w (λb=>b<w.heap.size) (.list a) u:=h
  cases d with
  | list _ f i cap k g l=>
   refine⟨i,cap,true,λW=>?_,f,k,?_,λj v u d o=>l j v u d o⟩
   ·show _=Result.ok (Value.tuple #[.slice i a.length cap,.bool true]) W;rw[<- k];exact dO _ W
   ·rcases g with g|⟨b,ha,_,hc⟩
    ·exact .inl g
    ·exact .inr ⟨b,0,ha,λj m=>by rw[yO];exact hc j _ (zn m)⟩
 ·have c:∀a,x≠some (.list a):=λa e=>ho ⟨a,e⟩
  have n:qo x=[]:=by
   match x with
   | none=>rfl
   | some (.str s)=>rfl
   | some (.word b)=>rfl
   | some (.obj ms)=>rfl
   | some (.list a)=>exact absurd rfl (c a)
  rw[n];exact⟨none,0,false,λW=>dP h c W,[],rfl,.inl rfl,λj v u d _=>by simp at d⟩
theorem Dp(s:BY)(w:World)(EL:Value)(v:Rd.V)(q:Nat)(N:QF w EL)(O:s.size<=4000)(F:Rd.yC s.data.toList = .ok v q)(k:Xx v≠1\/(qo (stX v)).length<1\/10<(qo (stX v)).length) :
  Calls prog 25 #[.string s] w (XJ w EL (5,0) []):=by
 have i:=nbl w Zw;have o:=di s (w.alloc Zw) (N.below i).seq O;rw[F] at o;unfold Qi at o;simp only at o;have x:=Rd.UI F;rw[Ref.zA] at x
 have M:Rd.Good 4000 v:=by
  clear o F k
  induction x with
  | str t h=>exact .str t (by omega)
  | word b=>exact .word b
  | list S h _ I=>exact .list S (by omega) I
  | obj ms h G R _ I=>exact .obj ms (by omega) G (λm B=>by have:=R m B;omega) I
 obtain⟨n,H⟩:=Nm (Xx v);obtain⟨m,B⟩:=Nm ((qo (stX v)).length);have c:=λW u (h:OAt W (some v) u)=>oz h M;have d:=λW r (h:OAt W (stX v) r)=>nH h;rw[H,B] at k;simp only[H] at c;simp only[B] at d;unfold Zw at i o;unfold Rd.yF at c;clear N O F H B x M
 by_cases h1:n=1
 ·subst h1
  by_cases G:m=0
  ·subst G;go_enter func25,ntmps25
   go_wp2_with (first
    | (go_at_call 53;refine (z w1 (zf _ _)).mono ?_;rintro e Q ⟨rfl,j⟩;have a:=f.trans (j.mono f.size);obtain⟨C,L⟩:=one_cell a)
    | (go_at_call 52;refine o.mono ?_;rintro e w1 ⟨u,rfl,g,f⟩;have A:OAt w1 (some v) u:=ValAt.move g (λ_ hb=>hb.2) (λ_ _=>rfl);obtain⟨J,cap,K,r,E,z,l⟩:=c w1 u A;obtain⟨lo,p,P,D,_⟩:=d w1 r l;obtain⟨T,y,rfl⟩:=ValAt.iface g))
   exact zN (v := .tuple #[.agg #[.slice none 0 0],.iface 129 (.agg #[.string ⟨#[100,111,99,117,109,101,110,116]⟩])]) (by simp[results,results25,go_sem,C]) rfl ⟨_,_,_,_,rfl,.doc _,(i.trans (a.mono (by simp))).setCell (ze _) _,λh=>by simp at h⟩
  ·have X:((m:Int)==0)=false:=by simp;omega
   have Y:decide ((10:Int)<(m:Int))=true:=by simp;omega
   go_enter func25,ntmps25
   go_wp2_with (first
    | (go_at_call 53;refine (z w1 (zf _ _)).mono ?_;rintro e Q ⟨rfl,j⟩;have a:=f.trans (j.mono f.size);obtain⟨C,L⟩:=one_cell a)
    | (go_at_call 52;refine o.mono ?_;rintro e w1 ⟨u,rfl,g,f⟩;have A:OAt w1 (some v) u:=ValAt.move g (λ_ hb=>hb.2) (λ_ _=>rfl);obtain⟨J,cap,K,r,E,z,l⟩:=c w1 u A;obtain⟨lo,p,P,D,_⟩:=d w1 r l;obtain⟨T,y,rfl⟩:=ValAt.iface g))
   exact zN (v := .tuple #[.agg #[.slice none 0 0],.iface 129 (.agg #[.string ⟨#[100,111,99,117,109,101,110,116]⟩])]) (by simp[results,results25,go_sem,C]) rfl ⟨_,_,_,_,rfl,.doc _,(i.trans (a.mono (by simp))).setCell (ze _) _,λh=>by simp at h⟩
 ·have U:((n:Int) != 1)=true:=by simp;omega
  clear k;go_enter func25,ntmps25
  go_wp2_with (first
   | (go_at_call 53;refine (z w1 (zf _ _)).mono ?_;rintro e Q ⟨rfl,j⟩;have a:=f.trans (j.mono f.size);obtain⟨C,L⟩:=one_cell a)
   | (go_at_call 52;refine o.mono ?_;rintro e w1 ⟨u,rfl,g,f⟩;have A:OAt w1 (some v) u:=ValAt.move g (λ_ hb=>hb.2) (λ_ _=>rfl);obtain⟨J,cap,K,r,E,z,l⟩:=c w1 u A;obtain⟨lo,p,P,D,_⟩:=d w1 r l;obtain⟨T,y,rfl⟩:=ValAt.iface g))
  exact zN (v := .tuple #[.agg #[.slice none 0 0],.iface 129 (.agg #[.string ⟨#[100,111,99,117,109,101,110,116]⟩])]) (by simp[results,results25,go_sem,C]) rfl ⟨_,_,_,_,rfl,.doc _,(i.trans (a.mono (by simp))).setCell (ze _) _,λh=>by simp at h⟩
theorem FE{L:Nat}(g:L<=4000){v:Rd.V}(h:Rd.Good L v):Rd.Good 4000 v:=by
 induction h with
 | str t h=>exact .str t (by omega)
 | word b=>exact .word b
 | list f h _ a=>exact .list f (by omega) a
 | obj ms h c d _ a=>exact .obj ms (by omega) c (λm e=>by have:=d m e;omega) a
theorem jc.below{w w':World}{base:Nat}{lv:Value}{a:List qp}(h:jc w base lv a)(hb:Below w.heap.size w w'):jc w' base lv a:=by
 obtain⟨xs,b,c⟩:=h;exact⟨xs,ownsRow_below b hb,λj d=>(c j d).below hb⟩
theorem jc.mono{w:World}{base a:Nat}{lv:Value}{b:List qp}(h:jc w base lv b)(hb:a<=base):jc w a lv b:=by
 obtain⟨xs,c,d⟩:=h;exact⟨xs,xA c hb,λj e=>(d j e).mono hb⟩
theorem jc.set{w:World}{base:Nat}{lv:Value}{c:List qp}(h:jc w base lv c){b:Nat}(hb:b<base)(o:Nat)(u:Value):jc (w.setCell ⟨b,o,none⟩ u) base lv c:=by
 obtain⟨xs,a,d⟩:=h;exact⟨xs,oP a (by intro e;have:=(a.lt b e).1;omega) o u,λj f=>(d j f).set hb o u⟩
theorem om{w W:World}{T:TypeId}{x:Value}{a o:Nat}(hb:Below (w.alloc (.cells #[.slice none 0 0] 84)).heap.size (w.alloc (.cells #[.slice none 0 0] 84)) W)(h:W.cell? ⟨a,o,none⟩=some (.iface T x))(y:Value) :
  (W.setCell ⟨w.heap.size,0,none⟩ y).cell? ⟨a,o,none⟩=some (.iface T x):=by
 have c:a≠w.heap.size:=by
  intro e;subst e;have b:=(zg (yT hb) o).1;rw[h] at b
  cases o with
  | zero=>simp at b
  | succ o=>simp at b
 rw[qH _ _ _ _ (by simp only[ne_eq,Addr.mk.injEq];omega)];exact h
theorem EY(cs:List Nat)(a:List Value)(b:Option Addr)(cap:Nat)(w:World)(h:a.length<=100000)(g:jA w b a)(hF:FVs cs a) :
  Calls prog 56 #[.slice b a.length cap,.func (.func 57) #[] #[]] w λe w'=>
   e = .returned (.tuple #[.int .i64 (((zX (λj=>cs.getD j 0 != 0) cs.length).getD 0:Nat):Int),.bool (zX (λj=>cs.getD j 0 != 0) cs.length).isSome])/\Below w.heap.size w w':=by
 have f:∀args w,(callFunc 57 args).run prog w = .ok (.enter 57 args) w:=xg func57 (by kernel_rfl) rfl
 have c:=aB a b cap _ (λj=>cs.getD j 0 != 0) w (by omega) f g hF.form (λW j d hb=>by
  have:=mJ _ _ W (hF.at j d)
  rw[show a[j]=a.getD j .nilIface by rw[zY,zn d];rfl] at this;exact this)
 rw[hF.1] at c |-;exact c
theorem tQ{L:Nat}{v:Rd.V}(h:Rd.Good L v):∀x ∈ qo (stX v),Rd.Good L x:=by
 intro x a
 match v with
 | .str s=>simp[stX,qo] at a
 | .word b=>simp[stX,qo] at a
 | .list d=>simp[stX,qo] at a
 | .obj ms=>
  cases hg:Rd.zm ms Rd.yF with
  | none=>simp only[stX,hg,qo,Ko] at a
  | some y=>
   have c:=Rd.yx h Rd.yF y hg
   cases y with
   | list d=>
    simp only[stX,hg,qo] at a
    cases c with|list _ _ h=>exact h x a
   | str s=>simp only[stX,hg,qo,Ko] at a
   | word b=>simp only[stX,hg,qo,Ko] at a
   | obj m=>simp only[stX,hg,qo,Ko] at a
theorem Dr(s:BY)(w:World)(EL:Value)(v:Rd.V)(q:Nat)(hQ:QF w EL)(hs:s.size<=4000)(hr:Rd.yC s.data.toList = .ok v q)(h1:Xx v=1)(h2:1<=(qo (stX v)).length)(h3:(qo (stX v)).length<=10) :
  Calls prog 25 #[.string s] w (XJ w EL (Rd.ZL ((qo (stX v)).map Rd.yu) 0) ((qo (stX v)).map jm)):=by
 have t:=nbl w Zw;have cc:=di s (w.alloc Zw) (hQ.below t).seq hs;rw[hr] at cc;unfold Qi at cc;simp only at cc;have b2:=Rd.UI hr;rw[Ref.zA] at b2;have hG:=FE hs b2;have b0:=tQ hG;have f:=λW u (h:OAt W (some v) u)=>oz h hG;have E:=λW gv (h:OAt W (stX v) gv)=>nH h;simp only[h1] at f;obtain⟨S,b3⟩:=Nm (qo (stX v));rw[b3] at h2 h3 b0 |-;simp only[b3] at E;have cE:=λ(R:List Value) ao cap W (hb:Below w.heap.size w W)=>DU S R ao cap W (hQ.below hb).p
 have Y:∀c ∈ S.map Rd.yu,c<=2:=by
  intro c hc;rw[xR] at hc;obtain⟨x,_,rfl⟩:=hc;exact Rd.Rc x
 have hlen:(S.map Rd.yu).length=S.length:=by simp
 obtain⟨cs,b1⟩:=Nm (S.map Rd.yu);have U:=cE;simp only[b1] at U;rw[b1] at Y hlen |-;obtain⟨ss,a0⟩:=Nm (S.map jm);have f7:ss.length=S.length:=by rw[<- a0];simp
 simp only[a0] at U;rw[a0];obtain⟨m,hm⟩:=Nm S.length;rw[hm] at h2 h3 hlen;have J:=λ(ys:List Value) fa fc W hn d7 hF=>EY cs ys fa fc W hn d7 hF;have a5:=hid E;have a4:=hid b0;have HE:=hid U;have i:=hid hm;unfold Zw at t cc;unfold Rd.yF at f;have d2:((m:Int)==0)=false:=by simp;omega
 have d3:decide ((10:Int)<(m:Int))=false:=by simp;omega
 clear hQ hs hr b2 hG h1 b3 b1 a0 hm cE U E b0
 cases H:zX (λj=>cs.getD j 0 != 0) cs.length with
 | none=>
  have hz:Rd.ZL cs 0=(0,0):=Rd.lQ cs 0 (λc hc=>by
   obtain⟨j,hj,rfl⟩:=Uo hc
   simpa using JP H j hj)
  rw[hz];simp only[H,Option.getD_none,Ku] at J;clear hz H Y;go_enter func25,ntmps25
  go_wp2_with (first
   | (go_at_call 56;refine r.mono ?_;rintro e w4 ⟨rfl,A⟩;have g:=n.trans (A.mono n.size);obtain⟨r0,f0⟩:=one_cell g)
   | (go_at_call 54;refine o.mono ?_;rintro e w3 ⟨oa,fa,oc,fc,ys,rfl,l,F,G,K,N⟩;have n:=a.trans (K.mono a.size);have r:=J ys fa fc w3 (by omega) F G;rw[l] at r)
   | (go_at_call 53;refine (cG w1 (zf _ _)).mono ?_;rintro e w2 ⟨rfl,b⟩;have a:=z.trans (b.mono z.size);have I:Below w.heap.size w w2:=t.trans (a.mono (by simp));have o:=HE.out R lo D w2 I d (by omega) (V9 O b) (λj x y H hy=>(P j x y H hy).below b) a4.out;rw[d,i.out] at o)
   | (go_at_call 52;refine cc.mono ?_;rintro e w1 ⟨u,rfl,C,z⟩;have hO:OAt w1 (some v) u:=ValAt.move C (λ_ hb=>hb.2) (λ_ _=>rfl);obtain⟨ao,cap,bb,gv,c6,cG,M⟩:=f w1 u hO;obtain⟨lo,D,lb,Q,R,d,O,P⟩:=a5.out w1 gv M;have a3:R.length=m:=d.trans i.out;rw[i.out] at Q;obtain⟨T,y,rfl⟩:=ValAt.iface C))
  have e0:w.heap.size<w2.heap.size:=by have h:=a.size;simp at h;omega
  exact zN (v := .tuple #[.agg #[.slice oa m oc],.nilIface]) (by simp[results,results25,go_sem,r0]) rfl ⟨_,_,_,_,rfl,.ok,(t.trans (g.mono (by simp))).setCell (ze _) _,λ_=>((N.below A).set e0 _ _).mono (by omega)⟩
 | some k=>
  obtain⟨Z,b9,c0⟩:=Ub H;have X:cs.getD k 0=cs[k]:=by rw[zY,zn Z];rfl
  have b8:cs[k]≠0:=by rw[<- X];simpa using b9
  have c1:=Y cs[k] (xB Z)
  have hz:Rd.ZL cs 0=(if cs[k]=1 then 5 else 6,0+k+1):=Rd.lS cs 0 k Z (λj hj=>by
   have:=c0 j hj
   rw[zY,zn (show j<cs.length by omega)] at this
   simpa using this) b8 c1
  rw[hz,yO];simp only[H,QD,Jy] at J;have f5:k<m:=by omega
  have f4:(k:Int)<(m:Int):=by omega
  have L:cs[k]=1\/cs[k]=2:=by omega
  obtain⟨ck,a2⟩:∃c,cs[k]=c:=⟨_,rfl⟩;rw[a2] at L X |-;have b5:=hid X;clear hz H Y b9 c0 X b8 c1 a2 Z
  rcases L with rfl|rfl
  ·simp only[xy];go_enter func25,ntmps25
   go_upto_region 11 with (first
   | (go_at_call 56;refine r.mono ?_;rintro e w4 ⟨rfl,A⟩;have g:=n.trans (A.mono n.size);obtain⟨r0,f0⟩:=one_cell g;have B:=(G.at k (by omega));rw[b5.out] at B;rcases B with ⟨h,_⟩|⟨_,pp,hyk⟩|⟨h,_⟩;(exfalso;simp at h);rotate_left;(exfalso;simp at h);rcases F with hnil|⟨fb,fo,rfl,hfc⟩;(exfalso;rw[hnil] at l;simp at l;omega);have qk:=zi A (hfc k (by omega));rw[hyk] at qk;have e3:=om g qk)
   | (go_at_call 54;refine o.mono ?_;rintro e w3 ⟨oa,fa,oc,fc,ys,rfl,l,F,G,K,N⟩;have n:=a.trans (K.mono a.size);have r:=J ys fa fc w3 (by omega) F G;rw[l] at r)
   | (go_at_call 53;refine (cG w1 (zf _ _)).mono ?_;rintro e w2 ⟨rfl,b⟩;have a:=z.trans (b.mono z.size);have I:Below w.heap.size w w2:=t.trans (a.mono (by simp));have o:=HE.out R lo D w2 I d (by omega) (V9 O b) (λj x y H hy=>(P j x y H hy).below b) a4.out;rw[d,i.out] at o)
   | (go_at_call 52;refine cc.mono ?_;rintro e w1 ⟨u,rfl,C,z⟩;have hO:OAt w1 (some v) u:=ValAt.move C (λ_ hb=>hb.2) (λ_ _=>rfl);obtain⟨ao,cap,bb,gv,c6,cG,M⟩:=f w1 u hO;obtain⟨lo,D,lb,Q,R,d,O,P⟩:=a5.out w1 gv M;have a3:R.length=m:=d.trans i.out;rw[i.out] at Q;obtain⟨T,y,rfl⟩:=ValAt.iface C))
   go_region
   all_goals
    go_wp2_with fail;exact zN (v := .tuple #[.agg #[.slice none 0 0],.iface 143 (.agg #[.int .i64 (((k+1:Nat)):Int),.iface 129 (.agg #[.string pp])])]) (by simp[results,results25,go_sem,r0]) rfl ⟨_,_,_,_,rfl,.shape (k+1) pp,((t.trans (g.mono (by simp))).setCell (ze _) _).drew,λh=>by simp at h⟩
  ·simp only[show ¬(2:Nat)=1 by decide,jN];go_enter func25,ntmps25
   go_upto_region 11 with (first
   | (go_at_call 56;refine r.mono ?_;rintro e w4 ⟨rfl,A⟩;have g:=n.trans (A.mono n.size);obtain⟨r0,f0⟩:=one_cell g;have B:=(G.at k (by omega));rw[b5.out] at B;rcases B with ⟨h,_⟩|⟨h,_⟩|⟨_,pp,hyk⟩;(exfalso;simp at h);(exfalso;simp at h);rcases F with hnil|⟨fb,fo,rfl,hfc⟩;(exfalso;rw[hnil] at l;simp at l;omega);have qk:=zi A (hfc k (by omega));rw[hyk] at qk;have e3:=om g qk)
   | (go_at_call 54;refine o.mono ?_;rintro e w3 ⟨oa,fa,oc,fc,ys,rfl,l,F,G,K,N⟩;have n:=a.trans (K.mono a.size);have r:=J ys fa fc w3 (by omega) F G;rw[l] at r)
   | (go_at_call 53;refine (cG w1 (zf _ _)).mono ?_;rintro e w2 ⟨rfl,b⟩;have a:=z.trans (b.mono z.size);have I:Below w.heap.size w w2:=t.trans (a.mono (by simp));have o:=HE.out R lo D w2 I d (by omega) (V9 O b) (λj x y H hy=>(P j x y H hy).below b) a4.out;rw[d,i.out] at o)
   | (go_at_call 52;refine cc.mono ?_;rintro e w1 ⟨u,rfl,C,z⟩;have hO:OAt w1 (some v) u:=ValAt.move C (λ_ hb=>hb.2) (λ_ _=>rfl);obtain⟨ao,cap,bb,gv,c6,cG,M⟩:=f w1 u hO;obtain⟨lo,D,lb,Q,R,d,O,P⟩:=a5.out w1 gv M;have a3:R.length=m:=d.trans i.out;rw[i.out] at Q;obtain⟨T,y,rfl⟩:=ValAt.iface C))
   go_region
   all_goals
    go_wp2_with fail;exact zN (v := .tuple #[.agg #[.slice none 0 0],.iface 143 (.agg #[.int .i64 (((k+1:Nat)):Int),.iface 216 (.agg #[.int .i64 pp])])]) (by simp[results,results25,go_sem,r0]) rfl ⟨_,_,_,_,rfl,.pat (k+1) pp,((t.trans (g.mono (by simp))).setCell (ze _) _).drew,λh=>by simp at h⟩
def uz(s:BY):List qp:=if 4000<s.size then [] else match Rd.yC s.data.toList with
 | .ok v _=>(qo (stX v)).map jm
 | .err _ _=>[]
theorem Du(s:BY)(w:World)(EL:Value)(T:TypeId)(y:Value)(b:EL = .iface T y)(a:QF w EL) :
  Calls prog 25 #[.string s] w (XJ w EL (Rd.xe s) (uz s)):=by
 have f:Rd.xe s=if 4000<s.size then (1,0) else match Rd.yC s.data.toList with
  | .err e q=>(e,q)
  | .ok v _=>Rd.jX v:=rfl
 have g:uz s=if 4000<s.size then [] else match Rd.yC s.data.toList with
  | .ok v _=>(qo (stX v)).map jm
  | .err _ _=>[]:=rfl
 by_cases h:4000<s.size
 ·rw[f,g,zb h,zb h];exact Dt s w EL T y b a h
 ·rw[f,g,za h,za h]
  cases hr:Rd.yC s.data.toList with
  | err c q=>exact Dq s w EL c q a (by omega) hr
  | ok v q=>
   simp only;rw[Dv];have d:=Rd.UI hr
   by_cases hb:Xx v≠1\/(qo (stX v)).length<1\/10<(qo (stX v)).length
   ·rw[zb hb];refine (Dp s w EL v q a (by omega) hr hb).mono ?_;rintro e w' ⟨l,n,m,u,i,j,k,_⟩;exact⟨l,n,m,u,i,j,k,λh=>by simp at h⟩
   ·rw[za hb,Rd.lN (L:=s.data.toList.length) _ 0 (tQ d)];exact Dr s w EL v q a (by omega) hr (by omega) (by omega) (by omega)
end Go.Proofs.YtagnlbgbnfnapaaGreatDoor
