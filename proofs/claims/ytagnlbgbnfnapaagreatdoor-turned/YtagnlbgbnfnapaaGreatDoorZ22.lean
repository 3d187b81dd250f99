/- P -/
import Derived.Test.YtagnlbgbnfnapaaGreatDoorZ21
open Go.Proofs.Tryz
set_option maxRecDepth 100000
set_option maxHeartbeats 2000000
namespace Go.Proofs.YtagnlbgbnfnapaaGreatDoor
open Go.RowKit
def Yt:Rd.V->Nat
 | .obj ms=>ms.length
 | _=>0
def stX:Rd.V->Option Rd.V
 | .obj ms=>Rd.zl ms Rd.vC
 | _=>none
def qK:Option Rd.V->List Rd.V
 | some (.list vs)=>vs
 | _=>[]
theorem GH(v:Rd.V):Rd.ZC v=if Yt v≠1\/(qK (stX v)).length<1\/10<(qK (stX v)).length then (5,0) else Rd.XP ((qK (stX v)).map Rd.yz) 0:=by
 match v with
 | .str s=>rfl
 | .word b=>rfl
 | .list a=>rfl
 | .obj ms=>
  have key:∀X:Option Rd.V,(match X with
    | some (.list a)=>if ms.length≠1\/a.length<1\/10<a.length then ((5:Int),0) else Rd.XP (a.map Rd.yz) 0
    | _=>(5,0))=if ms.length≠1\/(qK X).length<1\/10<(qK X).length then (5,0) else Rd.XP ((qK X).map Rd.yz) 0:=by
   intro X
   match X with
   | none=>simp[qK]
   | some (.str s)=>simp[qK]
   | some (.word b)=>simp[qK]
   | some (.obj m)=>simp[qK]
   | some (.list a)=>rfl
  exact key _
theorem wI{w:World}{v:Rd.V}{u:Value}(h:OAt w (some v) u)(g:Rd.Good 4000 v):∃ao cap b f,(∀W,(Instr.typeAssert u 118 122 true).run prog W = .ok (.tuple #[.slice ao (Yt v) cap,.bool b]) W) /\
  (∀W,Below w.heap.size w W->Calls prog 53 #[.slice ao (Yt v) cap,.string Rd.vC] W λe l=>e = .returned f/\Below W.heap.size W l)/\OAt w (stX v) f:=by
 by_cases ho:∃ms,v = .obj ms
 ·obtain⟨ms,rfl⟩:=ho;obtain⟨k,ao,cap,rfl,a⟩:=Vb h;have c:ms.length<=4000:=by cases g with|obj _ h=>exact h
  refine⟨ao,cap,true,xA k Rd.vC,λW=>?_,λW hb=>?_,a.get Rd.vC⟩
  ·show _=Result.ok (Value.tuple #[.slice ao ms.length cap,.bool true]) W;rw[<- a.len];exact iI _ W
  ·have:=gm (w:=W) cap (a.below hb) c Rd.vC
   rw[a.len] at this;exact this
 ·have d:∀ms,some v≠some (.obj ms):=λms e=>ho ⟨ms,by simpa using e⟩
  have i:Yt v=0:=by
   cases v with
   | obj ms=>exact absurd ⟨ms,rfl⟩ ho
   | _=>rfl
  have j:stX v=none:=by
   cases v with
   | obj ms=>exact absurd ⟨ms,rfl⟩ ho
   | _=>rfl
  rw[i,j];exact⟨none,0,false,.nilIface,λW=>iH h d W,λW _=>dC [] none 0 Rd.vC W (by simp) (.inl rfl) (by simp),rfl⟩
theorem sN{w:World}{x:Option Rd.V}{u:Value}(h:OAt w x u):∃lo cap b,(∀W,(Instr.typeAssert u 118 125 true).run prog W = .ok (.tuple #[.slice lo (qK x).length cap,.bool b]) W) /\
  ∃f:List Value,f.length=(qK x).length/\jF w lo f/\∀(j:Nat) (v:Rd.V) (u:Value),(qK x)[j]?=some v->f[j]?=some u->OAt w (some v) u:=by
 by_cases ho:∃a,x=some (.list a)
 ·obtain⟨a,rfl⟩:=ho;have d:ValAt w (λb=>b<w.heap.size) (.list a) u:=h
  cases d with
  | list _ f ao cap i g k=>
   refine⟨ao,cap,true,λW=>?_,f,i,?_,λj v u d n=>k j v u d n⟩
   ·show _=Result.ok (Value.tuple #[.slice ao a.length cap,.bool true]) W;rw[<- i];exact iF _ W
   ·rcases g with g|⟨b,ha,_,hc⟩
    ·exact .inl g
    ·exact .inr ⟨b,0,ha,λj l=>by rw[qM];exact hc j _ (zt l)⟩
 ·have c:∀a,x≠some (.list a):=λa e=>ho ⟨a,e⟩
  have m:qK x=[]:=by
   match x with
   | none=>rfl
   | some (.str s)=>rfl
   | some (.word b)=>rfl
   | some (.obj ms)=>rfl
   | some (.list a)=>exact absurd rfl (c a)
  rw[m];exact⟨none,0,false,λW=>iG h c W,[],rfl,.inl rfl,λj v u d _=>by simp at d⟩
theorem Gx(s:BA)(w:World)(EL:Value)(v:Rd.V)(q:Nat)(L:XB w EL)(M:s.size<=4000)(F:Rd.yS s.data.toList = .ok v q)(l:Yt v≠1\/(qK (stX v)).length<1\/10<(qK (stX v)).length) :
  Calls prog 25 #[.string s] w (YO w EL (5,0) []):=by
 have j:=nB w Qf;have p:=gV s (w.alloc Qf) (L.below j).seq M;rw[F] at p;unfold Q4 at p;simp only at p;have z:=Rd.Ue F;rw[Ref.zP] at z
 have K:Rd.Good 4000 v:=by
  clear p F l
  induction z with
  | str t h=>exact .str t (by omega)
  | word b=>exact .word b
  | list Q h _ I=>exact .list Q (by omega) I
  | obj ms h G P _ I=>exact .obj ms (by omega) G (λm C=>by have:=P m C;omega) I
 obtain⟨n,H⟩:=Nm (Yt v);obtain⟨m,C⟩:=Nm ((qK (stX v)).length);have c:=λW u (h:OAt W (some v) u)=>wI h K;have d:=λW x (h:OAt W (stX v) x)=>sN h;rw[H,C] at l;simp only[H] at c;simp only[C] at d;unfold Qf at j p;unfold Rd.vC at c;clear L M F H C z K
 by_cases h1:n=1
 ·subst h1
  by_cases G:m=0
  ·subst G;go_enter func25,ntmps25
   go_wp2_with (first
    | (go_at_call 53;refine (A i (zi _ _)).mono ?_;rintro e O ⟨rfl,k⟩;have a:=f.trans (k.mono f.size);obtain⟨r0,J⟩:=one_cell a)
    | (go_at_call 52;refine p.mono ?_;rintro e i ⟨u,rfl,g,f⟩;have B:OAt i (some v) u:=ValAt.move g (λ_ hb=>hb.2) (λ_ _=>rfl);obtain⟨ao,cap,bb,x,E,A,o⟩:=c i u B;obtain⟨lo,r,N,D,_⟩:=d i x o;obtain⟨T,y,rfl⟩:=ValAt.iface g))
   exact qa (v := .tuple #[.agg #[.slice none 0 0],.iface 129 (.agg #[.string ⟨#[100,111,99,117,109,101,110,116]⟩])]) (by simp[results,results25,go_sem,r0]) rfl ⟨_,_,_,_,rfl,.doc _,(j.trans (a.mono (by simp))).setCell (ze _) _,λh=>by simp at h⟩
  ·have S:((m:Int)==0)=false:=by simp;omega
   have U:decide ((10:Int)<(m:Int))=true:=by simp;omega
   go_enter func25,ntmps25
   go_wp2_with (first
    | (go_at_call 53;refine (A i (zi _ _)).mono ?_;rintro e O ⟨rfl,k⟩;have a:=f.trans (k.mono f.size);obtain⟨r0,J⟩:=one_cell a)
    | (go_at_call 52;refine p.mono ?_;rintro e i ⟨u,rfl,g,f⟩;have B:OAt i (some v) u:=ValAt.move g (λ_ hb=>hb.2) (λ_ _=>rfl);obtain⟨ao,cap,bb,x,E,A,o⟩:=c i u B;obtain⟨lo,r,N,D,_⟩:=d i x o;obtain⟨T,y,rfl⟩:=ValAt.iface g))
   exact qa (v := .tuple #[.agg #[.slice none 0 0],.iface 129 (.agg #[.string ⟨#[100,111,99,117,109,101,110,116]⟩])]) (by simp[results,results25,go_sem,r0]) rfl ⟨_,_,_,_,rfl,.doc _,(j.trans (a.mono (by simp))).setCell (ze _) _,λh=>by simp at h⟩
 ·have R:((n:Int) != 1)=true:=by simp;omega
  clear l;go_enter func25,ntmps25
  go_wp2_with (first
   | (go_at_call 53;refine (A i (zi _ _)).mono ?_;rintro e O ⟨rfl,k⟩;have a:=f.trans (k.mono f.size);obtain⟨r0,J⟩:=one_cell a)
   | (go_at_call 52;refine p.mono ?_;rintro e i ⟨u,rfl,g,f⟩;have B:OAt i (some v) u:=ValAt.move g (λ_ hb=>hb.2) (λ_ _=>rfl);obtain⟨ao,cap,bb,x,E,A,o⟩:=c i u B;obtain⟨lo,r,N,D,_⟩:=d i x o;obtain⟨T,y,rfl⟩:=ValAt.iface g))
  exact qa (v := .tuple #[.agg #[.slice none 0 0],.iface 129 (.agg #[.string ⟨#[100,111,99,117,109,101,110,116]⟩])]) (by simp[results,results25,go_sem,r0]) rfl ⟨_,_,_,_,rfl,.doc _,(j.trans (a.mono (by simp))).setCell (ze _) _,λh=>by simp at h⟩
theorem LM{L:Nat}(g:L<=4000){v:Rd.V}(h:Rd.Good L v):Rd.Good 4000 v:=by
 induction h with
 | str t h=>exact .str t (by omega)
 | word b=>exact .word b
 | list f h _ a=>exact .list f (by omega) a
 | obj ms h c d _ a=>exact .obj ms (by omega) c (λm e=>by have:=d m e;omega) a
theorem jP.below{w c:World}{base:Nat}{a:Value}{b:List zT}(h:jP w base a b)(hb:Below w.heap.size w c):jP c base a b:=by
 obtain⟨xs,d,e⟩:=h;exact⟨xs,ownsRow_below d hb,λj f=>(e j f).below hb⟩
theorem jP.mono{w:World}{base a:Nat}{b:Value}{c:List zT}(h:jP w base b c)(hb:a<=base):jP w a b c:=by
 obtain⟨xs,d,e⟩:=h;exact⟨xs,kG d hb,λj f=>(e j f).mono hb⟩
theorem jP.set{w:World}{base:Nat}{c:Value}{d:List zT}(h:jP w base c d){b:Nat}(hb:b<base)(o:Nat)(u:Value):jP (w.setCell ⟨b,o,none⟩ u) base c d:=by
 obtain⟨xs,a,e⟩:=h;exact⟨xs,wX a (by intro f;have:=(a.lt b f).1;omega) o u,λj g=>(e j g).set hb o u⟩
theorem wB{w W:World}{T:TypeId}{x:Value}{a o:Nat}(hb:Below (w.alloc (.cells #[.slice none 0 0] 84)).heap.size (w.alloc (.cells #[.slice none 0 0] 84)) W)(h:W.cell? ⟨a,o,none⟩=some (.iface T x))(y:Value) :
  (W.setCell ⟨w.heap.size,0,none⟩ y).cell? ⟨a,o,none⟩=some (.iface T x):=by
 have c:a≠w.heap.size:=by
  intro e;subst e;have b:=(zf (ja hb) o).1;rw[h] at b
  cases o with
  | zero=>simp at b
  | succ o=>simp at b
 rw[xW _ _ _ _ (by simp only[ne_eq,Addr.mk.injEq];omega)];exact h
theorem IW(cs:List Nat)(a:List Value)(ao:Option Addr)(cap:Nat)(w:World)(h:a.length<=100000)(f:jF w ao a)(hF:FVs cs a) :
  Calls prog 56 #[.slice ao a.length cap,.func (.func 57) #[] #[]] w λe g=>
   e = .returned (.tuple #[.int .i64 (((zD (λj=>cs.getD j 0 != 0) cs.length).getD 0:Nat):Int),.bool (zD (λj=>cs.getD j 0 != 0) cs.length).isSome])/\Below w.heap.size w g:=by
 have d:∀args w,(callFunc 57 args).run prog w = .ok (.enter 57 args) w:=qx func57 (by kernel_rfl) rfl
 have c:=dx a ao cap _ (λj=>cs.getD j 0 != 0) w (by omega) d f hF.form (λW j b hb=>by
  have:=rD _ _ W (hF.at j b)
  rw[show a[j]=a.getD j .nilIface by rw[zQ,zt b];rfl] at this;exact this)
 rw[hF.1] at c |-;exact c
theorem Cm{L:Nat}{v:Rd.V}(h:Rd.Good L v):∀x ∈ qK (stX v),Rd.Good L x:=by
 intro x a
 match v with
 | .str s=>simp[stX,qK] at a
 | .word b=>simp[stX,qK] at a
 | .list d=>simp[stX,qK] at a
 | .obj ms=>
  cases hg:Rd.zl ms Rd.vC with
  | none=>simp only[stX,hg,qK,YR] at a
  | some y=>
   have c:=Rd.yt h Rd.vC y hg
   cases y with
   | list d=>
    simp only[stX,hg,qK] at a
    cases c with|list _ _ h=>exact h x a
   | str s=>simp only[stX,hg,qK,YR] at a
   | word b=>simp only[stX,hg,qK,YR] at a
   | obj m=>simp only[stX,hg,qK,YR] at a
theorem Gz(s:BA)(w:World)(EL:Value)(v:Rd.V)(q:Nat)(hQ:XB w EL)(hs:s.size<=4000)(hr:Rd.yS s.data.toList = .ok v q)(h1:Yt v=1)(h2:1<=(qK (stX v)).length)(h3:(qK (stX v)).length<=10) :
  Calls prog 25 #[.string s] w (YO w EL (Rd.Qz ((qK (stX v)).map Rd.xM) 0) ((qK (stX v)).map yx)):=by
 have t:=nB w Qf;have cc:=gV s (w.alloc Qf) (hQ.below t).seq hs;rw[hr] at cc;unfold Q4 at cc;simp only at cc;have b3:=Rd.Ue hr;rw[Ref.zP] at b3;have hG:=LM hs b3;have b1:=Cm hG;have f:=λW u (h:OAt W (some v) u)=>wI h hG;have E:=λW gv (h:OAt W (stX v) gv)=>sN h;simp only[h1] at f;obtain⟨U,b4⟩:=Nm (qK (stX v));rw[b4] at h2 h3 b1 |-;simp only[b4] at E;have cE:=λ(S:List Value) ao cap W (hb:Below w.heap.size w W)=>GX U S ao cap W (hQ.below hb).p
 have Z:∀c ∈ U.map Rd.xM,c<=2:=by
  intro c hc;rw[qR] at hc;obtain⟨x,_,rfl⟩:=hc;exact Rd.Wy x
 have hlen:(U.map Rd.xM).length=U.length:=by simp
 obtain⟨cs,b2⟩:=Nm (U.map Rd.xM);have X:=cE;simp only[b2] at X;rw[b2] at Z hlen |-;obtain⟨ss,a1⟩:=Nm (U.map yx);have f4:ss.length=U.length:=by rw[<- a1];simp
 simp only[a1] at X;rw[a1];obtain⟨m,hm⟩:=Nm U.length;rw[hm] at h2 h3 hlen;have K:=λ(ys:List Value) fa fc W hn d6 hF=>IW cs ys fa fc W hn d6 hF;have a6:=hid E;have a5:=hid b1;have HE:=hid X;have i:=hid hm;unfold Qf at t cc;unfold Rd.vC at f;have d2:((m:Int)==0)=false:=by simp;omega
 have d3:decide ((10:Int)<(m:Int))=false:=by simp;omega
 clear hQ hs hr b3 hG h1 b4 b2 a1 hm cE X E b1
 cases I:zD (λj=>cs.getD j 0 != 0) cs.length with
 | none=>
  have hz:Rd.Qz cs 0=(0,0):=Rd.cK cs 0 (λc hc=>by
   obtain⟨j,hj,rfl⟩:=Kh hc
   simpa using VR I j hj)
  rw[hz];simp only[I,Q0,kU] at K;clear hz I Z;go_enter func25,ntmps25
  go_wp2_with (first
   | (go_at_call 56;refine r.mono ?_;rintro e w4 ⟨rfl,A⟩;have g:=n.trans (A.mono n.size);obtain⟨r0,f0⟩:=one_cell g)
   | (go_at_call 54;refine o.mono ?_;rintro e w3 ⟨oa,fa,oc,fc,ys,rfl,l,F,G,L,O⟩;have n:=a.trans (L.mono a.size);have r:=K ys fa fc w3 (by omega) F G;rw[l] at r)
   | (go_at_call 53;refine (cG H (zi _ _)).mono ?_;rintro e w2 ⟨rfl,b⟩;have a:=z.trans (b.mono z.size);have J:Below w.heap.size w w2:=t.trans (a.mono (by simp));have o:=HE.out S lo D w2 J d (by omega) (U4 P b) (λj x y I hy=>(Q j x y I hy).below b) a5.out;rw[d,i.out] at o)
   | (go_at_call 52;refine cc.mono ?_;rintro e H ⟨u,rfl,C,z⟩;have hO:OAt H (some v) u:=ValAt.move C (λ_ hb=>hb.2) (λ_ _=>rfl);obtain⟨ao,cap,bb,gv,c6,cG,N⟩:=f H u hO;obtain⟨lo,D,lb,R,S,d,P,Q⟩:=a6.out H gv N;have a4:S.length=m:=d.trans i.out;rw[i.out] at R;obtain⟨T,y,rfl⟩:=ValAt.iface C))
  have d9:w.heap.size<w2.heap.size:=by have h:=a.size;simp at h;omega
  exact qa (v := .tuple #[.agg #[.slice oa m oc],.nilIface]) (by simp[results,results25,go_sem,r0]) rfl ⟨_,_,_,_,rfl,.ok,(t.trans (g.mono (by simp))).setCell (ze _) _,λ_=>((O.below A).set d9 _ _).mono (by omega)⟩
 | some k=>
  obtain⟨a0,c0,c1⟩:=U5 I;have Y:cs.getD k 0=cs[k]:=by rw[zQ,zt a0];rfl
  have b9:cs[k]≠0:=by rw[<- Y];simpa using c0
  have c2:=Z cs[k] (xg a0)
  have hz:Rd.Qz cs 0=(if cs[k]=1 then 5 else 6,0+k+1):=Rd.pu cs 0 k a0 (λj hj=>by
   have:=c1 j hj
   rw[zQ,zt (show j<cs.length by omega)] at this
   simpa using this) b9 c2
  rw[hz,qM];simp only[I,yO,uw] at K;have f2:k<m:=by omega
  have f1:(k:Int)<(m:Int):=by omega
  have M:cs[k]=1\/cs[k]=2:=by omega
  obtain⟨ck,a3⟩:∃c,cs[k]=c:=⟨_,rfl⟩;rw[a3] at M Y |-;have b6:=hid Y;clear hz I Z c0 c1 Y b9 c2 a3 a0
  rcases M with rfl|rfl
  ·simp only[qO];go_enter func25,ntmps25
   go_upto_region 11 with (first
   | (go_at_call 56;refine r.mono ?_;rintro e w4 ⟨rfl,A⟩;have g:=n.trans (A.mono n.size);obtain⟨r0,f0⟩:=one_cell g;have B:=(G.at k (by omega));rw[b6.out] at B;rcases B with ⟨h,_⟩|⟨_,pp,hyk⟩|⟨h,_⟩;(exfalso;simp at h);rotate_left;(exfalso;simp at h);rcases F with hnil|⟨fb,fo,rfl,hfc⟩;(exfalso;rw[hnil] at l;simp at l;omega);have qk:=zh A (hfc k (by omega));rw[hyk] at qk;have e1:=wB g qk)
   | (go_at_call 54;refine o.mono ?_;rintro e w3 ⟨oa,fa,oc,fc,ys,rfl,l,F,G,L,O⟩;have n:=a.trans (L.mono a.size);have r:=K ys fa fc w3 (by omega) F G;rw[l] at r)
   | (go_at_call 53;refine (cG H (zi _ _)).mono ?_;rintro e w2 ⟨rfl,b⟩;have a:=z.trans (b.mono z.size);have J:Below w.heap.size w w2:=t.trans (a.mono (by simp));have o:=HE.out S lo D w2 J d (by omega) (U4 P b) (λj x y I hy=>(Q j x y I hy).below b) a5.out;rw[d,i.out] at o)
   | (go_at_call 52;refine cc.mono ?_;rintro e H ⟨u,rfl,C,z⟩;have hO:OAt H (some v) u:=ValAt.move C (λ_ hb=>hb.2) (λ_ _=>rfl);obtain⟨ao,cap,bb,gv,c6,cG,N⟩:=f H u hO;obtain⟨lo,D,lb,R,S,d,P,Q⟩:=a6.out H gv N;have a4:S.length=m:=d.trans i.out;rw[i.out] at R;obtain⟨T,y,rfl⟩:=ValAt.iface C))
   go_region
   all_goals
    go_wp2_with fail;exact qa (v := .tuple #[.agg #[.slice none 0 0],.iface 143 (.agg #[.int .i64 (((k+1:Nat)):Int),.iface 129 (.agg #[.string pp])])]) (by simp[results,results25,go_sem,r0]) rfl ⟨_,_,_,_,rfl,.shape (k+1) pp,((t.trans (g.mono (by simp))).setCell (ze _) _).drew,λh=>by simp at h⟩
  ·simp only[show ¬(2:Nat)=1 by decide,yu];go_enter func25,ntmps25
   go_upto_region 11 with (first
   | (go_at_call 56;refine r.mono ?_;rintro e w4 ⟨rfl,A⟩;have g:=n.trans (A.mono n.size);obtain⟨r0,f0⟩:=one_cell g;have B:=(G.at k (by omega));rw[b6.out] at B;rcases B with ⟨h,_⟩|⟨h,_⟩|⟨_,pp,hyk⟩;(exfalso;simp at h);(exfalso;simp at h);rcases F with hnil|⟨fb,fo,rfl,hfc⟩;(exfalso;rw[hnil] at l;simp at l;omega);have qk:=zh A (hfc k (by omega));rw[hyk] at qk;have e1:=wB g qk)
   | (go_at_call 54;refine o.mono ?_;rintro e w3 ⟨oa,fa,oc,fc,ys,rfl,l,F,G,L,O⟩;have n:=a.trans (L.mono a.size);have r:=K ys fa fc w3 (by omega) F G;rw[l] at r)
   | (go_at_call 53;refine (cG H (zi _ _)).mono ?_;rintro e w2 ⟨rfl,b⟩;have a:=z.trans (b.mono z.size);have J:Below w.heap.size w w2:=t.trans (a.mono (by simp));have o:=HE.out S lo D w2 J d (by omega) (U4 P b) (λj x y I hy=>(Q j x y I hy).below b) a5.out;rw[d,i.out] at o)
   | (go_at_call 52;refine cc.mono ?_;rintro e H ⟨u,rfl,C,z⟩;have hO:OAt H (some v) u:=ValAt.move C (λ_ hb=>hb.2) (λ_ _=>rfl);obtain⟨ao,cap,bb,gv,c6,cG,N⟩:=f H u hO;obtain⟨lo,D,lb,R,S,d,P,Q⟩:=a6.out H gv N;have a4:S.length=m:=d.trans i.out;rw[i.out] at R;obtain⟨T,y,rfl⟩:=ValAt.iface C))
   go_region
   all_goals
    go_wp2_with fail;exact qa (v := .tuple #[.agg #[.slice none 0 0],.iface 143 (.agg #[.int .i64 (((k+1:Nat)):Int),.iface 216 (.agg #[.int .i64 pp])])]) (by simp[results,results25,go_sem,r0]) rfl ⟨_,_,_,_,rfl,.pat (k+1) pp,((t.trans (g.mono (by simp))).setCell (ze _) _).drew,λh=>by simp at h⟩
def um(s:BA):List zT:=if 4000<s.size then [] else match Rd.yS s.data.toList with
 | .ok v _=>(qK (stX v)).map yx
 | .err _ _=>[]
theorem GD(s:BA)(w:World)(EL:Value)(T:TypeId)(y:Value)(b:EL = .iface T y)(a:XB w EL) :
  Calls prog 25 #[.string s] w (YO w EL (Rd.jT s) (um s)):=by
 have f:Rd.jT s=if 4000<s.size then (1,0) else match Rd.yS s.data.toList with
  | .err e q=>(e,q)
  | .ok v _=>Rd.ZC v:=rfl
 have g:um s=if 4000<s.size then [] else match Rd.yS s.data.toList with
  | .ok v _=>(qK (stX v)).map yx
  | .err _ _=>[]:=rfl
 by_cases h:4000<s.size
 ·rw[f,g,zb h,zb h];exact GA s w EL T y b a h
 ·rw[f,g,za h,za h]
  cases hr:Rd.yS s.data.toList with
  | err c q=>exact Gy s w EL c q a (by omega) hr
  | ok v q=>
   simp only;rw[GH];have d:=Rd.Ue hr
   by_cases hb:Yt v≠1\/(qK (stX v)).length<1\/10<(qK (stX v)).length
   ·rw[zb hb];refine (Gx s w EL v q a (by omega) hr hb).mono ?_;rintro e o ⟨l,n,m,u,i,j,k,_⟩;exact⟨l,n,m,u,i,j,k,λh=>by simp at h⟩
   ·rw[za hb,Rd.cB (L:=s.data.toList.length) _ 0 (Cm d)];exact Gz s w EL v q a (by omega) hr (by omega) (by omega) (by omega)
end Go.Proofs.YtagnlbgbnfnapaaGreatDoor
