/- P -/
import Derived.Test.YtfjpcldndaiifaaGreatDoorA37
open Go.Proofs.Tryz
set_option maxRecDepth 100000
set_option maxHeartbeats 2000000
namespace Go.Proofs.YtfjpcldndaiifaaGreatDoor
open Go.RowKit
theorem mM(a word:BY)(r:U.Req)(ao:Option Addr)(cap:Nat)(w:J)(R:qK w ao r.marks)(hp:a.size<=60)(hw:word.size<=100)(L:r.marks.length<=10)
  (x:∀n v,U.says r n=some v->v.size<=100):R8 56 #[S9 a,S9 word,U.zX r ao cap] w (G5 (.bool (U.yQ a word r)) w):=by
 obtain⟨P,E⟩:=Nm (U.yQ a word r);rw[E];unfold U.yQ at E;have M:=U.nG a;have a6:=U.Ka word;have⟨H,V,X⟩:=M4 E R x;clear E R x;generalize N:U.zX r ao cap=rv;have O:rv=.agg #[S9 r.who,S9 r.act,S9 r.on,TL ao r.marks.length cap]:=N.symm;subst O;have W:=G7 N;clear N;go_enter func56,ntmps56;go_wp2_with fail;apply(dU a _ hp).mono;rintro e S⟨lv,rfl,h,_,b⟩;have g:yV S w.heap.size r ao cap:=ky (by simp[yV]) h;have I:BQ w S:=(nbl w _).trans (h.mono (by simp));have y:=Ed rfl b;clear h b;go_wp2_with fail;apply(iJ word _ (by omega)).mono;rintro e w2⟨cv,rfl,f,c⟩;have p:=ky g f;have D:BQ w w2:=I.trans (f.mono I.size);have z:=nE y f;have B:=Ym rfl c;have t:=xh V.o D;obtain⟨g0,g1,g2,g3⟩:=p;have⟨k,m,j⟩:=M4 z B t;clear f c g y z B t I;go_wp2_with fail;rw[<- W.o];apply(WQ r _ lv ao cap _ j.o k.o M L X.o).mono;rintro e w3⟨qv,rfl,i,d,u⟩;have K:BQ w w3:=D.trans (i.mono D.size);have C:=kR m.o i;have A:=Ed rfl d;have⟨o,l⟩:=D5 C A;clear i d C A g0 g1 g2 g3 k m j D
 cases hld:U.laid r ((U.parts a).getD []) with
 | none=>
  have F:P=false:=by rw[<- H.o,hld]
  subst F;go_wp2;go_ret;exact⟨rfl,K⟩
 | some q=>
  have F:U.covers q ((U.chars word).getD [])=P:=by rw[<- H.o,hld]
  have G:=l.o;rw[hld]at G u;simp only[yP]at G u;have⟨T,Q⟩:=D5 F G;clear F G l H;go_wp2_with fail;refine(ND q _ qv cv _ Q.o o.o (by omega) (by omega)).mono ?_;rw[T.o];rintro e w4⟨rfl,s⟩;have b4:BQ w w4:=K.trans (s.mono K.size);clear s Q o;go_wp2;go_ret;exact⟨rfl,b4⟩
theorem Cx(c word:BY)(r:U.Req)(ao:Option Addr)(cap:Nat)(w:J)(R:qK w ao r.marks)(o:U.XE r)(hp:c.size<=maxLen)(hw:word.size*16<=140737488355328):R8 30 #[S9 c,S9 word,U.zX r ao cap] w λe w'=>
   e=.returned (.tuple #[.bool (U.Yc c word r).1,.int .i64 (U.Yc c word r).2])/\BQ w w':=by
 obtain⟨P,d⟩:=Nm (U.Yc c word r);rw[d];unfold U.Yc at d;have⟨O,V⟩:=D5 R o;clear R o;obtain⟨rv,o⟩:=Nm (U.zX r ao cap);rw[o];have L:rv=.agg #[S9 r.who,S9 r.act,S9 r.on,TL ao r.marks.length cap]:=o.symm;subst L;have Q:=G7 o;clear o
 by_cases hlong:60<c.size
 ·have g:U.parts c=none:=by unfold U.parts;rw[zb hlong]
  rw[g]at d;simp only[uB,qJ]at d;subst d;clear g;go_enter func30,ntmps30;go_wp2_with fail;apply(zb8 c _ hp hlong).mono;rintro e z⟨rfl,rfl⟩;go_wp2;go_ret2;exact⟨rfl,nbl _ _⟩
 cases hpp:U.parts c with
 | none=>
  rw[hpp]at d;simp only[uB,qJ]at d;subst d;have k:=G7 hpp;clear hpp;go_enter func30,ntmps30;go_wp2_with fail;refine(dU c _ (by omega)).mono ?_;rw[k.o];rintro e z⟨lv,rfl,f,_,_⟩;go_wp2;go_ret2;exact⟨rfl,(nbl w _).trans (f.mono (by simp))⟩
 | some l=>
  rw[hpp]at d;simp only[uC,pQ,xX]at d;have k:=G7 hpp;clear hpp;obtain⟨a,I⟩:=Nm (U.qR r);obtain⟨b,K⟩:=Nm (U.xH word);rw[I,K]at d;have⟨A,C,N⟩:=M4 d I K;clear d I K;go_enter func30,ntmps30;go_wp2_with fail;refine(dU c _ (by omega)).mono ?_;rw[k.o];rintro e z⟨lv,rfl,f,_,_⟩;have j:yV z w.heap.size r ao cap:=ky (by simp[yV]) f;have B:BQ w z:=(nbl w _).trans (f.mono (by simp));have u:G6 (qK z ao r.marks):=xh O.o B;have h:=G7 j;obtain⟨E,F,G,H⟩:=j;clear f;go_wp2_with fail;rw[<- Q.o];refine(ET r ao cap _ V.o u.o).mono ?_;rw[C.o];rintro e S⟨rfl,m⟩;have i:G6 (yV S w.heap.size r ao cap):=ky h.o m;have D:BQ w S:=B.trans (m.mono B.size);clear m E F G H B u h;go_wp2_with fail;refine(GA word _ hw).mono ?_;rw[N.o];rintro e T⟨rfl,n⟩;have s:=ky i.o n;have q:BQ w T:=D.trans (n.mono D.size);obtain⟨E,F,G,H⟩:=s;clear n D i
  cases a with
  | false=>
   have p:P=(false,11):=by rw[<- A.o];simp
   subst p;go_wp2;go_ret2;exact⟨rfl,q⟩
  | true=>
  cases b with
  | false=>
   have p:P=(false,11):=by rw[<- A.o];simp
   subst p;go_wp2;go_ret2;exact⟨rfl,q⟩
  | true=>
   have p:P=(U.yQ c word r,0):=by rw[<- A.o];simp
   obtain⟨y,M⟩:=Nm (U.yQ c word r);rw[M]at p;subst p;have W:=G7 M;have x:G6 (qK T ao r.marks):=xh O.o q;clear M A;go_wp2_with fail;rw[<- Q.o];refine(mM c word r ao cap _ x.o (by omega) (U.aj _ N.o) (U.zaM r C.o) (U.zdk r C.o)).mono ?_;rw[W.o];rintro e w4⟨rfl,t⟩;have X:BQ w w4:=q.trans (t.mono q.size);clear t E F G H x;go_wp2;go_ret2;exact⟨rfl,X⟩
theorem sw{α:Type}(l:List α)(f:α->Bool)(k:Nat)(h:k<l.length):(l.take (k+1)).any f=((l.take k).any f||f l[k]):=by
 rw[Qg,zn h,List.any_append]
 simp
theorem pu(q:Bool×List BY)(word:BY)(r:U.Req)(ao:Option Addr)(cap:Nat)(Q:Y)(w:J)(G:∀p ∈ q.2,U.qD p=true)(hn:q.2.length<=100000)(P:yt w Q q.2)(x:qK w ao r.marks)(l:U.qR r=true)(hw:word.size<=100):R8 181 #[.agg #[.bool q.1,Q],S9 word,U.zX r ao cap] w (G5 (.bool (De.Qw q word r)) w):=by
 obtain⟨R,a⟩:=q;simp only at G hn P;have O:=λ(W:J) (u:BQ w W) (p:BY) (z:p ∈ a)=>mM p word r ao cap W (xh x u) (U.nH p (G p z)) hw (eu l) (λn v h=>(K5 l n v h).1);unfold De.Qw;simp only;obtain⟨f,D⟩:∃f:BY->Bool,(λp=>U.yQ p word r)=f:=⟨_,rfl⟩
 have A:∀(W:J) (u:BQ w W) (p:BY) (z:p ∈ a),R8 56 #[S9 p,S9 word,U.zX r ao cap] W (G5 (.bool (f p)) W):=by
  rw[<- D];exact O
 rw[D];clear O D G;obtain⟨m,j,on,I⟩:=r;unfold U.zX at A |-;simp only at A |-;obtain⟨V,K,rfl,i⟩:=P;have M:BQ w ((w.alloc (L8 #[.bool R,TL V a.length K] 170)).alloc (L8 #[S9 m,S9 j,S9 on,TL ao I.length cap] 35)):=(nbl w _).alloc (by simp) _;have⟨X,HR,L⟩:=M4 A i M;clear A i M x l;go_enter func181,ntmps181;go_wp2
 go_loopw [7,8] (λyv H wr=>∃k:Nat,k<=a.length/\H=R9 k/\yv=.bool ((a.take k).any f)/\BQ w wr/\(wr.cell? (G8 w.heap.size 0)=some (.bool R)/\wr.cell? (G8 w.heap.size 1)=some (TL V a.length K))/\wr.cell? (G8 (w.heap.size+1) 0)=some (S9 m)/\wr.cell? (G8 (w.heap.size+1) 1)=some (S9 j)/\wr.cell? (G8 (w.heap.size+1) 2)=some (S9 on)/\wr.cell? (G8 (w.heap.size+1) 3)=some (TL ao I.length cap)) (λ_ H _=>a.length-(intOf H).toNat)
 case atStart=>exact⟨0,zD _,rfl,by simp,L.o,⟨by simp,by simp⟩,by simp,by simp,by simp,by simp⟩
 case round=>
  obtain⟨k,hk,rfl,rfl,u,⟨g0,g1⟩,q0,q1,q2,q3⟩:=hrel;have t:=G7 u;clear u L
  by_cases hlt:k<a.length
  ·rcases HR.o with e|⟨gb,o,rfl,hc⟩
   ·subst e;simp at hlt
   have S:=zi t.o (hc k hlt);have B:=G7 (X.o wr.drew t.o.drew a[k] (qm hlt));have b:=G7 (sw a f k hlt);obtain⟨p,y⟩:=Nm (a[k]);rw[y]at S B b;obtain⟨F,hF⟩:=Nm (f p);rw[hF]at B b;obtain⟨c,s⟩:=Nm ((a.take k).any f);rw[s]at b |-;clear hc y hF s
   cases c
   all_goals
    go_wp2_with fail
    go_region_held3 (λd=>d.cell? (G8 w.heap.size 1)=some (TL (some (G8 gb o)) a.length K)/\d.cell? (G8 gb (o+k))=some (S9 p)/\d.cell? (G8 (w.heap.size+1) 0)=some (S9 m)/\d.cell? (G8 (w.heap.size+1) 1)=some (S9 j)/\d.cell? (G8 (w.heap.size+1) 2)=some (S9 on)/\d.cell? (G8 (w.heap.size+1) 3)=some (TL ao I.length cap)) (go_keep) (first
     | ((go_at_call 56);apply B.o.mono;rintro e T⟨rfl,N⟩;have g:BQ wr T:=((zf _ wr).drew.trans N);have r0:=zi g g0;have r1:=zi g g1;have r2:=zi g q0;have r3:=zi g q1;have r4:=zi g q2;have r5:=zi g q3;have r6:=zi g S;have C:G6 (BQ w T):=t.o.trans (g.mono t.o.size);clear N g))
    all_goals
     go_wp2_with fail;go_roundw
     case rel=>exact⟨k+1,by omega,by go_num,by rw[b.o];rfl,C.o,⟨r0,r1⟩,r2,r3,r4,r5⟩
     case measure=>simp[intOf];omega
  have E:k=a.length:=by omega
  subst E;rw[UU];obtain⟨c,s⟩:=Nm (a.any f);rw[s];have HY:=G7 s;clear s;go_wp2;go_ret;exact⟨by rw[HY.o];rfl,t.o⟩
theorem Dy{t:BY}(h:De.QV t=true)(b:0<t.size):((t[0].toNat:Int)==45)=false:=by
 have a:=(De.YR h).2.2.2.2;rw[U.YK t b]at a
 simp
 omega
theorem FM(a b:BY)(w:J)(c:De.QV a=true)(g:De.QV b=true):R8 225 #[S9 a,S9 b] w (G5 (.bool (De.Uw a b)) w):=by
 have f:0<a.size:=by have:=(De.YR c).2.1;omega
 have h:0<b.size:=by have:=(De.YR g).2.1;omega
 have f1:=Dy c f;have f2:=Dy g h;have i:=λW=>Ch a b W (by have:=(De.YR c).2.2.1;unfold maxLen;omega);have j:=G7 i;unfold De.Uw;clear i c g
 by_cases e:a.size=b.size
 ·have d:((a.size:Int) != (b.size:Int))=false:=by simp[e]
  rw[zb e];clear e;go_enter func225,ntmps225;go_wp2_with(go_at_call 74;apply(j.o _).mono;rintro e n⟨rfl,l⟩);go_ret;exact⟨rfl,l⟩
 have d:((a.size:Int) != (b.size:Int))=true:=by simp;omega
 rw[za e];have d2:decide ((a.size:Int)<(b.size:Int))=decide (a.size<b.size):=by simp
 have k:=G7 d2;clear e d2;go_enter func225,ntmps225;go_wp2_with fail;go_ret;exact⟨by rw[<- k.o];rfl,zf _ _⟩
theorem Uj{s:BY}{b:Bool}(h:De.yJ s=b)(a:0<s.size):((s[0].toNat:Int)==45)=b:=by
 unfold De.yJ at h;rw[U.YK s a,zB a,jY]at h;rw[<- h];rw[Zp]
 simp
 omega
theorem BD{s:BY}(h:U.qW s=true):0<s.size/\s.size<=19:=by
 obtain⟨b,_⟩:=De.Ue h;have a:=De.YR b;unfold De.kH at a
 cases hn:De.yJ s with
 | true=>
  rw[hn,zb rfl,yM]at a;omega
 | false=>
  rw[hn]at a;simp only[yu,xX]at a;omega
theorem zdY(a b:BY)(w:J)(f:U.qW a=true)(g:U.qW b=true):R8 225 #[S9 a,S9 b] w (G5 (.bool (De.Yj a b)) w):=by
 obtain⟨i,_⟩:=BD f;obtain⟨b0,_⟩:=BD g;obtain⟨c,_⟩:=De.Ue f;obtain⟨d,_⟩:=De.Ue g;unfold De.Yj;unfold De.kH at c d |-
 cases ea:De.yJ a with
 | false=>
  cases eb:De.yJ b with
  | false=>
   rw[ea]at c;rw[eb]at d;simp only[yu,xX,qJ]at c d |-;exact FM a b w c d
  | true=>
   have f1:=Uj ea i;have f2:=Uj eb b0;simp only[yu,xX];clear c d ea eb f g;go_enter func225,ntmps225;go_wp2_with fail;go_ret;exact⟨rfl,zf _ _⟩
 | true=>
  cases eb:De.yJ b with
  | false=>
   have f1:=Uj ea i;have f2:=Uj eb b0;simp only[pQ,xX];clear c d ea eb f g;go_enter func225,ntmps225;go_wp2_with fail;go_ret;exact⟨rfl,zf _ _⟩
  | true=>
   rw[ea]at c;rw[eb]at d;simp only[qJ]at c d |-;have f1:=Uj ea i;have f2:=Uj eb b0;have n:(1:Int)<=(a.size:Int):=by omega
   have o:(1:Int)<=(b.size:Int):=by omega
   have k:=G7 (FM (b.extract 1 b.size) (a.extract 1 a.size) w.drew d c);clear c d ea eb f g;go_enter func225,ntmps225;go_wp2_with fail;go_region_held3 (λ_=>True) (trivial) (first|((go_at_call 225);apply k.o.mono;rintro e m⟨rfl,j⟩;have h:G6 (BQ w m):=((zf _ w).drew.trans j);clear j))
   all_goals
    go_wp2_with fail;go_ret;exact⟨rfl,h.o⟩
theorem zfs(x v:BY)(h:v.size<x.size):De.ZG x v=((x.toList==v.toList)||(((x.extract 0 v.size).toList==v.toList)&&(((x[v.size]'h).toNat:Int)==47))):=by
 unfold De.ZG;rw[zB h,jY]
 have a:(x.extract 0 v.size).toList=x.data.toList.take v.size:=by
  rw[ko]
  simp
 have b:v.toList=v.data.toList:=ko v
 have c:x.data.toList.getD v.size 0=x[v.size]'h:=by
  rw[zT,zn (by simpa using h)]
  rfl
 rw[a,c,<- b];congr 2;rw[Zp]
 simp
 omega
theorem zfv(x v:BY)(h:¬v.size<x.size):De.ZG x v=(x.toList==v.toList):=by
 unfold De.ZG;rw[zI h]
 simp
def pW(op v:BY):Prop:=(U.xE op=true->U.qD v=true)/\(De.vK op=true->U.qW v=true)
theorem zbB(op x v:BY)(r:U.Req)(ao:Option Addr)(cap:Nat)(w:J)(c:qK w ao r.marks)(b:U.qR r=true)(D:x.size<=100)(C:pW op v):R8 211 #[S9 op,S9 x,S9 v,U.zX r ao cap] w (G5 (.bool (De.Yf op x v r)) w):=by
 have g:BQ w (w.alloc (L8 #[S9 r.who,S9 r.act,S9 r.on,TL ao r.marks.length cap] 35)):=nbl w _;have i:=λ(B:U.qD v=true)=>mM v x r ao cap (w.alloc (L8 #[S9 r.who,S9 r.act,S9 r.on,TL ao r.marks.length cap] 35)) (xh c g) (U.nH v B) D (eu b) (λn v h=>(K5 b n v h).1);unfold De.Yf;obtain⟨p,l,on,E⟩:=r;unfold U.zX at i |-;simp only at i g |-;obtain⟨d,f⟩:=C
 cases h1:U.xE op with
 | true=>
  have q:=G7 (i (d h1));unfold U.xE at h1;rw[zb rfl];have a:=G7 g;clear i d f c b g;generalize U.yQ v x ⟨p,l,on,E⟩=A at q;go_enter func211,ntmps211;go_wp2_with(go_at_call 56;apply q.o.mono;rintro e s⟨rfl,u⟩);go_ret;exact⟨rfl,a.o.trans (u.mono a.o.size)⟩
 | false=>
  unfold U.xE at h1;rw[za (by simp)]
  cases h2:De.vM op with
  | true=>
   unfold De.vM at h2;rw[zb rfl];have a:=G7 g;clear i d f c b g;go_enter func211,ntmps211;go_wp2_with fail;go_ret;exact⟨rfl,a.o⟩
  | false=>
   unfold De.vM at h2;rw[za (by simp)]
   cases h3:De.vK op with
   | true=>
    have j:=f h3;unfold De.vK at h3;rw[zb rfl];have k:=λW=>BF x W (by omega);have m:=λW (o:U.qW x=true)=>zdY x v W o j;have a:=G7 g;clear i d f c b g j
    cases hn:U.qW x with
    | true=>
     rw[jY];simp only[hn]at k;have t:=G7 (λW=>m W hn);clear m;go_enter func211,ntmps211
     go_wp2_with(first
      |(go_at_call 225;apply(t.o _).mono;rintro e G⟨rfl,y⟩)
      |(go_at_call 219;apply(k _).mono;rintro e s⟨rfl,rfl⟩))
     go_ret;exact⟨rfl,a.o.trans (y.mono a.o.size)⟩
    | false=>
     rw[kS];simp only[hn]at k;clear m;go_enter func211,ntmps211;go_wp2_with(go_at_call 219;apply(k _).mono;rintro e s⟨rfl,rfl⟩);go_ret;exact⟨rfl,a.o⟩
   | false=>
    unfold De.vK at h3;rw[za (by simp)];have a:=G7 g;clear i d f c b g
    by_cases hl:v.size<x.size
    ·rw[zfs x v hl];have d1:decide ((v.size:Int)<(x.size:Int))=true:=P5;have z:decide ((x.size:Int)>(v.size:Int))=true:=P5;have d3:(v.size:Int)<=(x.size:Int):=by omega
     cases h4:(x.toList==v.toList) with
     | true=>
      go_enter func211,ntmps211;go_wp2_with fail;go_ret;exact⟨rfl,a.o⟩
     | false=>
      rw[XI]
      cases h5:((x.extract 0 v.size).toList==v.toList) with
      | true=>
       rw[jY];go_enter func211,ntmps211;go_wp2_with fail;go_ret;exact⟨rfl,a.o⟩
      | false=>
       rw[kS];go_enter func211,ntmps211;go_wp2_with fail;go_ret;exact⟨rfl,a.o⟩
    rw[zfv x v hl];have d1:decide ((v.size:Int)<(x.size:Int))=false:=P6
    cases h4:(x.toList==v.toList) with
    | true=>
     go_enter func211,ntmps211;go_wp2_with fail;go_ret;exact⟨rfl,a.o⟩
    | false=>
     go_enter func211,ntmps211;go_wp2_with fail;go_ret;exact⟨rfl,a.o⟩
theorem Yt.fit{c:qj}(h:Yt c):∀v ∈ c.vals,pW c.op v:=by
 intro v a
 rcases h with⟨_,h⟩|⟨_,h2,h3⟩
 ·rw[h]at a;simp at a
 refine⟨λd=>h3 d v a,λb=>?_⟩;unfold U.ZU at h2;rw[jX]at h2
 have:=Zq.1 h2.1 v a
 unfold De.vK at b;unfold U.uZ at this;rw[vC]at b;rw[b]at this
 simpa using this
def gW(a:List BY)(f:BY->BY->Bool):Option BY->Bool
 | none=>false
 | some x=>a.any (f x)
theorem SG(c:qj)(lv:Y)(r:U.Req)(ao:Option Addr)(cap:Nat)(w:J)(hm:yt w lv c.vals)(hf:Yt c)(hn:c.vals.length<=100000)(E:qK w ao r.marks)(z:U.qR r=true):R8 182 #[.agg #[S9 c.op,S9 c.key,lv,.bool c.no],U.zX r ao cap] w (G5 (.bool (De.Ya c r)) w):=by
 have n:=hf.fit;obtain⟨op,key,a,no⟩:=c;simp only at hm hn n |-;have q:=K5 z key;have cO:=λ(W:J) (y:BQ w W) (x:BY) (R:x.size<=100) (v:BY) (hv:v ∈ a)=>zbB op x v r ao cap W (xh E y) z R (n v hv);have O:=λ(W:J) (y:BQ w W)=>Fv r key ao cap W (by have:=eu z;omega) (xh E y);unfold De.Ya;simp only;obtain⟨S,P⟩:=Nm (U.says r key);rw[P]at q |-;simp only[P]at O;obtain⟨f,hF⟩:∃f:BY->BY->Bool,(λx v=>De.Yf op x v r)=f:=⟨_,rfl⟩
 have cF:∀(W:J) (y:BQ w W) (x:BY) (R:x.size<=100) (v:BY) (hv:v ∈ a),R8 211 #[S9 op,S9 x,S9 v,U.zX r ao cap] W (G5 (.bool (f x v)) W):=by
  rw[<- hF];exact cO
 have d:De.Jd op a r S=gW a f S:=by
  rw[<- hF]
  cases S<;>rfl
 rw[d];clear cO hF d hf n;obtain⟨t,l,on,T⟩:=r;unfold U.zX at cF O |-;simp only at cF O |-;obtain⟨xo,V,rfl,B⟩:=hm;have b2:BQ w ((w.alloc (L8 #[S9 op,S9 key,TL xo a.length V,.bool no] 265)).alloc (L8 #[S9 t,S9 l,S9 on,TL ao T.length cap] 35)):=(nbl w _).alloc (by simp) _;have⟨CF,HR⟩:=D5 cF B;have I:=G7 (O _ b2);have C:=G7 b2;obtain⟨A,m⟩:=Nm ((w.alloc (L8 #[S9 op,S9 key,TL xo a.length V,.bool no] 265)).alloc (L8 #[S9 t,S9 l,S9 on,TL ao T.length cap] 35));have b5:A.cell? (G8 w.heap.size 0)=some (S9 op)/\A.cell? (G8 w.heap.size 1)=some (S9 key)/\A.cell? (G8 w.heap.size 2)=some (TL xo a.length V)/\A.cell? (G8 w.heap.size 3)=some (.bool no):=by rw[<- m];exact⟨by simp,by simp,by simp,by simp⟩
 have b6:A.cell? (G8 (w.heap.size+1) 0)=some (S9 t)/\A.cell? (G8 (w.heap.size+1) 1)=some (S9 l)/\A.cell? (G8 (w.heap.size+1) 2)=some (S9 on)/\A.cell? (G8 (w.heap.size+1) 3)=some (TL ao T.length cap):=by rw[<- m];exact⟨by simp,by simp,by simp,by simp⟩
 have D:=G7 m;rw[m]at I C;obtain⟨x0,x1,x2,x3⟩:=b5;obtain⟨y0,y1,y2,y3⟩:=b6;clear cF B b2 E z O m
 cases S with
 | none=>
  simp only[gW,Xa,uB,Option.isNone_none,JJ,ZI]at I |-
  cases ha:U.xR op with
  | true=>
   unfold U.xR at ha;go_enter func182,ntmps182
   go_upto_region 1 with fail
   rw[D.o];go_wp2_with(go_at_call 146;apply I.o.mono;rintro e H⟨rfl,h⟩;have L:=zi h x0;have M:=zi h x3;have i:G6 (BQ w H):=C.o.trans (h.mono C.o.size);clear h)
   go_loopw [7,8] (λX G wr=>G=R9 0/\X=L6/\wr=H) (λ_ _ _=>0)
   case atStart=>exact⟨rfl,rfl,rfl⟩
   case round=>
    obtain⟨rfl,rfl,rfl⟩:=hrel;go_wp2_with fail;go_ret;exact⟨by cases no<;>rfl,i.o⟩
  | false=>
   unfold U.xR at ha;go_enter func182,ntmps182
   go_upto_region 1 with fail
   rw[D.o];go_wp2_with(go_at_call 146;apply I.o.mono;rintro e H⟨rfl,h⟩;have L:=zi h x0;have M:=zi h x3;have i:G6 (BQ w H):=C.o.trans (h.mono C.o.size);clear h)
   go_loopw [7,8] (λX G wr=>G=R9 0/\X=T9/\wr=H) (λ_ _ _=>0)
   case atStart=>exact⟨rfl,rfl,rfl⟩
   case round=>
    obtain⟨rfl,rfl,rfl⟩:=hrel;go_wp2_with fail;go_ret;exact⟨by cases no<;>rfl,i.o⟩
 | some x=>
  have R:=(q x rfl).1;simp only[gW,yP,uC,Option.isNone_some,fI,XI]at I |-;have CX:=G7 (λ(W:J) (y:BQ w W) (v:BY) (hv:v ∈ a)=>CF.o W y x R v hv);obtain⟨g,hg⟩:∃g:BY->Bool,f x=g:=⟨_,rfl⟩;rw[hg]at CX |-;obtain⟨ab,d8⟩:=Nm ((op.toList==[97,98,115,101,110,116]));clear CF q R hg
  cases ab
  all_goals
   go_enter func182,ntmps182
   go_upto_region 1 with fail
   rw[D.o];go_wp2_with(go_at_call 146;apply I.o.mono;rintro e H⟨rfl,h⟩;have L:=zi h x0;have r2:=zi h x2;have M:=zi h x3;have z0:=zi h y0;have z1:=zi h y1;have z2:=zi h y2;have z3:=zi h y3;have i:G6 (BQ w H):=C.o.trans (h.mono C.o.size);clear h)
   go_loopw [7,8] (λX G wr=>∃k:Nat,k<=a.length/\G=R9 k/\X=.bool ((a.take k).any g)/\BQ w wr/\(wr.cell? (G8 w.heap.size 0)=some (S9 op)/\wr.cell? (G8 w.heap.size 2)=some (TL xo a.length V)/\wr.cell? (G8 w.heap.size 3)=some (.bool no))/\wr.cell? (G8 (w.heap.size+1) 0)=some (S9 t)/\wr.cell? (G8 (w.heap.size+1) 1)=some (S9 l)/\wr.cell? (G8 (w.heap.size+1) 2)=some (S9 on)/\wr.cell? (G8 (w.heap.size+1) 3)=some (TL ao T.length cap)) (λ_ G _=>a.length-(intOf G).toNat)
   case atStart=>exact⟨0,zD _,rfl,by simp,i.o,⟨L,r2,M⟩,z0,z1,z2,z3⟩
   case round=>
    obtain⟨k,hk,rfl,rfl,y,⟨g0,g2,g3⟩,q0,q1,q2,q3⟩:=hrel;have N:=G7 y;clear y i L r2 M z0 z1 z2 z3 x0 x1 x2 x3 y0 y1 y2 y3
    by_cases hlt:k<a.length
    ·rcases HR.o with e|⟨gb,o,rfl,hc⟩
     ·subst e;simp at hlt
     have p0:=zi N.o (hc k hlt);have CC:=G7 (CX.o wr.drew N.o.drew a[k] (qm hlt));have d:=G7 (sw a g k hlt);obtain⟨p,Q⟩:=Nm (a[k]);rw[Q]at p0 CC d;obtain⟨F,hF⟩:=Nm (g p);rw[hF]at CC d;obtain⟨j,K⟩:=Nm ((a.take k).any g);rw[K]at d |-;clear hc Q hF K
     cases j
     all_goals
      go_wp2_with fail
      go_region_held3 (λs=>s.cell? (G8 w.heap.size 0)=some (S9 op)/\s.cell? (G8 w.heap.size 2)=some (TL (some (G8 gb o)) a.length V)/\s.cell? (G8 gb (o+k))=some (S9 p)/\s.cell? (G8 (w.heap.size+1) 0)=some (S9 t)/\s.cell? (G8 (w.heap.size+1) 1)=some (S9 l)/\s.cell? (G8 (w.heap.size+1) 2)=some (S9 on)/\s.cell? (G8 (w.heap.size+1) 3)=some (TL ao T.length cap)) (go_keep) (first
       | ((go_at_call 211);apply CC.o.mono;rintro e w2⟨rfl,h⟩;have u:BQ wr w2:=((zf _ wr).drew.trans h);have L:=zi u g0;have r2:=zi u g2;have M:=zi u g3;have z0:=zi u q0;have z1:=zi u q1;have z2:=zi u q2;have z3:=zi u q3;have r6:=zi u p0;have b3:G6 (BQ w w2):=N.o.trans (u.mono N.o.size);clear h u))
      all_goals
       go_wp2_with fail;go_roundw
       case rel=>exact⟨k+1,by omega,by go_num,by rw[d.o];rfl,b3.o,⟨L,r2,M⟩,z0,z1,z2,z3⟩
       case measure=>simp[intOf];omega
    have b7:k=a.length:=by omega
    subst b7;rw[UU];obtain⟨j,K⟩:=Nm (a.any g);rw[K];have HY:=G7 K;clear K;go_wp2;go_ret;exact⟨by rw[HY.o];rfl,N.o⟩
theorem Il{α:Type}(l:List α)(f:α->Bool)(k:Nat)(h:k<l.length):(l.take (k+1)).all f=((l.take k).all f&&f l[k]):=by
 rw[Qg,zn h,VE]
 simp
structure JL (s:zS):Prop where
 who:s.who.2.length<=100000
 act:s.act.2.length<=100000
 on:s.on.2.length<=100000
 ifs:s.ifs.length<=100000
 vals:∀c ∈ s.ifs,c.vals.length<=100000/\∀v ∈ c.vals,v.size<=100000
theorem JL.of{s:zS}(h:YC s):JL s:=
 ⟨by have:=h.who.1;omega,by have:=h.act.1;omega,by have:=h.on.1;omega,by have:=h.len;omega,λc a=>⟨by have:=(h.cs c a).2.2.1;omega,λv b=>by have:=(h.cs c a).2.2.2 v b;omega⟩⟩
def VS(W:J)(b:Nat)(a e c f d g h u0 u1 u2 u3:Y):Prop:=
 W.cell? (G8 b 1)=some a/\W.cell? (G8 b 2)=some e/\W.cell? (G8 b 3)=some c/\W.cell? (G8 b 4)=some f/\W.cell? (G8 b 5)=some d/\W.cell? (G8 b 6)=some g/\W.cell? (G8 b 7)=some h/\W.cell? (G8 (b+1) 0)=some u0/\W.cell? (G8 (b+1) 1)=some u1/\W.cell? (G8 (b+1) 2)=some u2/\W.cell? (G8 (b+1) 3)=some u3
theorem VS.below{W W':J}{b:Nat}{c f d g e i j u0 u1 u2 u3:Y}(h:VS W b c f d g e i j u0 u1 u2 u3)(a:BQ W W'):VS W' b c f d g e i j u0 u1 u2 u3:=by
 obtain⟨o,p,q,r,s,t,u,k,l,m,n⟩:=h;exact⟨zi a o,zi a p,zi a q,zi a r,zi a s,zi a t,zi a u,zi a k,zi a l,zi a m,zi a n⟩
theorem IE(s:zS)(l1 l2 l3 lc:Y)(r:U.Req)(ao:Option Addr)(cap:Nat)(w:J)(D:Yk w l1 l2 l3 lc s)(hf:JM s)(hn:JL s)(p:qK w ao r.marks)(i:U.qR r=true):R8 134 #[.agg #[S9 s.eff,.bool s.who.1,l1,.bool s.act.1,l2,.bool s.on.1,l3,lc],U.zX r ao cap] w (G5 (.bool (De.Je s r)) w):=by
 obtain⟨k1,k2,k3⟩:=nV i;have c1:=λ(W:J) (h:BQ w W)=>pu s.who r.who r ao cap l1 W hf.who hn.who (kR D.who h) (xh p h) i (Yo k1).1;have c2:=λ(W:J) (h:BQ w W)=>pu s.act r.act r ao cap l2 W hf.act hn.act (kR D.act h) (xh p h) i (Yo k2).1;have c3:=λ(W:J) (h:BQ w W)=>pu s.on r.on r ao cap l3 W hf.on hn.on (kR D.on h) (xh p h) i (Yo k3).1;have c4:=λ(W:J) (h:BQ w W) (c:qj) (hc:c ∈ s.ifs) (lv:Y) (hl:yt W lv c.vals)=>SG c lv r ao cap W hl (hf.ifs c hc) (hn.vals c hc).1 (xh p h) i;have b5:=D.ifs;obtain⟨a1,y1,e1,_⟩:=D.who;obtain⟨a2,y2,e2,_⟩:=D.act;obtain⟨a3,y3,e3,_⟩:=D.on;have f2:=hn.ifs;unfold De.Je;obtain⟨A,hA⟩:=Nm (De.Qw s.who r.who r);obtain⟨B,hB⟩:=Nm (De.Qw s.act r.act r);obtain⟨C,hC⟩:=Nm (De.Qw s.on r.on r);obtain⟨f,hF⟩:∃f:qj->Bool,(λc=>De.Ya c r)=f:=⟨_,rfl⟩
 have cF:∀(W:J) (h:BQ w W) (c:qj) (hc:c ∈ s.ifs) (lv:Y) (hl:yt W lv c.vals),R8 182 #[.agg #[S9 c.op,S9 c.key,lv,.bool c.no],U.zX r ao cap] W (G5 (.bool (f c)) W):=by
  rw[<- hF];exact c4
 rw[hA]at c1;rw[hB]at c2;rw[hC]at c3;rw[hA,hB,hC,hF];clear hA hB hC hF c4 hf hn D k1 k2 k3;obtain⟨z,x,on,ms⟩:=r;obtain⟨eff,⟨n1,s1⟩,⟨n2,s2⟩,⟨n3,s3⟩,b⟩:=s;unfold U.zX at c1 c2 c3 cF |-;simp only at c1 c2 c3 cF b5 f2 e1 e2 e3 |-;subst e1 e2 e3;obtain⟨xo,xc,rfl,E⟩:=b5;obtain⟨z1,b8⟩:=Nm s1.length;obtain⟨z2,b9⟩:=Nm s2.length;obtain⟨z3,c0⟩:=Nm s3.length;rw[b8]at c1 |-;rw[b9]at c2 |-;rw[c0]at c3 |-;clear b8 b9 c0;obtain⟨W2,y⟩:=Nm ((w.alloc (L8 #[S9 eff,.bool n1,TL a1 z1 y1,.bool n2,TL a2 z2 y2,.bool n3,TL a3 z3 y3,TL xo b.length xc] 173)).alloc (L8 #[S9 z,S9 x,S9 on,TL ao ms.length cap] 35));have b2:BQ w W2:=by rw[<- y];exact(nbl w _).alloc (by simp) _
 have b0:VS W2 w.heap.size (.bool n1) (TL a1 z1 y1) (.bool n2) (TL a2 z2 y2) (.bool n3) (TL a3 z3 y3) (TL xo b.length xc) (S9 z) (S9 x) (S9 on) (TL ao ms.length cap):=by
  rw[<- y];exact⟨by simp,by simp,by simp,by simp,by simp,by simp,by simp,by simp,by simp,by simp,by simp⟩
 have⟨a9,AI,B2,C1,C2,C3,CF,HR⟩:=M9 y b0 b2 c1 c2 c3 cF E;obtain⟨K,L,M,N,O,P,Q,R,S,V,X⟩:=b0;clear y b2 c1 c2 c3 cF E p i;go_enter func134,ntmps134
 go_upto_region 1 with fail
 rw[a9.o]
 go_upto_region 2 with(go_at_call 181;apply(C1.o W2 B2.o).mono;rintro e w3⟨rfl,d⟩;have t:G6 (BQ w w3):=B2.o.trans (d.mono B2.o.size);have G:=G7 (AI.o.below d);clear d)
 clear K L M N O P Q R S V X AI B2 a9;obtain⟨K,L,M,N,O,P,Q,R,S,V,X⟩:=G.o
 go_upto_region 3 with(go_at_call 181;apply(C2.o w3 t.o).mono;rintro e w4⟨rfl,d⟩;have u:G6 (BQ w w4):=t.o.trans (d.mono t.o.size);have H:=G7 (G.o.below d);clear d)
 clear K L M N O P Q R S V X G t;obtain⟨K,L,M,N,O,P,Q,R,S,V,X⟩:=H.o
 go_upto_region 4 with(go_at_call 181;apply(C3.o w4 u.o).mono;rintro e w5⟨rfl,d⟩;have a8:G6 (BQ w w5):=u.o.trans (d.mono u.o.size);have a6:=G7 (H.o.below d);clear d)
 clear K L M N O P Q R S V X H u
 go_cut [8] (λv wx=>v=.bool (A&&B&&C)/\wx=w5)
 case first=>
  cases A<;>cases B
  all_goals
   go_wp2_with fail
   go_meet
   case rel=>exact⟨by simp,rfl⟩
 case rest=>
  obtain⟨rfl,rfl⟩:=hcut;obtain⟨T,hT⟩:=Nm ((A&&B&&C));have HT:=G7 hT;rw[hT];clear hT;go_wp2_with fail
  go_loopw [8,9] (λyv kv wr=>∃k:Nat,k<=b.length/\kv=R9 k/\yv=.bool (T&&(b.take k).all f)/\BQ w wr/\VS wr w.heap.size (.bool n1) (TL a1 z1 y1) (.bool n2) (TL a2 z2 y2) (.bool n3) (TL a3 z3 y3) (TL xo b.length xc) (S9 z) (S9 x) (S9 on) (TL ao ms.length cap)) (λ_ kv _=>b.length-(intOf kv).toNat)
  case atStart=>exact⟨0,zD _,rfl,by simp,a8.o,a6.o⟩
  case round=>
   obtain⟨k,hk,rfl,rfl,h,b3⟩:=hrel;have⟨q,d7⟩:=D5 h b3;obtain⟨K,L,M,N,O,P,Q,R,S,V,X⟩:=b3;clear h K L M N O P a6 a8
   by_cases hlt:k<b.length
   ·rcases HR.o with e|⟨gb,o,rfl,hc⟩
    ·subst e;simp at hlt
    obtain⟨lv,d0,d1,d2,d3,d4⟩:=hc k hlt;obtain⟨la,lc,rfl,_⟩:=Y1 d4;have t0:=zi q.o d0;have t1:=zi q.o d1;have t2:=zi q.o d2;have t3:=zi q.o d3;have CC:=G7 (CF.o wr.drew q.o.drew b[k] (qm hlt) _ (kR d4 q.o.drew));have g:=G7 (Il b f k hlt);obtain⟨c,b4⟩:=Nm (b[k]);rw[b4]at t0 t1 t2 t3 CC g;obtain⟨F,hF⟩:=Nm (f c);rw[hF]at CC g;obtain⟨a,I⟩:=Nm ((T&&(b.take k).all f));have f0:G6 ((T&&(b.take (k+1)).all f)=(a&&F)):=G7 (by rw[g.o,<- Bool.and_assoc,I]);rw[I];obtain⟨op,key,c5,no⟩:=c;simp only at t0 t1 t2 t3 CC;obtain⟨m,b7⟩:=Nm c5.length;rw[b7]at t2 CC;clear hc b4 hF I d0 d1 d2 d3 d4 g b7
    cases a
    all_goals
     go_wp2_with fail
     go_region_held3 (λj=>j.cell? (G8 w.heap.size 7)=some (TL (some (G8 gb o)) b.length xc)/\j.cell? (G8 gb (o+k*4))=some (S9 op)/\j.cell? (G8 gb (o+k*4+1))=some (S9 key)/\j.cell? (G8 gb (o+k*4+2))=some (TL la m lc)/\j.cell? (G8 gb (o+k*4+3))=some (.bool no)/\j.cell? (G8 (w.heap.size+1) 0)=some (S9 z)/\j.cell? (G8 (w.heap.size+1) 1)=some (S9 x)/\j.cell? (G8 (w.heap.size+1) 2)=some (S9 on)/\j.cell? (G8 (w.heap.size+1) 3)=some (TL ao ms.length cap)) (go_keep) (first
      | ((go_at_call 182);apply CC.o.mono;rintro e w6⟨rfl,d⟩;have l:BQ wr w6:=((zf _ wr).drew.trans d);have r7:=zi l Q;have s0:=zi l t0;have s1:=zi l t1;have s2:=zi l t2;have s3:=zi l t3;have r0:=zi l R;have r1:=zi l S;have r2:=zi l V;have r3:=zi l X;have d6:=G7 (d7.o.below l);have d8:G6 (BQ w w6):=q.o.trans (l.mono q.o.size);clear d l))
     all_goals
      go_wp2_with fail;go_roundw
      case rel=>exact⟨k+1,by omega,by go_num,by rw[f0.o];rfl,d8.o,d6.o⟩
      case measure=>simp[intOf];omega
   have f1:k=b.length:=by omega
   subst f1;rw[UU];obtain⟨a,I⟩:=Nm ((T&&b.all f));rw[I];have HY:=G7 I;clear I;go_wp2;go_ret;exact⟨by rw[HT.o,HY.o];rfl,q.o⟩
end Go.Proofs.YtfjpcldndaiifaaGreatDoor
