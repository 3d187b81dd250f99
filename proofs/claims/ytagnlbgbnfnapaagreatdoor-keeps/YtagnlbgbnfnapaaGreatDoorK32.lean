/- P -/
import Derived.Test.YtagnlbgbnfnapaaGreatDoorK31
open Go.Proofs.Tryz
set_option maxRecDepth 100000
set_option maxHeartbeats 4000000
namespace Go.Proofs.YtagnlbgbnfnapaaGreatDoor
def U9(c:xG):Prop:=(Ref.xO c.op=true/\c.vals=[])\/(Ref.xO c.op=false/\Ref.Zn c.op c.vals=true/\(Ref.yc c.op=true->∀v ∈ c.vals,Ref.qF v=true))
structure Ka (s:qp):Prop where
 who:∀p ∈ s.who.2,Ref.qF p=true
 act:∀p ∈ s.act.2,Ref.qF p=true
 on:∀p ∈ s.on.2,Ref.qF p=true
 ifs:∀c ∈ s.ifs,U9 c
theorem BV(v:Rd.V)(c:(Rd.qX v).sh=false)(e:(Rd.qX v).pt=false):U9 (toS (Rd.qX v)):=by
 match v with
 | .str s=>exact absurd c (by simp[Rd.qX,Ref.yf])
 | .word b=>exact absurd c (by simp[Rd.qX,Ref.yf])
 | .list l=>exact absurd c (by simp[Rd.qX,Ref.yf])
 | .obj ms=>
  obtain⟨R,a⟩:=Nm (Rd.qX (.obj ms));rw[a] at c e |-;simp only[Rd.qX,Rd.Xm] at a
  cases h1:Rd.opV (Rd.zm ms Ref.bOp) with
  | none=>rw[h1] at a;subst a;simp[Ref.yf] at c
  | some op=>
   rw[h1] at a
   cases h2:Rd.opV (Rd.zm ms Ref.zD) with
   | none=>rw[h2] at a;subst a;simp[Ref.yf] at c
   | some key=>
    rw[h2] at a;simp only at a
    by_cases ca:Ref.xO op=true
    ·rw[zb ca] at a;subst a;exact .inl ⟨ca,rfl⟩
    ·rw[za ca] at a;subst a;simp only[eO,U3] at c;refine .inr ⟨Bool.eq_false_iff.2 ca,c.1.1.2.2,λf v g=>?_⟩;have d:Ref.yc op=true:=f;simp only[d,Z0,U3] at e;exact Yx.1 e v g
theorem KR{c:Bool×Option (List BY)}(h:Rd.chP c=false):∀p ∈ (Rd.chD c).2,Ref.qF p=true:=by
 unfold Rd.chP at h;rw[U3] at h;exact λp a=>Yx.1 h p a
theorem Cm(x:Option Rd.V)(a:(Rd.xw x).sh=false)(e:(Rd.xw x).pt=false):∀c ∈ (Rd.xw x).cs.map toS,U9 c:=by
 intro c d
 match x with
 | none=>simp[Rd.xw] at d
 | some (.str s)=>simp[Rd.xw] at a
 | some (.word b)=>simp[Rd.xw] at a
 | some (.obj ms)=>simp[Rd.xw] at a
 | some (.list vs)=>
  simp only[Rd.xw] at a e d
  by_cases c5:5<vs.length
  ·rw[zb c5] at a;simp at a
  ·rw[za c5] at a e d;simp only[QB,Yy,Function.comp] at a e;simp only[ui,xR,Function.comp] at d;obtain⟨v,f,rfl⟩:=d;exact BV v (by simpa using a v f) (by simpa using e v f)
theorem Rk(v:Rd.V)(a:(Rd.xP v).sh=false)(c:(Rd.xP v).pt=false):Ka (vk (Rd.xP v)):=by
 match v with
 | .str s=>exact absurd a (by simp[Rd.xP,Rd.ji])
 | .word b=>exact absurd a (by simp[Rd.xP,Rd.ji])
 | .list l=>exact absurd a (by simp[Rd.xP,Rd.ji])
 | .obj ms=>
  simp only[Rd.xP,Rd.XB] at a c |-
  split at a
  ·rename_i eff d e;rw[d,e] at c;simp only[Rd.QT,eO] at a c;obtain⟨⟨⟨f,g⟩,h⟩,i⟩:=c;exact⟨KR f,KR g,KR h,Cm _ a.2 i⟩
  ·simp[Rd.ji] at a
theorem EW(s:BY)(h:(Rd.xe s).1=0):∀r ∈ jH s,Ka (vk r):=by
 unfold Rd.xe at h;unfold jH
 by_cases h1:4000<s.size
 ·rw[zb h1] at h;simp at h
 rw[za h1] at h;rw[za h1]
 cases hm:Rd.yC s.data.toList with
 | err e q=>intro r d;simp at d
 | ok v q=>
  rw[hm] at h;simp only at h |-
  match v with
  | .str t=>simp[Rd.jX] at h
  | .word b=>simp[Rd.jX] at h
  | .list l=>simp[Rd.jX] at h
  | .obj ms=>
   simp only[Rd.jX] at h
   match hx:Rd.zm ms Rd.yF with
   | none=>rw[hx] at h;simp at h
   | some (.str t)=>rw[hx] at h;simp at h
   | some (.word b)=>rw[hx] at h;simp at h
   | some (.obj ms)=>rw[hx] at h;simp at h
   | some (.list vs)=>
    rw[hx] at h;simp only at h;have f:qo (stX (.obj ms))=vs:=by simp[qo,stX,hx]
    rw[f]
    by_cases c:ms.length≠1\/vs.length<1\/10<vs.length
    ·rw[zb c] at h;simp at h
    rw[za c] at h;intro r d;obtain⟨a,b⟩:=az _ _ h r d;rw[xR] at d;obtain⟨v,f,rfl⟩:=d;exact Rk v a b
end Go.Proofs.YtagnlbgbnfnapaaGreatDoor
namespace Go.Proofs.YtagnlbgbnfnapaaGreatDoor
open Go.RowKit
abbrev StO:=Nat->List zK
def upd(st:StO)(i:Nat)(L:List zK):StO:=λj=>if j=i then L else st j
def VM(a:List qp):Prop:=a.length<=10/\(∀s ∈ a,XR s)/\∀s ∈ a,Ka s
def Z7(L:List zK):Prop:=jb L/\L.length<=4/\∀x ∈ L,VM x.2
theorem Z7.less{L:List zK}(h:Z7 L)(p:Nat):Z7 (kQ L p):=
 ⟨h.1.less p,IW p h.2.1,λx a=>h.2.2 x (by
  unfold kQ at a
  rcases jy.1 a with a|a
  ·exact VE a
  ·exact VD a)⟩
theorem Z7.with{L:List zK}(h:Z7 L){name:BY}{b:List qp}(c:(zq L name||decide (L.length<4))=true)(d:VM b):Z7 (uh L name b):=
 ⟨h.1.with name b,Ti h.2.1 c,λx a=>by
  unfold uh at a
  rcases jy.1 a with a|a
  ·rcases jy.1 a with a|a
   ·exact h.2.2 x (VE a)
   ·rw[xL] at a;subst a;exact d
  ·exact h.2.2 x (VD a)⟩
structure yE (M:Nat->Prop) (W:World) (ob:Nat) (st:StO):Prop where
 mine:M ob
 row:∃vs:Nat->Value,W.heap[ob]?=some (.cells #[vs 0,vs 1,vs 2,vs 3] 81)/\∀i,i<4->xI M W (vs i) (st i)
 good:∀i,i<4->Z7 (st i)
theorem lt4{i:Nat}(h:i<4):i=0\/i=1\/i=2\/i=3:=by omega
theorem yE.below{M:Nat->Prop}{W W':World}{ob:Nat}{st:StO}(h:yE M W ob st)(hb:Below W.heap.size W W'):yE M W' ob st:=by
 obtain⟨c,a,b⟩:=h.row;exact⟨h.mine,⟨c,(hb.block ob (zy a)).trans a,λi hi=>(b i hi).turn (zw.of hb)⟩,h.good⟩
theorem Xu(a:Nat->Value){i:Nat}(h:i<4):(#[a 0,a 1,a 2,a 3]:Array Value)[i]?=some (a i):=by
 rcases lt4 h with rfl|rfl|rfl|rfl<;>rfl
theorem Fh(a:Nat->Value)(v:Value){i:Nat}(h:i<4):(#[a 0,a 1,a 2,a 3]:Array Value).setIfInBounds i v=#[if 0=i then v else a 0,if 1=i then v else a 1,if 2=i then v else a 2,if 3=i then v else a 3]:=by
 rcases lt4 h with rfl|rfl|rfl|rfl<;>rfl
theorem yE.set{M:Nat->Prop}{W:World}{ob:Nat}{st:StO}(h:yE M W ob st){i:Nat}(hi:i<4){v:Value}{L:List zK}(k:xI M W v L)(g:Z7 L):yE M (W.setCell ⟨ob,i,none⟩ v) ob (upd st i L):=by
 obtain⟨b,d,f⟩:=h.row;have c:=zw.set (M:=M) W h.mine i v;refine⟨h.mine,⟨λj=>if j=i then v else b j,?_,λj a=>?_⟩,λj a=>?_⟩
 ·have:=yz W ob i _ _ v d
  rw[Fh b v hi] at this;exact this
 ·show xI M _ (if j=i then v else b j) (if j=i then L else st j)
  by_cases e:j=i
  ·rw[zb e,zb e];exact k.turn c
  ·rw[za e,za e];exact (f j a).turn c
 ·unfold upd
  by_cases e:j=i
  ·rw[zb e];exact g
  ·rw[za e];exact h.good j a
def ZK:StO:=λ_=>[]
theorem Mg(M:Nat->Prop)(w:World)(c:M w.heap.size) :
  Calls prog 12 #[] w λe w'=>e = .returned (.pointer (some ⟨w.heap.size,0,none⟩))/\Below w.heap.size w w'/\yE M w' w.heap.size ZK:=by
 have a:yE M (w.alloc (.cells #[.slice none 0 0,.slice none 0 0,.slice none 0 0,.slice none 0 0] 81)) w.heap.size ZK:=
  ⟨c,⟨λ_ => .slice none 0 0,zQ w _,λi _=>nu M _⟩,λi _=>⟨Kb,by simp[ZK],λx d=>by simp[ZK] at d⟩⟩
 have b:=hid a;clear a;go_enter func12,ntmps12
 go_wp2
 go_ret;exact⟨rfl,nbl w _,b.out⟩
def QP(st:StO)(l:Int)(name:BY):Int:=if qw l name=0 then (if zq (st l.toNat) name then 0 else 9) else qw l name
def QQ(st:StO)(l:Int)(name:BY):StO:=if qw l name=0/\zq (st l.toNat) name=true then upd st l.toNat (kQ (st l.toNat) (qz (st l.toNat) name)) else st
theorem Y7{l:Int}{name:BY}(h:qw l name=0):∃i:Nat,l=(i:Int)/\i<4/\Ref.qh name=true:=by
 unfold qw at h
 cases h1:jh l with
 | false=>rw[h1] at h;simp at h
 | true=>
  rw[h1] at h
  cases h2:Ref.qh name with
  | false=>rw[h2] at h;simp at h
  | true=>
   unfold jh at h1;rw[Jh,Zj,Zj] at h1;exact⟨l.toNat,by omega,by omega,rfl⟩
theorem DK(ob:Nat)(st:StO)(l:Int)(name:BY)(M:Nat->Prop)(w:World)(h:yE M w ob st)(B:∀b,M b->b<w.heap.size)(hs:name.size<=maxLen) :
  Calls prog 16 #[.pointer (some ⟨ob,0,none⟩),.int .i64 l,.string name] w λe w'=>e = .returned (.int .i64 (QP st l name))/\zw (λb=>b=ob) w w'/\yE M w' ob (QQ st l name):=by
 have y:=bV l name w hs
 by_cases hpl:qw l name=0
 ·obtain⟨i,rfl,hi,L⟩:=Y7 hpl;have Q:QP st (i:Int) name=if zq (st i) name then 0 else 9:=by unfold QP;rw[zb hpl];rfl
  have T:QQ st (i:Int) name=if zq (st i) name=true then upd st i (kQ (st i) (qz (st i) name)) else st:=by
   unfold QQ;simp only[xQ,hpl,true_and]
  rw[Q,T];rw[hpl] at y;have D:=hid y;have r:=hid h;have HM:=hid B;have a1:ob<w.heap.size:=B ob h.mine
  have J:∀(W:World) (v:Value),yE M W ob st->Below w.heap.size w W->xI M W v (st i)->Calls prog 31 #[v,.string name] W λe w'=>∃v,e = .returned (.tuple #[v,.bool (zq (st i) name)])/\Below W.heap.size W w'/\(zq (st i) name=true->xI M w' v (kQ (st i) (qz (st i) name))):=λW v S hb hl=>
   Tk (st i) v name M W hl (by have:=(S.good i hi).2.1;omega) ((S.good i hi).1.down name) (λb K=>xM (B b K) hb.size)
  have U:=(h.good i hi);have t:=U.less (qz (st i) name);obtain⟨b,hb⟩:=Nm (zq (st i) name);obtain⟨LN,p⟩:∃x,kQ (st i) (qz (st i) name)=x:=⟨_,rfl⟩;simp only[hb,p] at J;simp only[hb,p];rw[p] at t;clear Q T;have F:=hid J;have X:=hid t;have k0:(0:Int)<=(i:Int):=zZ _;have k1:(i:Int)<4:=by omega
  clear y J U t hpl hb p B L
  cases b with
  | false=>
   simp only[vo,jN];go_enter func16,ntmps16
   go_upto_region 4 with (go_at_call 24;refine D.out.mono ?_;rintro e w1 ⟨rfl,s⟩;have f:=hid s;clear s)
   obtain⟨q,j,g⟩:=(r.out.below f.out).row;have G:w1.cell? ⟨ob,i,none⟩=some (q i):=(zg j i).1.trans (Xu q hi);obtain⟨la,ln,lc,z⟩:∃a n c,q i = .slice a n c:=by obtain⟨a,c,e,_⟩:=g i hi;exact⟨a,_,c,e⟩
   have k:=g i hi;rw[z] at G k;have H:=hid (F.out w1 _ (r.out.below f.out) f.out k);clear j g z k F
   go_wp2_with (go_at_call 31;refine H.out.mono ?_;rintro e O ⟨v,rfl,u,_⟩;have o:=hid (f.out.trans (u.mono f.out.size));clear u)
   go_ret;exact⟨rfl,zw.of o.out,r.out.below o.out⟩
  | true=>
   simp only[xy];go_enter func16,ntmps16
   go_upto_region 4 with (go_at_call 24;refine D.out.mono ?_;rintro e w1 ⟨rfl,s⟩;have f:=hid s;clear s)
   obtain⟨q,j,g⟩:=(r.out.below f.out).row;have G:w1.cell? ⟨ob,i,none⟩=some (q i):=(zg j i).1.trans (Xu q hi);obtain⟨la,ln,lc,z⟩:∃a n c,q i = .slice a n c:=by obtain⟨a,c,e,_⟩:=g i hi;exact⟨a,_,c,e⟩
   have k:=g i hi;have I:=hid j;rw[z] at G k;have H:=hid (F.out w1 _ (r.out.below f.out) f.out k);have f1:=(zg j i).2;clear j g k F
   go_upto_region 7 with (go_at_call 31;refine H.out.mono ?_;rintro e O ⟨v,rfl,u,C⟩;have P:=hid (C (by trivial));have A:=hid u;have o:=hid (f.out.trans (u.mono f.out.size));clear u C)
   have m:=(A.out.block ob (by have:=f.out.size;omega)).trans I.out;have Z:O.cell? ⟨ob,i,none⟩=some (q i):=(zg m i).1.trans (Xu q hi);have f2:=(zg m i).2;obtain⟨va,vn,vc,N⟩:∃a n c,v = .slice a n c:=by obtain⟨a,c,e,_⟩:=P.out;exact⟨a,_,c,e⟩
   subst N;have V:=hid ((r.out.below o.out).set hi P.out X.out);have Y:=hid ((zw.of (M:=λb=>b=ob) o.out).trans (zw.set (M:=λb=>b=ob) O rfl i (.slice va vn vc)));rw[z] at Z;clear m z G f1;go_wp2_with fail;go_ret;exact⟨rfl,Y.out,V.out⟩
 ·unfold QP QQ;rw[za hpl,za (λe=>hpl e.1)];obtain⟨E,R⟩:∃x,qw l name=x:=⟨_,rfl⟩;rw[R] at y hpl |-;have D:=hid y;have r:=hid h;have d:(E==0)=false:=by simpa using hpl
  have d2:(E != 0)=true:=by simpa using hpl
  clear y R h B;go_enter func16,ntmps16
  go_wp2_with (go_at_call 24;refine D.out.mono ?_;rintro e w1 ⟨rfl,s⟩;have f:=hid s;clear s)
  go_ret;exact⟨rfl,zw.of f.out,r.out.below f.out⟩
def QU(l:Int):Int:=if jh l then 0 else 7
def Xw(st:StO)(l:Int):List BY:=if jh l then (st l.toNat).map Prod.fst else []
theorem Me(ob:Nat)(st:StO)(l:Int)(M:Nat->Prop)(w:World)(h:yE M w ob st) :
  Calls prog 15 #[.pointer (some ⟨ob,0,none⟩),.int .i64 l] w λe w'=>∃lv,e = .returned (.tuple #[lv,.int .i64 (QU l)])/\zz w' w.heap.size lv (Xw st l)/\Below w.heap.size w w':=by
 have c1:=mM l w;unfold QU Xw
 cases hl:jh l with
 | false=>
  rw[hl] at c1;have k:=hid c1;simp only[vo,jN];clear c1 h hl;go_enter func15,ntmps15
  go_wp2_with (go_at_call 29;refine k.out.mono ?_;rintro e w1 ⟨rfl,f⟩;rw[f];clear f)
  go_ret2;exact⟨_,rfl,⟨rfl,.inl ⟨rfl,rfl⟩⟩,zf _ _⟩
 | true=>
  rw[hl] at c1;have k:=hid c1;simp only[xy];unfold jh at hl;rw[Jh,Zj,Zj] at hl;obtain⟨i,rfl⟩:∃i:Nat,l=(i:Int):=⟨l.toNat,by omega⟩;have hi:i<4:=by omega
  obtain⟨j,d,b⟩:=h.row;have t:w.cell? ⟨ob,i,none⟩=some (j i):=(zg d i).1.trans (Xu j hi);have g:=IM (st i) (j i) M w (b i hi) (by have:=(h.good i hi).2.1;omega);obtain⟨x,z,y,p⟩:∃a n c,j i = .slice a n c:=by obtain⟨a,c,e,_⟩:=b i hi;exact⟨a,_,c,e⟩
  rw[p] at t g;unfold XN at g;have m:((i:Int)).toNat=i:=xQ i;rw[m];have q:=hid g;have u:(0:Int)<=(i:Int):=zZ _;have v:(i:Int)<4:=by omega
  clear c1 h hl d b g p m;go_enter func15,ntmps15
  go_wp2_with (first
   | (go_at_call 30;refine q.out.mono ?_;rintro e A ⟨lv,rfl,o,hb⟩;have s:=hid o;have r:=hid hb;clear o hb)
   | (go_at_call 29;refine k.out.mono ?_;rintro e w1 ⟨rfl,f⟩;rw[f];clear f))
  go_ret2;exact⟨lv,rfl,s.out,r.out⟩
def Q0(st:StO)(l:Int)(name:BY):Int:=if qw l name=0 then (if zq (st l.toNat) name then 0 else 9) else qw l name
def X5(st:StO)(l:Int)(name:BY):List qp:=match (st l.toNat)[qz (st l.toNat) name]? with
 | some x=>x.2
 | none=>[]
def QZ(st:StO)(l:Int)(name:BY):BY:=if qw l name=0/\zq (st l.toNat) name=true then QO (X5 st l name) else ⟨#[]⟩
theorem Px(ob:Nat)(st:StO)(l:Int)(name:BY)(M:Nat->Prop)(w:World)(h:yE M w ob st)(hs:name.size<=maxLen) :
  Calls prog 38 #[.pointer (some ⟨ob,0,none⟩),.int .i64 l,.string name] w λe w'=>e = .returned (.tuple #[.string (QZ st l name),.int .i64 (Q0 st l name)])/\Below w.heap.size w w':=by
 have u:=bV l name w hs
 by_cases hpl:qw l name=0
 ·obtain⟨i,rfl,hi,V⟩:=Y7 hpl;have F:Q0 st (i:Int) name=if zq (st i) name then 0 else 9:=by unfold Q0;rw[zb hpl];rfl
  have Z:QZ st (i:Int) name=if zq (st i) name=true then QO (X5 st (i:Int) name) else ⟨#[]⟩:=by
   unfold QZ;simp only[xQ,hpl,true_and]
  rw[F,Z];rw[hpl] at u;have N:=hid u;have X:=hid h;have p:∀x,(st i)[qz (st i) name]?=some x->X5 st (i:Int) name=x.2:=λx s=>by unfold X5;simp only[xQ];rw[s]
  have J:∀x,(st i)[qz (st i) name]?=some x->VM x.2:=λx s=>(h.good i hi).2.2 x (qL s)
  have U:∀(W:World) (v:Value),Below w.heap.size w W->xI M W v (st i)->Calls prog 81 #[v,.string name] W λe w'=>∃B D C,e = .returned (.tuple #[.agg #[.slice B D C],.bool (zq (st i) name)])/\Below W.heap.size W w'/\(zq (st i) name=true->∃x,(st i)[qz (st i) name]?=some x/\yM M w' (.slice B D C) x.2):=λW v hb hl=>
   IL (st i) v name M W hl (by have:=(h.good i hi).2.1;omega) ((h.good i hi).1.down name)
  obtain⟨b,hb⟩:=Nm (zq (st i) name);simp only[hb] at U;simp only[hb];have P:=hid U;have HD:=hid p;have HS:=hid J;have k0:(0:Int)<=(i:Int):=zZ _;have k1:(i:Int)<4:=by omega
  clear u U p J hpl hb V Z F
  cases b with
  | false=>
   simp only[vo,jN];go_enter func38,ntmps38
   go_upto_region 4 with (go_at_call 24;refine N.out.mono ?_;rintro e w1 ⟨rfl,o⟩;have f:=hid o;clear o)
   obtain⟨t,j,g⟩:=(X.out.below f.out).row;have T:w1.cell? ⟨ob,i,none⟩=some (t i):=(zg j i).1.trans (Xu t hi);obtain⟨la,ln,lc,K⟩:∃a n c,t i = .slice a n c:=by obtain⟨a,c,e,_⟩:=g i hi;exact⟨a,_,c,e⟩
   have k:=g i hi;rw[K] at T k;have O:=hid (P.out w1 _ f.out k);clear j g K k P
   go_wp2_with (go_at_call 81;refine O.out.mono ?_;rintro e L ⟨B,D,C,rfl,A,_⟩;have m:=hid (f.out.trans (A.mono f.out.size));clear A)
   go_ret2;exact⟨rfl,m.out.alloc m.out.size _⟩
  | true=>
   simp only[xy];go_enter func38,ntmps38
   go_upto_region 4 with (go_at_call 24;refine N.out.mono ?_;rintro e w1 ⟨rfl,o⟩;have f:=hid o;clear o)
   obtain⟨t,j,g⟩:=(X.out.below f.out).row;have T:w1.cell? ⟨ob,i,none⟩=some (t i):=(zg j i).1.trans (Xu t hi);obtain⟨la,ln,lc,K⟩:∃a n c,t i = .slice a n c:=by obtain⟨a,c,e,_⟩:=g i hi;exact⟨a,_,c,e⟩
   have k:=g i hi;rw[K] at T k;have O:=hid (P.out w1 _ f.out k);clear j g K k P
   go_upto_region 7 with (go_at_call 81;refine O.out.mono ?_;rintro e L ⟨B,D,C,rfl,A,I⟩;have z:=hid (I (by trivial));have m:=hid (f.out.trans (A.mono f.out.size));clear A I)
   obtain⟨x,s,H⟩:=z.out;have S:Below L.heap.size L (L.alloc (.cells #[.slice B D C] 84)):=nbl L _;obtain⟨base,G⟩:=(H.turn (zw.of S)).at;have r:=HS.out x s;have q:=Nw x.2 _ base _ G r.1 r.2.1;rw[<- HD.out x s] at q;have Q:=hid q;have y:=hid (m.out.trans (S.mono m.out.size));clear q G r H s S z O
   go_wp2_with (go_at_call 82;refine Q.out.mono ?_;rintro e w5 ⟨rfl,Y⟩;have R:=hid (y.out.trans (Y.mono y.out.size));clear Y)
   go_ret2;exact⟨rfl,R.out⟩
 ·unfold Q0 QZ;rw[za hpl,za (λe=>hpl e.1)];obtain⟨E,F⟩:∃x,qw l name=x:=⟨_,rfl⟩;rw[F] at u hpl |-;have N:=hid u;have d:(E==0)=false:=by simpa using hpl
  have d2:(E != 0)=true:=by simpa using hpl
  clear u F h;go_enter func38,ntmps38
  go_wp2_with (go_at_call 24;refine N.out.mono ?_;rintro e w1 ⟨rfl,o⟩;have f:=hid o;clear o)
  go_ret2;exact⟨rfl,f.out⟩
def QW(st:StO)(l:Int)(name text:BY):Bool:=decide (qw l name=0)&&decide ((Rd.xe text).1=0)&&(zq (st l.toNat) name||decide ((st l.toNat).length<4))
def uq(st:StO)(l:Int)(name text:BY):Int×Nat:=if qw l name=0 then (if (Rd.xe text).1=0 then (if zq (st l.toNat) name||decide ((st l.toNat).length<4) then (0,0) else (10,0)) else Rd.xe text) else (qw l name,0)
def uQ(st:StO)(l:Int)(name text:BY):StO:=if QW st l name text then upd st l.toNat (uh (st l.toNat) name (uz text)) else st
theorem SA(s:BY)(c:(Rd.xe s).1=0):VM (uz s):=by
 obtain⟨d,e,f⟩:=sJ s c;have g:uz s=(jH s).map vk:=f;rw[g];refine⟨by rw[qB];exact e,λx a=>?_,λx a=>?_⟩
 ·rw[xR] at a;obtain⟨r,b,rfl⟩:=a;exact PE (d r b).2
 ·rw[xR] at a;obtain⟨r,b,rfl⟩:=a;exact EW s c r b
theorem NP(ob:Nat)(st:StO)(l:Int)(name text:BY)(M:Nat->Prop)(aL:Addr)(w:World)(hC:Z5 w aL)(h:yE M w ob st)(hM:∀b,M b->b<w.heap.size)(hs:name.size<=maxLen) :
  Calls prog 13 #[.pointer (some ⟨ob,0,none⟩),.int .i64 l,.string name,.string text] w λe w'=>e = .returned (.tuple #[.int .i64 (uq st l name text).1,.int .i64 ((uq st l name text).2:Int)])/\zw (λb=>b=ob) w w'/\yE M w' ob (uQ st l name text):=by
 have cp:=bV l name w hs
 by_cases hpl:qw l name=0
 ·obtain⟨i,rfl,hi,U⟩:=Y7 hpl;rw[hpl] at cp;have CP:=hid cp;have HO:=hid h;have d7:=hid hC;have e5:ob<w.heap.size:=hM ob h.mine;have R:=λW (hb:Below w.heap.size w W)=>Du text W _ _ _ rfl (hC.below hb).q;have r:=SA text;have k0:(0:Int)<=(i:Int):=zZ _;have k1:(i:Int)<4:=by omega
  by_cases hd:(Rd.xe text).1=0
  ·have hA:uq st (i:Int) name text=if (zq (st i) name||decide ((st i).length<4))=true then (0,0) else (10,0):=by
    unfold uq;rw[zb hpl,zb hd]
    rfl
   have Z:uQ st (i:Int) name text=if (zq (st i) name||decide ((st i).length<4))=true then upd st i (uh (st i) name (uz text)) else st:=by
    unfold uQ QW;rw[zC hpl,zC hd];simp only[xQ,Z0]
   rw[hA,Z]
   have b4:name.size<=281474976710656:=by
    by_cases e:1<=name.size/\name.size<=12
    ·omega
    ·rw[Ref.JW name e] at U;cases U
   have cw:∀(W:World) (v:Value) (s:Option Addr) (n t:Nat),Below w.heap.size w W->xI M W v (st i)->yM M W (.slice s n t) (uz text)->Calls prog 27 #[v,.string name,.agg #[.slice s n t]] W λe w'=>∃v,e = .returned (.tuple #[v,.bool (zq (st i) name||decide ((st i).length<4))])/\Below W.heap.size W w'/\((zq (st i) name||decide ((st i).length<4))=true->xI M w' v (uh (st i) name (uz text))):=λW v s n t hb hl c5=>
    Tj (st i) v name s n t (uz text) M W hl (by have:=(h.good i hi).2.1;omega) ((h.good i hi).1.down name) (λb c4=>xM (hM b c4) hb.size) c5 b4
   have a6:(zq (st i) name||decide ((st i).length<4))=true->Z7 (uh (st i) name (uz text)):=λho=>(h.good i hi).with ho (r hd)
   obtain⟨b,hb⟩:=Nm ((zq (st i) name||decide ((st i).length<4)));simp only[hb] at cw a6;simp only[hb];obtain⟨⟨c,q⟩,F⟩:∃x,Rd.xe text=x:=⟨_,rfl⟩;rw[F] at hd;simp only[F] at R;unfold XJ at R;simp only at hd R;subst hd;have CR:=hid R;have HW:=hid cw;have b9:=hid a6;have HM:=hid hM;clear cp R cw a6 hA Z hb F r h hC hM hpl U
   cases b with
   | false=>
    simp only[vo,jN];go_enter func13,ntmps13
    go_upto_region 4 with (go_at_call 24;refine CP.out.mono ?_;rintro e w1 ⟨rfl,L⟩;have f:=hid L;clear L)
    have X:=hid (CR.out w1 f.out);clear CR
    go_upto_region 5 with (go_at_call 25;refine X.out.mono ?_;rintro e D ⟨s,n,t,u,rfl,C,Y,Q⟩;have J:=hid (Q (by trivial));have H:=hid C;have z:=hid (f.out.trans (Y.mono f.out.size));clear Y C Q)
    obtain rfl:u = .nilIface:=by
     rcases ak rfl H.out with ⟨_,e⟩|⟨e,_⟩
     ·exact e
     ·exact absurd rfl e
    obtain⟨g,k⟩:∃W,D.alloc (.cells #[.slice s n t] 84)=W:=⟨_,rfl⟩;have j:Hid (Below w.heap.size w g):=hid (by rw[<- k];exact z.out.alloc z.out.size _);have N:Below D.heap.size D g:=by rw[<- k];exact nbl D _
    have e0:g.cell? ⟨D.heap.size,0,none⟩=some (.slice s n t):=by rw[<- k];exact (zg (zQ D _) 0).1
    have B:yM M g (.slice s n t) (uz text):=yM.of (J.out.below N) (λb hb=>xM (HM.out b hb) f.out.size);obtain⟨V,o,m⟩:=(HO.out.below j.out).row;have c0:g.cell? ⟨ob,i,none⟩=some (V i):=(zg o i).1.trans (Xu V hi);obtain⟨xa,xn,xc,hv⟩:∃a n c,V i = .slice a n c:=by obtain⟨a,c,e,_⟩:=m i hi;exact⟨a,_,c,e⟩
    have S:Below g.heap.size g g.drew:=(zf _ g).drew;have K:=hid (HW.out g.drew (V i) s n t (j.out.trans (S.mono j.out.size)) ((m i hi).turn (zw.of S)) (B.turn (zw.of S)));have a9:=hid o;rw[hv] at c0 K;rw[k];clear o m B HW J X S N k
    go_upto_region 7 with fail
    go_region_held3 (λw'=>w'.cell? ⟨ob,i,none⟩=some (.slice xa xn xc)/\w'.cell? ⟨D.heap.size,0,none⟩=some (.slice s n t)) (go_keep) (first|((go_at_call 27);refine K.out.mono ?_;rintro e w5 ⟨v,rfl,I,O⟩;have a2:=hid O;have g0:=zi I c0;have g1:=zi I e0;have G:Hid (Below g.heap.size g w5):=(((zf _ g).drew).trans I);have A:=hid (j.out.trans (G.out.mono j.out.size));clear I O))
    go_wp2_with fail;go_ret2;exact⟨rfl,zw.of A.out,HO.out.below A.out⟩
   | true=>
    simp only[xy];go_enter func13,ntmps13
    go_upto_region 4 with (go_at_call 24;refine CP.out.mono ?_;rintro e w1 ⟨rfl,L⟩;have f:=hid L;clear L)
    have X:=hid (CR.out w1 f.out);clear CR
    go_upto_region 5 with (go_at_call 25;refine X.out.mono ?_;rintro e D ⟨s,n,t,u,rfl,C,Y,Q⟩;have J:=hid (Q (by trivial));have H:=hid C;have z:=hid (f.out.trans (Y.mono f.out.size));clear Y C Q)
    obtain rfl:u = .nilIface:=by
     rcases ak rfl H.out with ⟨_,e⟩|⟨e,_⟩
     ·exact e
     ·exact absurd rfl e
    obtain⟨g,k⟩:∃W,D.alloc (.cells #[.slice s n t] 84)=W:=⟨_,rfl⟩;have j:Hid (Below w.heap.size w g):=hid (by rw[<- k];exact z.out.alloc z.out.size _);have N:Below D.heap.size D g:=by rw[<- k];exact nbl D _
    have e0:g.cell? ⟨D.heap.size,0,none⟩=some (.slice s n t):=by rw[<- k];exact (zg (zQ D _) 0).1
    have B:yM M g (.slice s n t) (uz text):=yM.of (J.out.below N) (λb hb=>xM (HM.out b hb) f.out.size);obtain⟨V,o,m⟩:=(HO.out.below j.out).row;have c0:g.cell? ⟨ob,i,none⟩=some (V i):=(zg o i).1.trans (Xu V hi);obtain⟨xa,xn,xc,hv⟩:∃a n c,V i = .slice a n c:=by obtain⟨a,c,e,_⟩:=m i hi;exact⟨a,_,c,e⟩
    have S:Below g.heap.size g g.drew:=(zf _ g).drew;have K:=hid (HW.out g.drew (V i) s n t (j.out.trans (S.mono j.out.size)) ((m i hi).turn (zw.of S)) (B.turn (zw.of S)));have a9:=hid o;rw[hv] at c0 K;rw[k];clear o m B HW J X S N k
    go_upto_region 7 with fail
    go_region_held3 (λw'=>w'.cell? ⟨ob,i,none⟩=some (.slice xa xn xc)/\w'.cell? ⟨D.heap.size,0,none⟩=some (.slice s n t)) (go_keep) (first|((go_at_call 27);refine K.out.mono ?_;rintro e w5 ⟨v,rfl,I,O⟩;have a2:=hid O;have g0:=zi I c0;have g1:=zi I e0;have G:Hid (Below g.heap.size g w5):=(((zf _ g).drew).trans I);have A:=hid (j.out.trans (G.out.mono j.out.size));clear I O))
    have HL:=hid (a2.out (by trivial));have P:=(G.out.block ob (by have:=j.out.size;omega)).trans a9.out;have f2:=(zg P i).2;obtain⟨va,vn,vc,c7⟩:∃a n c,v = .slice a n c:=by obtain⟨a,c,e,_⟩:=HL.out;exact⟨a,_,c,e⟩
    subst c7;have HF:=hid ((HO.out.below A.out).set hi HL.out (b9.out (by trivial)));have HT:=hid ((zw.of (M:=λb=>b=ob) A.out).trans (zw.set (M:=λb=>b=ob) w5 rfl i (.slice va vn vc)));clear P a2 HL;go_wp2_with fail;go_ret2;exact⟨rfl,HT.out,HF.out⟩
  ·have hA:uq st (i:Int) name text=Rd.xe text:=by
    unfold uq;rw[zb hpl,za hd]
   have Z:uQ st (i:Int) name text=st:=by
    unfold uQ QW;rw[zO hd]
    simp
   rw[hA,Z];obtain⟨⟨c,q⟩,F⟩:∃x,Rd.xe text=x:=⟨_,rfl⟩;rw[F] at hd |-;simp only[F] at R;unfold XJ at R;simp only at hd R |-;have ce:=λW u (hb:Below w.heap.size w W) h=>Er c q u aL W (hC.below hb).q.p.d.err (hC.below hb).q.long h;have CR:=hid R;have CE:=hid ce;clear cp R ce hA Z F r h hC hM hpl U;go_enter func13,ntmps13
   go_upto_region 4 with (go_at_call 24;refine CP.out.mono ?_;rintro e w1 ⟨rfl,L⟩;have f:=hid L;clear L)
   have X:=hid (CR.out w1 f.out);clear CR
   go_upto_region 5 with (go_at_call 25;refine X.out.mono ?_;rintro e D ⟨s,n,t,u,rfl,C,Y,_⟩;have H:=hid C;have z:=hid (f.out.trans (Y.mono f.out.size));clear Y C)
   obtain⟨T,y,rfl⟩:∃T y,u = .iface T y:=by
    rcases ak rfl H.out with ⟨e,_⟩|⟨_,T,y,e⟩
    ·exact absurd e hd
    ·exact⟨T,y,e⟩
   have a1:=hid (z.out.alloc z.out.size (.cells #[.slice s n t] 84));have b8:=hid (CE.out _ _ a1.out H.out);clear CE X
   go_wp2_with (go_at_call 26;refine b8.out.mono ?_;rintro e w5 ⟨rfl,I⟩;have A:=hid (a1.out.trans (I.mono a1.out.size));clear I)
   go_ret2;exact⟨rfl,zw.of A.out,HO.out.below A.out⟩
 ·unfold uq
  have Z:uQ st l name text=st:=by
   unfold uQ QW;rw[zO hpl]
   simp
  rw[za hpl,Z];obtain⟨E,hE⟩:∃x,qw l name=x:=⟨_,rfl⟩;rw[hE] at cp hpl |-;have CP:=hid cp;have HO:=hid h;have d:(E==0)=false:=by simpa using hpl
  have d2:(E != 0)=true:=by simpa using hpl
  clear cp hE h hM hC Z;go_enter func13,ntmps13
  go_wp2_with (go_at_call 24;refine CP.out.mono ?_;rintro e w1 ⟨rfl,L⟩;have f:=hid L;clear L)
  go_ret2;exact⟨rfl,zw.of f.out,HO.out.below f.out⟩
end Go.Proofs.YtagnlbgbnfnapaaGreatDoor
