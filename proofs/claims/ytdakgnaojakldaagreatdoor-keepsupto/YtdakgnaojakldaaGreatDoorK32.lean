/- P -/
import Derived.Test.YtdakgnaojakldaaGreatDoorK31
open Go.Proofs.Tryz
set_option maxRecDepth 100000
set_option maxHeartbeats 4000000
namespace Go.Proofs.YtdakgnaojakldaaGreatDoor
def UY(c:xD):Prop:=(Ref.xN c.op=true/\c.vals=[])\/(Ref.xN c.op=false/\Ref.Zl c.op c.vals=true/\(Ref.x8 c.op=true->∀v ∈ c.vals,Ref.qE v=true))
structure UZ (s:qp):Prop where
 who:∀p ∈ s.who.2,Ref.qE p=true
 act:∀p ∈ s.act.2,Ref.qE p=true
 on:∀p ∈ s.on.2,Ref.qE p=true
 ifs:∀c ∈ s.ifs,UY c
theorem Bz(v:Rd.V)(c:(Rd.qV v).sh=false)(e:(Rd.qV v).pt=false):UY (toS (Rd.qV v)):=by
 match v with
 | .str s=>exact absurd c (by simp[Rd.qV,Ref.x9])
 | .word b=>exact absurd c (by simp[Rd.qV,Ref.x9])
 | .list l=>exact absurd c (by simp[Rd.qV,Ref.x9])
 | .obj ms=>
  obtain⟨R,a⟩:=Nm (Rd.qV (.obj ms));rw[a] at c e |-;simp only[Rd.qV,Rd.Xi] at a
  cases h1:Rd.opV (Rd.zl ms Ref.bOp) with
  | none=>rw[h1] at a;subst a;simp[Ref.x9] at c
  | some op=>
   rw[h1] at a
   cases h2:Rd.opV (Rd.zl ms Ref.zC) with
   | none=>rw[h2] at a;subst a;simp[Ref.x9] at c
   | some key=>
    rw[h2] at a;simp only at a
    by_cases ca:Ref.xN op=true
    ·rw[zb ca] at a;subst a;exact .inl ⟨ca,rfl⟩
    ·rw[za ca] at a;subst a;simp only[dV,UT] at c;refine .inr ⟨Bool.eq_false_iff.2 ca,c.1.1.2.2,λf v g=>?_⟩;have d:Ref.x8 op=true:=f;simp only[d,ZX,UT] at e;exact Yu.1 e v g
theorem KA{c:Bool×Option (List BY)}(h:Rd.chP c=false):∀p ∈ (Rd.chD c).2,Ref.qE p=true:=by
 unfold Rd.chP at h;rw[UT] at h;exact λp a=>Yu.1 h p a
theorem BO(x:Option Rd.V)(a:(Rd.xm x).sh=false)(e:(Rd.xm x).pt=false):∀c ∈ (Rd.xm x).cs.map toS,UY c:=by
 intro c d
 match x with
 | none=>simp[Rd.xm] at d
 | some (.str s)=>simp[Rd.xm] at a
 | some (.word b)=>simp[Rd.xm] at a
 | some (.obj ms)=>simp[Rd.xm] at a
 | some (.list vs)=>
  simp only[Rd.xm] at a e d
  by_cases c5:5<vs.length
  ·rw[zb c5] at a;simp at a
  ·rw[za c5] at a e d;simp only[Qx,Yv,Function.comp] at a e;simp only[ug,xQ,Function.comp] at d;obtain⟨v,f,rfl⟩:=d;exact Bz v (by simpa using a v f) (by simpa using e v f)
theorem PP(v:Rd.V)(a:(Rd.xO v).sh=false)(c:(Rd.xO v).pt=false):UZ (ve (Rd.xO v)):=by
 match v with
 | .str s=>exact absurd a (by simp[Rd.xO,Rd.jd])
 | .word b=>exact absurd a (by simp[Rd.xO,Rd.jd])
 | .list l=>exact absurd a (by simp[Rd.xO,Rd.jd])
 | .obj ms=>
  simp only[Rd.xO,Rd.Xv] at a c |-
  split at a
  ·rename_i eff d e;rw[d,e] at c;simp only[Rd.QQ,dV] at a c;obtain⟨⟨⟨f,g⟩,h⟩,i⟩:=c;exact⟨KA f,KA g,KA h,BO _ a.2 i⟩
  ·simp[Rd.jd] at a
theorem Ey(s:BY)(h:(Rd.qX s).1=0):∀r ∈ jE s,UZ (ve r):=by
 unfold Rd.qX at h;unfold jE
 by_cases h1:4000<s.size
 ·rw[zb h1] at h;simp at h
 rw[za h1] at h;rw[za h1]
 cases hm:Rd.yA s.data.toList with
 | err e q=>intro r d;simp at d
 | ok v q=>
  rw[hm] at h;simp only at h |-
  match v with
  | .str t=>simp[Rd.jU] at h
  | .word b=>simp[Rd.jU] at h
  | .list l=>simp[Rd.jU] at h
  | .obj ms=>
   simp only[Rd.jU] at h
   match hx:Rd.zl ms Rd.yC with
   | none=>rw[hx] at h;simp at h
   | some (.str t)=>rw[hx] at h;simp at h
   | some (.word b)=>rw[hx] at h;simp at h
   | some (.obj ms)=>rw[hx] at h;simp at h
   | some (.list vs)=>
    rw[hx] at h;simp only at h;have f:qo (stX (.obj ms))=vs:=by simp[qo,stX,hx]
    rw[f]
    by_cases c:ms.length≠1\/vs.length<1\/10<vs.length
    ·rw[zb c] at h;simp at h
    rw[za c] at h;intro r d;obtain⟨a,b⟩:=aa _ _ h r d;rw[xQ] at d;obtain⟨v,f,rfl⟩:=d;exact PP v a b
end Go.Proofs.YtdakgnaojakldaaGreatDoor
namespace Go.Proofs.YtdakgnaojakldaaGreatDoor
open Go.RowKit
abbrev StO:=Nat->List zI
def upd(st:StO)(i:Nat)(L:List zI):StO:=λj=>if j=i then L else st j
def VF(a:List qp):Prop:=a.length<=10/\(∀s ∈ a,XI s)/\∀s ∈ a,UZ s
def Z0(L:List zI):Prop:=yX L/\L.length<=4/\∀x ∈ L,VF x.2
theorem Z0.less{L:List zI}(h:Z0 L)(p:Nat):Z0 (kJ L p):=
 ⟨h.1.less p,Iu p h.2.1,λx a=>h.2.2 x (by
  unfold kJ at a
  rcases jq.1 a with a|a
  ·exact Vv a
  ·exact Vu a)⟩
theorem Z0.with{L:List zI}(h:Z0 L){name:BY}{b:List qp}(c:(zn L name||decide (L.length<4))=true)(d:VF b):Z0 (uf L name b):=
 ⟨h.1.with name b,SC h.2.1 c,λx a=>by
  unfold uf at a
  rcases jq.1 a with a|a
  ·rcases jq.1 a with a|a
   ·exact h.2.2 x (Vv a)
   ·rw[xK] at a;subst a;exact d
  ·exact h.2.2 x (Vu a)⟩
structure xH (M:Nat->Prop) (W:World) (ob:Nat) (st:StO):Prop where
 mine:M ob
 row:∃vs:Nat->Value,W.heap[ob]?=some (.cells #[vs 0,vs 1,vs 2,vs 3] 101)/\∀i,i<4->xG M W (vs i) (st i)
 good:∀i,i<4->Z0 (st i)
theorem lt4{i:Nat}(h:i<4):i=0\/i=1\/i=2\/i=3:=by omega
theorem xH.below{M:Nat->Prop}{W W':World}{ob:Nat}{st:StO}(h:xH M W ob st)(hb:Below W.heap.size W W'):xH M W' ob st:=by
 obtain⟨c,a,b⟩:=h.row;exact⟨h.mine,⟨c,(hb.block ob (zx a)).trans a,λi hi=>(b i hi).turn (zu.of hb)⟩,h.good⟩
theorem xH.other{M:Nat->Prop}{W W':World}{ob a:Nat}{st:StO}(h:xH M W ob st)(f:zu (λb=>b=a) W W')(c:ob≠a)(j:M a):xH M W' ob st:=by
 obtain⟨l,d,g⟩:=h.row;exact⟨h.mine,⟨l,(f.block ob (zx d) c).trans d,λi hi=>(g i hi).turn (f.wide (λk _ e=>by rw[e];exact j))⟩,h.good⟩
theorem xH.more{M M':Nat->Prop}{W:World}{ob:Nat}{st:StO}(h:xH M W ob st)(d:∀b,M' b->M b\/W.heap.size<=b)(e:M' ob):xH M' W ob st:=by
 obtain⟨f,a,c⟩:=h.row;exact⟨e,⟨f,a,λi hi=>(c i hi).more d⟩,h.good⟩
theorem Xn(a:Nat->Value){i:Nat}(h:i<4):(#[a 0,a 1,a 2,a 3]:Array Value)[i]?=some (a i):=by
 rcases lt4 h with rfl|rfl|rfl|rfl<;>rfl
theorem EJ(a:Nat->Value)(v:Value){i:Nat}(h:i<4):(#[a 0,a 1,a 2,a 3]:Array Value).setIfInBounds i v=#[if 0=i then v else a 0,if 1=i then v else a 1,if 2=i then v else a 2,if 3=i then v else a 3]:=by
 rcases lt4 h with rfl|rfl|rfl|rfl<;>rfl
theorem xH.set{M:Nat->Prop}{W:World}{ob:Nat}{st:StO}(h:xH M W ob st){i:Nat}(hi:i<4){v:Value}{L:List zI}(k:xG M W v L)(g:Z0 L):xH M (W.setCell ⟨ob,i,none⟩ v) ob (upd st i L):=by
 obtain⟨b,d,f⟩:=h.row;have c:=zu.set (M:=M) W h.mine i v;refine⟨h.mine,⟨λj=>if j=i then v else b j,?_,λj a=>?_⟩,λj a=>?_⟩
 ·have:=yw W ob i _ _ v d
  rw[EJ b v hi] at this;exact this
 ·show xG M _ (if j=i then v else b j) (if j=i then L else st j)
  by_cases e:j=i
  ·rw[zb e,zb e];exact k.turn c
  ·rw[za e,za e];exact (f j a).turn c
 ·unfold upd
  by_cases e:j=i
  ·rw[zb e];exact g
  ·rw[za e];exact h.good j a
def ZI:StO:=λ_=>[]
theorem LG(M:Nat->Prop)(w:World)(c:M w.heap.size) :
  Calls prog 21 #[] w λe w'=>e = .returned (.pointer (some ⟨w.heap.size,0,none⟩))/\Below w.heap.size w w'/\xH M w' w.heap.size ZI:=by
 have a:xH M (w.alloc (.cells #[.slice none 0 0,.slice none 0 0,.slice none 0 0,.slice none 0 0] 101)) w.heap.size ZI:=
  ⟨c,⟨λ_ => .slice none 0 0,zO w _,λi _=>mD M _⟩,λi _=>⟨U0,by simp[ZI],λx d=>by simp[ZI] at d⟩⟩
 have b:=hid a;clear a;go_enter func21,ntmps21
 go_wp2
 go_ret;exact⟨rfl,nbl w _,b.out⟩
def QM(st:StO)(l:Int)(name:BY):Int:=if qw l name=0 then (if zn (st l.toNat) name then 0 else 9) else qw l name
def QN(st:StO)(l:Int)(name:BY):StO:=if qw l name=0/\zn (st l.toNat) name=true then upd st l.toNat (kJ (st l.toNat) (qy (st l.toNat) name)) else st
theorem Y2{l:Int}{name:BY}(h:qw l name=0):∃i:Nat,l=(i:Int)/\i<4/\Ref.qg name=true:=by
 unfold qw at h
 cases h1:jc l with
 | false=>rw[h1] at h;simp at h
 | true=>
  rw[h1] at h
  cases h2:Ref.qg name with
  | false=>rw[h2] at h;simp at h
  | true=>
   unfold jc at h1;rw[Jc,Zh,Zh] at h1;exact⟨l.toNat,by omega,by omega,rfl⟩
theorem Dl(ob:Nat)(st:StO)(l:Int)(name:BY)(M:Nat->Prop)(w:World)(h:xH M w ob st)(B:∀b,M b->b<w.heap.size)(hs:name.size<=maxLen) :
  Calls prog 29 #[.pointer (some ⟨ob,0,none⟩),.int .i64 l,.string name] w λe w'=>e = .returned (.int .i64 (QM st l name))/\zu (λb=>b=ob) w w'/\xH M w' ob (QN st l name):=by
 have y:=bJ l name w hs
 by_cases hpl:qw l name=0
 ·obtain⟨i,rfl,hi,L⟩:=Y2 hpl;have Q:QM st (i:Int) name=if zn (st i) name then 0 else 9:=by unfold QM;rw[zb hpl];rfl
  have T:QN st (i:Int) name=if zn (st i) name=true then upd st i (kJ (st i) (qy (st i) name)) else st:=by
   unfold QN;simp only[xP,hpl,true_and]
  rw[Q,T];rw[hpl] at y;have D:=hid y;have r:=hid h;have HM:=hid B;have a1:ob<w.heap.size:=B ob h.mine
  have J:∀(W:World) (v:Value),xH M W ob st->Below w.heap.size w W->xG M W v (st i)->Calls prog 48 #[v,.string name] W λe w'=>∃v,e = .returned (.tuple #[v,.bool (zn (st i) name)])/\Below W.heap.size W w'/\(zn (st i) name=true->xG M w' v (kJ (st i) (qy (st i) name))):=λW v S hb hl=>
   SG (st i) v name M W hl (by have:=(S.good i hi).2.1;omega) ((S.good i hi).1.down name) (λb K=>xL (B b K) hb.size)
  have U:=(h.good i hi);have t:=U.less (qy (st i) name);obtain⟨b,hb⟩:=Nm (zn (st i) name);obtain⟨LN,p⟩:∃x,kJ (st i) (qy (st i) name)=x:=⟨_,rfl⟩;simp only[hb,p] at J;simp only[hb,p];rw[p] at t;clear Q T;have F:=hid J;have X:=hid t;have k0:(0:Int)<=(i:Int):=zY _;have k1:(i:Int)<4:=by omega
  clear y J U t hpl hb p B L
  cases b with
  | false=>
   simp only[vg,jK];go_enter func29,ntmps29
   go_upto_region 4 with (go_at_call 42;refine D.out.mono ?_;rintro e w1 ⟨rfl,s⟩;have f:=hid s;clear s)
   obtain⟨q,j,g⟩:=(r.out.below f.out).row;have G:w1.cell? ⟨ob,i,none⟩=some (q i):=(zg j i).1.trans (Xn q hi);obtain⟨la,ln,lc,z⟩:∃a n c,q i = .slice a n c:=by obtain⟨a,c,e,_⟩:=g i hi;exact⟨a,_,c,e⟩
   have k:=g i hi;rw[z] at G k;have H:=hid (F.out w1 _ (r.out.below f.out) f.out k);clear j g z k F
   go_wp2_with (go_at_call 48;refine H.out.mono ?_;rintro e O ⟨v,rfl,u,_⟩;have o:=hid (f.out.trans (u.mono f.out.size));clear u)
   go_ret;exact⟨rfl,zu.of o.out,r.out.below o.out⟩
  | true=>
   simp only[xu];go_enter func29,ntmps29
   go_upto_region 4 with (go_at_call 42;refine D.out.mono ?_;rintro e w1 ⟨rfl,s⟩;have f:=hid s;clear s)
   obtain⟨q,j,g⟩:=(r.out.below f.out).row;have G:w1.cell? ⟨ob,i,none⟩=some (q i):=(zg j i).1.trans (Xn q hi);obtain⟨la,ln,lc,z⟩:∃a n c,q i = .slice a n c:=by obtain⟨a,c,e,_⟩:=g i hi;exact⟨a,_,c,e⟩
   have k:=g i hi;have I:=hid j;rw[z] at G k;have H:=hid (F.out w1 _ (r.out.below f.out) f.out k);have f1:=(zg j i).2;clear j g k F
   go_upto_region 7 with (go_at_call 48;refine H.out.mono ?_;rintro e O ⟨v,rfl,u,C⟩;have P:=hid (C (by trivial));have A:=hid u;have o:=hid (f.out.trans (u.mono f.out.size));clear u C)
   have m:=(A.out.block ob (by have:=f.out.size;omega)).trans I.out;have Z:O.cell? ⟨ob,i,none⟩=some (q i):=(zg m i).1.trans (Xn q hi);have f2:=(zg m i).2;obtain⟨va,vn,vc,N⟩:∃a n c,v = .slice a n c:=by obtain⟨a,c,e,_⟩:=P.out;exact⟨a,_,c,e⟩
   subst N;have V:=hid ((r.out.below o.out).set hi P.out X.out);have Y:=hid ((zu.of (M:=λb=>b=ob) o.out).trans (zu.set (M:=λb=>b=ob) O rfl i (.slice va vn vc)));rw[z] at Z;clear m z G f1;go_wp2_with fail;go_ret;exact⟨rfl,Y.out,V.out⟩
 ·unfold QM QN;rw[za hpl,za (λe=>hpl e.1)];obtain⟨E,R⟩:∃x,qw l name=x:=⟨_,rfl⟩;rw[R] at y hpl |-;have D:=hid y;have r:=hid h;have d:(E==0)=false:=by simpa using hpl
  have d2:(E != 0)=true:=by simpa using hpl
  clear y R h B;go_enter func29,ntmps29
  go_wp2_with (go_at_call 42;refine D.out.mono ?_;rintro e w1 ⟨rfl,s⟩;have f:=hid s;clear s)
  go_ret;exact⟨rfl,zu.of f.out,r.out.below f.out⟩
def QR(l:Int):Int:=if jc l then 0 else 7
def Xp(st:StO)(l:Int):List BY:=if jc l then (st l.toNat).map Prod.fst else []
theorem LD(ob:Nat)(st:StO)(l:Int)(M:Nat->Prop)(w:World)(h:xH M w ob st) :
  Calls prog 22 #[.pointer (some ⟨ob,0,none⟩),.int .i64 l] w λe w'=>∃lv,e = .returned (.tuple #[lv,.int .i64 (QR l)])/\zy w' w.heap.size lv (Xp st l)/\Below w.heap.size w w':=by
 have c1:=lT l w;unfold QR Xp
 cases hl:jc l with
 | false=>
  rw[hl] at c1;have k:=hid c1;simp only[vg,jK];clear c1 h hl;go_enter func22,ntmps22
  go_wp2_with (go_at_call 40;refine k.out.mono ?_;rintro e w1 ⟨rfl,f⟩;rw[f];clear f)
  go_ret2;exact⟨_,rfl,⟨rfl,.inl ⟨rfl,rfl⟩⟩,zf _ _⟩
 | true=>
  rw[hl] at c1;have k:=hid c1;simp only[xu];unfold jc at hl;rw[Jc,Zh,Zh] at hl;obtain⟨i,rfl⟩:∃i:Nat,l=(i:Int):=⟨l.toNat,by omega⟩;have hi:i<4:=by omega
  obtain⟨j,d,b⟩:=h.row;have t:w.cell? ⟨ob,i,none⟩=some (j i):=(zg d i).1.trans (Xn j hi);have g:=Im (st i) (j i) M w (b i hi) (by have:=(h.good i hi).2.1;omega);obtain⟨x,z,y,p⟩:∃a n c,j i = .slice a n c:=by obtain⟨a,c,e,_⟩:=b i hi;exact⟨a,_,c,e⟩
  rw[p] at t g;unfold XF at g;have m:((i:Int)).toNat=i:=xP i;rw[m];have q:=hid g;have u:(0:Int)<=(i:Int):=zY _;have v:(i:Int)<4:=by omega
  clear c1 h hl d b g p m;go_enter func22,ntmps22
  go_wp2_with (first
   | (go_at_call 41;refine q.out.mono ?_;rintro e A ⟨lv,rfl,o,hb⟩;have s:=hid o;have r:=hid hb;clear o hb)
   | (go_at_call 40;refine k.out.mono ?_;rintro e w1 ⟨rfl,f⟩;rw[f];clear f))
  go_ret2;exact⟨lv,rfl,s.out,r.out⟩
def QX(st:StO)(l:Int)(name:BY):Int:=if qw l name=0 then (if zn (st l.toNat) name then 0 else 9) else qw l name
def XW(st:StO)(l:Int)(name:BY):List qp:=match (st l.toNat)[qy (st l.toNat) name]? with
 | some x=>x.2
 | none=>[]
def QW(st:StO)(l:Int)(name:BY):BY:=if qw l name=0/\zn (st l.toNat) name=true then QL (XW st l name) else ⟨#[]⟩
theorem OZ(ob:Nat)(st:StO)(l:Int)(name:BY)(M:Nat->Prop)(w:World)(h:xH M w ob st)(hs:name.size<=maxLen) :
  Calls prog 23 #[.pointer (some ⟨ob,0,none⟩),.int .i64 l,.string name] w λe w'=>e = .returned (.tuple #[.string (QW st l name),.int .i64 (QX st l name)])/\Below w.heap.size w w':=by
 have u:=bJ l name w hs
 by_cases hpl:qw l name=0
 ·obtain⟨i,rfl,hi,V⟩:=Y2 hpl;have F:QX st (i:Int) name=if zn (st i) name then 0 else 9:=by unfold QX;rw[zb hpl];rfl
  have Z:QW st (i:Int) name=if zn (st i) name=true then QL (XW st (i:Int) name) else ⟨#[]⟩:=by
   unfold QW;simp only[xP,hpl,true_and]
  rw[F,Z];rw[hpl] at u;have N:=hid u;have X:=hid h;have p:∀x,(st i)[qy (st i) name]?=some x->XW st (i:Int) name=x.2:=λx s=>by unfold XW;simp only[xP];rw[s]
  have J:∀x,(st i)[qy (st i) name]?=some x->VF x.2:=λx s=>(h.good i hi).2.2 x (qJ s)
  have U:∀(W:World) (v:Value),Below w.heap.size w W->xG M W v (st i)->Calls prog 43 #[v,.string name] W λe w'=>∃B D C,e = .returned (.tuple #[.agg #[.slice B D C],.bool (zn (st i) name)])/\Below W.heap.size W w'/\(zn (st i) name=true->∃x,(st i)[qy (st i) name]?=some x/\yI M w' (.slice B D C) x.2):=λW v hb hl=>
   Il (st i) v name M W hl (by have:=(h.good i hi).2.1;omega) ((h.good i hi).1.down name)
  obtain⟨b,hb⟩:=Nm (zn (st i) name);simp only[hb] at U;simp only[hb];have P:=hid U;have HD:=hid p;have HS:=hid J;have k0:(0:Int)<=(i:Int):=zY _;have k1:(i:Int)<4:=by omega
  clear u U p J hpl hb V Z F
  cases b with
  | false=>
   simp only[vg,jK];go_enter func23,ntmps23
   go_upto_region 4 with (go_at_call 42;refine N.out.mono ?_;rintro e w1 ⟨rfl,o⟩;have f:=hid o;clear o)
   obtain⟨t,j,g⟩:=(X.out.below f.out).row;have T:w1.cell? ⟨ob,i,none⟩=some (t i):=(zg j i).1.trans (Xn t hi);obtain⟨la,ln,lc,K⟩:∃a n c,t i = .slice a n c:=by obtain⟨a,c,e,_⟩:=g i hi;exact⟨a,_,c,e⟩
   have k:=g i hi;rw[K] at T k;have O:=hid (P.out w1 _ f.out k);clear j g K k P
   go_wp2_with (go_at_call 43;refine O.out.mono ?_;rintro e L ⟨B,D,C,rfl,A,_⟩;have m:=hid (f.out.trans (A.mono f.out.size));clear A)
   go_ret2;exact⟨rfl,m.out.alloc m.out.size _⟩
  | true=>
   simp only[xu];go_enter func23,ntmps23
   go_upto_region 4 with (go_at_call 42;refine N.out.mono ?_;rintro e w1 ⟨rfl,o⟩;have f:=hid o;clear o)
   obtain⟨t,j,g⟩:=(X.out.below f.out).row;have T:w1.cell? ⟨ob,i,none⟩=some (t i):=(zg j i).1.trans (Xn t hi);obtain⟨la,ln,lc,K⟩:∃a n c,t i = .slice a n c:=by obtain⟨a,c,e,_⟩:=g i hi;exact⟨a,_,c,e⟩
   have k:=g i hi;rw[K] at T k;have O:=hid (P.out w1 _ f.out k);clear j g K k P
   go_upto_region 7 with (go_at_call 43;refine O.out.mono ?_;rintro e L ⟨B,D,C,rfl,A,I⟩;have z:=hid (I (by trivial));have m:=hid (f.out.trans (A.mono f.out.size));clear A I)
   obtain⟨x,s,H⟩:=z.out;have S:Below L.heap.size L (L.alloc (.cells #[.slice B D C] 72)):=nbl L _;obtain⟨base,G⟩:=(H.turn (zu.of S)).at;have r:=HS.out x s;have q:=Na x.2 _ base _ G r.1 r.2.1;rw[<- HD.out x s] at q;have Q:=hid q;have y:=hid (m.out.trans (S.mono m.out.size));clear q G r H s S z O
   go_wp2_with (go_at_call 35;refine Q.out.mono ?_;rintro e w5 ⟨rfl,Y⟩;have R:=hid (y.out.trans (Y.mono y.out.size));clear Y)
   go_ret2;exact⟨rfl,R.out⟩
 ·unfold QX QW;rw[za hpl,za (λe=>hpl e.1)];obtain⟨E,F⟩:∃x,qw l name=x:=⟨_,rfl⟩;rw[F] at u hpl |-;have N:=hid u;have d:(E==0)=false:=by simpa using hpl
  have d2:(E != 0)=true:=by simpa using hpl
  clear u F h;go_enter func23,ntmps23
  go_wp2_with (go_at_call 42;refine N.out.mono ?_;rintro e w1 ⟨rfl,o⟩;have f:=hid o;clear o)
  go_ret2;exact⟨rfl,f.out⟩
def QT(st:StO)(l:Int)(name text:BY):Bool:=decide (qw l name=0)&&decide ((Rd.qX text).1=0)&&(zn (st l.toNat) name||decide ((st l.toNat).length<4))
def ul(st:StO)(l:Int)(name text:BY):Int×Nat:=if qw l name=0 then (if (Rd.qX text).1=0 then (if zn (st l.toNat) name||decide ((st l.toNat).length<4) then (0,0) else (10,0)) else Rd.qX text) else (qw l name,0)
def uO(st:StO)(l:Int)(name text:BY):StO:=if QT st l name text then upd st l.toNat (uf (st l.toNat) name (uw text)) else st
theorem Sa(s:BY)(c:(Rd.qX s).1=0):VF (uw s):=by
 obtain⟨d,e,f⟩:=rP s c;have g:uw s=(jE s).map ve:=f;rw[g];refine⟨by rw[qB];exact e,λx a=>?_,λx a=>?_⟩
 ·rw[xQ] at a;obtain⟨r,b,rfl⟩:=a;exact Pf (d r b).2
 ·rw[xQ] at a;obtain⟨r,b,rfl⟩:=a;exact Ey s c r b
theorem Nt(ob:Nat)(st:StO)(l:Int)(name text:BY)(M:Nat->Prop)(aL:Addr)(w:World)(hC:ZZ w aL)(h:xH M w ob st)(hM:∀b,M b->b<w.heap.size)(hs:name.size<=maxLen) :
  Calls prog 24 #[.pointer (some ⟨ob,0,none⟩),.int .i64 l,.string name,.string text] w λe w'=>e = .returned (.tuple #[.int .i64 (ul st l name text).1,.int .i64 ((ul st l name text).2:Int)])/\zu (λb=>b=ob) w w'/\xH M w' ob (uO st l name text):=by
 have cp:=bJ l name w hs
 by_cases hpl:qw l name=0
 ·obtain⟨i,rfl,hi,U⟩:=Y2 hpl;rw[hpl] at cp;have CP:=hid cp;have HO:=hid h;have d7:=hid hC;have e5:ob<w.heap.size:=hM ob h.mine;have R:=λW (hb:Below w.heap.size w W)=>CY text W _ _ _ rfl (hC.below hb).q;have r:=Sa text;have k0:(0:Int)<=(i:Int):=zY _;have k1:(i:Int)<4:=by omega
  by_cases hd:(Rd.qX text).1=0
  ·have hA:ul st (i:Int) name text=if (zn (st i) name||decide ((st i).length<4))=true then (0,0) else (10,0):=by
    unfold ul;rw[zb hpl,zb hd]
    rfl
   have Z:uO st (i:Int) name text=if (zn (st i) name||decide ((st i).length<4))=true then upd st i (uf (st i) name (uw text)) else st:=by
    unfold uO QT;rw[zB hpl,zB hd];simp only[xP,ZX]
   rw[hA,Z]
   have b4:name.size<=281474976710656:=by
    by_cases e:1<=name.size/\name.size<=12
    ·omega
    ·rw[Ref.JO name e] at U;cases U
   have cw:∀(W:World) (v:Value) (s:Option Addr) (n t:Nat),Below w.heap.size w W->xG M W v (st i)->yI M W (.slice s n t) (uw text)->Calls prog 44 #[v,.string name,.agg #[.slice s n t]] W λe w'=>∃v,e = .returned (.tuple #[v,.bool (zn (st i) name||decide ((st i).length<4))])/\Below W.heap.size W w'/\((zn (st i) name||decide ((st i).length<4))=true->xG M w' v (uf (st i) name (uw text))):=λW v s n t hb hl c5=>
    SE (st i) v name s n t (uw text) M W hl (by have:=(h.good i hi).2.1;omega) ((h.good i hi).1.down name) (λb c4=>xL (hM b c4) hb.size) c5 b4
   have a6:(zn (st i) name||decide ((st i).length<4))=true->Z0 (uf (st i) name (uw text)):=λho=>(h.good i hi).with ho (r hd)
   obtain⟨b,hb⟩:=Nm ((zn (st i) name||decide ((st i).length<4)));simp only[hb] at cw a6;simp only[hb];obtain⟨⟨c,q⟩,F⟩:∃x,Rd.qX text=x:=⟨_,rfl⟩;rw[F] at hd;simp only[F] at R;unfold XC at R;simp only at hd R;subst hd;have CR:=hid R;have HW:=hid cw;have b9:=hid a6;have HM:=hid hM;clear cp R cw a6 hA Z hb F r h hC hM hpl U
   cases b with
   | false=>
    simp only[vg,jK];go_enter func24,ntmps24
    go_upto_region 4 with (go_at_call 42;refine CP.out.mono ?_;rintro e w1 ⟨rfl,L⟩;have f:=hid L;clear L)
    have X:=hid (CR.out w1 f.out);clear CR
    go_upto_region 5 with (go_at_call 32;refine X.out.mono ?_;rintro e D ⟨s,n,t,u,rfl,C,Y,Q⟩;have J:=hid (Q (by trivial));have H:=hid C;have z:=hid (f.out.trans (Y.mono f.out.size));clear Y C Q)
    obtain rfl:u = .nilIface:=by
     rcases K6 rfl H.out with ⟨_,e⟩|⟨e,_⟩
     ·exact e
     ·exact absurd rfl e
    obtain⟨g,k⟩:∃W,D.alloc (.cells #[.slice s n t] 72)=W:=⟨_,rfl⟩;have j:Hid (Below w.heap.size w g):=hid (by rw[<- k];exact z.out.alloc z.out.size _);have N:Below D.heap.size D g:=by rw[<- k];exact nbl D _
    have e0:g.cell? ⟨D.heap.size,0,none⟩=some (.slice s n t):=by rw[<- k];exact (zg (zO D _) 0).1
    have B:yI M g (.slice s n t) (uw text):=yI.of (J.out.below N) (λb hb=>xL (HM.out b hb) f.out.size);obtain⟨V,o,m⟩:=(HO.out.below j.out).row;have c0:g.cell? ⟨ob,i,none⟩=some (V i):=(zg o i).1.trans (Xn V hi);obtain⟨xa,xn,xc,hv⟩:∃a n c,V i = .slice a n c:=by obtain⟨a,c,e,_⟩:=m i hi;exact⟨a,_,c,e⟩
    have S:Below g.heap.size g g.drew:=(zf _ g).drew;have K:=hid (HW.out g.drew (V i) s n t (j.out.trans (S.mono j.out.size)) ((m i hi).turn (zu.of S)) (B.turn (zu.of S)));have a9:=hid o;rw[hv] at c0 K;rw[k];clear o m B HW J X S N k
    go_upto_region 7 with fail
    go_region_held3 (λw'=>w'.cell? ⟨ob,i,none⟩=some (.slice xa xn xc)/\w'.cell? ⟨D.heap.size,0,none⟩=some (.slice s n t)) (go_keep) (first|((go_at_call 44);refine K.out.mono ?_;rintro e w5 ⟨v,rfl,I,O⟩;have a2:=hid O;have g0:=zh I c0;have g1:=zh I e0;have G:Hid (Below g.heap.size g w5):=(((zf _ g).drew).trans I);have A:=hid (j.out.trans (G.out.mono j.out.size));clear I O))
    go_wp2_with fail;go_ret2;exact⟨rfl,zu.of A.out,HO.out.below A.out⟩
   | true=>
    simp only[xu];go_enter func24,ntmps24
    go_upto_region 4 with (go_at_call 42;refine CP.out.mono ?_;rintro e w1 ⟨rfl,L⟩;have f:=hid L;clear L)
    have X:=hid (CR.out w1 f.out);clear CR
    go_upto_region 5 with (go_at_call 32;refine X.out.mono ?_;rintro e D ⟨s,n,t,u,rfl,C,Y,Q⟩;have J:=hid (Q (by trivial));have H:=hid C;have z:=hid (f.out.trans (Y.mono f.out.size));clear Y C Q)
    obtain rfl:u = .nilIface:=by
     rcases K6 rfl H.out with ⟨_,e⟩|⟨e,_⟩
     ·exact e
     ·exact absurd rfl e
    obtain⟨g,k⟩:∃W,D.alloc (.cells #[.slice s n t] 72)=W:=⟨_,rfl⟩;have j:Hid (Below w.heap.size w g):=hid (by rw[<- k];exact z.out.alloc z.out.size _);have N:Below D.heap.size D g:=by rw[<- k];exact nbl D _
    have e0:g.cell? ⟨D.heap.size,0,none⟩=some (.slice s n t):=by rw[<- k];exact (zg (zO D _) 0).1
    have B:yI M g (.slice s n t) (uw text):=yI.of (J.out.below N) (λb hb=>xL (HM.out b hb) f.out.size);obtain⟨V,o,m⟩:=(HO.out.below j.out).row;have c0:g.cell? ⟨ob,i,none⟩=some (V i):=(zg o i).1.trans (Xn V hi);obtain⟨xa,xn,xc,hv⟩:∃a n c,V i = .slice a n c:=by obtain⟨a,c,e,_⟩:=m i hi;exact⟨a,_,c,e⟩
    have S:Below g.heap.size g g.drew:=(zf _ g).drew;have K:=hid (HW.out g.drew (V i) s n t (j.out.trans (S.mono j.out.size)) ((m i hi).turn (zu.of S)) (B.turn (zu.of S)));have a9:=hid o;rw[hv] at c0 K;rw[k];clear o m B HW J X S N k
    go_upto_region 7 with fail
    go_region_held3 (λw'=>w'.cell? ⟨ob,i,none⟩=some (.slice xa xn xc)/\w'.cell? ⟨D.heap.size,0,none⟩=some (.slice s n t)) (go_keep) (first|((go_at_call 44);refine K.out.mono ?_;rintro e w5 ⟨v,rfl,I,O⟩;have a2:=hid O;have g0:=zh I c0;have g1:=zh I e0;have G:Hid (Below g.heap.size g w5):=(((zf _ g).drew).trans I);have A:=hid (j.out.trans (G.out.mono j.out.size));clear I O))
    have HL:=hid (a2.out (by trivial));have P:=(G.out.block ob (by have:=j.out.size;omega)).trans a9.out;have f2:=(zg P i).2;obtain⟨va,vn,vc,c7⟩:∃a n c,v = .slice a n c:=by obtain⟨a,c,e,_⟩:=HL.out;exact⟨a,_,c,e⟩
    subst c7;have HF:=hid ((HO.out.below A.out).set hi HL.out (b9.out (by trivial)));have HT:=hid ((zu.of (M:=λb=>b=ob) A.out).trans (zu.set (M:=λb=>b=ob) w5 rfl i (.slice va vn vc)));clear P a2 HL;go_wp2_with fail;go_ret2;exact⟨rfl,HT.out,HF.out⟩
  ·have hA:ul st (i:Int) name text=Rd.qX text:=by
    unfold ul;rw[zb hpl,za hd]
   have Z:uO st (i:Int) name text=st:=by
    unfold uO QT;rw[zM hd]
    simp
   rw[hA,Z];obtain⟨⟨c,q⟩,F⟩:∃x,Rd.qX text=x:=⟨_,rfl⟩;rw[F] at hd |-;simp only[F] at R;unfold XC at R;simp only at hd R |-;have ce:=λW u (hb:Below w.heap.size w W) h=>DW c q u aL W (hC.below hb).q.p.d.err (hC.below hb).q.long h;have CR:=hid R;have CE:=hid ce;clear cp R ce hA Z F r h hC hM hpl U;go_enter func24,ntmps24
   go_upto_region 4 with (go_at_call 42;refine CP.out.mono ?_;rintro e w1 ⟨rfl,L⟩;have f:=hid L;clear L)
   have X:=hid (CR.out w1 f.out);clear CR
   go_upto_region 5 with (go_at_call 32;refine X.out.mono ?_;rintro e D ⟨s,n,t,u,rfl,C,Y,_⟩;have H:=hid C;have z:=hid (f.out.trans (Y.mono f.out.size));clear Y C)
   obtain⟨T,y,rfl⟩:∃T y,u = .iface T y:=by
    rcases K6 rfl H.out with ⟨e,_⟩|⟨_,T,y,e⟩
    ·exact absurd e hd
    ·exact⟨T,y,e⟩
   have a1:=hid (z.out.alloc z.out.size (.cells #[.slice s n t] 72));have b8:=hid (CE.out _ _ a1.out H.out);clear CE X
   go_wp2_with (go_at_call 33;refine b8.out.mono ?_;rintro e w5 ⟨rfl,I⟩;have A:=hid (a1.out.trans (I.mono a1.out.size));clear I)
   go_ret2;exact⟨rfl,zu.of A.out,HO.out.below A.out⟩
 ·unfold ul
  have Z:uO st l name text=st:=by
   unfold uO QT;rw[zM hpl]
   simp
  rw[za hpl,Z];obtain⟨E,hE⟩:∃x,qw l name=x:=⟨_,rfl⟩;rw[hE] at cp hpl |-;have CP:=hid cp;have HO:=hid h;have d:(E==0)=false:=by simpa using hpl
  have d2:(E != 0)=true:=by simpa using hpl
  clear cp hE h hM hC Z;go_enter func24,ntmps24
  go_wp2_with (go_at_call 42;refine CP.out.mono ?_;rintro e w1 ⟨rfl,L⟩;have f:=hid L;clear L)
  go_ret2;exact⟨rfl,zu.of f.out,HO.out.below f.out⟩
end Go.Proofs.YtdakgnaojakldaaGreatDoor
