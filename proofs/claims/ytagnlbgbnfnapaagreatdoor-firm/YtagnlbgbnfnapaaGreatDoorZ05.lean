/- P -/
import Derived.Test.YtagnlbgbnfnapaaGreatDoorZ04
set_option maxRecDepth 100000
namespace Go.Proofs.YtagnlbgbnfnapaaGreatDoor
namespace Rd
open Ref
def zl(ms:List (BA×V))(nm:BA):Option V:=(ms.find? λm=>m.1.toList==nm.toList).map Prod.snd
def Zn:List V->Option (List BA)
 | []=>some []
 | .str s::vs=>(Zn vs).map λl=>s::l
 | _::_=>none
def zR:Option V->Option (List BA)
 | some (.str s)=>some [s]
 | some (.list vs)=>if vs.length<1\/10<vs.length then none else Zn vs
 | _=>none
def qh(ms:List (BA×V))(names:List BA):Bool:=ms.all λm=>names.any λt=>t.toList==m.1.toList
def kr:Option V->Bool×Option (List BA)
 | some (.obj ms)=>if qh ms [qH]=true/\ms.length=1 then (true,zR ((ms.map Prod.snd)[0]?)) else (false,none)
 | x=>(false,zR x)
def opV(x:Option V):Option BA:=match x with
 | some (.str s)=>some s
 | _=>none
def Jc:Option V->Bool
 | some (.word b)=>b
 | _=>false
def Zh:Option V->Bool
 | none=>false
 | some (.word _)=>false
 | _=>true
def JM(ms:List (BA×V)):Xt:=match opV (zl ms bOp),opV (zl ms zG) with
 | some op,some key=>
  if jm op then ⟨op,key,[],Jc (zl ms bNo),Zh (zl ms bNo) || !qm key || !qh ms [bOp,zG,bNo],false⟩
  else ⟨op,key,(zR (zl ms zJ)).getD [],Jc (zl ms bNo),
   Zh (zl ms bNo)||(!(zR (zl ms zJ)).isSome || !Yl op ((zR (zl ms zJ)).getD [])) || !qm key || !qh ms [bOp,zG,bNo,zJ],
   xH op && !((zR (zl ms zJ)).getD []).all yf⟩
 | _,_=>Zi
def xG:V->Xt
 | .obj ms=>JM ms
 | _=>Zi
def xY:Option V->lK
 | none=>⟨[],false,false⟩
 | some (.list vs)=>if 5<vs.length then ⟨[],true,false⟩ else ⟨vs.map xG,(vs.map xG).any Xt.sh,(vs.map xG).any Xt.pt⟩
 | some _=>⟨[],true,false⟩
structure Qq where
 eff:BA
 who:Bool×List BA
 act:Bool×List BA
 on:Bool×List BA
 cs:List Xt
 sh:Bool
 pt:Bool
def ql:BA:=⟨#[101,102,102,101,99,116]⟩
def qz:BA:=⟨#[119,104,111]⟩
def bDo:BA:=⟨#[100,111]⟩
def bOn:BA:=⟨#[111,110]⟩
def bIf:BA:=⟨#[105,102]⟩
def vC:BA:=⟨#[115,116,97,116,101,109,101,110,116]⟩
def yG(s:BA):Bool:=(s.toList==[97,108,108,111,119])||(s.toList==[100,101,110,121])
def Z9:Qq:=⟨⟨#[]⟩,(false,[]),(false,[]),(false,[]),[],true,false⟩
def chD(c:Bool×Option (List BA)):Bool×List BA:=(c.1,c.2.getD [])
def chP(c:Bool×Option (List BA)):Bool:=!((c.2.getD []).all yf)
def J4(eff:BA)(a b c:Bool×Option (List BA))(cs:lK):Qq:=
 ⟨eff,chD a,chD b,chD c,cs.cs,!yG eff || !a.2.isSome || !b.2.isSome || !c.2.isSome||cs.sh,chP a||chP b||chP c||cs.pt⟩
def Vp(ms:List (BA×V)):Qq:=match qh ms [ql,qz,bDo,bOn,bIf],opV (zl ms ql) with
 | true,some eff=>J4 eff (kr (zl ms qz)) (kr (zl ms bDo)) (kr (zl ms bOn)) (xY (zl ms bIf))
 | _,_=>Z9
def yz:V->Qq
 | .obj ms=>Vp ms
 | _=>Z9
def XP:List Qq->Nat->Int×Nat
 | [],_=>(0,0)
 | r::rs,i=>if r.sh then (5,i+1) else if r.pt then (6,i+1) else XP rs (i+1)
def ZC:V->Int×Nat
 | .obj ms=>match zl ms vC with
  | some (.list vs)=>if ms.length≠1\/vs.length<1\/10<vs.length then (5,0) else XP (vs.map yz) 0
  | _=>(5,0)
 | _=>(5,0)
def cls(sh pt:Bool):Nat:=if sh then 1 else if pt then 2 else 0
def qA(l:List Nat):Nat:=if l.any (λc=>c==1) then 1 else if l.any (λc=>c==2) then 2 else 0
theorem Fj(sh pt:Bool):(cls sh pt==1)=sh:=by cases sh<;>cases pt<;>rfl
theorem Fp(pt:Bool):(cls false pt==2)=pt:=by cases pt<;>rfl
theorem VT:∀(l:List (Bool×Bool)),qA (l.map λx=>cls x.1 x.2)=cls (l.any Prod.fst) (l.any Prod.snd):=by
 intro l
 have b:(l.map λx=>cls x.1 x.2).any (λc=>c==1)=l.any Prod.fst:=by
  rw[QV];exact congrArg (λf=>l.any f) (funext λx=>Fj x.1 x.2)
 unfold qA;rw[b]
 cases h:l.any Prod.fst with
 | true=>rfl
 | false=>
  have d:(l.map λx=>cls x.1 x.2).any (λc=>c==2)=l.any Prod.snd:=by
   rw[QU] at h;clear b
   induction l with
   | nil=>rfl
   | cons a r i=>
    have e:a.1=false:=by have:=h a (by simp);simpa using this
    rw[vw,X9,X9,i (λx g=>h x (by simp[g])),e,Fp]
  rw[d]
  rfl
theorem pY(c:Nat)(h:c<=2):qA [c]=c:=by
 have:c=0\/c=1\/c=2:=by omega
 rcases this with rfl|rfl|rfl<;>rfl
theorem nQ(sh pt:Bool):cls sh pt<=2:=by cases sh<;>cases pt<;>decide
theorem JV(l:List Nat):qA l<=2:=by unfold qA;split;decide;split<;>decide
def qP(c:Option V->Nat):Option V->Nat
 | some (.list vs)=>if vs.length<1\/10<vs.length then 1 else qA (vs.map λv=>c (some v))
 | x=>qA [c x]
def qW(f:Option V->BA):Option V->List BA
 | some (.list vs)=>if vs.length<1\/10<vs.length then [] else vs.map λv=>f (some v)
 | x=>[f x]
def strOf:Option V->BA
 | some (.str s)=>s
 | _=>⟨#[]⟩
def yM:Option V->Nat
 | some (.str s)=>cls false (!yf s)
 | _=>1
def qf(f:BA->Bool):Option V->Nat
 | some (.str s)=>cls (!f s) false
 | _=>1
def qZ(f:BA->Bool):Option V->BA
 | some (.str s)=>if f s then s else ⟨#[]⟩
 | _=>⟨#[]⟩
theorem Uk:∀(a:List V),(∃l,Zn a=some l/\a=l.map .str)\/(Zn a=none/\∃v ∈ a,∀s,v ≠ .str s)
 | [] => .inl ⟨[],rfl,rfl⟩
 | v::a=>by
  cases v with
  | str s=>
   rcases Uk a with ⟨l,h1,h2⟩|⟨h1,v,hv,h2⟩
   ·left;exact⟨s::l,by simp[Zn,h1],by simp[h2]⟩
   ·right;exact⟨by simp[Zn,h1],v,by simp[hv],h2⟩
  | word b=>right;exact⟨rfl,.word b,by simp,λs e=>by cases e⟩
  | list l=>right;exact⟨rfl,.list l,by simp,λs e=>by cases e⟩
  | obj l=>right;exact⟨rfl,.obj l,by simp,λs e=>by cases e⟩
theorem VU{l:List Nat}(h:1 ∈ l):qA l=1:=by
 unfold qA;rw[zb];rw[uT];exact⟨1,h,rfl⟩
theorem LV(f:BA->Bool)(l:List BA):qA (l.map λs=>cls false (!f s))=cls false (!l.all f):=by
 have:=VT (l.map λs=>(false,!f s))
 rw[jw] at this;have e:((λx:Bool×Bool=>cls x.1 x.2) ∘ λs=>(false,!f s))=λs=>cls false (!f s):=rfl;rw[e] at this;rw[this];have a:(l.map λs=>(false,!f s)).any Prod.fst=false:=by rw[QV,QU];intro x _;simp
 have b:(l.map λs=>(false,!f s)).any Prod.snd = !l.all f:=by rw[QV,List.not_all_eq_any_not];rfl
 rw[a,b]
theorem LW(f:BA->Bool)(l:List BA):qA (l.map λs=>cls (!f s) false)=cls (!l.all f) false:=by
 have:=VT (l.map λs=>(!f s,false))
 rw[jw] at this;have e:((λx:Bool×Bool=>cls x.1 x.2) ∘ λs=>(!f s,false))=λs=>cls (!f s) false:=rfl;rw[e] at this;rw[this];have a:(l.map λs=>(!f s,false)).any Prod.snd=false:=by rw[QV,QU];intro x _;simp
 have b:(l.map λs=>(!f s,false)).any Prod.fst = !l.all f:=by rw[QV,List.not_all_eq_any_not];rfl
 rw[a,b]
theorem Ve(x:Option V):qP yM x=cls (!(zR x).isSome) (!((zR x).getD []).all yf):=by
 have a:∀x:Option V,zR x=none->yM x=1->(∀d,x≠some (.list d))->qP yM x=cls (!(zR x).isSome) (!((zR x).getD []).all yf):=by
  intro x h e f;rw[h];unfold qP
  split
  ·rename_i d;exact absurd rfl (f d)
  ·rw[e];rfl
 match x with
 | none=>exact a none rfl rfl (by simp)
 | some (.word b)=>exact a _ rfl rfl (by simp)
 | some (.obj ms)=>exact a _ rfl rfl (by simp)
 | some (.str s)=>
  show qA [yM (some (.str s))]=_;simp only[yM,zR,yO,uw,Uz,List.all_nil,YJ,Bool.not_true];exact pY _ (nQ _ _)
 | some (.list d)=>
  simp only[qP,zR]
  by_cases c:d.length<1\/10<d.length
  ·rw[zb c,zb c];rfl
  ·rw[za c,za c]
   rcases Uk d with ⟨l,e,rfl⟩|⟨e,v,hv,f⟩
   ·rw[e,jw];exact LV yf l
   ·rw[e];rw[VU]
    ·rfl
    ·rw[qR];refine⟨v,hv,?_⟩
     cases v with
     | str s=>exact absurd rfl (f s)
     | _=>rfl
theorem Ko(f:BA->Bool)(x:Option V):qP (qf f) x=cls (!(zR x).isSome || !((zR x).getD []).all f) false:=by
 have a:∀x:Option V,zR x=none->qf f x=1->(∀d,x≠some (.list d))->qP (qf f) x=cls (!(zR x).isSome || !((zR x).getD []).all f) false:=by
  intro x h e g;rw[h];unfold qP
  split
  ·rename_i d;exact absurd rfl (g d)
  ·rw[e];rfl
 match x with
 | none=>exact a none rfl rfl (by simp)
 | some (.word b)=>exact a _ rfl rfl (by simp)
 | some (.obj ms)=>exact a _ rfl rfl (by simp)
 | some (.str s)=>
  show qA [qf f (some (.str s))]=_;simp only[qf,zR,yO,uw,Uz,List.all_nil,YJ,Bool.not_true,Xo];exact pY _ (nQ _ _)
 | some (.list d)=>
  simp only[qP,zR]
  by_cases c:d.length<1\/10<d.length
  ·rw[zb c,zb c];rfl
  ·rw[za c,za c]
   rcases Uk d with ⟨l,e,rfl⟩|⟨e,v,hv,g⟩
   ·rw[e,jw];exact LW f l
   ·rw[e];rw[VU]
    ·rfl
    ·rw[qR];refine⟨v,hv,?_⟩
     cases v with
     | str s=>exact absurd rfl (g s)
     | _=>rfl
theorem wM(x:Option V)(h:(zR x).isSome):qW strOf x=(zR x).getD []:=by
 match x with
 | none=>simp[zR] at h
 | some (.word b)=>simp[zR] at h
 | some (.obj ms)=>simp[zR] at h
 | some (.str s)=>rfl
 | some (.list vs)=>
  simp only[qW,zR] at h |-
  by_cases c:vs.length<1\/10<vs.length
  ·rw[zb c] at h;simp at h
  ·rw[za c] at h |-;rw[za c]
   rcases Uk vs with ⟨l,h1,rfl⟩|⟨h1,v,hv,h2⟩
   ·rw[h1,jw];exact List.map_id' l
   ·rw[h1] at h;simp at h
theorem OZ(f:BA->Bool)(x:Option V)(h:(zR x).isSome)(a:((zR x).getD []).all f=true):qW (qZ f) x=(zR x).getD []:=by
 match x with
 | none=>simp[zR] at h
 | some (.word b)=>simp[zR] at h
 | some (.obj ms)=>simp[zR] at h
 | some (.str s)=>
  simp only[zR,yO,Uz,List.all_nil,YJ] at a;simp[qW,qZ,a,zR]
 | some (.list vs)=>
  simp only[qW,zR] at h a |-
  by_cases c:vs.length<1\/10<vs.length
  ·rw[zb c] at h;simp at h
  ·rw[za c] at h a |-;rw[za c]
   rcases Uk vs with ⟨l,h1,rfl⟩|⟨h1,v,hv,h2⟩
   ·rw[h1] at a |-;rw[jw];simp only[yO] at a |-
    have:∀s ∈ l,((λv=>qZ f (some v)) ∘ V.str) s=s:=by
     intro s d;rw[vP] at a;simp[qZ,a s d]
    rw[Jt this];exact List.map_id' l
   ·rw[h1] at h;simp at h
inductive Good (L:Nat):V->Prop
 | str (s:BA):s.size<=L->Good L (.str s)
 | word (b:Bool):Good L (.word b)
 | list (vs:List V):vs.length<=L->(∀v ∈ vs,Good L v)->Good L (.list vs)
 | obj (ms:List (BA×V)):ms.length<=L->(ms.map λm=>m.1.toList).Nodup->(∀m ∈ ms,m.1.size<=L)->(∀m ∈ ms,Good L m.2)->Good L (.obj ms)
theorem lw{l:List UInt8}:∀{r:List Nat} {p q:Nat} {u:Unit},qj l r p = .ok u q->(∀b ∈ r,b≠0)->p<=l.length->p<=q/\q<=l.length
 | [],p,q,u,h,_,hp=>by
  rw[qj] at h;injection h with h1 h2
  omega
 | b::r,p,q,u,h,hb,hp=>by
  rw[qj] at h
  split at h
  ·rename_i c;have e:b≠0:=hb b (by simp);have a:=qC l p (by omega)
   have:=lw h (λx d=>hb x (by simp[d])) (by omega)
   omega
  ·cases h
theorem pV(l:List UInt8):∀(f:Nat),
  (∀d p v q,qo l f d p = .ok v q->Good l.length v/\p<q/\q<=l.length) /\
  (∀d p acc v q,uH l f d p acc = .ok v q->acc.length<=p->(∀x ∈ acc,Good l.length x)->Good l.length v/\p<q/\q<=l.length) /\
  (∀d p acc v q,uI l f d p acc = .ok v q->acc.length<=p->(acc.map λm=>m.1.toList).Nodup->(∀x ∈ acc,x.1.size<=l.length/\Good l.length x.2)->Good l.length v/\p<q/\q<=l.length)
 | 0=>by
  refine⟨λd p v q h=>?_,λd p acc v q h=>?_,λd p acc v q h=>?_⟩
  ·rw[qo] at h;cases h
  ·rw[uH] at h;cases h
  ·rw[uI] at h;cases h
 | f+1=>by
  obtain⟨w,t,u⟩:=pV l f;refine⟨λd p v q h=>?_,λd p acc v q h z C=>?_,λd p acc v q h z K C=>?_⟩
  ·rw[qo] at h;have L:=je l (p+1)
   by_cases c1:zk l p=123
   ·rw[zb c1] at h
    split at h
    ·cases h
    split at h
    ·rename_i k;injection h with h1 h2
     subst h1
     have:=qC l (skip l (p+1)) (by omega)
     exact⟨.obj [] (zU _) (by simp) (by simp) (by simp),by omega,by omega⟩
    ·obtain⟨a,b,c⟩:=u _ _ _ _ _ h (by simp) (by simp) (by simp);exact⟨a,by omega,c⟩
   rw[za c1] at h
   by_cases c2:zk l p=91
   ·rw[zb c2] at h
    split at h
    ·cases h
    split at h
    ·rename_i k;injection h with h1 h2
     subst h1
     have:=qC l (skip l (p+1)) (by omega)
     exact⟨.list [] (zU _) (by simp),by omega,by omega⟩
    ·obtain⟨a,b,c⟩:=t _ _ _ _ _ h (by simp) (by simp);exact⟨a,by omega,c⟩
   rw[za c2] at h
   by_cases c3:zk l p=34
   ·rw[zb c3] at h;have n:yR l p=vM l (p+1):=by unfold yR;rw[zb c3]
    cases hs:vM l (p+1) with
    | err c g=>rw[hs] at h;cases h
    | ok s g=>
     rw[hs] at h;injection h with h1 h2
     subst h1;subst h2;rw[hs] at n;have H:=KF n;have G:=KG n;exact⟨.str s (by omega),by omega,G⟩
   rw[za c3] at h
   by_cases c4:zk l p=116
   ·rw[zb c4] at h;have D:=qC l p (by omega)
    cases hw:qj l [114,117,101] (p+1) with
    | err c g=>rw[hw] at h;cases h
    | ok s g=>
     rw[hw] at h;injection h with h1 h2
     subst h1;subst h2
     have:=lw hw (by decide) (by omega)
     exact⟨.word true,by omega,this.2⟩
   rw[za c4] at h
   by_cases c5:zk l p=102
   ·rw[zb c5] at h;have D:=qC l p (by omega)
    cases hw:qj l [97,108,115,101] (p+1) with
    | err c g=>rw[hw] at h;cases h
    | ok s g=>
     rw[hw] at h;injection h with h1 h2
     subst h1;subst h2
     have:=lw hw (by decide) (by omega)
     exact⟨.word false,by omega,this.2⟩
   rw[za c5] at h
   cases h
  ·rw[uH] at h
   cases hv:qo l f (d+1) p with
   | err c g=>rw[hv] at h;cases h
   | ok x g=>
    rw[hv] at h;simp only at h;obtain⟨B,I,J⟩:=w _ _ _ _ hv;have N:=je l g
    have i:∀y ∈ acc++[x],Good l.length y:=by
     intro y j
     rcases ZT.1 j with j|j
     ·exact C y j
     ·simp only[xP] at j;subst j;exact B
    split at h
    ·have O:=je l (skip l g+1);obtain⟨a,b,c⟩:=t _ _ _ _ _ h (by simp;omega) i;exact⟨a,by omega,c⟩
    split at h
    ·rename_i k;injection h with h1 h2
     subst h1
     have:=qC l (skip l g) (by omega)
     exact⟨.list _ (by simp;omega) i,by omega,by omega⟩
    ·cases h
  ·rw[uI] at h
   split at h
   ·cases h
   rename_i c3;have A:zk l p=34:=by omega
   have n:yR l p=vM l (p+1):=by unfold yR;rw[zb A]
   cases hs:vM l (p+1) with
   | err c g=>rw[hs] at h;cases h
   | ok s F=>
    rw[hs] at h;rw[hs] at n;simp only at h;have H:=KF n;have G:=KG n
    split at h
    ·cases h
    rename_i E
    split at h
    ·cases h
    cases hv:qo l f (d+1) (skip l (skip l F+1)) with
    | err c g=>rw[hv] at h;cases h
    | ok x g=>
     rw[hv] at h;simp only at h;obtain⟨B,I,J⟩:=w _ _ _ _ hv;have P:=je l F;have M:=je l (skip l F+1);have N:=je l g
     have i:∀y ∈ acc++[(s,x)],y.1.size<=l.length/\Good l.length y.2:=by
      intro y j
      rcases ZT.1 j with j|j
      ·exact C y j
      ·simp only[xP] at j;subst j;exact⟨by simp only;omega,B⟩
     have r:((acc++[(s,x)]).map λm=>m.1.toList).Nodup:=by
      rw[jN,List.nodup_append];refine⟨K,by simp,?_⟩;intro a z b hb;simp only[vw,Zv,xP] at hb;subst hb;rw[qR] at z;obtain⟨m,o,rfl⟩:=z;intro e;apply E;rw[uT];exact⟨m,o,by simp[e]⟩
     split at h
     ·have O:=je l (skip l g+1);obtain⟨a,b,c⟩:=u _ _ _ _ _ h (by simp;omega) r i;exact⟨a,by omega,c⟩
     split at h
     ·rename_i k;injection h with h1 h2
      subst h1
      have:=qC l (skip l g) (by omega)
      exact⟨.obj _ (by simp;omega) r (λm o=>(i m o).1) (λm o=>(i m o).2),by omega,by omega⟩
     ·cases h
theorem Ue{l:List UInt8}{v:V}{q:Nat}(h:yS l = .ok v q):Good l.length v:=by
 unfold yS at h
 cases hv:qo l (2*l.length+1) 1 (skip l 0) with
 | err c a=>rw[hv] at h;cases h
 | ok x a=>
  rw[hv] at h;simp only at h
  split at h
  ·cases h
  ·injection h with h1 h2
   subst h1;exact ((pV l _).1 _ _ _ _ hv).1
def chC:Option V->Nat
 | some (.obj ms)=>if qh ms [qH] then qP yM (zl ms qH) else 1
 | x=>qP yM x
theorem UU{L:Nat}(x:Option V)(h:∀v,x=some v->Good L v):chC x=cls (!(kr x).2.isSome) (chP (kr x)):=by
 match x with
 | none=>exact Ve none
 | some (.word b)=>exact Ve (some (.word b))
 | some (.str s)=>exact Ve (some (.str s))
 | some (.list vs)=>exact Ve (some (.list vs))
 | some (.obj ms)=>
  simp only[chC,kr]
  by_cases c:qh ms [qH]=true
  ·rw[zb c];have a:=h _ rfl
   cases a with
   | obj _ f d g i=>
    match ms with
    | []=>rfl
    | [m]=>
     have e:(m.1.toList==qH.toList)=true:=by
      simp[qh] at c;simp[c]
     rw[zb ⟨c,rfl⟩];have a:zl [m] qH=some m.2:=by unfold zl;rw[UA,e];rfl
     rw[a];exact Ve _
    | m::m'::r=>
     exfalso;simp[qh] at c;simp only[vw,List.nodup_cons,vz,not_or] at d;exact d.1.1 (by rw[<- c.1,<- c.2.1])
  ·rw[za c,za (λe=>c e.1)]
   rfl
def short(s:BA):Bool:=decide (s.size<=60)
def filled(s:BA):Bool:=!s.toList.isEmpty&&short s
def yQ(op:BA):Bool:=op.toList==[115,97,109,101]
def jG(op:BA):Bool:=op.toList==[98,101,108,111,119]
def ZG(op:BA):Bool:=op.toList==[117,110,100,101,114]
def qB(op:BA)(x:Option V):Nat:=
 if xH op then qP yM x
 else if yQ op then qP (qf short) x
 else if jG op then qP (qf xB) x
 else if ZG op then qP (qf filled) x
 else if x.isNone then 0 else 1
def xC(op:BA)(x:Option V):List BA:=
 if xH op then qW strOf x
 else if yQ op then qW (qZ short) x
 else if jG op then qW (qZ xB) x
 else if ZG op then qW (qZ filled) x
 else []
theorem UL{f g:BA->Bool}(h:∀s,f s=g s)(l:List BA):l.all f=l.all g:=by rw[show f=g from funext h]
theorem sS(op:BA)(x:Option V)(h:uJ op=true):qB op x=cls (!(zR x).isSome || !Yl op ((zR x).getD [])) (xH op && !((zR x).getD []).all yf):=by
 unfold qB Yl;rw[h,YJ]
 by_cases c1:xH op=true
 ·rw[zb c1];have e:op.toList=[108,105,107,101]:=by simpa [xH] using c1
  have a:∀s,Xl op s=true:=by intro s;unfold Xl;rw[e];rfl
  rw[UL a,c1,Ve,show ((zR x).getD []).all (λ_=>true)=true from by simp]
  simp
 rw[za c1];have b:xH op=false:=by simpa using c1
 rw[b,X8]
 by_cases c2:yQ op=true
 ·rw[zb c2];have e:op.toList=[115,97,109,101]:=by simpa [yQ] using c2
  have a:∀s,Xl op s=short s:=by intro s;unfold Xl;rw[e];rfl
  rw[UL a,Ko]
 rw[za c2]
 by_cases c3:jG op=true
 ·rw[zb c3];have e:op.toList=[98,101,108,111,119]:=by simpa [jG] using c3
  have a:∀s,Xl op s=xB s:=by intro s;unfold Xl;rw[e];rfl
  rw[UL a,Ko]
 rw[za c3]
 by_cases c4:ZG op=true
 ·rw[zb c4];have e:op.toList=[117,110,100,101,114]:=by simpa [ZG] using c4
  have a:∀s,Xl op s=filled s:=by
   intro s;unfold Xl;rw[e];show (decide (s.size<=60) && !s.toList.isEmpty)=(!s.toList.isEmpty&&short s);rw[Bool.and_comm]
   rfl
  rw[UL a,Ko]
 exfalso;unfold uJ at h;unfold xH at c1;unfold yQ at c2;unfold jG at c3;unfold ZG at c4;simp only[Vt] at h
 rcases h with ((h|h)|h)|h
 ·exact c2 h
 ·exact c4 h
 ·exact c3 h
 ·exact c1 h
theorem Pn(ms:List (BA×V)):qh ms [bOp,zG,zJ,bNo]=qh ms [bOp,zG,bNo,zJ]:=by
 unfold qh;refine congrArg (λf=>ms.all f) (funext λm=>?_);simp only[X9,List.any_nil,Xp];rw[Bool.or_comm (zJ.toList==m.1.toList) (bNo.toList==m.1.toList)]
theorem wN(m:BA×V)(ms:List (BA×V))(a:List BA):qh (m::ms) a=((a.any λt=>t.toList==m.1.toList)&&qh ms a):=by
 unfold qh;rw[Uz]
theorem wO:∀(ms:List (BA×V)),qh ms [bOp,zG,bNo]=(qh ms [bOp,zG,bNo,zJ]&&(zl ms zJ).isNone)
 | []=>rfl
 | m::ms=>by
  rw[wN,wN,wO ms];unfold zl;rw[UA]
  by_cases c:(m.1.toList==zJ.toList)=true
  ·rw[c];have e:m.1.toList=zJ.toList:=by simpa using c
   rw[e]
   have:([bOp,zG,bNo].any λt=>t.toList==zJ.toList)=false:=by kernel_rfl
   rw[this]
   simp
  ·have a:(m.1.toList==zJ.toList)=false:=by simpa using c
   have c2:(zJ.toList==m.1.toList)=false:=by rw[Bool.beq_comm];exact a
   rw[a];simp only[X9,List.any_nil,Xp,c2];rw[Bool.and_assoc]
def condC:V->Nat
 | .obj ms=>if qh ms [bOp,zG,zJ,bNo] then (match opV (zl ms bOp) with
  | some op=>if uJ op||jm op then qA [qf qm (zl ms zG),qB op (zl ms zJ),cls (Zh (zl ms bNo)) false] else 1
  | none=>1) else 1
 | _=>1
theorem pW(a b c d e f:Bool):qA [cls a d,cls b e,cls c f]=cls (a||b||c) (d||e||f):=by
 have:=VT [(a,d),(b,e),(c,f)]
 simp only[vw,Zv,X9,List.any_nil,Xp] at this;rw[this,Bool.or_assoc,Bool.or_assoc]
theorem mg(op:BA)(h:jm op=true):uJ op=false/\xH op=false/\yQ op=false/\jG op=false/\ZG op=false:=by
 have e:op.toList=[97,98,115,101,110,116]:=by simpa [jm] using h
 unfold uJ xH yQ jG ZG;rw[e]
 decide
theorem nX(v:V):condC v=cls (xG v).sh (xG v).pt:=by
 cases v with
 | str s=>rfl
 | word b=>rfl
 | list l=>rfl
 | obj ms=>
  simp only[condC,xG,JM]
  cases ho:opV (zl ms bOp) with
  | none=>simp only[ite_self];rfl
  | some op=>
   simp only
   cases hk:opV (zl ms zG) with
   | none=>
    have e:qf qm (zl ms zG)=1:=by
     unfold opV at hk
     split at hk
     ·cases hk
     ·rename_i d;unfold qf
      split
      ·rename_i s c;exact absurd c (d s)
      ·rfl
    rw[e]
    have:qA [1,qB op (zl ms zJ),cls (Zh (zl ms bNo)) false]=1:=VU (by simp)
    rw[this];simp only[ite_self]
    rfl
   | some key=>
    have e:qf qm (zl ms zG)=cls (!qm key) false:=by
     unfold opV at hk
     split at hk
     ·rename_i s c;injection hk with hk
      subst hk;rw[c]
      rfl
     ·cases hk
    rw[e,Pn]
    by_cases ca:jm op=true
    ·obtain⟨k,g,h,i,j⟩:=mg op ca;simp only[ca,Bool.or_true,qO];rw[wO]
     have f:qB op (zl ms zJ)=cls (!(zl ms zJ).isNone) false:=by
      unfold qB;rw[g,h,i,j]
      cases (zl ms zJ).isNone<;>rfl
     rw[f,pW]
     cases qh ms [bOp,zG,bNo,zJ]<;>cases (zl ms zJ).isNone<;>cases qm key<;>cases Zh (zl ms bNo)<;>rfl
    ·have a:jm op=false:=by simpa using ca
     simp only[a,Xp,yB,yu]
     cases ok:uJ op with
     | false=>
      have:Yl op ((zR (zl ms zJ)).getD [])=false:=by unfold Yl;rw[ok,Bool.and_false]
      rw[this];simp only[yB,yu,ite_self,Bool.not_false,Bool.or_true,YK]
      rfl
     | true=>
      rw[sS op _ ok,pW];simp only[qO];generalize (!(zR (zl ms zJ)).isSome || !Yl op ((zR (zl ms zJ)).getD []))=A;generalize (xH op && !((zR (zl ms zJ)).getD []).all yf)=B
      cases qh ms [bOp,zG,bNo,zJ]<;>cases A<;>cases B<;>cases qm key<;>cases Zh (zl ms bNo)<;>rfl
def jD:Option V->Nat
 | none=>0
 | some (.list vs)=>if 5<vs.length then 1 else qA (vs.map condC)
 | some _=>1
theorem FJ(x:Option V):jD x=cls (xY x).sh (xY x).pt:=by
 match x with
 | none=>rfl
 | some (.str s)=>rfl
 | some (.word b)=>rfl
 | some (.obj ms)=>rfl
 | some (.list vs)=>
  simp only[jD,xY]
  split
  ·rfl
  ·have:=VT (vs.map λv=>((xG v).sh,(xG v).pt))
   rw[jw] at this;have e:((λx:Bool×Bool=>cls x.1 x.2) ∘ λv=>((xG v).sh,(xG v).pt))=condC:=funext λv=>(nX v).symm;rw[e] at this;rw[this];simp only[QV]
   rfl
def xM:V->Nat
 | .obj ms=>if qh ms [ql,qz,bDo,bOn,bIf] then qA [qf yG (zl ms ql),chC (zl ms qz),chC (zl ms bDo),chC (zl ms bOn),jD (zl ms bIf)] else 1
 | _=>1
theorem yt{L:Nat}{ms:List (BA×V)}(h:Good L (.obj ms))(nm:BA):∀v,zl ms nm=some v->Good L v:=by
 intro v a
 cases h with
 | obj _ d e f b=>
  unfold zl at a;obtain⟨m,c,rfl⟩:=vR.1 a;exact b m (lW c)
theorem LP(a b c d e f g h i j:Bool):qA [cls a f,cls b g,cls c h,cls d i,cls e j]=cls (a||b||c||d||e) (f||g||h||i||j):=by
 have:=VT [(a,f),(b,g),(c,h),(d,i),(e,j)]
 simp only[vw,Zv,X9,List.any_nil,Xp] at this;rw[this];simp only[Bool.or_assoc]
theorem BI{L:Nat}(v:V)(h:Good L v):xM v=cls (yz v).sh (yz v).pt:=by
 cases v with
 | str s=>rfl
 | word b=>rfl
 | list l=>rfl
 | obj ms=>
  simp only[xM,yz,Vp]
  cases ho:qh ms [ql,qz,bDo,bOn,bIf] with
  | false=>rfl
  | true=>
   simp only[qO]
   cases hk:opV (zl ms ql) with
   | none=>
    have d:qf yG (zl ms ql)=1:=by
     unfold opV at hk
     split at hk
     ·cases hk
     ·rename_i c;unfold qf
      split
      ·rename_i s a;exact absurd a (c s)
      ·rfl
    rw[d];rw[VU (by simp)]
    rfl
   | some eff=>
    have d:qf yG (zl ms ql)=cls (!yG eff) false:=by
     unfold opV at hk
     split at hk
     ·rename_i s a;injection hk with hk
      subst hk;rw[a]
      rfl
     ·cases hk
    rw[d,UU _ (yt h qz),UU _ (yt h bDo),UU _ (yt h bOn),FJ,LP];simp only[J4,Xo]
def Qz:List Nat->Nat->Int×Nat
 | [],_=>(0,0)
 | c::cs,i=>if c=1 then (5,i+1) else if c=2 then (6,i+1) else Qz cs (i+1)
theorem cB{L:Nat}:∀(a:List V) (i:Nat),(∀v ∈ a,Good L v)->XP (a.map yz) i=Qz (a.map xM) i
 | [],_,_=>rfl
 | v::a,i,h=>by
  rw[vw,vw,XP,Qz,BI v (h v (by simp)),cB a (i+1) (λx b=>h x (by simp[b]))]
  cases (yz v).sh<;>cases (yz v).pt<;>rfl
def jT(s:BA):Int×Nat:=
 if 4000<s.size then (1,0) else match yS s.data.toList with
  | .err e q=>(e,q)
  | .ok v _=>ZC v
def Code(c:Int):Prop:=c=2\/c=3\/c=4
theorem oV(l:List UInt8):∀(f:Nat),
  (∀d p c q,qo l f d p = .err c q->Code c) /\
  (∀d p acc c q,uH l f d p acc = .err c q->Code c) /\
  (∀d p acc c q,uI l f d p acc = .err c q->Code c)
 | 0=>by
  refine⟨λd p c q h=>?_,λd p acc c q h=>?_,λd p acc c q h=>?_⟩
  ·rw[qo] at h;injection h with h1 h2;exact .inl h1.symm
  ·rw[uH] at h;injection h with h1 h2;exact .inl h1.symm
  ·rw[uI] at h;injection h with h1 h2;exact .inl h1.symm
 | f+1=>by
  obtain⟨i,b,g⟩:=oV l f;refine⟨λd p c q h=>?_,λd p acc c q h=>?_,λd p acc c q h=>?_⟩
  ·rw[qo] at h
   by_cases c1:zk l p=123
   ·rw[zb c1] at h
    split at h
    ·injection h with h1 h2;exact .inr (.inl h1.symm)
    split at h
    ·cases h
    ·exact g _ _ _ _ _ h
   rw[za c1] at h
   by_cases c2:zk l p=91
   ·rw[zb c2] at h
    split at h
    ·injection h with h1 h2;exact .inr (.inl h1.symm)
    split at h
    ·cases h
    ·exact b _ _ _ _ _ h
   rw[za c2] at h
   by_cases c3:zk l p=34
   ·rw[zb c3] at h
    cases hs:vM l (p+1) with
    | ok s a=>rw[hs] at h;cases h
    | err e a=>
     rw[hs] at h;injection h with h1 h2
     subst h1;exact .inl (KR hs)
   rw[za c3] at h
   by_cases c4:zk l p=116
   ·rw[zb c4] at h
    cases hw:qj l [114,117,101] (p+1) with
    | ok s a=>rw[hw] at h;cases h
    | err e a=>
     rw[hw] at h;injection h with h1 h2
     subst h1;exact .inl (Ur hw)
   rw[za c4] at h
   by_cases c5:zk l p=102
   ·rw[zb c5] at h
    cases hw:qj l [97,108,115,101] (p+1) with
    | ok s a=>rw[hw] at h;cases h
    | err e a=>
     rw[hw] at h;injection h with h1 h2
     subst h1;exact .inl (Ur hw)
   rw[za c5] at h;injection h with h1 h2
   exact .inl h1.symm
  ·rw[uH] at h
   cases hv:qo l f (d+1) p with
   | err e a=>
    rw[hv] at h;injection h with h1 h2
    subst h1;exact i _ _ _ _ hv
   | ok x a=>
    rw[hv] at h;simp only at h
    split at h
    ·exact b _ _ _ _ _ h
    split at h
    ·cases h
    ·injection h with h1 h2;exact .inl h1.symm
  ·rw[uI] at h
   split at h
   ·injection h with h1 h2;exact .inl h1.symm
   cases hs:vM l (p+1) with
   | err e a=>
    rw[hs] at h;injection h with h1 h2
    subst h1;exact .inl (KR hs)
   | ok s j=>
    rw[hs] at h;simp only at h
    split at h
    ·injection h with h1 h2;exact .inr (.inr h1.symm)
    split at h
    ·injection h with h1 h2;exact .inl h1.symm
    cases hv:qo l f (d+1) (skip l (skip l j+1)) with
    | err e a=>
     rw[hv] at h;injection h with h1 h2
     subst h1;exact i _ _ _ _ hv
    | ok x a=>
     rw[hv] at h;simp only at h
     split at h
     ·exact g _ _ _ _ _ h
     split at h
     ·cases h
     ·injection h with h1 h2;exact .inl h1.symm
theorem AY{l:List UInt8}{c:Int}{q:Nat}(h:yS l = .err c q):Code c:=by
 unfold yS at h
 cases hv:qo l (2*l.length+1) 1 (skip l 0) with
 | err e a=>
  rw[hv] at h;injection h with h1 h2
  subst h1;exact (oV l _).1 _ _ _ _ hv
 | ok x a=>
  rw[hv] at h;simp only at h
  split at h
  ·injection h with h1 h2;exact .inl h1.symm
  ·cases h
theorem Wy(v:V):xM v<=2:=by
 cases v with
 | obj ms=>simp only[xM];split;exact JV _;decide
 | _=>simp[xM]
theorem cK:∀(cs:List Nat) (i:Nat),(∀c ∈ cs,c=0)->Qz cs i=(0,0)
 | [],_,_=>rfl
 | c::cs,i,h=>by
  have b:=h c (by simp);rw[Qz,za (by omega),za (by omega)];exact cK cs _ (λx a=>h x (by simp[a]))
theorem pu:∀(cs:List Nat) (i k:Nat),(a:k<cs.length)->(∀j,(h:j<k)->cs[j]=0)->cs[k]≠0->cs[k]<=2->Qz cs i=(if cs[k]=1 then 5 else 6,i+k+1)
 | [],_,k,a,_,_,_=>by simp at a
 | c::cs,i,0,a,_,h1,h2=>by
  simp only[List.getElem_cons_zero] at h1 h2 |-;rw[Qz]
  by_cases e:c=1
  ·rw[zb e,zb e]
  ·rw[za e,zb (by omega),za e]
 | c::cs,i,k+1,a,h0,h1,h2=>by
  have b:c=0:=h0 0 (by omega);simp only[List.getElem_cons_succ] at h1 h2 |-;rw[Qz,za (by omega),za (by omega),pu cs (i+1) k (by simpa using a) (λj d=>by have:=h0 (j+1) (by omega);simpa using this) h1 h2];have e:i+1+k+1=i+(k+1)+1:=by omega
  rw[e]
end Rd
end Go.Proofs.YtagnlbgbnfnapaaGreatDoor
