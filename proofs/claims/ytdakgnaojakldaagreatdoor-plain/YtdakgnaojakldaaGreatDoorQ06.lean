/- P -/
import Derived.Test.YtdakgnaojakldaaGreatDoorQ05
import Derived.KernelRfl
set_option maxRecDepth 100000
namespace Go.Proofs.YtdakgnaojakldaaGreatDoor
namespace Rd
open Ref
def zk(ms:List (BA×V))(nm:BA):Option V:=(ms.find? λm=>m.1.toList==nm.toList).map Prod.snd
def kH:List V->Option (List BA)
 | []=>some []
 | .str s::vs=>(kH vs).map λl=>s::l
 | _::_=>none
def zJ:Option V->Option (List BA)
 | some (.str s)=>some [s]
 | some (.list vs)=>if vs.length<1\/10<vs.length then none else kH vs
 | _=>none
def qc(ms:List (BA×V))(names:List BA):Bool:=ms.all λm=>names.any λt=>t.toList==m.1.toList
def uy:Option V->Bool×Option (List BA)
 | some (.obj ms)=>if qc ms [qm]=true/\ms.length=1 then (true,zJ ((ms.map Prod.snd)[0]?)) else (false,none)
 | x=>(false,zJ x)
def opV(x:Option V):Option BA:=match x with
 | some (.str s)=>some s
 | _=>none
def YI:Option V->Bool
 | some (.word b)=>b
 | _=>false
def kC:Option V->Bool
 | none=>false
 | some (.word _)=>false
 | _=>true
def Jg(ms:List (BA×V)):jZ:=match opV (zk ms bOp),opV (zk ms zx) with
 | some op,some key=>
  if yf op then ⟨op,key,[],YI (zk ms bNo),kC (zk ms bNo) || !qj key || !qc ms [bOp,zx,bNo],false⟩
  else ⟨op,key,(zJ (zk ms zz)).getD [],YI (zk ms bNo),
   kC (zk ms bNo)||(!(zJ (zk ms zz)).isSome || !XU op ((zJ (zk ms zz)).getD [])) || !qj key || !qc ms [bOp,zx,bNo,zz],
   xw op && !((zJ (zk ms zz)).getD []).all xV⟩
 | _,_=>jU
def xq:V->jZ
 | .obj ms=>Jg ms
 | _=>jU
def xS:Option V->gP
 | none=>⟨[],false,false⟩
 | some (.list vs)=>if 5<vs.length then ⟨[],true,false⟩ else ⟨vs.map xq,(vs.map xq).any jZ.sh,(vs.map xq).any jZ.pt⟩
 | some _=>⟨[],true,false⟩
structure jP where
 eff:BA
 who:Bool×List BA
 act:Bool×List BA
 on:Bool×List BA
 cs:List jZ
 sh:Bool
 pt:Bool
def qa:BA:=⟨#[101,102,102,101,99,116]⟩
def qg:BA:=⟨#[119,104,111]⟩
def bDo:BA:=⟨#[100,111]⟩
def bOn:BA:=⟨#[111,110]⟩
def bIf:BA:=⟨#[105,102]⟩
def jE:BA:=⟨#[115,116,97,116,101,109,101,110,116]⟩
def yz(s:BA):Bool:=(s.toList==[97,108,108,111,119])||(s.toList==[100,101,110,121])
def uI:jP:=⟨⟨#[]⟩,(false,[]),(false,[]),(false,[]),[],true,false⟩
def chD(c:Bool×Option (List BA)):Bool×List BA:=(c.1,c.2.getD [])
def chP(c:Bool×Option (List BA)):Bool:=!((c.2.getD []).all xV)
def JB(eff:BA)(a b c:Bool×Option (List BA))(cs:gP):jP:=
 ⟨eff,chD a,chD b,chD c,cs.cs,!yz eff || !a.2.isSome || !b.2.isSome || !c.2.isSome||cs.sh,chP a||chP b||chP c||cs.pt⟩
def JU(ms:List (BA×V)):jP:=match qc ms [qa,qg,bDo,bOn,bIf],opV (zk ms qa) with
 | true,some eff=>JB eff (uy (zk ms qg)) (uy (zk ms bDo)) (uy (zk ms bOn)) (xS (zk ms bIf))
 | _,_=>uI
def yl:V->jP
 | .obj ms=>JU ms
 | _=>uI
def Xi:List jP->Nat->Int×Nat
 | [],_=>(0,0)
 | r::rs,i=>if r.sh then (5,i+1) else if r.pt then (6,i+1) else Xi rs (i+1)
def Za:V->Int×Nat
 | .obj ms=>match zk ms jE with
  | some (.list vs)=>if ms.length≠1\/vs.length<1\/10<vs.length then (5,0) else Xi (vs.map yl) 0
  | _=>(5,0)
 | _=>(5,0)
def cls(sh pt:Bool):Nat:=if sh then 1 else if pt then 2 else 0
def qo(l:List Nat):Nat:=if l.any (λc=>c==1) then 1 else if l.any (λc=>c==2) then 2 else 0
theorem DV(sh pt:Bool):(cls sh pt==1)=sh:=by cases sh<;>cases pt<;>rfl
theorem DW(pt:Bool):(cls false pt==2)=pt:=by cases pt<;>rfl
theorem Vt:∀(l:List (Bool×Bool)),qo (l.map λx=>cls x.1 x.2)=cls (l.any Prod.fst) (l.any Prod.snd):=by
 intro l
 have b:(l.map λx=>cls x.1 x.2).any (λc=>c==1)=l.any Prod.fst:=by
  rw[Qp];exact congrArg (λf=>l.any f) (funext λx=>DV x.1 x.2)
 unfold qo;rw[b]
 cases h:l.any Prod.fst with
 | true=>rfl
 | false=>
  have d:(l.map λx=>cls x.1 x.2).any (λc=>c==2)=l.any Prod.snd:=by
   rw[Qo] at h;clear b
   induction l with
   | nil=>rfl
   | cons a r i=>
    have e:a.1=false:=by have:=h a (by simp);simpa using this
    rw[yn,Y0,Y0,i (λx g=>h x (by simp[g])),e,DW]
  rw[d]
  rfl
theorem nP(c:Nat)(h:c<=2):qo [c]=c:=by
 have:c=0\/c=1\/c=2:=by omega
 rcases this with rfl|rfl|rfl<;>rfl
theorem lC(sh pt:Bool):cls sh pt<=2:=by cases sh<;>cases pt<;>decide
theorem Jq(l:List Nat):qo l<=2:=by unfold qo;split;decide;split<;>decide
def qG(c:Option V->Nat):Option V->Nat
 | some (.list vs)=>if vs.length<1\/10<vs.length then 1 else qo (vs.map λv=>c (some v))
 | x=>qo [c x]
def qL(f:Option V->BA):Option V->List BA
 | some (.list vs)=>if vs.length<1\/10<vs.length then [] else vs.map λv=>f (some v)
 | x=>[f x]
def strOf:Option V->BA
 | some (.str s)=>s
 | _=>⟨#[]⟩
def yg:Option V->Nat
 | some (.str s)=>cls false (!xV s)
 | _=>1
def qd(f:BA->Bool):Option V->Nat
 | some (.str s)=>cls (!f s) false
 | _=>1
def qM(f:BA->Bool):Option V->BA
 | some (.str s)=>if f s then s else ⟨#[]⟩
 | _=>⟨#[]⟩
theorem VR:∀(a:List V),(∃l,kH a=some l/\a=l.map .str)\/(kH a=none/\∃v ∈ a,∀s,v ≠ .str s)
 | [] => .inl ⟨[],rfl,rfl⟩
 | v::a=>by
  cases v with
  | str s=>
   rcases VR a with ⟨l,h1,h2⟩|⟨h1,v,hv,h2⟩
   ·left;exact⟨s::l,by simp[kH,h1],by simp[h2]⟩
   ·right;exact⟨by simp[kH,h1],v,by simp[hv],h2⟩
  | word b=>right;exact⟨rfl,.word b,by simp,λs e=>by cases e⟩
  | list l=>right;exact⟨rfl,.list l,by simp,λs e=>by cases e⟩
  | obj l=>right;exact⟨rfl,.obj l,by simp,λs e=>by cases e⟩
theorem Vu{l:List Nat}(h:1 ∈ l):qo l=1:=by
 unfold qo;rw[zb];rw[QV];exact⟨1,h,rfl⟩
theorem Ih(f:BA->Bool)(l:List BA):qo (l.map λs=>cls false (!f s))=cls false (!l.all f):=by
 have:=Vt (l.map λs=>(false,!f s))
 rw[xD] at this;have e:((λx:Bool×Bool=>cls x.1 x.2) ∘ λs=>(false,!f s))=λs=>cls false (!f s):=rfl;rw[e] at this;rw[this];have a:(l.map λs=>(false,!f s)).any Prod.fst=false:=by rw[Qp,Qo];intro x _;simp
 have b:(l.map λs=>(false,!f s)).any Prod.snd = !l.all f:=by rw[Qp,List.not_all_eq_any_not];rfl
 rw[a,b]
theorem Ii(f:BA->Bool)(l:List BA):qo (l.map λs=>cls (!f s) false)=cls (!l.all f) false:=by
 have:=Vt (l.map λs=>(!f s,false))
 rw[xD] at this;have e:((λx:Bool×Bool=>cls x.1 x.2) ∘ λs=>(!f s,false))=λs=>cls (!f s) false:=rfl;rw[e] at this;rw[this];have a:(l.map λs=>(!f s,false)).any Prod.snd=false:=by rw[Qp,Qo];intro x _;simp
 have b:(l.map λs=>(!f s,false)).any Prod.fst = !l.all f:=by rw[Qp,List.not_all_eq_any_not];rfl
 rw[a,b]
theorem JG(x:Option V):qG yg x=cls (!(zJ x).isSome) (!((zJ x).getD []).all xV):=by
 have a:∀x:Option V,zJ x=none->yg x=1->(∀d,x≠some (.list d))->qG yg x=cls (!(zJ x).isSome) (!((zJ x).getD []).all xV):=by
  intro x h e f;rw[h];unfold qG
  split
  ·rename_i d;exact absurd rfl (f d)
  ·rw[e];rfl
 match x with
 | none=>exact a none rfl rfl (by simp)
 | some (.word b)=>exact a _ rfl rfl (by simp)
 | some (.obj ms)=>exact a _ rfl rfl (by simp)
 | some (.str s)=>
  show qo [yg (some (.str s))]=_;simp only[yg,zJ,yE,vT,V6,List.all_nil,Yc,Bool.not_true];exact nP _ (lC _ _)
 | some (.list d)=>
  simp only[qG,zJ]
  by_cases c:d.length<1\/10<d.length
  ·rw[zb c,zb c];rfl
  ·rw[za c,za c]
   rcases VR d with ⟨l,e,rfl⟩|⟨e,v,hv,f⟩
   ·rw[e,xD];exact Ih xV l
   ·rw[e];rw[Vu]
    ·rfl
    ·rw[ql];refine⟨v,hv,?_⟩
     cases v with
     | str s=>exact absurd rfl (f s)
     | _=>rfl
theorem U4(f:BA->Bool)(x:Option V):qG (qd f) x=cls (!(zJ x).isSome || !((zJ x).getD []).all f) false:=by
 have a:∀x:Option V,zJ x=none->qd f x=1->(∀d,x≠some (.list d))->qG (qd f) x=cls (!(zJ x).isSome || !((zJ x).getD []).all f) false:=by
  intro x h e g;rw[h];unfold qG
  split
  ·rename_i d;exact absurd rfl (g d)
  ·rw[e];rfl
 match x with
 | none=>exact a none rfl rfl (by simp)
 | some (.word b)=>exact a _ rfl rfl (by simp)
 | some (.obj ms)=>exact a _ rfl rfl (by simp)
 | some (.str s)=>
  show qo [qd f (some (.str s))]=_;simp only[qd,zJ,yE,vT,V6,List.all_nil,Yc,Bool.not_true,Yd];exact nP _ (lC _ _)
 | some (.list d)=>
  simp only[qG,zJ]
  by_cases c:d.length<1\/10<d.length
  ·rw[zb c,zb c];rfl
  ·rw[za c,za c]
   rcases VR d with ⟨l,e,rfl⟩|⟨e,v,hv,g⟩
   ·rw[e,xD];exact Ii f l
   ·rw[e];rw[Vu]
    ·rfl
    ·rw[ql];refine⟨v,hv,?_⟩
     cases v with
     | str s=>exact absurd rfl (g s)
     | _=>rfl
theorem rM(x:Option V)(h:(zJ x).isSome):qL strOf x=(zJ x).getD []:=by
 match x with
 | none=>simp[zJ] at h
 | some (.word b)=>simp[zJ] at h
 | some (.obj ms)=>simp[zJ] at h
 | some (.str s)=>rfl
 | some (.list vs)=>
  simp only[qL,zJ] at h |-
  by_cases c:vs.length<1\/10<vs.length
  ·rw[zb c] at h;simp at h
  ·rw[za c] at h |-;rw[za c]
   rcases VR vs with ⟨l,h1,rfl⟩|⟨h1,v,hv,h2⟩
   ·rw[h1,xD];exact List.map_id' l
   ·rw[h1] at h;simp at h
theorem Ot(f:BA->Bool)(x:Option V)(h:(zJ x).isSome)(a:((zJ x).getD []).all f=true):qL (qM f) x=(zJ x).getD []:=by
 match x with
 | none=>simp[zJ] at h
 | some (.word b)=>simp[zJ] at h
 | some (.obj ms)=>simp[zJ] at h
 | some (.str s)=>
  simp only[zJ,yE,V6,List.all_nil,Yc] at a;simp[qL,qM,a,zJ]
 | some (.list vs)=>
  simp only[qL,zJ] at h a |-
  by_cases c:vs.length<1\/10<vs.length
  ·rw[zb c] at h;simp at h
  ·rw[za c] at h a |-;rw[za c]
   rcases VR vs with ⟨l,h1,rfl⟩|⟨h1,v,hv,h2⟩
   ·rw[h1] at a |-;rw[xD];simp only[yE] at a |-
    have:∀s ∈ l,((λv=>qM f (some v)) ∘ V.str) s=s:=by
     intro s d;rw[ve] at a;simp[qM,a s d]
    rw[XE this];exact List.map_id' l
   ·rw[h1] at h;simp at h
inductive Good (L:Nat):V->Prop
 | str (s:BA):s.size<=L->Good L (.str s)
 | word (b:Bool):Good L (.word b)
 | list (vs:List V):vs.length<=L->(∀v ∈ vs,Good L v)->Good L (.list vs)
 | obj (ms:List (BA×V)):ms.length<=L->(ms.map λm=>m.1.toList).Nodup->(∀m ∈ ms,m.1.size<=L)->(∀m ∈ ms,Good L m.2)->Good L (.obj ms)
theorem gG{l:List UInt8}:∀{r:List Nat} {p q:Nat} {u:Unit},qf l r p = .ok u q->(∀b ∈ r,b≠0)->p<=l.length->p<=q/\q<=l.length
 | [],p,q,u,h,_,hp=>by
  rw[qf] at h;injection h with h1 h2
  omega
 | b::r,p,q,u,h,hb,hp=>by
  rw[qf] at h
  split at h
  ·rename_i c;have e:b≠0:=hb b (by simp);have a:=qy l p (by omega)
   have:=gG h (λx d=>hb x (by simp[d])) (by omega)
   omega
  ·cases h
theorem nM(l:List UInt8):∀(f:Nat),
  (∀d p v q,qi l f d p = .ok v q->Good l.length v/\p<q/\q<=l.length) /\
  (∀d p acc v q,ug l f d p acc = .ok v q->acc.length<=p->(∀x ∈ acc,Good l.length x)->Good l.length v/\p<q/\q<=l.length) /\
  (∀d p acc v q,uh l f d p acc = .ok v q->acc.length<=p->(acc.map λm=>m.1.toList).Nodup->(∀x ∈ acc,x.1.size<=l.length/\Good l.length x.2)->Good l.length v/\p<q/\q<=l.length)
 | 0=>by
  refine⟨λd p v q h=>?_,λd p acc v q h=>?_,λd p acc v q h=>?_⟩
  ·rw[qi] at h;cases h
  ·rw[ug] at h;cases h
  ·rw[uh] at h;cases h
 | f+1=>by
  obtain⟨w,t,u⟩:=nM l f;refine⟨λd p v q h=>?_,λd p acc v q h z C=>?_,λd p acc v q h z K C=>?_⟩
  ·rw[qi] at h;have L:=yY l (p+1)
   by_cases c1:zi l p=123
   ·rw[zb c1] at h
    split at h
    ·cases h
    split at h
    ·rename_i k;injection h with h1 h2
     subst h1
     have:=qy l (skip l (p+1)) (by omega)
     exact⟨.obj [] (zO _) (by simp) (by simp) (by simp),by omega,by omega⟩
    ·obtain⟨a,b,c⟩:=u _ _ _ _ _ h (by simp) (by simp) (by simp);exact⟨a,by omega,c⟩
   rw[za c1] at h
   by_cases c2:zi l p=91
   ·rw[zb c2] at h
    split at h
    ·cases h
    split at h
    ·rename_i k;injection h with h1 h2
     subst h1
     have:=qy l (skip l (p+1)) (by omega)
     exact⟨.list [] (zO _) (by simp),by omega,by omega⟩
    ·obtain⟨a,b,c⟩:=t _ _ _ _ _ h (by simp) (by simp);exact⟨a,by omega,c⟩
   rw[za c2] at h
   by_cases c3:zi l p=34
   ·rw[zb c3] at h;have n:yM l p=jY l (p+1):=by unfold yM;rw[zb c3]
    cases hs:jY l (p+1) with
    | err c g=>rw[hs] at h;cases h
    | ok s g=>
     rw[hs] at h;injection h with h1 h2
     subst h1;subst h2;rw[hs] at n;have H:=Ka n;have G:=Kb n;exact⟨.str s (by omega),by omega,G⟩
   rw[za c3] at h
   by_cases c4:zi l p=116
   ·rw[zb c4] at h;have D:=qy l p (by omega)
    cases hw:qf l [114,117,101] (p+1) with
    | err c g=>rw[hw] at h;cases h
    | ok s g=>
     rw[hw] at h;injection h with h1 h2
     subst h1;subst h2
     have:=gG hw (by decide) (by omega)
     exact⟨.word true,by omega,this.2⟩
   rw[za c4] at h
   by_cases c5:zi l p=102
   ·rw[zb c5] at h;have D:=qy l p (by omega)
    cases hw:qf l [97,108,115,101] (p+1) with
    | err c g=>rw[hw] at h;cases h
    | ok s g=>
     rw[hw] at h;injection h with h1 h2
     subst h1;subst h2
     have:=gG hw (by decide) (by omega)
     exact⟨.word false,by omega,this.2⟩
   rw[za c5] at h
   cases h
  ·rw[ug] at h
   cases hv:qi l f (d+1) p with
   | err c g=>rw[hv] at h;cases h
   | ok x g=>
    rw[hv] at h;simp only at h;obtain⟨B,I,J⟩:=w _ _ _ _ hv;have N:=yY l g
    have i:∀y ∈ acc++[x],Good l.length y:=by
     intro y j
     rcases ZM.1 j with j|j
     ·exact C y j
     ·simp only[xE] at j;subst j;exact B
    split at h
    ·have O:=yY l (skip l g+1);obtain⟨a,b,c⟩:=t _ _ _ _ _ h (by simp;omega) i;exact⟨a,by omega,c⟩
    split at h
    ·rename_i k;injection h with h1 h2
     subst h1
     have:=qy l (skip l g) (by omega)
     exact⟨.list _ (by simp;omega) i,by omega,by omega⟩
    ·cases h
  ·rw[uh] at h
   split at h
   ·cases h
   rename_i c3;have A:zi l p=34:=by omega
   have n:yM l p=jY l (p+1):=by unfold yM;rw[zb A]
   cases hs:jY l (p+1) with
   | err c g=>rw[hs] at h;cases h
   | ok s F=>
    rw[hs] at h;rw[hs] at n;simp only at h;have H:=Ka n;have G:=Kb n
    split at h
    ·cases h
    rename_i E
    split at h
    ·cases h
    cases hv:qi l f (d+1) (skip l (skip l F+1)) with
    | err c g=>rw[hv] at h;cases h
    | ok x g=>
     rw[hv] at h;simp only at h;obtain⟨B,I,J⟩:=w _ _ _ _ hv;have P:=yY l F;have M:=yY l (skip l F+1);have N:=yY l g
     have i:∀y ∈ acc++[(s,x)],y.1.size<=l.length/\Good l.length y.2:=by
      intro y j
      rcases ZM.1 j with j|j
      ·exact C y j
      ·simp only[xE] at j;subst j;exact⟨by simp only;omega,B⟩
     have r:((acc++[(s,x)]).map λm=>m.1.toList).Nodup:=by
      rw[jm,List.nodup_append];refine⟨K,by simp,?_⟩;intro a z b hb;simp only[yn,vg,xE] at hb;subst hb;rw[ql] at z;obtain⟨m,o,rfl⟩:=z;intro e;apply E;rw[QV];exact⟨m,o,by simp[e]⟩
     split at h
     ·have O:=yY l (skip l g+1);obtain⟨a,b,c⟩:=u _ _ _ _ _ h (by simp;omega) r i;exact⟨a,by omega,c⟩
     split at h
     ·rename_i k;injection h with h1 h2
      subst h1
      have:=qy l (skip l g) (by omega)
      exact⟨.obj _ (by simp;omega) r (λm o=>(i m o).1) (λm o=>(i m o).2),by omega,by omega⟩
     ·cases h
theorem JO{l:List UInt8}{v:V}{q:Nat}(h:yh l = .ok v q):Good l.length v:=by
 unfold yh at h
 cases hv:qi l (2*l.length+1) 1 (skip l 0) with
 | err c a=>rw[hv] at h;cases h
 | ok x a=>
  rw[hv] at h;simp only at h
  split at h
  ·cases h
  ·injection h with h1 h2
   subst h1;exact ((nM l _).1 _ _ _ _ hv).1
def chC:Option V->Nat
 | some (.obj ms)=>if qc ms [qm] then qG yg (zk ms qm) else 1
 | x=>qG yg x
theorem Ur{L:Nat}(x:Option V)(h:∀v,x=some v->Good L v):chC x=cls (!(uy x).2.isSome) (chP (uy x)):=by
 match x with
 | none=>exact JG none
 | some (.word b)=>exact JG (some (.word b))
 | some (.str s)=>exact JG (some (.str s))
 | some (.list vs)=>exact JG (some (.list vs))
 | some (.obj ms)=>
  simp only[chC,uy]
  by_cases c:qc ms [qm]=true
  ·rw[zb c];have a:=h _ rfl
   cases a with
   | obj _ f d g i=>
    match ms with
    | []=>rfl
    | [m]=>
     have e:(m.1.toList==qm.toList)=true:=by
      simp[qc] at c;simp[c]
     rw[zb ⟨c,rfl⟩];have a:zk [m] qm=some m.2:=by unfold zk;rw[V7,e];rfl
     rw[a];exact JG _
    | m::m'::r=>
     exfalso;simp[qc] at c;simp only[yn,List.nodup_cons,x8,not_or] at d;exact d.1.1 (by rw[<- c.1,<- c.2.1])
  ·rw[za c,za (λe=>c e.1)]
   rfl
def short(s:BA):Bool:=decide (s.size<=60)
def filled(s:BA):Bool:=!s.toList.isEmpty&&short s
def yI(op:BA):Bool:=op.toList==[115,97,109,101]
def jw(op:BA):Bool:=op.toList==[98,101,108,111,119]
def Ze(op:BA):Bool:=op.toList==[117,110,100,101,114]
def qx(op:BA)(x:Option V):Nat:=
 if xw op then qG yg x
 else if yI op then qG (qd short) x
 else if jw op then qG (qd xe) x
 else if Ze op then qG (qd filled) x
 else if x.isNone then 0 else 1
def xg(op:BA)(x:Option V):List BA:=
 if xw op then qL strOf x
 else if yI op then qL (qM short) x
 else if jw op then qL (qM xe) x
 else if Ze op then qL (qM filled) x
 else []
theorem Uf{f g:BA->Bool}(h:∀s,f s=g s)(l:List BA):l.all f=l.all g:=by rw[show f=g from funext h]
theorem oZ(op:BA)(x:Option V)(h:ui op=true):qx op x=cls (!(zJ x).isSome || !XU op ((zJ x).getD [])) (xw op && !((zJ x).getD []).all xV):=by
 unfold qx XU;rw[h,Yc]
 by_cases c1:xw op=true
 ·rw[zb c1];have e:op.toList=[108,105,107,101]:=by simpa [xw] using c1
  have a:∀s,QP op s=true:=by intro s;unfold QP;rw[e];rfl
  rw[Uf a,c1,JG,show ((zJ x).getD []).all (λ_=>true)=true from by simp]
  simp
 rw[za c1];have b:xw op=false:=by simpa using c1
 rw[b,XA]
 by_cases c2:yI op=true
 ·rw[zb c2];have e:op.toList=[115,97,109,101]:=by simpa [yI] using c2
  have a:∀s,QP op s=short s:=by intro s;unfold QP;rw[e];rfl
  rw[Uf a,U4]
 rw[za c2]
 by_cases c3:jw op=true
 ·rw[zb c3];have e:op.toList=[98,101,108,111,119]:=by simpa [jw] using c3
  have a:∀s,QP op s=xe s:=by intro s;unfold QP;rw[e];rfl
  rw[Uf a,U4]
 rw[za c3]
 by_cases c4:Ze op=true
 ·rw[zb c4];have e:op.toList=[117,110,100,101,114]:=by simpa [Ze] using c4
  have a:∀s,QP op s=filled s:=by
   intro s;unfold QP;rw[e];show (decide (s.size<=60) && !s.toList.isEmpty)=(!s.toList.isEmpty&&short s);rw[Bool.and_comm]
   rfl
  rw[Uf a,U4]
 exfalso;unfold ui at h;unfold xw at c1;unfold yI at c2;unfold jw at c3;unfold Ze at c4;simp only[V5] at h
 rcases h with ((h|h)|h)|h
 ·exact c2 h
 ·exact c4 h
 ·exact c3 h
 ·exact c1 h
theorem Oy(ms:List (BA×V)):qc ms [bOp,zx,zz,bNo]=qc ms [bOp,zx,bNo,zz]:=by
 unfold qc;refine congrArg (λf=>ms.all f) (funext λm=>?_);simp only[Y0,List.any_nil,QS];rw[Bool.or_comm (zz.toList==m.1.toList) (bNo.toList==m.1.toList)]
theorem rO(m:BA×V)(ms:List (BA×V))(a:List BA):qc (m::ms) a=((a.any λt=>t.toList==m.1.toList)&&qc ms a):=by
 unfold qc;rw[V6]
theorem rP:∀(ms:List (BA×V)),qc ms [bOp,zx,bNo]=(qc ms [bOp,zx,bNo,zz]&&(zk ms zz).isNone)
 | []=>rfl
 | m::ms=>by
  rw[rO,rO,rP ms];unfold zk;rw[V7]
  by_cases c:(m.1.toList==zz.toList)=true
  ·rw[c];have e:m.1.toList=zz.toList:=by simpa using c
   rw[e]
   have:([bOp,zx,bNo].any λt=>t.toList==zz.toList)=false:=by kernel_rfl
   rw[this]
   simp
  ·have a:(m.1.toList==zz.toList)=false:=by simpa using c
   have c2:(zz.toList==m.1.toList)=false:=by rw[Bool.beq_comm];exact a
   rw[a];simp only[Y0,List.any_nil,QS,c2];rw[Bool.and_assoc]
def condC:V->Nat
 | .obj ms=>if qc ms [bOp,zx,zz,bNo] then (match opV (zk ms bOp) with
  | some op=>if ui op||yf op then qo [qd qj (zk ms zx),qx op (zk ms zz),cls (kC (zk ms bNo)) false] else 1
  | none=>1) else 1
 | _=>1
theorem nN(a b c d e f:Bool):qo [cls a d,cls b e,cls c f]=cls (a||b||c) (d||e||f):=by
 have:=Vt [(a,d),(b,e),(c,f)]
 simp only[yn,vg,Y0,List.any_nil,QS] at this;rw[this,Bool.or_assoc,Bool.or_assoc]
theorem ig(op:BA)(h:yf op=true):ui op=false/\xw op=false/\yI op=false/\jw op=false/\Ze op=false:=by
 have e:op.toList=[97,98,115,101,110,116]:=by simpa [yf] using h
 unfold ui xw yI jw Ze;rw[e]
 decide
theorem lJ(v:V):condC v=cls (xq v).sh (xq v).pt:=by
 cases v with
 | str s=>rfl
 | word b=>rfl
 | list l=>rfl
 | obj ms=>
  simp only[condC,xq,Jg]
  cases ho:opV (zk ms bOp) with
  | none=>simp only[ite_self];rfl
  | some op=>
   simp only
   cases hk:opV (zk ms zx) with
   | none=>
    have e:qd qj (zk ms zx)=1:=by
     unfold opV at hk
     split at hk
     ·cases hk
     ·rename_i d;unfold qd
      split
      ·rename_i s c;exact absurd c (d s)
      ·rfl
    rw[e]
    have:qo [1,qx op (zk ms zz),cls (kC (zk ms bNo)) false]=1:=Vu (by simp)
    rw[this];simp only[ite_self]
    rfl
   | some key=>
    have e:qd qj (zk ms zx)=cls (!qj key) false:=by
     unfold opV at hk
     split at hk
     ·rename_i s c;injection hk with hk
      subst hk;rw[c]
      rfl
     ·cases hk
    rw[e,Oy]
    by_cases ca:yf op=true
    ·obtain⟨k,g,h,i,j⟩:=ig op ca;simp only[ca,Bool.or_true,qh];rw[rP]
     have f:qx op (zk ms zz)=cls (!(zk ms zz).isNone) false:=by
      unfold qx;rw[g,h,i,j]
      cases (zk ms zz).isNone<;>rfl
     rw[f,nN]
     cases qc ms [bOp,zx,bNo,zz]<;>cases (zk ms zz).isNone<;>cases qj key<;>cases kC (zk ms bNo)<;>rfl
    ·have a:yf op=false:=by simpa using ca
     simp only[a,QS,xz,qW]
     cases ok:ui op with
     | false=>
      have:XU op ((zJ (zk ms zz)).getD [])=false:=by unfold XU;rw[ok,Bool.and_false]
      rw[this];simp only[xz,qW,ite_self,Bool.not_false,Bool.or_true,Ye]
      rfl
     | true=>
      rw[oZ op _ ok,nN];simp only[qh];generalize (!(zJ (zk ms zz)).isSome || !XU op ((zJ (zk ms zz)).getD []))=A;generalize (xw op && !((zJ (zk ms zz)).getD []).all xV)=B
      cases qc ms [bOp,zx,bNo,zz]<;>cases A<;>cases B<;>cases qj key<;>cases kC (zk ms bNo)<;>rfl
def jd:Option V->Nat
 | none=>0
 | some (.list vs)=>if 5<vs.length then 1 else qo (vs.map condC)
 | some _=>1
theorem Eo(x:Option V):jd x=cls (xS x).sh (xS x).pt:=by
 match x with
 | none=>rfl
 | some (.str s)=>rfl
 | some (.word b)=>rfl
 | some (.obj ms)=>rfl
 | some (.list vs)=>
  simp only[jd,xS]
  split
  ·rfl
  ·have:=Vt (vs.map λv=>((xq v).sh,(xq v).pt))
   rw[xD] at this;have e:((λx:Bool×Bool=>cls x.1 x.2) ∘ λv=>((xq v).sh,(xq v).pt))=condC:=funext λv=>(lJ v).symm;rw[e] at this;rw[this];simp only[Qp]
   rfl
def xy:V->Nat
 | .obj ms=>if qc ms [qa,qg,bDo,bOn,bIf] then qo [qd yz (zk ms qa),chC (zk ms qg),chC (zk ms bDo),chC (zk ms bOn),jd (zk ms bIf)] else 1
 | _=>1
theorem yc{L:Nat}{ms:List (BA×V)}(h:Good L (.obj ms))(nm:BA):∀v,zk ms nm=some v->Good L v:=by
 intro v a
 cases h with
 | obj _ d e f b=>
  unfold zk at a;obtain⟨m,c,rfl⟩:=vU.1 a;exact b m (gW c)
theorem Ic(a b c d e f g h i j:Bool):qo [cls a f,cls b g,cls c h,cls d i,cls e j]=cls (a||b||c||d||e) (f||g||h||i||j):=by
 have:=Vt [(a,f),(b,g),(c,h),(d,i),(e,j)]
 simp only[yn,vg,Y0,List.any_nil,QS] at this;rw[this];simp only[Bool.or_assoc]
theorem wX{L:Nat}(v:V)(h:Good L v):xy v=cls (yl v).sh (yl v).pt:=by
 cases v with
 | str s=>rfl
 | word b=>rfl
 | list l=>rfl
 | obj ms=>
  simp only[xy,yl,JU]
  cases ho:qc ms [qa,qg,bDo,bOn,bIf] with
  | false=>rfl
  | true=>
   simp only[qh]
   cases hk:opV (zk ms qa) with
   | none=>
    have d:qd yz (zk ms qa)=1:=by
     unfold opV at hk
     split at hk
     ·cases hk
     ·rename_i c;unfold qd
      split
      ·rename_i s a;exact absurd a (c s)
      ·rfl
    rw[d];rw[Vu (by simp)]
    rfl
   | some eff=>
    have d:qd yz (zk ms qa)=cls (!yz eff) false:=by
     unfold opV at hk
     split at hk
     ·rename_i s a;injection hk with hk
      subst hk;rw[a]
      rfl
     ·cases hk
    rw[d,Ur _ (yc h qg),Ur _ (yc h bDo),Ur _ (yc h bOn),Eo,Ic];simp only[JB,Yd]
def ZX:List Nat->Nat->Int×Nat
 | [],_=>(0,0)
 | c::cs,i=>if c=1 then (5,i+1) else if c=2 then (6,i+1) else ZX cs (i+1)
theorem UG{L:Nat}:∀(a:List V) (i:Nat),(∀v ∈ a,Good L v)->Xi (a.map yl) i=ZX (a.map xy) i
 | [],_,_=>rfl
 | v::a,i,h=>by
  rw[yn,yn,Xi,ZX,wX v (h v (by simp)),UG a (i+1) (λx b=>h x (by simp[b]))]
  cases (yl v).sh<;>cases (yl v).pt<;>rfl
def x9(s:BA):Int×Nat:=
 if 4000<s.size then (1,0) else match yh s.data.toList with
  | .err e q=>(e,q)
  | .ok v _=>Za v
def Code(c:Int):Prop:=c=2\/c=3\/c=4
theorem mY(l:List UInt8):∀(f:Nat),
  (∀d p c q,qi l f d p = .err c q->Code c) /\
  (∀d p acc c q,ug l f d p acc = .err c q->Code c) /\
  (∀d p acc c q,uh l f d p acc = .err c q->Code c)
 | 0=>by
  refine⟨λd p c q h=>?_,λd p acc c q h=>?_,λd p acc c q h=>?_⟩
  ·rw[qi] at h;injection h with h1 h2;exact .inl h1.symm
  ·rw[ug] at h;injection h with h1 h2;exact .inl h1.symm
  ·rw[uh] at h;injection h with h1 h2;exact .inl h1.symm
 | f+1=>by
  obtain⟨i,b,g⟩:=mY l f;refine⟨λd p c q h=>?_,λd p acc c q h=>?_,λd p acc c q h=>?_⟩
  ·rw[qi] at h
   by_cases c1:zi l p=123
   ·rw[zb c1] at h
    split at h
    ·injection h with h1 h2;exact .inr (.inl h1.symm)
    split at h
    ·cases h
    ·exact g _ _ _ _ _ h
   rw[za c1] at h
   by_cases c2:zi l p=91
   ·rw[zb c2] at h
    split at h
    ·injection h with h1 h2;exact .inr (.inl h1.symm)
    split at h
    ·cases h
    ·exact b _ _ _ _ _ h
   rw[za c2] at h
   by_cases c3:zi l p=34
   ·rw[zb c3] at h
    cases hs:jY l (p+1) with
    | ok s a=>rw[hs] at h;cases h
    | err e a=>
     rw[hs] at h;injection h with h1 h2
     subst h1;exact .inl (Kt hs)
   rw[za c3] at h
   by_cases c4:zi l p=116
   ·rw[zb c4] at h
    cases hw:qf l [114,117,101] (p+1) with
    | ok s a=>rw[hw] at h;cases h
    | err e a=>
     rw[hw] at h;injection h with h1 h2
     subst h1;exact .inl (VX hw)
   rw[za c4] at h
   by_cases c5:zi l p=102
   ·rw[zb c5] at h
    cases hw:qf l [97,108,115,101] (p+1) with
    | ok s a=>rw[hw] at h;cases h
    | err e a=>
     rw[hw] at h;injection h with h1 h2
     subst h1;exact .inl (VX hw)
   rw[za c5] at h;injection h with h1 h2
   exact .inl h1.symm
  ·rw[ug] at h
   cases hv:qi l f (d+1) p with
   | err e a=>
    rw[hv] at h;injection h with h1 h2
    subst h1;exact i _ _ _ _ hv
   | ok x a=>
    rw[hv] at h;simp only at h
    split at h
    ·exact b _ _ _ _ _ h
    split at h
    ·cases h
    ·injection h with h1 h2;exact .inl h1.symm
  ·rw[uh] at h
   split at h
   ·injection h with h1 h2;exact .inl h1.symm
   cases hs:jY l (p+1) with
   | err e a=>
    rw[hs] at h;injection h with h1 h2
    subst h1;exact .inl (Kt hs)
   | ok s j=>
    rw[hs] at h;simp only at h
    split at h
    ·injection h with h1 h2;exact .inr (.inr h1.symm)
    split at h
    ·injection h with h1 h2;exact .inl h1.symm
    cases hv:qi l f (d+1) (skip l (skip l j+1)) with
    | err e a=>
     rw[hv] at h;injection h with h1 h2
     subst h1;exact i _ _ _ _ hv
    | ok x a=>
     rw[hv] at h;simp only at h
     split at h
     ·exact g _ _ _ _ _ h
     split at h
     ·cases h
     ·injection h with h1 h2;exact .inl h1.symm
theorem tT{l:List UInt8}{c:Int}{q:Nat}(h:yh l = .err c q):Code c:=by
 unfold yh at h
 cases hv:qi l (2*l.length+1) 1 (skip l 0) with
 | err e a=>
  rw[hv] at h;injection h with h1 h2
  subst h1;exact (mY l _).1 _ _ _ _ hv
 | ok x a=>
  rw[hv] at h;simp only at h
  split at h
  ·injection h with h1 h2;exact .inl h1.symm
  ·cases h
theorem TP(v:V):xy v<=2:=by
 cases v with
 | obj ms=>simp only[xy];split;exact Jq _;decide
 | _=>simp[xy]
theorem UH:∀(cs:List Nat) (i:Nat),(∀c ∈ cs,c=0)->ZX cs i=(0,0)
 | [],_,_=>rfl
 | c::cs,i,h=>by
  have b:=h c (by simp);rw[ZX,za (by omega),za (by omega)];exact UH cs _ (λx a=>h x (by simp[a]))
theorem nz:∀(cs:List Nat) (i k:Nat),(a:k<cs.length)->(∀j,(h:j<k)->cs[j]=0)->cs[k]≠0->cs[k]<=2->ZX cs i=(if cs[k]=1 then 5 else 6,i+k+1)
 | [],_,k,a,_,_,_=>by simp at a
 | c::cs,i,0,a,_,h1,h2=>by
  simp only[List.getElem_cons_zero] at h1 h2 |-;rw[ZX]
  by_cases e:c=1
  ·rw[zb e,zb e]
  ·rw[za e,zb (by omega),za e]
 | c::cs,i,k+1,a,h0,h1,h2=>by
  have b:c=0:=h0 0 (by omega);simp only[List.getElem_cons_succ] at h1 h2 |-;rw[ZX,za (by omega),za (by omega),nz cs (i+1) k (by simpa using a) (λj d=>by have:=h0 (j+1) (by omega);simpa using this) h1 h2];have e:i+1+k+1=i+(k+1)+1:=by omega
  rw[e]
end Rd
end Go.Proofs.YtdakgnaojakldaaGreatDoor
