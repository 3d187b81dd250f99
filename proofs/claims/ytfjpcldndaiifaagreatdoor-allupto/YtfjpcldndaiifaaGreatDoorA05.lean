/- P -/
import Derived.Test.YtfjpcldndaiifaaGreatDoorA04
set_option maxRecDepth 100000
namespace Go.Proofs.YtfjpcldndaiifaaGreatDoor
namespace Z
open U
def zm(ms:List (BY×V))(nm:BY):Option V:=(ms.find? λm=>m.1.toList==nm.toList).map Prod.snd
def uy:List V->Option (List BY)
 | []=>some []
 | .str s::vs=>(uy vs).map λl=>s::l
 | _::_=>none
def zN:Option V->Option (List BY)
 | some (.str s)=>some [s]
 | some (.list vs)=>if vs.length<1\/10<vs.length then none else uy vs
 | _=>none
def qB(ms:List (BY×V))(names:List BY):Bool:=ms.all λm=>names.any λt=>t.toList==m.1.toList
def um:Option V->Bool×Option (List BY)
 | some (.obj ms)=>if qB ms [xx]=true/\ms.length=1 then (true,zN ((ms.map Prod.snd)[0]?)) else (false,none)
 | x=>(false,zN x)
def opV(x:Option V):Option BY:=match x with
 | some (.str s)=>some s
 | _=>none
def QS:Option V->Bool
 | some (.word b)=>b
 | _=>false
def kJ:Option V->Bool
 | none=>false
 | some (.word _)=>false
 | _=>true
def Jj(ms:List (BY×V)):qz:=match opV (zm ms bOp),opV (zm ms zL) with
 | some op,some key=>
  if xR op then ⟨op,key,[],QS (zm ms bNo),kJ (zm ms bNo) || !ql key || !qB ms [bOp,zL,bNo],false⟩
  else ⟨op,key,(zN (zm ms zK)).getD [],QS (zm ms bNo),
   kJ (zm ms bNo)||(!(zN (zm ms zK)).isSome || !ZU op ((zN (zm ms zK)).getD [])) || !ql key || !qB ms [bOp,zL,bNo,zK],
   xE op && !((zN (zm ms zK)).getD []).all qD⟩
 | _,_=>yR
def xQ:V->qz
 | .obj a=>Jj a
 | _=>yR
def x8:Option V->aD
 | none=>⟨[],false,false⟩
 | some (.list vs)=>if 5<vs.length then ⟨[],true,false⟩ else ⟨vs.map xQ,(vs.map xQ).any qz.sh,(vs.map xQ).any qz.pt⟩
 | some _=>⟨[],true,false⟩
theorem KY{ns:List U.Node}{i:Nat}{v:V}(h:Rep ns i v):∃n,ns[i]?=some n:=by
 cases h with
 | str _ n _ h=>exact⟨n,h⟩
 | word _ n _ h=>exact⟨n,h⟩
 | list _ n _ h=>exact⟨n,h⟩
 | obj _ n _ h=>exact⟨n,h⟩
theorem Bv(ns:List U.Node)(nm:BY):∀(a:List (BY×V)) (b:List Nat),b.length=a.length->(∀(j k:Nat) (x:BY×V),b[j]?=some k->a[j]?=some x->Rep ns k x.2) ->
  (zm a nm=none/\vW (a.map Prod.fst) b nm = -1)\/∃v k,zm a nm=some v/\vW (a.map Prod.fst) b nm=((k:Nat):Int)/\Rep ns k v
 | [],b,_,_=>by left;exact⟨rfl,by simp[vW]⟩
 | m::a,[],hl,_=>by simp at hl
 | m::a,k::b,hl,h=>by
  unfold zm;simp only[yO,vW,UO]
  by_cases e:(m.1.toList==nm.toList)=true
  ·rw[e]
   right
   exact⟨m.2,k,rfl,by simp,h 0 k m rfl rfl⟩
  have c:(m.1.toList==nm.toList)=false:=by simpa using e
  rw[c];simp only[yu,xX];exact Bv ns nm a b (by simpa using hl) (λj g x d f=>h (j+1) g x (by simpa using d) (by simpa using f))
theorem Xr{ns:List U.Node}{i:Nat}{n:U.Node}{ms:List (BY×V)}(h:Rep ns i (.obj ms))(e:ns[i]?=some n)(nm:BY):(zm ms nm=none/\zq n nm = -1)\/∃v k,zm ms nm=some v/\zq n nm=((k:Nat):Int)/\Rep ns k v:=by
 cases h with
 | obj _ j _ a f b c g d=>
  rw[e]at a;injection a with a
  subst a;unfold zq;rw[b];exact Bv ns nm ms n.kids c d
theorem Ub{ns:List U.Node}{i:Nat}{n:U.Node}{v:V}(h:Rep ns i v)(e:ns[i]?=some n)(l:∀f,v ≠ .obj f)(nm:BY):zq n nm = -1/\n.kind≠1/\n.names=[]:=by
 have key:n.names=[]/\n.kind≠1:=by
  cases h with
  | str _ g _ a c d j k=>rw[e]at a;injection a with a;subst a;exact⟨k,by omega⟩
  | word _ g b a c d j=>rw[e]at a;injection a with a;subst a;exact⟨j,by cases b<;>simp at c<;>omega⟩
  | list _ g _ a c d=>rw[e]at a;injection a with a;subst a;exact⟨d,by omega⟩
  | obj _ g f=>exact absurd rfl (l f)
 refine⟨?_,key.2,key.1⟩;unfold zq;rw[key.1];simp[vW]
theorem dC{ns:List U.Node}{k:Nat}{v:V}(h:Rep ns k v):(kindOf ns k=1↔∃d,v=.obj d)/\(kindOf ns k=2↔∃e,v=.list e)/\(kindOf ns k=3↔∃s,v=.str s)/\(kindOf ns k=4↔v=.word true)/\(kindOf ns k=5↔v=.word false)/\(∀s,v=.str s->textOf ns k=s):=by
 unfold kindOf textOf;rw[show ((k:Int)).toNat=k by simp]
 cases h with
 | str _ n s c a f=>rw[c];simp[a,f]
 | word _ n b c a=>rw[c];cases b<;>simp at a<;>simp[a]
 | list _ n e c a=>rw[c];simp[a]
 | obj _ n d c a=>rw[c];simp[a]
theorem Gd(ns:List U.Node):∀(e:List V) (d:List Nat),d.length=e.length->(∀(j k:Nat) (v:V),d[j]?=some k->e[j]?=some v->Rep ns k v)->uY ns d=uy e
 | [],[],_,_=>rfl
 | [],k::d,hl,_=>by simp at hl
 | v::e,[],hl,_=>by simp at hl
 | v::e,k::d,hl,h=>by
  have f:=h 0 k v rfl rfl;have i:=Gd ns e d (by simpa using hl) (λj l x c a=>h (j+1) l x (by simpa using c) (by simpa using a));rw[uY,i]
  cases f with
  | str _ n s c a g=>rw[c];simp[a,g,uy]
  | word _ n b c a=>rw[c];cases b<;>simp at a<;>simp[a,uy]
  | list _ n m c a=>rw[c];simp[a,uy]
  | obj _ n o c a=>rw[c];simp[a,uy]
theorem oM{ns:List U.Node}{k:Nat}{v:V}(h:Rep ns k v):xq ns k=zN (some v):=by
 unfold xq;rw[N8,show ((k:Int)).toNat=k by simp]
 cases h with
 | str _ n s d a f=>rw[d];simp[a,f,zN]
 | word _ n b d a=>rw[d];cases b<;>simp at a<;>simp[a,zN]
 | list _ n e d a f g j i=>
  rw[d];simp only[a,zN];rw[za (by decide),g]
  by_cases c:e.length<1\/10<e.length
  ·rw[zb (.inr c),zb c]
  ·rw[za (by simpa using c),za c];exact Gd ns e n.kids g i
 | obj _ n l d a=>rw[d];simp[a,zN]
theorem zeT(ns:List U.Node):xq ns (-1)=zN none:=by
 unfold xq;rw[zb (by decide)];rfl
theorem dR{ns:List U.Node}{i:Nat}{n:U.Node}{ms:List (BY×V)}(h:Rep ns i (.obj ms))(d:ns[i]?=some n)(names:List BY):jA n names=qB ms names:=by
 cases h with
 | obj _ j _ a b c e f g=>
  rw[d]at a;injection a with a
  subst a;unfold jA qB;rw[c,b,List.all_map];simp[Function.comp_def]
theorem Mx{ns:List U.Node}{k:Nat}{v:V}(h:Rep ns k v):jG ns k=um (some v):=by
 have u:=oM h;have i:=dC h;obtain⟨n,g⟩:=KY h;unfold jG;rw[N8,show ((k:Int)).toNat=k by simp,g];simp only;have j:kindOf ns k=n.kind:=by unfold kindOf;rw[show ((k:Int)).toNat=k by simp,g]
 rw[j]at i
 by_cases c:n.kind=1
 ·rw[zb c];obtain⟨a,rfl⟩:=i.1.1 c;rw[dR h g]
  cases h with
  | obj _ z _ f w q x y r=>
   rw[g]at f;injection f with f
   subst f;have s:n.names.length=a.length:=by rw[q];simp
   unfold um;simp only;rw[s]
   by_cases c2:qB a [xx]=true/\a.length=1
   ·rw[zb c2,zb c2];have p:0<a.length:=by omega
    have b:n.kids[0]?=some (n.kids[0]'(by omega)):=P7;have d:a[0]?=some a[0]:=zn p;have t:=oM (r 0 _ _ b d);have m:n.kids.getD 0 0=n.kids[0]'(by omega):=by rw[zT,b];rfl
    have o:(a.map Prod.snd)[0]?=some a[0].2:=by rw[ui,d];rfl
    rw[m,o,t]
   rw[za c2,za c2]
 rw[za c];have l:∀a,v ≠ .obj a:=λa e=>c (i.1.2 ⟨a,e⟩);rw[u]
 cases v with
 | obj a=>exact absurd rfl (l a)
 | _=>rfl
theorem Mw(ns:List U.Node):jG ns (-1)=um none:=by
 unfold jG;rw[zb (by decide)];rfl
def uk(ns:List U.Node)(h:Int)(x:Option V):Prop:=(x=none/\h = -1)\/∃v k,x=some v/\h=((k:Nat):Int)/\Rep ns k v
theorem uk.strings{ns:List U.Node}{h:Int}{x:Option V}(r:uk ns h x):xq ns h=zN x:=by
 rcases r with⟨rfl,rfl⟩|⟨v,k,rfl,rfl,hr⟩
 ·exact zeT ns
 exact oM hr
theorem uk.choice{ns:List U.Node}{h:Int}{x:Option V}(r:uk ns h x):jG ns h=um x:=by
 rcases r with⟨rfl,rfl⟩|⟨v,k,rfl,rfl,hr⟩
 ·exact Mw ns
 exact Mx hr
theorem uk.noT{ns:List U.Node}{h:Int}{x:Option V}(r:uk ns h x):U.noT ns h=QS x/\U.Zg ns h=kJ x:=by
 rcases r with⟨rfl,rfl⟩|⟨v,k,rfl,rfl,hr⟩
 ·exact⟨rfl,rfl⟩
 have a:=dC hr;unfold U.noT U.Zg
 cases v with
 | word b=>
  cases b with
  | true=>
   have:=a.2.2.2.1.2 rfl
   rw[this];simp[QS,kJ]
  | false=>
   have:=a.2.2.2.2.1.2 rfl
   rw[this];simp[QS,kJ]
 | str s=>
  have:=a.2.2.1.2 ⟨s,rfl⟩
  rw[this];simp[QS,kJ]
 | list l=>
  have:=a.2.1.2 ⟨l,rfl⟩
  rw[this];simp[QS,kJ]
 | obj l=>
  have:=a.1.2 ⟨l,rfl⟩
  rw[this];simp[QS,kJ]
theorem uk.op{ns:List U.Node}{h:Int}{x:Option V}(r:uk ns h x):(opV x=none/\(h<0\/kindOf ns h≠3))\/∃s,opV x=some s/\0<=h/\kindOf ns h=3/\textOf ns h=s:=by
 rcases r with⟨rfl,rfl⟩|⟨v,k,rfl,rfl,hr⟩
 ·left;exact⟨rfl,.inl (by decide)⟩
 have a:=dC hr
 cases v with
 | str s=>right;exact⟨s,rfl,by omega,a.2.2.1.2 ⟨s,rfl⟩,a.2.2.2.2.2 s rfl⟩
 | word b=>left;exact⟨rfl,.inr (λe=>by obtain⟨s,c⟩:=a.2.2.1.1 e;cases c)⟩
 | list l=>left;exact⟨rfl,.inr (λe=>by obtain⟨s,c⟩:=a.2.2.1.1 e;cases c)⟩
 | obj l=>left;exact⟨rfl,.inr (λe=>by obtain⟨s,c⟩:=a.2.2.1.1 e;cases c)⟩
theorem MW{ns:List U.Node}{k:Nat}{n:U.Node}{v:V}(h:Rep ns k v)(b:ns[k]?=some n):Qm ns n=xQ v:=by
 by_cases ho:∃a,v=.obj a
 ·obtain⟨a,rfl⟩:=ho;have j:uk ns (zq n bOp) (zm a bOp):=Xr h b bOp;have l:uk ns (zq n zL) (zm a zL):=Xr h b zL;have m:uk ns (zq n bNo) (zm a bNo):=Xr h b bNo;have o:uk ns (zq n zK) (zm a zK):=Xr h b zK;have g:=o.strings;obtain⟨c,d⟩:=m.noT;show Qm ns n=Jj a;unfold Qm Jj;rw[dR h b,dR h b,g,c,d]
  rcases j.op with⟨e1,c1⟩|⟨s1,e1,a1,b1,t1⟩
  ·rw[zb (by rcases c1 with c1|c1;exact .inl c1;exact .inr (.inr (.inl c1))),e1]
  rcases l.op with⟨e2,c2⟩|⟨s2,e2,a2,b2,t2⟩
  ·rw[zb (by rcases c2 with c2|c2;exact .inr (.inl c2);exact .inr (.inr (.inr c2))),e1,e2]
  rw[N8,e1,e2,t1,t2]
 have f:∀a,v ≠ .obj a:=λa e=>ho ⟨a,e⟩;have i:=(Ub h b f bOp).1;unfold Qm;rw[zb (.inl (by rw[i];decide))]
 cases v with
 | obj a=>exact absurd rfl (f a)
 | _=>rfl
theorem wR(ns:List U.Node):∀(b:List V) (a:List Nat),a.length=b.length->(∀(j k:Nat) (v:V),a[j]?=some k->b[j]?=some v->Rep ns k v)->yX ns a=b.map xQ
 | [],[],_,_=>rfl
 | [],k::a,hl,_=>by simp at hl
 | v::b,[],hl,_=>by simp at hl
 | v::b,k::a,hl,h=>by
  have c:=h 0 k v rfl rfl;have e:=wR ns b a (by simpa using hl) (λj i x f g=>h (j+1) i x (by simpa using f) (by simpa using g));unfold yX at e |-;rw[yO,yO,e];obtain⟨n,d⟩:=KY c;rw[d];simp only;rw[MW c d]
theorem uk.conds{ns:List U.Node}{h:Int}{x:Option V}(r:uk ns h x):X4 ns h=x8 x:=by
 rcases r with⟨rfl,rfl⟩|⟨v,k,rfl,rfl,hr⟩
 ·unfold X4;rw[zb (by decide)];rfl
 unfold X4;rw[N8,show ((k:Int)).toNat=k by simp]
 cases hr with
 | str _ n s d a g=>rw[d];simp[a,x8]
 | word _ n b d a=>rw[d];cases b<;>simp at a<;>simp[a,x8]
 | obj _ n l d a=>rw[d];simp[a,x8]
 | list _ n f d a g e j i=>
  rw[d];simp only[x8];rw[a,e,wR ns f n.kids e i]
  by_cases c:5<f.length
  ·rw[zb (.inr c),zb c]
  rw[N8,za c]
structure qi where
 eff:BY
 who:Bool×List BY
 act:Bool×List BY
 on:Bool×List BY
 cs:List qz
 sh:Bool
 pt:Bool
def zM:BY:=⟨#[101,102,102,101,99,116]⟩
def zY:BY:=⟨#[119,104,111]⟩
def bDo:BY:=⟨#[100,111]⟩
def bOn:BY:=⟨#[111,110]⟩
def bIf:BY:=⟨#[105,102]⟩
def jF:BY:=⟨#[115,116,97,116,101,109,101,110,116]⟩
def yI(s:BY):Bool:=(s.toList==[97,108,108,111,119])||(s.toList==[100,101,110,121])
def vN:qi:=⟨⟨#[]⟩,(false,[]),(false,[]),(false,[]),[],true,false⟩
def chD(c:Bool×Option (List BY)):Bool×List BY:=(c.1,c.2.getD [])
def chP(c:Bool×Option (List BY)):Bool:=!((c.2.getD []).all qD)
def YO(eff:BY)(a b c:Bool×Option (List BY))(cs:aD):qi:=
 ⟨eff,chD a,chD b,chD c,cs.cs,!yI eff || !a.2.isSome || !b.2.isSome || !c.2.isSome||cs.sh,chP a||chP b||chP c||cs.pt⟩
def Z8(ns:List U.Node)(n:U.Node):qi:=
 if jA n [zM,zY,bDo,bOn,bIf]=false\/zq n zM<0\/kindOf ns (zq n zM)≠3 then vN
 else YO (textOf ns (zq n zM)) (jG ns (zq n zY)) (jG ns (zq n bDo)) (jG ns (zq n bOn)) (X4 ns (zq n bIf))
def JC(ms:List (BY×V)):qi:=match qB ms [zM,zY,bDo,bOn,bIf],opV (zm ms zM) with
 | true,some eff=>YO eff (um (zm ms zY)) (um (zm ms bDo)) (um (zm ms bOn)) (x8 (zm ms bIf))
 | _,_=>vN
def yD:V->qi
 | .obj a=>JC a
 | _=>vN
theorem zeC{ns:List U.Node}{k:Nat}{n:U.Node}{v:V}(h:Rep ns k v)(b:ns[k]?=some n):Z8 ns n=yD v:=by
 by_cases ho:∃a,v=.obj a
 ·obtain⟨a,rfl⟩:=ho;have f:uk ns (zq n zM) (zm a zM):=Xr h b zM;have g:uk ns (zq n zY) (zm a zY):=Xr h b zY;have i:uk ns (zq n bDo) (zm a bDo):=Xr h b bDo;have j:uk ns (zq n bOn) (zm a bOn):=Xr h b bOn;have l:uk ns (zq n bIf) (zm a bIf):=Xr h b bIf;show Z8 ns n=JC a;unfold Z8 JC;rw[dR h b,g.choice,i.choice,j.choice,l.conds]
  cases ho:qB a [zM,zY,bDo,bOn,bIf] with
  | false=>rw[zb (.inl rfl)]
  | true=>
   rcases f.op with⟨e1,c1⟩|⟨s1,e1,a1,b1,t1⟩
   ·rw[zb (.inr c1),e1]
   rw[za (by simp;omega),e1,t1]
 have c:∀a,v ≠ .obj a:=λa e=>ho ⟨a,e⟩;have d:=(Ub h b c zM).1;unfold Z8;rw[zb (.inr (.inl (by rw[d];decide)))]
 cases v with
 | obj a=>exact absurd rfl (c a)
 | _=>rfl
def Qo:List qi->Nat->Int×Nat
 | [],_=>(0,0)
 | r::rs,i=>if r.sh then (5,i+1) else if r.pt then (6,i+1) else Qo rs (i+1)
def uO:V->Int×Nat
 | .obj a=>match zm a jF with
  | some (.list vs)=>if a.length≠1\/vs.length<1\/10<vs.length then (5,0) else Qo (vs.map yD) 0
  | _=>(5,0)
 | _=>(5,0)
def Zk(ns:List U.Node)(a:List Nat):List qi:=a.map λk=>match ns[k]? with
 | some n=>Z8 ns n
 | none=>vN
def Kj(ns:List U.Node)(a:Nat):Int×Nat:=match ns[a]? with
 | none=>(5,0)
 | some r=>if r.kind≠1\/r.names.length≠1\/zq r jF<0 then (5,0) else match ns[(zq r jF).toNat]? with
  | none=>(5,0)
  | some n=>if n.kind≠2\/n.kids.length<1\/10<n.kids.length then (5,0) else Qo (Zk ns n.kids) 0
theorem oI(ns:List U.Node):∀(b:List V) (a:List Nat),a.length=b.length->(∀(j k:Nat) (v:V),a[j]?=some k->b[j]?=some v->Rep ns k v)->Zk ns a=b.map yD
 | [],[],_,_=>rfl
 | [],k::a,hl,_=>by simp at hl
 | v::b,[],hl,_=>by simp at hl
 | v::b,k::a,hl,h=>by
  have c:=h 0 k v rfl rfl;have e:=oI ns b a (by simpa using hl) (λj i x f g=>h (j+1) i x (by simpa using f) (by simpa using g));unfold Zk at e |-;rw[yO,yO,e];obtain⟨n,d⟩:=KY c;rw[d];simp only;rw[zeC c d]
theorem Oy{ns:List U.Node}{k:Nat}{v:V}(h:Rep ns k v):Kj ns k=uO v:=by
 obtain⟨r,g⟩:=KY h;have l:=dC h;have m:kindOf ns k=r.kind:=by unfold kindOf;rw[show ((k:Int)).toNat=k by simp,g]
 rw[m]at l;unfold Kj;rw[g];simp only
 by_cases ho:∃d,v=.obj d
 ·obtain⟨d,rfl⟩:=ho;have a:=l.1.2 ⟨d,rfl⟩
  have w:r.names.length=d.length:=by
   cases h with
   | obj _ A _ a f p=>rw[g]at a;injection a with a;subst a;rw[p];simp
  rw[w];unfold uO;simp only
  rcases Xr h g jF with⟨e,c⟩|⟨x,j,e,c,hx⟩
  ·rw[zb (.inr (.inr (by rw[c];decide))),e]
  rw[e,c]
  by_cases c1:d.length=1
  ·rw[N8,show (((j:Nat):Int)).toNat=j by simp]
   cases hx with
   | str _ n s a f p=>rw[a];simp[f]
   | word _ n b a f=>rw[a];cases b<;>simp at f<;>simp[f]
   | obj _ n d a f=>rw[a];simp[f]
   | list _ n i q t y o z u=>
    rw[q];simp only;rw[t,o,oI ns i n.kids o u]
    by_cases c2:i.length<1\/10<i.length
    ·rw[zb (.inr c2),zb (.inr c2)]
    rw[N8,N8]
  rw[zb (.inr (.inl c1))]
  cases x with
  | list i=>simp only;rw[zb (.inl c1)]
  | _=>rfl
 rw[zb (.inl (λe=>ho (l.1.1 e)))]
 cases v with
 | obj d=>exact absurd ⟨d,rfl⟩ ho
 | _=>rfl
def cls(b a:Bool):Nat:=if b then 1 else if a then 2 else 0
def qZ(l:List Nat):Nat:=if l.any (λc=>c==1) then 1 else if l.any (λc=>c==2) then 2 else 0
theorem ML(a b:Bool):(cls a b==1)=a:=by cases a<;>cases b<;>rfl
theorem MM(a:Bool):(cls false a==2)=a:=by cases a<;>rfl
theorem Kr:∀(l:List (Bool×Bool)),qZ (l.map λx=>cls x.1 x.2)=cls (l.any Prod.fst) (l.any Prod.snd):=by
 intro l
 have b:(l.map λx=>cls x.1 x.2).any (λc=>c==1)=l.any Prod.fst:=by
  rw[XP];exact congrArg (λf=>l.any f) (funext λx=>ML x.1 x.2)
 unfold qZ;rw[b]
 cases h:l.any Prod.fst with
 | true=>rfl
 | false=>
  have d:(l.map λx=>cls x.1 x.2).any (λc=>c==2)=l.any Prod.snd:=by
   rw[VG]at h;clear b
   induction l with
   | nil=>rfl
   | cons a r i=>
    have e:a.1=false:=by have:=h a (by simp);simpa using this
    rw[yO,VF,VF,i (λx g=>h x (by simp[g])),e,MM]
  rw[d]
  rfl
theorem Bt(c:Nat)(h:c<=2):qZ [c]=c:=by
 have:c=0\/c=1\/c=2:=by omega
 rcases this with rfl|rfl|rfl<;>rfl
theorem wD(b a:Bool):cls b a<=2:=by cases b<;>cases a<;>decide
theorem V9(l:List Nat):qZ l<=2:=by unfold qZ;split;decide;split<;>decide
def xm(c:Option V->Nat):Option V->Nat
 | some (.list vs)=>if vs.length<1\/10<vs.length then 1 else qZ (vs.map λv=>c (some v))
 | x=>qZ [c x]
def xy(f:Option V->BY):Option V->List BY
 | some (.list vs)=>if vs.length<1\/10<vs.length then [] else vs.map λv=>f (some v)
 | x=>[f x]
def strOf:Option V->BY
 | some (.str s)=>s
 | _=>⟨#[]⟩
def vO:Option V->Nat
 | some (.str s)=>cls false (!qD s)
 | _=>1
def qx(f:BY->Bool):Option V->Nat
 | some (.str s)=>cls (!f s) false
 | _=>1
def xN(f:BY->Bool):Option V->BY
 | some (.str s)=>if f s then s else ⟨#[]⟩
 | _=>⟨#[]⟩
theorem K7:∀(a:List V),(∃l,uy a=some l/\a=l.map .str)\/(uy a=none/\∃v ∈ a,∀s,v ≠ .str s)
 | [] => .inl ⟨[],rfl,rfl⟩
 | v::a=>by
  cases v with
  | str s=>
   rcases K7 a with⟨l,h1,h2⟩|⟨h1,v,hv,h2⟩
   ·left;exact⟨s::l,by simp[uy,h1],by simp[h2]⟩
   ·right;exact⟨by simp[uy,h1],v,by simp[hv],h2⟩
  | word b=>right;exact⟨rfl,.word b,by simp,λs e=>by cases e⟩
  | list l=>right;exact⟨rfl,.list l,by simp,λs e=>by cases e⟩
  | obj l=>right;exact⟨rfl,.obj l,by simp,λs e=>by cases e⟩
theorem Kt{l:List Nat}(h:1 ∈ l):qZ l=1:=by
 unfold qZ;rw[zb];rw[Q3];exact⟨1,h,rfl⟩
theorem Sd(f:BY->Bool)(l:List BY):qZ (l.map λs=>cls false (!f s))=cls false (!l.all f):=by
 have:=Kr (l.map λs=>(false,!f s))
 rw[kY]at this;have e:((λx:Bool×Bool=>cls x.1 x.2) ∘ λs=>(false,!f s))=λs=>cls false (!f s):=rfl;rw[e]at this;rw[this];have a:(l.map λs=>(false,!f s)).any Prod.fst=false:=by rw[XP,VG];intro x _;simp
 have b:(l.map λs=>(false,!f s)).any Prod.snd = !l.all f:=by rw[XP,List.not_all_eq_any_not];rfl
 rw[a,b]
theorem Sg(f:BY->Bool)(l:List BY):qZ (l.map λs=>cls (!f s) false)=cls (!l.all f) false:=by
 have:=Kr (l.map λs=>(!f s,false))
 rw[kY]at this;have e:((λx:Bool×Bool=>cls x.1 x.2) ∘ λs=>(!f s,false))=λs=>cls (!f s) false:=rfl;rw[e]at this;rw[this];have a:(l.map λs=>(!f s,false)).any Prod.snd=false:=by rw[XP,VG];intro x _;simp
 have b:(l.map λs=>(!f s,false)).any Prod.fst = !l.all f:=by rw[XP,List.not_all_eq_any_not];rfl
 rw[a,b]
theorem Uo(x:Option V):xm vO x=cls (!(zN x).isSome) (!((zN x).getD []).all qD):=by
 have a:∀x:Option V,zN x=none->vO x=1->(∀d,x≠some (.list d))->xm vO x=cls (!(zN x).isSome) (!((zN x).getD []).all qD):=by
  intro x h e f;rw[h];unfold xm;split
  ·rename_i d;exact absurd rfl (f d)
  rw[e];rfl
 match x with
 | none=>exact a none rfl rfl (by simp)
 | some (.word b)=>exact a _ rfl rfl (by simp)
 | some (.obj ms)=>exact a _ rfl rfl (by simp)
 | some (.str s)=>
  show qZ [vO (some (.str s))]=_;simp only[vO,zN,yP,uC,aJ,List.all_nil,JJ,aC];exact Bt _ (wD _ _)
 | some (.list d)=>
  simp only[xm,zN]
  by_cases c:d.length<1\/10<d.length
  ·rw[zb c,zb c];rfl
  rw[za c,za c]
  rcases K7 d with⟨l,e,rfl⟩|⟨e,v,hv,f⟩
  ·rw[e,kY];exact Sd qD l
  rw[e];rw[Kt]
  ·rfl
  rw[xI];refine⟨v,hv,?_⟩
  cases v with
  | str s=>exact absurd rfl (f s)
  | _=>rfl
theorem dP(f:BY->Bool)(x:Option V):xm (qx f) x=cls (!(zN x).isSome || !((zN x).getD []).all f) false:=by
 have a:∀x:Option V,zN x=none->qx f x=1->(∀d,x≠some (.list d))->xm (qx f) x=cls (!(zN x).isSome || !((zN x).getD []).all f) false:=by
  intro x h e g;rw[h];unfold xm;split
  ·rename_i d;exact absurd rfl (g d)
  rw[e];rfl
 match x with
 | none=>exact a none rfl rfl (by simp)
 | some (.word b)=>exact a _ rfl rfl (by simp)
 | some (.obj ms)=>exact a _ rfl rfl (by simp)
 | some (.str s)=>
  show qZ [qx f (some (.str s))]=_;simp only[qx,zN,yP,uC,aJ,List.all_nil,JJ,aC,XI];exact Bt _ (wD _ _)
 | some (.list d)=>
  simp only[xm,zN]
  by_cases c:d.length<1\/10<d.length
  ·rw[zb c,zb c];rfl
  rw[za c,za c]
  rcases K7 d with⟨l,e,rfl⟩|⟨e,v,hv,g⟩
  ·rw[e,kY];exact Sg f l
  rw[e];rw[Kt]
  ·rfl
  rw[xI];refine⟨v,hv,?_⟩
  cases v with
  | str s=>exact absurd rfl (g s)
  | _=>rfl
theorem DU(x:Option V)(h:(zN x).isSome):xy strOf x=(zN x).getD []:=by
 match x with
 | none=>simp[zN]at h
 | some (.word b)=>simp[zN]at h
 | some (.obj ms)=>simp[zN]at h
 | some (.str s)=>rfl
 | some (.list vs)=>
  simp only[xy,zN]at h |-
  by_cases c:vs.length<1\/10<vs.length
  ·rw[zb c]at h;simp at h
  rw[za c]at h |-;rw[za c]
  rcases K7 vs with⟨l,h1,rfl⟩|⟨h1,v,hv,h2⟩
  ·rw[h1,kY];exact List.map_id' l
  rw[h1]at h;simp at h
theorem zbx(f:BY->Bool)(x:Option V)(h:(zN x).isSome)(a:((zN x).getD []).all f=true):xy (xN f) x=(zN x).getD []:=by
 match x with
 | none=>simp[zN]at h
 | some (.word b)=>simp[zN]at h
 | some (.obj ms)=>simp[zN]at h
 | some (.str s)=>
  simp only[zN,yP,aJ,List.all_nil,JJ]at a;simp[xy,xN,a,zN]
 | some (.list vs)=>
  simp only[xy,zN]at h a |-
  by_cases c:vs.length<1\/10<vs.length
  ·rw[zb c]at h;simp at h
  rw[za c]at h a |-;rw[za c]
  rcases K7 vs with⟨l,h1,rfl⟩|⟨h1,v,hv,h2⟩
  ·rw[h1]at a |-;rw[kY];simp only[yP]at a |-
   have:∀s ∈ l,((λv=>xN f (some v)) ∘ V.str) s=s:=by
    intro s d;rw[Zq]at a;simp[xN,a s d]
   rw[JR this];exact List.map_id' l
  rw[h1]at h;simp at h
inductive Good (L:Nat):V->Prop
 | str (s:BY):s.size<=L->Good L (.str s)
 | word (b:Bool):Good L (.word b)
 | list (vs:List V):vs.length<=L->(∀v ∈ vs,Good L v)->Good L (.list vs)
 | obj (ms:List (BY×V)):ms.length<=L->(ms.map λm=>m.1.toList).Nodup->(∀m ∈ ms,m.1.size<=L)->(∀m ∈ ms,Good L m.2)->Good L (.obj ms)
theorem pG{l:List UInt8}:∀{r:List Nat} {p q:Nat} {u:Unit},qG l r p=.ok u q->(∀b ∈ r,b≠0)->p<=l.length->p<=q/\q<=l.length
 | [],p,q,u,h,_,hp=>by
  rw[qG]at h;injection h with h1 h2
  omega
 | b::r,p,q,u,h,hb,hp=>by
  rw[qG]at h;split at h
  ·rename_i c;have e:b≠0:=hb b (by simp);have a:=qH l p (by omega)
   have:=pG h (λx d=>hb x (by simp[d])) (by omega)
   omega
  cases h
theorem Bp(l:List UInt8):∀(f:Nat),
  (∀d p v q,qL l f d p=.ok v q->Good l.length v/\p<q/\q<=l.length) /\
  (∀d p g v q,Qq l f d p g=.ok v q->g.length<=p->(∀x ∈ g,Good l.length x)->Good l.length v/\p<q/\q<=l.length) /\
  (∀d p g v q,Qr l f d p g=.ok v q->g.length<=p->(g.map λm=>m.1.toList).Nodup->(∀x ∈ g,x.1.size<=l.length/\Good l.length x.2)->Good l.length v/\p<q/\q<=l.length)
 | 0=>by
  refine⟨λd p v q h=>?_,λd p g v q h=>?_,λd p g v q h=>?_⟩
  ·rw[qL]at h;cases h
  ·rw[Qq]at h;cases h
  ·rw[Qr]at h;cases h
 | f+1=>by
  obtain⟨z,u,w⟩:=Bp l f;refine⟨λd p v q h=>?_,λd p g v q h A D=>?_,λd p g v q h A N D=>?_⟩
  ·rw[qL]at h;have O:=jV l (p+1)
   by_cases c1:zk l p=123
   ·rw[zb c1]at h;split at h
    ·cases h
    split at h
    ·rename_i n;injection h with h1 h2
     subst h1
     have:=qH l (skip l (p+1)) (by omega)
     exact⟨.obj [] I4 (by simp) (by simp) (by simp),by omega,by omega⟩
    obtain⟨a,b,c⟩:=w _ _ _ _ _ h (by simp) (by simp) (by simp);exact⟨a,by omega,c⟩
   rw[za c1]at h
   by_cases c2:zk l p=91
   ·rw[zb c2]at h;split at h
    ·cases h
    split at h
    ·rename_i n;injection h with h1 h2
     subst h1
     have:=qH l (skip l (p+1)) (by omega)
     exact⟨.list [] I4 (by simp),by omega,by omega⟩
    obtain⟨a,b,c⟩:=u _ _ _ _ _ h (by simp) (by simp);exact⟨a,by omega,c⟩
   rw[za c2]at h
   by_cases c3:zk l p=34
   ·rw[zb c3]at h;have o:jI l p=Zl l (p+1):=by unfold jI;rw[zb c3]
    cases hs:Zl l (p+1) with
    | err c i=>rw[hs]at h;cases h
    | ok s i=>
     rw[hs]at h;injection h with h1 h2
     subst h1;subst h2;rw[hs]at o;have K:=dW o;have H:=dX o;exact⟨.str s (by omega),by omega,H⟩
   rw[za c3]at h
   by_cases c4:zk l p=116
   ·rw[zb c4]at h;have E:=qH l p (by omega)
    cases hw:qG l [114,117,101] (p+1) with
    | err c i=>rw[hw]at h;cases h
    | ok s i=>
     rw[hw]at h;injection h with h1 h2
     subst h1;subst h2
     have:=pG hw (by decide) (by omega)
     exact⟨.word true,by omega,this.2⟩
   rw[za c4]at h
   by_cases c5:zk l p=102
   ·rw[zb c5]at h;have E:=qH l p (by omega)
    cases hw:qG l [97,108,115,101] (p+1) with
    | err c i=>rw[hw]at h;cases h
    | ok s i=>
     rw[hw]at h;injection h with h1 h2
     subst h1;subst h2
     have:=pG hw (by decide) (by omega)
     exact⟨.word false,by omega,this.2⟩
   rw[za c5]at h
   cases h
  ·rw[Qq]at h
   cases hv:qL l f (d+1) p with
   | err c i=>rw[hv]at h;cases h
   | ok x i=>
    rw[hv]at h;simp only at h;obtain⟨C,L,M⟩:=z _ _ _ _ hv;have Q:=jV l i
    have j:∀y ∈ g++[x],Good l.length y:=by
     intro y k
     rcases vg.1 k with k|k
     ·exact D y k
     simp only[yx]at k;subst k;exact C
    split at h
    ·have R:=jV l (skip l i+1);obtain⟨a,b,c⟩:=u _ _ _ _ _ h (by simp;omega) j;exact⟨a,by omega,c⟩
    split at h
    ·rename_i n;injection h with h1 h2
     subst h1
     have:=qH l (skip l i) (by omega)
     exact⟨.list _ (by simp;omega) j,by omega,by omega⟩
    cases h
  rw[Qr]at h;split at h
  ·cases h
  rename_i c3;have B:zk l p=34:=by omega
  have o:jI l p=Zl l (p+1):=by unfold jI;rw[zb B]
  cases hs:Zl l (p+1) with
  | err c i=>rw[hs]at h;cases h
  | ok s G=>
   rw[hs]at h;rw[hs]at o;simp only at h;have K:=dW o;have H:=dX o;split at h
   ·cases h
   rename_i F;split at h
   ·cases h
   cases hv:qL l f (d+1) (skip l (skip l G+1)) with
   | err c i=>rw[hv]at h;cases h
   | ok x i=>
    rw[hv]at h;simp only at h;obtain⟨C,L,M⟩:=z _ _ _ _ hv;have S:=jV l G;have P:=jV l (skip l G+1);have Q:=jV l i
    have j:∀y ∈ g++[(s,x)],y.1.size<=l.length/\Good l.length y.2:=by
     intro y k
     rcases vg.1 k with k|k
     ·exact D y k
     simp only[yx]at k;subst k;exact⟨by simp only;omega,C⟩
    have t:((g++[(s,x)]).map λm=>m.1.toList).Nodup:=by
     rw[uz,List.nodup_append];refine⟨N,by simp,?_⟩;intro a A b I;simp only[yO,Zr,yx]at I;subst I;rw[xI]at A;obtain⟨m,r,rfl⟩:=A;intro e;apply F;rw[Q3];exact⟨m,r,by simp[e]⟩
    split at h
    ·have R:=jV l (skip l i+1);obtain⟨a,b,c⟩:=w _ _ _ _ _ h (by simp;omega) t j;exact⟨a,by omega,c⟩
    split at h
    ·rename_i n;injection h with h1 h2
     subst h1
     have:=qH l (skip l i) (by omega)
     exact⟨.obj _ (by simp;omega) t (λm r=>(j m r).1) (λm r=>(j m r).2),by omega,by omega⟩
    cases h
theorem ed{l:List UInt8}{v:V}{q:Nat}(h:jB l=.ok v q):Good l.length v:=by
 unfold jB at h
 cases hv:qL l (2*l.length+1) 1 (skip l 0) with
 | err c a=>rw[hv]at h;cases h
 | ok x a=>
  rw[hv]at h;simp only at h;split at h
  ·cases h
  injection h with h1 h2
  subst h1;exact((Bp l _).1 _ _ _ _ hv).1
def chC:Option V->Nat
 | some (.obj ms)=>if qB ms [xx] then xm vO (zm ms xx) else 1
 | x=>xm vO x
theorem bM{L:Nat}(x:Option V)(h:∀v,x=some v->Good L v):chC x=cls (!(um x).2.isSome) (chP (um x)):=by
 match x with
 | none=>exact Uo none
 | some (.word b)=>exact Uo (some (.word b))
 | some (.str s)=>exact Uo (some (.str s))
 | some (.list vs)=>exact Uo (some (.list vs))
 | some (.obj ms)=>
  simp only[chC,um]
  by_cases c:qB ms [xx]=true
  ·rw[zb c];have a:=h _ rfl
   cases a with
   | obj _ f d g i=>
    match ms with
    | []=>rfl
    | [m]=>
     have e:(m.1.toList==xx.toList)=true:=by
      simp[qB]at c;simp[c]
     rw[zb ⟨c,rfl⟩];have a:zm [m] xx=some m.2:=by unfold zm;rw[UO,e];rfl
     rw[a];exact Uo _
    | m::m'::r=>
     exfalso;simp[qB]at c;simp only[yO,List.nodup_cons,Zt,not_or]at d;exact d.1.1 (by rw[<- c.1,<- c.2.1])
  rw[za c,za (λe=>c e.1)]
  rfl
def short(s:BY):Bool:=decide (s.size<=60)
def filled(s:BY):Bool:=!s.toList.isEmpty&&short s
def vM(op:BY):Bool:=op.toList==[115,97,109,101]
def vK(op:BY):Bool:=op.toList==[98,101,108,111,119]
def Xu(op:BY):Bool:=op.toList==[117,110,100,101,114]
def yZ(op:BY)(x:Option V):Nat:=
 if xE op then xm vO x
 else if vM op then xm (qx short) x
 else if vK op then xm (qx qW) x
 else if Xu op then xm (qx filled) x
 else if x.isNone then 0 else 1
def uS(op:BY)(x:Option V):List BY:=
 if xE op then xy strOf x
 else if vM op then xy (xN short) x
 else if vK op then xy (xN qW) x
 else if Xu op then xy (xN filled) x
 else []
theorem bF{f g:BY->Bool}(h:∀s,f s=g s)(l:List BY):l.all f=l.all g:=by rw[show f=g from funext h]
theorem Cr(op:BY)(x:Option V)(h:Zz op=true):yZ op x=cls (!(zN x).isSome || !ZU op ((zN x).getD [])) (xE op && !((zN x).getD []).all qD):=by
 unfold yZ ZU;rw[h,JJ]
 by_cases c1:xE op=true
 ·rw[zb c1];have e:op.toList=[108,105,107,101]:=by simpa [xE] using c1
  have a:∀s,uZ op s=true:=by intro s;unfold uZ;rw[e];rfl
  rw[bF a,c1,Uo,show ((zN x).getD []).all (λ_=>true)=true from by simp]
  simp
 rw[za c1];have b:xE op=false:=by simpa using c1
 rw[b,kS]
 by_cases c2:vM op=true
 ·rw[zb c2];have e:op.toList=[115,97,109,101]:=by simpa [vM] using c2
  have a:∀s,uZ op s=short s:=by intro s;unfold uZ;rw[e];rfl
  rw[bF a,dP]
 rw[za c2]
 by_cases c3:vK op=true
 ·rw[zb c3];have e:op.toList=[98,101,108,111,119]:=by simpa [vK] using c3
  have a:∀s,uZ op s=qW s:=by intro s;unfold uZ;rw[e];rfl
  rw[bF a,dP]
 rw[za c3]
 by_cases c4:Xu op=true
 ·rw[zb c4];have e:op.toList=[117,110,100,101,114]:=by simpa [Xu] using c4
  have a:∀s,uZ op s=filled s:=by
   intro s;unfold uZ;rw[e];show (decide (s.size<=60) && !s.toList.isEmpty)=(!s.toList.isEmpty&&short s);rw[Bool.and_comm]
   rfl
  rw[bF a,dP]
 exfalso;unfold Zz at h;unfold xE at c1;unfold vM at c2;unfold vK at c3;unfold Xu at c4;simp only[fM]at h
 rcases h with ((h|h)|h)|h
 ·exact c2 h
 ·exact c4 h
 ·exact c3 h
 exact c1 h
theorem zbD(ms:List (BY×V)):qB ms [bOp,zL,zK,bNo]=qB ms [bOp,zL,bNo,zK]:=by
 unfold qB;refine congrArg (λf=>ms.all f) (funext λm=>?_);simp only[VF,List.any_nil,ZI];rw[Bool.or_comm (zK.toList==m.1.toList) (bNo.toList==m.1.toList)]
theorem DW(m:BY×V)(ms:List (BY×V))(ns:List BY):qB (m::ms) ns=((ns.any λt=>t.toList==m.1.toList)&&qB ms ns):=by
 unfold qB;rw[aJ]
theorem DX:∀(a:List (BY×V)),qB a [bOp,zL,bNo]=(qB a [bOp,zL,bNo,zK]&&(zm a zK).isNone)
 | []=>rfl
 | m::a=>by
  rw[DW,DW,DX a];unfold zm;rw[UO]
  by_cases c:(m.1.toList==zK.toList)=true
  ·rw[c];have e:m.1.toList=zK.toList:=by simpa using c
   rw[e]
   have:([bOp,zL,bNo].any λt=>t.toList==zK.toList)=false:=by kernel_rfl
   rw[this]
   simp
  have b:(m.1.toList==zK.toList)=false:=by simpa using c
  have c2:(zK.toList==m.1.toList)=false:=by rw[Bool.beq_comm];exact b
  rw[b];simp only[VF,List.any_nil,ZI,c2];rw[Bool.and_assoc]
def condC:V->Nat
 | .obj a=>if qB a [bOp,zL,zK,bNo] then (match opV (zm a bOp) with
  | some op=>if Zz op||xR op then qZ [qx ql (zm a zL),yZ op (zm a zK),cls (kJ (zm a bNo)) false] else 1
  | none=>1) else 1
 | _=>1
theorem Bq(a b c d e f:Bool):qZ [cls a d,cls b e,cls c f]=cls (a||b||c) (d||e||f):=by
 have:=Kr [(a,d),(b,e),(c,f)]
 simp only[yO,Zr,VF,List.any_nil,ZI]at this;rw[this,Vy,Vy]
theorem rP(op:BY)(h:xR op=true):Zz op=false/\xE op=false/\vM op=false/\vK op=false/\Xu op=false:=by
 have e:op.toList=[97,98,115,101,110,116]:=by simpa [xR] using h
 unfold Zz xE vM vK Xu;rw[e]
 decide
theorem wJ(v:V):condC v=cls (xQ v).sh (xQ v).pt:=by
 cases v with
 | str s=>rfl
 | word b=>rfl
 | list l=>rfl
 | obj a=>
  simp only[condC,xQ,Jj]
  cases ho:opV (zm a bOp) with
  | none=>simp only[ite_self];rfl
  | some op=>
   simp only
   cases hk:opV (zm a zL) with
   | none=>
    have f:qx ql (zm a zL)=1:=by
     unfold opV at hk;split at hk
     ·cases hk
     rename_i e;unfold qx;split
     ·rename_i s d;exact absurd d (e s)
     rfl
    rw[f]
    have:qZ [1,yZ op (zm a zK),cls (kJ (zm a bNo)) false]=1:=Kt (by simp)
    rw[this];simp only[ite_self]
    rfl
   | some key=>
    have f:qx ql (zm a zL)=cls (!ql key) false:=by
     unfold opV at hk;split at hk
     ·rename_i s d;injection hk with hk
      subst hk;rw[d]
      rfl
     cases hk
    rw[f,zbD]
    by_cases ca:xR op=true
    ·obtain⟨m,h,i,j,k⟩:=rP op ca;simp only[ca,Bool.or_true,qJ];rw[DX]
     have g:yZ op (zm a zK)=cls (!(zm a zK).isNone) false:=by
      unfold yZ;rw[h,i,j,k]
      cases (zm a zK).isNone<;>rfl
     rw[g,Bq]
     cases qB a [bOp,zL,bNo,zK]<;>cases (zm a zK).isNone<;>cases ql key<;>cases kJ (zm a bNo)<;>rfl
    have c:xR op=false:=by simpa using ca
    simp only[c,ZI,yu,xX]
    cases ok:Zz op with
    | false=>
     have:ZU op ((zN (zm a zK)).getD [])=false:=by unfold ZU;rw[ok,fI]
     rw[this];simp only[yu,xX,ite_self,aB,Bool.or_true,UI]
     rfl
    | true=>
     rw[Cr op _ ok,Bq];simp only[qJ];generalize (!(zN (zm a zK)).isSome || !ZU op ((zN (zm a zK)).getD []))=A;generalize (xE op && !((zN (zm a zK)).getD []).all qD)=B
     cases qB a [bOp,zL,bNo,zK]<;>cases A<;>cases B<;>cases ql key<;>cases kJ (zm a bNo)<;>rfl
def uM:Option V->Nat
 | none=>0
 | some (.list vs)=>if 5<vs.length then 1 else qZ (vs.map condC)
 | some _=>1
theorem Ng(x:Option V):uM x=cls (x8 x).sh (x8 x).pt:=by
 match x with
 | none=>rfl
 | some (.str s)=>rfl
 | some (.word b)=>rfl
 | some (.obj ms)=>rfl
 | some (.list vs)=>
  simp only[uM,x8];split
  ·rfl
  have:=Kr (vs.map λv=>((xQ v).sh,(xQ v).pt))
  rw[kY]at this;have e:((λx:Bool×Bool=>cls x.1 x.2) ∘ λv=>((xQ v).sh,(xQ v).pt))=condC:=funext λv=>(wJ v).symm;rw[e]at this;rw[this];simp only[XP]
  rfl
def jd:V->Nat
 | .obj a=>if qB a [zM,zY,bDo,bOn,bIf] then qZ [qx yI (zm a zM),chC (zm a zY),chC (zm a bDo),chC (zm a bOn),uM (zm a bIf)] else 1
 | _=>1
theorem jr{L:Nat}{ms:List (BY×V)}(h:Good L (.obj ms))(nm:BY):∀v,zm ms nm=some v->Good L v:=by
 intro v a
 cases h with
 | obj _ d e f b=>
  unfold zm at a;obtain⟨m,c,rfl⟩:=vT.1 a;exact b m (aO c)
theorem Sa(a b c d e f g h i j:Bool):qZ [cls a f,cls b g,cls c h,cls d i,cls e j]=cls (a||b||c||d||e) (f||g||h||i||j):=by
 have:=Kr [(a,f),(b,g),(c,h),(d,i),(e,j)]
 simp only[yO,Zr,VF,List.any_nil,ZI]at this;rw[this];simp only[Vy]
theorem FU{L:Nat}(v:V)(h:Good L v):jd v=cls (yD v).sh (yD v).pt:=by
 cases v with
 | str s=>rfl
 | word b=>rfl
 | list l=>rfl
 | obj a=>
  simp only[jd,yD,JC]
  cases ho:qB a [zM,zY,bDo,bOn,bIf] with
  | false=>rfl
  | true=>
   simp only[qJ]
   cases hk:opV (zm a zM) with
   | none=>
    have e:qx yI (zm a zM)=1:=by
     unfold opV at hk;split at hk
     ·cases hk
     rename_i d;unfold qx;split
     ·rename_i s c;exact absurd c (d s)
     rfl
    rw[e];rw[Kt (by simp)]
    rfl
   | some eff=>
    have e:qx yI (zm a zM)=cls (!yI eff) false:=by
     unfold opV at hk;split at hk
     ·rename_i s c;injection hk with hk
      subst hk;rw[c]
      rfl
     cases hk
    rw[e,bM _ (jr h zY),bM _ (jr h bDo),bM _ (jr h bOn),Ng,Sa];simp only[YO,XI]
def Xo:List Nat->Nat->Int×Nat
 | [],_=>(0,0)
 | c::cs,i=>if c=1 then (5,i+1) else if c=2 then (6,i+1) else Xo cs (i+1)
theorem AZ{L:Nat}:∀(a:List V) (i:Nat),(∀v ∈ a,Good L v)->Qo (a.map yD) i=Xo (a.map jd) i
 | [],_,_=>rfl
 | v::a,i,h=>by
  rw[yO,yO,Qo,Xo,FU v (h v (by simp)),AZ a (i+1) (λx b=>h x (by simp[b]))]
  cases (yD v).sh<;>cases (yD v).pt<;>rfl
def qC(s:BY):Int×Nat:=
 if 4000<s.size then (1,0) else match jB s.data.toList with
  | .err e q=>(e,q)
  | .ok v _=>uO v
def Code(c:Int):Prop:=c=2\/c=3\/c=4
theorem AQ(l:List UInt8):∀(f:Nat),
  (∀d p c q,qL l f d p=.err c q->Code c) /\
  (∀d p a c q,Qq l f d p a=.err c q->Code c) /\
  (∀d p a c q,Qr l f d p a=.err c q->Code c)
 | 0=>by
  refine⟨λd p c q h=>?_,λd p a c q h=>?_,λd p a c q h=>?_⟩
  ·rw[qL]at h;injection h with h1 h2;exact .inl h1.symm
  ·rw[Qq]at h;injection h with h1 h2;exact .inl h1.symm
  ·rw[Qr]at h;injection h with h1 h2;exact .inl h1.symm
 | f+1=>by
  obtain⟨j,g,i⟩:=AQ l f;refine⟨λd p c q h=>?_,λd p a c q h=>?_,λd p a c q h=>?_⟩
  ·rw[qL]at h
   by_cases c1:zk l p=123
   ·rw[zb c1]at h;split at h
    ·injection h with h1 h2;exact .inr (.inl h1.symm)
    split at h
    ·cases h
    exact i _ _ _ _ _ h
   rw[za c1]at h
   by_cases c2:zk l p=91
   ·rw[zb c2]at h;split at h
    ·injection h with h1 h2;exact .inr (.inl h1.symm)
    split at h
    ·cases h
    exact g _ _ _ _ _ h
   rw[za c2]at h
   by_cases c3:zk l p=34
   ·rw[zb c3]at h
    cases hs:Zl l (p+1) with
    | ok s b=>rw[hs]at h;cases h
    | err e b=>
     rw[hs]at h;injection h with h1 h2
     subst h1;exact .inl (fe hs)
   rw[za c3]at h
   by_cases c4:zk l p=116
   ·rw[zb c4]at h
    cases hw:qG l [114,117,101] (p+1) with
    | ok s b=>rw[hw]at h;cases h
    | err e b=>
     rw[hw]at h;injection h with h1 h2
     subst h1;exact .inl (ak hw)
   rw[za c4]at h
   by_cases c5:zk l p=102
   ·rw[zb c5]at h
    cases hw:qG l [97,108,115,101] (p+1) with
    | ok s b=>rw[hw]at h;cases h
    | err e b=>
     rw[hw]at h;injection h with h1 h2
     subst h1;exact .inl (ak hw)
   rw[za c5]at h;injection h with h1 h2
   exact .inl h1.symm
  ·rw[Qq]at h
   cases hv:qL l f (d+1) p with
   | err e b=>
    rw[hv]at h;injection h with h1 h2
    subst h1;exact j _ _ _ _ hv
   | ok x b=>
    rw[hv]at h;simp only at h;split at h
    ·exact g _ _ _ _ _ h
    split at h
    ·cases h
    injection h with h1 h2;exact .inl h1.symm
  rw[Qr]at h;split at h
  ·injection h with h1 h2;exact .inl h1.symm
  cases hs:Zl l (p+1) with
  | err e b=>
   rw[hs]at h;injection h with h1 h2
   subst h1;exact .inl (fe hs)
  | ok s k=>
   rw[hs]at h;simp only at h;split at h
   ·injection h with h1 h2;exact .inr (.inr h1.symm)
   split at h
   ·injection h with h1 h2;exact .inl h1.symm
   cases hv:qL l f (d+1) (skip l (skip l k+1)) with
   | err e b=>
    rw[hv]at h;injection h with h1 h2
    subst h1;exact j _ _ _ _ hv
   | ok x b=>
    rw[hv]at h;simp only at h;split at h
    ·exact i _ _ _ _ _ h
    split at h
    ·cases h
    injection h with h1 h2;exact .inl h1.symm
theorem dZ{l:List UInt8}{c:Int}{q:Nat}(h:jB l=.err c q):Code c:=by
 unfold jB at h
 cases hv:qL l (2*l.length+1) 1 (skip l 0) with
 | err e a=>
  rw[hv]at h;injection h with h1 h2
  subst h1;exact(AQ l _).1 _ _ _ _ hv
 | ok x a=>
  rw[hv]at h;simp only at h;split at h
  ·injection h with h1 h2;exact .inl h1.symm
  cases h
theorem zer(v:V):jd v<=2:=by
 cases v with
 | obj a=>simp only[jd];split;exact V9 _;decide
 | _=>simp[jd]
theorem Ba:∀(a:List Nat) (i:Nat),(∀c ∈ a,c=0)->Xo a i=(0,0)
 | [],_,_=>rfl
 | c::a,i,h=>by
  have d:=h c (by simp);rw[Xo,N8,N8];exact Ba a _ (λx b=>h x (by simp[b]))
theorem Bb:∀(a:List Nat) (i k:Nat),(b:k<a.length)->(∀j,(h:j<k)->a[j]=0)->a[k]≠0->a[k]<=2->Xo a i=(if a[k]=1 then 5 else 6,i+k+1)
 | [],_,k,b,_,_,_=>by simp at b
 | c::a,i,0,b,_,h1,h2=>by
  simp only[rA]at h1 h2 |-;rw[Xo]
  by_cases e:c=1
  ·rw[zb e,zb e]
  ·rw[za e,N9,za e]
 | c::a,i,k+1,b,h0,h1,h2=>by
  have d:c=0:=h0 0 (by omega);simp only[List.getElem_cons_succ]at h1 h2 |-;rw[Xo,N8,N8,Bb a (i+1) k (by simpa using b) (λj f=>by have:=h0 (j+1) (by omega);simpa using this) h1 h2];have e:i+1+k+1=i+(k+1)+1:=by omega
  rw[e]
end Z
end Go.Proofs.YtfjpcldndaiifaaGreatDoor
