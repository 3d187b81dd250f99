/- P -/
import Derived.Test.YtdakgnaojakldaaGreatDoorP05
import Derived.KernelRfl
set_option maxRecDepth 100000
namespace Go.Proofs.YtdakgnaojakldaaGreatDoor
namespace Rd
open Ref
def zl(ms:List (BY×V))(nm:BY):Option V:=(ms.find? λm=>m.1.toList==nm.toList).map Prod.snd
def vP:List V->Option (List BY)
 | []=>some []
 | .str s::vs=>(vP vs).map λl=>s::l
 | _::_=>none
def zL:Option V->Option (List BY)
 | some (.str s)=>some [s]
 | some (.list vs)=>if vs.length<1\/10<vs.length then none else vP vs
 | _=>none
def qg(ms:List (BY×V))(names:List BY):Bool:=ms.all λm=>names.any λt=>t.toList==m.1.toList
def vK:Option V->Bool×Option (List BY)
 | some (.obj ms)=>if qg ms [qR]=true/\ms.length=1 then (true,zL ((ms.map Prod.snd)[0]?)) else (false,none)
 | x=>(false,zL x)
def opV(x:Option V):Option BY:=match x with
 | some (.str s)=>some s
 | _=>none
def Qp:Option V->Bool
 | some (.word b)=>b
 | _=>false
def uC:Option V->Bool
 | none=>false
 | some (.word _)=>false
 | _=>true
def YJ(ms:List (BY×V)):qD:=match opV (zl ms bOp),opV (zl ms zI) with
 | some op,some key=>
  if xJ op then ⟨op,key,[],Qp (zl ms bNo),uC (zl ms bNo) || !zX key || !qg ms [bOp,zI,bNo],false⟩
  else ⟨op,key,(zL (zl ms zG)).getD [],Qp (zl ms bNo),
   uC (zl ms bNo)||(!(zL (zl ms zG)).isSome || !Zv op ((zL (zl ms zG)).getD [])) || !zX key || !qg ms [bOp,zI,bNo,zG],
   qX op && !((zL (zl ms zG)).getD []).all qi⟩
 | _,_=>yH
def xm:V->qD
 | .obj ms=>YJ ms
 | _=>yH
def xG:Option V->U5
 | none=>⟨[],false,false⟩
 | some (.list vs)=>if 5<vs.length then ⟨[],true,false⟩ else ⟨vs.map xm,(vs.map xm).any qD.sh,(vs.map xm).any qD.pt⟩
 | some _=>⟨[],true,false⟩
theorem UL{a:List Ref.Node}{i:Nat}{v:V}(h:Rep a i v):∃n,a[i]?=some n:=by
 cases h with
 | str _ n _ h=>exact⟨n,h⟩
 | word _ n _ h=>exact⟨n,h⟩
 | list _ n _ h=>exact⟨n,h⟩
 | obj _ n _ h=>exact⟨n,h⟩
theorem sD(a:List Ref.Node)(nm:BY):∀(ms:List (BY×V)) (ks:List Nat),ks.length=ms.length->(∀(j k:Nat) (x:BY×V),ks[j]?=some k->ms[j]?=some x->Rep a k x.2) ->
  (zl ms nm=none/\jZ (ms.map Prod.fst) ks nm = -1)\/∃v k,zl ms nm=some v/\jZ (ms.map Prod.fst) ks nm=((k:Nat):Int)/\Rep a k v
 | [],ks,_,_=>by left;exact⟨rfl,by simp[jZ]⟩
 | m::ms,[],hl,_=>by simp at hl
 | m::ms,k::ks,hl,h=>by
  unfold zl;simp only[yK,jZ,VS]
  by_cases e:(m.1.toList==nm.toList)=true
  ·rw[e]
   right
   exact⟨m.2,k,rfl,by simp,h 0 k m rfl rfl⟩
  ·have b:(m.1.toList==nm.toList)=false:=by simpa using e
   rw[b];simp only[yu,xV];exact sD a nm ms ks (by simpa using hl) (λj f x c d=>h (j+1) f x (by simpa using c) (by simpa using d))
theorem QQ{b:List Ref.Node}{i:Nat}{n:Ref.Node}{ms:List (BY×V)}(h:Rep b i (.obj ms))(f:b[i]?=some n)(nm:BY) :
  (zl ms nm=none/\zn n nm = -1)\/∃v k,zl ms nm=some v/\zn n nm=((k:Nat):Int)/\Rep b k v:=by
 cases h with
 | obj _ l _ a g c d j e=>
  rw[f] at a;injection a with a
  subst a;unfold zn;rw[c];exact sD b nm ms n.kids d e
theorem Uv{j:List Ref.Node}{i:Nat}{n:Ref.Node}{v:V}(h:Rep j i v)(e:j[i]?=some n)(l:∀ms,v ≠ .obj ms)(nm:BY):zn n nm = -1/\n.kind≠1/\n.names=[]:=by
 have key:n.names=[]/\n.kind≠1:=by
  cases h with
  | str _ f _ a c d g k=>rw[e] at a;injection a with a;subst a;exact⟨k,by omega⟩
  | word _ f b a c d g=>rw[e] at a;injection a with a;subst a;exact⟨g,by cases b<;>simp at c<;>omega⟩
  | list _ f _ a c d=>rw[e] at a;injection a with a;subst a;exact⟨d,by omega⟩
  | obj _ f ms=>exact absurd rfl (l ms)
 refine⟨?_,key.2,key.1⟩;unfold zn;rw[key.1];simp[jZ]
theorem KX{d:List Ref.Node}{k:Nat}{v:V}(h:Rep d k v):(kindOf d k=1↔∃ms,v = .obj ms)/\(kindOf d k=2↔∃e,v = .list e)/\(kindOf d k=3↔∃s,v = .str s)/\(kindOf d k=4↔v = .word true)/\(kindOf d k=5↔v = .word false)/\(∀s,v = .str s->textOf d k=s):=by
 unfold kindOf textOf;rw[show ((k:Int)).toNat=k by simp]
 cases h with
 | str _ n s c a f=>rw[c];simp[a,f]
 | word _ n b c a=>rw[c];cases b<;>simp at a<;>simp[a]
 | list _ n e c a=>rw[c];simp[a]
 | obj _ n ms c a=>rw[c];simp[a]
theorem Dc(e:List Ref.Node):∀(d:List V) (ks:List Nat),ks.length=d.length->(∀(j k:Nat) (v:V),ks[j]?=some k->d[j]?=some v->Rep e k v)->uo e ks=vP d
 | [],[],_,_=>rfl
 | [],k::ks,hl,_=>by simp at hl
 | v::d,[],hl,_=>by simp at hl
 | v::d,k::ks,hl,h=>by
  have f:=h 0 k v rfl rfl;have i:=Dc e d ks (by simpa using hl) (λj l x c a=>h (j+1) l x (by simpa using c) (by simpa using a));rw[uo,i]
  cases f with
  | str _ n s c a g=>rw[c];simp[a,g,vP]
  | word _ n b c a=>rw[c];cases b<;>simp at a<;>simp[a,vP]
  | list _ n m c a=>rw[c];simp[a,vP]
  | obj _ n ms c a=>rw[c];simp[a,vP]
theorem iV{e:List Ref.Node}{k:Nat}{v:V}(h:Rep e k v):qM e k=zL (some v):=by
 unfold qM;rw[za (by omega),show ((k:Int)).toNat=k by simp]
 cases h with
 | str _ n s d a g=>rw[d];simp[a,g,zL]
 | word _ n b d a=>rw[d];cases b<;>simp at a<;>simp[a,zL]
 | list _ n f d a g i l j=>
  rw[d];simp only[a,zL];rw[za (by decide),i]
  by_cases c:f.length<1\/10<f.length
  ·rw[zb (.inr c),zb c]
  ·rw[za (by simpa using c),za c];exact Dc e f n.kids i j
 | obj _ n ms d a=>rw[d];simp[a,zL]
theorem zcd(a:List Ref.Node):qM a (-1)=zL none:=by
 unfold qM;rw[zb (by decide)];rfl
theorem ak{b:List Ref.Node}{i:Nat}{n:Ref.Node}{ms:List (BY×V)}(h:Rep b i (.obj ms))(e:b[i]?=some n)(names:List BY):yR n names=qg ms names:=by
 cases h with
 | obj _ k _ a c d f g j=>
  rw[e] at a;injection a with a
  subst a;unfold yR qg;rw[d,c,List.all_map];simp[Function.comp_def]
theorem Gx{l:List Ref.Node}{k:Nat}{v:V}(h:Rep l k v):yY l k=vK (some v):=by
 have u:=iV h;have g:=KX h;obtain⟨n,f⟩:=UL h;unfold yY;rw[za (by omega),show ((k:Int)).toNat=k by simp,f];simp only;have i:kindOf l k=n.kind:=by unfold kindOf;rw[show ((k:Int)).toNat=k by simp,f]
 rw[i] at g
 by_cases c:n.kind=1
 ·rw[zb c];obtain⟨ms,rfl⟩:=g.1.1 c;rw[ak h f]
  cases h with
  | obj _ z _ d w q x y r=>
   rw[f] at d;injection d with d
   subst d;have s:n.names.length=ms.length:=by rw[q];simp
   unfold vK;simp only;rw[s]
   by_cases c2:qg ms [qR]=true/\ms.length=1
   ·rw[zb c2,zb c2];have p:0<ms.length:=by omega
    have a:n.kids[0]?=some (n.kids[0]'(by omega)):=zm (by omega);have b:ms[0]?=some ms[0]:=zm p;have t:=iV (r 0 _ _ a b);have m:n.kids.getD 0 0=n.kids[0]'(by omega):=by rw[zQ,a];rfl
    have o:(ms.map Prod.snd)[0]?=some ms[0].2:=by rw[uO,b];rfl
    rw[m,o,t]
   ·rw[za c2,za c2]
 ·rw[za c];have j:∀ms,v ≠ .obj ms:=λms e=>c (g.1.2 ⟨ms,e⟩);rw[u]
  cases v with
  | obj ms=>exact absurd rfl (j ms)
  | _=>rfl
theorem Gw(a:List Ref.Node):yY a (-1)=vK none:=by
 unfold yY;rw[zb (by decide)];rfl
def vD(a:List Ref.Node)(h:Int)(x:Option V):Prop:=(x=none/\h = -1)\/∃v k,x=some v/\h=((k:Nat):Int)/\Rep a k v
theorem vD.strings{a:List Ref.Node}{h:Int}{x:Option V}(r:vD a h x):qM a h=zL x:=by
 rcases r with ⟨rfl,rfl⟩|⟨v,k,rfl,rfl,hr⟩
 ·exact zcd a
 ·exact iV hr
theorem vD.choice{a:List Ref.Node}{h:Int}{x:Option V}(r:vD a h x):yY a h=vK x:=by
 rcases r with ⟨rfl,rfl⟩|⟨v,k,rfl,rfl,hr⟩
 ·exact Gw a
 ·exact Gx hr
theorem vD.noT{c:List Ref.Node}{h:Int}{x:Option V}(r:vD c h x):Ref.noT c h=Qp x/\Ref.uX c h=uC x:=by
 rcases r with ⟨rfl,rfl⟩|⟨v,k,rfl,rfl,hr⟩
 ·exact⟨rfl,rfl⟩
 ·have a:=KX hr;unfold Ref.noT Ref.uX
  cases v with
  | word b=>
   cases b with
   | true=>
    have:=a.2.2.2.1.2 rfl
    rw[this];simp[Qp,uC]
   | false=>
    have:=a.2.2.2.2.1.2 rfl
    rw[this];simp[Qp,uC]
  | str s=>
   have:=a.2.2.1.2 ⟨s,rfl⟩
   rw[this];simp[Qp,uC]
  | list l=>
   have:=a.2.1.2 ⟨l,rfl⟩
   rw[this];simp[Qp,uC]
  | obj l=>
   have:=a.1.2 ⟨l,rfl⟩
   rw[this];simp[Qp,uC]
theorem vD.op{d:List Ref.Node}{h:Int}{x:Option V}(r:vD d h x):(opV x=none/\(h<0\/kindOf d h≠3))\/∃s,opV x=some s/\0<=h/\kindOf d h=3/\textOf d h=s:=by
 rcases r with ⟨rfl,rfl⟩|⟨v,k,rfl,rfl,hr⟩
 ·left;exact⟨rfl,.inl (by decide)⟩
 ·have a:=KX hr
  cases v with
  | str s=>right;exact⟨s,rfl,by omega,a.2.2.1.2 ⟨s,rfl⟩,a.2.2.2.2.2 s rfl⟩
  | word b=>left;exact⟨rfl,.inr (λe=>by obtain⟨s,c⟩:=a.2.2.1.1 e;cases c)⟩
  | list l=>left;exact⟨rfl,.inr (λe=>by obtain⟨s,c⟩:=a.2.2.1.1 e;cases c)⟩
  | obj l=>left;exact⟨rfl,.inr (λe=>by obtain⟨s,c⟩:=a.2.2.1.1 e;cases c)⟩
theorem GZ{a:List Ref.Node}{k:Nat}{n:Ref.Node}{v:V}(h:Rep a k v)(b:a[k]?=some n):ZT a n=xm v:=by
 by_cases ho:∃ms,v = .obj ms
 ·obtain⟨ms,rfl⟩:=ho;have j:vD a (zn n bOp) (zl ms bOp):=QQ h b bOp;have l:vD a (zn n zI) (zl ms zI):=QQ h b zI;have m:vD a (zn n bNo) (zl ms bNo):=QQ h b bNo;have o:vD a (zn n zG) (zl ms zG):=QQ h b zG;have g:=o.strings;obtain⟨c,d⟩:=m.noT;show ZT a n=YJ ms;unfold ZT YJ;rw[ak h b,ak h b,g,c,d]
  rcases j.op with ⟨e1,c1⟩|⟨s1,e1,a1,b1,t1⟩
  ·rw[zb (by rcases c1 with c1|c1;exact .inl c1;exact .inr (.inr (.inl c1))),e1]
  rcases l.op with ⟨e2,c2⟩|⟨s2,e2,a2,b2,t2⟩
  ·rw[zb (by rcases c2 with c2|c2;exact .inr (.inl c2);exact .inr (.inr (.inr c2))),e1,e2]
  rw[za (by omega),e1,e2,t1,t2]
 ·have f:∀ms,v ≠ .obj ms:=λms e=>ho ⟨ms,e⟩;have i:=(Uv h b f bOp).1;unfold ZT;rw[zb (.inl (by rw[i];decide))]
  cases v with
  | obj ms=>exact absurd rfl (f ms)
  | _=>rfl
theorem oI(b:List Ref.Node):∀(a:List V) (ks:List Nat),ks.length=a.length->(∀(j k:Nat) (v:V),ks[j]?=some k->a[j]?=some v->Rep b k v)->yD b ks=a.map xm
 | [],[],_,_=>rfl
 | [],k::ks,hl,_=>by simp at hl
 | v::a,[],hl,_=>by simp at hl
 | v::a,k::ks,hl,h=>by
  have c:=h 0 k v rfl rfl;have e:=oI b a ks (by simpa using hl) (λj i x f g=>h (j+1) i x (by simpa using f) (by simpa using g));unfold yD at e |-;rw[yK,yK,e];obtain⟨n,d⟩:=UL c;rw[d];simp only;rw[GZ c d]
theorem vD.conds{e:List Ref.Node}{h:Int}{x:Option V}(r:vD e h x):Xm e h=xG x:=by
 rcases r with ⟨rfl,rfl⟩|⟨v,k,rfl,rfl,hr⟩
 ·unfold Xm;rw[zb (by decide)];rfl
 ·unfold Xm;rw[za (by omega),show ((k:Int)).toNat=k by simp]
  cases hr with
  | str _ n s d a i=>rw[d];simp[a,xG]
  | word _ n b d a=>rw[d];cases b<;>simp at a<;>simp[a,xG]
  | obj _ n ms d a=>rw[d];simp[a,xG]
  | list _ n g d a i f l j=>
   rw[d];simp only[xG];rw[a,f,oI e g n.kids f j]
   by_cases c:5<g.length
   ·rw[zb (.inr c),zb c]
   ·rw[za (by omega),za c]
structure qh where
 eff:BY
 who:Bool×List BY
 act:Bool×List BY
 on:Bool×List BY
 cs:List qD
 sh:Bool
 pt:Bool
def zK:BY:=⟨#[101,102,102,101,99,116]⟩
def zR:BY:=⟨#[119,104,111]⟩
def bDo:BY:=⟨#[100,111]⟩
def bOn:BY:=⟨#[111,110]⟩
def bIf:BY:=⟨#[105,102]⟩
def yX:BY:=⟨#[115,116,97,116,101,109,101,110,116]⟩
def ym(s:BY):Bool:=(s.toList==[97,108,108,111,119])||(s.toList==[100,101,110,121])
def vg:qh:=⟨⟨#[]⟩,(false,[]),(false,[]),(false,[]),[],true,false⟩
def chD(c:Bool×Option (List BY)):Bool×List BY:=(c.1,c.2.getD [])
def chP(c:Bool×Option (List BY)):Bool:=!((c.2.getD []).all qi)
def Ye(eff:BY)(a b c:Bool×Option (List BY))(cs:U5):qh:=
 ⟨eff,chD a,chD b,chD c,cs.cs,!ym eff || !a.2.isSome || !b.2.isSome || !c.2.isSome||cs.sh,chP a||chP b||chP c||cs.pt⟩
def ZF(a:List Ref.Node)(n:Ref.Node):qh:=
 if yR n [zK,zR,bDo,bOn,bIf]=false\/zn n zK<0\/kindOf a (zn n zK)≠3 then vg
 else Ye (textOf a (zn n zK)) (yY a (zn n zR)) (yY a (zn n bDo)) (yY a (zn n bOn)) (Xm a (zn n bIf))
def YU(ms:List (BY×V)):qh:=match qg ms [zK,zR,bDo,bOn,bIf],opV (zl ms zK) with
 | true,some eff=>Ye eff (vK (zl ms zR)) (vK (zl ms bDo)) (vK (zl ms bOn)) (xG (zl ms bIf))
 | _,_=>vg
def x8:V->qh
 | .obj ms=>YU ms
 | _=>vg
theorem zbX{a:List Ref.Node}{k:Nat}{n:Ref.Node}{v:V}(h:Rep a k v)(b:a[k]?=some n):ZF a n=x8 v:=by
 by_cases ho:∃ms,v = .obj ms
 ·obtain⟨ms,rfl⟩:=ho;have f:vD a (zn n zK) (zl ms zK):=QQ h b zK;have g:vD a (zn n zR) (zl ms zR):=QQ h b zR;have i:vD a (zn n bDo) (zl ms bDo):=QQ h b bDo;have j:vD a (zn n bOn) (zl ms bOn):=QQ h b bOn;have l:vD a (zn n bIf) (zl ms bIf):=QQ h b bIf;show ZF a n=YU ms;unfold ZF YU;rw[ak h b,g.choice,i.choice,j.choice,l.conds]
  cases ho:qg ms [zK,zR,bDo,bOn,bIf] with
  | false=>rw[zb (.inl rfl)]
  | true=>
   rcases f.op with ⟨e1,c1⟩|⟨s1,e1,a1,b1,t1⟩
   ·rw[zb (.inr c1),e1]
   ·rw[za (by simp;omega),e1,t1]
 ·have c:∀ms,v ≠ .obj ms:=λms e=>ho ⟨ms,e⟩;have d:=(Uv h b c zK).1;unfold ZF;rw[zb (.inr (.inl (by rw[d];decide)))]
  cases v with
  | obj ms=>exact absurd rfl (c ms)
  | _=>rfl
def ZV:List qh->Nat->Int×Nat
 | [],_=>(0,0)
 | r::rs,i=>if r.sh then (5,i+1) else if r.pt then (6,i+1) else ZV rs (i+1)
def ug:V->Int×Nat
 | .obj ms=>match zl ms yX with
  | some (.list vs)=>if ms.length≠1\/vs.length<1\/10<vs.length then (5,0) else ZV (vs.map x8) 0
  | _=>(5,0)
 | _=>(5,0)
def kr(a:List Ref.Node)(ks:List Nat):List qh:=ks.map λk=>match a[k]? with
 | some n=>ZF a n
 | none=>vg
def Ul(a:List Ref.Node)(root:Nat):Int×Nat:=match a[root]? with
 | none=>(5,0)
 | some r=>if r.kind≠1\/r.names.length≠1\/zn r yX<0 then (5,0) else match a[(zn r yX).toNat]? with
  | none=>(5,0)
  | some n=>if n.kind≠2\/n.kids.length<1\/10<n.kids.length then (5,0) else ZV (kr a n.kids) 0
theorem iO(b:List Ref.Node):∀(a:List V) (ks:List Nat),ks.length=a.length->(∀(j k:Nat) (v:V),ks[j]?=some k->a[j]?=some v->Rep b k v)->kr b ks=a.map x8
 | [],[],_,_=>rfl
 | [],k::ks,hl,_=>by simp at hl
 | v::a,[],hl,_=>by simp at hl
 | v::a,k::ks,hl,h=>by
  have c:=h 0 k v rfl rfl;have e:=iO b a ks (by simpa using hl) (λj i x f g=>h (j+1) i x (by simpa using f) (by simpa using g));unfold kr at e |-;rw[yK,yK,e];obtain⟨n,d⟩:=UL c;rw[d];simp only;rw[zbX c d]
theorem Li{g:List Ref.Node}{k:Nat}{v:V}(h:Rep g k v):Ul g k=ug v:=by
 obtain⟨r,f⟩:=UL h;have l:=KX h;have m:kindOf g k=r.kind:=by unfold kindOf;rw[show ((k:Int)).toNat=k by simp,f]
 rw[m] at l;unfold Ul;rw[f];simp only
 by_cases ho:∃ms,v = .obj ms
 ·obtain⟨ms,rfl⟩:=ho;have a:=l.1.2 ⟨ms,rfl⟩
  have w:r.names.length=ms.length:=by
   cases h with
   | obj _ A _ a d p=>rw[f] at a;injection a with a;subst a;rw[p];simp
  rw[w];unfold ug;simp only
  rcases QQ h f yX with ⟨e,c⟩|⟨x,j,e,c,hx⟩
  ·rw[zb (.inr (.inr (by rw[c];decide))),e]
  ·rw[e,c]
   by_cases c1:ms.length=1
   ·rw[za (by omega),show (((j:Nat):Int)).toNat=j by simp]
    cases hx with
    | str _ n s a d p=>rw[a];simp[d]
    | word _ n b a d=>rw[a];cases b<;>simp at d<;>simp[d]
    | obj _ n ms a d=>rw[a];simp[d]
    | list _ n i q t y o z u=>
     rw[q];simp only;rw[t,o,iO g i n.kids o u]
     by_cases c2:i.length<1\/10<i.length
     ·rw[zb (.inr c2),zb (.inr c2)]
     ·rw[za (by omega),za (by omega)]
   ·rw[zb (.inr (.inl c1))]
    cases x with
    | list i=>simp only;rw[zb (.inl c1)]
    | _=>rfl
 ·rw[zb (.inl (λe=>ho (l.1.1 e)))]
  cases v with
  | obj ms=>exact absurd ⟨ms,rfl⟩ ho
  | _=>rfl
def cls(sh pt:Bool):Nat:=if sh then 1 else if pt then 2 else 0
def qI(l:List Nat):Nat:=if l.any (λc=>c==1) then 1 else if l.any (λc=>c==2) then 2 else 0
theorem GL(sh pt:Bool):(cls sh pt==1)=sh:=by cases sh<;>cases pt<;>rfl
theorem GM(pt:Bool):(cls false pt==2)=pt:=by cases pt<;>rfl
theorem Ur:∀(l:List (Bool×Bool)),qI (l.map λx=>cls x.1 x.2)=cls (l.any Prod.fst) (l.any Prod.snd):=by
 intro l
 have b:(l.map λx=>cls x.1 x.2).any (λc=>c==1)=l.any Prod.fst:=by
  rw[Xc];exact congrArg (λf=>l.any f) (funext λx=>GL x.1 x.2)
 unfold qI;rw[b]
 cases h:l.any Prod.fst with
 | true=>rfl
 | false=>
  have d:(l.map λx=>cls x.1 x.2).any (λc=>c==2)=l.any Prod.snd:=by
   rw[JO] at h;clear b
   induction l with
   | nil=>rfl
   | cons a r i=>
    have e:a.1=false:=by have:=h a (by simp);simpa using this
    rw[yK,JN,JN,i (λx g=>h x (by simp[g])),e,GM]
  rw[d]
  rfl
theorem su(c:Nat)(h:c<=2):qI [c]=c:=by
 have:c=0\/c=1\/c=2:=by omega
 rcases this with rfl|rfl|rfl<;>rfl
theorem oo(sh pt:Bool):cls sh pt<=2:=by cases sh<;>cases pt<;>decide
theorem Ve(l:List Nat):qI l<=2:=by unfold qI;split;decide;split<;>decide
def qL(c:Option V->Nat):Option V->Nat
 | some (.list vs)=>if vs.length<1\/10<vs.length then 1 else qI (vs.map λv=>c (some v))
 | x=>qI [c x]
def qU(f:Option V->BY):Option V->List BY
 | some (.list vs)=>if vs.length<1\/10<vs.length then [] else vs.map λv=>f (some v)
 | x=>[f x]
def strOf:Option V->BY
 | some (.str s)=>s
 | _=>⟨#[]⟩
def jQ:Option V->Nat
 | some (.str s)=>cls false (!qi s)
 | _=>1
def qa(f:BY->Bool):Option V->Nat
 | some (.str s)=>cls (!f s) false
 | _=>1
def xg(f:BY->Bool):Option V->BY
 | some (.str s)=>if f s then s else ⟨#[]⟩
 | _=>⟨#[]⟩
theorem UR:∀(a:List V),(∃l,vP a=some l/\a=l.map .str)\/(vP a=none/\∃v ∈ a,∀s,v ≠ .str s)
 | [] => .inl ⟨[],rfl,rfl⟩
 | v::a=>by
  cases v with
  | str s=>
   rcases UR a with ⟨l,h1,h2⟩|⟨h1,v,hv,h2⟩
   ·left;exact⟨s::l,by simp[vP,h1],by simp[h2]⟩
   ·right;exact⟨by simp[vP,h1],v,by simp[hv],h2⟩
  | word b=>right;exact⟨rfl,.word b,by simp,λs e=>by cases e⟩
  | list l=>right;exact⟨rfl,.list l,by simp,λs e=>by cases e⟩
  | obj l=>right;exact⟨rfl,.obj l,by simp,λs e=>by cases e⟩
theorem Us{l:List Nat}(h:1 ∈ l):qI l=1:=by
 unfold qI;rw[zb];rw[Qy];exact⟨1,h,rfl⟩
theorem NQ(f:BY->Bool)(l:List BY):qI (l.map λs=>cls false (!f s))=cls false (!l.all f):=by
 have:=Ur (l.map λs=>(false,!f s))
 rw[kM] at this;have e:((λx:Bool×Bool=>cls x.1 x.2) ∘ λs=>(false,!f s))=λs=>cls false (!f s):=rfl;rw[e] at this;rw[this];have a:(l.map λs=>(false,!f s)).any Prod.fst=false:=by rw[Xc,JO];intro x _;simp
 have b:(l.map λs=>(false,!f s)).any Prod.snd = !l.all f:=by rw[Xc,List.not_all_eq_any_not];rfl
 rw[a,b]
theorem NR(f:BY->Bool)(l:List BY):qI (l.map λs=>cls (!f s) false)=cls (!l.all f) false:=by
 have:=Ur (l.map λs=>(!f s,false))
 rw[kM] at this;have e:((λx:Bool×Bool=>cls x.1 x.2) ∘ λs=>(!f s,false))=λs=>cls (!f s) false:=rfl;rw[e] at this;rw[this];have a:(l.map λs=>(!f s,false)).any Prod.snd=false:=by rw[Xc,JO];intro x _;simp
 have b:(l.map λs=>(!f s,false)).any Prod.fst = !l.all f:=by rw[Xc,List.not_all_eq_any_not];rfl
 rw[a,b]
theorem Vs(x:Option V):qL jQ x=cls (!(zL x).isSome) (!((zL x).getD []).all qi):=by
 have a:∀x:Option V,zL x=none->jQ x=1->(∀d,x≠some (.list d))->qL jQ x=cls (!(zL x).isSome) (!((zL x).getD []).all qi):=by
  intro x h e f;rw[h];unfold qL
  split
  ·rename_i d;exact absurd rfl (f d)
  ·rw[e];rfl
 match x with
 | none=>exact a none rfl rfl (by simp)
 | some (.word b)=>exact a _ rfl rfl (by simp)
 | some (.obj ms)=>exact a _ rfl rfl (by simp)
 | some (.str s)=>
  show qI [jQ (some (.str s))]=_;simp only[jQ,zL,yB,uw,U9,List.all_nil,Y0,U4];exact su _ (oo _ _)
 | some (.list d)=>
  simp only[qL,zL]
  by_cases c:d.length<1\/10<d.length
  ·rw[zb c,zb c];rfl
  ·rw[za c,za c]
   rcases UR d with ⟨l,e,rfl⟩|⟨e,v,hv,f⟩
   ·rw[e,kM];exact NQ qi l
   ·rw[e];rw[Us]
    ·rfl
    ·rw[yf];refine⟨v,hv,?_⟩
     cases v with
     | str s=>exact absurd rfl (f s)
     | _=>rfl
theorem ai(f:BY->Bool)(x:Option V):qL (qa f) x=cls (!(zL x).isSome || !((zL x).getD []).all f) false:=by
 have a:∀x:Option V,zL x=none->qa f x=1->(∀d,x≠some (.list d))->qL (qa f) x=cls (!(zL x).isSome || !((zL x).getD []).all f) false:=by
  intro x h e g;rw[h];unfold qL
  split
  ·rename_i d;exact absurd rfl (g d)
  ·rw[e];rfl
 match x with
 | none=>exact a none rfl rfl (by simp)
 | some (.word b)=>exact a _ rfl rfl (by simp)
 | some (.obj ms)=>exact a _ rfl rfl (by simp)
 | some (.str s)=>
  show qI [qa f (some (.str s))]=_;simp only[qa,zL,yB,uw,U9,List.all_nil,Y0,U4,Xa];exact su _ (oo _ _)
 | some (.list d)=>
  simp only[qL,zL]
  by_cases c:d.length<1\/10<d.length
  ·rw[zb c,zb c];rfl
  ·rw[za c,za c]
   rcases UR d with ⟨l,e,rfl⟩|⟨e,v,hv,g⟩
   ·rw[e,kM];exact NR f l
   ·rw[e];rw[Us]
    ·rfl
    ·rw[yf];refine⟨v,hv,?_⟩
     cases v with
     | str s=>exact absurd rfl (g s)
     | _=>rfl
theorem Ay(x:Option V)(h:(zL x).isSome):qU strOf x=(zL x).getD []:=by
 match x with
 | none=>simp[zL] at h
 | some (.word b)=>simp[zL] at h
 | some (.obj ms)=>simp[zL] at h
 | some (.str s)=>rfl
 | some (.list vs)=>
  simp only[qU,zL] at h |-
  by_cases c:vs.length<1\/10<vs.length
  ·rw[zb c] at h;simp at h
  ·rw[za c] at h |-;rw[za c]
   rcases UR vs with ⟨l,h1,rfl⟩|⟨h1,v,hv,h2⟩
   ·rw[h1,kM];exact List.map_id' l
   ·rw[h1] at h;simp at h
theorem TE(f:BY->Bool)(x:Option V)(h:(zL x).isSome)(a:((zL x).getD []).all f=true):qU (xg f) x=(zL x).getD []:=by
 match x with
 | none=>simp[zL] at h
 | some (.word b)=>simp[zL] at h
 | some (.obj ms)=>simp[zL] at h
 | some (.str s)=>
  simp only[zL,yB,U9,List.all_nil,Y0] at a;simp[qU,xg,a,zL]
 | some (.list vs)=>
  simp only[qU,zL] at h a |-
  by_cases c:vs.length<1\/10<vs.length
  ·rw[zb c] at h;simp at h
  ·rw[za c] at h a |-;rw[za c]
   rcases UR vs with ⟨l,h1,rfl⟩|⟨h1,v,hv,h2⟩
   ·rw[h1] at a |-;rw[kM];simp only[yB] at a |-
    have:∀s ∈ l,((λv=>xg f (some v)) ∘ V.str) s=s:=by
     intro s d;rw[ZM] at a;simp[xg,a s d]
    rw[Y8 this];exact List.map_id' l
   ·rw[h1] at h;simp at h
inductive Good (L:Nat):V->Prop
 | str (s:BY):s.size<=L->Good L (.str s)
 | word (b:Bool):Good L (.word b)
 | list (vs:List V):vs.length<=L->(∀v ∈ vs,Good L v)->Good L (.list vs)
 | obj (ms:List (BY×V)):ms.length<=L->(ms.map λm=>m.1.toList).Nodup->(∀m ∈ ms,m.1.size<=L)->(∀m ∈ ms,Good L m.2)->Good L (.obj ms)
theorem lG{l:List UInt8}:∀{r:List Nat} {p q:Nat} {u:Unit},qm l r p = .ok u q->(∀b ∈ r,b≠0)->p<=l.length->p<=q/\q<=l.length
 | [],p,q,u,h,_,hp=>by
  rw[qm] at h;injection h with h1 h2
  omega
 | b::r,p,q,u,h,hb,hp=>by
  rw[qm] at h
  split at h
  ·rename_i c;have e:b≠0:=hb b (by simp);have a:=qo l p (by omega)
   have:=lG h (λx d=>hb x (by simp[d])) (by omega)
   omega
  ·cases h
theorem rZ(l:List UInt8):∀(f:Nat),
  (∀d p v q,qx l f d p = .ok v q->Good l.length v/\p<q/\q<=l.length) /\
  (∀d p acc v q,ZX l f d p acc = .ok v q->acc.length<=p->(∀x ∈ acc,Good l.length x)->Good l.length v/\p<q/\q<=l.length) /\
  (∀d p acc v q,ZY l f d p acc = .ok v q->acc.length<=p->(acc.map λm=>m.1.toList).Nodup->(∀x ∈ acc,x.1.size<=l.length/\Good l.length x.2)->Good l.length v/\p<q/\q<=l.length)
 | 0=>by
  refine⟨λd p v q h=>?_,λd p acc v q h=>?_,λd p acc v q h=>?_⟩
  ·rw[qx] at h;cases h
  ·rw[ZX] at h;cases h
  ·rw[ZY] at h;cases h
 | f+1=>by
  obtain⟨w,t,u⟩:=rZ l f;refine⟨λd p v q h=>?_,λd p acc v q h z C=>?_,λd p acc v q h z K C=>?_⟩
  ·rw[qx] at h;have L:=jB l (p+1)
   by_cases c1:zi l p=123
   ·rw[zb c1] at h
    split at h
    ·cases h
    split at h
    ·rename_i k;injection h with h1 h2
     subst h1
     have:=qo l (skip l (p+1)) (by omega)
     exact⟨.obj [] (zH _) (by simp) (by simp) (by simp),by omega,by omega⟩
    ·obtain⟨a,b,c⟩:=u _ _ _ _ _ h (by simp) (by simp) (by simp);exact⟨a,by omega,c⟩
   rw[za c1] at h
   by_cases c2:zi l p=91
   ·rw[zb c2] at h
    split at h
    ·cases h
    split at h
    ·rename_i k;injection h with h1 h2
     subst h1
     have:=qo l (skip l (p+1)) (by omega)
     exact⟨.list [] (zH _) (by simp),by omega,by omega⟩
    ·obtain⟨a,b,c⟩:=t _ _ _ _ _ h (by simp) (by simp);exact⟨a,by omega,c⟩
   rw[za c2] at h
   by_cases c3:zi l p=34
   ·rw[zb c3] at h;have n:jb l p=ku l (p+1):=by unfold jb;rw[zb c3]
    cases hs:ku l (p+1) with
    | err c g=>rw[hs] at h;cases h
    | ok s g=>
     rw[hs] at h;injection h with h1 h2
     subst h1;subst h2;rw[hs] at n;have H:=aB n;have G:=aC n;exact⟨.str s (by omega),by omega,G⟩
   rw[za c3] at h
   by_cases c4:zi l p=116
   ·rw[zb c4] at h;have D:=qo l p (by omega)
    cases hw:qm l [114,117,101] (p+1) with
    | err c g=>rw[hw] at h;cases h
    | ok s g=>
     rw[hw] at h;injection h with h1 h2
     subst h1;subst h2
     have:=lG hw (by decide) (by omega)
     exact⟨.word true,by omega,this.2⟩
   rw[za c4] at h
   by_cases c5:zi l p=102
   ·rw[zb c5] at h;have D:=qo l p (by omega)
    cases hw:qm l [97,108,115,101] (p+1) with
    | err c g=>rw[hw] at h;cases h
    | ok s g=>
     rw[hw] at h;injection h with h1 h2
     subst h1;subst h2
     have:=lG hw (by decide) (by omega)
     exact⟨.word false,by omega,this.2⟩
   rw[za c5] at h
   cases h
  ·rw[ZX] at h
   cases hv:qx l f (d+1) p with
   | err c g=>rw[hv] at h;cases h
   | ok x g=>
    rw[hv] at h;simp only at h;obtain⟨B,I,J⟩:=w _ _ _ _ hv;have N:=jB l g
    have i:∀y ∈ acc++[x],Good l.length y:=by
     intro y j
     rcases jE.1 j with j|j
     ·exact C y j
     ·simp only[xX] at j;subst j;exact B
    split at h
    ·have O:=jB l (skip l g+1);obtain⟨a,b,c⟩:=t _ _ _ _ _ h (by simp;omega) i;exact⟨a,by omega,c⟩
    split at h
    ·rename_i k;injection h with h1 h2
     subst h1
     have:=qo l (skip l g) (by omega)
     exact⟨.list _ (by simp;omega) i,by omega,by omega⟩
    ·cases h
  ·rw[ZY] at h
   split at h
   ·cases h
   rename_i c3;have A:zi l p=34:=by omega
   have n:jb l p=ku l (p+1):=by unfold jb;rw[zb A]
   cases hs:ku l (p+1) with
   | err c g=>rw[hs] at h;cases h
   | ok s F=>
    rw[hs] at h;rw[hs] at n;simp only at h;have H:=aB n;have G:=aC n
    split at h
    ·cases h
    rename_i E
    split at h
    ·cases h
    cases hv:qx l f (d+1) (skip l (skip l F+1)) with
    | err c g=>rw[hv] at h;cases h
    | ok x g=>
     rw[hv] at h;simp only at h;obtain⟨B,I,J⟩:=w _ _ _ _ hv;have P:=jB l F;have M:=jB l (skip l F+1);have N:=jB l g
     have i:∀y ∈ acc++[(s,x)],y.1.size<=l.length/\Good l.length y.2:=by
      intro y j
      rcases jE.1 j with j|j
      ·exact C y j
      ·simp only[xX] at j;subst j;exact⟨by simp only;omega,B⟩
     have r:((acc++[(s,x)]).map λm=>m.1.toList).Nodup:=by
      rw[Qc,List.nodup_append];refine⟨K,by simp,?_⟩;intro a z b hb;simp only[yK,kQ,xX] at hb;subst hb;rw[yf] at z;obtain⟨m,o,rfl⟩:=z;intro e;apply E;rw[Qy];exact⟨m,o,by simp[e]⟩
     split at h
     ·have O:=jB l (skip l g+1);obtain⟨a,b,c⟩:=u _ _ _ _ _ h (by simp;omega) r i;exact⟨a,by omega,c⟩
     split at h
     ·rename_i k;injection h with h1 h2
      subst h1
      have:=qo l (skip l g) (by omega)
      exact⟨.obj _ (by simp;omega) r (λm o=>(i m o).1) (λm o=>(i m o).2),by omega,by omega⟩
     ·cases h
theorem aG{l:List UInt8}{v:V}{q:Nat}(h:yS l = .ok v q):Good l.length v:=by
 unfold yS at h
 cases hv:qx l (2*l.length+1) 1 (skip l 0) with
 | err c a=>rw[hv] at h;cases h
 | ok x a=>
  rw[hv] at h;simp only at h
  split at h
  ·cases h
  ·injection h with h1 h2
   subst h1;exact ((rZ l _).1 _ _ _ _ hv).1
def chC:Option V->Nat
 | some (.obj ms)=>if qg ms [qR] then qL jQ (zl ms qR) else 1
 | x=>qL jQ x
theorem Kw{L:Nat}(x:Option V)(h:∀v,x=some v->Good L v):chC x=cls (!(vK x).2.isSome) (chP (vK x)):=by
 match x with
 | none=>exact Vs none
 | some (.word b)=>exact Vs (some (.word b))
 | some (.str s)=>exact Vs (some (.str s))
 | some (.list vs)=>exact Vs (some (.list vs))
 | some (.obj ms)=>
  simp only[chC,vK]
  by_cases c:qg ms [qR]=true
  ·rw[zb c];have a:=h _ rfl
   cases a with
   | obj _ f d g i=>
    match ms with
    | []=>rfl
    | [m]=>
     have e:(m.1.toList==qR.toList)=true:=by
      simp[qg] at c;simp[c]
     rw[zb ⟨c,rfl⟩];have a:zl [m] qR=some m.2:=by unfold zl;rw[VS,e];rfl
     rw[a];exact Vs _
    | m::m'::r=>
     exfalso;simp[qg] at c;simp only[yK,List.nodup_cons,kR,not_or] at d;exact d.1.1 (by rw[<- c.1,<- c.2.1])
  ·rw[za c,za (λe=>c e.1)]
   rfl
def short(s:BY):Bool:=decide (s.size<=60)
def filled(s:BY):Bool:=!s.toList.isEmpty&&short s
def jO(op:BY):Bool:=op.toList==[115,97,109,101]
def jN(op:BY):Bool:=op.toList==[98,101,108,111,119]
def QS(op:BY):Bool:=op.toList==[117,110,100,101,114]
def yG(op:BY)(x:Option V):Nat:=
 if qX op then qL jQ x
 else if jO op then qL (qa short) x
 else if jN op then qL (qa qF) x
 else if QS op then qL (qa filled) x
 else if x.isNone then 0 else 1
def uj(op:BY)(x:Option V):List BY:=
 if qX op then qU strOf x
 else if jO op then qU (xg short) x
 else if jN op then qU (xg qF) x
 else if QS op then qU (xg filled) x
 else []
theorem Kr{f g:BY->Bool}(h:∀s,f s=g s)(l:List BY):l.all f=l.all g:=by rw[show f=g from funext h]
theorem wu(op:BY)(x:Option V)(h:Zd op=true):yG op x=cls (!(zL x).isSome || !Zv op ((zL x).getD [])) (qX op && !((zL x).getD []).all qi):=by
 unfold yG Zv;rw[h,Y0]
 by_cases c1:qX op=true
 ·rw[zb c1];have e:op.toList=[108,105,107,101]:=by simpa [qX] using c1
  have a:∀s,uq op s=true:=by intro s;unfold uq;rw[e];rfl
  rw[Kr a,c1,Vs,show ((zL x).getD []).all (λ_=>true)=true from by simp]
  simp
 rw[za c1];have b:qX op=false:=by simpa using c1
 rw[b,uJ]
 by_cases c2:jO op=true
 ·rw[zb c2];have e:op.toList=[115,97,109,101]:=by simpa [jO] using c2
  have a:∀s,uq op s=short s:=by intro s;unfold uq;rw[e];rfl
  rw[Kr a,ai]
 rw[za c2]
 by_cases c3:jN op=true
 ·rw[zb c3];have e:op.toList=[98,101,108,111,119]:=by simpa [jN] using c3
  have a:∀s,uq op s=qF s:=by intro s;unfold uq;rw[e];rfl
  rw[Kr a,ai]
 rw[za c3]
 by_cases c4:QS op=true
 ·rw[zb c4];have e:op.toList=[117,110,100,101,114]:=by simpa [QS] using c4
  have a:∀s,uq op s=filled s:=by
   intro s;unfold uq;rw[e];show (decide (s.size<=60) && !s.toList.isEmpty)=(!s.toList.isEmpty&&short s);rw[Bool.and_comm]
   rfl
  rw[Kr a,ai]
 exfalso;unfold Zd at h;unfold qX at c1;unfold jO at c2;unfold jN at c3;unfold QS at c4;simp only[bF] at h
 rcases h with ((h|h)|h)|h
 ·exact c2 h
 ·exact c4 h
 ·exact c3 h
 ·exact c1 h
theorem TM(ms:List (BY×V)):qg ms [bOp,zI,zG,bNo]=qg ms [bOp,zI,bNo,zG]:=by
 unfold qg;refine congrArg (λf=>ms.all f) (funext λm=>?_);simp only[JN,List.any_nil,Zl];rw[Bool.or_comm (zG.toList==m.1.toList) (bNo.toList==m.1.toList)]
theorem AA(m:BY×V)(ms:List (BY×V))(a:List BY):qg (m::ms) a=((a.any λt=>t.toList==m.1.toList)&&qg ms a):=by
 unfold qg;rw[U9]
theorem AC:∀(ms:List (BY×V)),qg ms [bOp,zI,bNo]=(qg ms [bOp,zI,bNo,zG]&&(zl ms zG).isNone)
 | []=>rfl
 | m::ms=>by
  rw[AA,AA,AC ms];unfold zl;rw[VS]
  by_cases c:(m.1.toList==zG.toList)=true
  ·rw[c];have e:m.1.toList=zG.toList:=by simpa using c
   rw[e]
   have:([bOp,zI,bNo].any λt=>t.toList==zG.toList)=false:=by kernel_rfl
   rw[this]
   simp
  ·have a:(m.1.toList==zG.toList)=false:=by simpa using c
   have c2:(zG.toList==m.1.toList)=false:=by rw[Bool.beq_comm];exact a
   rw[a];simp only[JN,List.any_nil,Zl,c2];rw[Bool.and_assoc]
def condC:V->Nat
 | .obj ms=>if qg ms [bOp,zI,zG,bNo] then (match opV (zl ms bOp) with
  | some op=>if Zd op||xJ op then qI [qa zX (zl ms zI),yG op (zl ms zG),cls (uC (zl ms bNo)) false] else 1
  | none=>1) else 1
 | _=>1
theorem si(a b c d e f:Bool):qI [cls a d,cls b e,cls c f]=cls (a||b||c) (d||e||f):=by
 have:=Ur [(a,d),(b,e),(c,f)]
 simp only[yK,kQ,JN,List.any_nil,Zl] at this;rw[this,JJ,JJ]
theorem mo(op:BY)(h:xJ op=true):Zd op=false/\qX op=false/\jO op=false/\jN op=false/\QS op=false:=by
 have e:op.toList=[97,98,115,101,110,116]:=by simpa [xJ] using h
 unfold Zd qX jO jN QS;rw[e]
 decide
theorem oz(v:V):condC v=cls (xm v).sh (xm v).pt:=by
 cases v with
 | str s=>rfl
 | word b=>rfl
 | list l=>rfl
 | obj ms=>
  simp only[condC,xm,YJ]
  cases ho:opV (zl ms bOp) with
  | none=>simp only[ite_self];rfl
  | some op=>
   simp only
   cases hk:opV (zl ms zI) with
   | none=>
    have e:qa zX (zl ms zI)=1:=by
     unfold opV at hk
     split at hk
     ·cases hk
     ·rename_i d;unfold qa
      split
      ·rename_i s c;exact absurd c (d s)
      ·rfl
    rw[e]
    have:qI [1,yG op (zl ms zG),cls (uC (zl ms bNo)) false]=1:=Us (by simp)
    rw[this];simp only[ite_self]
    rfl
   | some key=>
    have e:qa zX (zl ms zI)=cls (!zX key) false:=by
     unfold opV at hk
     split at hk
     ·rename_i s c;injection hk with hk
      subst hk;rw[c]
      rfl
     ·cases hk
    rw[e,TM]
    by_cases ca:xJ op=true
    ·obtain⟨k,g,h,i,j⟩:=mo op ca;simp only[ca,Bool.or_true,qJ];rw[AC]
     have f:yG op (zl ms zG)=cls (!(zl ms zG).isNone) false:=by
      unfold yG;rw[g,h,i,j]
      cases (zl ms zG).isNone<;>rfl
     rw[f,si]
     cases qg ms [bOp,zI,bNo,zG]<;>cases (zl ms zG).isNone<;>cases zX key<;>cases uC (zl ms bNo)<;>rfl
    ·have a:xJ op=false:=by simpa using ca
     simp only[a,Zl,yu,xV]
     cases ok:Zd op with
     | false=>
      have:Zv op ((zL (zl ms zG)).getD [])=false:=by unfold Zv;rw[ok,Bool.and_false]
      rw[this];simp only[yu,xV,ite_self,U3,Bool.or_true,VJ]
      rfl
     | true=>
      rw[wu op _ ok,si];simp only[qJ];generalize (!(zL (zl ms zG)).isSome || !Zv op ((zL (zl ms zG)).getD []))=A;generalize (qX op && !((zL (zl ms zG)).getD []).all qi)=B
      cases qg ms [bOp,zI,bNo,zG]<;>cases A<;>cases B<;>cases zX key<;>cases uC (zl ms bNo)<;>rfl
def vZ:Option V->Nat
 | none=>0
 | some (.list vs)=>if 5<vs.length then 1 else qI (vs.map condC)
 | some _=>1
theorem Hl(x:Option V):vZ x=cls (xG x).sh (xG x).pt:=by
 match x with
 | none=>rfl
 | some (.str s)=>rfl
 | some (.word b)=>rfl
 | some (.obj ms)=>rfl
 | some (.list vs)=>
  simp only[vZ,xG]
  split
  ·rfl
  ·have:=Ur (vs.map λv=>((xm v).sh,(xm v).pt))
   rw[kM] at this;have e:((λx:Bool×Bool=>cls x.1 x.2) ∘ λv=>((xm v).sh,(xm v).pt))=condC:=funext λv=>(oz v).symm;rw[e] at this;rw[this];simp only[Xc]
   rfl
def yJ:V->Nat
 | .obj ms=>if qg ms [zK,zR,bDo,bOn,bIf] then qI [qa ym (zl ms zK),chC (zl ms zR),chC (zl ms bDo),chC (zl ms bOn),vZ (zl ms bIf)] else 1
 | _=>1
theorem yP{L:Nat}{ms:List (BY×V)}(h:Good L (.obj ms))(nm:BY):∀v,zl ms nm=some v->Good L v:=by
 intro v a
 cases h with
 | obj _ d e f b=>
  unfold zl at a;obtain⟨m,c,rfl⟩:=vU.1 a;exact b m (lY c)
theorem NM(a b c d e f g h i j:Bool):qI [cls a f,cls b g,cls c h,cls d i,cls e j]=cls (a||b||c||d||e) (f||g||h||i||j):=by
 have:=Ur [(a,f),(b,g),(c,h),(d,i),(e,j)]
 simp only[yK,kQ,JN,List.any_nil,Zl] at this;rw[this];simp only[JJ]
theorem Cz{L:Nat}(v:V)(h:Good L v):yJ v=cls (x8 v).sh (x8 v).pt:=by
 cases v with
 | str s=>rfl
 | word b=>rfl
 | list l=>rfl
 | obj ms=>
  simp only[yJ,x8,YU]
  cases ho:qg ms [zK,zR,bDo,bOn,bIf] with
  | false=>rfl
  | true=>
   simp only[qJ]
   cases hk:opV (zl ms zK) with
   | none=>
    have d:qa ym (zl ms zK)=1:=by
     unfold opV at hk
     split at hk
     ·cases hk
     ·rename_i c;unfold qa
      split
      ·rename_i s a;exact absurd a (c s)
      ·rfl
    rw[d];rw[Us (by simp)]
    rfl
   | some eff=>
    have d:qa ym (zl ms zK)=cls (!ym eff) false:=by
     unfold opV at hk
     split at hk
     ·rename_i s a;injection hk with hk
      subst hk;rw[a]
      rfl
     ·cases hk
    rw[d,Kw _ (yP h zR),Kw _ (yP h bDo),Kw _ (yP h bOn),Hl,NM];simp only[Ye,Xa]
def QN:List Nat->Nat->Int×Nat
 | [],_=>(0,0)
 | c::cs,i=>if c=1 then (5,i+1) else if c=2 then (6,i+1) else QN cs (i+1)
theorem rF{L:Nat}:∀(a:List V) (i:Nat),(∀v ∈ a,Good L v)->ZV (a.map x8) i=QN (a.map yJ) i
 | [],_,_=>rfl
 | v::a,i,h=>by
  rw[yK,yK,ZV,QN,Cz v (h v (by simp)),rF a (i+1) (λx b=>h x (by simp[b]))]
  cases (x8 v).sh<;>cases (x8 v).pt<;>rfl
def xy(s:BY):Int×Nat:=
 if 4000<s.size then (1,0) else match yS s.data.toList with
  | .err e q=>(e,q)
  | .ok v _=>ug v
def Code(c:Int):Prop:=c=2\/c=3\/c=4
theorem rz(l:List UInt8):∀(f:Nat),
  (∀d p c q,qx l f d p = .err c q->Code c) /\
  (∀d p acc c q,ZX l f d p acc = .err c q->Code c) /\
  (∀d p acc c q,ZY l f d p acc = .err c q->Code c)
 | 0=>by
  refine⟨λd p c q h=>?_,λd p acc c q h=>?_,λd p acc c q h=>?_⟩
  ·rw[qx] at h;injection h with h1 h2;exact .inl h1.symm
  ·rw[ZX] at h;injection h with h1 h2;exact .inl h1.symm
  ·rw[ZY] at h;injection h with h1 h2;exact .inl h1.symm
 | f+1=>by
  obtain⟨i,b,g⟩:=rz l f;refine⟨λd p c q h=>?_,λd p acc c q h=>?_,λd p acc c q h=>?_⟩
  ·rw[qx] at h
   by_cases c1:zi l p=123
   ·rw[zb c1] at h
    split at h
    ·injection h with h1 h2;exact .inr (.inl h1.symm)
    split at h
    ·cases h
    ·exact g _ _ _ _ _ h
   rw[za c1] at h
   by_cases c2:zi l p=91
   ·rw[zb c2] at h
    split at h
    ·injection h with h1 h2;exact .inr (.inl h1.symm)
    split at h
    ·cases h
    ·exact b _ _ _ _ _ h
   rw[za c2] at h
   by_cases c3:zi l p=34
   ·rw[zb c3] at h
    cases hs:ku l (p+1) with
    | ok s a=>rw[hs] at h;cases h
    | err e a=>
     rw[hs] at h;injection h with h1 h2
     subst h1;exact .inl (aX hs)
   rw[za c3] at h
   by_cases c4:zi l p=116
   ·rw[zb c4] at h
    cases hw:qm l [114,117,101] (p+1) with
    | ok s a=>rw[hw] at h;cases h
    | err e a=>
     rw[hw] at h;injection h with h1 h2
     subst h1;exact .inl (UZ hw)
   rw[za c4] at h
   by_cases c5:zi l p=102
   ·rw[zb c5] at h
    cases hw:qm l [97,108,115,101] (p+1) with
    | ok s a=>rw[hw] at h;cases h
    | err e a=>
     rw[hw] at h;injection h with h1 h2
     subst h1;exact .inl (UZ hw)
   rw[za c5] at h;injection h with h1 h2
   exact .inl h1.symm
  ·rw[ZX] at h
   cases hv:qx l f (d+1) p with
   | err e a=>
    rw[hv] at h;injection h with h1 h2
    subst h1;exact i _ _ _ _ hv
   | ok x a=>
    rw[hv] at h;simp only at h
    split at h
    ·exact b _ _ _ _ _ h
    split at h
    ·cases h
    ·injection h with h1 h2;exact .inl h1.symm
  ·rw[ZY] at h
   split at h
   ·injection h with h1 h2;exact .inl h1.symm
   cases hs:ku l (p+1) with
   | err e a=>
    rw[hs] at h;injection h with h1 h2
    subst h1;exact .inl (aX hs)
   | ok s j=>
    rw[hs] at h;simp only at h
    split at h
    ·injection h with h1 h2;exact .inr (.inr h1.symm)
    split at h
    ·injection h with h1 h2;exact .inl h1.symm
    cases hv:qx l f (d+1) (skip l (skip l j+1)) with
    | err e a=>
     rw[hv] at h;injection h with h1 h2
     subst h1;exact i _ _ _ _ hv
    | ok x a=>
     rw[hv] at h;simp only at h
     split at h
     ·exact g _ _ _ _ _ h
     split at h
     ·cases h
     ·injection h with h1 h2;exact .inl h1.symm
theorem aF{l:List UInt8}{c:Int}{q:Nat}(h:yS l = .err c q):Code c:=by
 unfold yS at h
 cases hv:qx l (2*l.length+1) 1 (skip l 0) with
 | err e a=>
  rw[hv] at h;injection h with h1 h2
  subst h1;exact (rz l _).1 _ _ _ _ hv
 | ok x a=>
  rw[hv] at h;simp only at h
  split at h
  ·injection h with h1 h2;exact .inl h1.symm
  ·cases h
theorem zbP(v:V):yJ v<=2:=by
 cases v with
 | obj ms=>simp only[yJ];split;exact Ve _;decide
 | _=>simp[yJ]
theorem rG:∀(cs:List Nat) (i:Nat),(∀c ∈ cs,c=0)->QN cs i=(0,0)
 | [],_,_=>rfl
 | c::cs,i,h=>by
  have b:=h c (by simp);rw[QN,za (by omega),za (by omega)];exact rG cs _ (λx a=>h x (by simp[a]))
theorem rH:∀(cs:List Nat) (i k:Nat),(a:k<cs.length)->(∀j,(h:j<k)->cs[j]=0)->cs[k]≠0->cs[k]<=2->QN cs i=(if cs[k]=1 then 5 else 6,i+k+1)
 | [],_,k,a,_,_,_=>by simp at a
 | c::cs,i,0,a,_,h1,h2=>by
  simp only[lW] at h1 h2 |-;rw[QN]
  by_cases e:c=1
  ·rw[zb e,zb e]
  ·rw[za e,zb (by omega),za e]
 | c::cs,i,k+1,a,h0,h1,h2=>by
  have b:c=0:=h0 0 (by omega);simp only[List.getElem_cons_succ] at h1 h2 |-;rw[QN,za (by omega),za (by omega),rH cs (i+1) k (by simpa using a) (λj d=>by have:=h0 (j+1) (by omega);simpa using this) h1 h2];have e:i+1+k+1=i+(k+1)+1:=by omega
  rw[e]
end Rd
end Go.Proofs.YtdakgnaojakldaaGreatDoor
