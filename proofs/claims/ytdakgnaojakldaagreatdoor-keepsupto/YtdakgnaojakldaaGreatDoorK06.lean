/- P -/
import Derived.Test.YtdakgnaojakldaaGreatDoorK05
import Derived.KernelRfl
set_option maxRecDepth 100000
namespace Go.Proofs.YtdakgnaojakldaaGreatDoor
namespace Rd
open Ref
def zl(ms:List (BY×V))(nm:BY):Option V:=(ms.find? λm=>m.1.toList==nm.toList).map Prod.snd
def jO:List V->Option (List BY)
 | []=>some []
 | .str s::vs=>(jO vs).map λl=>s::l
 | _::_=>none
def zG:Option V->Option (List BY)
 | some (.str s)=>some [s]
 | some (.list vs)=>if vs.length<1\/10<vs.length then none else jO vs
 | _=>none
def qd(ms:List (BY×V))(names:List BY):Bool:=ms.all λm=>names.any λt=>t.toList==m.1.toList
def jJ:Option V->Bool×Option (List BY)
 | some (.obj ms)=>if qd ms [qL]=true/\ms.length=1 then (true,zG ((ms.map Prod.snd)[0]?)) else (false,none)
 | x=>(false,zG x)
def opV(x:Option V):Option BY:=match x with
 | some (.str s)=>some s
 | _=>none
def Zp:Option V->Bool
 | some (.word b)=>b
 | _=>false
def vG:Option V->Bool
 | none=>false
 | some (.word _)=>false
 | _=>true
def Xi(ms:List (BY×V)):qf:=match opV (zl ms bOp),opV (zl ms zC) with
 | some op,some key=>
  if xN op then ⟨op,key,[],Zp (zl ms bNo),vG (zl ms bNo) || !qg key || !qd ms [bOp,zC,bNo],false⟩
  else ⟨op,key,(zG (zl ms zA)).getD [],Zp (zl ms bNo),
   vG (zl ms bNo)||(!(zG (zl ms zA)).isSome || !Zl op ((zG (zl ms zA)).getD [])) || !qg key || !qd ms [bOp,zC,bNo,zA],
   x8 op && !((zG (zl ms zA)).getD []).all qE⟩
 | _,_=>x9
def qV:V->qf
 | .obj ms=>Xi ms
 | _=>x9
def xm:Option V->Vn
 | none=>⟨[],false,false⟩
 | some (.list vs)=>if 5<vs.length then ⟨[],true,false⟩ else ⟨vs.map qV,(vs.map qV).any qf.sh,(vs.map qV).any qf.pt⟩
 | some _=>⟨[],true,false⟩
theorem J7{ns:List Ref.Node}{i:Nat}{v:V}(h:Rep ns i v):∃n,ns[i]?=some n:=by
 cases h with
 | str _ n _ h=>exact⟨n,h⟩
 | word _ n _ h=>exact⟨n,h⟩
 | list _ n _ h=>exact⟨n,h⟩
 | obj _ n _ h=>exact⟨n,h⟩
theorem lM(ns:List Ref.Node)(nm:BY):∀(ms:List (BY×V)) (ks:List Nat),ks.length=ms.length->(∀(j k:Nat) (x:BY×V),ks[j]?=some k->ms[j]?=some x->Rep ns k x.2) ->
  (zl ms nm=none/\jw (ms.map Prod.fst) ks nm = -1)\/∃v k,zl ms nm=some v/\jw (ms.map Prod.fst) ks nm=((k:Nat):Int)/\Rep ns k v
 | [],ks,_,_=>by left;exact⟨rfl,by simp[jw]⟩
 | m::ms,[],hl,_=>by simp at hl
 | m::ms,k::ks,hl,h=>by
  unfold zl;simp only[yf,jw,Jm]
  by_cases e:(m.1.toList==nm.toList)=true
  ·rw[e]
   right
   exact⟨m.2,k,rfl,by simp,h 0 k m rfl rfl⟩
  ·have a:(m.1.toList==nm.toList)=false:=by simpa using e
   rw[a];simp only[vg,jK];exact lM ns nm ms ks (by simpa using hl) (λj d x b c=>h (j+1) d x (by simpa using b) (by simpa using c))
theorem ZK{ns:List Ref.Node}{i:Nat}{n:Ref.Node}{ms:List (BY×V)}(h:Rep ns i (.obj ms))(e:ns[i]?=some n)(nm:BY) :
  (zl ms nm=none/\zn n nm = -1)\/∃v k,zl ms nm=some v/\zn n nm=((k:Nat):Int)/\Rep ns k v:=by
 cases h with
 | obj _ j _ a f b c g d=>
  rw[e] at a;injection a with a
  subst a;unfold zn;rw[b];exact lM ns nm ms n.kids c d
theorem YP{ns:List Ref.Node}{i:Nat}{n:Ref.Node}{v:V}(h:Rep ns i v)(e:ns[i]?=some n)(k:∀ms,v ≠ .obj ms)(nm:BY):zn n nm = -1/\n.kind≠1/\n.names=[]:=by
 have key:n.names=[]/\n.kind≠1:=by
  cases h with
  | str _ f _ a c d g j=>rw[e] at a;injection a with a;subst a;exact⟨j,by omega⟩
  | word _ f b a c d g=>rw[e] at a;injection a with a;subst a;exact⟨g,by cases b<;>simp at c<;>omega⟩
  | list _ f _ a c d=>rw[e] at a;injection a with a;subst a;exact⟨d,by omega⟩
  | obj _ f ms=>exact absurd rfl (k ms)
 refine⟨?_,key.2,key.1⟩;unfold zn;rw[key.1];simp[jw]
theorem V9{ns:List Ref.Node}{k:Nat}{v:V}(h:Rep ns k v):(kindOf ns k=1↔∃ms,v = .obj ms)/\(kindOf ns k=2↔∃d,v = .list d)/\(kindOf ns k=3↔∃s,v = .str s)/\(kindOf ns k=4↔v = .word true)/\(kindOf ns k=5↔v = .word false)/\(∀s,v = .str s->textOf ns k=s):=by
 unfold kindOf textOf;rw[show ((k:Int)).toNat=k by simp]
 cases h with
 | str _ n s c a e=>rw[c];simp[a,e]
 | word _ n b c a=>rw[c];cases b<;>simp at a<;>simp[a]
 | list _ n d c a=>rw[c];simp[a]
 | obj _ n ms c a=>rw[c];simp[a]
theorem rT(ns:List Ref.Node):∀(d:List V) (ks:List Nat),ks.length=d.length->(∀(j k:Nat) (v:V),ks[j]?=some k->d[j]?=some v->Rep ns k v)->j6 ns ks=jO d
 | [],[],_,_=>rfl
 | [],k::ks,hl,_=>by simp at hl
 | v::d,[],hl,_=>by simp at hl
 | v::d,k::ks,hl,h=>by
  have e:=h 0 k v rfl rfl;have g:=rT ns d ks (by simpa using hl) (λj i x c a=>h (j+1) i x (by simpa using c) (by simpa using a));rw[j6,g]
  cases e with
  | str _ n s c a f=>rw[c];simp[a,f,jO]
  | word _ n b c a=>rw[c];cases b<;>simp at a<;>simp[a,jO]
  | list _ n l c a=>rw[c];simp[a,jO]
  | obj _ n ms c a=>rw[c];simp[a,jO]
theorem dA{ns:List Ref.Node}{k:Nat}{v:V}(h:Rep ns k v):qI ns k=zG (some v):=by
 unfold qI;rw[za (by omega),show ((k:Int)).toNat=k by simp]
 cases h with
 | str _ n s d a f=>rw[d];simp[a,f,zG]
 | word _ n b d a=>rw[d];cases b<;>simp at a<;>simp[a,zG]
 | list _ n e d a f g j i=>
  rw[d];simp only[a,zG];rw[za (by decide),g]
  by_cases c:e.length<1\/10<e.length
  ·rw[zb (.inr c),zb c]
  ·rw[za (by simpa using c),za c];exact rT ns e n.kids g i
 | obj _ n ms d a=>rw[d];simp[a,zG]
theorem Rm(ns:List Ref.Node):qI ns (-1)=zG none:=by
 unfold qI;rw[zb (by decide)];rfl
theorem Un{ns:List Ref.Node}{i:Nat}{n:Ref.Node}{ms:List (BY×V)}(h:Rep ns i (.obj ms))(d:ns[i]?=some n)(names:List BY):yz n names=qd ms names:=by
 cases h with
 | obj _ j _ a b c e f g=>
  rw[d] at a;injection a with a
  subst a;unfold yz qd;rw[c,b,List.all_map];simp[Function.comp_def]
theorem Be{ns:List Ref.Node}{k:Nat}{v:V}(h:Rep ns k v):yD ns k=jJ (some v):=by
 have t:=dA h;have g:=V9 h;obtain⟨n,f⟩:=J7 h;unfold yD;rw[za (by omega),show ((k:Int)).toNat=k by simp,f];simp only;have i:kindOf ns k=n.kind:=by unfold kindOf;rw[show ((k:Int)).toNat=k by simp,f]
 rw[i] at g
 by_cases c:n.kind=1
 ·rw[zb c];obtain⟨ms,rfl⟩:=g.1.1 c;rw[Un h f]
  cases h with
  | obj _ y _ d u p w x q=>
   rw[f] at d;injection d with d
   subst d;have r:n.names.length=ms.length:=by rw[p];simp
   unfold jJ;simp only;rw[r]
   by_cases c2:qd ms [qL]=true/\ms.length=1
   ·rw[zb c2,zb c2];have o:0<ms.length:=by omega
    have a:n.kids[0]?=some (n.kids[0]'(by omega)):=zm (by omega);have b:ms[0]?=some ms[0]:=zm o;have s:=dA (q 0 _ _ a b);have l:n.kids.getD 0 0=n.kids[0]'(by omega):=by rw[zX,a];rfl
    have m:(ms.map Prod.snd)[0]?=some ms[0].2:=by rw[vv,b];rfl
    rw[l,m,s]
   ·rw[za c2,za c2]
 ·rw[za c];have j:∀ms,v ≠ .obj ms:=λms e=>c (g.1.2 ⟨ms,e⟩);rw[t]
  cases v with
  | obj ms=>exact absurd rfl (j ms)
  | _=>rfl
theorem Bd(ns:List Ref.Node):yD ns (-1)=jJ none:=by
 unfold yD;rw[zb (by decide)];rfl
def jI(ns:List Ref.Node)(h:Int)(x:Option V):Prop:=(x=none/\h = -1)\/∃v k,x=some v/\h=((k:Nat):Int)/\Rep ns k v
theorem jI.strings{ns:List Ref.Node}{h:Int}{x:Option V}(r:jI ns h x):qI ns h=zG x:=by
 rcases r with ⟨rfl,rfl⟩|⟨v,k,rfl,rfl,hr⟩
 ·exact Rm ns
 ·exact dA hr
theorem jI.choice{ns:List Ref.Node}{h:Int}{x:Option V}(r:jI ns h x):yD ns h=jJ x:=by
 rcases r with ⟨rfl,rfl⟩|⟨v,k,rfl,rfl,hr⟩
 ·exact Bd ns
 ·exact Be hr
theorem jI.noT{ns:List Ref.Node}{h:Int}{x:Option V}(r:jI ns h x):Ref.noT ns h=Zp x/\Ref.vU ns h=vG x:=by
 rcases r with ⟨rfl,rfl⟩|⟨v,k,rfl,rfl,hr⟩
 ·exact⟨rfl,rfl⟩
 ·have a:=V9 hr;unfold Ref.noT Ref.vU
  cases v with
  | word b=>
   cases b with
   | true=>
    have:=a.2.2.2.1.2 rfl
    rw[this];simp[Zp,vG]
   | false=>
    have:=a.2.2.2.2.1.2 rfl
    rw[this];simp[Zp,vG]
  | str s=>
   have:=a.2.2.1.2 ⟨s,rfl⟩
   rw[this];simp[Zp,vG]
  | list l=>
   have:=a.2.1.2 ⟨l,rfl⟩
   rw[this];simp[Zp,vG]
  | obj l=>
   have:=a.1.2 ⟨l,rfl⟩
   rw[this];simp[Zp,vG]
theorem jI.op{ns:List Ref.Node}{h:Int}{x:Option V}(r:jI ns h x):(opV x=none/\(h<0\/kindOf ns h≠3))\/∃s,opV x=some s/\0<=h/\kindOf ns h=3/\textOf ns h=s:=by
 rcases r with ⟨rfl,rfl⟩|⟨v,k,rfl,rfl,hr⟩
 ·left;exact⟨rfl,.inl (by decide)⟩
 ·have a:=V9 hr
  cases v with
  | str s=>right;exact⟨s,rfl,by omega,a.2.2.1.2 ⟨s,rfl⟩,a.2.2.2.2.2 s rfl⟩
  | word b=>left;exact⟨rfl,.inr (λe=>by obtain⟨s,c⟩:=a.2.2.1.1 e;cases c)⟩
  | list l=>left;exact⟨rfl,.inr (λe=>by obtain⟨s,c⟩:=a.2.2.1.1 e;cases c)⟩
  | obj l=>left;exact⟨rfl,.inr (λe=>by obtain⟨s,c⟩:=a.2.2.1.1 e;cases c)⟩
theorem BC{ns:List Ref.Node}{k:Nat}{n:Ref.Node}{v:V}(h:Rep ns k v)(a:ns[k]?=some n):kw ns n=qV v:=by
 by_cases ho:∃ms,v = .obj ms
 ·obtain⟨ms,rfl⟩:=ho;have i:jI ns (zn n bOp) (zl ms bOp):=ZK h a bOp;have j:jI ns (zn n zC) (zl ms zC):=ZK h a zC;have l:jI ns (zn n bNo) (zl ms bNo):=ZK h a bNo;have m:jI ns (zn n zA) (zl ms zA):=ZK h a zA;have f:=m.strings;obtain⟨b,c⟩:=l.noT;show kw ns n=Xi ms;unfold kw Xi;rw[Un h a,Un h a,f,b,c]
  rcases i.op with ⟨e1,c1⟩|⟨s1,e1,a1,b1,t1⟩
  ·rw[zb (by rcases c1 with c1|c1;exact .inl c1;exact .inr (.inr (.inl c1))),e1]
  rcases j.op with ⟨e2,c2⟩|⟨s2,e2,a2,b2,t2⟩
  ·rw[zb (by rcases c2 with c2|c2;exact .inr (.inl c2);exact .inr (.inr (.inr c2))),e1,e2]
  rw[za (by omega),e1,e2,t1,t2]
 ·have d:∀ms,v ≠ .obj ms:=λms e=>ho ⟨ms,e⟩;have g:=(YP h a d bOp).1;unfold kw;rw[zb (.inl (by rw[g];decide))]
  cases v with
  | obj ms=>exact absurd rfl (d ms)
  | _=>rfl
theorem gX(ns:List Ref.Node):∀(a:List V) (ks:List Nat),ks.length=a.length->(∀(j k:Nat) (v:V),ks[j]?=some k->a[j]?=some v->Rep ns k v)->yh ns ks=a.map qV
 | [],[],_,_=>rfl
 | [],k::ks,hl,_=>by simp at hl
 | v::a,[],hl,_=>by simp at hl
 | v::a,k::ks,hl,h=>by
  have b:=h 0 k v rfl rfl;have d:=gX ns a ks (by simpa using hl) (λj g x e f=>h (j+1) g x (by simpa using e) (by simpa using f));unfold yh at d |-;rw[yf,yf,d];obtain⟨n,c⟩:=J7 b;rw[c];simp only;rw[BC b c]
theorem jI.conds{ns:List Ref.Node}{h:Int}{x:Option V}(r:jI ns h x):Qg ns h=xm x:=by
 rcases r with ⟨rfl,rfl⟩|⟨v,k,rfl,rfl,hr⟩
 ·unfold Qg;rw[zb (by decide)];rfl
 ·unfold Qg;rw[za (by omega),show ((k:Int)).toNat=k by simp]
  cases hr with
  | str _ n s d a g=>rw[d];simp[a,xm]
  | word _ n b d a=>rw[d];cases b<;>simp at a<;>simp[a,xm]
  | obj _ n ms d a=>rw[d];simp[a,xm]
  | list _ n f d a g e j i=>
   rw[d];simp only[xm];rw[a,e,gX ns f n.kids e i]
   by_cases c:5<f.length
   ·rw[zb (.inr c),zb c]
   ·rw[za (by omega),za c]
structure zZ where
 eff:BY
 who:Bool×List BY
 act:Bool×List BY
 on:Bool×List BY
 cs:List qf
 sh:Bool
 pt:Bool
def zF:BY:=⟨#[101,102,102,101,99,116]⟩
def zR:BY:=⟨#[119,104,111]⟩
def bDo:BY:=⟨#[100,111]⟩
def bOn:BY:=⟨#[111,110]⟩
def bIf:BY:=⟨#[105,102]⟩
def yC:BY:=⟨#[115,116,97,116,101,109,101,110,116]⟩
def xW(s:BY):Bool:=(s.toList==[97,108,108,111,119])||(s.toList==[100,101,110,121])
def jd:zZ:=⟨⟨#[]⟩,(false,[]),(false,[]),(false,[]),[],true,false⟩
def chD(c:Bool×Option (List BY)):Bool×List BY:=(c.1,c.2.getD [])
def chP(c:Bool×Option (List BY)):Bool:=!((c.2.getD []).all qE)
def QQ(eff:BY)(a b c:Bool×Option (List BY))(cs:Vn):zZ:=
 ⟨eff,chD a,chD b,chD c,cs.cs,!xW eff || !a.2.isSome || !b.2.isSome || !c.2.isSome||cs.sh,chP a||chP b||chP c||cs.pt⟩
def uQ(ns:List Ref.Node)(n:Ref.Node):zZ:=
 if yz n [zF,zR,bDo,bOn,bIf]=false\/zn n zF<0\/kindOf ns (zn n zF)≠3 then jd
 else QQ (textOf ns (zn n zF)) (yD ns (zn n zR)) (yD ns (zn n bDo)) (yD ns (zn n bOn)) (Qg ns (zn n bIf))
def Xv(ms:List (BY×V)):zZ:=match qd ms [zF,zR,bDo,bOn,bIf],opV (zl ms zF) with
 | true,some eff=>QQ eff (jJ (zl ms zR)) (jJ (zl ms bDo)) (jJ (zl ms bOn)) (xm (zl ms bIf))
 | _,_=>jd
def xO:V->zZ
 | .obj ms=>Xv ms
 | _=>jd
theorem PR{ns:List Ref.Node}{k:Nat}{n:Ref.Node}{v:V}(h:Rep ns k v)(a:ns[k]?=some n):uQ ns n=xO v:=by
 by_cases ho:∃ms,v = .obj ms
 ·obtain⟨ms,rfl⟩:=ho;have d:jI ns (zn n zF) (zl ms zF):=ZK h a zF;have f:jI ns (zn n zR) (zl ms zR):=ZK h a zR;have g:jI ns (zn n bDo) (zl ms bDo):=ZK h a bDo;have i:jI ns (zn n bOn) (zl ms bOn):=ZK h a bOn;have j:jI ns (zn n bIf) (zl ms bIf):=ZK h a bIf;show uQ ns n=Xv ms;unfold uQ Xv;rw[Un h a,f.choice,g.choice,i.choice,j.conds]
  cases ho:qd ms [zF,zR,bDo,bOn,bIf] with
  | false=>rw[zb (.inl rfl)]
  | true=>
   rcases d.op with ⟨e1,c1⟩|⟨s1,e1,a1,b1,t1⟩
   ·rw[zb (.inr c1),e1]
   ·rw[za (by simp;omega),e1,t1]
 ·have b:∀ms,v ≠ .obj ms:=λms e=>ho ⟨ms,e⟩;have c:=(YP h a b zF).1;unfold uQ;rw[zb (.inr (.inl (by rw[c];decide)))]
  cases v with
  | obj ms=>exact absurd rfl (b ms)
  | _=>rfl
def kH:List zZ->Nat->Int×Nat
 | [],_=>(0,0)
 | r::rs,i=>if r.sh then (5,i+1) else if r.pt then (6,i+1) else kH rs (i+1)
def jU:V->Int×Nat
 | .obj ms=>match zl ms yC with
  | some (.list vs)=>if ms.length≠1\/vs.length<1\/10<vs.length then (5,0) else kH (vs.map xO) 0
  | _=>(5,0)
 | _=>(5,0)
def vW(ns:List Ref.Node)(ks:List Nat):List zZ:=ks.map λk=>match ns[k]? with
 | some n=>uQ ns n
 | none=>jd
def JC(ns:List Ref.Node)(root:Nat):Int×Nat:=match ns[root]? with
 | none=>(5,0)
 | some r=>if r.kind≠1\/r.names.length≠1\/zn r yC<0 then (5,0) else match ns[(zn r yC).toNat]? with
  | none=>(5,0)
  | some n=>if n.kind≠2\/n.kids.length<1\/10<n.kids.length then (5,0) else kH (vW ns n.kids) 0
theorem dw(ns:List Ref.Node):∀(a:List V) (ks:List Nat),ks.length=a.length->(∀(j k:Nat) (v:V),ks[j]?=some k->a[j]?=some v->Rep ns k v)->vW ns ks=a.map xO
 | [],[],_,_=>rfl
 | [],k::ks,hl,_=>by simp at hl
 | v::a,[],hl,_=>by simp at hl
 | v::a,k::ks,hl,h=>by
  have b:=h 0 k v rfl rfl;have d:=dw ns a ks (by simpa using hl) (λj g x e f=>h (j+1) g x (by simpa using e) (by simpa using f));unfold vW at d |-;rw[yf,yf,d];obtain⟨n,c⟩:=J7 b;rw[c];simp only;rw[PR b c]
theorem Da{ns:List Ref.Node}{k:Nat}{v:V}(h:Rep ns k v):JC ns k=jU v:=by
 obtain⟨r,f⟩:=J7 h;have i:=V9 h;have l:kindOf ns k=r.kind:=by unfold kindOf;rw[show ((k:Int)).toNat=k by simp,f]
 rw[l] at i;unfold JC;rw[f];simp only
 by_cases ho:∃ms,v = .obj ms
 ·obtain⟨ms,rfl⟩:=ho;have a:=i.1.2 ⟨ms,rfl⟩
  have u:r.names.length=ms.length:=by
   cases h with
   | obj _ z _ a d o=>rw[f] at a;injection a with a;subst a;rw[o];simp
  rw[u];unfold jU;simp only
  rcases ZK h f yC with ⟨e,c⟩|⟨x,j,e,c,hx⟩
  ·rw[zb (.inr (.inr (by rw[c];decide))),e]
  ·rw[e,c]
   by_cases c1:ms.length=1
   ·rw[za (by omega),show (((j:Nat):Int)).toNat=j by simp]
    cases hx with
    | str _ n s a d o=>rw[a];simp[d]
    | word _ n b a d=>rw[a];cases b<;>simp at d<;>simp[d]
    | obj _ n ms a d=>rw[a];simp[d]
    | list _ n g p q w m y t=>
     rw[p];simp only;rw[q,m,dw ns g n.kids m t]
     by_cases c2:g.length<1\/10<g.length
     ·rw[zb (.inr c2),zb (.inr c2)]
     ·rw[za (by omega),za (by omega)]
   ·rw[zb (.inr (.inl c1))]
    cases x with
    | list g=>simp only;rw[zb (.inl c1)]
    | _=>rfl
 ·rw[zb (.inl (λe=>ho (i.1.1 e)))]
  cases v with
  | obj ms=>exact absurd ⟨ms,rfl⟩ ho
  | _=>rfl
def cls(sh pt:Bool):Nat:=if sh then 1 else if pt then 2 else 0
def qD(l:List Nat):Nat:=if l.any (λc=>c==1) then 1 else if l.any (λc=>c==2) then 2 else 0
theorem Bq(sh pt:Bool):(cls sh pt==1)=sh:=by cases sh<;>cases pt<;>rfl
theorem Br(pt:Bool):(cls false pt==2)=pt:=by cases pt<;>rfl
theorem JK:∀(l:List (Bool×Bool)),qD (l.map λx=>cls x.1 x.2)=cls (l.any Prod.fst) (l.any Prod.snd):=by
 intro l
 have b:(l.map λx=>cls x.1 x.2).any (λc=>c==1)=l.any Prod.fst:=by
  rw[Qx];exact congrArg (λf=>l.any f) (funext λx=>Bq x.1 x.2)
 unfold qD;rw[b]
 cases h:l.any Prod.fst with
 | true=>rfl
 | false=>
  have d:(l.map λx=>cls x.1 x.2).any (λc=>c==2)=l.any Prod.snd:=by
   rw[Yv] at h;clear b
   induction l with
   | nil=>rfl
   | cons a r i=>
    have e:a.1=false:=by have:=h a (by simp);simpa using this
    rw[yf,Jl,Jl,i (λx g=>h x (by simp[g])),e,Br]
  rw[d]
  rfl
theorem lK(c:Nat)(h:c<=2):qD [c]=c:=by
 have:c=0\/c=1\/c=2:=by omega
 rcases this with rfl|rfl|rfl<;>rfl
theorem gN(sh pt:Bool):cls sh pt<=2:=by cases sh<;>cases pt<;>decide
theorem YN(l:List Nat):qD l<=2:=by unfold qD;split;decide;split<;>decide
def qH(c:Option V->Nat):Option V->Nat
 | some (.list vs)=>if vs.length<1\/10<vs.length then 1 else qD (vs.map λv=>c (some v))
 | x=>qD [c x]
def qM(f:Option V->BY):Option V->List BY
 | some (.list vs)=>if vs.length<1\/10<vs.length then [] else vs.map λv=>f (some v)
 | x=>[f x]
def strOf:Option V->BY
 | some (.str s)=>s
 | _=>⟨#[]⟩
def jf:Option V->Nat
 | some (.str s)=>cls false (!qE s)
 | _=>1
def qa(f:BY->Bool):Option V->Nat
 | some (.str s)=>cls (!f s) false
 | _=>1
def qR(f:BY->Bool):Option V->BY
 | some (.str s)=>if f s then s else ⟨#[]⟩
 | _=>⟨#[]⟩
theorem Va:∀(a:List V),(∃l,jO a=some l/\a=l.map .str)\/(jO a=none/\∃v ∈ a,∀s,v ≠ .str s)
 | [] => .inl ⟨[],rfl,rfl⟩
 | v::a=>by
  cases v with
  | str s=>
   rcases Va a with ⟨l,h1,h2⟩|⟨h1,v,hv,h2⟩
   ·left;exact⟨s::l,by simp[jO,h1],by simp[h2]⟩
   ·right;exact⟨by simp[jO,h1],v,by simp[hv],h2⟩
  | word b=>right;exact⟨rfl,.word b,by simp,λs e=>by cases e⟩
  | list l=>right;exact⟨rfl,.list l,by simp,λs e=>by cases e⟩
  | obj l=>right;exact⟨rfl,.obj l,by simp,λs e=>by cases e⟩
theorem JL{l:List Nat}(h:1 ∈ l):qD l=1:=by
 unfold qD;rw[zb];rw[Q9];exact⟨1,h,rfl⟩
theorem Ff(f:BY->Bool)(l:List BY):qD (l.map λs=>cls false (!f s))=cls false (!l.all f):=by
 have:=JK (l.map λs=>(false,!f s))
 rw[ug] at this;have e:((λx:Bool×Bool=>cls x.1 x.2) ∘ λs=>(false,!f s))=λs=>cls false (!f s):=rfl;rw[e] at this;rw[this];have a:(l.map λs=>(false,!f s)).any Prod.fst=false:=by rw[Qx,Yv];intro x _;simp
 have b:(l.map λs=>(false,!f s)).any Prod.snd = !l.all f:=by rw[Qx,List.not_all_eq_any_not];rfl
 rw[a,b]
theorem Fg(f:BY->Bool)(l:List BY):qD (l.map λs=>cls (!f s) false)=cls (!l.all f) false:=by
 have:=JK (l.map λs=>(!f s,false))
 rw[ug] at this;have e:((λx:Bool×Bool=>cls x.1 x.2) ∘ λs=>(!f s,false))=λs=>cls (!f s) false:=rfl;rw[e] at this;rw[this];have a:(l.map λs=>(!f s,false)).any Prod.snd=false:=by rw[Qx,Yv];intro x _;simp
 have b:(l.map λs=>(!f s,false)).any Prod.fst = !l.all f:=by rw[Qx,List.not_all_eq_any_not];rfl
 rw[a,b]
theorem YW(x:Option V):qH jf x=cls (!(zG x).isSome) (!((zG x).getD []).all qE):=by
 have a:∀x:Option V,zG x=none->jf x=1->(∀d,x≠some (.list d))->qH jf x=cls (!(zG x).isSome) (!((zG x).getD []).all qE):=by
  intro x h e f;rw[h];unfold qH
  split
  ·rename_i d;exact absurd rfl (f d)
  ·rw[e];rfl
 match x with
 | none=>exact a none rfl rfl (by simp)
 | some (.word b)=>exact a _ rfl rfl (by simp)
 | some (.obj ms)=>exact a _ rfl rfl (by simp)
 | some (.str s)=>
  show qD [jf (some (.str s))]=_;simp only[jf,zG,QA,Jr,U1,List.all_nil,Yo,Vm];exact lK _ (gN _ _)
 | some (.list d)=>
  simp only[qH,zG]
  by_cases c:d.length<1\/10<d.length
  ·rw[zb c,zb c];rfl
  ·rw[za c,za c]
   rcases Va d with ⟨l,e,rfl⟩|⟨e,v,hv,f⟩
   ·rw[e,ug];exact Ff qE l
   ·rw[e];rw[JL]
    ·rfl
    ·rw[xQ];refine⟨v,hv,?_⟩
     cases v with
     | str s=>exact absurd rfl (f s)
     | _=>rfl
theorem Uk(f:BY->Bool)(x:Option V):qH (qa f) x=cls (!(zG x).isSome || !((zG x).getD []).all f) false:=by
 have a:∀x:Option V,zG x=none->qa f x=1->(∀d,x≠some (.list d))->qH (qa f) x=cls (!(zG x).isSome || !((zG x).getD []).all f) false:=by
  intro x h e g;rw[h];unfold qH
  split
  ·rename_i d;exact absurd rfl (g d)
  ·rw[e];rfl
 match x with
 | none=>exact a none rfl rfl (by simp)
 | some (.word b)=>exact a _ rfl rfl (by simp)
 | some (.obj ms)=>exact a _ rfl rfl (by simp)
 | some (.str s)=>
  show qD [qa f (some (.str s))]=_;simp only[qa,zG,QA,Jr,U1,List.all_nil,Yo,Vm,Jd];exact lK _ (gN _ _)
 | some (.list d)=>
  simp only[qH,zG]
  by_cases c:d.length<1\/10<d.length
  ·rw[zb c,zb c];rfl
  ·rw[za c,za c]
   rcases Va d with ⟨l,e,rfl⟩|⟨e,v,hv,g⟩
   ·rw[e,ug];exact Fg f l
   ·rw[e];rw[JL]
    ·rfl
    ·rw[xQ];refine⟨v,hv,?_⟩
     cases v with
     | str s=>exact absurd rfl (g s)
     | _=>rfl
theorem nT(x:Option V)(h:(zG x).isSome):qM strOf x=(zG x).getD []:=by
 match x with
 | none=>simp[zG] at h
 | some (.word b)=>simp[zG] at h
 | some (.obj ms)=>simp[zG] at h
 | some (.str s)=>rfl
 | some (.list vs)=>
  simp only[qM,zG] at h |-
  by_cases c:vs.length<1\/10<vs.length
  ·rw[zb c] at h;simp at h
  ·rw[za c] at h |-;rw[za c]
   rcases Va vs with ⟨l,h1,rfl⟩|⟨h1,v,hv,h2⟩
   ·rw[h1,ug];exact List.map_id' l
   ·rw[h1] at h;simp at h
theorem Mc(f:BY->Bool)(x:Option V)(h:(zG x).isSome)(a:((zG x).getD []).all f=true):qM (qR f) x=(zG x).getD []:=by
 match x with
 | none=>simp[zG] at h
 | some (.word b)=>simp[zG] at h
 | some (.obj ms)=>simp[zG] at h
 | some (.str s)=>
  simp only[zG,QA,U1,List.all_nil,Yo] at a;simp[qM,qR,a,zG]
 | some (.list vs)=>
  simp only[qM,zG] at h a |-
  by_cases c:vs.length<1\/10<vs.length
  ·rw[zb c] at h;simp at h
  ·rw[za c] at h a |-;rw[za c]
   rcases Va vs with ⟨l,h1,rfl⟩|⟨h1,v,hv,h2⟩
   ·rw[h1] at a |-;rw[ug];simp only[QA] at a |-
    have:∀s ∈ l,((λv=>qR f (some v)) ∘ V.str) s=s:=by
     intro s d;rw[Yu] at a;simp[qR,a s d]
    rw[U9 this];exact List.map_id' l
   ·rw[h1] at h;simp at h
inductive Good (L:Nat):V->Prop
 | str (s:BY):s.size<=L->Good L (.str s)
 | word (b:Bool):Good L (.word b)
 | list (vs:List V):vs.length<=L->(∀v ∈ vs,Good L v)->Good L (.list vs)
 | obj (ms:List (BY×V)):ms.length<=L->(ms.map λm=>m.1.toList).Nodup->(∀m ∈ ms,m.1.size<=L)->(∀m ∈ ms,Good L m.2)->Good L (.obj ms)
theorem dP{l:List UInt8}:∀{r:List Nat} {p q:Nat} {u:Unit},qh l r p = .ok u q->(∀b ∈ r,b≠0)->p<=l.length->p<=q/\q<=l.length
 | [],p,q,u,h,_,hp=>by
  rw[qh] at h;injection h with h1 h2
  omega
 | b::r,p,q,u,h,hb,hp=>by
  rw[qh] at h
  split at h
  ·rename_i c;have e:b≠0:=hb b (by simp);have a:=qi l p (by omega)
   have:=dP h (λx d=>hb x (by simp[d])) (by omega)
   omega
  ·cases h
theorem lH(l:List UInt8):∀(f:Nat),
  (∀d p v q,qm l f d p = .ok v q->Good l.length v/\p<q/\q<=l.length) /\
  (∀d p acc v q,kL l f d p acc = .ok v q->acc.length<=p->(∀x ∈ acc,Good l.length x)->Good l.length v/\p<q/\q<=l.length) /\
  (∀d p acc v q,kQ l f d p acc = .ok v q->acc.length<=p->(acc.map λm=>m.1.toList).Nodup->(∀x ∈ acc,x.1.size<=l.length/\Good l.length x.2)->Good l.length v/\p<q/\q<=l.length)
 | 0=>by
  refine⟨λd p v q h=>?_,λd p acc v q h=>?_,λd p acc v q h=>?_⟩
  ·rw[qm] at h;cases h
  ·rw[kL] at h;cases h
  ·rw[kQ] at h;cases h
 | f+1=>by
  obtain⟨w,t,u⟩:=lH l f;refine⟨λd p v q h=>?_,λd p acc v q h z C=>?_,λd p acc v q h z K C=>?_⟩
  ·rw[qm] at h;have L:=yR l (p+1)
   by_cases c1:zi l p=123
   ·rw[zb c1] at h
    split at h
    ·cases h
    split at h
    ·rename_i k;injection h with h1 h2
     subst h1
     have:=qi l (skip l (p+1)) (by omega)
     exact⟨.obj [] (zD _) (by simp) (by simp) (by simp),by omega,by omega⟩
    ·obtain⟨a,b,c⟩:=u _ _ _ _ _ h (by simp) (by simp) (by simp);exact⟨a,by omega,c⟩
   rw[za c1] at h
   by_cases c2:zi l p=91
   ·rw[zb c2] at h
    split at h
    ·cases h
    split at h
    ·rename_i k;injection h with h1 h2
     subst h1
     have:=qi l (skip l (p+1)) (by omega)
     exact⟨.list [] (zD _) (by simp),by omega,by omega⟩
    ·obtain⟨a,b,c⟩:=t _ _ _ _ _ h (by simp) (by simp);exact⟨a,by omega,c⟩
   rw[za c2] at h
   by_cases c3:zi l p=34
   ·rw[zb c3] at h;have n:yG l p=vX l (p+1):=by unfold yG;rw[zb c3]
    cases hs:vX l (p+1) with
    | err c g=>rw[hs] at h;cases h
    | ok s g=>
     rw[hs] at h;injection h with h1 h2
     subst h1;subst h2;rw[hs] at n;have H:=Uu n;have G:=Uv n;exact⟨.str s (by omega),by omega,G⟩
   rw[za c3] at h
   by_cases c4:zi l p=116
   ·rw[zb c4] at h;have D:=qi l p (by omega)
    cases hw:qh l [114,117,101] (p+1) with
    | err c g=>rw[hw] at h;cases h
    | ok s g=>
     rw[hw] at h;injection h with h1 h2
     subst h1;subst h2
     have:=dP hw (by decide) (by omega)
     exact⟨.word true,by omega,this.2⟩
   rw[za c4] at h
   by_cases c5:zi l p=102
   ·rw[zb c5] at h;have D:=qi l p (by omega)
    cases hw:qh l [97,108,115,101] (p+1) with
    | err c g=>rw[hw] at h;cases h
    | ok s g=>
     rw[hw] at h;injection h with h1 h2
     subst h1;subst h2
     have:=dP hw (by decide) (by omega)
     exact⟨.word false,by omega,this.2⟩
   rw[za c5] at h
   cases h
  ·rw[kL] at h
   cases hv:qm l f (d+1) p with
   | err c g=>rw[hv] at h;cases h
   | ok x g=>
    rw[hv] at h;simp only at h;obtain⟨B,I,J⟩:=w _ _ _ _ hv;have N:=yR l g
    have i:∀y ∈ acc++[x],Good l.length y:=by
     intro y j
     rcases jq.1 j with j|j
     ·exact C y j
     ·simp only[xK] at j;subst j;exact B
    split at h
    ·have O:=yR l (skip l g+1);obtain⟨a,b,c⟩:=t _ _ _ _ _ h (by simp;omega) i;exact⟨a,by omega,c⟩
    split at h
    ·rename_i k;injection h with h1 h2
     subst h1
     have:=qi l (skip l g) (by omega)
     exact⟨.list _ (by simp;omega) i,by omega,by omega⟩
    ·cases h
  ·rw[kQ] at h
   split at h
   ·cases h
   rename_i c3;have A:zi l p=34:=by omega
   have n:yG l p=vX l (p+1):=by unfold yG;rw[zb A]
   cases hs:vX l (p+1) with
   | err c g=>rw[hs] at h;cases h
   | ok s F=>
    rw[hs] at h;rw[hs] at n;simp only at h;have H:=Uu n;have G:=Uv n
    split at h
    ·cases h
    rename_i E
    split at h
    ·cases h
    cases hv:qm l f (d+1) (skip l (skip l F+1)) with
    | err c g=>rw[hv] at h;cases h
    | ok x g=>
     rw[hv] at h;simp only at h;obtain⟨B,I,J⟩:=w _ _ _ _ hv;have P:=yR l F;have M:=yR l (skip l F+1);have N:=yR l g
     have i:∀y ∈ acc++[(s,x)],y.1.size<=l.length/\Good l.length y.2:=by
      intro y j
      rcases jq.1 j with j|j
      ·exact C y j
      ·simp only[xK] at j;subst j;exact⟨by simp only;omega,B⟩
     have r:((acc++[(s,x)]).map λm=>m.1.toList).Nodup:=by
      rw[uB,List.nodup_append];refine⟨K,by simp,?_⟩;intro a z b hb;simp only[yf,Za,xK] at hb;subst hb;rw[xQ] at z;obtain⟨m,o,rfl⟩:=z;intro e;apply E;rw[Q9];exact⟨m,o,by simp[e]⟩
     split at h
     ·have O:=yR l (skip l g+1);obtain⟨a,b,c⟩:=u _ _ _ _ _ h (by simp;omega) r i;exact⟨a,by omega,c⟩
     split at h
     ·rename_i k;injection h with h1 h2
      subst h1
      have:=qi l (skip l g) (by omega)
      exact⟨.obj _ (by simp;omega) r (λm o=>(i m o).1) (λm o=>(i m o).2),by omega,by omega⟩
     ·cases h
theorem UA{l:List UInt8}{v:V}{q:Nat}(h:yA l = .ok v q):Good l.length v:=by
 unfold yA at h
 cases hv:qm l (2*l.length+1) 1 (skip l 0) with
 | err c a=>rw[hv] at h;cases h
 | ok x a=>
  rw[hv] at h;simp only at h
  split at h
  ·cases h
  ·injection h with h1 h2
   subst h1;exact ((lH l _).1 _ _ _ _ hv).1
def chC:Option V->Nat
 | some (.obj ms)=>if qd ms [qL] then qH jf (zl ms qL) else 1
 | x=>qH jf x
theorem VP{L:Nat}(x:Option V)(h:∀v,x=some v->Good L v):chC x=cls (!(jJ x).2.isSome) (chP (jJ x)):=by
 match x with
 | none=>exact YW none
 | some (.word b)=>exact YW (some (.word b))
 | some (.str s)=>exact YW (some (.str s))
 | some (.list vs)=>exact YW (some (.list vs))
 | some (.obj ms)=>
  simp only[chC,jJ]
  by_cases c:qd ms [qL]=true
  ·rw[zb c];have a:=h _ rfl
   cases a with
   | obj _ f d g i=>
    match ms with
    | []=>rfl
    | [m]=>
     have e:(m.1.toList==qL.toList)=true:=by
      simp[qd] at c;simp[c]
     rw[zb ⟨c,rfl⟩];have a:zl [m] qL=some m.2:=by unfold zl;rw[Jm,e];rfl
     rw[a];exact YW _
    | m::m'::r=>
     exfalso;simp[qd] at c;simp only[yf,List.nodup_cons,Z7,not_or] at d;exact d.1.1 (by rw[<- c.1,<- c.2.1])
  ·rw[za c,za (λe=>c e.1)]
   rfl
def short(s:BY):Bool:=decide (s.size<=60)
def filled(s:BY):Bool:=!s.toList.isEmpty&&short s
def kI(op:BY):Bool:=op.toList==[115,97,109,101]
def Zn(op:BY):Bool:=op.toList==[98,101,108,111,119]
def ZL(op:BY):Bool:=op.toList==[117,110,100,101,114]
def yj(op:BY)(x:Option V):Nat:=
 if x8 op then qH jf x
 else if kI op then qH (qa short) x
 else if Zn op then qH (qa jW) x
 else if ZL op then qH (qa filled) x
 else if x.isNone then 0 else 1
def jY(op:BY)(x:Option V):List BY:=
 if x8 op then qM strOf x
 else if kI op then qM (qR short) x
 else if Zn op then qM (qR jW) x
 else if ZL op then qM (qR filled) x
 else []
theorem VI{f g:BY->Bool}(h:∀s,f s=g s)(l:List BY):l.all f=l.all g:=by rw[show f=g from funext h]
theorem mU(op:BY)(x:Option V)(h:uM op=true):yj op x=cls (!(zG x).isSome || !Zl op ((zG x).getD [])) (x8 op && !((zG x).getD []).all qE):=by
 unfold yj Zl;rw[h,Yo]
 by_cases c1:x8 op=true
 ·rw[zb c1];have e:op.toList=[108,105,107,101]:=by simpa [x8] using c1
  have a:∀s,vZ op s=true:=by intro s;unfold vZ;rw[e];rfl
  rw[VI a,c1,YW,show ((zG x).getD []).all (λ_=>true)=true from by simp]
  simp
 rw[za c1];have b:x8 op=false:=by simpa using c1
 rw[b,Yp]
 by_cases c2:kI op=true
 ·rw[zb c2];have e:op.toList=[115,97,109,101]:=by simpa [kI] using c2
  have a:∀s,vZ op s=short s:=by intro s;unfold vZ;rw[e];rfl
  rw[VI a,Uk]
 rw[za c2]
 by_cases c3:Zn op=true
 ·rw[zb c3];have e:op.toList=[98,101,108,111,119]:=by simpa [Zn] using c3
  have a:∀s,vZ op s=jW s:=by intro s;unfold vZ;rw[e];rfl
  rw[VI a,Uk]
 rw[za c3]
 by_cases c4:ZL op=true
 ·rw[zb c4];have e:op.toList=[117,110,100,101,114]:=by simpa [ZL] using c4
  have a:∀s,vZ op s=filled s:=by
   intro s;unfold vZ;rw[e];show (decide (s.size<=60) && !s.toList.isEmpty)=(!s.toList.isEmpty&&short s);rw[Bool.and_comm]
   rfl
  rw[VI a,Uk]
 exfalso;unfold uM at h;unfold x8 at c1;unfold kI at c2;unfold Zn at c3;unfold ZL at c4;simp only[Bool.or_eq_true] at h
 rcases h with ((h|h)|h)|h
 ·exact c2 h
 ·exact c4 h
 ·exact c3 h
 ·exact c1 h
theorem Mh(ms:List (BY×V)):qd ms [bOp,zC,zA,bNo]=qd ms [bOp,zC,bNo,zA]:=by
 unfold qd;refine congrArg (λf=>ms.all f) (funext λm=>?_);simp only[Jl,List.any_nil,kY];rw[Bool.or_comm (zA.toList==m.1.toList) (bNo.toList==m.1.toList)]
theorem nV(m:BY×V)(ms:List (BY×V))(ns:List BY):qd (m::ms) ns=((ns.any λt=>t.toList==m.1.toList)&&qd ms ns):=by
 unfold qd;rw[U1]
theorem nW:∀(ms:List (BY×V)),qd ms [bOp,zC,bNo]=(qd ms [bOp,zC,bNo,zA]&&(zl ms zA).isNone)
 | []=>rfl
 | m::ms=>by
  rw[nV,nV,nW ms];unfold zl;rw[Jm]
  by_cases c:(m.1.toList==zA.toList)=true
  ·rw[c];have e:m.1.toList=zA.toList:=by simpa using c
   rw[e]
   have:([bOp,zC,bNo].any λt=>t.toList==zA.toList)=false:=by kernel_rfl
   rw[this]
   simp
  ·have a:(m.1.toList==zA.toList)=false:=by simpa using c
   have c2:(zA.toList==m.1.toList)=false:=by rw[Bool.beq_comm];exact a
   rw[a];simp only[Jl,List.any_nil,kY,c2];rw[Bool.and_assoc]
def condC:V->Nat
 | .obj ms=>if qd ms [bOp,zC,zA,bNo] then (match opV (zl ms bOp) with
  | some op=>if uM op||xN op then qD [qa qg (zl ms zC),yj op (zl ms zA),cls (vG (zl ms bNo)) false] else 1
  | none=>1) else 1
 | _=>1
theorem lI(a b c d e f:Bool):qD [cls a d,cls b e,cls c f]=cls (a||b||c) (d||e||f):=by
 have:=JK [(a,d),(b,e),(c,f)]
 simp only[yf,Za,Jl,List.any_nil,kY] at this;rw[this,Yq,Yq]
theorem eY(op:BY)(h:xN op=true):uM op=false/\x8 op=false/\kI op=false/\Zn op=false/\ZL op=false:=by
 have e:op.toList=[97,98,115,101,110,116]:=by simpa [xN] using h
 unfold uM x8 kI Zn ZL;rw[e]
 decide
theorem gU(v:V):condC v=cls (qV v).sh (qV v).pt:=by
 cases v with
 | str s=>rfl
 | word b=>rfl
 | list l=>rfl
 | obj ms=>
  simp only[condC,qV,Xi]
  cases ho:opV (zl ms bOp) with
  | none=>simp only[ite_self];rfl
  | some op=>
   simp only
   cases hk:opV (zl ms zC) with
   | none=>
    have e:qa qg (zl ms zC)=1:=by
     unfold opV at hk
     split at hk
     ·cases hk
     ·rename_i d;unfold qa
      split
      ·rename_i s c;exact absurd c (d s)
      ·rfl
    rw[e]
    have:qD [1,yj op (zl ms zA),cls (vG (zl ms bNo)) false]=1:=JL (by simp)
    rw[this];simp only[ite_self]
    rfl
   | some key=>
    have e:qa qg (zl ms zC)=cls (!qg key) false:=by
     unfold opV at hk
     split at hk
     ·rename_i s c;injection hk with hk
      subst hk;rw[c]
      rfl
     ·cases hk
    rw[e,Mh]
    by_cases ca:xN op=true
    ·obtain⟨k,g,h,i,j⟩:=eY op ca;simp only[ca,Bool.or_true,xu];rw[nW]
     have f:yj op (zl ms zA)=cls (!(zl ms zA).isNone) false:=by
      unfold yj;rw[g,h,i,j]
      cases (zl ms zA).isNone<;>rfl
     rw[f,lI]
     cases qd ms [bOp,zC,bNo,zA]<;>cases (zl ms zA).isNone<;>cases qg key<;>cases vG (zl ms bNo)<;>rfl
    ·have a:xN op=false:=by simpa using ca
     simp only[a,kY,vg,jK]
     cases ok:uM op with
     | false=>
      have:Zl op ((zG (zl ms zA)).getD [])=false:=by unfold Zl;rw[ok,Bool.and_false]
      rw[this];simp only[vg,jK,ite_self,Vl,Bool.or_true,Bool.true_or]
      rfl
     | true=>
      rw[mU op _ ok,lI];simp only[xu];generalize (!(zG (zl ms zA)).isSome || !Zl op ((zG (zl ms zA)).getD []))=A;generalize (x8 op && !((zG (zl ms zA)).getD []).all qE)=B
      cases qd ms [bOp,zC,bNo,zA]<;>cases A<;>cases B<;>cases qg key<;>cases vG (zl ms bNo)<;>rfl
def jT:Option V->Nat
 | none=>0
 | some (.list vs)=>if 5<vs.length then 1 else qD (vs.map condC)
 | some _=>1
theorem BK(x:Option V):jT x=cls (xm x).sh (xm x).pt:=by
 match x with
 | none=>rfl
 | some (.str s)=>rfl
 | some (.word b)=>rfl
 | some (.obj ms)=>rfl
 | some (.list vs)=>
  simp only[jT,xm]
  split
  ·rfl
  ·have:=JK (vs.map λv=>((qV v).sh,(qV v).pt))
   rw[ug] at this;have e:((λx:Bool×Bool=>cls x.1 x.2) ∘ λv=>((qV v).sh,(qV v).pt))=condC:=funext λv=>(gU v).symm;rw[e] at this;rw[this];simp only[Qx]
   rfl
def yo:V->Nat
 | .obj ms=>if qd ms [zF,zR,bDo,bOn,bIf] then qD [qa xW (zl ms zF),chC (zl ms zR),chC (zl ms bDo),chC (zl ms bOn),jT (zl ms bIf)] else 1
 | _=>1
theorem yu{L:Nat}{ms:List (BY×V)}(h:Good L (.obj ms))(nm:BY):∀v,zl ms nm=some v->Good L v:=by
 intro v a
 cases h with
 | obj _ d e f b=>
  unfold zl at a;obtain⟨m,c,rfl⟩:=Qb.1 a;exact b m (List.mem_of_find?_eq_some c)
theorem Fa(a b c d e f g h i j:Bool):qD [cls a f,cls b g,cls c h,cls d i,cls e j]=cls (a||b||c||d||e) (f||g||h||i||j):=by
 have:=JK [(a,f),(b,g),(c,h),(d,i),(e,j)]
 simp only[yf,Za,Jl,List.any_nil,kY] at this;rw[this];simp only[Yq]
theorem rH{L:Nat}(v:V)(h:Good L v):yo v=cls (xO v).sh (xO v).pt:=by
 cases v with
 | str s=>rfl
 | word b=>rfl
 | list l=>rfl
 | obj ms=>
  simp only[yo,xO,Xv]
  cases ho:qd ms [zF,zR,bDo,bOn,bIf] with
  | false=>rfl
  | true=>
   simp only[xu]
   cases hk:opV (zl ms zF) with
   | none=>
    have d:qa xW (zl ms zF)=1:=by
     unfold opV at hk
     split at hk
     ·cases hk
     ·rename_i c;unfold qa
      split
      ·rename_i s a;exact absurd a (c s)
      ·rfl
    rw[d];rw[JL (by simp)]
    rfl
   | some eff=>
    have d:qa xW (zl ms zF)=cls (!xW eff) false:=by
     unfold opV at hk
     split at hk
     ·rename_i s a;injection hk with hk
      subst hk;rw[a]
      rfl
     ·cases hk
    rw[d,VP _ (yu h zR),VP _ (yu h bDo),VP _ (yu h bOn),BK,Fa];simp only[QQ,Jd]
def ZJ:List Nat->Nat->Int×Nat
 | [],_=>(0,0)
 | c::cs,i=>if c=1 then (5,i+1) else if c=2 then (6,i+1) else ZJ cs (i+1)
theorem iZ{L:Nat}:∀(a:List V) (i:Nat),(∀v ∈ a,Good L v)->kH (a.map xO) i=ZJ (a.map yo) i
 | [],_,_=>rfl
 | v::a,i,h=>by
  rw[yf,yf,kH,ZJ,rH v (h v (by simp)),iZ a (i+1) (λx b=>h x (by simp[b]))]
  cases (xO v).sh<;>cases (xO v).pt<;>rfl
def qX(s:BY):Int×Nat:=
 if 4000<s.size then (1,0) else match yA s.data.toList with
  | .err e q=>(e,q)
  | .ok v _=>jU v
def Code(c:Int):Prop:=c=2\/c=3\/c=4
theorem iU(l:List UInt8):∀(f:Nat),
  (∀d p c q,qm l f d p = .err c q->Code c) /\
  (∀d p acc c q,kL l f d p acc = .err c q->Code c) /\
  (∀d p acc c q,kQ l f d p acc = .err c q->Code c)
 | 0=>by
  refine⟨λd p c q h=>?_,λd p acc c q h=>?_,λd p acc c q h=>?_⟩
  ·rw[qm] at h;injection h with h1 h2;exact .inl h1.symm
  ·rw[kL] at h;injection h with h1 h2;exact .inl h1.symm
  ·rw[kQ] at h;injection h with h1 h2;exact .inl h1.symm
 | f+1=>by
  obtain⟨i,b,g⟩:=iU l f;refine⟨λd p c q h=>?_,λd p acc c q h=>?_,λd p acc c q h=>?_⟩
  ·rw[qm] at h
   by_cases c1:zi l p=123
   ·rw[zb c1] at h
    split at h
    ·injection h with h1 h2;exact .inr (.inl h1.symm)
    split at h
    ·cases h
    ·exact g _ _ _ _ _ h
   rw[za c1] at h
   by_cases c2:zi l p=91
   ·rw[zb c2] at h
    split at h
    ·injection h with h1 h2;exact .inr (.inl h1.symm)
    split at h
    ·cases h
    ·exact b _ _ _ _ _ h
   rw[za c2] at h
   by_cases c3:zi l p=34
   ·rw[zb c3] at h
    cases hs:vX l (p+1) with
    | ok s a=>rw[hs] at h;cases h
    | err e a=>
     rw[hs] at h;injection h with h1 h2
     subst h1;exact .inl (UK hs)
   rw[za c3] at h
   by_cases c4:zi l p=116
   ·rw[zb c4] at h
    cases hw:qh l [114,117,101] (p+1) with
    | ok s a=>rw[hw] at h;cases h
    | err e a=>
     rw[hw] at h;injection h with h1 h2
     subst h1;exact .inl (Vi hw)
   rw[za c4] at h
   by_cases c5:zi l p=102
   ·rw[zb c5] at h
    cases hw:qh l [97,108,115,101] (p+1) with
    | ok s a=>rw[hw] at h;cases h
    | err e a=>
     rw[hw] at h;injection h with h1 h2
     subst h1;exact .inl (Vi hw)
   rw[za c5] at h;injection h with h1 h2
   exact .inl h1.symm
  ·rw[kL] at h
   cases hv:qm l f (d+1) p with
   | err e a=>
    rw[hv] at h;injection h with h1 h2
    subst h1;exact i _ _ _ _ hv
   | ok x a=>
    rw[hv] at h;simp only at h
    split at h
    ·exact b _ _ _ _ _ h
    split at h
    ·cases h
    ·injection h with h1 h2;exact .inl h1.symm
  ·rw[kQ] at h
   split at h
   ·injection h with h1 h2;exact .inl h1.symm
   cases hs:vX l (p+1) with
   | err e a=>
    rw[hs] at h;injection h with h1 h2
    subst h1;exact .inl (UK hs)
   | ok s j=>
    rw[hs] at h;simp only at h
    split at h
    ·injection h with h1 h2;exact .inr (.inr h1.symm)
    split at h
    ·injection h with h1 h2;exact .inl h1.symm
    cases hv:qm l f (d+1) (skip l (skip l j+1)) with
    | err e a=>
     rw[hv] at h;injection h with h1 h2
     subst h1;exact i _ _ _ _ hv
    | ok x a=>
     rw[hv] at h;simp only at h
     split at h
     ·exact g _ _ _ _ _ h
     split at h
     ·cases h
     ·injection h with h1 h2;exact .inl h1.symm
theorem Uz{l:List UInt8}{c:Int}{q:Nat}(h:yA l = .err c q):Code c:=by
 unfold yA at h
 cases hv:qm l (2*l.length+1) 1 (skip l 0) with
 | err e a=>
  rw[hv] at h;injection h with h1 h2
  subst h1;exact (iU l _).1 _ _ _ _ hv
 | ok x a=>
  rw[hv] at h;simp only at h
  split at h
  ·injection h with h1 h2;exact .inl h1.symm
  ·cases h
theorem PI(v:V):yo v<=2:=by
 cases v with
 | obj ms=>simp only[yo];split;exact YN _;decide
 | _=>simp[yo]
theorem lg:∀(cs:List Nat) (i:Nat),(∀c ∈ cs,c=0)->ZJ cs i=(0,0)
 | [],_,_=>rfl
 | c::cs,i,h=>by
  have b:=h c (by simp);rw[ZJ,za (by omega),za (by omega)];exact lg cs _ (λx a=>h x (by simp[a]))
theorem lh:∀(cs:List Nat) (i k:Nat),(a:k<cs.length)->(∀j,(h:j<k)->cs[j]=0)->cs[k]≠0->cs[k]<=2->ZJ cs i=(if cs[k]=1 then 5 else 6,i+k+1)
 | [],_,k,a,_,_,_=>by simp at a
 | c::cs,i,0,a,_,h1,h2=>by
  simp only[eF] at h1 h2 |-;rw[ZJ]
  by_cases e:c=1
  ·rw[zb e,zb e]
  ·rw[za e,zb (by omega),za e]
 | c::cs,i,k+1,a,h0,h1,h2=>by
  have b:c=0:=h0 0 (by omega);simp only[List.getElem_cons_succ] at h1 h2 |-;rw[ZJ,za (by omega),za (by omega),lh cs (i+1) k (by simpa using a) (λj d=>by have:=h0 (j+1) (by omega);simpa using this) h1 h2];have e:i+1+k+1=i+(k+1)+1:=by omega
  rw[e]
end Rd
end Go.Proofs.YtdakgnaojakldaaGreatDoor
