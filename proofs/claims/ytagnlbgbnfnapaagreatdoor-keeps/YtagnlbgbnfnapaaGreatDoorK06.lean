/- P -/
import Derived.Test.YtagnlbgbnfnapaaGreatDoorK05
set_option maxRecDepth 100000
namespace Go.Proofs.YtagnlbgbnfnapaaGreatDoor
namespace Rd
open Ref
def zm(ms:List (BY×V))(nm:BY):Option V:=(ms.find? λm=>m.1.toList==nm.toList).map Prod.snd
def jR:List V->Option (List BY)
 | []=>some []
 | .str s::vs=>(jR vs).map λl=>s::l
 | _::_=>none
def zI:Option V->Option (List BY)
 | some (.str s)=>some [s]
 | some (.list vs)=>if vs.length<1\/10<vs.length then none else jR vs
 | _=>none
def qf(ms:List (BY×V))(names:List BY):Bool:=ms.all λm=>names.any λt=>t.toList==m.1.toList
def jM:Option V->Bool×Option (List BY)
 | some (.obj ms)=>if qf ms [qM]=true/\ms.length=1 then (true,zI ((ms.map Prod.snd)[0]?)) else (false,none)
 | x=>(false,zI x)
def opV(x:Option V):Option BY:=match x with
 | some (.str s)=>some s
 | _=>none
def Zr:Option V->Bool
 | some (.word b)=>b
 | _=>false
def vJ:Option V->Bool
 | none=>false
 | some (.word _)=>false
 | _=>true
def Xm(ms:List (BY×V)):qg:=match opV (zm ms bOp),opV (zm ms zD) with
 | some op,some key=>
  if xO op then ⟨op,key,[],Zr (zm ms bNo),vJ (zm ms bNo) || !qh key || !qf ms [bOp,zD,bNo],false⟩
  else ⟨op,key,(zI (zm ms zB)).getD [],Zr (zm ms bNo),
   vJ (zm ms bNo)||(!(zI (zm ms zB)).isSome || !Zn op ((zI (zm ms zB)).getD [])) || !qh key || !qf ms [bOp,zD,bNo,zB],
   yc op && !((zI (zm ms zB)).getD []).all qF⟩
 | _,_=>yf
def qX:V->qg
 | .obj ms=>Xm ms
 | _=>yf
def xw:Option V->Vv
 | none=>⟨[],false,false⟩
 | some (.list vs)=>if 5<vs.length then ⟨[],true,false⟩ else ⟨vs.map qX,(vs.map qX).any qg.sh,(vs.map qX).any qg.pt⟩
 | some _=>⟨[],true,false⟩
theorem Vf{ns:List Ref.Node}{i:Nat}{v:V}(h:Rep ns i v):∃n,ns[i]?=some n:=by
 cases h with
 | str _ n _ h=>exact⟨n,h⟩
 | word _ n _ h=>exact⟨n,h⟩
 | list _ n _ h=>exact⟨n,h⟩
 | obj _ n _ h=>exact⟨n,h⟩
theorem mF(ns:List Ref.Node)(nm:BY):∀(ms:List (BY×V)) (ks:List Nat),ks.length=ms.length->(∀(j k:Nat) (x:BY×V),ks[j]?=some k->ms[j]?=some x->Rep ns k x.2) ->
  (zm ms nm=none/\jB (ms.map Prod.fst) ks nm = -1)\/∃v k,zm ms nm=some v/\jB (ms.map Prod.fst) ks nm=((k:Nat):Int)/\Rep ns k v
 | [],ks,_,_=>by left;exact⟨rfl,by simp[jB]⟩
 | m::ms,[],hl,_=>by simp at hl
 | m::ms,k::ks,hl,h=>by
  unfold zm;simp only[yh,jB,Jq]
  by_cases e:(m.1.toList==nm.toList)=true
  ·rw[e]
   right
   exact⟨m.2,k,rfl,by simp,h 0 k m rfl rfl⟩
  ·have a:(m.1.toList==nm.toList)=false:=by simpa using e
   rw[a];simp only[vo,jN];exact mF ns nm ms ks (by simpa using hl) (λj d x b c=>h (j+1) d x (by simpa using b) (by simpa using c))
theorem ZM{ns:List Ref.Node}{i:Nat}{n:Ref.Node}{ms:List (BY×V)}(h:Rep ns i (.obj ms))(e:ns[i]?=some n)(nm:BY) :
  (zm ms nm=none/\zq n nm = -1)\/∃v k,zm ms nm=some v/\zq n nm=((k:Nat):Int)/\Rep ns k v:=by
 cases h with
 | obj _ j _ a f b c g d=>
  rw[e] at a;injection a with a
  subst a;unfold zq;rw[b];exact mF ns nm ms n.kids c d
theorem YU{ns:List Ref.Node}{i:Nat}{n:Ref.Node}{v:V}(h:Rep ns i v)(e:ns[i]?=some n)(k:∀ms,v ≠ .obj ms)(nm:BY):zq n nm = -1/\n.kind≠1/\n.names=[]:=by
 have key:n.names=[]/\n.kind≠1:=by
  cases h with
  | str _ f _ a c d g j=>rw[e] at a;injection a with a;subst a;exact⟨j,by omega⟩
  | word _ f b a c d g=>rw[e] at a;injection a with a;subst a;exact⟨g,by cases b<;>simp at c<;>omega⟩
  | list _ f _ a c d=>rw[e] at a;injection a with a;subst a;exact⟨d,by omega⟩
  | obj _ f ms=>exact absurd rfl (k ms)
 refine⟨?_,key.2,key.1⟩;unfold zq;rw[key.1];simp[jB]
theorem Uh{ns:List Ref.Node}{k:Nat}{v:V}(h:Rep ns k v):(kindOf ns k=1↔∃ms,v = .obj ms)/\(kindOf ns k=2↔∃d,v = .list d)/\(kindOf ns k=3↔∃s,v = .str s)/\(kindOf ns k=4↔v = .word true)/\(kindOf ns k=5↔v = .word false)/\(∀s,v = .str s->textOf ns k=s):=by
 unfold kindOf textOf;rw[show ((k:Int)).toNat=k by simp]
 cases h with
 | str _ n s c a e=>rw[c];simp[a,e]
 | word _ n b c a=>rw[c];cases b<;>simp at a<;>simp[a]
 | list _ n d c a=>rw[c];simp[a]
 | obj _ n ms c a=>rw[c];simp[a]
theorem sN(ns:List Ref.Node):∀(d:List V) (ks:List Nat),ks.length=d.length->(∀(j k:Nat) (v:V),ks[j]?=some k->d[j]?=some v->Rep ns k v)->vg ns ks=jR d
 | [],[],_,_=>rfl
 | [],k::ks,hl,_=>by simp at hl
 | v::d,[],hl,_=>by simp at hl
 | v::d,k::ks,hl,h=>by
  have e:=h 0 k v rfl rfl;have g:=sN ns d ks (by simpa using hl) (λj i x c a=>h (j+1) i x (by simpa using c) (by simpa using a));rw[vg,g]
  cases e with
  | str _ n s c a f=>rw[c];simp[a,f,jR]
  | word _ n b c a=>rw[c];cases b<;>simp at a<;>simp[a,jR]
  | list _ n l c a=>rw[c];simp[a,jR]
  | obj _ n ms c a=>rw[c];simp[a,jR]
theorem dM{ns:List Ref.Node}{k:Nat}{v:V}(h:Rep ns k v):qK ns k=zI (some v):=by
 unfold qK;rw[za (by omega),show ((k:Int)).toNat=k by simp]
 cases h with
 | str _ n s d a f=>rw[d];simp[a,f,zI]
 | word _ n b d a=>rw[d];cases b<;>simp at a<;>simp[a,zI]
 | list _ n e d a f g j i=>
  rw[d];simp only[a,zI];rw[za (by decide),g]
  by_cases c:e.length<1\/10<e.length
  ·rw[zb (.inr c),zb c]
  ·rw[za (by simpa using c),za c];exact sN ns e n.kids g i
 | obj _ n ms d a=>rw[d];simp[a,zI]
theorem RL(ns:List Ref.Node):qK ns (-1)=zI none:=by
 unfold qK;rw[zb (by decide)];rfl
theorem Uw{ns:List Ref.Node}{i:Nat}{n:Ref.Node}{ms:List (BY×V)}(h:Rep ns i (.obj ms))(d:ns[i]?=some n)(names:List BY):yB n names=qf ms names:=by
 cases h with
 | obj _ j _ a b c e f g=>
  rw[d] at a;injection a with a
  subst a;unfold yB qf;rw[c,b,List.all_map];simp[Function.comp_def]
theorem BC{ns:List Ref.Node}{k:Nat}{v:V}(h:Rep ns k v):yG ns k=jM (some v):=by
 have t:=dM h;have g:=Uh h;obtain⟨n,f⟩:=Vf h;unfold yG;rw[za (by omega),show ((k:Int)).toNat=k by simp,f];simp only;have i:kindOf ns k=n.kind:=by unfold kindOf;rw[show ((k:Int)).toNat=k by simp,f]
 rw[i] at g
 by_cases c:n.kind=1
 ·rw[zb c];obtain⟨ms,rfl⟩:=g.1.1 c;rw[Uw h f]
  cases h with
  | obj _ y _ d u p w x q=>
   rw[f] at d;injection d with d
   subst d;have r:n.names.length=ms.length:=by rw[p];simp
   unfold jM;simp only;rw[r]
   by_cases c2:qf ms [qM]=true/\ms.length=1
   ·rw[zb c2,zb c2];have o:0<ms.length:=by omega
    have a:n.kids[0]?=some (n.kids[0]'(by omega)):=zn (by omega);have b:ms[0]?=some ms[0]:=zn o;have s:=dM (q 0 _ _ a b);have l:n.kids.getD 0 0=n.kids[0]'(by omega):=by rw[zY,a];rfl
    have m:(ms.map Prod.snd)[0]?=some ms[0].2:=by rw[vz,b];rfl
    rw[l,m,s]
   ·rw[za c2,za c2]
 ·rw[za c];have j:∀ms,v ≠ .obj ms:=λms e=>c (g.1.2 ⟨ms,e⟩);rw[t]
  cases v with
  | obj ms=>exact absurd rfl (j ms)
  | _=>rfl
theorem BB(ns:List Ref.Node):yG ns (-1)=jM none:=by
 unfold yG;rw[zb (by decide)];rfl
def jL(ns:List Ref.Node)(h:Int)(x:Option V):Prop:=(x=none/\h = -1)\/∃v k,x=some v/\h=((k:Nat):Int)/\Rep ns k v
theorem jL.strings{ns:List Ref.Node}{h:Int}{x:Option V}(r:jL ns h x):qK ns h=zI x:=by
 rcases r with ⟨rfl,rfl⟩|⟨v,k,rfl,rfl,hr⟩
 ·exact RL ns
 ·exact dM hr
theorem jL.choice{ns:List Ref.Node}{h:Int}{x:Option V}(r:jL ns h x):yG ns h=jM x:=by
 rcases r with ⟨rfl,rfl⟩|⟨v,k,rfl,rfl,hr⟩
 ·exact BB ns
 ·exact BC hr
theorem jL.noT{ns:List Ref.Node}{h:Int}{x:Option V}(r:jL ns h x):Ref.noT ns h=Zr x/\Ref.vW ns h=vJ x:=by
 rcases r with ⟨rfl,rfl⟩|⟨v,k,rfl,rfl,hr⟩
 ·exact⟨rfl,rfl⟩
 ·have a:=Uh hr;unfold Ref.noT Ref.vW
  cases v with
  | word b=>
   cases b with
   | true=>
    have:=a.2.2.2.1.2 rfl
    rw[this];simp[Zr,vJ]
   | false=>
    have:=a.2.2.2.2.1.2 rfl
    rw[this];simp[Zr,vJ]
  | str s=>
   have:=a.2.2.1.2 ⟨s,rfl⟩
   rw[this];simp[Zr,vJ]
  | list l=>
   have:=a.2.1.2 ⟨l,rfl⟩
   rw[this];simp[Zr,vJ]
  | obj l=>
   have:=a.1.2 ⟨l,rfl⟩
   rw[this];simp[Zr,vJ]
theorem jL.op{ns:List Ref.Node}{h:Int}{x:Option V}(r:jL ns h x):(opV x=none/\(h<0\/kindOf ns h≠3))\/∃s,opV x=some s/\0<=h/\kindOf ns h=3/\textOf ns h=s:=by
 rcases r with ⟨rfl,rfl⟩|⟨v,k,rfl,rfl,hr⟩
 ·left;exact⟨rfl,.inl (by decide)⟩
 ·have a:=Uh hr
  cases v with
  | str s=>right;exact⟨s,rfl,by omega,a.2.2.1.2 ⟨s,rfl⟩,a.2.2.2.2.2 s rfl⟩
  | word b=>left;exact⟨rfl,.inr (λe=>by obtain⟨s,c⟩:=a.2.2.1.1 e;cases c)⟩
  | list l=>left;exact⟨rfl,.inr (λe=>by obtain⟨s,c⟩:=a.2.2.1.1 e;cases c)⟩
  | obj l=>left;exact⟨rfl,.inr (λe=>by obtain⟨s,c⟩:=a.2.2.1.1 e;cases c)⟩
theorem BZ{ns:List Ref.Node}{k:Nat}{n:Ref.Node}{v:V}(h:Rep ns k v)(a:ns[k]?=some n):kI ns n=qX v:=by
 by_cases ho:∃ms,v = .obj ms
 ·obtain⟨ms,rfl⟩:=ho;have i:jL ns (zq n bOp) (zm ms bOp):=ZM h a bOp;have j:jL ns (zq n zD) (zm ms zD):=ZM h a zD;have l:jL ns (zq n bNo) (zm ms bNo):=ZM h a bNo;have m:jL ns (zq n zB) (zm ms zB):=ZM h a zB;have f:=m.strings;obtain⟨b,c⟩:=l.noT;show kI ns n=Xm ms;unfold kI Xm;rw[Uw h a,Uw h a,f,b,c]
  rcases i.op with ⟨e1,c1⟩|⟨s1,e1,a1,b1,t1⟩
  ·rw[zb (by rcases c1 with c1|c1;exact .inl c1;exact .inr (.inr (.inl c1))),e1]
  rcases j.op with ⟨e2,c2⟩|⟨s2,e2,a2,b2,t2⟩
  ·rw[zb (by rcases c2 with c2|c2;exact .inr (.inl c2);exact .inr (.inr (.inr c2))),e1,e2]
  rw[za (by omega),e1,e2,t1,t2]
 ·have d:∀ms,v ≠ .obj ms:=λms e=>ho ⟨ms,e⟩;have g:=(YU h a d bOp).1;unfold kI;rw[zb (.inl (by rw[g];decide))]
  cases v with
  | obj ms=>exact absurd rfl (d ms)
  | _=>rfl
theorem iH(ns:List Ref.Node):∀(a:List V) (ks:List Nat),ks.length=a.length->(∀(j k:Nat) (v:V),ks[j]?=some k->a[j]?=some v->Rep ns k v)->ym ns ks=a.map qX
 | [],[],_,_=>rfl
 | [],k::ks,hl,_=>by simp at hl
 | v::a,[],hl,_=>by simp at hl
 | v::a,k::ks,hl,h=>by
  have b:=h 0 k v rfl rfl;have d:=iH ns a ks (by simpa using hl) (λj g x e f=>h (j+1) g x (by simpa using e) (by simpa using f));unfold ym at d |-;rw[yh,yh,d];obtain⟨n,c⟩:=Vf b;rw[c];simp only;rw[BZ b c]
theorem jL.conds{ns:List Ref.Node}{h:Int}{x:Option V}(r:jL ns h x):Ql ns h=xw x:=by
 rcases r with ⟨rfl,rfl⟩|⟨v,k,rfl,rfl,hr⟩
 ·unfold Ql;rw[zb (by decide)];rfl
 ·unfold Ql;rw[za (by omega),show ((k:Int)).toNat=k by simp]
  cases hr with
  | str _ n s d a g=>rw[d];simp[a,xw]
  | word _ n b d a=>rw[d];cases b<;>simp at a<;>simp[a,xw]
  | obj _ n ms d a=>rw[d];simp[a,xw]
  | list _ n f d a g e j i=>
   rw[d];simp only[xw];rw[a,e,iH ns f n.kids e i]
   by_cases c:5<f.length
   ·rw[zb (.inr c),zb c]
   ·rw[za (by omega),za c]
structure qa where
 eff:BY
 who:Bool×List BY
 act:Bool×List BY
 on:Bool×List BY
 cs:List qg
 sh:Bool
 pt:Bool
def zH:BY:=⟨#[101,102,102,101,99,116]⟩
def zS:BY:=⟨#[119,104,111]⟩
def bDo:BY:=⟨#[100,111]⟩
def bOn:BY:=⟨#[111,110]⟩
def bIf:BY:=⟨#[105,102]⟩
def yF:BY:=⟨#[115,116,97,116,101,109,101,110,116]⟩
def xX(s:BY):Bool:=(s.toList==[97,108,108,111,119])||(s.toList==[100,101,110,121])
def ji:qa:=⟨⟨#[]⟩,(false,[]),(false,[]),(false,[]),[],true,false⟩
def chD(c:Bool×Option (List BY)):Bool×List BY:=(c.1,c.2.getD [])
def chP(c:Bool×Option (List BY)):Bool:=!((c.2.getD []).all qF)
def QT(eff:BY)(a b c:Bool×Option (List BY))(cs:Vv):qa:=
 ⟨eff,chD a,chD b,chD c,cs.cs,!xX eff || !a.2.isSome || !b.2.isSome || !c.2.isSome||cs.sh,chP a||chP b||chP c||cs.pt⟩
def uU(ns:List Ref.Node)(n:Ref.Node):qa:=
 if yB n [zH,zS,bDo,bOn,bIf]=false\/zq n zH<0\/kindOf ns (zq n zH)≠3 then ji
 else QT (textOf ns (zq n zH)) (yG ns (zq n zS)) (yG ns (zq n bDo)) (yG ns (zq n bOn)) (Ql ns (zq n bIf))
def XB(ms:List (BY×V)):qa:=match qf ms [zH,zS,bDo,bOn,bIf],opV (zm ms zH) with
 | true,some eff=>QT eff (jM (zm ms zS)) (jM (zm ms bDo)) (jM (zm ms bOn)) (xw (zm ms bIf))
 | _,_=>ji
def xP:V->qa
 | .obj ms=>XB ms
 | _=>ji
theorem Rm{ns:List Ref.Node}{k:Nat}{n:Ref.Node}{v:V}(h:Rep ns k v)(a:ns[k]?=some n):uU ns n=xP v:=by
 by_cases ho:∃ms,v = .obj ms
 ·obtain⟨ms,rfl⟩:=ho;have d:jL ns (zq n zH) (zm ms zH):=ZM h a zH;have f:jL ns (zq n zS) (zm ms zS):=ZM h a zS;have g:jL ns (zq n bDo) (zm ms bDo):=ZM h a bDo;have i:jL ns (zq n bOn) (zm ms bOn):=ZM h a bOn;have j:jL ns (zq n bIf) (zm ms bIf):=ZM h a bIf;show uU ns n=XB ms;unfold uU XB;rw[Uw h a,f.choice,g.choice,i.choice,j.conds]
  cases ho:qf ms [zH,zS,bDo,bOn,bIf] with
  | false=>rw[zb (.inl rfl)]
  | true=>
   rcases d.op with ⟨e1,c1⟩|⟨s1,e1,a1,b1,t1⟩
   ·rw[zb (.inr c1),e1]
   ·rw[za (by simp;omega),e1,t1]
 ·have b:∀ms,v ≠ .obj ms:=λms e=>ho ⟨ms,e⟩;have c:=(YU h a b zH).1;unfold uU;rw[zb (.inr (.inl (by rw[c];decide)))]
  cases v with
  | obj ms=>exact absurd rfl (b ms)
  | _=>rfl
def kL:List qa->Nat->Int×Nat
 | [],_=>(0,0)
 | r::rs,i=>if r.sh then (5,i+1) else if r.pt then (6,i+1) else kL rs (i+1)
def jX:V->Int×Nat
 | .obj ms=>match zm ms yF with
  | some (.list vs)=>if ms.length≠1\/vs.length<1\/10<vs.length then (5,0) else kL (vs.map xP) 0
  | _=>(5,0)
 | _=>(5,0)
def vY(ns:List Ref.Node)(ks:List Nat):List qa:=ks.map λk=>match ns[k]? with
 | some n=>uU ns n
 | none=>ji
def JK(ns:List Ref.Node)(root:Nat):Int×Nat:=match ns[root]? with
 | none=>(5,0)
 | some r=>if r.kind≠1\/r.names.length≠1\/zq r yF<0 then (5,0) else match ns[(zq r yF).toNat]? with
  | none=>(5,0)
  | some n=>if n.kind≠2\/n.kids.length<1\/10<n.kids.length then (5,0) else kL (vY ns n.kids) 0
theorem dJ(ns:List Ref.Node):∀(a:List V) (ks:List Nat),ks.length=a.length->(∀(j k:Nat) (v:V),ks[j]?=some k->a[j]?=some v->Rep ns k v)->vY ns ks=a.map xP
 | [],[],_,_=>rfl
 | [],k::ks,hl,_=>by simp at hl
 | v::a,[],hl,_=>by simp at hl
 | v::a,k::ks,hl,h=>by
  have b:=h 0 k v rfl rfl;have d:=dJ ns a ks (by simpa using hl) (λj g x e f=>h (j+1) g x (by simpa using e) (by simpa using f));unfold vY at d |-;rw[yh,yh,d];obtain⟨n,c⟩:=Vf b;rw[c];simp only;rw[Rm b c]
theorem Dw{ns:List Ref.Node}{k:Nat}{v:V}(h:Rep ns k v):JK ns k=jX v:=by
 obtain⟨r,f⟩:=Vf h;have i:=Uh h;have l:kindOf ns k=r.kind:=by unfold kindOf;rw[show ((k:Int)).toNat=k by simp,f]
 rw[l] at i;unfold JK;rw[f];simp only
 by_cases ho:∃ms,v = .obj ms
 ·obtain⟨ms,rfl⟩:=ho;have a:=i.1.2 ⟨ms,rfl⟩
  have u:r.names.length=ms.length:=by
   cases h with
   | obj _ z _ a d o=>rw[f] at a;injection a with a;subst a;rw[o];simp
  rw[u];unfold jX;simp only
  rcases ZM h f yF with ⟨e,c⟩|⟨x,j,e,c,hx⟩
  ·rw[zb (.inr (.inr (by rw[c];decide))),e]
  ·rw[e,c]
   by_cases c1:ms.length=1
   ·rw[za (by omega),show (((j:Nat):Int)).toNat=j by simp]
    cases hx with
    | str _ n s a d o=>rw[a];simp[d]
    | word _ n b a d=>rw[a];cases b<;>simp at d<;>simp[d]
    | obj _ n ms a d=>rw[a];simp[d]
    | list _ n g p q w m y t=>
     rw[p];simp only;rw[q,m,dJ ns g n.kids m t]
     by_cases c2:g.length<1\/10<g.length
     ·rw[zb (.inr c2),zb (.inr c2)]
     ·rw[za (by omega),za (by omega)]
   ·rw[zb (.inr (.inl c1))]
    cases x with
    | list g=>simp only;rw[zb (.inl c1)]
    | _=>rfl
 ·rw[zb (.inl (λe=>ho (i.1.1 e)))]
  cases v with
  | obj ms=>exact absurd ⟨ms,rfl⟩ ho
  | _=>rfl
def cls(sh pt:Bool):Nat:=if sh then 1 else if pt then 2 else 0
def qE(l:List Nat):Nat:=if l.any (λc=>c==1) then 1 else if l.any (λc=>c==2) then 2 else 0
theorem BN(sh pt:Bool):(cls sh pt==1)=sh:=by cases sh<;>cases pt<;>rfl
theorem BO(pt:Bool):(cls false pt==2)=pt:=by cases pt<;>rfl
theorem JR:∀(l:List (Bool×Bool)),qE (l.map λx=>cls x.1 x.2)=cls (l.any Prod.fst) (l.any Prod.snd):=by
 intro l
 have b:(l.map λx=>cls x.1 x.2).any (λc=>c==1)=l.any Prod.fst:=by
  rw[QB];exact congrArg (λf=>l.any f) (funext λx=>BN x.1 x.2)
 unfold qE;rw[b]
 cases h:l.any Prod.fst with
 | true=>rfl
 | false=>
  have d:(l.map λx=>cls x.1 x.2).any (λc=>c==2)=l.any Prod.snd:=by
   rw[Yy] at h;clear b
   induction l with
   | nil=>rfl
   | cons a r i=>
    have e:a.1=false:=by have:=h a (by simp);simpa using this
    rw[yh,Jp,Jp,i (λx g=>h x (by simp[g])),e,BO]
  rw[d]
  rfl
theorem mr(c:Nat)(h:c<=2):qE [c]=c:=by
 have:c=0\/c=1\/c=2:=by omega
 rcases this with rfl|rfl|rfl<;>rfl
theorem iA(sh pt:Bool):cls sh pt<=2:=by cases sh<;>cases pt<;>decide
theorem YS(l:List Nat):qE l<=2:=by unfold qE;split;decide;split<;>decide
def qJ(c:Option V->Nat):Option V->Nat
 | some (.list vs)=>if vs.length<1\/10<vs.length then 1 else qE (vs.map λv=>c (some v))
 | x=>qE [c x]
def qN(f:Option V->BY):Option V->List BY
 | some (.list vs)=>if vs.length<1\/10<vs.length then [] else vs.map λv=>f (some v)
 | x=>[f x]
def strOf:Option V->BY
 | some (.str s)=>s
 | _=>⟨#[]⟩
def jl:Option V->Nat
 | some (.str s)=>cls false (!qF s)
 | _=>1
def qb(f:BY->Bool):Option V->Nat
 | some (.str s)=>cls (!f s) false
 | _=>1
def qV(f:BY->Bool):Option V->BY
 | some (.str s)=>if f s then s else ⟨#[]⟩
 | _=>⟨#[]⟩
theorem Vi:∀(a:List V),(∃l,jR a=some l/\a=l.map .str)\/(jR a=none/\∃v ∈ a,∀s,v ≠ .str s)
 | [] => .inl ⟨[],rfl,rfl⟩
 | v::a=>by
  cases v with
  | str s=>
   rcases Vi a with ⟨l,h1,h2⟩|⟨h1,v,hv,h2⟩
   ·left;exact⟨s::l,by simp[jR,h1],by simp[h2]⟩
   ·right;exact⟨by simp[jR,h1],v,by simp[hv],h2⟩
  | word b=>right;exact⟨rfl,.word b,by simp,λs e=>by cases e⟩
  | list l=>right;exact⟨rfl,.list l,by simp,λs e=>by cases e⟩
  | obj l=>right;exact⟨rfl,.obj l,by simp,λs e=>by cases e⟩
theorem JS{l:List Nat}(h:1 ∈ l):qE l=1:=by
 unfold qE;rw[zb];rw[Xd];exact⟨1,h,rfl⟩
theorem FL(f:BY->Bool)(l:List BY):qE (l.map λs=>cls false (!f s))=cls false (!l.all f):=by
 have:=JR (l.map λs=>(false,!f s))
 rw[ui] at this;have e:((λx:Bool×Bool=>cls x.1 x.2) ∘ λs=>(false,!f s))=λs=>cls false (!f s):=rfl;rw[e] at this;rw[this];have a:(l.map λs=>(false,!f s)).any Prod.fst=false:=by rw[QB,Yy];intro x _;simp
 have b:(l.map λs=>(false,!f s)).any Prod.snd = !l.all f:=by rw[QB,List.not_all_eq_any_not];rfl
 rw[a,b]
theorem FM(f:BY->Bool)(l:List BY):qE (l.map λs=>cls (!f s) false)=cls (!l.all f) false:=by
 have:=JR (l.map λs=>(!f s,false))
 rw[ui] at this;have e:((λx:Bool×Bool=>cls x.1 x.2) ∘ λs=>(!f s,false))=λs=>cls (!f s) false:=rfl;rw[e] at this;rw[this];have a:(l.map λs=>(!f s,false)).any Prod.snd=false:=by rw[QB,Yy];intro x _;simp
 have b:(l.map λs=>(!f s,false)).any Prod.fst = !l.all f:=by rw[QB,List.not_all_eq_any_not];rfl
 rw[a,b]
theorem Y1(x:Option V):qJ jl x=cls (!(zI x).isSome) (!((zI x).getD []).all qF):=by
 have a:∀x:Option V,zI x=none->jl x=1->(∀d,x≠some (.list d))->qJ jl x=cls (!(zI x).isSome) (!((zI x).getD []).all qF):=by
  intro x h e f;rw[h];unfold qJ
  split
  ·rename_i d;exact absurd rfl (f d)
  ·rw[e];rfl
 match x with
 | none=>exact a none rfl rfl (by simp)
 | some (.word b)=>exact a _ rfl rfl (by simp)
 | some (.obj ms)=>exact a _ rfl rfl (by simp)
 | some (.str s)=>
  show qE [jl (some (.str s))]=_;simp only[jl,zI,QD,Jy,Kc,List.all_nil,Yr,Vu];exact mr _ (iA _ _)
 | some (.list d)=>
  simp only[qJ,zI]
  by_cases c:d.length<1\/10<d.length
  ·rw[zb c,zb c];rfl
  ·rw[za c,za c]
   rcases Vi d with ⟨l,e,rfl⟩|⟨e,v,hv,f⟩
   ·rw[e,ui];exact FL qF l
   ·rw[e];rw[JS]
    ·rfl
    ·rw[xR];refine⟨v,hv,?_⟩
     cases v with
     | str s=>exact absurd rfl (f s)
     | _=>rfl
theorem Ut(f:BY->Bool)(x:Option V):qJ (qb f) x=cls (!(zI x).isSome || !((zI x).getD []).all f) false:=by
 have a:∀x:Option V,zI x=none->qb f x=1->(∀d,x≠some (.list d))->qJ (qb f) x=cls (!(zI x).isSome || !((zI x).getD []).all f) false:=by
  intro x h e g;rw[h];unfold qJ
  split
  ·rename_i d;exact absurd rfl (g d)
  ·rw[e];rfl
 match x with
 | none=>exact a none rfl rfl (by simp)
 | some (.word b)=>exact a _ rfl rfl (by simp)
 | some (.obj ms)=>exact a _ rfl rfl (by simp)
 | some (.str s)=>
  show qE [qb f (some (.str s))]=_;simp only[qb,zI,QD,Jy,Kc,List.all_nil,Yr,Vu,Ji];exact mr _ (iA _ _)
 | some (.list d)=>
  simp only[qJ,zI]
  by_cases c:d.length<1\/10<d.length
  ·rw[zb c,zb c];rfl
  ·rw[za c,za c]
   rcases Vi d with ⟨l,e,rfl⟩|⟨e,v,hv,g⟩
   ·rw[e,ui];exact FM f l
   ·rw[e];rw[JS]
    ·rfl
    ·rw[xR];refine⟨v,hv,?_⟩
     cases v with
     | str s=>exact absurd rfl (g s)
     | _=>rfl
theorem oG(x:Option V)(h:(zI x).isSome):qN strOf x=(zI x).getD []:=by
 match x with
 | none=>simp[zI] at h
 | some (.word b)=>simp[zI] at h
 | some (.obj ms)=>simp[zI] at h
 | some (.str s)=>rfl
 | some (.list vs)=>
  simp only[qN,zI] at h |-
  by_cases c:vs.length<1\/10<vs.length
  ·rw[zb c] at h;simp at h
  ·rw[za c] at h |-;rw[za c]
   rcases Vi vs with ⟨l,h1,rfl⟩|⟨h1,v,hv,h2⟩
   ·rw[h1,ui];exact List.map_id' l
   ·rw[h1] at h;simp at h
theorem Mx(f:BY->Bool)(x:Option V)(h:(zI x).isSome)(a:((zI x).getD []).all f=true):qN (qV f) x=(zI x).getD []:=by
 match x with
 | none=>simp[zI] at h
 | some (.word b)=>simp[zI] at h
 | some (.obj ms)=>simp[zI] at h
 | some (.str s)=>
  simp only[zI,QD,Kc,List.all_nil,Yr] at a;simp[qN,qV,a,zI]
 | some (.list vs)=>
  simp only[qN,zI] at h a |-
  by_cases c:vs.length<1\/10<vs.length
  ·rw[zb c] at h;simp at h
  ·rw[za c] at h a |-;rw[za c]
   rcases Vi vs with ⟨l,h1,rfl⟩|⟨h1,v,hv,h2⟩
   ·rw[h1] at a |-;rw[ui];simp only[QD] at a |-
    have:∀s ∈ l,((λv=>qV f (some v)) ∘ V.str) s=s:=by
     intro s d;rw[Yx] at a;simp[qV,a s d]
    rw[Kn this];exact List.map_id' l
   ·rw[h1] at h;simp at h
inductive Good (L:Nat):V->Prop
 | str (s:BY):s.size<=L->Good L (.str s)
 | word (b:Bool):Good L (.word b)
 | list (vs:List V):vs.length<=L->(∀v ∈ vs,Good L v)->Good L (.list vs)
 | obj (ms:List (BY×V)):ms.length<=L->(ms.map λm=>m.1.toList).Nodup->(∀m ∈ ms,m.1.size<=L)->(∀m ∈ ms,Good L m.2)->Good L (.obj ms)
theorem ed{l:List UInt8}:∀{r:List Nat} {p q:Nat} {u:Unit},qi l r p = .ok u q->(∀b ∈ r,b≠0)->p<=l.length->p<=q/\q<=l.length
 | [],p,q,u,h,_,hp=>by
  rw[qi] at h;injection h with h1 h2
  omega
 | b::r,p,q,u,h,hb,hp=>by
  rw[qi] at h
  split at h
  ·rename_i c;have e:b≠0:=hb b (by simp);have a:=qj l p (by omega)
   have:=ed h (λx d=>hb x (by simp[d])) (by omega)
   omega
  ·cases h
theorem mi(l:List UInt8):∀(f:Nat),
  (∀d p v q,qm l f d p = .ok v q->Good l.length v/\p<q/\q<=l.length) /\
  (∀d p acc v q,kR l f d p acc = .ok v q->acc.length<=p->(∀x ∈ acc,Good l.length x)->Good l.length v/\p<q/\q<=l.length) /\
  (∀d p acc v q,kU l f d p acc = .ok v q->acc.length<=p->(acc.map λm=>m.1.toList).Nodup->(∀x ∈ acc,x.1.size<=l.length/\Good l.length x.2)->Good l.length v/\p<q/\q<=l.length)
 | 0=>by
  refine⟨λd p v q h=>?_,λd p acc v q h=>?_,λd p acc v q h=>?_⟩
  ·rw[qm] at h;cases h
  ·rw[kR] at h;cases h
  ·rw[kU] at h;cases h
 | f+1=>by
  obtain⟨w,t,u⟩:=mi l f;refine⟨λd p v q h=>?_,λd p acc v q h z C=>?_,λd p acc v q h z K C=>?_⟩
  ·rw[qm] at h;have L:=yX l (p+1)
   by_cases c1:zk l p=123
   ·rw[zb c1] at h
    split at h
    ·cases h
    split at h
    ·rename_i k;injection h with h1 h2
     subst h1
     have:=qj l (skip l (p+1)) (by omega)
     exact⟨.obj [] (zG _) (by simp) (by simp) (by simp),by omega,by omega⟩
    ·obtain⟨a,b,c⟩:=u _ _ _ _ _ h (by simp) (by simp) (by simp);exact⟨a,by omega,c⟩
   rw[za c1] at h
   by_cases c2:zk l p=91
   ·rw[zb c2] at h
    split at h
    ·cases h
    split at h
    ·rename_i k;injection h with h1 h2
     subst h1
     have:=qj l (skip l (p+1)) (by omega)
     exact⟨.list [] (zG _) (by simp),by omega,by omega⟩
    ·obtain⟨a,b,c⟩:=t _ _ _ _ _ h (by simp) (by simp);exact⟨a,by omega,c⟩
   rw[za c2] at h
   by_cases c3:zk l p=34
   ·rw[zb c3] at h;have n:yJ l p=vZ l (p+1):=by unfold yJ;rw[zb c3]
    cases hs:vZ l (p+1) with
    | err c g=>rw[hs] at h;cases h
    | ok s g=>
     rw[hs] at h;injection h with h1 h2
     subst h1;subst h2;rw[hs] at n;have H:=UC n;have G:=UD n;exact⟨.str s (by omega),by omega,G⟩
   rw[za c3] at h
   by_cases c4:zk l p=116
   ·rw[zb c4] at h;have D:=qj l p (by omega)
    cases hw:qi l [114,117,101] (p+1) with
    | err c g=>rw[hw] at h;cases h
    | ok s g=>
     rw[hw] at h;injection h with h1 h2
     subst h1;subst h2
     have:=ed hw (by decide) (by omega)
     exact⟨.word true,by omega,this.2⟩
   rw[za c4] at h
   by_cases c5:zk l p=102
   ·rw[zb c5] at h;have D:=qj l p (by omega)
    cases hw:qi l [97,108,115,101] (p+1) with
    | err c g=>rw[hw] at h;cases h
    | ok s g=>
     rw[hw] at h;injection h with h1 h2
     subst h1;subst h2
     have:=ed hw (by decide) (by omega)
     exact⟨.word false,by omega,this.2⟩
   rw[za c5] at h
   cases h
  ·rw[kR] at h
   cases hv:qm l f (d+1) p with
   | err c g=>rw[hv] at h;cases h
   | ok x g=>
    rw[hv] at h;simp only at h;obtain⟨B,I,J⟩:=w _ _ _ _ hv;have N:=yX l g
    have i:∀y ∈ acc++[x],Good l.length y:=by
     intro y j
     rcases jy.1 j with j|j
     ·exact C y j
     ·simp only[xL] at j;subst j;exact B
    split at h
    ·have O:=yX l (skip l g+1);obtain⟨a,b,c⟩:=t _ _ _ _ _ h (by simp;omega) i;exact⟨a,by omega,c⟩
    split at h
    ·rename_i k;injection h with h1 h2
     subst h1
     have:=qj l (skip l g) (by omega)
     exact⟨.list _ (by simp;omega) i,by omega,by omega⟩
    ·cases h
  ·rw[kU] at h
   split at h
   ·cases h
   rename_i c3;have A:zk l p=34:=by omega
   have n:yJ l p=vZ l (p+1):=by unfold yJ;rw[zb A]
   cases hs:vZ l (p+1) with
   | err c g=>rw[hs] at h;cases h
   | ok s F=>
    rw[hs] at h;rw[hs] at n;simp only at h;have H:=UC n;have G:=UD n
    split at h
    ·cases h
    rename_i E
    split at h
    ·cases h
    cases hv:qm l f (d+1) (skip l (skip l F+1)) with
    | err c g=>rw[hv] at h;cases h
    | ok x g=>
     rw[hv] at h;simp only at h;obtain⟨B,I,J⟩:=w _ _ _ _ hv;have P:=yX l F;have M:=yX l (skip l F+1);have N:=yX l g
     have i:∀y ∈ acc++[(s,x)],y.1.size<=l.length/\Good l.length y.2:=by
      intro y j
      rcases jy.1 j with j|j
      ·exact C y j
      ·simp only[xL] at j;subst j;exact⟨by simp only;omega,B⟩
     have r:((acc++[(s,x)]).map λm=>m.1.toList).Nodup:=by
      rw[uG,List.nodup_append];refine⟨K,by simp,?_⟩;intro a z b hb;simp only[yh,Zc,xL] at hb;subst hb;rw[xR] at z;obtain⟨m,o,rfl⟩:=z;intro e;apply E;rw[Xd];exact⟨m,o,by simp[e]⟩
     split at h
     ·have O:=yX l (skip l g+1);obtain⟨a,b,c⟩:=u _ _ _ _ _ h (by simp;omega) r i;exact⟨a,by omega,c⟩
     split at h
     ·rename_i k;injection h with h1 h2
      subst h1
      have:=qj l (skip l g) (by omega)
      exact⟨.obj _ (by simp;omega) r (λm o=>(i m o).1) (λm o=>(i m o).2),by omega,by omega⟩
     ·cases h
theorem UI{l:List UInt8}{v:V}{q:Nat}(h:yC l = .ok v q):Good l.length v:=by
 unfold yC at h
 cases hv:qm l (2*l.length+1) 1 (skip l 0) with
 | err c a=>rw[hv] at h;cases h
 | ok x a=>
  rw[hv] at h;simp only at h
  split at h
  ·cases h
  ·injection h with h1 h2
   subst h1;exact ((mi l _).1 _ _ _ _ hv).1
def chC:Option V->Nat
 | some (.obj ms)=>if qf ms [qM] then qJ jl (zm ms qM) else 1
 | x=>qJ jl x
theorem VX{L:Nat}(x:Option V)(h:∀v,x=some v->Good L v):chC x=cls (!(jM x).2.isSome) (chP (jM x)):=by
 match x with
 | none=>exact Y1 none
 | some (.word b)=>exact Y1 (some (.word b))
 | some (.str s)=>exact Y1 (some (.str s))
 | some (.list vs)=>exact Y1 (some (.list vs))
 | some (.obj ms)=>
  simp only[chC,jM]
  by_cases c:qf ms [qM]=true
  ·rw[zb c];have a:=h _ rfl
   cases a with
   | obj _ f d g i=>
    match ms with
    | []=>rfl
    | [m]=>
     have e:(m.1.toList==qM.toList)=true:=by
      simp[qf] at c;simp[c]
     rw[zb ⟨c,rfl⟩];have a:zm [m] qM=some m.2:=by unfold zm;rw[Jq,e];rfl
     rw[a];exact Y1 _
    | m::m'::r=>
     exfalso;simp[qf] at c;simp only[yh,List.nodup_cons,Qc,not_or] at d;exact d.1.1 (by rw[<- c.1,<- c.2.1])
  ·rw[za c,za (λe=>c e.1)]
   rfl
def short(s:BY):Bool:=decide (s.size<=60)
def filled(s:BY):Bool:=!s.toList.isEmpty&&short s
def kM(op:BY):Bool:=op.toList==[115,97,109,101]
def Zp(op:BY):Bool:=op.toList==[98,101,108,111,119]
def ZN(op:BY):Bool:=op.toList==[117,110,100,101,114]
def yo(op:BY)(x:Option V):Nat:=
 if yc op then qJ jl x
 else if kM op then qJ (qb short) x
 else if Zp op then qJ (qb jY) x
 else if ZN op then qJ (qb filled) x
 else if x.isNone then 0 else 1
def j3(op:BY)(x:Option V):List BY:=
 if yc op then qN strOf x
 else if kM op then qN (qV short) x
 else if Zp op then qN (qV jY) x
 else if ZN op then qN (qV filled) x
 else []
theorem VQ{f g:BY->Bool}(h:∀s,f s=g s)(l:List BY):l.all f=l.all g:=by rw[show f=g from funext h]
theorem nK(op:BY)(x:Option V)(h:uP op=true):yo op x=cls (!(zI x).isSome || !Zn op ((zI x).getD [])) (yc op && !((zI x).getD []).all qF):=by
 unfold yo Zn;rw[h,Yr]
 by_cases c1:yc op=true
 ·rw[zb c1];have e:op.toList=[108,105,107,101]:=by simpa [yc] using c1
  have a:∀s,ug op s=true:=by intro s;unfold ug;rw[e];rfl
  rw[VQ a,c1,Y1,show ((zI x).getD []).all (λ_=>true)=true from by simp]
  simp
 rw[za c1];have b:yc op=false:=by simpa using c1
 rw[b,Yt]
 by_cases c2:kM op=true
 ·rw[zb c2];have e:op.toList=[115,97,109,101]:=by simpa [kM] using c2
  have a:∀s,ug op s=short s:=by intro s;unfold ug;rw[e];rfl
  rw[VQ a,Ut]
 rw[za c2]
 by_cases c3:Zp op=true
 ·rw[zb c3];have e:op.toList=[98,101,108,111,119]:=by simpa [Zp] using c3
  have a:∀s,ug op s=jY s:=by intro s;unfold ug;rw[e];rfl
  rw[VQ a,Ut]
 rw[za c3]
 by_cases c4:ZN op=true
 ·rw[zb c4];have e:op.toList=[117,110,100,101,114]:=by simpa [ZN] using c4
  have a:∀s,ug op s=filled s:=by
   intro s;unfold ug;rw[e];show (decide (s.size<=60) && !s.toList.isEmpty)=(!s.toList.isEmpty&&short s);rw[Bool.and_comm]
   rfl
  rw[VQ a,Ut]
 exfalso;unfold uP at h;unfold yc at c1;unfold kM at c2;unfold Zp at c3;unfold ZN at c4;simp only[Bool.or_eq_true] at h
 rcases h with ((h|h)|h)|h
 ·exact c2 h
 ·exact c4 h
 ·exact c3 h
 ·exact c1 h
theorem MG(ms:List (BY×V)):qf ms [bOp,zD,zB,bNo]=qf ms [bOp,zD,bNo,zB]:=by
 unfold qf;refine congrArg (λf=>ms.all f) (funext λm=>?_);simp only[Jp,List.any_nil,Zb];rw[Bool.or_comm (zB.toList==m.1.toList) (bNo.toList==m.1.toList)]
theorem oI(m:BY×V)(ms:List (BY×V))(ns:List BY):qf (m::ms) ns=((ns.any λt=>t.toList==m.1.toList)&&qf ms ns):=by
 unfold qf;rw[Kc]
theorem oJ:∀(ms:List (BY×V)),qf ms [bOp,zD,bNo]=(qf ms [bOp,zD,bNo,zB]&&(zm ms zB).isNone)
 | []=>rfl
 | m::ms=>by
  rw[oI,oI,oJ ms];unfold zm;rw[Jq]
  by_cases c:(m.1.toList==zB.toList)=true
  ·rw[c];have e:m.1.toList=zB.toList:=by simpa using c
   rw[e]
   have:([bOp,zD,bNo].any λt=>t.toList==zB.toList)=false:=by kernel_rfl
   rw[this]
   simp
  ·have a:(m.1.toList==zB.toList)=false:=by simpa using c
   have c2:(zB.toList==m.1.toList)=false:=by rw[Bool.beq_comm];exact a
   rw[a];simp only[Jp,List.any_nil,Zb,c2];rw[Bool.and_assoc]
def condC:V->Nat
 | .obj ms=>if qf ms [bOp,zD,zB,bNo] then (match opV (zm ms bOp) with
  | some op=>if uP op||xO op then qE [qb qh (zm ms zD),yo op (zm ms zB),cls (vJ (zm ms bNo)) false] else 1
  | none=>1) else 1
 | _=>1
theorem mo(a b c d e f:Bool):qE [cls a d,cls b e,cls c f]=cls (a||b||c) (d||e||f):=by
 have:=JR [(a,d),(b,e),(c,f)]
 simp only[yh,Zc,Jp,List.any_nil,Zb] at this;rw[this,Yu,Yu]
theorem fQ(op:BY)(h:xO op=true):uP op=false/\yc op=false/\kM op=false/\Zp op=false/\ZN op=false:=by
 have e:op.toList=[97,98,115,101,110,116]:=by simpa [xO] using h
 unfold uP yc kM Zp ZN;rw[e]
 decide
theorem iE(v:V):condC v=cls (qX v).sh (qX v).pt:=by
 cases v with
 | str s=>rfl
 | word b=>rfl
 | list l=>rfl
 | obj ms=>
  simp only[condC,qX,Xm]
  cases ho:opV (zm ms bOp) with
  | none=>simp only[ite_self];rfl
  | some op=>
   simp only
   cases hk:opV (zm ms zD) with
   | none=>
    have e:qb qh (zm ms zD)=1:=by
     unfold opV at hk
     split at hk
     ·cases hk
     ·rename_i d;unfold qb
      split
      ·rename_i s c;exact absurd c (d s)
      ·rfl
    rw[e]
    have:qE [1,yo op (zm ms zB),cls (vJ (zm ms bNo)) false]=1:=JS (by simp)
    rw[this];simp only[ite_self]
    rfl
   | some key=>
    have e:qb qh (zm ms zD)=cls (!qh key) false:=by
     unfold opV at hk
     split at hk
     ·rename_i s c;injection hk with hk
      subst hk;rw[c]
      rfl
     ·cases hk
    rw[e,MG]
    by_cases ca:xO op=true
    ·obtain⟨k,g,h,i,j⟩:=fQ op ca;simp only[ca,Bool.or_true,xy];rw[oJ]
     have f:yo op (zm ms zB)=cls (!(zm ms zB).isNone) false:=by
      unfold yo;rw[g,h,i,j]
      cases (zm ms zB).isNone<;>rfl
     rw[f,mo]
     cases qf ms [bOp,zD,bNo,zB]<;>cases (zm ms zB).isNone<;>cases qh key<;>cases vJ (zm ms bNo)<;>rfl
    ·have a:xO op=false:=by simpa using ca
     simp only[a,Zb,vo,jN]
     cases ok:uP op with
     | false=>
      have:Zn op ((zI (zm ms zB)).getD [])=false:=by unfold Zn;rw[ok,Bool.and_false]
      rw[this];simp only[vo,jN,ite_self,Vt,Bool.or_true,Bool.true_or]
      rfl
     | true=>
      rw[nK op _ ok,mo];simp only[xy];generalize (!(zI (zm ms zB)).isSome || !Zn op ((zI (zm ms zB)).getD []))=A;generalize (yc op && !((zI (zm ms zB)).getD []).all qF)=B
      cases qf ms [bOp,zD,bNo,zB]<;>cases A<;>cases B<;>cases qh key<;>cases vJ (zm ms bNo)<;>rfl
def jW:Option V->Nat
 | none=>0
 | some (.list vs)=>if 5<vs.length then 1 else qE (vs.map condC)
 | some _=>1
theorem Ch(x:Option V):jW x=cls (xw x).sh (xw x).pt:=by
 match x with
 | none=>rfl
 | some (.str s)=>rfl
 | some (.word b)=>rfl
 | some (.obj ms)=>rfl
 | some (.list vs)=>
  simp only[jW,xw]
  split
  ·rfl
  ·have:=JR (vs.map λv=>((qX v).sh,(qX v).pt))
   rw[ui] at this;have e:((λx:Bool×Bool=>cls x.1 x.2) ∘ λv=>((qX v).sh,(qX v).pt))=condC:=funext λv=>(iE v).symm;rw[e] at this;rw[this];simp only[QB]
   rfl
def yu:V->Nat
 | .obj ms=>if qf ms [zH,zS,bDo,bOn,bIf] then qE [qb xX (zm ms zH),chC (zm ms zS),chC (zm ms bDo),chC (zm ms bOn),jW (zm ms bIf)] else 1
 | _=>1
theorem yx{L:Nat}{ms:List (BY×V)}(h:Good L (.obj ms))(nm:BY):∀v,zm ms nm=some v->Good L v:=by
 intro v a
 cases h with
 | obj _ d e f b=>
  unfold zm at a;obtain⟨m,c,rfl⟩:=Qg.1 a;exact b m (List.mem_of_find?_eq_some c)
theorem FH(a b c d e f g h i j:Bool):qE [cls a f,cls b g,cls c h,cls d i,cls e j]=cls (a||b||c||d||e) (f||g||h||i||j):=by
 have:=JR [(a,f),(b,g),(c,h),(d,i),(e,j)]
 simp only[yh,Zc,Jp,List.any_nil,Zb] at this;rw[this];simp only[Yu]
theorem sG{L:Nat}(v:V)(h:Good L v):yu v=cls (xP v).sh (xP v).pt:=by
 cases v with
 | str s=>rfl
 | word b=>rfl
 | list l=>rfl
 | obj ms=>
  simp only[yu,xP,XB]
  cases ho:qf ms [zH,zS,bDo,bOn,bIf] with
  | false=>rfl
  | true=>
   simp only[xy]
   cases hk:opV (zm ms zH) with
   | none=>
    have d:qb xX (zm ms zH)=1:=by
     unfold opV at hk
     split at hk
     ·cases hk
     ·rename_i c;unfold qb
      split
      ·rename_i s a;exact absurd a (c s)
      ·rfl
    rw[d];rw[JS (by simp)]
    rfl
   | some eff=>
    have d:qb xX (zm ms zH)=cls (!xX eff) false:=by
     unfold opV at hk
     split at hk
     ·rename_i s a;injection hk with hk
      subst hk;rw[a]
      rfl
     ·cases hk
    rw[d,VX _ (yx h zS),VX _ (yx h bDo),VX _ (yx h bOn),Ch,FH];simp only[QT,Ji]
def ZL:List Nat->Nat->Int×Nat
 | [],_=>(0,0)
 | c::cs,i=>if c=1 then (5,i+1) else if c=2 then (6,i+1) else ZL cs (i+1)
theorem lN{L:Nat}:∀(a:List V) (i:Nat),(∀v ∈ a,Good L v)->kL (a.map xP) i=ZL (a.map yu) i
 | [],_,_=>rfl
 | v::a,i,h=>by
  rw[yh,yh,kL,ZL,sG v (h v (by simp)),lN a (i+1) (λx b=>h x (by simp[b]))]
  cases (xP v).sh<;>cases (xP v).pt<;>rfl
def xe(s:BY):Int×Nat:=
 if 4000<s.size then (1,0) else match yC s.data.toList with
  | .err e q=>(e,q)
  | .ok v _=>jX v
def Code(c:Int):Prop:=c=2\/c=3\/c=4
theorem lI(l:List UInt8):∀(f:Nat),
  (∀d p c q,qm l f d p = .err c q->Code c) /\
  (∀d p acc c q,kR l f d p acc = .err c q->Code c) /\
  (∀d p acc c q,kU l f d p acc = .err c q->Code c)
 | 0=>by
  refine⟨λd p c q h=>?_,λd p acc c q h=>?_,λd p acc c q h=>?_⟩
  ·rw[qm] at h;injection h with h1 h2;exact .inl h1.symm
  ·rw[kR] at h;injection h with h1 h2;exact .inl h1.symm
  ·rw[kU] at h;injection h with h1 h2;exact .inl h1.symm
 | f+1=>by
  obtain⟨i,b,g⟩:=lI l f;refine⟨λd p c q h=>?_,λd p acc c q h=>?_,λd p acc c q h=>?_⟩
  ·rw[qm] at h
   by_cases c1:zk l p=123
   ·rw[zb c1] at h
    split at h
    ·injection h with h1 h2;exact .inr (.inl h1.symm)
    split at h
    ·cases h
    ·exact g _ _ _ _ _ h
   rw[za c1] at h
   by_cases c2:zk l p=91
   ·rw[zb c2] at h
    split at h
    ·injection h with h1 h2;exact .inr (.inl h1.symm)
    split at h
    ·cases h
    ·exact b _ _ _ _ _ h
   rw[za c2] at h
   by_cases c3:zk l p=34
   ·rw[zb c3] at h
    cases hs:vZ l (p+1) with
    | ok s a=>rw[hs] at h;cases h
    | err e a=>
     rw[hs] at h;injection h with h1 h2
     subst h1;exact .inl (UV hs)
   rw[za c3] at h
   by_cases c4:zk l p=116
   ·rw[zb c4] at h
    cases hw:qi l [114,117,101] (p+1) with
    | ok s a=>rw[hw] at h;cases h
    | err e a=>
     rw[hw] at h;injection h with h1 h2
     subst h1;exact .inl (Vq hw)
   rw[za c4] at h
   by_cases c5:zk l p=102
   ·rw[zb c5] at h
    cases hw:qi l [97,108,115,101] (p+1) with
    | ok s a=>rw[hw] at h;cases h
    | err e a=>
     rw[hw] at h;injection h with h1 h2
     subst h1;exact .inl (Vq hw)
   rw[za c5] at h;injection h with h1 h2
   exact .inl h1.symm
  ·rw[kR] at h
   cases hv:qm l f (d+1) p with
   | err e a=>
    rw[hv] at h;injection h with h1 h2
    subst h1;exact i _ _ _ _ hv
   | ok x a=>
    rw[hv] at h;simp only at h
    split at h
    ·exact b _ _ _ _ _ h
    split at h
    ·cases h
    ·injection h with h1 h2;exact .inl h1.symm
  ·rw[kU] at h
   split at h
   ·injection h with h1 h2;exact .inl h1.symm
   cases hs:vZ l (p+1) with
   | err e a=>
    rw[hs] at h;injection h with h1 h2
    subst h1;exact .inl (UV hs)
   | ok s j=>
    rw[hs] at h;simp only at h
    split at h
    ·injection h with h1 h2;exact .inr (.inr h1.symm)
    split at h
    ·injection h with h1 h2;exact .inl h1.symm
    cases hv:qm l f (d+1) (skip l (skip l j+1)) with
    | err e a=>
     rw[hv] at h;injection h with h1 h2
     subst h1;exact i _ _ _ _ hv
    | ok x a=>
     rw[hv] at h;simp only at h
     split at h
     ·exact g _ _ _ _ _ h
     split at h
     ·cases h
     ·injection h with h1 h2;exact .inl h1.symm
theorem UH{l:List UInt8}{c:Int}{q:Nat}(h:yC l = .err c q):Code c:=by
 unfold yC at h
 cases hv:qm l (2*l.length+1) 1 (skip l 0) with
 | err e a=>
  rw[hv] at h;injection h with h1 h2
  subst h1;exact (lI l _).1 _ _ _ _ hv
 | ok x a=>
  rw[hv] at h;simp only at h
  split at h
  ·injection h with h1 h2;exact .inl h1.symm
  ·cases h
theorem Rc(v:V):yu v<=2:=by
 cases v with
 | obj ms=>simp only[yu];split;exact YS _;decide
 | _=>simp[yu]
theorem lQ:∀(cs:List Nat) (i:Nat),(∀c ∈ cs,c=0)->ZL cs i=(0,0)
 | [],_,_=>rfl
 | c::cs,i,h=>by
  have b:=h c (by simp);rw[ZL,za (by omega),za (by omega)];exact lQ cs _ (λx a=>h x (by simp[a]))
theorem lS:∀(cs:List Nat) (i k:Nat),(a:k<cs.length)->(∀j,(h:j<k)->cs[j]=0)->cs[k]≠0->cs[k]<=2->ZL cs i=(if cs[k]=1 then 5 else 6,i+k+1)
 | [],_,k,a,_,_,_=>by simp at a
 | c::cs,i,0,a,_,h1,h2=>by
  simp only[fD] at h1 h2 |-;rw[ZL]
  by_cases e:c=1
  ·rw[zb e,zb e]
  ·rw[za e,zb (by omega),za e]
 | c::cs,i,k+1,a,h0,h1,h2=>by
  have b:c=0:=h0 0 (by omega);simp only[List.getElem_cons_succ] at h1 h2 |-;rw[ZL,za (by omega),za (by omega),lS cs (i+1) k (by simpa using a) (λj d=>by have:=h0 (j+1) (by omega);simpa using this) h1 h2];have e:i+1+k+1=i+(k+1)+1:=by omega
  rw[e]
end Rd
end Go.Proofs.YtagnlbgbnfnapaaGreatDoor
