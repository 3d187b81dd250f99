/- P -/
import Derived.Test.YtdakgnaojakldaaGreatDoorS05
import Derived.KernelRfl
set_option maxRecDepth 100000
namespace Go.Proofs.YtdakgnaojakldaaGreatDoor
namespace Rd
open Ref
def zh(ms:List (BY×V))(nm:BY):Option V:=(ms.find? λm=>m.1.toList==nm.toList).map Prod.snd
def yo:List V->Option (List BY)
 | []=>some []
 | .str s::vs=>(yo vs).map λl=>s::l
 | _::_=>none
def zn:Option V->Option (List BY)
 | some (.str s)=>some [s]
 | some (.list vs)=>if vs.length<1\/10<vs.length then none else yo vs
 | _=>none
def zJ(ms:List (BY×V))(names:List BY):Bool:=ms.all λm=>names.any λt=>t.toList==m.1.toList
def yh:Option V->Bool×Option (List BY)
 | some (.obj ms)=>if zJ ms [qb]=true/\ms.length=1 then (true,zn ((ms.map Prod.snd)[0]?)) else (false,none)
 | x=>(false,zn x)
def opV(x:Option V):Option BY:=match x with
 | some (.str s)=>some s
 | _=>none
def vv:Option V->Bool
 | some (.word b)=>b
 | _=>false
def yA:Option V->Bool
 | none=>false
 | some (.word _)=>false
 | _=>true
def ZI(ms:List (BY×V)):qH:=match opV (zh ms bOp),opV (zh ms zw) with
 | some op,some key=>
  if zX op then ⟨op,key,[],vv (zh ms bNo),yA (zh ms bNo) || !zH key || !zJ ms [bOp,zw,bNo],false⟩
  else ⟨op,key,(zn (zh ms zq)).getD [],vv (zh ms bNo),
   yA (zh ms bNo)||(!(zn (zh ms zq)).isSome || !Zk op ((zn (zh ms zq)).getD [])) || !zH key || !zJ ms [bOp,zw,bNo,zq],
   qp op && !((zn (zh ms zq)).getD []).all qf⟩
 | _,_=>xZ
def qi:V->qH
 | .obj ms=>ZI ms
 | _=>xZ
def qy:Option V->Jr
 | none=>⟨[],false,false⟩
 | some (.list vs)=>if 5<vs.length then ⟨[],true,false⟩ else ⟨vs.map qi,(vs.map qi).any qH.sh,(vs.map qi).any qH.pt⟩
 | some _=>⟨[],true,false⟩
theorem fO{a:List Ref.Node}{i:Nat}{v:V}(h:Rep a i v):∃n,a[i]?=some n:=by
 cases h with
 | str _ n _ h=>exact⟨n,h⟩
 | word _ n _ h=>exact⟨n,h⟩
 | list _ n _ h=>exact⟨n,h⟩
 | obj _ n _ h=>exact⟨n,h⟩
theorem aP(b:List Ref.Node)(nm:BY):∀(ms:List (BY×V)) (a:List Nat),a.length=ms.length->(∀(j k:Nat) (x:BY×V),a[j]?=some k->ms[j]?=some x->Rep b k x.2) ->
  (zh ms nm=none/\vQ (ms.map Prod.fst) a nm = -1)\/∃v k,zh ms nm=some v/\vQ (ms.map Prod.fst) a nm=((k:Nat):Int)/\Rep b k v
 | [],a,_,_=>by left;exact⟨rfl,by simp[vQ]⟩
 | m::ms,[],hl,_=>by simp at hl
 | m::ms,k::a,hl,h=>by
  unfold zh;simp only[List.map_cons,vQ,List.find?_cons]
  by_cases e:(m.1.toList==nm.toList)=true
  ·rw[e]
   right
   exact⟨m.2,k,rfl,by simp,h 0 k m rfl rfl⟩
  ·have c:(m.1.toList==nm.toList)=false:=by simpa using e
   rw[c];simp only[Bool.false_eq_true,if_false];exact aP b nm ms a (by simpa using hl) (λj g x d f=>h (j+1) g x (by simpa using d) (by simpa using f))
theorem YR{b:List Ref.Node}{i:Nat}{n:Ref.Node}{ms:List (BY×V)}(h:Rep b i (.obj ms))(f:b[i]?=some n)(nm:BY) :
  (zh ms nm=none/\zt n nm = -1)\/∃v k,zh ms nm=some v/\zt n nm=((k:Nat):Int)/\Rep b k v:=by
 cases h with
 | obj _ l _ a g c d j e=>
  rw[f] at a;injection a with a
  subst a;unfold zt;rw[c];exact aP b nm ms n.kids d e
theorem Aj{j:List Ref.Node}{i:Nat}{n:Ref.Node}{v:V}(h:Rep j i v)(e:j[i]?=some n)(l:∀ms,v ≠ .obj ms)(nm:BY):zt n nm = -1/\n.kind≠1/\n.names=[]:=by
 have key:n.names=[]/\n.kind≠1:=by
  cases h with
  | str _ f _ a c d g k=>rw[e] at a;injection a with a;subst a;exact⟨k,by omega⟩
  | word _ f b a c d g=>rw[e] at a;injection a with a;subst a;exact⟨g,by cases b<;>simp at c<;>omega⟩
  | list _ f _ a c d=>rw[e] at a;injection a with a;subst a;exact⟨d,by omega⟩
  | obj _ f ms=>exact absurd rfl (l ms)
 refine⟨?_,key.2,key.1⟩;unfold zt;rw[key.1];simp[vQ]
theorem VB{d:List Ref.Node}{k:Nat}{v:V}(h:Rep d k v):(kindOf d k=1↔∃ms,v = .obj ms)/\(kindOf d k=2↔∃e,v = .list e)/\(kindOf d k=3↔∃s,v = .str s)/\(kindOf d k=4↔v = .word true)/\(kindOf d k=5↔v = .word false)/\(∀s,v = .str s->textOf d k=s):=by
 unfold kindOf textOf;rw[show ((k:Int)).toNat=k by simp]
 cases h with
 | str _ n s c a f=>rw[c];simp[a,f]
 | word _ n b c a=>rw[c];cases b<;>simp at a<;>simp[a]
 | list _ n e c a=>rw[c];simp[a]
 | obj _ n ms c a=>rw[c];simp[a]
theorem gX(f:List Ref.Node):∀(e:List V) (d:List Nat),d.length=e.length->(∀(j k:Nat) (v:V),d[j]?=some k->e[j]?=some v->Rep f k v)->Jk f d=yo e
 | [],[],_,_=>rfl
 | [],k::d,hl,_=>by simp at hl
 | v::e,[],hl,_=>by simp at hl
 | v::e,k::d,hl,h=>by
  have g:=h 0 k v rfl rfl;have l:=gX f e d (by simpa using hl) (λj m x c a=>h (j+1) m x (by simpa using c) (by simpa using a));rw[Jk,l]
  cases g with
  | str _ n s c a i=>rw[c];simp[a,i,yo]
  | word _ n b c a=>rw[c];cases b<;>simp at a<;>simp[a,yo]
  | list _ n o c a=>rw[c];simp[a,yo]
  | obj _ n ms c a=>rw[c];simp[a,yo]
theorem Uk{e:List Ref.Node}{k:Nat}{v:V}(h:Rep e k v):uJ e k=zn (some v):=by
 unfold uJ;rw[if_neg (by omega),show ((k:Int)).toNat=k by simp]
 cases h with
 | str _ n s d a g=>rw[d];simp[a,g,zn]
 | word _ n b d a=>rw[d];cases b<;>simp at a<;>simp[a,zn]
 | list _ n f d a g i l j=>
  rw[d];simp only[a,zn];rw[if_neg (by decide),i]
  by_cases c:f.length<1\/10<f.length
  ·rw[if_pos (.inr c),if_pos c]
  ·rw[if_neg (by simpa using c),if_neg c];exact gX e f n.kids i j
 | obj _ n ms d a=>rw[d];simp[a,zn]
theorem Lj(a:List Ref.Node):uJ a (-1)=zn none:=by
 unfold uJ;rw[if_pos (by decide)];rfl
theorem VM{b:List Ref.Node}{i:Nat}{n:Ref.Node}{ms:List (BY×V)}(h:Rep b i (.obj ms))(e:b[i]?=some n)(names:List BY):X0 n names=zJ ms names:=by
 cases h with
 | obj _ k _ a c d f g j=>
  rw[e] at a;injection a with a
  subst a;unfold X0 zJ;rw[d,c,List.all_map];simp[Function.comp_def]
theorem nM{l:List Ref.Node}{k:Nat}{v:V}(h:Rep l k v):XF l k=yh (some v):=by
 have u:=Uk h;have g:=VB h;obtain⟨n,f⟩:=fO h;unfold XF;rw[if_neg (by omega),show ((k:Int)).toNat=k by simp,f];simp only;have i:kindOf l k=n.kind:=by unfold kindOf;rw[show ((k:Int)).toNat=k by simp,f]
 rw[i] at g
 by_cases c:n.kind=1
 ·rw[if_pos c];obtain⟨ms,rfl⟩:=g.1.1 c;rw[VM h f]
  cases h with
  | obj _ z _ d w q x y r=>
   rw[f] at d;injection d with d
   subst d;have s:n.names.length=ms.length:=by rw[q];simp
   unfold yh;simp only;rw[s]
   by_cases c2:zJ ms [qb]=true/\ms.length=1
   ·rw[if_pos c2,if_pos c2];have p:0<ms.length:=by omega
    have a:n.kids[0]?=some (n.kids[0]'(by omega)):=List.getElem?_eq_getElem (by omega);have b:ms[0]?=some ms[0]:=List.getElem?_eq_getElem p;have t:=Uk (r 0 _ _ a b);have m:n.kids.getD 0 0=n.kids[0]'(by omega):=by rw[List.getD_eq_getElem?_getD,a];rfl
    have o:(ms.map Prod.snd)[0]?=some ms[0].2:=by rw[List.getElem?_map,b];rfl
    rw[m,o,t]
   ·rw[if_neg c2,if_neg c2]
 ·rw[if_neg c];have j:∀ms,v ≠ .obj ms:=λms e=>c (g.1.2 ⟨ms,e⟩);rw[u]
  cases v with
  | obj ms=>exact absurd rfl (j ms)
  | _=>rfl
theorem nL(a:List Ref.Node):XF a (-1)=yh none:=by
 unfold XF;rw[if_pos (by decide)];rfl
def jE(a:List Ref.Node)(h:Int)(x:Option V):Prop:=(x=none/\h = -1)\/∃v k,x=some v/\h=((k:Nat):Int)/\Rep a k v
theorem jE.strings{a:List Ref.Node}{h:Int}{x:Option V}(r:jE a h x):uJ a h=zn x:=by
 rcases r with ⟨rfl,rfl⟩|⟨v,k,rfl,rfl,hr⟩
 ·exact Lj a
 ·exact Uk hr
theorem jE.choice{a:List Ref.Node}{h:Int}{x:Option V}(r:jE a h x):XF a h=yh x:=by
 rcases r with ⟨rfl,rfl⟩|⟨v,k,rfl,rfl,hr⟩
 ·exact nL a
 ·exact nM hr
theorem jE.noT{c:List Ref.Node}{h:Int}{x:Option V}(r:jE c h x):Ref.noT c h=vv x/\Ref.YZ c h=yA x:=by
 rcases r with ⟨rfl,rfl⟩|⟨v,k,rfl,rfl,hr⟩
 ·exact⟨rfl,rfl⟩
 ·have a:=VB hr;unfold Ref.noT Ref.YZ
  cases v with
  | word b=>
   cases b with
   | true=>
    have:=a.2.2.2.1.2 rfl
    rw[this];simp[vv,yA]
   | false=>
    have:=a.2.2.2.2.1.2 rfl
    rw[this];simp[vv,yA]
  | str s=>
   have:=a.2.2.1.2 ⟨s,rfl⟩
   rw[this];simp[vv,yA]
  | list l=>
   have:=a.2.1.2 ⟨l,rfl⟩
   rw[this];simp[vv,yA]
  | obj l=>
   have:=a.1.2 ⟨l,rfl⟩
   rw[this];simp[vv,yA]
theorem jE.op{d:List Ref.Node}{h:Int}{x:Option V}(r:jE d h x):(opV x=none/\(h<0\/kindOf d h≠3))\/∃s,opV x=some s/\0<=h/\kindOf d h=3/\textOf d h=s:=by
 rcases r with ⟨rfl,rfl⟩|⟨v,k,rfl,rfl,hr⟩
 ·left;exact⟨rfl,.inl (by decide)⟩
 ·have a:=VB hr
  cases v with
  | str s=>right;exact⟨s,rfl,by omega,a.2.2.1.2 ⟨s,rfl⟩,a.2.2.2.2.2 s rfl⟩
  | word b=>left;exact⟨rfl,.inr (λe=>by obtain⟨s,c⟩:=a.2.2.1.1 e;cases c)⟩
  | list l=>left;exact⟨rfl,.inr (λe=>by obtain⟨s,c⟩:=a.2.2.1.1 e;cases c)⟩
  | obj l=>left;exact⟨rfl,.inr (λe=>by obtain⟨s,c⟩:=a.2.2.1.1 e;cases c)⟩
theorem og{a:List Ref.Node}{k:Nat}{n:Ref.Node}{v:V}(h:Rep a k v)(b:a[k]?=some n):XI a n=qi v:=by
 by_cases ho:∃ms,v = .obj ms
 ·obtain⟨ms,rfl⟩:=ho;have j:jE a (zt n bOp) (zh ms bOp):=YR h b bOp;have l:jE a (zt n zw) (zh ms zw):=YR h b zw;have m:jE a (zt n bNo) (zh ms bNo):=YR h b bNo;have o:jE a (zt n zq) (zh ms zq):=YR h b zq;have g:=o.strings;obtain⟨c,d⟩:=m.noT;show XI a n=ZI ms;unfold XI ZI;rw[VM h b,VM h b,g,c,d]
  rcases j.op with ⟨e1,c1⟩|⟨s1,e1,a1,b1,t1⟩
  ·rw[if_pos (by rcases c1 with c1|c1;exact .inl c1;exact .inr (.inr (.inl c1))),e1]
  rcases l.op with ⟨e2,c2⟩|⟨s2,e2,a2,b2,t2⟩
  ·rw[if_pos (by rcases c2 with c2|c2;exact .inr (.inl c2);exact .inr (.inr (.inr c2))),e1,e2]
  rw[if_neg (by omega),e1,e2,t1,t2]
 ·have f:∀ms,v ≠ .obj ms:=λms e=>ho ⟨ms,e⟩;have i:=(Aj h b f bOp).1;unfold XI;rw[if_pos (.inl (by rw[i];decide))]
  cases v with
  | obj ms=>exact absurd rfl (f ms)
  | _=>rfl
theorem KJ(c:List Ref.Node):∀(b:List V) (a:List Nat),a.length=b.length->(∀(j k:Nat) (v:V),a[j]?=some k->b[j]?=some v->Rep c k v)->XJ c a=b.map qi
 | [],[],_,_=>rfl
 | [],k::a,hl,_=>by simp at hl
 | v::b,[],hl,_=>by simp at hl
 | v::b,k::a,hl,h=>by
  have d:=h 0 k v rfl rfl;have f:=KJ c b a (by simpa using hl) (λj l x g i=>h (j+1) l x (by simpa using g) (by simpa using i));unfold XJ at f |-;rw[List.map_cons,List.map_cons,f];obtain⟨n,e⟩:=fO d;rw[e];simp only;rw[og d e]
theorem jE.conds{e:List Ref.Node}{h:Int}{x:Option V}(r:jE e h x):J5 e h=qy x:=by
 rcases r with ⟨rfl,rfl⟩|⟨v,k,rfl,rfl,hr⟩
 ·unfold J5;rw[if_pos (by decide)];rfl
 ·unfold J5;rw[if_neg (by omega),show ((k:Int)).toNat=k by simp]
  cases hr with
  | str _ n s d a i=>rw[d];simp[a,qy]
  | word _ n b d a=>rw[d];cases b<;>simp at a<;>simp[a,qy]
  | obj _ n ms d a=>rw[d];simp[a,qy]
  | list _ n g d a i f l j=>
   rw[d];simp only[qy];rw[a,f,KJ e g n.kids f j]
   by_cases c:5<g.length
   ·rw[if_pos (.inr c),if_pos c]
   ·rw[if_neg (by omega),if_neg c]
structure qm where
 eff:BY
 who:Bool×List BY
 act:Bool×List BY
 on:Bool×List BY
 cs:List qH
 sh:Bool
 pt:Bool
def zM:BY:=⟨#[101,102,102,101,99,116]⟩
def zU:BY:=⟨#[119,104,111]⟩
def bDo:BY:=⟨#[100,111]⟩
def bOn:BY:=⟨#[111,110]⟩
def bIf:BY:=⟨#[105,102]⟩
def xS:BY:=⟨#[115,116,97,116,101,109,101,110,116]⟩
def xu(s:BY):Bool:=(s.toList==[97,108,108,111,119])||(s.toList==[100,101,110,121])
def jo:qm:=⟨⟨#[]⟩,(false,[]),(false,[]),(false,[]),[],true,false⟩
def chD(c:Bool×Option (List BY)):Bool×List BY:=(c.1,c.2.getD [])
def chP(c:Bool×Option (List BY)):Bool:=!((c.2.getD []).all qf)
def Q3(eff:BY)(a b c:Bool×Option (List BY))(cs:Jr):qm:=
 ⟨eff,chD a,chD b,chD c,cs.cs,!xu eff || !a.2.isSome || !b.2.isSome || !c.2.isSome||cs.sh,chP a||chP b||chP c||cs.pt⟩
def Xh(ms:List (BY×V)):qm:=match zJ ms [zM,zU,bDo,bOn,bIf],opV (zh ms zM) with
 | true,some eff=>Q3 eff (yh (zh ms zU)) (yh (zh ms bDo)) (yh (zh ms bOn)) (qy (zh ms bIf))
 | _,_=>jo
def qR:V->qm
 | .obj ms=>Xh ms
 | _=>jo
def Zj:List qm->Nat->Int×Nat
 | [],_=>(0,0)
 | r::rs,i=>if r.sh then (5,i+1) else if r.pt then (6,i+1) else Zj rs (i+1)
def uh:V->Int×Nat
 | .obj ms=>match zh ms xS with
  | some (.list vs)=>if ms.length≠1\/vs.length<1\/10<vs.length then (5,0) else Zj (vs.map qR) 0
  | _=>(5,0)
 | _=>(5,0)
def cls(sh pt:Bool):Nat:=if sh then 1 else if pt then 2 else 0
def zN(l:List Nat):Nat:=if l.any (λc=>c==1) then 1 else if l.any (λc=>c==2) then 2 else 0
theorem nO(sh pt:Bool):(cls sh pt==1)=sh:=by cases sh<;>cases pt<;>rfl
theorem nP(pt:Bool):(cls false pt==2)=pt:=by cases pt<;>rfl
theorem XQ:∀(l:List (Bool×Bool)),zN (l.map λx=>cls x.1 x.2)=cls (l.any Prod.fst) (l.any Prod.snd):=by
 intro l
 have b:(l.map λx=>cls x.1 x.2).any (λc=>c==1)=l.any Prod.fst:=by
  rw[List.any_map];exact congrArg (λf=>l.any f) (funext λx=>nO x.1 x.2)
 unfold zN;rw[b]
 cases h:l.any Prod.fst with
 | true=>rfl
 | false=>
  have d:(l.map λx=>cls x.1 x.2).any (λc=>c==2)=l.any Prod.snd:=by
   rw[List.any_eq_false] at h;clear b
   induction l with
   | nil=>rfl
   | cons a r i=>
    have e:a.1=false:=by have:=h a (by simp);simpa using this
    rw[List.map_cons,List.any_cons,List.any_cons,i (λx g=>h x (by simp[g])),e,nP]
  rw[d]
  rfl
theorem aN(c:Nat)(h:c<=2):zN [c]=c:=by
 have:c=0\/c=1\/c=2:=by omega
 rcases this with rfl|rfl|rfl<;>rfl
theorem Kt(sh pt:Bool):cls sh pt<=2:=by cases sh<;>cases pt<;>decide
theorem QV(l:List Nat):zN l<=2:=by unfold zN;split;decide;split<;>decide
def zZ(c:Option V->Nat):Option V->Nat
 | some (.list vs)=>if vs.length<1\/10<vs.length then 1 else zN (vs.map λv=>c (some v))
 | x=>zN [c x]
def qc(f:Option V->BY):Option V->List BY
 | some (.list vs)=>if vs.length<1\/10<vs.length then [] else vs.map λv=>f (some v)
 | x=>[f x]
def strOf:Option V->BY
 | some (.str s)=>s
 | _=>⟨#[]⟩
def qZ:Option V->Nat
 | some (.str s)=>cls false (!qf s)
 | _=>1
def zI(f:BY->Bool):Option V->Nat
 | some (.str s)=>cls (!f s) false
 | _=>1
def qd(f:BY->Bool):Option V->BY
 | some (.str s)=>if f s then s else ⟨#[]⟩
 | _=>⟨#[]⟩
theorem Yi:∀(a:List V),(∃l,yo a=some l/\a=l.map .str)\/(yo a=none/\∃v ∈ a,∀s,v ≠ .str s)
 | [] => .inl ⟨[],rfl,rfl⟩
 | v::a=>by
  cases v with
  | str s=>
   rcases Yi a with ⟨l,h1,h2⟩|⟨h1,v,hv,h2⟩
   ·left;exact⟨s::l,by simp[yo,h1],by simp[h2]⟩
   ·right;exact⟨by simp[yo,h1],v,by simp[hv],h2⟩
  | word b=>right;exact⟨rfl,.word b,by simp,λs e=>by cases e⟩
  | list l=>right;exact⟨rfl,.list l,by simp,λs e=>by cases e⟩
  | obj l=>right;exact⟨rfl,.obj l,by simp,λs e=>by cases e⟩
theorem XR{l:List Nat}(h:1 ∈ l):zN l=1:=by
 unfold zN;rw[if_pos];rw[List.any_eq_true];exact⟨1,h,rfl⟩
theorem Ac(f:BY->Bool)(l:List BY):zN (l.map λs=>cls false (!f s))=cls false (!l.all f):=by
 have:=XQ (l.map λs=>(false,!f s))
 rw[List.map_map] at this;have e:((λx:Bool×Bool=>cls x.1 x.2) ∘ λs=>(false,!f s))=λs=>cls false (!f s):=rfl;rw[e] at this;rw[this];have a:(l.map λs=>(false,!f s)).any Prod.fst=false:=by rw[List.any_map,List.any_eq_false];intro x _;simp
 have b:(l.map λs=>(false,!f s)).any Prod.snd = !l.all f:=by rw[List.any_map,List.not_all_eq_any_not];rfl
 rw[a,b]
theorem Ad(f:BY->Bool)(l:List BY):zN (l.map λs=>cls (!f s) false)=cls (!l.all f) false:=by
 have:=XQ (l.map λs=>(!f s,false))
 rw[List.map_map] at this;have e:((λx:Bool×Bool=>cls x.1 x.2) ∘ λs=>(!f s,false))=λs=>cls (!f s) false:=rfl;rw[e] at this;rw[this];have a:(l.map λs=>(!f s,false)).any Prod.snd=false:=by rw[List.any_map,List.any_eq_false];intro x _;simp
 have b:(l.map λs=>(!f s,false)).any Prod.fst = !l.all f:=by rw[List.any_map,List.not_all_eq_any_not];rfl
 rw[a,b]
theorem Q8(x:Option V):zZ qZ x=cls (!(zn x).isSome) (!((zn x).getD []).all qf):=by
 have a:∀x:Option V,zn x=none->qZ x=1->(∀d,x≠some (.list d))->zZ qZ x=cls (!(zn x).isSome) (!((zn x).getD []).all qf):=by
  intro x h e f;rw[h];unfold zZ
  split
  ·rename_i d;exact absurd rfl (f d)
  ·rw[e];rfl
 match x with
 | none=>exact a none rfl rfl (by simp)
 | some (.word b)=>exact a _ rfl rfl (by simp)
 | some (.obj ms)=>exact a _ rfl rfl (by simp)
 | some (.str s)=>
  show zN [qZ (some (.str s))]=_;simp only[qZ,zn,Option.getD_some,Option.isSome_some,List.all_cons,List.all_nil,Bool.and_true,Bool.not_true];exact aN _ (Kt _ _)
 | some (.list d)=>
  simp only[zZ,zn]
  by_cases c:d.length<1\/10<d.length
  ·rw[if_pos c,if_pos c];rfl
  ·rw[if_neg c,if_neg c]
   rcases Yi d with ⟨l,e,rfl⟩|⟨e,v,hv,f⟩
   ·rw[e,List.map_map];exact Ac qf l
   ·rw[e];rw[XR]
    ·rfl
    ·rw[List.mem_map];refine⟨v,hv,?_⟩
     cases v with
     | str s=>exact absurd rfl (f s)
     | _=>rfl
theorem Y2(f:BY->Bool)(x:Option V):zZ (zI f) x=cls (!(zn x).isSome || !((zn x).getD []).all f) false:=by
 have a:∀x:Option V,zn x=none->zI f x=1->(∀d,x≠some (.list d))->zZ (zI f) x=cls (!(zn x).isSome || !((zn x).getD []).all f) false:=by
  intro x h e g;rw[h];unfold zZ
  split
  ·rename_i d;exact absurd rfl (g d)
  ·rw[e];rfl
 match x with
 | none=>exact a none rfl rfl (by simp)
 | some (.word b)=>exact a _ rfl rfl (by simp)
 | some (.obj ms)=>exact a _ rfl rfl (by simp)
 | some (.str s)=>
  show zN [zI f (some (.str s))]=_;simp only[zI,zn,Option.getD_some,Option.isSome_some,List.all_cons,List.all_nil,Bool.and_true,Bool.not_true,Bool.false_or];exact aN _ (Kt _ _)
 | some (.list d)=>
  simp only[zZ,zn]
  by_cases c:d.length<1\/10<d.length
  ·rw[if_pos c,if_pos c];rfl
  ·rw[if_neg c,if_neg c]
   rcases Yi d with ⟨l,e,rfl⟩|⟨e,v,hv,g⟩
   ·rw[e,List.map_map];exact Ad f l
   ·rw[e];rw[XR]
    ·rfl
    ·rw[List.mem_map];refine⟨v,hv,?_⟩
     cases v with
     | str s=>exact absurd rfl (g s)
     | _=>rfl
theorem dN(x:Option V)(h:(zn x).isSome):qc strOf x=(zn x).getD []:=by
 match x with
 | none=>simp[zn] at h
 | some (.word b)=>simp[zn] at h
 | some (.obj ms)=>simp[zn] at h
 | some (.str s)=>rfl
 | some (.list vs)=>
  simp only[qc,zn] at h |-
  by_cases c:vs.length<1\/10<vs.length
  ·rw[if_pos c] at h;simp at h
  ·rw[if_neg c] at h |-;rw[if_neg c]
   rcases Yi vs with ⟨l,h1,rfl⟩|⟨h1,v,hv,h2⟩
   ·rw[h1,List.map_map];exact List.map_id' l
   ·rw[h1] at h;simp at h
theorem Eo(f:BY->Bool)(x:Option V)(h:(zn x).isSome)(a:((zn x).getD []).all f=true):qc (qd f) x=(zn x).getD []:=by
 match x with
 | none=>simp[zn] at h
 | some (.word b)=>simp[zn] at h
 | some (.obj ms)=>simp[zn] at h
 | some (.str s)=>
  simp only[zn,Option.getD_some,List.all_cons,List.all_nil,Bool.and_true] at a;simp[qc,qd,a,zn]
 | some (.list vs)=>
  simp only[qc,zn] at h a |-
  by_cases c:vs.length<1\/10<vs.length
  ·rw[if_pos c] at h;simp at h
  ·rw[if_neg c] at h a |-;rw[if_neg c]
   rcases Yi vs with ⟨l,h1,rfl⟩|⟨h1,v,hv,h2⟩
   ·rw[h1] at a |-;rw[List.map_map];simp only[Option.getD_some] at a |-
    have:∀s ∈ l,((λv=>qd f (some v)) ∘ V.str) s=s:=by
     intro s d;rw[List.all_eq_true] at a;simp[qd,a s d]
    rw[List.map_congr_left this];exact List.map_id' l
   ·rw[h1] at h;simp at h
inductive Good (L:Nat):V->Prop
 | str (s:BY):s.size<=L->Good L (.str s)
 | word (b:Bool):Good L (.word b)
 | list (vs:List V):vs.length<=L->(∀v ∈ vs,Good L v)->Good L (.list vs)
 | obj (ms:List (BY×V)):ms.length<=L->(ms.map λm=>m.1.toList).Nodup->(∀m ∈ ms,m.1.size<=L)->(∀m ∈ ms,Good L m.2)->Good L (.obj ms)
theorem UF{l:List UInt8}:∀{r:List Nat} {p q:Nat} {u:Unit},zK l r p = .ok u q->(∀b ∈ r,b≠0)->p<=l.length->p<=q/\q<=l.length
 | [],p,q,u,h,_,hp=>by
  rw[zK] at h;injection h with h1 h2
  omega
 | b::r,p,q,u,h,hb,hp=>by
  rw[zK] at h
  split at h
  ·rename_i c;have e:b≠0:=hb b (by simp);have a:=zP l p (by omega)
   have:=UF h (λx d=>hb x (by simp[d])) (by omega)
   omega
  ·cases h
theorem aJ(l:List UInt8):∀(f:Nat),
  (∀d p v q,zL l f d p = .ok v q->Good l.length v/\p<q/\q<=l.length) /\
  (∀d p acc v q,yZ l f d p acc = .ok v q->acc.length<=p->(∀x ∈ acc,Good l.length x)->Good l.length v/\p<q/\q<=l.length) /\
  (∀d p acc v q,y9 l f d p acc = .ok v q->acc.length<=p->(acc.map λm=>m.1.toList).Nodup->(∀x ∈ acc,x.1.size<=l.length/\Good l.length x.2)->Good l.length v/\p<q/\q<=l.length)
 | 0=>by
  refine⟨λd p v q h=>?_,λd p acc v q h=>?_,λd p acc v q h=>?_⟩
  ·rw[zL] at h;cases h
  ·rw[yZ] at h;cases h
  ·rw[y9] at h;cases h
 | f+1=>by
  obtain⟨w,t,u⟩:=aJ l f;refine⟨λd p v q h=>?_,λd p acc v q h z C=>?_,λd p acc v q h z K C=>?_⟩
  ·rw[zL] at h;have L:=xJ l (p+1)
   by_cases c1:zf l p=123
   ·rw[if_pos c1] at h
    split at h
    ·cases h
    split at h
    ·rename_i k;injection h with h1 h2
     subst h1
     have:=zP l (skip l (p+1)) (by omega)
     exact⟨.obj [] (Nat.zero_le _) (by simp) (by simp) (by simp),by omega,by omega⟩
    ·obtain⟨a,b,c⟩:=u _ _ _ _ _ h (by simp) (by simp) (by simp);exact⟨a,by omega,c⟩
   rw[if_neg c1] at h
   by_cases c2:zf l p=91
   ·rw[if_pos c2] at h
    split at h
    ·cases h
    split at h
    ·rename_i k;injection h with h1 h2
     subst h1
     have:=zP l (skip l (p+1)) (by omega)
     exact⟨.list [] (Nat.zero_le _) (by simp),by omega,by omega⟩
    ·obtain⟨a,b,c⟩:=t _ _ _ _ _ h (by simp) (by simp);exact⟨a,by omega,c⟩
   rw[if_neg c2] at h
   by_cases c3:zf l p=34
   ·rw[if_pos c3] at h;have n:xw l p=yE l (p+1):=by unfold xw;rw[if_pos c3]
    cases hs:yE l (p+1) with
    | err c g=>rw[hs] at h;cases h
    | ok s g=>
     rw[hs] at h;injection h with h1 h2
     subst h1;subst h2;rw[hs] at n;have H:=Y9 n;have G:=Ja n;exact⟨.str s (by omega),by omega,G⟩
   rw[if_neg c3] at h
   by_cases c4:zf l p=116
   ·rw[if_pos c4] at h;have D:=zP l p (by omega)
    cases hw:zK l [114,117,101] (p+1) with
    | err c g=>rw[hw] at h;cases h
    | ok s g=>
     rw[hw] at h;injection h with h1 h2
     subst h1;subst h2
     have:=UF hw (by decide) (by omega)
     exact⟨.word true,by omega,this.2⟩
   rw[if_neg c4] at h
   by_cases c5:zf l p=102
   ·rw[if_pos c5] at h;have D:=zP l p (by omega)
    cases hw:zK l [97,108,115,101] (p+1) with
    | err c g=>rw[hw] at h;cases h
    | ok s g=>
     rw[hw] at h;injection h with h1 h2
     subst h1;subst h2
     have:=UF hw (by decide) (by omega)
     exact⟨.word false,by omega,this.2⟩
   rw[if_neg c5] at h
   cases h
  ·rw[yZ] at h
   cases hv:zL l f (d+1) p with
   | err c g=>rw[hv] at h;cases h
   | ok x g=>
    rw[hv] at h;simp only at h;obtain⟨B,I,J⟩:=w _ _ _ _ hv;have N:=xJ l g
    have i:∀y ∈ acc++[x],Good l.length y:=by
     intro y j
     rcases List.mem_append.1 j with j|j
     ·exact C y j
     ·simp only[List.mem_singleton] at j;subst j;exact B
    split at h
    ·have O:=xJ l (skip l g+1);obtain⟨a,b,c⟩:=t _ _ _ _ _ h (by simp;omega) i;exact⟨a,by omega,c⟩
    split at h
    ·rename_i k;injection h with h1 h2
     subst h1
     have:=zP l (skip l g) (by omega)
     exact⟨.list _ (by simp;omega) i,by omega,by omega⟩
    ·cases h
  ·rw[y9] at h
   split at h
   ·cases h
   rename_i c3;have A:zf l p=34:=by omega
   have n:xw l p=yE l (p+1):=by unfold xw;rw[if_pos A]
   cases hs:yE l (p+1) with
   | err c g=>rw[hs] at h;cases h
   | ok s F=>
    rw[hs] at h;rw[hs] at n;simp only at h;have H:=Y9 n;have G:=Ja n
    split at h
    ·cases h
    rename_i E
    split at h
    ·cases h
    cases hv:zL l f (d+1) (skip l (skip l F+1)) with
    | err c g=>rw[hv] at h;cases h
    | ok x g=>
     rw[hv] at h;simp only at h;obtain⟨B,I,J⟩:=w _ _ _ _ hv;have P:=xJ l F;have M:=xJ l (skip l F+1);have N:=xJ l g
     have i:∀y ∈ acc++[(s,x)],y.1.size<=l.length/\Good l.length y.2:=by
      intro y j
      rcases List.mem_append.1 j with j|j
      ·exact C y j
      ·simp only[List.mem_singleton] at j;subst j;exact⟨by simp only;omega,B⟩
     have r:((acc++[(s,x)]).map λm=>m.1.toList).Nodup:=by
      rw[List.map_append,List.nodup_append];refine⟨K,by simp,?_⟩;intro a z b hb;simp only[List.map_cons,List.map_nil,List.mem_singleton] at hb;subst hb;rw[List.mem_map] at z;obtain⟨m,o,rfl⟩:=z;intro e;apply E;rw[List.any_eq_true];exact⟨m,o,by simp[e]⟩
     split at h
     ·have O:=xJ l (skip l g+1);obtain⟨a,b,c⟩:=u _ _ _ _ _ h (by simp;omega) r i;exact⟨a,by omega,c⟩
     split at h
     ·rename_i k;injection h with h1 h2
      subst h1
      have:=zP l (skip l g) (by omega)
      exact⟨.obj _ (by simp;omega) r (λm o=>(i m o).1) (λm o=>(i m o).2),by omega,by omega⟩
     ·cases h
theorem Yc{l:List UInt8}{v:V}{q:Nat}(h:xI l = .ok v q):Good l.length v:=by
 unfold xI at h
 cases hv:zL l (2*l.length+1) 1 (skip l 0) with
 | err c a=>rw[hv] at h;cases h
 | ok x a=>
  rw[hv] at h;simp only at h
  split at h
  ·cases h
  ·injection h with h1 h2
   subst h1;exact ((aJ l _).1 _ _ _ _ hv).1
def chC:Option V->Nat
 | some (.obj ms)=>if zJ ms [qb] then zZ qZ (zh ms qb) else 1
 | x=>zZ qZ x
theorem YD{L:Nat}(x:Option V)(h:∀v,x=some v->Good L v):chC x=cls (!(yh x).2.isSome) (chP (yh x)):=by
 match x with
 | none=>exact Q8 none
 | some (.word b)=>exact Q8 (some (.word b))
 | some (.str s)=>exact Q8 (some (.str s))
 | some (.list vs)=>exact Q8 (some (.list vs))
 | some (.obj ms)=>
  simp only[chC,yh]
  by_cases c:zJ ms [qb]=true
  ·rw[if_pos c];have a:=h _ rfl
   cases a with
   | obj _ f d g i=>
    match ms with
    | []=>rfl
    | [m]=>
     have e:(m.1.toList==qb.toList)=true:=by
      simp[zJ] at c;simp[c]
     rw[if_pos ⟨c,rfl⟩];have a:zh [m] qb=some m.2:=by unfold zh;rw[List.find?_cons,e];rfl
     rw[a];exact Q8 _
    | m::m'::r=>
     exfalso;simp[zJ] at c;simp only[List.map_cons,List.nodup_cons,List.mem_cons,not_or] at d;exact d.1.1 (by rw[<- c.1,<- c.2.1])
  ·rw[if_neg c,if_neg (λe=>c e.1)]
   rfl
def short(s:BY):Bool:=decide (s.size<=60)
def filled(s:BY):Bool:=!s.toList.isEmpty&&short s
def qW(op:BY):Bool:=op.toList==[115,97,109,101]
def xX(op:BY):Bool:=op.toList==[98,101,108,111,119]
def vR(op:BY):Bool:=op.toList==[117,110,100,101,114]
def zY(op:BY)(x:Option V):Nat:=
 if qp op then zZ qZ x
 else if qW op then zZ (zI short) x
 else if xX op then zZ (zI qj) x
 else if vR op then zZ (zI filled) x
 else if x.isNone then 0 else 1
def qx(op:BY)(x:Option V):List BY:=
 if qp op then qc strOf x
 else if qW op then qc (qd short) x
 else if xX op then qc (qd qj) x
 else if vR op then qc (qd filled) x
 else []
theorem Yu{f g:BY->Bool}(h:∀s,f s=g s)(l:List BY):l.all f=l.all g:=by rw[show f=g from funext h]
theorem bK(op:BY)(x:Option V)(h:jO op=true):zY op x=cls (!(zn x).isSome || !Zk op ((zn x).getD [])) (qp op && !((zn x).getD []).all qf):=by
 unfold zY Zk;rw[h,Bool.and_true]
 by_cases c1:qp op=true
 ·rw[if_pos c1];have e:op.toList=[108,105,107,101]:=by simpa [qp] using c1
  have a:∀s,kI op s=true:=by intro s;unfold kI;rw[e];rfl
  rw[Yu a,c1,Q8,show ((zn x).getD []).all (λ_=>true)=true from by simp]
  simp
 rw[if_neg c1];have b:qp op=false:=by simpa using c1
 rw[b,Bool.false_and]
 by_cases c2:qW op=true
 ·rw[if_pos c2];have e:op.toList=[115,97,109,101]:=by simpa [qW] using c2
  have a:∀s,kI op s=short s:=by intro s;unfold kI;rw[e];rfl
  rw[Yu a,Y2]
 rw[if_neg c2]
 by_cases c3:xX op=true
 ·rw[if_pos c3];have e:op.toList=[98,101,108,111,119]:=by simpa [xX] using c3
  have a:∀s,kI op s=qj s:=by intro s;unfold kI;rw[e];rfl
  rw[Yu a,Y2]
 rw[if_neg c3]
 by_cases c4:vR op=true
 ·rw[if_pos c4];have e:op.toList=[117,110,100,101,114]:=by simpa [vR] using c4
  have a:∀s,kI op s=filled s:=by
   intro s;unfold kI;rw[e];show (decide (s.size<=60) && !s.toList.isEmpty)=(!s.toList.isEmpty&&short s);rw[Bool.and_comm]
   rfl
  rw[Yu a,Y2]
 exfalso;unfold jO at h;unfold qp at c1;unfold qW at c2;unfold xX at c3;unfold vR at c4;simp only[Bool.or_eq_true] at h
 rcases h with ((h|h)|h)|h
 ·exact c2 h
 ·exact c4 h
 ·exact c3 h
 ·exact c1 h
theorem Ew(ms:List (BY×V)):zJ ms [bOp,zw,zq,bNo]=zJ ms [bOp,zw,bNo,zq]:=by
 unfold zJ;refine congrArg (λf=>ms.all f) (funext λm=>?_);simp only[List.any_cons,List.any_nil,Bool.or_false];rw[Bool.or_comm (zq.toList==m.1.toList) (bNo.toList==m.1.toList)]
theorem dP(m:BY×V)(ms:List (BY×V))(a:List BY):zJ (m::ms) a=((a.any λt=>t.toList==m.1.toList)&&zJ ms a):=by
 unfold zJ;rw[List.all_cons]
theorem dQ:∀(ms:List (BY×V)),zJ ms [bOp,zw,bNo]=(zJ ms [bOp,zw,bNo,zq]&&(zh ms zq).isNone)
 | []=>rfl
 | m::ms=>by
  rw[dP,dP,dQ ms];unfold zh;rw[List.find?_cons]
  by_cases c:(m.1.toList==zq.toList)=true
  ·rw[c];have e:m.1.toList=zq.toList:=by simpa using c
   rw[e]
   have:([bOp,zw,bNo].any λt=>t.toList==zq.toList)=false:=by kernel_rfl
   rw[this]
   simp
  ·have a:(m.1.toList==zq.toList)=false:=by simpa using c
   have c2:(zq.toList==m.1.toList)=false:=by rw[Bool.beq_comm];exact a
   rw[a];simp only[List.any_cons,List.any_nil,Bool.or_false,c2];rw[Bool.and_assoc]
def condC:V->Nat
 | .obj ms=>if zJ ms [bOp,zw,zq,bNo] then (match opV (zh ms bOp) with
  | some op=>if jO op||zX op then zN [zI zH (zh ms zw),zY op (zh ms zq),cls (yA (zh ms bNo)) false] else 1
  | none=>1) else 1
 | _=>1
theorem aK(a b c d e f:Bool):zN [cls a d,cls b e,cls c f]=cls (a||b||c) (d||e||f):=by
 have:=XQ [(a,d),(b,e),(c,f)]
 simp only[List.map_cons,List.map_nil,List.any_cons,List.any_nil,Bool.or_false] at this;rw[this,Bool.or_assoc,Bool.or_assoc]
theorem UQ(op:BY)(h:zX op=true):jO op=false/\qp op=false/\qW op=false/\xX op=false/\vR op=false:=by
 have e:op.toList=[97,98,115,101,110,116]:=by simpa [zX] using h
 unfold jO qp qW xX vR;rw[e]
 decide
theorem Kz(v:V):condC v=cls (qi v).sh (qi v).pt:=by
 cases v with
 | str s=>rfl
 | word b=>rfl
 | list l=>rfl
 | obj ms=>
  simp only[condC,qi,ZI]
  cases ho:opV (zh ms bOp) with
  | none=>simp only[ite_self];rfl
  | some op=>
   simp only
   cases hk:opV (zh ms zw) with
   | none=>
    have e:zI zH (zh ms zw)=1:=by
     unfold opV at hk
     split at hk
     ·cases hk
     ·rename_i d;unfold zI
      split
      ·rename_i s c;exact absurd c (d s)
      ·rfl
    rw[e]
    have:zN [1,zY op (zh ms zq),cls (yA (zh ms bNo)) false]=1:=XR (by simp)
    rw[this];simp only[ite_self]
    rfl
   | some key=>
    have e:zI zH (zh ms zw)=cls (!zH key) false:=by
     unfold opV at hk
     split at hk
     ·rename_i s c;injection hk with hk
      subst hk;rw[c]
      rfl
     ·cases hk
    rw[e,Ew]
    by_cases ca:zX op=true
    ·obtain⟨k,g,h,i,j⟩:=UQ op ca;simp only[ca,Bool.or_true,if_true];rw[dQ]
     have f:zY op (zh ms zq)=cls (!(zh ms zq).isNone) false:=by
      unfold zY;rw[g,h,i,j]
      cases (zh ms zq).isNone<;>rfl
     rw[f,aK]
     cases zJ ms [bOp,zw,bNo,zq]<;>cases (zh ms zq).isNone<;>cases zH key<;>cases yA (zh ms bNo)<;>rfl
    ·have a:zX op=false:=by simpa using ca
     simp only[a,Bool.or_false,Bool.false_eq_true,if_false]
     cases ok:jO op with
     | false=>
      have:Zk op ((zn (zh ms zq)).getD [])=false:=by unfold Zk;rw[ok,Bool.and_false]
      rw[this];simp only[Bool.false_eq_true,if_false,ite_self,Bool.not_false,Bool.or_true,Bool.true_or]
      rfl
     | true=>
      rw[bK op _ ok,aK];simp only[if_true];generalize (!(zn (zh ms zq)).isSome || !Zk op ((zn (zh ms zq)).getD []))=A;generalize (qp op && !((zn (zh ms zq)).getD []).all qf)=B
      cases zJ ms [bOp,zw,bNo,zq]<;>cases A<;>cases B<;>cases zH key<;>cases yA (zh ms bNo)<;>rfl
def yl:Option V->Nat
 | none=>0
 | some (.list vs)=>if 5<vs.length then 1 else zN (vs.map condC)
 | some _=>1
theorem om(x:Option V):yl x=cls (qy x).sh (qy x).pt:=by
 match x with
 | none=>rfl
 | some (.str s)=>rfl
 | some (.word b)=>rfl
 | some (.obj ms)=>rfl
 | some (.list vs)=>
  simp only[yl,qy]
  split
  ·rfl
  ·have:=XQ (vs.map λv=>((qi v).sh,(qi v).pt))
   rw[List.map_map] at this;have e:((λx:Bool×Bool=>cls x.1 x.2) ∘ λv=>((qi v).sh,(qi v).pt))=condC:=funext λv=>(Kz v).symm;rw[e] at this;rw[this];simp only[List.any_map]
   rfl
def qB:V->Nat
 | .obj ms=>if zJ ms [zM,zU,bDo,bOn,bIf] then zN [zI xu (zh ms zM),chC (zh ms zU),chC (zh ms bDo),chC (zh ms bOn),yl (zh ms bIf)] else 1
 | _=>1
theorem qV{L:Nat}{ms:List (BY×V)}(h:Good L (.obj ms))(nm:BY):∀v,zh ms nm=some v->Good L v:=by
 intro v a
 cases h with
 | obj _ d e f b=>
  unfold zh at a;obtain⟨m,c,rfl⟩:=Option.map_eq_some_iff.1 a;exact b m (List.mem_of_find?_eq_some c)
theorem wZ(a b c d e f g h i j:Bool):zN [cls a f,cls b g,cls c h,cls d i,cls e j]=cls (a||b||c||d||e) (f||g||h||i||j):=by
 have:=XQ [(a,f),(b,g),(c,h),(d,i),(e,j)]
 simp only[List.map_cons,List.map_nil,List.any_cons,List.any_nil,Bool.or_false] at this;rw[this];simp only[Bool.or_assoc]
theorem gN{L:Nat}(v:V)(h:Good L v):qB v=cls (qR v).sh (qR v).pt:=by
 cases v with
 | str s=>rfl
 | word b=>rfl
 | list l=>rfl
 | obj ms=>
  simp only[qB,qR,Xh]
  cases ho:zJ ms [zM,zU,bDo,bOn,bIf] with
  | false=>rfl
  | true=>
   simp only[if_true]
   cases hk:opV (zh ms zM) with
   | none=>
    have d:zI xu (zh ms zM)=1:=by
     unfold opV at hk
     split at hk
     ·cases hk
     ·rename_i c;unfold zI
      split
      ·rename_i s a;exact absurd a (c s)
      ·rfl
    rw[d];rw[XR (by simp)]
    rfl
   | some eff=>
    have d:zI xu (zh ms zM)=cls (!xu eff) false:=by
     unfold opV at hk
     split at hk
     ·rename_i s a;injection hk with hk
      subst hk;rw[a]
      rfl
     ·cases hk
    rw[d,YD _ (qV h zU),YD _ (qV h bDo),YD _ (qV h bOn),om,wZ];simp only[Q3,Bool.false_or]
def ul:List Nat->Nat->Int×Nat
 | [],_=>(0,0)
 | c::cs,i=>if c=1 then (5,i+1) else if c=2 then (6,i+1) else ul cs (i+1)
theorem Vi{L:Nat}:∀(a:List V) (i:Nat),(∀v ∈ a,Good L v)->Zj (a.map qR) i=ul (a.map qB) i
 | [],_,_=>rfl
 | v::a,i,h=>by
  rw[List.map_cons,List.map_cons,Zj,ul,gN v (h v (by simp)),Vi a (i+1) (λx b=>h x (by simp[b]))]
  cases (qR v).sh<;>cases (qR v).pt<;>rfl
def xV(s:BY):Int×Nat:=
 if 4000<s.size then (1,0) else match xI s.data.toList with
  | .err e q=>(e,q)
  | .ok v _=>uh v
def Code(c:Int):Prop:=c=2\/c=3\/c=4
theorem af(l:List UInt8):∀(f:Nat),
  (∀d p c q,zL l f d p = .err c q->Code c) /\
  (∀d p acc c q,yZ l f d p acc = .err c q->Code c) /\
  (∀d p acc c q,y9 l f d p acc = .err c q->Code c)
 | 0=>by
  refine⟨λd p c q h=>?_,λd p acc c q h=>?_,λd p acc c q h=>?_⟩
  ·rw[zL] at h;injection h with h1 h2;exact .inl h1.symm
  ·rw[yZ] at h;injection h with h1 h2;exact .inl h1.symm
  ·rw[y9] at h;injection h with h1 h2;exact .inl h1.symm
 | f+1=>by
  obtain⟨i,b,g⟩:=af l f;refine⟨λd p c q h=>?_,λd p acc c q h=>?_,λd p acc c q h=>?_⟩
  ·rw[zL] at h
   by_cases c1:zf l p=123
   ·rw[if_pos c1] at h
    split at h
    ·injection h with h1 h2;exact .inr (.inl h1.symm)
    split at h
    ·cases h
    ·exact g _ _ _ _ _ h
   rw[if_neg c1] at h
   by_cases c2:zf l p=91
   ·rw[if_pos c2] at h
    split at h
    ·injection h with h1 h2;exact .inr (.inl h1.symm)
    split at h
    ·cases h
    ·exact b _ _ _ _ _ h
   rw[if_neg c2] at h
   by_cases c3:zf l p=34
   ·rw[if_pos c3] at h
    cases hs:yE l (p+1) with
    | ok s a=>rw[hs] at h;cases h
    | err e a=>
     rw[hs] at h;injection h with h1 h2
     subst h1;exact .inl (Jj hs)
   rw[if_neg c3] at h
   by_cases c4:zf l p=116
   ·rw[if_pos c4] at h
    cases hw:zK l [114,117,101] (p+1) with
    | ok s a=>rw[hw] at h;cases h
    | err e a=>
     rw[hw] at h;injection h with h1 h2
     subst h1;exact .inl (Ym hw)
   rw[if_neg c4] at h
   by_cases c5:zf l p=102
   ·rw[if_pos c5] at h
    cases hw:zK l [97,108,115,101] (p+1) with
    | ok s a=>rw[hw] at h;cases h
    | err e a=>
     rw[hw] at h;injection h with h1 h2
     subst h1;exact .inl (Ym hw)
   rw[if_neg c5] at h;injection h with h1 h2
   exact .inl h1.symm
  ·rw[yZ] at h
   cases hv:zL l f (d+1) p with
   | err e a=>
    rw[hv] at h;injection h with h1 h2
    subst h1;exact i _ _ _ _ hv
   | ok x a=>
    rw[hv] at h;simp only at h
    split at h
    ·exact b _ _ _ _ _ h
    split at h
    ·cases h
    ·injection h with h1 h2;exact .inl h1.symm
  ·rw[y9] at h
   split at h
   ·injection h with h1 h2;exact .inl h1.symm
   cases hs:yE l (p+1) with
   | err e a=>
    rw[hs] at h;injection h with h1 h2
    subst h1;exact .inl (Jj hs)
   | ok s j=>
    rw[hs] at h;simp only at h
    split at h
    ·injection h with h1 h2;exact .inr (.inr h1.symm)
    split at h
    ·injection h with h1 h2;exact .inl h1.symm
    cases hv:zL l f (d+1) (skip l (skip l j+1)) with
    | err e a=>
     rw[hv] at h;injection h with h1 h2
     subst h1;exact i _ _ _ _ hv
    | ok x a=>
     rw[hv] at h;simp only at h
     split at h
     ·exact g _ _ _ _ _ h
     split at h
     ·cases h
     ·injection h with h1 h2;exact .inl h1.symm
theorem fM{l:List UInt8}{c:Int}{q:Nat}(h:xI l = .err c q):Code c:=by
 unfold xI at h
 cases hv:zL l (2*l.length+1) 1 (skip l 0) with
 | err e a=>
  rw[hv] at h;injection h with h1 h2
  subst h1;exact (af l _).1 _ _ _ _ hv
 | ok x a=>
  rw[hv] at h;simp only at h
  split at h
  ·injection h with h1 h2;exact .inl h1.symm
  ·cases h
theorem IQ(v:V):qB v<=2:=by
 cases v with
 | obj ms=>simp only[qB];split;exact QV _;decide
 | _=>simp[qB]
theorem Vj:∀(cs:List Nat) (i:Nat),(∀c ∈ cs,c=0)->ul cs i=(0,0)
 | [],_,_=>rfl
 | c::cs,i,h=>by
  have b:=h c (by simp);rw[ul,if_neg (by omega),if_neg (by omega)];exact Vj cs _ (λx a=>h x (by simp[a]))
theorem ai:∀(cs:List Nat) (i k:Nat),(a:k<cs.length)->(∀j,(h:j<k)->cs[j]=0)->cs[k]≠0->cs[k]<=2->ul cs i=(if cs[k]=1 then 5 else 6,i+k+1)
 | [],_,k,a,_,_,_=>by simp at a
 | c::cs,i,0,a,_,h1,h2=>by
  simp only[List.getElem_cons_zero] at h1 h2 |-;rw[ul]
  by_cases e:c=1
  ·rw[if_pos e,if_pos e]
  ·rw[if_neg e,if_pos (by omega),if_neg e]
 | c::cs,i,k+1,a,h0,h1,h2=>by
  have b:c=0:=h0 0 (by omega);simp only[List.getElem_cons_succ] at h1 h2 |-;rw[ul,if_neg (by omega),if_neg (by omega),ai cs (i+1) k (by simpa using a) (λj d=>by have:=h0 (j+1) (by omega);simpa using this) h1 h2];have e:i+1+k+1=i+(k+1)+1:=by omega
  rw[e]
end Rd
end Go.Proofs.YtdakgnaojakldaaGreatDoor
