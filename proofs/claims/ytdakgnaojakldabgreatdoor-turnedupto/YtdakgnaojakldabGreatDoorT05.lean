/- P -/
import Derived.Test.YtdakgnaojakldabGreatDoorT04
import Derived.KernelRfl
set_option maxRecDepth 100000
namespace Go.Proofs.YtdakgnaojakldabGreatDoor
namespace Rd
open Ref
def zf(ms:List (BA×V))(nm:BA):Option V:=(ms.find? λm=>m.1.toList==nm.toList).map Prod.snd
def yP:List V->Option (List BA)
 | []=>some []
 | .str s::vs=>(yP vs).map λl=>s::l
 | _::_=>none
def zz:Option V->Option (List BA)
 | some (.str s)=>some [s]
 | some (.list vs)=>if vs.length<1\/10<vs.length then none else yP vs
 | _=>none
def zJ(ms:List (BA×V))(names:List BA):Bool:=ms.all λm=>names.any λt=>t.toList==m.1.toList
def yF:Option V->Bool×Option (List BA)
 | some (.obj ms)=>if zJ ms [zZ]=true/\ms.length=1 then (true,zz ((ms.map Prod.snd)[0]?)) else (false,none)
 | x=>(false,zz x)
def opV(x:Option V):Option BA:=match x with
 | some (.str s)=>some s
 | _=>none
def uh:Option V->Bool
 | some (.word b)=>b
 | _=>false
def yx:Option V->Bool
 | none=>false
 | some (.word _)=>false
 | _=>true
def Qm(ms:List (BA×V)):yA:=match opV (zf ms bOp),opV (zf ms zt) with
 | some op,some key=>
  if xI op then ⟨op,key,[],uh (zf ms bNo),yx (zf ms bNo) || !zM key || !zJ ms [bOp,zt,bNo],false⟩
  else ⟨op,key,(zz (zf ms zy)).getD [],uh (zf ms bNo),
   yx (zf ms bNo)||(!(zz (zf ms zy)).isSome || !ZY op ((zz (zf ms zy)).getD [])) || !zM key || !zJ ms [bOp,zt,bNo,zy],
   qD op && !((zz (zf ms zy)).getD []).all qX⟩
 | _,_=>ji
def qz:V->yA
 | .obj ms=>Qm ms
 | _=>ji
def qG:Option V->Vs
 | none=>⟨[],false,false⟩
 | some (.list vs)=>if 5<vs.length then ⟨[],true,false⟩ else ⟨vs.map qz,(vs.map qz).any yA.sh,(vs.map qz).any yA.pt⟩
 | some _=>⟨[],true,false⟩
theorem lq{a:List Ref.Node}{i:Nat}{v:V}(h:Rep a i v):∃n,a[i]?=some n:=by
 cases h with
 | str _ n _ h=>exact⟨n,h⟩
 | word _ n _ h=>exact⟨n,h⟩
 | list _ n _ h=>exact⟨n,h⟩
 | obj _ n _ h=>exact⟨n,h⟩
theorem dW(b:List Ref.Node)(nm:BA):∀(ms:List (BA×V)) (a:List Nat),a.length=ms.length->(∀(j k:Nat) (x:BA×V),a[j]?=some k->ms[j]?=some x->Rep b k x.2) ->
  (zf ms nm=none/\uL (ms.map Prod.fst) a nm = -1)\/∃v k,zf ms nm=some v/\uL (ms.map Prod.fst) a nm=((k:Nat):Int)/\Rep b k v
 | [],a,_,_=>by left;exact⟨rfl,by simp[uL]⟩
 | m::ms,[],hl,_=>by simp at hl
 | m::ms,k::a,hl,h=>by
  unfold zf;simp only[List.map_cons,uL,List.find?_cons]
  by_cases e:(m.1.toList==nm.toList)=true
  ·rw[e]
   right
   exact⟨m.2,k,rfl,by simp,h 0 k m rfl rfl⟩
  ·have c:(m.1.toList==nm.toList)=false:=by simpa using e
   rw[c];simp only[Bool.false_eq_true,if_false];exact dW b nm ms a (by simpa using hl) (λj g x d f=>h (j+1) g x (by simpa using d) (by simpa using f))
theorem Jw{b:List Ref.Node}{i:Nat}{n:Ref.Node}{ms:List (BA×V)}(h:Rep b i (.obj ms))(f:b[i]?=some n)(nm:BA) :
  (zf ms nm=none/\zu n nm = -1)\/∃v k,zf ms nm=some v/\zu n nm=((k:Nat):Int)/\Rep b k v:=by
 cases h with
 | obj _ l _ a g c d j e=>
  rw[f] at a;injection a with a
  subst a;unfold zu;rw[c];exact dW b nm ms n.kids d e
theorem DD{j:List Ref.Node}{i:Nat}{n:Ref.Node}{v:V}(h:Rep j i v)(e:j[i]?=some n)(l:∀ms,v ≠ .obj ms)(nm:BA):zu n nm = -1/\n.kind≠1/\n.names=[]:=by
 have key:n.names=[]/\n.kind≠1:=by
  cases h with
  | str _ f _ a c d g k=>rw[e] at a;injection a with a;subst a;exact⟨k,by omega⟩
  | word _ f b a c d g=>rw[e] at a;injection a with a;subst a;exact⟨g,by cases b<;>simp at c<;>omega⟩
  | list _ f _ a c d=>rw[e] at a;injection a with a;subst a;exact⟨d,by omega⟩
  | obj _ f ms=>exact absurd rfl (l ms)
 refine⟨?_,key.2,key.1⟩;unfold zu;rw[key.1];simp[uL]
theorem UB{d:List Ref.Node}{k:Nat}{v:V}(h:Rep d k v):(kindOf d k=1↔∃ms,v = .obj ms)/\(kindOf d k=2↔∃e,v = .list e)/\(kindOf d k=3↔∃s,v = .str s)/\(kindOf d k=4↔v = .word true)/\(kindOf d k=5↔v = .word false)/\(∀s,v = .str s->textOf d k=s):=by
 unfold kindOf textOf;rw[show ((k:Int)).toNat=k by simp]
 cases h with
 | str _ n s c a f=>rw[c];simp[a,f]
 | word _ n b c a=>rw[c];cases b<;>simp at a<;>simp[a]
 | list _ n e c a=>rw[c];simp[a]
 | obj _ n ms c a=>rw[c];simp[a]
theorem mM(f:List Ref.Node):∀(e:List V) (d:List Nat),d.length=e.length->(∀(j k:Nat) (v:V),d[j]?=some k->e[j]?=some v->Rep f k v)->Vh f d=yP e
 | [],[],_,_=>rfl
 | [],k::d,hl,_=>by simp at hl
 | v::e,[],hl,_=>by simp at hl
 | v::e,k::d,hl,h=>by
  have g:=h 0 k v rfl rfl;have l:=mM f e d (by simpa using hl) (λj m x c a=>h (j+1) m x (by simpa using c) (by simpa using a));rw[Vh,l]
  cases g with
  | str _ n s c a i=>rw[c];simp[a,i,yP]
  | word _ n b c a=>rw[c];cases b<;>simp at a<;>simp[a,yP]
  | list _ n o c a=>rw[c];simp[a,yP]
  | obj _ n ms c a=>rw[c];simp[a,yP]
theorem Kt{e:List Ref.Node}{k:Nat}{v:V}(h:Rep e k v):kY e k=zz (some v):=by
 unfold kY;rw[if_neg (by omega),show ((k:Int)).toNat=k by simp]
 cases h with
 | str _ n s d a g=>rw[d];simp[a,g,zz]
 | word _ n b d a=>rw[d];cases b<;>simp at a<;>simp[a,zz]
 | list _ n f d a g i l j=>
  rw[d];simp only[a,zz];rw[if_neg (by decide),i]
  by_cases c:f.length<1\/10<f.length
  ·rw[if_pos (.inr c),if_pos c]
  ·rw[if_neg (by simpa using c),if_neg c];exact mM e f n.kids i j
 | obj _ n ms d a=>rw[d];simp[a,zz]
theorem Pk(a:List Ref.Node):kY a (-1)=zz none:=by
 unfold kY;rw[if_pos (by decide)];rfl
theorem UR{b:List Ref.Node}{i:Nat}{n:Ref.Node}{ms:List (BA×V)}(h:Rep b i (.obj ms))(e:b[i]?=some n)(names:List BA):YI n names=zJ ms names:=by
 cases h with
 | obj _ k _ a c d f g j=>
  rw[e] at a;injection a with a
  subst a;unfold YI zJ;rw[d,c,List.all_map];simp[Function.comp_def]
theorem sW{l:List Ref.Node}{k:Nat}{v:V}(h:Rep l k v):Ym l k=yF (some v):=by
 have u:=Kt h;have g:=UB h;obtain⟨n,f⟩:=lq h;unfold Ym;rw[if_neg (by omega),show ((k:Int)).toNat=k by simp,f];simp only;have i:kindOf l k=n.kind:=by unfold kindOf;rw[show ((k:Int)).toNat=k by simp,f]
 rw[i] at g
 by_cases c:n.kind=1
 ·rw[if_pos c];obtain⟨ms,rfl⟩:=g.1.1 c;rw[UR h f]
  cases h with
  | obj _ z _ d w q x y r=>
   rw[f] at d;injection d with d
   subst d;have s:n.names.length=ms.length:=by rw[q];simp
   unfold yF;simp only;rw[s]
   by_cases c2:zJ ms [zZ]=true/\ms.length=1
   ·rw[if_pos c2,if_pos c2];have p:0<ms.length:=by omega
    have a:n.kids[0]?=some (n.kids[0]'(by omega)):=List.getElem?_eq_getElem (by omega);have b:ms[0]?=some ms[0]:=List.getElem?_eq_getElem p;have t:=Kt (r 0 _ _ a b);have m:n.kids.getD 0 0=n.kids[0]'(by omega):=by rw[List.getD_eq_getElem?_getD,a];rfl
    have o:(ms.map Prod.snd)[0]?=some ms[0].2:=by rw[List.getElem?_map,b];rfl
    rw[m,o,t]
   ·rw[if_neg c2,if_neg c2]
 ·rw[if_neg c];have j:∀ms,v ≠ .obj ms:=λms e=>c (g.1.2 ⟨ms,e⟩);rw[u]
  cases v with
  | obj ms=>exact absurd rfl (j ms)
  | _=>rfl
theorem sV(a:List Ref.Node):Ym a (-1)=yF none:=by
 unfold Ym;rw[if_pos (by decide)];rfl
def vw(a:List Ref.Node)(h:Int)(x:Option V):Prop:=(x=none/\h = -1)\/∃v k,x=some v/\h=((k:Nat):Int)/\Rep a k v
theorem vw.strings{a:List Ref.Node}{h:Int}{x:Option V}(r:vw a h x):kY a h=zz x:=by
 rcases r with ⟨rfl,rfl⟩|⟨v,k,rfl,rfl,hr⟩
 ·exact Pk a
 ·exact Kt hr
theorem vw.choice{a:List Ref.Node}{h:Int}{x:Option V}(r:vw a h x):Ym a h=yF x:=by
 rcases r with ⟨rfl,rfl⟩|⟨v,k,rfl,rfl,hr⟩
 ·exact sV a
 ·exact sW hr
theorem vw.noT{c:List Ref.Node}{h:Int}{x:Option V}(r:vw c h x):Ref.noT c h=uh x/\Ref.JJ c h=yx x:=by
 rcases r with ⟨rfl,rfl⟩|⟨v,k,rfl,rfl,hr⟩
 ·exact⟨rfl,rfl⟩
 ·have a:=UB hr;unfold Ref.noT Ref.JJ
  cases v with
  | word b=>
   cases b with
   | true=>
    have:=a.2.2.2.1.2 rfl
    rw[this];simp[uh,yx]
   | false=>
    have:=a.2.2.2.2.1.2 rfl
    rw[this];simp[uh,yx]
  | str s=>
   have:=a.2.2.1.2 ⟨s,rfl⟩
   rw[this];simp[uh,yx]
  | list l=>
   have:=a.2.1.2 ⟨l,rfl⟩
   rw[this];simp[uh,yx]
  | obj l=>
   have:=a.1.2 ⟨l,rfl⟩
   rw[this];simp[uh,yx]
theorem vw.op{d:List Ref.Node}{h:Int}{x:Option V}(r:vw d h x):(opV x=none/\(h<0\/kindOf d h≠3))\/∃s,opV x=some s/\0<=h/\kindOf d h=3/\textOf d h=s:=by
 rcases r with ⟨rfl,rfl⟩|⟨v,k,rfl,rfl,hr⟩
 ·left;exact⟨rfl,.inl (by decide)⟩
 ·have a:=UB hr
  cases v with
  | str s=>right;exact⟨s,rfl,by omega,a.2.2.1.2 ⟨s,rfl⟩,a.2.2.2.2.2 s rfl⟩
  | word b=>left;exact⟨rfl,.inr (λe=>by obtain⟨s,c⟩:=a.2.2.1.1 e;cases c)⟩
  | list l=>left;exact⟨rfl,.inr (λe=>by obtain⟨s,c⟩:=a.2.2.1.1 e;cases c)⟩
  | obj l=>left;exact⟨rfl,.inr (λe=>by obtain⟨s,c⟩:=a.2.2.1.1 e;cases c)⟩
theorem wC{a:List Ref.Node}{k:Nat}{n:Ref.Node}{v:V}(h:Rep a k v)(b:a[k]?=some n):Yp a n=qz v:=by
 by_cases ho:∃ms,v = .obj ms
 ·obtain⟨ms,rfl⟩:=ho;have j:vw a (zu n bOp) (zf ms bOp):=Jw h b bOp;have l:vw a (zu n zt) (zf ms zt):=Jw h b zt;have m:vw a (zu n bNo) (zf ms bNo):=Jw h b bNo;have o:vw a (zu n zy) (zf ms zy):=Jw h b zy;have g:=o.strings;obtain⟨c,d⟩:=m.noT;show Yp a n=Qm ms;unfold Yp Qm;rw[UR h b,UR h b,g,c,d]
  rcases j.op with ⟨e1,c1⟩|⟨s1,e1,a1,b1,t1⟩
  ·rw[if_pos (by rcases c1 with c1|c1;exact .inl c1;exact .inr (.inr (.inl c1))),e1]
  rcases l.op with ⟨e2,c2⟩|⟨s2,e2,a2,b2,t2⟩
  ·rw[if_pos (by rcases c2 with c2|c2;exact .inr (.inl c2);exact .inr (.inr (.inr c2))),e1,e2]
  rw[if_neg (by omega),e1,e2,t1,t2]
 ·have f:∀ms,v ≠ .obj ms:=λms e=>ho ⟨ms,e⟩;have i:=(DD h b f bOp).1;unfold Yp;rw[if_pos (.inl (by rw[i];decide))]
  cases v with
  | obj ms=>exact absurd rfl (f ms)
  | _=>rfl
theorem bI(c:List Ref.Node):∀(b:List V) (a:List Nat),a.length=b.length->(∀(j k:Nat) (v:V),a[j]?=some k->b[j]?=some v->Rep c k v)->Yq c a=b.map qz
 | [],[],_,_=>rfl
 | [],k::a,hl,_=>by simp at hl
 | v::b,[],hl,_=>by simp at hl
 | v::b,k::a,hl,h=>by
  have d:=h 0 k v rfl rfl;have f:=bI c b a (by simpa using hl) (λj l x g i=>h (j+1) l x (by simpa using g) (by simpa using i));unfold Yq at f |-;rw[List.map_cons,List.map_cons,f];obtain⟨n,e⟩:=lq d;rw[e];simp only;rw[wC d e]
theorem vw.conds{e:List Ref.Node}{h:Int}{x:Option V}(r:vw e h x):V6 e h=qG x:=by
 rcases r with ⟨rfl,rfl⟩|⟨v,k,rfl,rfl,hr⟩
 ·unfold V6;rw[if_pos (by decide)];rfl
 ·unfold V6;rw[if_neg (by omega),show ((k:Int)).toNat=k by simp]
  cases hr with
  | str _ n s d a i=>rw[d];simp[a,qG]
  | word _ n b d a=>rw[d];cases b<;>simp at a<;>simp[a,qG]
  | obj _ n ms d a=>rw[d];simp[a,qG]
  | list _ n g d a i f l j=>
   rw[d];simp only[qG];rw[a,f,bI e g n.kids f j]
   by_cases c:5<g.length
   ·rw[if_pos (.inr c),if_pos c]
   ·rw[if_neg (by omega),if_neg c]
structure jd where
 eff:BA
 who:Bool×List BA
 act:Bool×List BA
 on:Bool×List BA
 cs:List yA
 sh:Bool
 pt:Bool
def zQ:BA:=⟨#[101,102,102,101,99,116]⟩
def zS:BA:=⟨#[119,104,111]⟩
def bDo:BA:=⟨#[100,111]⟩
def bOn:BA:=⟨#[111,110]⟩
def bIf:BA:=⟨#[105,102]⟩
def yS:BA:=⟨#[115,116,97,116,101,109,101,110,116]⟩
def xx(s:BA):Bool:=(s.toList==[97,108,108,111,119])||(s.toList==[100,101,110,121])
def ug:jd:=⟨⟨#[]⟩,(false,[]),(false,[]),(false,[]),[],true,false⟩
def chD(c:Bool×Option (List BA)):Bool×List BA:=(c.1,c.2.getD [])
def chP(c:Bool×Option (List BA)):Bool:=!((c.2.getD []).all qX)
def XI(eff:BA)(a b c:Bool×Option (List BA))(cs:Vs):jd:=
 ⟨eff,chD a,chD b,chD c,cs.cs,!xx eff || !a.2.isSome || !b.2.isSome || !c.2.isSome||cs.sh,chP a||chP b||chP c||cs.pt⟩
def XX(ms:List (BA×V)):jd:=match zJ ms [zQ,zS,bDo,bOn,bIf],opV (zf ms zQ) with
 | true,some eff=>XI eff (yF (zf ms zS)) (yF (zf ms bDo)) (yF (zf ms bOn)) (qG (zf ms bIf))
 | _,_=>ug
def xq:V->jd
 | .obj ms=>XX ms
 | _=>ug
def ZX:List jd->Nat->Int×Nat
 | [],_=>(0,0)
 | r::rs,i=>if r.sh then (5,i+1) else if r.pt then (6,i+1) else ZX rs (i+1)
def vX:V->Int×Nat
 | .obj ms=>match zf ms yS with
  | some (.list vs)=>if ms.length≠1\/vs.length<1\/10<vs.length then (5,0) else ZX (vs.map xq) 0
  | _=>(5,0)
 | _=>(5,0)
def cls(sh pt:Bool):Nat:=if sh then 1 else if pt then 2 else 0
def zT(l:List Nat):Nat:=if l.any (λc=>c==1) then 1 else if l.any (λc=>c==2) then 2 else 0
theorem tC(sh pt:Bool):(cls sh pt==1)=sh:=by cases sh<;>cases pt<;>rfl
theorem tF(pt:Bool):(cls false pt==2)=pt:=by cases pt<;>rfl
theorem Yx:∀(l:List (Bool×Bool)),zT (l.map λx=>cls x.1 x.2)=cls (l.any Prod.fst) (l.any Prod.snd):=by
 intro l
 have b:(l.map λx=>cls x.1 x.2).any (λc=>c==1)=l.any Prod.fst:=by
  rw[List.any_map];exact congrArg (λf=>l.any f) (funext λx=>tC x.1 x.2)
 unfold zT;rw[b]
 cases h:l.any Prod.fst with
 | true=>rfl
 | false=>
  have d:(l.map λx=>cls x.1 x.2).any (λc=>c==2)=l.any Prod.snd:=by
   rw[List.any_eq_false] at h;clear b
   induction l with
   | nil=>rfl
   | cons a r i=>
    have e:a.1=false:=by have:=h a (by simp);simpa using this
    rw[List.map_cons,List.any_cons,List.any_cons,i (λx g=>h x (by simp[g])),e,tF]
  rw[d]
  rfl
theorem dS(c:Nat)(h:c<=2):zT [c]=c:=by
 have:c=0\/c=1\/c=2:=by omega
 rcases this with rfl|rfl|rfl<;>rfl
theorem bn(sh pt:Bool):cls sh pt<=2:=by cases sh<;>cases pt<;>decide
theorem XB(l:List Nat):zT l<=2:=by unfold zT;split;decide;split<;>decide
def qf(c:Option V->Nat):Option V->Nat
 | some (.list vs)=>if vs.length<1\/10<vs.length then 1 else zT (vs.map λv=>c (some v))
 | x=>zT [c x]
def qj(f:Option V->BA):Option V->List BA
 | some (.list vs)=>if vs.length<1\/10<vs.length then [] else vs.map λv=>f (some v)
 | x=>[f x]
def strOf:Option V->BA
 | some (.str s)=>s
 | _=>⟨#[]⟩
def xB:Option V->Nat
 | some (.str s)=>cls false (!qX s)
 | _=>1
def zL(f:BA->Bool):Option V->Nat
 | some (.str s)=>cls (!f s) false
 | _=>1
def ql(f:BA->Bool):Option V->BA
 | some (.str s)=>if f s then s else ⟨#[]⟩
 | _=>⟨#[]⟩
theorem YT:∀(a:List V),(∃l,yP a=some l/\a=l.map .str)\/(yP a=none/\∃v ∈ a,∀s,v ≠ .str s)
 | [] => .inl ⟨[],rfl,rfl⟩
 | v::a=>by
  cases v with
  | str s=>
   rcases YT a with ⟨l,h1,h2⟩|⟨h1,v,hv,h2⟩
   ·left;exact⟨s::l,by simp[yP,h1],by simp[h2]⟩
   ·right;exact⟨by simp[yP,h1],v,by simp[hv],h2⟩
  | word b=>right;exact⟨rfl,.word b,by simp,λs e=>by cases e⟩
  | list l=>right;exact⟨rfl,.list l,by simp,λs e=>by cases e⟩
  | obj l=>right;exact⟨rfl,.obj l,by simp,λs e=>by cases e⟩
theorem Yy{l:List Nat}(h:1 ∈ l):zT l=1:=by
 unfold zT;rw[if_pos];rw[List.any_eq_true];exact⟨1,h,rfl⟩
theorem Dw(f:BA->Bool)(l:List BA):zT (l.map λs=>cls false (!f s))=cls false (!l.all f):=by
 have:=Yx (l.map λs=>(false,!f s))
 rw[List.map_map] at this;have e:((λx:Bool×Bool=>cls x.1 x.2) ∘ λs=>(false,!f s))=λs=>cls false (!f s):=rfl;rw[e] at this;rw[this];have a:(l.map λs=>(false,!f s)).any Prod.fst=false:=by rw[List.any_map,List.any_eq_false];intro x _;simp
 have b:(l.map λs=>(false,!f s)).any Prod.snd = !l.all f:=by rw[List.any_map,List.not_all_eq_any_not];rfl
 rw[a,b]
theorem Dx(f:BA->Bool)(l:List BA):zT (l.map λs=>cls (!f s) false)=cls (!l.all f) false:=by
 have:=Yx (l.map λs=>(!f s,false))
 rw[List.map_map] at this;have e:((λx:Bool×Bool=>cls x.1 x.2) ∘ λs=>(!f s,false))=λs=>cls (!f s) false:=rfl;rw[e] at this;rw[this];have a:(l.map λs=>(!f s,false)).any Prod.snd=false:=by rw[List.any_map,List.any_eq_false];intro x _;simp
 have b:(l.map λs=>(!f s,false)).any Prod.fst = !l.all f:=by rw[List.any_map,List.not_all_eq_any_not];rfl
 rw[a,b]
theorem XN(x:Option V):qf xB x=cls (!(zz x).isSome) (!((zz x).getD []).all qX):=by
 have a:∀x:Option V,zz x=none->xB x=1->(∀d,x≠some (.list d))->qf xB x=cls (!(zz x).isSome) (!((zz x).getD []).all qX):=by
  intro x h e f;rw[h];unfold qf
  split
  ·rename_i d;exact absurd rfl (f d)
  ·rw[e];rfl
 match x with
 | none=>exact a none rfl rfl (by simp)
 | some (.word b)=>exact a _ rfl rfl (by simp)
 | some (.obj ms)=>exact a _ rfl rfl (by simp)
 | some (.str s)=>
  show zT [xB (some (.str s))]=_;simp only[xB,zz,Option.getD_some,Option.isSome_some,List.all_cons,List.all_nil,Bool.and_true,Bool.not_true];exact dS _ (bn _ _)
 | some (.list d)=>
  simp only[qf,zz]
  by_cases c:d.length<1\/10<d.length
  ·rw[if_pos c,if_pos c];rfl
  ·rw[if_neg c,if_neg c]
   rcases YT d with ⟨l,e,rfl⟩|⟨e,v,hv,f⟩
   ·rw[e,List.map_map];exact Dw qX l
   ·rw[e];rw[Yy]
    ·rfl
    ·rw[List.mem_map];refine⟨v,hv,?_⟩
     cases v with
     | str s=>exact absurd rfl (f s)
     | _=>rfl
theorem JM(f:BA->Bool)(x:Option V):qf (zL f) x=cls (!(zz x).isSome || !((zz x).getD []).all f) false:=by
 have a:∀x:Option V,zz x=none->zL f x=1->(∀d,x≠some (.list d))->qf (zL f) x=cls (!(zz x).isSome || !((zz x).getD []).all f) false:=by
  intro x h e g;rw[h];unfold qf
  split
  ·rename_i d;exact absurd rfl (g d)
  ·rw[e];rfl
 match x with
 | none=>exact a none rfl rfl (by simp)
 | some (.word b)=>exact a _ rfl rfl (by simp)
 | some (.obj ms)=>exact a _ rfl rfl (by simp)
 | some (.str s)=>
  show zT [zL f (some (.str s))]=_;simp only[zL,zz,Option.getD_some,Option.isSome_some,List.all_cons,List.all_nil,Bool.and_true,Bool.not_true,Bool.false_or];exact dS _ (bn _ _)
 | some (.list d)=>
  simp only[qf,zz]
  by_cases c:d.length<1\/10<d.length
  ·rw[if_pos c,if_pos c];rfl
  ·rw[if_neg c,if_neg c]
   rcases YT d with ⟨l,e,rfl⟩|⟨e,v,hv,g⟩
   ·rw[e,List.map_map];exact Dx f l
   ·rw[e];rw[Yy]
    ·rfl
    ·rw[List.mem_map];refine⟨v,hv,?_⟩
     cases v with
     | str s=>exact absurd rfl (g s)
     | _=>rfl
theorem gW(x:Option V)(h:(zz x).isSome):qj strOf x=(zz x).getD []:=by
 match x with
 | none=>simp[zz] at h
 | some (.word b)=>simp[zz] at h
 | some (.obj ms)=>simp[zz] at h
 | some (.str s)=>rfl
 | some (.list vs)=>
  simp only[qj,zz] at h |-
  by_cases c:vs.length<1\/10<vs.length
  ·rw[if_pos c] at h;simp at h
  ·rw[if_neg c] at h |-;rw[if_neg c]
   rcases YT vs with ⟨l,h1,rfl⟩|⟨h1,v,hv,h2⟩
   ·rw[h1,List.map_map];exact List.map_id' l
   ·rw[h1] at h;simp at h
theorem Ig(f:BA->Bool)(x:Option V)(h:(zz x).isSome)(a:((zz x).getD []).all f=true):qj (ql f) x=(zz x).getD []:=by
 match x with
 | none=>simp[zz] at h
 | some (.word b)=>simp[zz] at h
 | some (.obj ms)=>simp[zz] at h
 | some (.str s)=>
  simp only[zz,Option.getD_some,List.all_cons,List.all_nil,Bool.and_true] at a;simp[qj,ql,a,zz]
 | some (.list vs)=>
  simp only[qj,zz] at h a |-
  by_cases c:vs.length<1\/10<vs.length
  ·rw[if_pos c] at h;simp at h
  ·rw[if_neg c] at h a |-;rw[if_neg c]
   rcases YT vs with ⟨l,h1,rfl⟩|⟨h1,v,hv,h2⟩
   ·rw[h1] at a |-;rw[List.map_map];simp only[Option.getD_some] at a |-
    have:∀s ∈ l,((λv=>ql f (some v)) ∘ V.str) s=s:=by
     intro s d;rw[List.all_eq_true] at a;simp[ql,a s d]
    rw[List.map_congr_left this];exact List.map_id' l
   ·rw[h1] at h;simp at h
inductive Good (L:Nat):V->Prop
 | str (s:BA):s.size<=L->Good L (.str s)
 | word (b:Bool):Good L (.word b)
 | list (vs:List V):vs.length<=L->(∀v ∈ vs,Good L v)->Good L (.list vs)
 | obj (ms:List (BA×V)):ms.length<=L->(ms.map λm=>m.1.toList).Nodup->(∀m ∈ ms,m.1.size<=L)->(∀m ∈ ms,Good L m.2)->Good L (.obj ms)
theorem KV{l:List UInt8}:∀{r:List Nat} {p q:Nat} {u:Unit},zP l r p = .ok u q->(∀b ∈ r,b≠0)->p<=l.length->p<=q/\q<=l.length
 | [],p,q,u,h,_,hp=>by
  rw[zP] at h;injection h with h1 h2
  omega
 | b::r,p,q,u,h,hb,hp=>by
  rw[zP] at h
  split at h
  ·rename_i c;have e:b≠0:=hb b (by simp);have a:=zW l p (by omega)
   have:=KV h (λx d=>hb x (by simp[d])) (by omega)
   omega
  ·cases h
theorem dP(l:List UInt8):∀(f:Nat),
  (∀d p v q,zR l f d p = .ok v q->Good l.length v/\p<q/\q<=l.length) /\
  (∀d p acc v q,jI l f d p acc = .ok v q->acc.length<=p->(∀x ∈ acc,Good l.length x)->Good l.length v/\p<q/\q<=l.length) /\
  (∀d p acc v q,jJ l f d p acc = .ok v q->acc.length<=p->(acc.map λm=>m.1.toList).Nodup->(∀x ∈ acc,x.1.size<=l.length/\Good l.length x.2)->Good l.length v/\p<q/\q<=l.length)
 | 0=>by
  refine⟨λd p v q h=>?_,λd p acc v q h=>?_,λd p acc v q h=>?_⟩
  ·rw[zR] at h;cases h
  ·rw[jI] at h;cases h
  ·rw[jJ] at h;cases h
 | f+1=>by
  obtain⟨w,t,u⟩:=dP l f;refine⟨λd p v q h=>?_,λd p acc v q h z C=>?_,λd p acc v q h z L C=>?_⟩
  ·rw[zR] at h;have M:=xW l (p+1)
   by_cases c1:ze l p=123
   ·rw[if_pos c1] at h
    split at h
    ·cases h
    split at h
    ·rename_i k;injection h with h1 h2
     subst h1
     have:=zW l (skip l (p+1)) (by omega)
     exact⟨.obj [] (Nat.zero_le _) (by simp) (by simp) (by simp),by omega,by omega⟩
    ·obtain⟨a,b,c⟩:=u _ _ _ _ _ h (by simp) (by simp) (by simp);exact⟨a,by omega,c⟩
   rw[if_neg c1] at h
   by_cases c2:ze l p=91
   ·rw[if_pos c2] at h
    split at h
    ·cases h
    split at h
    ·rename_i k;injection h with h1 h2
     subst h1
     have:=zW l (skip l (p+1)) (by omega)
     exact⟨.list [] (Nat.zero_le _) (by simp),by omega,by omega⟩
    ·obtain⟨a,b,c⟩:=t _ _ _ _ _ h (by simp) (by simp);exact⟨a,by omega,c⟩
   rw[if_neg c2] at h
   by_cases c3:ze l p=34
   ·rw[if_pos c3] at h;have n:xM l p=jb l (p+1):=by unfold xM;rw[if_pos c3]
    cases hs:jb l (p+1) with
    | err c g=>rw[hs] at h;cases h
    | ok s g=>
     rw[hs] at h;injection h with h1 h2
     subst h1;subst h2;rw[hs] at n;have I:=JX n;have G:=JY n;exact⟨.str s (by omega),by omega,G⟩
   rw[if_neg c3] at h
   by_cases c4:ze l p=116
   ·rw[if_pos c4] at h;have D:=zW l p (by omega)
    cases hw:zP l [114,117,101] (p+1) with
    | err c g=>rw[hw] at h;cases h
    | ok s g=>
     rw[hw] at h;injection h with h1 h2
     subst h1;subst h2
     have:=KV hw (by decide) (by omega)
     exact⟨.word true,by omega,this.2⟩
   rw[if_neg c4] at h
   by_cases c5:ze l p=102
   ·rw[if_pos c5] at h;have D:=zW l p (by omega)
    cases hw:zP l [97,108,115,101] (p+1) with
    | err c g=>rw[hw] at h;cases h
    | ok s g=>
     rw[hw] at h;injection h with h1 h2
     subst h1;subst h2
     have:=KV hw (by decide) (by omega)
     exact⟨.word false,by omega,this.2⟩
   rw[if_neg c5] at h
   cases h
  ·rw[jI] at h
   cases hv:zR l f (d+1) p with
   | err c g=>rw[hv] at h;cases h
   | ok x g=>
    rw[hv] at h;simp only at h;obtain⟨B,J,K⟩:=w _ _ _ _ hv;have O:=xW l g
    have i:∀y ∈ acc++[x],Good l.length y:=by
     intro y j
     rcases List.mem_append.1 j with j|j
     ·exact C y j
     ·simp only[List.mem_singleton] at j;subst j;exact B
    split at h
    ·have P:=xW l (skip l g+1);obtain⟨a,b,c⟩:=t _ _ _ _ _ h (by simp;omega) i;exact⟨a,by omega,c⟩
    split at h
    ·rename_i k;injection h with h1 h2
     subst h1
     have:=zW l (skip l g) (by omega)
     exact⟨.list _ (by simp;omega) i,by omega,by omega⟩
    ·cases h
  ·rw[jJ] at h
   split at h
   ·cases h
   rename_i c3;have A:ze l p=34:=by omega
   have n:xM l p=jb l (p+1):=by unfold xM;rw[if_pos A]
   cases hs:jb l (p+1) with
   | err c g=>rw[hs] at h;cases h
   | ok s F=>
    rw[hs] at h;rw[hs] at n;simp only at h;have I:=JX n;have G:=JY n
    split at h
    ·cases h
    rename_i E
    split at h
    ·cases h
    cases hv:zR l f (d+1) (skip l (skip l F+1)) with
    | err c g=>rw[hv] at h;cases h
    | ok x g=>
     rw[hv] at h;simp only at h;obtain⟨B,J,K⟩:=w _ _ _ _ hv;have Q:=xW l F;have N:=xW l (skip l F+1);have O:=xW l g
     have i:∀y ∈ acc++[(s,x)],y.1.size<=l.length/\Good l.length y.2:=by
      intro y j
      rcases List.mem_append.1 j with j|j
      ·exact C y j
      ·simp only[List.mem_singleton] at j;subst j;exact⟨by simp only;omega,B⟩
     have r:((acc++[(s,x)]).map λm=>m.1.toList).Nodup:=by
      rw[List.map_append,List.nodup_append];refine⟨L,by simp,?_⟩;intro a z b H;simp only[List.map_cons,List.map_nil,List.mem_singleton] at H;subst H;rw[List.mem_map] at z;obtain⟨m,o,rfl⟩:=z;intro e;apply E;rw[List.any_eq_true];exact⟨m,o,by simp[e]⟩
     split at h
     ·have P:=xW l (skip l g+1);obtain⟨a,b,c⟩:=u _ _ _ _ _ h (by simp;omega) r i;exact⟨a,by omega,c⟩
     split at h
     ·rename_i k;injection h with h1 h2
      subst h1
      have:=zW l (skip l g) (by omega)
      exact⟨.obj _ (by simp;omega) r (λm o=>(i m o).1) (λm o=>(i m o).2),by omega,by omega⟩
     ·cases h
theorem YP{l:List UInt8}{v:V}{q:Nat}(h:xN l = .ok v q):Good l.length v:=by
 unfold xN at h
 cases hv:zR l (2*l.length+1) 1 (skip l 0) with
 | err c a=>rw[hv] at h;cases h
 | ok x a=>
  rw[hv] at h;simp only at h
  split at h
  ·cases h
  ·injection h with h1 h2
   subst h1;exact ((dP l _).1 _ _ _ _ hv).1
def chC:Option V->Nat
 | some (.obj ms)=>if zJ ms [zZ] then qf xB (zf ms zZ) else 1
 | x=>qf xB x
theorem Je{L:Nat}(x:Option V)(h:∀v,x=some v->Good L v):chC x=cls (!(yF x).2.isSome) (chP (yF x)):=by
 match x with
 | none=>exact XN none
 | some (.word b)=>exact XN (some (.word b))
 | some (.str s)=>exact XN (some (.str s))
 | some (.list vs)=>exact XN (some (.list vs))
 | some (.obj ms)=>
  simp only[chC,yF]
  by_cases c:zJ ms [zZ]=true
  ·rw[if_pos c];have a:=h _ rfl
   cases a with
   | obj _ f d g i=>
    match ms with
    | []=>rfl
    | [m]=>
     have e:(m.1.toList==zZ.toList)=true:=by
      simp[zJ] at c;simp[c]
     rw[if_pos ⟨c,rfl⟩];have a:zf [m] zZ=some m.2:=by unfold zf;rw[List.find?_cons,e];rfl
     rw[a];exact XN _
    | m::m'::r=>
     exfalso;simp[zJ] at c;simp only[List.map_cons,List.nodup_cons,List.mem_cons,not_or] at d;exact d.1.1 (by rw[<- c.1,<- c.2.1])
  ·rw[if_neg c,if_neg (λe=>c e.1)]
   rfl
def short(s:BA):Bool:=decide (s.size<=60)
def filled(s:BA):Bool:=!s.toList.isEmpty&&short s
def xJ(op:BA):Bool:=op.toList==[115,97,109,101]
def yu(op:BA):Bool:=op.toList==[98,101,108,111,119]
def uf(op:BA):Bool:=op.toList==[117,110,100,101,114]
def zU(op:BA)(x:Option V):Nat:=
 if qD op then qf xB x
 else if xJ op then qf (zL short) x
 else if yu op then qf (zL qE) x
 else if uf op then qf (zL filled) x
 else if x.isNone then 0 else 1
def qF(op:BA)(x:Option V):List BA:=
 if qD op then qj strOf x
 else if xJ op then qj (ql short) x
 else if yu op then qj (ql qE) x
 else if uf op then qj (ql filled) x
 else []
theorem Y6{f g:BA->Bool}(h:∀s,f s=g s)(l:List BA):l.all f=l.all g:=by rw[show f=g from funext h]
theorem fK(op:BA)(x:Option V)(h:jK op=true):zU op x=cls (!(zz x).isSome || !ZY op ((zz x).getD [])) (qD op && !((zz x).getD []).all qX):=by
 unfold zU ZY;rw[h,Bool.and_true]
 by_cases c1:qD op=true
 ·rw[if_pos c1];have e:op.toList=[108,105,107,101]:=by simpa [qD] using c1
  have a:∀s,Zx op s=true:=by intro s;unfold Zx;rw[e];rfl
  rw[Y6 a,c1,XN,show ((zz x).getD []).all (λ_=>true)=true from by simp]
  simp
 rw[if_neg c1];have b:qD op=false:=by simpa using c1
 rw[b,Bool.false_and]
 by_cases c2:xJ op=true
 ·rw[if_pos c2];have e:op.toList=[115,97,109,101]:=by simpa [xJ] using c2
  have a:∀s,Zx op s=short s:=by intro s;unfold Zx;rw[e];rfl
  rw[Y6 a,JM]
 rw[if_neg c2]
 by_cases c3:yu op=true
 ·rw[if_pos c3];have e:op.toList=[98,101,108,111,119]:=by simpa [yu] using c3
  have a:∀s,Zx op s=qE s:=by intro s;unfold Zx;rw[e];rfl
  rw[Y6 a,JM]
 rw[if_neg c3]
 by_cases c4:uf op=true
 ·rw[if_pos c4];have e:op.toList=[117,110,100,101,114]:=by simpa [uf] using c4
  have a:∀s,Zx op s=filled s:=by
   intro s;unfold Zx;rw[e];show (decide (s.size<=60) && !s.toList.isEmpty)=(!s.toList.isEmpty&&short s);rw[Bool.and_comm]
   rfl
  rw[Y6 a,JM]
 exfalso;unfold jK at h;unfold qD at c1;unfold xJ at c2;unfold yu at c3;unfold uf at c4;simp only[Bool.or_eq_true] at h
 rcases h with ((h|h)|h)|h
 ·exact c2 h
 ·exact c4 h
 ·exact c3 h
 ·exact c1 h
theorem Il(ms:List (BA×V)):zJ ms [bOp,zt,zy,bNo]=zJ ms [bOp,zt,bNo,zy]:=by
 unfold zJ;refine congrArg (λf=>ms.all f) (funext λm=>?_);simp only[List.any_cons,List.any_nil,Bool.or_false];rw[Bool.or_comm (zy.toList==m.1.toList) (bNo.toList==m.1.toList)]
theorem gX(m:BA×V)(ms:List (BA×V))(a:List BA):zJ (m::ms) a=((a.any λt=>t.toList==m.1.toList)&&zJ ms a):=by
 unfold zJ;rw[List.all_cons]
theorem gY:∀(ms:List (BA×V)),zJ ms [bOp,zt,bNo]=(zJ ms [bOp,zt,bNo,zy]&&(zf ms zy).isNone)
 | []=>rfl
 | m::ms=>by
  rw[gX,gX,gY ms];unfold zf;rw[List.find?_cons]
  by_cases c:(m.1.toList==zy.toList)=true
  ·rw[c];have e:m.1.toList=zy.toList:=by simpa using c
   rw[e]
   have:([bOp,zt,bNo].any λt=>t.toList==zy.toList)=false:=by kernel_rfl
   rw[this]
   simp
  ·have a:(m.1.toList==zy.toList)=false:=by simpa using c
   have c2:(zy.toList==m.1.toList)=false:=by rw[Bool.beq_comm];exact a
   rw[a];simp only[List.any_cons,List.any_nil,Bool.or_false,c2];rw[Bool.and_assoc]
def condC:V->Nat
 | .obj ms=>if zJ ms [bOp,zt,zy,bNo] then (match opV (zf ms bOp) with
  | some op=>if jK op||xI op then zT [zL zM (zf ms zt),zU op (zf ms zy),cls (yx (zf ms bNo)) false] else 1
  | none=>1) else 1
 | _=>1
theorem dQ(a b c d e f:Bool):zT [cls a d,cls b e,cls c f]=cls (a||b||c) (d||e||f):=by
 have:=Yx [(a,d),(b,e),(c,f)]
 simp only[List.map_cons,List.map_nil,List.any_cons,List.any_nil,Bool.or_false] at this;rw[this,Bool.or_assoc,Bool.or_assoc]
theorem K9(op:BA)(h:xI op=true):jK op=false/\qD op=false/\xJ op=false/\yu op=false/\uf op=false:=by
 have e:op.toList=[97,98,115,101,110,116]:=by simpa [xI] using h
 unfold jK qD xJ yu uf;rw[e]
 decide
theorem bE(v:V):condC v=cls (qz v).sh (qz v).pt:=by
 cases v with
 | str s=>rfl
 | word b=>rfl
 | list l=>rfl
 | obj ms=>
  simp only[condC,qz,Qm]
  cases ho:opV (zf ms bOp) with
  | none=>simp only[ite_self];rfl
  | some op=>
   simp only
   cases hk:opV (zf ms zt) with
   | none=>
    have e:zL zM (zf ms zt)=1:=by
     unfold opV at hk
     split at hk
     ·cases hk
     ·rename_i d;unfold zL
      split
      ·rename_i s c;exact absurd c (d s)
      ·rfl
    rw[e]
    have:zT [1,zU op (zf ms zy),cls (yx (zf ms bNo)) false]=1:=Yy (by simp)
    rw[this];simp only[ite_self]
    rfl
   | some key=>
    have e:zL zM (zf ms zt)=cls (!zM key) false:=by
     unfold opV at hk
     split at hk
     ·rename_i s c;injection hk with hk
      subst hk;rw[c]
      rfl
     ·cases hk
    rw[e,Il]
    by_cases ca:xI op=true
    ·obtain⟨k,g,h,i,j⟩:=K9 op ca;simp only[ca,Bool.or_true,if_true];rw[gY]
     have f:zU op (zf ms zy)=cls (!(zf ms zy).isNone) false:=by
      unfold zU;rw[g,h,i,j]
      cases (zf ms zy).isNone<;>rfl
     rw[f,dQ]
     cases zJ ms [bOp,zt,bNo,zy]<;>cases (zf ms zy).isNone<;>cases zM key<;>cases yx (zf ms bNo)<;>rfl
    ·have a:xI op=false:=by simpa using ca
     simp only[a,Bool.or_false,Bool.false_eq_true,if_false]
     cases ok:jK op with
     | false=>
      have:ZY op ((zz (zf ms zy)).getD [])=false:=by unfold ZY;rw[ok,Bool.and_false]
      rw[this];simp only[Bool.false_eq_true,if_false,ite_self,Bool.not_false,Bool.or_true,Bool.true_or]
      rfl
     | true=>
      rw[fK op _ ok,dQ];simp only[if_true];generalize (!(zz (zf ms zy)).isSome || !ZY op ((zz (zf ms zy)).getD []))=A;generalize (qD op && !((zz (zf ms zy)).getD []).all qX)=B
      cases zJ ms [bOp,zt,bNo,zy]<;>cases A<;>cases B<;>cases zM key<;>cases yx (zf ms bNo)<;>rfl
def ym:Option V->Nat
 | none=>0
 | some (.list vs)=>if 5<vs.length then 1 else zT (vs.map condC)
 | some _=>1
theorem wG(x:Option V):ym x=cls (qG x).sh (qG x).pt:=by
 match x with
 | none=>rfl
 | some (.str s)=>rfl
 | some (.word b)=>rfl
 | some (.obj ms)=>rfl
 | some (.list vs)=>
  simp only[ym,qG]
  split
  ·rfl
  ·have:=Yx (vs.map λv=>((qz v).sh,(qz v).pt))
   rw[List.map_map] at this;have e:((λx:Bool×Bool=>cls x.1 x.2) ∘ λv=>((qz v).sh,(qz v).pt))=condC:=funext λv=>(bE v).symm;rw[e] at this;rw[this];simp only[List.any_map]
   rfl
def qP:V->Nat
 | .obj ms=>if zJ ms [zQ,zS,bDo,bOn,bIf] then zT [zL xx (zf ms zQ),chC (zf ms zS),chC (zf ms bDo),chC (zf ms bOn),ym (zf ms bIf)] else 1
 | _=>1
theorem xg{L:Nat}{ms:List (BA×V)}(h:Good L (.obj ms))(nm:BA):∀v,zf ms nm=some v->Good L v:=by
 intro v a
 cases h with
 | obj _ d e f b=>
  unfold zf at a;obtain⟨m,c,rfl⟩:=Option.map_eq_some_iff.1 a;exact b m (List.mem_of_find?_eq_some c)
theorem Dt(a b c d e f g h i j:Bool):zT [cls a f,cls b g,cls c h,cls d i,cls e j]=cls (a||b||c||d||e) (f||g||h||i||j):=by
 have:=Yx [(a,f),(b,g),(c,h),(d,i),(e,j)]
 simp only[List.map_cons,List.map_nil,List.any_cons,List.any_nil,Bool.or_false] at this;rw[this];simp only[Bool.or_assoc]
theorem mo{L:Nat}(v:V)(h:Good L v):qP v=cls (xq v).sh (xq v).pt:=by
 cases v with
 | str s=>rfl
 | word b=>rfl
 | list l=>rfl
 | obj ms=>
  simp only[qP,xq,XX]
  cases ho:zJ ms [zQ,zS,bDo,bOn,bIf] with
  | false=>rfl
  | true=>
   simp only[if_true]
   cases hk:opV (zf ms zQ) with
   | none=>
    have d:zL xx (zf ms zQ)=1:=by
     unfold opV at hk
     split at hk
     ·cases hk
     ·rename_i c;unfold zL
      split
      ·rename_i s a;exact absurd a (c s)
      ·rfl
    rw[d];rw[Yy (by simp)]
    rfl
   | some eff=>
    have d:zL xx (zf ms zQ)=cls (!xx eff) false:=by
     unfold opV at hk
     split at hk
     ·rename_i s a;injection hk with hk
      subst hk;rw[a]
      rfl
     ·cases hk
    rw[d,Je _ (xg h zS),Je _ (xg h bDo),Je _ (xg h bOn),wG,Dt];simp only[XI,Bool.false_or]
def kC:List Nat->Nat->Int×Nat
 | [],_=>(0,0)
 | c::cs,i=>if c=1 then (5,i+1) else if c=2 then (6,i+1) else kC cs (i+1)
theorem Ug{L:Nat}:∀(a:List V) (i:Nat),(∀v ∈ a,Good L v)->ZX (a.map xq) i=kC (a.map qP) i
 | [],_,_=>rfl
 | v::a,i,h=>by
  rw[List.map_cons,List.map_cons,ZX,kC,mo v (h v (by simp)),Ug a (i+1) (λx b=>h x (by simp[b]))]
  cases (xq v).sh<;>cases (xq v).pt<;>rfl
def yU(s:BA):Int×Nat:=
 if 4000<s.size then (1,0) else match xN s.data.toList with
  | .err e q=>(e,q)
  | .ok v _=>vX v
def Code(c:Int):Prop:=c=2\/c=3\/c=4
theorem di(l:List UInt8):∀(f:Nat),
  (∀d p c q,zR l f d p = .err c q->Code c) /\
  (∀d p acc c q,jI l f d p acc = .err c q->Code c) /\
  (∀d p acc c q,jJ l f d p acc = .err c q->Code c)
 | 0=>by
  refine⟨λd p c q h=>?_,λd p acc c q h=>?_,λd p acc c q h=>?_⟩
  ·rw[zR] at h;injection h with h1 h2;exact .inl h1.symm
  ·rw[jI] at h;injection h with h1 h2;exact .inl h1.symm
  ·rw[jJ] at h;injection h with h1 h2;exact .inl h1.symm
 | f+1=>by
  obtain⟨i,b,g⟩:=di l f;refine⟨λd p c q h=>?_,λd p acc c q h=>?_,λd p acc c q h=>?_⟩
  ·rw[zR] at h
   by_cases c1:ze l p=123
   ·rw[if_pos c1] at h
    split at h
    ·injection h with h1 h2;exact .inr (.inl h1.symm)
    split at h
    ·cases h
    ·exact g _ _ _ _ _ h
   rw[if_neg c1] at h
   by_cases c2:ze l p=91
   ·rw[if_pos c2] at h
    split at h
    ·injection h with h1 h2;exact .inr (.inl h1.symm)
    split at h
    ·cases h
    ·exact b _ _ _ _ _ h
   rw[if_neg c2] at h
   by_cases c3:ze l p=34
   ·rw[if_pos c3] at h
    cases hs:jb l (p+1) with
    | ok s a=>rw[hs] at h;cases h
    | err e a=>
     rw[hs] at h;injection h with h1 h2
     subst h1;exact .inl (Vg hs)
   rw[if_neg c3] at h
   by_cases c4:ze l p=116
   ·rw[if_pos c4] at h
    cases hw:zP l [114,117,101] (p+1) with
    | ok s a=>rw[hw] at h;cases h
    | err e a=>
     rw[hw] at h;injection h with h1 h2
     subst h1;exact .inl (YX hw)
   rw[if_neg c4] at h
   by_cases c5:ze l p=102
   ·rw[if_pos c5] at h
    cases hw:zP l [97,108,115,101] (p+1) with
    | ok s a=>rw[hw] at h;cases h
    | err e a=>
     rw[hw] at h;injection h with h1 h2
     subst h1;exact .inl (YX hw)
   rw[if_neg c5] at h;injection h with h1 h2
   exact .inl h1.symm
  ·rw[jI] at h
   cases hv:zR l f (d+1) p with
   | err e a=>
    rw[hv] at h;injection h with h1 h2
    subst h1;exact i _ _ _ _ hv
   | ok x a=>
    rw[hv] at h;simp only at h
    split at h
    ·exact b _ _ _ _ _ h
    split at h
    ·cases h
    ·injection h with h1 h2;exact .inl h1.symm
  ·rw[jJ] at h
   split at h
   ·injection h with h1 h2;exact .inl h1.symm
   cases hs:jb l (p+1) with
   | err e a=>
    rw[hs] at h;injection h with h1 h2
    subst h1;exact .inl (Vg hs)
   | ok s j=>
    rw[hs] at h;simp only at h
    split at h
    ·injection h with h1 h2;exact .inr (.inr h1.symm)
    split at h
    ·injection h with h1 h2;exact .inl h1.symm
    cases hv:zR l f (d+1) (skip l (skip l j+1)) with
    | err e a=>
     rw[hv] at h;injection h with h1 h2
     subst h1;exact i _ _ _ _ hv
    | ok x a=>
     rw[hv] at h;simp only at h
     split at h
     ·exact g _ _ _ _ _ h
     split at h
     ·cases h
     ·injection h with h1 h2;exact .inl h1.symm
theorem lm{l:List UInt8}{c:Int}{q:Nat}(h:xN l = .err c q):Code c:=by
 unfold xN at h
 cases hv:zR l (2*l.length+1) 1 (skip l 0) with
 | err e a=>
  rw[hv] at h;injection h with h1 h2
  subst h1;exact (di l _).1 _ _ _ _ hv
 | ok x a=>
  rw[hv] at h;simp only at h
  split at h
  ·injection h with h1 h2;exact .inl h1.symm
  ·cases h
theorem Oz(v:V):qP v<=2:=by
 cases v with
 | obj ms=>simp only[qP];split;exact XB _;decide
 | _=>simp[qP]
theorem Uh:∀(cs:List Nat) (i:Nat),(∀c ∈ cs,c=0)->kC cs i=(0,0)
 | [],_,_=>rfl
 | c::cs,i,h=>by
  have b:=h c (by simp);rw[kC,if_neg (by omega),if_neg (by omega)];exact Uh cs _ (λx a=>h x (by simp[a]))
theorem dB:∀(cs:List Nat) (i k:Nat),(a:k<cs.length)->(∀j,(h:j<k)->cs[j]=0)->cs[k]≠0->cs[k]<=2->kC cs i=(if cs[k]=1 then 5 else 6,i+k+1)
 | [],_,k,a,_,_,_=>by simp at a
 | c::cs,i,0,a,_,h1,h2=>by
  simp only[List.getElem_cons_zero] at h1 h2 |-;rw[kC]
  by_cases e:c=1
  ·rw[if_pos e,if_pos e]
  ·rw[if_neg e,if_pos (by omega),if_neg e]
 | c::cs,i,k+1,a,h0,h1,h2=>by
  have b:c=0:=h0 0 (by omega);simp only[List.getElem_cons_succ] at h1 h2 |-;rw[kC,if_neg (by omega),if_neg (by omega),dB cs (i+1) k (by simpa using a) (λj d=>by have:=h0 (j+1) (by omega);simpa using this) h1 h2];have e:i+1+k+1=i+(k+1)+1:=by omega
  rw[e]
end Rd
end Go.Proofs.YtdakgnaojakldabGreatDoor
