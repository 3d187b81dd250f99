/- P -/
import Derived.Test.YtdakgnaojakldaaGreatDoorG04
import Derived.KernelRfl
set_option maxRecDepth 100000
namespace Go.Proofs.YtdakgnaojakldaaGreatDoor
namespace Rd
open Ref
def zf(ms:List (BA×V))(nm:BA):Option V:=(ms.find? λm=>m.1.toList==nm.toList).map Prod.snd
def jd:List V->Option (List BA)
 | []=>some []
 | .str s::vs=>(jd vs).map λl=>s::l
 | _::_=>none
def zy:Option V->Option (List BA)
 | some (.str s)=>some [s]
 | some (.list vs)=>if vs.length<1\/10<vs.length then none else jd vs
 | _=>none
def zM(ms:List (BA×V))(names:List BA):Bool:=ms.all λm=>names.any λt=>t.toList==m.1.toList
def yV:Option V->Bool×Option (List BA)
 | some (.obj ms)=>if zM ms [zS]=true/\ms.length=1 then (true,zy ((ms.map Prod.snd)[0]?)) else (false,none)
 | x=>(false,zy x)
def opV(x:Option V):Option BA:=match x with
 | some (.str s)=>some s
 | _=>none
def uB:Option V->Bool
 | some (.word b)=>b
 | _=>false
def yP:Option V->Bool
 | none=>false
 | some (.word _)=>false
 | _=>true
def QH(ms:List (BA×V)):qZ:=match opV (zf ms bOp),opV (zf ms zm) with
 | some op,some key=>
  if xq op then ⟨op,key,[],uB (zf ms bNo),yP (zf ms bNo) || !zO key || !zM ms [bOp,zm,bNo],false⟩
  else ⟨op,key,(zy (zf ms zo)).getD [],uB (zf ms bNo),
   yP (zf ms bNo)||(!(zy (zf ms zo)).isSome || !Qh op ((zy (zf ms zo)).getD [])) || !zO key || !zM ms [bOp,zm,bNo,zo],
   qG op && !((zy (zf ms zo)).getD []).all xg⟩
 | _,_=>yQ
def qD:V->qZ
 | .obj ms=>QH ms
 | _=>yQ
def qL:Option V->Uh
 | none=>⟨[],false,false⟩
 | some (.list vs)=>if 5<vs.length then ⟨[],true,false⟩ else ⟨vs.map qD,(vs.map qD).any qZ.sh,(vs.map qD).any qZ.pt⟩
 | some _=>⟨[],true,false⟩
theorem oI{a:List Ref.Node}{i:Nat}{v:V}(h:Rep a i v):∃n,a[i]?=some n:=by
 cases h with
 | str _ n _ h=>exact⟨n,h⟩
 | word _ n _ h=>exact⟨n,h⟩
 | list _ n _ h=>exact⟨n,h⟩
 | obj _ n _ h=>exact⟨n,h⟩
theorem iA(b:List Ref.Node)(nm:BA):∀(ms:List (BA×V)) (a:List Nat),a.length=ms.length->(∀(j k:Nat) (x:BA×V),a[j]?=some k->ms[j]?=some x->Rep b k x.2) ->
  (zf ms nm=none/\ko (ms.map Prod.fst) a nm = -1)\/∃v k,zf ms nm=some v/\ko (ms.map Prod.fst) a nm=((k:Nat):Int)/\Rep b k v
 | [],a,_,_=>by left;exact⟨rfl,by simp[ko]⟩
 | m::ms,[],hl,_=>by simp at hl
 | m::ms,k::a,hl,h=>by
  unfold zf;simp only[List.map_cons,ko,List.find?_cons]
  by_cases e:(m.1.toList==nm.toList)=true
  ·rw[e]
   right
   exact⟨m.2,k,rfl,by simp,h 0 k m rfl rfl⟩
  ·have c:(m.1.toList==nm.toList)=false:=by simpa using e
   rw[c];simp only[Bool.false_eq_true,if_false];exact iA b nm ms a (by simpa using hl) (λj g x d f=>h (j+1) g x (by simpa using d) (by simpa using f))
theorem Vr{b:List Ref.Node}{i:Nat}{n:Ref.Node}{ms:List (BA×V)}(h:Rep b i (.obj ms))(f:b[i]?=some n)(nm:BA) :
  (zf ms nm=none/\zh n nm = -1)\/∃v k,zf ms nm=some v/\zh n nm=((k:Nat):Int)/\Rep b k v:=by
 cases h with
 | obj _ l _ a g c d j e=>
  rw[f] at a;injection a with a
  subst a;unfold zh;rw[c];exact iA b nm ms n.kids d e
theorem FR{j:List Ref.Node}{i:Nat}{n:Ref.Node}{v:V}(h:Rep j i v)(e:j[i]?=some n)(l:∀ms,v ≠ .obj ms)(nm:BA):zh n nm = -1/\n.kind≠1/\n.names=[]:=by
 have key:n.names=[]/\n.kind≠1:=by
  cases h with
  | str _ f _ a c d g k=>rw[e] at a;injection a with a;subst a;exact⟨k,by omega⟩
  | word _ f b a c d g=>rw[e] at a;injection a with a;subst a;exact⟨g,by cases b<;>simp at c<;>omega⟩
  | list _ f _ a c d=>rw[e] at a;injection a with a;subst a;exact⟨d,by omega⟩
  | obj _ f ms=>exact absurd rfl (l ms)
 refine⟨?_,key.2,key.1⟩;unfold zh;rw[key.1];simp[ko]
theorem KF{d:List Ref.Node}{k:Nat}{v:V}(h:Rep d k v):(kindOf d k=1↔∃ms,v = .obj ms)/\(kindOf d k=2↔∃e,v = .list e)/\(kindOf d k=3↔∃s,v = .str s)/\(kindOf d k=4↔v = .word true)/\(kindOf d k=5↔v = .word false)/\(∀s,v = .str s->textOf d k=s):=by
 unfold kindOf textOf;rw[show ((k:Int)).toNat=k by simp]
 cases h with
 | str _ n s c a f=>rw[c];simp[a,f]
 | word _ n b c a=>rw[c];cases b<;>simp at a<;>simp[a]
 | list _ n e c a=>rw[c];simp[a]
 | obj _ n ms c a=>rw[c];simp[a]
theorem rG(f:List Ref.Node):∀(e:List V) (d:List Nat),d.length=e.length->(∀(j k:Nat) (v:V),d[j]?=some k->e[j]?=some v->Rep f k v)->V7 f d=jd e
 | [],[],_,_=>rfl
 | [],k::d,hl,_=>by simp at hl
 | v::e,[],hl,_=>by simp at hl
 | v::e,k::d,hl,h=>by
  have g:=h 0 k v rfl rfl;have l:=rG f e d (by simpa using hl) (λj m x c a=>h (j+1) m x (by simpa using c) (by simpa using a));rw[V7,l]
  cases g with
  | str _ n s c a i=>rw[c];simp[a,i,jd]
  | word _ n b c a=>rw[c];cases b<;>simp at a<;>simp[a,jd]
  | list _ n o c a=>rw[c];simp[a,jd]
  | obj _ n ms c a=>rw[c];simp[a,jd]
theorem bn{e:List Ref.Node}{k:Nat}{v:V}(h:Rep e k v):Zi e k=zy (some v):=by
 unfold Zi;rw[if_neg (by omega),show ((k:Int)).toNat=k by simp]
 cases h with
 | str _ n s d a g=>rw[d];simp[a,g,zy]
 | word _ n b d a=>rw[d];cases b<;>simp at a<;>simp[a,zy]
 | list _ n f d a g i l j=>
  rw[d];simp only[a,zy];rw[if_neg (by decide),i]
  by_cases c:f.length<1\/10<f.length
  ·rw[if_pos (.inr c),if_pos c]
  ·rw[if_neg (by simpa using c),if_neg c];exact rG e f n.kids i j
 | obj _ n ms d a=>rw[d];simp[a,zy]
theorem SF(a:List Ref.Node):Zi a (-1)=zy none:=by
 unfold Zi;rw[if_pos (by decide)];rfl
theorem KY{b:List Ref.Node}{i:Nat}{n:Ref.Node}{ms:List (BA×V)}(h:Rep b i (.obj ms))(e:b[i]?=some n)(names:List BA):Jo n names=zM ms names:=by
 cases h with
 | obj _ k _ a c d f g j=>
  rw[e] at a;injection a with a
  subst a;unfold Jo zM;rw[d,c,List.all_map];simp[Function.comp_def]
theorem Bp{l:List Ref.Node}{k:Nat}{v:V}(h:Rep l k v):YY l k=yV (some v):=by
 have u:=bn h;have g:=KF h;obtain⟨n,f⟩:=oI h;unfold YY;rw[if_neg (by omega),show ((k:Int)).toNat=k by simp,f];simp only;have i:kindOf l k=n.kind:=by unfold kindOf;rw[show ((k:Int)).toNat=k by simp,f]
 rw[i] at g
 by_cases c:n.kind=1
 ·rw[if_pos c];obtain⟨ms,rfl⟩:=g.1.1 c;rw[KY h f]
  cases h with
  | obj _ z _ d w q x y r=>
   rw[f] at d;injection d with d
   subst d;have s:n.names.length=ms.length:=by rw[q];simp
   unfold yV;simp only;rw[s]
   by_cases c2:zM ms [zS]=true/\ms.length=1
   ·rw[if_pos c2,if_pos c2];have p:0<ms.length:=by omega
    have a:n.kids[0]?=some (n.kids[0]'(by omega)):=List.getElem?_eq_getElem (by omega);have b:ms[0]?=some ms[0]:=List.getElem?_eq_getElem p;have t:=bn (r 0 _ _ a b);have m:n.kids.getD 0 0=n.kids[0]'(by omega):=by rw[List.getD_eq_getElem?_getD,a];rfl
    have o:(ms.map Prod.snd)[0]?=some ms[0].2:=by rw[List.getElem?_map,b];rfl
    rw[m,o,t]
   ·rw[if_neg c2,if_neg c2]
 ·rw[if_neg c];have j:∀ms,v ≠ .obj ms:=λms e=>c (g.1.2 ⟨ms,e⟩);rw[u]
  cases v with
  | obj ms=>exact absurd rfl (j ms)
  | _=>rfl
theorem Bn(a:List Ref.Node):YY a (-1)=yV none:=by
 unfold YY;rw[if_pos (by decide)];rfl
def vN(a:List Ref.Node)(h:Int)(x:Option V):Prop:=(x=none/\h = -1)\/∃v k,x=some v/\h=((k:Nat):Int)/\Rep a k v
theorem vN.strings{a:List Ref.Node}{h:Int}{x:Option V}(r:vN a h x):Zi a h=zy x:=by
 rcases r with ⟨rfl,rfl⟩|⟨v,k,rfl,rfl,hr⟩
 ·exact SF a
 ·exact bn hr
theorem vN.choice{a:List Ref.Node}{h:Int}{x:Option V}(r:vN a h x):YY a h=yV x:=by
 rcases r with ⟨rfl,rfl⟩|⟨v,k,rfl,rfl,hr⟩
 ·exact Bn a
 ·exact Bp hr
theorem vN.noT{c:List Ref.Node}{h:Int}{x:Option V}(r:vN c h x):Ref.noT c h=uB x/\Ref.VF c h=yP x:=by
 rcases r with ⟨rfl,rfl⟩|⟨v,k,rfl,rfl,hr⟩
 ·exact⟨rfl,rfl⟩
 ·have a:=KF hr;unfold Ref.noT Ref.VF
  cases v with
  | word b=>
   cases b with
   | true=>
    have:=a.2.2.2.1.2 rfl
    rw[this];simp[uB,yP]
   | false=>
    have:=a.2.2.2.2.1.2 rfl
    rw[this];simp[uB,yP]
  | str s=>
   have:=a.2.2.1.2 ⟨s,rfl⟩
   rw[this];simp[uB,yP]
  | list l=>
   have:=a.2.1.2 ⟨l,rfl⟩
   rw[this];simp[uB,yP]
  | obj l=>
   have:=a.1.2 ⟨l,rfl⟩
   rw[this];simp[uB,yP]
theorem vN.op{d:List Ref.Node}{h:Int}{x:Option V}(r:vN d h x):(opV x=none/\(h<0\/kindOf d h≠3))\/∃s,opV x=some s/\0<=h/\kindOf d h=3/\textOf d h=s:=by
 rcases r with ⟨rfl,rfl⟩|⟨v,k,rfl,rfl,hr⟩
 ·left;exact⟨rfl,.inl (by decide)⟩
 ·have a:=KF hr
  cases v with
  | str s=>right;exact⟨s,rfl,by omega,a.2.2.1.2 ⟨s,rfl⟩,a.2.2.2.2.2 s rfl⟩
  | word b=>left;exact⟨rfl,.inr (λe=>by obtain⟨s,c⟩:=a.2.2.1.1 e;cases c)⟩
  | list l=>left;exact⟨rfl,.inr (λe=>by obtain⟨s,c⟩:=a.2.2.1.1 e;cases c)⟩
  | obj l=>left;exact⟨rfl,.inr (λe=>by obtain⟨s,c⟩:=a.2.2.1.1 e;cases c)⟩
theorem BN{a:List Ref.Node}{k:Nat}{n:Ref.Node}{v:V}(h:Rep a k v)(b:a[k]?=some n):Y0 a n=qD v:=by
 by_cases ho:∃ms,v = .obj ms
 ·obtain⟨ms,rfl⟩:=ho;have j:vN a (zh n bOp) (zf ms bOp):=Vr h b bOp;have l:vN a (zh n zm) (zf ms zm):=Vr h b zm;have m:vN a (zh n bNo) (zf ms bNo):=Vr h b bNo;have o:vN a (zh n zo) (zf ms zo):=Vr h b zo;have g:=o.strings;obtain⟨c,d⟩:=m.noT;show Y0 a n=QH ms;unfold Y0 QH;rw[KY h b,KY h b,g,c,d]
  rcases j.op with ⟨e1,c1⟩|⟨s1,e1,a1,b1,t1⟩
  ·rw[if_pos (by rcases c1 with c1|c1;exact .inl c1;exact .inr (.inr (.inl c1))),e1]
  rcases l.op with ⟨e2,c2⟩|⟨s2,e2,a2,b2,t2⟩
  ·rw[if_pos (by rcases c2 with c2|c2;exact .inr (.inl c2);exact .inr (.inr (.inr c2))),e1,e2]
  rw[if_neg (by omega),e1,e2,t1,t2]
 ·have f:∀ms,v ≠ .obj ms:=λms e=>ho ⟨ms,e⟩;have i:=(FR h b f bOp).1;unfold Y0;rw[if_pos (.inl (by rw[i];decide))]
  cases v with
  | obj ms=>exact absurd rfl (f ms)
  | _=>rfl
theorem fE(c:List Ref.Node):∀(b:List V) (a:List Nat),a.length=b.length->(∀(j k:Nat) (v:V),a[j]?=some k->b[j]?=some v->Rep c k v)->Y1 c a=b.map qD
 | [],[],_,_=>rfl
 | [],k::a,hl,_=>by simp at hl
 | v::b,[],hl,_=>by simp at hl
 | v::b,k::a,hl,h=>by
  have d:=h 0 k v rfl rfl;have f:=fE c b a (by simpa using hl) (λj l x g i=>h (j+1) l x (by simpa using g) (by simpa using i));unfold Y1 at f |-;rw[List.map_cons,List.map_cons,f];obtain⟨n,e⟩:=oI d;rw[e];simp only;rw[BN d e]
theorem vN.conds{e:List Ref.Node}{h:Int}{x:Option V}(r:vN e h x):U1 e h=qL x:=by
 rcases r with ⟨rfl,rfl⟩|⟨v,k,rfl,rfl,hr⟩
 ·unfold U1;rw[if_pos (by decide)];rfl
 ·unfold U1;rw[if_neg (by omega),show ((k:Int)).toNat=k by simp]
  cases hr with
  | str _ n s d a i=>rw[d];simp[a,qL]
  | word _ n b d a=>rw[d];cases b<;>simp at a<;>simp[a,qL]
  | obj _ n ms d a=>rw[d];simp[a,qL]
  | list _ n g d a i f l j=>
   rw[d];simp only[qL];rw[a,f,fE e g n.kids f j]
   by_cases c:5<g.length
   ·rw[if_pos (.inr c),if_pos c]
   ·rw[if_neg (by omega),if_neg c]
structure qC where
 eff:BA
 who:Bool×List BA
 act:Bool×List BA
 on:Bool×List BA
 cs:List qZ
 sh:Bool
 pt:Bool
def zN:BA:=⟨#[101,102,102,101,99,116]⟩
def zT:BA:=⟨#[119,104,111]⟩
def bDo:BA:=⟨#[100,111]⟩
def bOn:BA:=⟨#[111,110]⟩
def bIf:BA:=⟨#[105,102]⟩
def yU:BA:=⟨#[115,116,97,116,101,109,101,110,116]⟩
def xL(s:BA):Bool:=(s.toList==[97,108,108,111,119])||(s.toList==[100,101,110,121])
def vw:qC:=⟨⟨#[]⟩,(false,[]),(false,[]),(false,[]),[],true,false⟩
def chD(c:Bool×Option (List BA)):Bool×List BA:=(c.1,c.2.getD [])
def chP(c:Bool×Option (List BA)):Bool:=!((c.2.getD []).all xg)
def Yk(eff:BA)(a b c:Bool×Option (List BA))(cs:Uh):qC:=
 ⟨eff,chD a,chD b,chD c,cs.cs,!xL eff || !a.2.isSome || !b.2.isSome || !c.2.isSome||cs.sh,chP a||chP b||chP c||cs.pt⟩
def YC(ms:List (BA×V)):qC:=match zM ms [zN,zT,bDo,bOn,bIf],opV (zf ms zN) with
 | true,some eff=>Yk eff (yV (zf ms zT)) (yV (zf ms bDo)) (yV (zf ms bOn)) (qL (zf ms bIf))
 | _,_=>vw
def xG:V->qC
 | .obj ms=>YC ms
 | _=>vw
def Qg:List qC->Nat->Int×Nat
 | [],_=>(0,0)
 | r::rs,i=>if r.sh then (5,i+1) else if r.pt then (6,i+1) else Qg rs (i+1)
def uu:V->Int×Nat
 | .obj ms=>match zf ms yU with
  | some (.list vs)=>if ms.length≠1\/vs.length<1\/10<vs.length then (5,0) else Qg (vs.map xG) 0
  | _=>(5,0)
 | _=>(5,0)
def cls(sh pt:Bool):Nat:=if sh then 1 else if pt then 2 else 0
def zW(l:List Nat):Nat:=if l.any (λc=>c==1) then 1 else if l.any (λc=>c==2) then 2 else 0
theorem Bt(sh pt:Bool):(cls sh pt==1)=sh:=by cases sh<;>cases pt<;>rfl
theorem Bu(pt:Bool):(cls false pt==2)=pt:=by cases pt<;>rfl
theorem Ja:∀(l:List (Bool×Bool)),zW (l.map λx=>cls x.1 x.2)=cls (l.any Prod.fst) (l.any Prod.snd):=by
 intro l
 have b:(l.map λx=>cls x.1 x.2).any (λc=>c==1)=l.any Prod.fst:=by
  rw[List.any_map];exact congrArg (λf=>l.any f) (funext λx=>Bt x.1 x.2)
 unfold zW;rw[b]
 cases h:l.any Prod.fst with
 | true=>rfl
 | false=>
  have d:(l.map λx=>cls x.1 x.2).any (λc=>c==2)=l.any Prod.snd:=by
   rw[List.any_eq_false] at h;clear b
   induction l with
   | nil=>rfl
   | cons a r i=>
    have e:a.1=false:=by have:=h a (by simp);simpa using this
    rw[List.map_cons,List.any_cons,List.any_cons,i (λx g=>h x (by simp[g])),e,Bu]
  rw[d]
  rfl
theorem iw(c:Nat)(h:c<=2):zW [c]=c:=by
 have:c=0\/c=1\/c=2:=by omega
 rcases this with rfl|rfl|rfl<;>rfl
theorem eQ(sh pt:Bool):cls sh pt<=2:=by cases sh<;>cases pt<;>decide
theorem Ya(l:List Nat):zW l<=2:=by unfold zW;split;decide;split<;>decide
def qh(c:Option V->Nat):Option V->Nat
 | some (.list vs)=>if vs.length<1\/10<vs.length then 1 else zW (vs.map λv=>c (some v))
 | x=>zW [c x]
def qm(f:Option V->BA):Option V->List BA
 | some (.list vs)=>if vs.length<1\/10<vs.length then [] else vs.map λv=>f (some v)
 | x=>[f x]
def strOf:Option V->BA
 | some (.str s)=>s
 | _=>⟨#[]⟩
def xC:Option V->Nat
 | some (.str s)=>cls false (!xg s)
 | _=>1
def zQ(f:BA->Bool):Option V->Nat
 | some (.str s)=>cls (!f s) false
 | _=>1
def qo(f:BA->Bool):Option V->BA
 | some (.str s)=>if f s then s else ⟨#[]⟩
 | _=>⟨#[]⟩
theorem JG:∀(a:List V),(∃l,jd a=some l/\a=l.map .str)\/(jd a=none/\∃v ∈ a,∀s,v ≠ .str s)
 | [] => .inl ⟨[],rfl,rfl⟩
 | v::a=>by
  cases v with
  | str s=>
   rcases JG a with ⟨l,h1,h2⟩|⟨h1,v,hv,h2⟩
   ·left;exact⟨s::l,by simp[jd,h1],by simp[h2]⟩
   ·right;exact⟨by simp[jd,h1],v,by simp[hv],h2⟩
  | word b=>right;exact⟨rfl,.word b,by simp,λs e=>by cases e⟩
  | list l=>right;exact⟨rfl,.list l,by simp,λs e=>by cases e⟩
  | obj l=>right;exact⟨rfl,.obj l,by simp,λs e=>by cases e⟩
theorem Jb{l:List Nat}(h:1 ∈ l):zW l=1:=by
 unfold zW;rw[if_pos];rw[List.any_eq_true];exact⟨1,h,rfl⟩
theorem FN(f:BA->Bool)(l:List BA):zW (l.map λs=>cls false (!f s))=cls false (!l.all f):=by
 have:=Ja (l.map λs=>(false,!f s))
 rw[List.map_map] at this;have e:((λx:Bool×Bool=>cls x.1 x.2) ∘ λs=>(false,!f s))=λs=>cls false (!f s):=rfl;rw[e] at this;rw[this];have a:(l.map λs=>(false,!f s)).any Prod.fst=false:=by rw[List.any_map,List.any_eq_false];intro x _;simp
 have b:(l.map λs=>(false,!f s)).any Prod.snd = !l.all f:=by rw[List.any_map,List.not_all_eq_any_not];rfl
 rw[a,b]
theorem FO(f:BA->Bool)(l:List BA):zW (l.map λs=>cls (!f s) false)=cls (!l.all f) false:=by
 have:=Ja (l.map λs=>(!f s,false))
 rw[List.map_map] at this;have e:((λx:Bool×Bool=>cls x.1 x.2) ∘ λs=>(!f s,false))=λs=>cls (!f s) false:=rfl;rw[e] at this;rw[this];have a:(l.map λs=>(!f s,false)).any Prod.snd=false:=by rw[List.any_map,List.any_eq_false];intro x _;simp
 have b:(l.map λs=>(!f s,false)).any Prod.fst = !l.all f:=by rw[List.any_map,List.not_all_eq_any_not];rfl
 rw[a,b]
theorem Yp(x:Option V):qh xC x=cls (!(zy x).isSome) (!((zy x).getD []).all xg):=by
 have a:∀x:Option V,zy x=none->xC x=1->(∀d,x≠some (.list d))->qh xC x=cls (!(zy x).isSome) (!((zy x).getD []).all xg):=by
  intro x h e f;rw[h];unfold qh
  split
  ·rename_i d;exact absurd rfl (f d)
  ·rw[e];rfl
 match x with
 | none=>exact a none rfl rfl (by simp)
 | some (.word b)=>exact a _ rfl rfl (by simp)
 | some (.obj ms)=>exact a _ rfl rfl (by simp)
 | some (.str s)=>
  show zW [xC (some (.str s))]=_;simp only[xC,zy,Option.getD_some,Option.isSome_some,List.all_cons,List.all_nil,Bool.and_true,Bool.not_true];exact iw _ (eQ _ _)
 | some (.list d)=>
  simp only[qh,zy]
  by_cases c:d.length<1\/10<d.length
  ·rw[if_pos c,if_pos c];rfl
  ·rw[if_neg c,if_neg c]
   rcases JG d with ⟨l,e,rfl⟩|⟨e,v,hv,f⟩
   ·rw[e,List.map_map];exact FN xg l
   ·rw[e];rw[Jb]
    ·rfl
    ·rw[List.mem_map];refine⟨v,hv,?_⟩
     cases v with
     | str s=>exact absurd rfl (f s)
     | _=>rfl
theorem VI(f:BA->Bool)(x:Option V):qh (zQ f) x=cls (!(zy x).isSome || !((zy x).getD []).all f) false:=by
 have a:∀x:Option V,zy x=none->zQ f x=1->(∀d,x≠some (.list d))->qh (zQ f) x=cls (!(zy x).isSome || !((zy x).getD []).all f) false:=by
  intro x h e g;rw[h];unfold qh
  split
  ·rename_i d;exact absurd rfl (g d)
  ·rw[e];rfl
 match x with
 | none=>exact a none rfl rfl (by simp)
 | some (.word b)=>exact a _ rfl rfl (by simp)
 | some (.obj ms)=>exact a _ rfl rfl (by simp)
 | some (.str s)=>
  show zW [zQ f (some (.str s))]=_;simp only[zQ,zy,Option.getD_some,Option.isSome_some,List.all_cons,List.all_nil,Bool.and_true,Bool.not_true,Bool.false_or];exact iw _ (eQ _ _)
 | some (.list d)=>
  simp only[qh,zy]
  by_cases c:d.length<1\/10<d.length
  ·rw[if_pos c,if_pos c];rfl
  ·rw[if_neg c,if_neg c]
   rcases JG d with ⟨l,e,rfl⟩|⟨e,v,hv,g⟩
   ·rw[e,List.map_map];exact FO f l
   ·rw[e];rw[Jb]
    ·rfl
    ·rw[List.mem_map];refine⟨v,hv,?_⟩
     cases v with
     | str s=>exact absurd rfl (g s)
     | _=>rfl
theorem nk(x:Option V)(h:(zy x).isSome):qm strOf x=(zy x).getD []:=by
 match x with
 | none=>simp[zy] at h
 | some (.word b)=>simp[zy] at h
 | some (.obj ms)=>simp[zy] at h
 | some (.str s)=>rfl
 | some (.list vs)=>
  simp only[qm,zy] at h |-
  by_cases c:vs.length<1\/10<vs.length
  ·rw[if_pos c] at h;simp at h
  ·rw[if_neg c] at h |-;rw[if_neg c]
   rcases JG vs with ⟨l,h1,rfl⟩|⟨h1,v,hv,h2⟩
   ·rw[h1,List.map_map];exact List.map_id' l
   ·rw[h1] at h;simp at h
theorem MH(f:BA->Bool)(x:Option V)(h:(zy x).isSome)(a:((zy x).getD []).all f=true):qm (qo f) x=(zy x).getD []:=by
 match x with
 | none=>simp[zy] at h
 | some (.word b)=>simp[zy] at h
 | some (.obj ms)=>simp[zy] at h
 | some (.str s)=>
  simp only[zy,Option.getD_some,List.all_cons,List.all_nil,Bool.and_true] at a;simp[qm,qo,a,zy]
 | some (.list vs)=>
  simp only[qm,zy] at h a |-
  by_cases c:vs.length<1\/10<vs.length
  ·rw[if_pos c] at h;simp at h
  ·rw[if_neg c] at h a |-;rw[if_neg c]
   rcases JG vs with ⟨l,h1,rfl⟩|⟨h1,v,hv,h2⟩
   ·rw[h1] at a |-;rw[List.map_map];simp only[Option.getD_some] at a |-
    have:∀s ∈ l,((λv=>qo f (some v)) ∘ V.str) s=s:=by
     intro s d;rw[List.all_eq_true] at a;simp[qo,a s d]
    rw[List.map_congr_left this];exact List.map_id' l
   ·rw[h1] at h;simp at h
inductive Good (L:Nat):V->Prop
 | str (s:BA):s.size<=L->Good L (.str s)
 | word (b:Bool):Good L (.word b)
 | list (vs:List V):vs.length<=L->(∀v ∈ vs,Good L v)->Good L (.list vs)
 | obj (ms:List (BA×V)):ms.length<=L->(ms.map λm=>m.1.toList).Nodup->(∀m ∈ ms,m.1.size<=L)->(∀m ∈ ms,Good L m.2)->Good L (.obj ms)
theorem bX{l:List UInt8}:∀{r:List Nat} {p q:Nat} {u:Unit},zR l r p = .ok u q->(∀b ∈ r,b≠0)->p<=l.length->p<=q/\q<=l.length
 | [],p,q,u,h,_,hp=>by
  rw[zR] at h;injection h with h1 h2
  omega
 | b::r,p,q,u,h,hb,hp=>by
  rw[zR] at h
  split at h
  ·rename_i c;have e:b≠0:=hb b (by simp);have a:=zY l p (by omega)
   have:=bX h (λx d=>hb x (by simp[d])) (by omega)
   omega
  ·cases h
theorem ik(l:List UInt8):∀(f:Nat),
  (∀d p v q,zU l f d p = .ok v q->Good l.length v/\p<q/\q<=l.length) /\
  (∀d p acc v q,jQ l f d p acc = .ok v q->acc.length<=p->(∀x ∈ acc,Good l.length x)->Good l.length v/\p<q/\q<=l.length) /\
  (∀d p acc v q,jR l f d p acc = .ok v q->acc.length<=p->(acc.map λm=>m.1.toList).Nodup->(∀x ∈ acc,x.1.size<=l.length/\Good l.length x.2)->Good l.length v/\p<q/\q<=l.length)
 | 0=>by
  refine⟨λd p v q h=>?_,λd p acc v q h=>?_,λd p acc v q h=>?_⟩
  ·rw[zU] at h;cases h
  ·rw[jQ] at h;cases h
  ·rw[jR] at h;cases h
 | f+1=>by
  obtain⟨w,t,u⟩:=ik l f;refine⟨λd p v q h=>?_,λd p acc v q h z C=>?_,λd p acc v q h z K C=>?_⟩
  ·rw[zU] at h;have L:=yo l (p+1)
   by_cases c1:ze l p=123
   ·rw[if_pos c1] at h
    split at h
    ·cases h
    split at h
    ·rename_i k;injection h with h1 h2
     subst h1
     have:=zY l (skip l (p+1)) (by omega)
     exact⟨.obj [] (Nat.zero_le _) (by simp) (by simp) (by simp),by omega,by omega⟩
    ·obtain⟨a,b,c⟩:=u _ _ _ _ _ h (by simp) (by simp) (by simp);exact⟨a,by omega,c⟩
   rw[if_neg c1] at h
   by_cases c2:ze l p=91
   ·rw[if_pos c2] at h
    split at h
    ·cases h
    split at h
    ·rename_i k;injection h with h1 h2
     subst h1
     have:=zY l (skip l (p+1)) (by omega)
     exact⟨.list [] (Nat.zero_le _) (by simp),by omega,by omega⟩
    ·obtain⟨a,b,c⟩:=t _ _ _ _ _ h (by simp) (by simp);exact⟨a,by omega,c⟩
   rw[if_neg c2] at h
   by_cases c3:ze l p=34
   ·rw[if_pos c3] at h;have n:xX l p=jq l (p+1):=by unfold xX;rw[if_pos c3]
    cases hs:jq l (p+1) with
    | err c g=>rw[hs] at h;cases h
    | ok s g=>
     rw[hs] at h;injection h with h1 h2
     subst h1;subst h2;rw[hs] at n;have H:=VO n;have G:=VP n;exact⟨.str s (by omega),by omega,G⟩
   rw[if_neg c3] at h
   by_cases c4:ze l p=116
   ·rw[if_pos c4] at h;have D:=zY l p (by omega)
    cases hw:zR l [114,117,101] (p+1) with
    | err c g=>rw[hw] at h;cases h
    | ok s g=>
     rw[hw] at h;injection h with h1 h2
     subst h1;subst h2
     have:=bX hw (by decide) (by omega)
     exact⟨.word true,by omega,this.2⟩
   rw[if_neg c4] at h
   by_cases c5:ze l p=102
   ·rw[if_pos c5] at h;have D:=zY l p (by omega)
    cases hw:zR l [97,108,115,101] (p+1) with
    | err c g=>rw[hw] at h;cases h
    | ok s g=>
     rw[hw] at h;injection h with h1 h2
     subst h1;subst h2
     have:=bX hw (by decide) (by omega)
     exact⟨.word false,by omega,this.2⟩
   rw[if_neg c5] at h
   cases h
  ·rw[jQ] at h
   cases hv:zU l f (d+1) p with
   | err c g=>rw[hv] at h;cases h
   | ok x g=>
    rw[hv] at h;simp only at h;obtain⟨B,I,J⟩:=w _ _ _ _ hv;have N:=yo l g
    have i:∀y ∈ acc++[x],Good l.length y:=by
     intro y j
     rcases List.mem_append.1 j with j|j
     ·exact C y j
     ·simp only[List.mem_singleton] at j;subst j;exact B
    split at h
    ·have O:=yo l (skip l g+1);obtain⟨a,b,c⟩:=t _ _ _ _ _ h (by simp;omega) i;exact⟨a,by omega,c⟩
    split at h
    ·rename_i k;injection h with h1 h2
     subst h1
     have:=zY l (skip l g) (by omega)
     exact⟨.list _ (by simp;omega) i,by omega,by omega⟩
    ·cases h
  ·rw[jR] at h
   split at h
   ·cases h
   rename_i c3;have A:ze l p=34:=by omega
   have n:xX l p=jq l (p+1):=by unfold xX;rw[if_pos A]
   cases hs:jq l (p+1) with
   | err c g=>rw[hs] at h;cases h
   | ok s F=>
    rw[hs] at h;rw[hs] at n;simp only at h;have H:=VO n;have G:=VP n
    split at h
    ·cases h
    rename_i E
    split at h
    ·cases h
    cases hv:zU l f (d+1) (skip l (skip l F+1)) with
    | err c g=>rw[hv] at h;cases h
    | ok x g=>
     rw[hv] at h;simp only at h;obtain⟨B,I,J⟩:=w _ _ _ _ hv;have P:=yo l F;have M:=yo l (skip l F+1);have N:=yo l g
     have i:∀y ∈ acc++[(s,x)],y.1.size<=l.length/\Good l.length y.2:=by
      intro y j
      rcases List.mem_append.1 j with j|j
      ·exact C y j
      ·simp only[List.mem_singleton] at j;subst j;exact⟨by simp only;omega,B⟩
     have r:((acc++[(s,x)]).map λm=>m.1.toList).Nodup:=by
      rw[List.map_append,List.nodup_append];refine⟨K,by simp,?_⟩;intro a z b hb;simp only[List.map_cons,List.map_nil,List.mem_singleton] at hb;subst hb;rw[List.mem_map] at z;obtain⟨m,o,rfl⟩:=z;intro e;apply E;rw[List.any_eq_true];exact⟨m,o,by simp[e]⟩
     split at h
     ·have O:=yo l (skip l g+1);obtain⟨a,b,c⟩:=u _ _ _ _ _ h (by simp;omega) r i;exact⟨a,by omega,c⟩
     split at h
     ·rename_i k;injection h with h1 h2
      subst h1
      have:=zY l (skip l g) (by omega)
      exact⟨.obj _ (by simp;omega) r (λm o=>(i m o).1) (λm o=>(i m o).2),by omega,by omega⟩
     ·cases h
theorem Yz{l:List UInt8}{v:V}{q:Nat}(h:xD l = .ok v q):Good l.length v:=by
 unfold xD at h
 cases hv:zU l (2*l.length+1) 1 (skip l 0) with
 | err c a=>rw[hv] at h;cases h
 | ok x a=>
  rw[hv] at h;simp only at h
  split at h
  ·cases h
  ·injection h with h1 h2
   subst h1;exact ((ik l _).1 _ _ _ _ hv).1
def chC:Option V->Nat
 | some (.obj ms)=>if zM ms [zS] then qh xC (zf ms zS) else 1
 | x=>qh xC x
theorem J8{L:Nat}(x:Option V)(h:∀v,x=some v->Good L v):chC x=cls (!(yV x).2.isSome) (chP (yV x)):=by
 match x with
 | none=>exact Yp none
 | some (.word b)=>exact Yp (some (.word b))
 | some (.str s)=>exact Yp (some (.str s))
 | some (.list vs)=>exact Yp (some (.list vs))
 | some (.obj ms)=>
  simp only[chC,yV]
  by_cases c:zM ms [zS]=true
  ·rw[if_pos c];have a:=h _ rfl
   cases a with
   | obj _ f d g i=>
    match ms with
    | []=>rfl
    | [m]=>
     have e:(m.1.toList==zS.toList)=true:=by
      simp[zM] at c;simp[c]
     rw[if_pos ⟨c,rfl⟩];have a:zf [m] zS=some m.2:=by unfold zf;rw[List.find?_cons,e];rfl
     rw[a];exact Yp _
    | m::m'::r=>
     exfalso;simp[zM] at c;simp only[List.map_cons,List.nodup_cons,List.mem_cons,not_or] at d;exact d.1.1 (by rw[<- c.1,<- c.2.1])
  ·rw[if_neg c,if_neg (λe=>c e.1)]
   rfl
def short(s:BA):Bool:=decide (s.size<=60)
def filled(s:BA):Bool:=!s.toList.isEmpty&&short s
def xV(op:BA):Bool:=op.toList==[115,97,109,101]
def yN(op:BA):Bool:=op.toList==[98,101,108,111,119]
def uA(op:BA):Bool:=op.toList==[117,110,100,101,114]
def zX(op:BA)(x:Option V):Nat:=
 if qG op then qh xC x
 else if xV op then qh (zQ short) x
 else if yN op then qh (zQ qH) x
 else if uA op then qh (zQ filled) x
 else if x.isNone then 0 else 1
def qI(op:BA)(x:Option V):List BA:=
 if qG op then qm strOf x
 else if xV op then qm (qo short) x
 else if yN op then qm (qo qH) x
 else if uA op then qm (qo filled) x
 else []
theorem JR{f g:BA->Bool}(h:∀s,f s=g s)(l:List BA):l.all f=l.all g:=by rw[show f=g from funext h]
theorem lH(op:BA)(x:Option V)(h:jS op=true):zX op x=cls (!(zy x).isSome || !Qh op ((zy x).getD [])) (qG op && !((zy x).getD []).all xg):=by
 unfold zX Qh;rw[h,Bool.and_true]
 by_cases c1:qG op=true
 ·rw[if_pos c1];have e:op.toList=[108,105,107,101]:=by simpa [qG] using c1
  have a:∀s,ZR op s=true:=by intro s;unfold ZR;rw[e];rfl
  rw[JR a,c1,Yp,show ((zy x).getD []).all (λ_=>true)=true from by simp]
  simp
 rw[if_neg c1];have b:qG op=false:=by simpa using c1
 rw[b,Bool.false_and]
 by_cases c2:xV op=true
 ·rw[if_pos c2];have e:op.toList=[115,97,109,101]:=by simpa [xV] using c2
  have a:∀s,ZR op s=short s:=by intro s;unfold ZR;rw[e];rfl
  rw[JR a,VI]
 rw[if_neg c2]
 by_cases c3:yN op=true
 ·rw[if_pos c3];have e:op.toList=[98,101,108,111,119]:=by simpa [yN] using c3
  have a:∀s,ZR op s=qH s:=by intro s;unfold ZR;rw[e];rfl
  rw[JR a,VI]
 rw[if_neg c3]
 by_cases c4:uA op=true
 ·rw[if_pos c4];have e:op.toList=[117,110,100,101,114]:=by simpa [uA] using c4
  have a:∀s,ZR op s=filled s:=by
   intro s;unfold ZR;rw[e];show (decide (s.size<=60) && !s.toList.isEmpty)=(!s.toList.isEmpty&&short s);rw[Bool.and_comm]
   rfl
  rw[JR a,VI]
 exfalso;unfold jS at h;unfold qG at c1;unfold xV at c2;unfold yN at c3;unfold uA at c4;simp only[Bool.or_eq_true] at h
 rcases h with ((h|h)|h)|h
 ·exact c2 h
 ·exact c4 h
 ·exact c3 h
 ·exact c1 h
theorem MM(ms:List (BA×V)):zM ms [bOp,zm,zo,bNo]=zM ms [bOp,zm,bNo,zo]:=by
 unfold zM;refine congrArg (λf=>ms.all f) (funext λm=>?_);simp only[List.any_cons,List.any_nil,Bool.or_false];rw[Bool.or_comm (zo.toList==m.1.toList) (bNo.toList==m.1.toList)]
theorem nu(m:BA×V)(ms:List (BA×V))(a:List BA):zM (m::ms) a=((a.any λt=>t.toList==m.1.toList)&&zM ms a):=by
 unfold zM;rw[List.all_cons]
theorem ny:∀(ms:List (BA×V)),zM ms [bOp,zm,bNo]=(zM ms [bOp,zm,bNo,zo]&&(zf ms zo).isNone)
 | []=>rfl
 | m::ms=>by
  rw[nu,nu,ny ms];unfold zf;rw[List.find?_cons]
  by_cases c:(m.1.toList==zo.toList)=true
  ·rw[c];have e:m.1.toList=zo.toList:=by simpa using c
   rw[e]
   have:([bOp,zm,bNo].any λt=>t.toList==zo.toList)=false:=by kernel_rfl
   rw[this]
   simp
  ·have a:(m.1.toList==zo.toList)=false:=by simpa using c
   have c2:(zo.toList==m.1.toList)=false:=by rw[Bool.beq_comm];exact a
   rw[a];simp only[List.any_cons,List.any_nil,Bool.or_false,c2];rw[Bool.and_assoc]
def condC:V->Nat
 | .obj ms=>if zM ms [bOp,zm,zo,bNo] then (match opV (zf ms bOp) with
  | some op=>if jS op||xq op then zW [zQ zO (zf ms zm),zX op (zf ms zo),cls (yP (zf ms bNo)) false] else 1
  | none=>1) else 1
 | _=>1
theorem il(a b c d e f:Bool):zW [cls a d,cls b e,cls c f]=cls (a||b||c) (d||e||f):=by
 have:=Ja [(a,d),(b,e),(c,f)]
 simp only[List.map_cons,List.map_nil,List.any_cons,List.any_nil,Bool.or_false] at this;rw[this,Bool.or_assoc,Bool.or_assoc]
theorem dw(op:BA)(h:xq op=true):jS op=false/\qG op=false/\xV op=false/\yN op=false/\uA op=false:=by
 have e:op.toList=[97,98,115,101,110,116]:=by simpa [xq] using h
 unfold jS qG xV yN uA;rw[e]
 decide
theorem eZ(v:V):condC v=cls (qD v).sh (qD v).pt:=by
 cases v with
 | str s=>rfl
 | word b=>rfl
 | list l=>rfl
 | obj ms=>
  simp only[condC,qD,QH]
  cases ho:opV (zf ms bOp) with
  | none=>simp only[ite_self];rfl
  | some op=>
   simp only
   cases hk:opV (zf ms zm) with
   | none=>
    have e:zQ zO (zf ms zm)=1:=by
     unfold opV at hk
     split at hk
     ·cases hk
     ·rename_i d;unfold zQ
      split
      ·rename_i s c;exact absurd c (d s)
      ·rfl
    rw[e]
    have:zW [1,zX op (zf ms zo),cls (yP (zf ms bNo)) false]=1:=Jb (by simp)
    rw[this];simp only[ite_self]
    rfl
   | some key=>
    have e:zQ zO (zf ms zm)=cls (!zO key) false:=by
     unfold opV at hk
     split at hk
     ·rename_i s c;injection hk with hk
      subst hk;rw[c]
      rfl
     ·cases hk
    rw[e,MM]
    by_cases ca:xq op=true
    ·obtain⟨k,g,h,i,j⟩:=dw op ca;simp only[ca,Bool.or_true,if_true];rw[ny]
     have f:zX op (zf ms zo)=cls (!(zf ms zo).isNone) false:=by
      unfold zX;rw[g,h,i,j]
      cases (zf ms zo).isNone<;>rfl
     rw[f,il]
     cases zM ms [bOp,zm,bNo,zo]<;>cases (zf ms zo).isNone<;>cases zO key<;>cases yP (zf ms bNo)<;>rfl
    ·have a:xq op=false:=by simpa using ca
     simp only[a,Bool.or_false,Bool.false_eq_true,if_false]
     cases ok:jS op with
     | false=>
      have:Qh op ((zy (zf ms zo)).getD [])=false:=by unfold Qh;rw[ok,Bool.and_false]
      rw[this];simp only[Bool.false_eq_true,if_false,ite_self,Bool.not_false,Bool.or_true,Bool.true_or]
      rfl
     | true=>
      rw[lH op _ ok,il];simp only[if_true];generalize (!(zy (zf ms zo)).isSome || !Qh op ((zy (zf ms zo)).getD []))=A;generalize (qG op && !((zy (zf ms zo)).getD []).all xg)=B
      cases zM ms [bOp,zm,bNo,zo]<;>cases A<;>cases B<;>cases zO key<;>cases yP (zf ms bNo)<;>rfl
def yz:Option V->Nat
 | none=>0
 | some (.list vs)=>if 5<vs.length then 1 else zW (vs.map condC)
 | some _=>1
theorem BQ(x:Option V):yz x=cls (qL x).sh (qL x).pt:=by
 match x with
 | none=>rfl
 | some (.str s)=>rfl
 | some (.word b)=>rfl
 | some (.obj ms)=>rfl
 | some (.list vs)=>
  simp only[yz,qL]
  split
  ·rfl
  ·have:=Ja (vs.map λv=>((qD v).sh,(qD v).pt))
   rw[List.map_map] at this;have e:((λx:Bool×Bool=>cls x.1 x.2) ∘ λv=>((qD v).sh,(qD v).pt))=condC:=funext λv=>(eZ v).symm;rw[e] at this;rw[this];simp only[List.any_map]
   rfl
def qN:V->Nat
 | .obj ms=>if zM ms [zN,zT,bDo,bOn,bIf] then zW [zQ xL (zf ms zN),chC (zf ms zT),chC (zf ms bDo),chC (zf ms bOn),yz (zf ms bIf)] else 1
 | _=>1
theorem xA{L:Nat}{ms:List (BA×V)}(h:Good L (.obj ms))(nm:BA):∀v,zf ms nm=some v->Good L v:=by
 intro v a
 cases h with
 | obj _ d e f b=>
  unfold zf at a;obtain⟨m,c,rfl⟩:=Option.map_eq_some_iff.1 a;exact b m (List.mem_of_find?_eq_some c)
theorem FK(a b c d e f g h i j:Bool):zW [cls a f,cls b g,cls c h,cls d i,cls e j]=cls (a||b||c||d||e) (f||g||h||i||j):=by
 have:=Ja [(a,f),(b,g),(c,h),(d,i),(e,j)]
 simp only[List.map_cons,List.map_nil,List.any_cons,List.any_nil,Bool.or_false] at this;rw[this];simp only[Bool.or_assoc]
theorem pW{L:Nat}(v:V)(h:Good L v):qN v=cls (xG v).sh (xG v).pt:=by
 cases v with
 | str s=>rfl
 | word b=>rfl
 | list l=>rfl
 | obj ms=>
  simp only[qN,xG,YC]
  cases ho:zM ms [zN,zT,bDo,bOn,bIf] with
  | false=>rfl
  | true=>
   simp only[if_true]
   cases hk:opV (zf ms zN) with
   | none=>
    have d:zQ xL (zf ms zN)=1:=by
     unfold opV at hk
     split at hk
     ·cases hk
     ·rename_i c;unfold zQ
      split
      ·rename_i s a;exact absurd a (c s)
      ·rfl
    rw[d];rw[Jb (by simp)]
    rfl
   | some eff=>
    have d:zQ xL (zf ms zN)=cls (!xL eff) false:=by
     unfold opV at hk
     split at hk
     ·rename_i s a;injection hk with hk
      subst hk;rw[a]
      rfl
     ·cases hk
    rw[d,J8 _ (xA h zT),J8 _ (xA h bDo),J8 _ (xA h bOn),BQ,FK];simp only[Yk,Bool.false_or]
def kR:List Nat->Nat->Int×Nat
 | [],_=>(0,0)
 | c::cs,i=>if c=1 then (5,i+1) else if c=2 then (6,i+1) else kR cs (i+1)
theorem Vm{L:Nat}:∀(a:List V) (i:Nat),(∀v ∈ a,Good L v)->Qg (a.map xG) i=kR (a.map qN) i
 | [],_,_=>rfl
 | v::a,i,h=>by
  rw[List.map_cons,List.map_cons,Qg,kR,pW v (h v (by simp)),Vm a (i+1) (λx b=>h x (by simp[b]))]
  cases (xG v).sh<;>cases (xG v).pt<;>rfl
def xS(s:BA):Int×Nat:=
 if 4000<s.size then (1,0) else match xD s.data.toList with
  | .err e q=>(e,q)
  | .ok v _=>uu v
def Code(c:Int):Prop:=c=2\/c=3\/c=4
theorem gJ(l:List UInt8):∀(f:Nat),
  (∀d p c q,zU l f d p = .err c q->Code c) /\
  (∀d p acc c q,jQ l f d p acc = .err c q->Code c) /\
  (∀d p acc c q,jR l f d p acc = .err c q->Code c)
 | 0=>by
  refine⟨λd p c q h=>?_,λd p acc c q h=>?_,λd p acc c q h=>?_⟩
  ·rw[zU] at h;injection h with h1 h2;exact .inl h1.symm
  ·rw[jQ] at h;injection h with h1 h2;exact .inl h1.symm
  ·rw[jR] at h;injection h with h1 h2;exact .inl h1.symm
 | f+1=>by
  obtain⟨i,b,g⟩:=gJ l f;refine⟨λd p c q h=>?_,λd p acc c q h=>?_,λd p acc c q h=>?_⟩
  ·rw[zU] at h
   by_cases c1:ze l p=123
   ·rw[if_pos c1] at h
    split at h
    ·injection h with h1 h2;exact .inr (.inl h1.symm)
    split at h
    ·cases h
    ·exact g _ _ _ _ _ h
   rw[if_neg c1] at h
   by_cases c2:ze l p=91
   ·rw[if_pos c2] at h
    split at h
    ·injection h with h1 h2;exact .inr (.inl h1.symm)
    split at h
    ·cases h
    ·exact b _ _ _ _ _ h
   rw[if_neg c2] at h
   by_cases c3:ze l p=34
   ·rw[if_pos c3] at h
    cases hs:jq l (p+1) with
    | ok s a=>rw[hs] at h;cases h
    | err e a=>
     rw[hs] at h;injection h with h1 h2
     subst h1;exact .inl (V6 hs)
   rw[if_neg c3] at h
   by_cases c4:ze l p=116
   ·rw[if_pos c4] at h
    cases hw:zR l [114,117,101] (p+1) with
    | ok s a=>rw[hw] at h;cases h
    | err e a=>
     rw[hw] at h;injection h with h1 h2
     subst h1;exact .inl (JK hw)
   rw[if_neg c4] at h
   by_cases c5:ze l p=102
   ·rw[if_pos c5] at h
    cases hw:zR l [97,108,115,101] (p+1) with
    | ok s a=>rw[hw] at h;cases h
    | err e a=>
     rw[hw] at h;injection h with h1 h2
     subst h1;exact .inl (JK hw)
   rw[if_neg c5] at h;injection h with h1 h2
   exact .inl h1.symm
  ·rw[jQ] at h
   cases hv:zU l f (d+1) p with
   | err e a=>
    rw[hv] at h;injection h with h1 h2
    subst h1;exact i _ _ _ _ hv
   | ok x a=>
    rw[hv] at h;simp only at h
    split at h
    ·exact b _ _ _ _ _ h
    split at h
    ·cases h
    ·injection h with h1 h2;exact .inl h1.symm
  ·rw[jR] at h
   split at h
   ·injection h with h1 h2;exact .inl h1.symm
   cases hs:jq l (p+1) with
   | err e a=>
    rw[hs] at h;injection h with h1 h2
    subst h1;exact .inl (V6 hs)
   | ok s j=>
    rw[hs] at h;simp only at h
    split at h
    ·injection h with h1 h2;exact .inr (.inr h1.symm)
    split at h
    ·injection h with h1 h2;exact .inl h1.symm
    cases hv:zU l f (d+1) (skip l (skip l j+1)) with
    | err e a=>
     rw[hv] at h;injection h with h1 h2
     subst h1;exact i _ _ _ _ hv
    | ok x a=>
     rw[hv] at h;simp only at h
     split at h
     ·exact g _ _ _ _ _ h
     split at h
     ·cases h
     ·injection h with h1 h2;exact .inl h1.symm
theorem oH{l:List UInt8}{c:Int}{q:Nat}(h:xD l = .err c q):Code c:=by
 unfold xD at h
 cases hv:zU l (2*l.length+1) 1 (skip l 0) with
 | err e a=>
  rw[hv] at h;injection h with h1 h2
  subst h1;exact (gJ l _).1 _ _ _ _ hv
 | ok x a=>
  rw[hv] at h;simp only at h
  split at h
  ·injection h with h1 h2;exact .inl h1.symm
  ·cases h
theorem RZ(v:V):qN v<=2:=by
 cases v with
 | obj ms=>simp only[qN];split;exact Ya _;decide
 | _=>simp[qN]
theorem Vn:∀(cs:List Nat) (i:Nat),(∀c ∈ cs,c=0)->kR cs i=(0,0)
 | [],_,_=>rfl
 | c::cs,i,h=>by
  have b:=h c (by simp);rw[kR,if_neg (by omega),if_neg (by omega)];exact Vn cs _ (λx a=>h x (by simp[a]))
theorem gP:∀(cs:List Nat) (i k:Nat),(a:k<cs.length)->(∀j,(h:j<k)->cs[j]=0)->cs[k]≠0->cs[k]<=2->kR cs i=(if cs[k]=1 then 5 else 6,i+k+1)
 | [],_,k,a,_,_,_=>by simp at a
 | c::cs,i,0,a,_,h1,h2=>by
  simp only[List.getElem_cons_zero] at h1 h2 |-;rw[kR]
  by_cases e:c=1
  ·rw[if_pos e,if_pos e]
  ·rw[if_neg e,if_pos (by omega),if_neg e]
 | c::cs,i,k+1,a,h0,h1,h2=>by
  have b:c=0:=h0 0 (by omega);simp only[List.getElem_cons_succ] at h1 h2 |-;rw[kR,if_neg (by omega),if_neg (by omega),gP cs (i+1) k (by simpa using a) (λj d=>by have:=h0 (j+1) (by omega);simpa using this) h1 h2];have e:i+1+k+1=i+(k+1)+1:=by omega
  rw[e]
end Rd
end Go.Proofs.YtdakgnaojakldaaGreatDoor
