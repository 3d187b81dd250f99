/- P -/
import Derived.Test.YtdakgnaojakldaaGreatDoorS48
set_option maxRecDepth 100000
namespace Go.Proofs.YtdakgnaojakldaaGreatDoor
open Go.RowKit
namespace Kp
def r0:Ref.Req:=⟨⟨#[97,110,110]⟩,⟨#[114,101,97,100]⟩,⟨#[98,111,120]⟩,[]⟩
end Kp
def Jq(w:World)(e:Value)(asks:List (List Int)):Prop:=∃a c,e = .slice a asks.length c/\∀(k:Nat) (raw:List Int),asks[k]?=some raw->∃b o d,a=some ⟨b,o,none⟩/\w.cell? ⟨b,o+k,none⟩=some d/\IntsIn w d raw
theorem Jq.below{w d:World}{b:Value}{asks:List (List Int)}(h:Jq w b asks)(hb:Below w.heap.size w d):Jq d b asks:=by
 obtain⟨a,c,rfl,h⟩:=h;refine⟨a,c,rfl,λk raw g=>?_⟩;obtain⟨f,o,i,e,c0,hi⟩:=h k raw g;exact⟨f,o,i,e,zg hb c0,hi.below hb⟩
def Xt(w:World)(B:Nat)(d:Value)(L:List BY):Prop:=∃a c,d = .slice a L.length c/\∀(k:Nat) (x:BY),L[k]?=some x->∃b,a=some ⟨b,0,none⟩/\B<=b/\w.cell? ⟨b,k,none⟩=some (.string x)
theorem Xt.own{w:World}{B:Nat}{f:Value}{L:List BY}(h:zO w B f L):Xt w B f L:=by
 obtain⟨a,c,rfl⟩:=yB h;refine⟨a,c,rfl,λk x d=>?_⟩;have j:k<L.length:=(List.getElem?_eq_some_iff.1 d).1
 rcases h.2 with ⟨e,h0⟩|⟨gb,cap,cur,e,_⟩
 ·omega
 ·have b:w.ownsRow B 9 1 (.slice (some ⟨gb,0,none⟩) L.length cap) L.length (L.map Value.string):=by rw[<- e];exact h
  have g:=World.ownsRow.cellAt b k (by omega);have i:=(World.ownsRow.lt b gb (by rfl)).1;injection e with e1 e2 e3
  exact⟨gb,e1,i,by rw[g];simp[List.getElem?_map,d]⟩
theorem Xt.turn{w g:World}{B:Nat}{f:Value}{L:List BY}{M:Nat->Prop}(h:Xt w B f L)(l:zy M w g)(i:∀b,B<=b->¬M b):Xt g B f L:=by
 obtain⟨a,c,rfl,h⟩:=h;refine⟨a,c,rfl,λk x m=>?_⟩;obtain⟨d,e,hb,j⟩:=h k x m;exact⟨d,e,hb,l.cell (x:=⟨d,k,none⟩) (i d hb) j⟩
namespace Kp
end Kp
def vg(d:De.Dec):List Value:=[.int .i64 ((d.verdict:Nat):Int),.int .i64 ((d.layer:Nat):Int),.string d.doc,.int .i64 ((d.stmt:Nat):Int)]
theorem KU:∀(L:List De.Dec) (i:Nat) (h:i<L.length) (t:Nat),t<4->(L.flatMap vg)[i*4+t]?=(vg L[i])[t]?
 | [],i,h,_,_=>by simp at h
 | d::L,0,_,t,ht=>by
  rw[List.flatMap_cons,List.getElem?_append_left (by simp[vg];omega)]
  simp
 | d::L,i+1,h,t,ht=>by
  have a:=KU L i (by simpa using h) t ht;rw[List.flatMap_cons,List.getElem?_append_right (by simp[vg];omega)];rw[show (i+1)*4+t-(vg d).length=i*4+t by simp[vg];omega]
  simpa using a
theorem oL{L:List De.Dec}{i:Nat}{d:De.Dec}(h:L[i]?=some d)(t:Nat)(a:t<4):(L.flatMap vg)[i*4+t]?=(vg d)[t]?:=by
 obtain⟨hi,rfl⟩:=List.getElem?_eq_some_iff.1 h;exact KU L i hi t a
namespace De
def Xy(eff:BY)(r:Ref.Req)(L:List zm):Bool:=L.any λx=>x.2.any (qE eff r)
def Zb(a:Nat->List zm)(eff:BY)(r:Ref.Req)(is:List Nat):Bool:=is.any λi=>Xy eff r (a i)
theorem sV(eff:BY)(r:Ref.Req)(a:List zz):(vO eff r a).isSome=a.any (qE eff r):=by
 unfold vO;rw[List.findIdx?_isSome]
theorem Vk(eff:BY)(r:Ref.Req):∀L:List zm,(yx eff r L).isSome=Xy eff r L
 | []=>rfl
 | x::L=>by
  have a:=Vk eff r L;have h:=sV eff r x.2;unfold Xy at a |-;rw[yx,List.any_cons,<- h,<- a]
  cases vO eff r x.2<;>simp
theorem Vl(a:Nat->List zm)(eff:BY)(r:Ref.Req):∀is:List Nat,(xD a eff r is).isSome=Zb a eff r is
 | []=>rfl
 | i::is=>by
  have b:=Vl a eff r is;have h:=Vk eff r (a i);unfold Zb at b |-;rw[xD,List.any_cons,<- h,<- b]
  cases yx eff r (a i)<;>simp
def Xk(a:Nat->List zm)(r:Ref.Req):Nat:=
 if Zb a yu r [0,1,2,3] then 2 else if (ji a r 0&&ji a r 1)=false then 3 else if Zb a xm r [2,3] then 1 else 3
theorem ME(a:Nat->List zm)(r:Ref.Req):(xC a r).verdict=Xk a r:=by
 unfold xC Xk;rw[<- Vl,<- Vl]
 cases h1:xD a yu r [0,1,2,3] with
 | some x=>simp
 | none=>
  simp only[Option.isSome_none,Bool.false_eq_true,if_false]
  split
  ·rfl
  ·cases h2:xD a xm r [2,3] with
   | some x=>simp
   | none=>rfl
theorem UV{eff:BY}{r:Ref.Req}{L:List zm}:Xy eff r L=true↔∃x ∈ L,∃s ∈ x.2,qE eff r s=true:=by
 unfold Xy;simp only[List.any_eq_true]
theorem JE{a:Nat->List zm}{eff:BY}{r:Ref.Req}{is:List Nat}:Zb a eff r is=true↔∃i ∈ is,∃x ∈ a i,∃s ∈ x.2,qE eff r s=true:=by
 unfold Zb;simp only[List.any_eq_true,UV]
theorem CJ{a:Nat->List zm}{r:Ref.Req}{i:Nat}:ji a r i=true↔a i=[]\/∃x ∈ a i,∃s ∈ x.2,qE xm r s=true:=by
 unfold ji;rw[Bool.or_eq_true,Vk,UV,List.isEmpty_iff]
structure More (st st':Nat->List zm) (n:Nat) (y:zm):Prop where
 lay:n<4
 mem:∀i,i<4->∀x,x ∈ st' i↔x ∈ st i\/(i=n/\x=y)
theorem More.deny{d a:Nat->List zm}{n:Nat}{y:zm}(h:More d a n y){r:Ref.Req}(c:∃s ∈ y.2,qE yu r s=true):Xk a r=2:=by
 unfold Xk;rw[if_pos];rw[JE];have b:=h.lay;exact⟨n,by simp;omega,y,(h.mem n b y).2 (.inr ⟨rfl,rfl⟩),c⟩
end De
namespace Sd
open Kp
theorem Dn(r:Ref.Req):(zA.all λp=>zA.all λw=>Ref.qJ p w r==(w.toList==p.toList))=true:=by kernel_rfl
theorem VF{p w:BY}(a:p ∈ zA)(b:w ∈ zA)(r:Ref.Req):Ref.qJ p w r=(w.toList==p.toList):=
 eq_of_beq (List.all_eq_true.1 (List.all_eq_true.1 (Dn r) p a) w b)
theorem bQ(r:Ref.Req):(zA.all λw=>Ref.qJ jH w r)=true:=by kernel_rfl
theorem Dp(r:Ref.Req):(zA.all λw=>Ref.qJ je w r==false)=true:=by kernel_rfl
theorem mP:(zA.all λx=>kE.all λv=>(Ref.qj x&&De.Zu x v)==((y8 x).2&&decide ((y8 x).1<(y8 v).1)))=true:=by kernel_rfl
theorem MP:(zA.all Ref.yH)=true:=by kernel_rfl
def qK(a b c:BY)(there:Bool)(x:BY):Ref.Req:=⟨a,b,c,if there then [(Zd,x)] else []⟩
theorem GQ(a b c:BY)(there:Bool)(x:BY):Ref.says (qK a b c there x) Zd=if there then some x else none:=by cases there<;>kernel_rfl
theorem Gt{a b c x:BY}(d:a ∈ zA)(hb:b ∈ zA)(f:c ∈ zA)(there:Bool)(g:x ∈ zA):Ref.xe (qK a b c there x)=true:=by
 have w:=List.all_eq_true.1 MP;obtain⟨t,_⟩:=LH (w x g);unfold Ref.xe qK;simp only;rw[w a d,w b hb,w c f]
 cases there with
 | false=>rfl
 | true=>
  have e:Ref.vo (Zd,x)=true:=t;simp[e]
theorem Gs{a b c x:BY}(f:a ∈ zA)(hb:b ∈ zA)(g:c ∈ zA)(there:Bool)(h:x ∈ zA):Pg.reqLen (qK a b c there x):=by
 have z:=X8;refine⟨?_,?_,?_,?_,λm d=>?_⟩
 ·have:=z a f;unfold maxLen;show a.size<=_;omega
 ·have:=z b hb;unfold maxLen;show b.size<=_;omega
 ·have:=z c g;unfold maxLen;show c.size<=_;omega
 ·unfold qK;cases there<;>simp
 ·unfold qK at d
  cases there with
  | false=>simp at d
  | true=>
   have e:m=(Zd,x):=by simpa using d
   subst e
   have:=z x h
   exact⟨(by unfold maxLen;decide:Zd.size<=maxLen),by unfold maxLen;show x.size<=_;omega⟩
theorem Ar{k:Nat}(m:k<5){v x:BY}(l:ZA k v)(f:x ∈ zA)(no there:Bool)(a b c:BY):De.uq (u7 k v no) (qK a b c there x)=(kJ k x there v != no):=by
 unfold De.uq;have e:(u7 k v no).key=Zd:=rfl;rw[e,GQ];refine congrArg (λt:Bool=>t != no) ?_;obtain⟨g,i⟩:=l;have j:k=0\/k=1\/k=2\/k=3\/k=4:=by omega
 rcases j with rfl|rfl|rfl|rfl|rfl
 ·have d:Ref.zX (opW 0)=true:=by kernel_rfl
  show (Ref.zX (opW 0)&&_||De.ZB (opW 0) [] _ _) = !there;rw[d]
  cases there<;>rfl
 ·have d:Ref.zX (opW 1)=false:=by kernel_rfl
  cases there with
  | false=>
   show (Ref.zX (opW 1)&&true||false)=false;rw[d];rfl
  | true=>
   show (Ref.zX (opW 1)&&false||(De.jr (opW 1) x v (qK a b c true x)||false))=_;rw[d];unfold De.jr;rw[if_pos (by kernel_rfl),VF g f];show (false&&false||((x.toList==v.toList)||false))=(true&&(x.toList==v.toList));rw[Bool.or_false,Bool.true_and];rfl
 ·have d:Ref.zX (opW 2)=false:=by kernel_rfl
  cases there with
  | false=>
   show (Ref.zX (opW 2)&&true||false)=false;rw[d];rfl
  | true=>
   show (Ref.zX (opW 2)&&false||(De.jr (opW 2) x v (qK a b c true x)||false))=_;rw[d];unfold De.jr;rw[show Ref.qp (opW 2)=false by kernel_rfl,show De.qW (opW 2)=true by kernel_rfl];show (false&&false||((x.toList==v.toList)||false))=(true&&(x.toList==v.toList));rw[Bool.or_false,Bool.true_and];rfl
 ·have d:Ref.zX (opW 3)=false:=by kernel_rfl
  cases there with
  | false=>
   show (Ref.zX (opW 3)&&true||false)=false;rw[d];rfl
  | true=>
   show (Ref.zX (opW 3)&&false||(De.jr (opW 3) x v (qK a b c true x)||false))=_;rw[d];unfold De.jr;have h:=eq_of_beq (List.all_eq_true.1 (List.all_eq_true.1 mP x f) v (i rfl));rw[show Ref.qp (opW 3)=false by kernel_rfl,show De.qW (opW 3)=false by kernel_rfl,show De.xX (opW 3)=true by kernel_rfl,h];show (false&&false||(((y8 x).2&&decide ((y8 x).1<(y8 v).1))||false))=(true&&(y8 x).2&&decide ((y8 x).1<(y8 v).1));rw[Bool.or_false,Bool.true_and];rfl
 ·have d:Ref.zX (opW 4)=false:=by kernel_rfl
  cases there with
  | false=>
   show (Ref.zX (opW 4)&&true||false)=false;rw[d];rfl
  | true=>
   show (Ref.zX (opW 4)&&false||(De.jr (opW 4) x v (qK a b c true x)||false))=_;rw[d];unfold De.jr;rw[show Ref.qp (opW 4)=false by kernel_rfl,show De.qW (opW 4)=false by kernel_rfl,show De.xX (opW 4)=false by kernel_rfl];show (false&&false||(De.yG x v||false))=(true&&De.yG x v);rw[Bool.or_false,Bool.true_and];rfl
def appW(nt no:Bool)(k:Nat)(a b c v d e f:BY)(there:Bool)(x:BY):Bool:=((d.toList==a.toList) != nt)&&(e.toList==b.toList)&&(f.toList==c.toList)&&(kJ k x there v != no)
theorem Uv{p w:BY}(a:p ∈ zA)(b:w ∈ zA)(nt:Bool)(r:Ref.Req):De.xK (nt,[p]) w r=((w.toList==p.toList) != nt):=by
 unfold De.xK;show ((Ref.qJ p w r||false) != nt)=_;rw[VF a b,Bool.or_false]
theorem lT(deny nt no:Bool){k:Nat}(q:k<5){a b c v d e f x:BY}(o:a ∈ zA)(hb:b ∈ zA)(p:c ∈ zA)(r:ZA k v)(g:d ∈ zA)(h:e ∈ zA)(i:f ∈ zA)(there:Bool)(s:x ∈ zA) :
  De.uf (stW deny nt no k a b c v) (qK d e f there x)=appW nt no k a b c v d e f there x:=by
 unfold De.uf appW;have j:De.xK (stW deny nt no k a b c v).who (qK d e f there x).who (qK d e f there x)=((d.toList==a.toList) != nt):=Uv o g nt _;have l:De.xK (stW deny nt no k a b c v).act (qK d e f there x).act (qK d e f there x)=(e.toList==b.toList):=(Uv hb h false _).trans (by simp);have m:De.xK (stW deny nt no k a b c v).on (qK d e f there x).on (qK d e f there x)=(f.toList==c.toList):=(Uv p i false _).trans (by simp)
 have n:((stW deny nt no k a b c v).ifs.all λc=>De.uq c (qK d e f there x))=(kJ k x there v != no):=by
  show (De.uq (u7 k v no) (qK d e f there x)&&true)=_;rw[Ar q r s,Bool.and_true]
 rw[j,l,m,n]
theorem rC(deny nt no:Bool)(k:Nat)(a b c v:BY)(r:Ref.Req):De.qE De.yu r (stW deny nt no k a b c v)=(deny&&De.uf (stW deny nt no k a b c v) r):=by
 unfold De.qE
 have:((stW deny nt no k a b c v).eff.toList==De.yu.toList)=deny:=by cases deny<;>kernel_rfl
 rw[this]
theorem rA(deny nt no:Bool)(k:Nat)(a b c v:BY)(r:Ref.Req):De.qE De.xm r (stW deny nt no k a b c v)=(!deny&&De.uf (stW deny nt no k a b c v) r):=by
 unfold De.qE
 have:((stW deny nt no k a b c v).eff.toList==De.xm.toList) = !deny:=by cases deny<;>kernel_rfl
 rw[this]
theorem J7{s:zz}{r:Ref.Req}{deny app:Bool}(a:De.qE De.yu r s=(deny&&app))(b:De.qE De.xm r s=(!deny&&app)){n:Nat}(f:n<4)(e:deny=false->n=2) :
  De.xC (upd qI n [(yg,[s])]) r=if app then ⟨if deny then 2 else 1,n,yg,1⟩ else De.silent:=by
 have d:n=0\/n=1\/n=2\/n=3:=by omega
 cases deny with
 | false=>
  have c:=e rfl;subst c
  cases app<;>(simp only[Bool.not_false,Bool.false_and,Bool.true_and] at a b;simp[De.xC,De.xD,De.yx,De.vO,De.ji,upd,qI,a,b])
 | true=>
  cases app with
  | true=>
   simp only[Bool.and_self,Bool.not_true,Bool.false_and] at a b
   rcases d with rfl|rfl|rfl|rfl<;>simp[De.xC,De.xD,De.yx,De.vO,upd,qI,a]
  | false=>
   simp only[Bool.and_false] at a b
   rcases d with rfl|rfl|rfl|rfl<;>simp[De.xC,De.xD,De.yx,De.vO,De.ji,upd,qI,a,b]
theorem wI{a b c x:BY}(e:a ∈ zA)(hb:b ∈ zA)(f:c ∈ zA)(there:Bool)(d:Bool):De.uf (gdW (if d then je else a)) (qK a b c there x) = !d:=by
 unfold De.uf
 have g:De.xK (false,[jH]) b (qK a b c there x)=true:=by
  unfold De.xK;show ((Ref.qJ jH b _||false) != false)=true;rw[List.all_eq_true.1 (bQ _) b hb];rfl
 have h:De.xK (false,[jH]) c (qK a b c there x)=true:=by
  unfold De.xK;show ((Ref.qJ jH c _||false) != false)=true;rw[List.all_eq_true.1 (bQ _) c f];rfl
 have i:De.xK (false,[if d then je else a]) a (qK a b c there x) = !d:=by
  unfold De.xK
  cases d with
  | true=>
   show ((Ref.qJ je a _||false) != false)=false;rw[eq_of_beq (List.all_eq_true.1 (Dp _) a e)];rfl
  | false=>
   show ((Ref.qJ a a _||false) != false)=true;rw[VF e e];simp
 show (De.xK (false,[if d then je else a]) a _&&De.xK (false,[jH]) b _&&De.xK (false,[jH]) c _&&true) = !d
 rw[g,h,i];simp
theorem J9{s g:zz}{r:Ref.Req}{deny app c:Bool}(v:De.qE De.yu r s=(deny&&app))(k:De.qE De.xm r s=(!deny&&app))(q:De.qE De.yu r g=false)(u:De.qE De.xm r g = !c){n m:Nat}(l:n<4)(B:m<2)(o:deny=false->n=2)
  {f:StO}(a:∀i,i<4->∀y,y ∈ f i↔(i=n/\y=(yg,[s]))\/(i=m/\y=(Zc,[g]))) :
  De.Xk f r=if app then (if deny then 2 else if c then 3 else 1) else 3:=by
 have x:De.Zb f De.yu r [0,1,2,3]=(deny&&app):=by
  rw[Bool.eq_iff_iff,De.JE,<- v]
  constructor
  ·rintro ⟨i,hi,y,h,t,d,b⟩
   rcases (a i (by simp at hi;omega) y).1 h with ⟨_,rfl⟩|⟨_,rfl⟩
   ·rw[List.mem_singleton] at d;subst d;exact b
   ·rw[List.mem_singleton] at d;subst d;rw[q] at b;cases b
  ·intro b;exact⟨n,by simp;omega,_,(a n l _).2 (.inl ⟨rfl,rfl⟩),s,by simp,b⟩
 have w:De.Zb f De.xm r [2,3]=(!deny&&app):=by
  rw[Bool.eq_iff_iff,De.JE,<- k]
  constructor
  ·rintro ⟨i,hi,y,h,t,d,b⟩
   rcases (a i (by simp at hi;omega) y).1 h with ⟨_,rfl⟩|⟨e,rfl⟩
   ·rw[List.mem_singleton] at d;subst d;exact b
   ·simp at hi;omega
  ·intro b
   have hd:deny=false:=by cases deny with
    | false=>rfl
    | true=>rw[k] at b;cases b
   have:=o hd
   subst this;exact⟨2,by simp,_,(a 2 l _).2 (.inl ⟨rfl,rfl⟩),s,by simp,b⟩
 have A:deny=false->(De.ji f r 0&&De.ji f r 1) = !c:=by
  intro hd;have j:=o hd;subst j
  have key:∀i,i<2->De.ji f r i=(decide (i≠m) || !c):=by
   intro i hi;rw[Bool.eq_iff_iff,De.CJ,Bool.or_eq_true,decide_eq_true_eq,<- u]
   constructor
   ·rintro (e|⟨y,h,t,d,b⟩)
    ·left
     intro p
     have:=(a i (by omega) (Zc,[g])).2 (.inr ⟨p,rfl⟩)
     rw[e] at this;simp at this
    ·rcases (a i (by omega) y).1 h with ⟨e,_⟩|⟨_,rfl⟩
     ·omega
     ·rw[List.mem_singleton] at d;subst d;exact .inr b
   ·rintro (e|b)
    ·left
     cases hs:f i with
     | nil=>rfl
     | cons z L=>
      have:=(a i (by omega) z).1 (by rw[hs];simp)
      omega
    ·by_cases e:i=m
     ·exact .inr ⟨_,(a i (by omega) _).2 (.inr ⟨e,rfl⟩),g,by simp,b⟩
     ·left
      cases hs:f i with
      | nil=>rfl
      | cons z L=>
       have:=(a i (by omega) z).1 (by rw[hs];simp)
       omega
  rw[key 0 (by decide),key 1 (by decide)]
  have:m=0\/m=1:=by omega
  rcases this with rfl|rfl<;>cases c<;>rfl
 unfold De.Xk;rw[x,w]
 cases deny with
 | true=>cases app<;>simp
 | false=>
  rw[A rfl]
  cases app<;>cases c<;>simp
end Sd
end Go.Proofs.YtdakgnaojakldaaGreatDoor
