/- P -/
import Derived.Test.YtagnlbgbnfnapaaGreatDoorZ03
set_option maxRecDepth 100000
namespace Go.Proofs.YtagnlbgbnfnapaaGreatDoor
namespace Rd
open Ref
def zk(l:List UInt8)(p:Nat):Nat:=(l.getD p 0).toNat
inductive Res (α:Type) where
 | ok (v:α) (p:Nat)
 | err (e:Int) (p:Nat)
def verdict(l:List UInt8)(m:zA)(p:Nat):Int×Nat×zA:=
 if (Ref.run m (l.drop p) p).1≠0 then Ref.run m (l.drop p) p
 else if (Ref.run m (l.drop p) p).2.2.state≠6\/(Ref.run m (l.drop p) p).2.2.opn≠[] then (2,l.length,(Ref.run m (l.drop p) p).2.2)
 else Ref.run m (l.drop p) p
def Inc(m:zA):Prop:=m.state≠6\/m.opn≠[]
def Fails(l:List UInt8)(m:zA)(p:Nat)(e:Int)(q:Nat):Prop:=(verdict l m p).1=e/\(verdict l m p).2.1=q
theorem gM(l:List UInt8)(p:Nat)(h:p<l.length):zk l p=l[p].toNat:=by
 unfold zk;rw[zQ,zt h];rfl
theorem Kz(l:List UInt8)(p:Nat)(h:¬p<l.length):zk l p=0:=by
 unfold zk;rw[zQ,aj (by omega)];rfl
theorem qC(l:List UInt8)(p:Nat)(h:zk l p≠0):p<l.length:=by
 rcases Nat.lt_or_ge p l.length with h1|h1
 ·exact h1
 ·exact absurd (Kz l p (by omega)) h
theorem QI(l:List UInt8)(p:Nat):zk l p<256:=aM _
theorem ib(l:List UInt8)(m:zA)(p:Nat)(h:p<l.length):Ref.run m (l.drop p) p=if (Ref.step m (zk l p:Int)).1=0 then Ref.run (Ref.step m (zk l p:Int)).2 (l.drop (p+1)) (p+1) else ((Ref.step m (zk l p:Int)).1,p,m):=by
 rw[ZQ h,Ref.run,gM l p h]
theorem yl(l:List UInt8)(m m':zA)(p:Nat)(h:p<l.length)(a:Ref.step m (zk l p:Int)=(0,m')):verdict l m p=verdict l m' (p+1):=by
 have e:Ref.run m (l.drop p) p=Ref.run m' (l.drop (p+1)) (p+1):=by rw[ib l m p h,a];rfl
 unfold verdict;rw[e]
theorem ZM(l:List UInt8)(m:zA)(p:Nat)(j:p<=l.length)(hi:Inc m)(e:Int)(d:e≠0)(f:(Ref.step m (zk l p:Int)).1=e)(i:zk l p=0->e=2):Fails l m p e p:=by
 by_cases h:p<l.length
 ·have a:Ref.run m (l.drop p) p=(e,p,m):=by
   rw[ib l m p h,za (by rw[f];exact d),f]
  unfold Fails verdict;rw[a,zb d];exact⟨rfl,rfl⟩
 ·have g:=i (Kz l p h);have c:p=l.length:=by omega
  have a:Ref.run m (l.drop p) p=(0,p,m):=by rw[ag (by omega),Ref.run]
  unfold Fails verdict;have b:(0,p,m).2.2.state≠6\/(0,p,m).2.2.opn≠[]:=hi;rw[a,za (by simp),zb b,g,c];exact⟨rfl,rfl⟩
theorem Fails.of_eq{l:List UInt8}{m m':zA}{p a:Nat}{e:Int}{q:Nat}(h:Fails l m' a e q)(b:verdict l m p=verdict l m' a):Fails l m p e q:=by
 unfold Fails at *;rw[b];exact h
def blank(b:Nat):Bool:=b==32||b==9||b==10||b==13
theorem VL(b:Nat):UQ (b:Int)=blank b:=by
 unfold UQ blank;rw[vk]
 simp
 omega
def KN(l:List UInt8):Nat->Nat->Nat
 | 0,p=>p
 | f+1,p=>if blank (zk l p) then KN l f (p+1) else p
def skip(l:List UInt8)(p:Nat):Nat:=KN l (l.length-p) p
theorem JJ(l:List UInt8)(p:Nat)(h:blank (zk l p)=true):p<l.length:=by
 apply qC;intro e;rw[e] at h;exact absurd h (by decide)
theorem QM(l:List UInt8)(p:Nat):skip l p=if blank (zk l p) then skip l (p+1) else p:=by
 unfold skip
 by_cases h:p<l.length
 ·obtain⟨k,a⟩:∃k,l.length-p=k+1:=⟨l.length-p-1,by omega⟩;rw[a,KN,show l.length-(p+1)=k by omega]
 ·have e:l.length-p=0:=by omega
  rw[e,KN,za];intro hb;exact h (JJ l p hb)
theorem Wo(m:zA)(a:m.state<7)(b:Nat)(hb:blank b=true):Ref.step m (b:Int)=(0,m):=by
 rw[Uh m _ a,VL,hb,zb rfl]
theorem YE(l:List UInt8)(m:zA)(a:m.state<7)(p:Nat):verdict l m p=verdict l m (skip l p):=by
 generalize c:l.length-p=n
 induction n generalizing p with
 | zero=>
  rw[QM,za];intro hb
  have:=JJ l p hb
  omega
 | succ n b=>
  rw[QM]
  by_cases hb:blank (zk l p)=true
  ·rw[zb hb,<- b (p+1) (by omega)];exact yl l m m p (by omega) (Wo m a _ hb)
  ·rw[za hb]
theorem je(l:List UInt8)(p:Nat):p<=skip l p:=by
 generalize b:l.length-p=n
 induction n generalizing p with
 | zero=>rw[QM];split<;>rename_i h<;>first|(have:=JJ l p h;omega)|omega
 | succ n a=>
  rw[QM]
  split
  ·have:=a (p+1) (by omega);omega
  ·omega
theorem uQ(l:List UInt8)(p:Nat)(c:p<=l.length):skip l p<=l.length:=by
 generalize b:l.length-p=n
 induction n generalizing p with
 | zero=>rw[QM];split<;>rename_i h<;>first|(have:=JJ l p h;omega)|omega
 | succ n a=>
  rw[QM]
  split
  ·exact a (p+1) (by omega) (by omega)
  ·omega
theorem ZJ(l:List UInt8)(p:Nat):blank (zk l (skip l p))=false:=by
 generalize b:l.length-p=n
 induction n generalizing p with
 | zero=>
  rw[QM]
  split
  ·rename_i h;have:=JJ l p h;omega
  ·rename_i h;simpa using h
 | succ n a=>
  rw[QM]
  split
  ·exact a (p+1) (by omega)
  ·rename_i h;simpa using h
def Within(m m':zA)(g:BA):Prop:=m'.state=8/\m'.opn=m.opn/\m'.nodes=m.nodes/\m'.named=m.named/\m'.root=m.root/\m'.got=m.got++g
def within(l:List UInt8)(lo hi p:Nat):Bool:=decide (lo<=zk l p/\zk l p<=hi)
def jY(l:List UInt8)(p:Nat):Res BA:=
 let r:=qE (zk l p:Int)
 if r.1=0 then .err 2 p
 else if within l r.2.1.toNat r.2.2.toNat (p+1)=false then .err 2 (p+1)
 else if r.1=1 then .ok (one (zk l p)++one (zk l (p+1))) (p+2)
 else if within l 128 191 (p+2)=false then .err 2 (p+2)
 else if r.1=2 then .ok (one (zk l p)++one (zk l (p+1))++one (zk l (p+2))) (p+3)
 else if within l 128 191 (p+3)=false then .err 2 (p+3)
 else .ok (one (zk l p)++one (zk l (p+1))++one (zk l (p+2))++one (zk l (p+3))) (p+4)
def uB(l:List UInt8)(p:Nat):Res BA:=
 let a:=zX (zk l p)
 let b:=zX (zk l (p+1))
 let c:=zX (zk l (p+2))
 let d:=zX (zk l (p+3))
 if a<0 then .err 2 p
 else if b<0\/(a=13/\8<=b) then .err 2 (p+1)
 else if c<0 then .err 2 (p+2)
 else if d<0 then .err 2 (p+3)
 else .ok (enc (((a*16+b)*16+c)*16+d)) (p+4)
def vG(l:List UInt8)(p:Nat):Res BA:=
 let b:=zk l p
 if b=34\/b=92\/b=47 then .ok (one b) (p+1)
 else if b=110 then .ok (one 10) (p+1)
 else if b=116 then .ok (one 9) (p+1)
 else if b=117 then uB l (p+1)
 else .err 2 p
def yE(l:List UInt8)(p:Nat):Res BA:=
 let b:=zk l p
 if b<32 then .err 2 p
 else if b=92 then vG l (p+1)
 else if b<128 then .ok (one b) (p+1)
 else jY l p
def lD(l:List UInt8)(m:zA)(p:Nat)(r:Res BA):Prop:=match r with
 | .ok s q=>p<q/\q<=l.length/\∃m',Within m m' s/\verdict l m p=verdict l m' q
 | .err e q=>Fails l m p e q
theorem Y5(b:Nat):zX (b:Int)<=15:=by
 unfold zX;repeat' split
 all_goals omega
theorem dK(l:List UInt8)(p:Nat)(h:0<=zX (zk l p)):p<l.length:=by
 apply qC;intro e;rw[e] at h;exact absurd h (by decide)
theorem ic(l:List UInt8)(m:zA)(p:Nat)(e:p<=l.length)(d:m.state=9)(lo hi:Nat)(c:m.low=lo)(b:m.high=hi)(f:0<lo) :
  (within l lo hi p=false->Fails l m p 2 p) /\
  (within l lo hi p=true->p<l.length/\verdict l m p=verdict l { m with got:=m.got++one (zk l p),low:=128,high:=191,need:=m.need-1,state:=if m.need-1=0 then 8 else 9 } (p+1)):=by
 constructor
 ·intro h;refine ZM l m p e (.inl (by omega)) 2 (by decide) ?_ (λ_=>rfl);rw[iw m _ d,c,b,zb];unfold within at h;simp at h;omega
 ·intro h;unfold within at h;simp at h;have a:p<l.length:=qC l p (by omega);refine⟨a,yl l m _ p a ?_⟩;rw[iw m _ d,c,b,za (by omega)]
theorem Nl(b:Nat):qE (b:Int)=(0,0,0)\/(128<=b/\∃n lo hi:Nat,qE (b:Int)=((n:Int),(lo:Int),(hi:Int))/\0<lo/\(n=1\/n=2\/n=3)):=by
 unfold qE
 split
 ·exact .inr ⟨by omega,1,128,191,rfl,by omega,by omega⟩
 split
 ·exact .inr ⟨by omega,2,160,191,rfl,by omega,by omega⟩
 split
 ·exact .inr ⟨by omega,2,128,159,rfl,by omega,by omega⟩
 split
 ·exact .inr ⟨by omega,2,128,191,rfl,by omega,by omega⟩
 split
 ·exact .inr ⟨by omega,3,144,191,rfl,by omega,by omega⟩
 split
 ·exact .inr ⟨by omega,3,128,191,rfl,by omega,by omega⟩
 split
 ·exact .inr ⟨by omega,3,128,143,rfl,by omega,by omega⟩
 exact .inl rfl
theorem aP(a b c:BA):a++b++c=a++(b++c):=by
 apply uS;simp
theorem Tp(l:List UInt8)(m:zA)(p:Nat)(q:m.state=8)(hb:128<=zk l p):lD l m p (jY l p):=by
 have o:p<l.length:=qC l p (by omega)
 have d:Ref.step m (zk l p:Int)=if (qE (zk l p:Int)).1=0 then (2,m) else (0,{ m with need:=(qE (zk l p:Int)).1,low:=(qE (zk l p:Int)).2.1,high:=(qE (zk l p:Int)).2.2,got:=m.got++one (zk l p),state:=9 }):=by
  rw[KO m _ q];unfold plain;rw[za (by omega),za (by omega),za (by omega),za (by omega)]
 unfold jY
 rcases Nl (zk l p) with h0|⟨_,n,lo,hi,hr,hlo,hn⟩
 ·rw[h0] at d |-;simp only[qO];exact ZM l m p (by omega) (.inl (by omega)) 2 (by decide) (by rw[d];rfl) (λ_=>rfl)
 ·rw[hr] at d |-;simp only[Xv];rw[za (by omega)] at d |-;have g:=yl l m _ p o d;obtain⟨e,a⟩:∃e:zA,e={ m with need:=(n:Int),low:=(lo:Int),high:=(hi:Int),got:=m.got++one (zk l p),state:=9 }:=⟨_,rfl⟩
  rw[<- a] at g;have i:=ic l e (p+1) (by omega) (by rw[a]) lo hi (by rw[a]) (by rw[a]) hlo
  cases w1:within l lo hi (p+1) with
  | false=>rw[zb rfl];exact (i.1 w1).of_eq g
  | true=>
   rw[za (by decide)];obtain⟨r,v1⟩:=i.2 w1;have v1:=g.trans v1
   by_cases n1:n=1
   ·rw[zb (by omega)];refine⟨by omega,by omega,_,?_,v1⟩;subst n1;rw[a];exact⟨rfl,rfl,rfl,rfl,rfl,by simp only;rw[aP]⟩
   rw[za (by omega)];obtain⟨f,b⟩:∃f:zA,f={ e with got:=e.got++one (zk l (p+1)),low:=128,high:=191,need:=e.need-1,state:=if e.need-1=0 then 8 else 9 }:=⟨_,rfl⟩
   rw[<- b] at v1;have j:=ic l f (p+2) (by omega) (by rw[b];simp only;rw[za];rw[a];simp only;omega) 128 191 (by rw[b];rfl) (by rw[b];rfl) (by omega)
   cases w2:within l 128 191 (p+2) with
   | false=>rw[zb rfl];exact (j.1 w2).of_eq v1
   | true=>
    rw[za (by decide)];obtain⟨q2,v2⟩:=j.2 w2;have v2:=v1.trans v2
    by_cases n2:n=2
    ·rw[zb (by omega)];refine⟨by omega,by omega,_,?_,v2⟩;subst n2;rw[b,a];exact⟨rfl,rfl,rfl,rfl,rfl,by simp only[aP]⟩
    rw[za (by omega)];obtain rfl:n=3:=by omega
    obtain⟨h,c⟩:∃h:zA,h={ f with got:=f.got++one (zk l (p+2)),low:=128,high:=191,need:=f.need-1,state:=if f.need-1=0 then 8 else 9 }:=⟨_,rfl⟩
    rw[<- c] at v2;have k:=ic l h (p+3) (by omega) (by rw[c,b,a];rfl) 128 191 (by rw[c];rfl) (by rw[c];rfl) (by omega)
    cases w3:within l 128 191 (p+3) with
    | false=>rw[zb rfl];exact (k.1 w3).of_eq v2
    | true=>
     rw[za (by decide)];obtain⟨s,v3⟩:=k.2 w3;refine⟨by omega,by omega,_,?_,v2.trans v3⟩;rw[c,b,a];exact⟨rfl,rfl,rfl,rfl,rfl,by simp only[aP]⟩
theorem U0(l:List UInt8)(m:zA)(p:Nat)(f:p<=l.length)(g:m.state=11)(N k:Int)(d:m.number=N)(e:m.need=k)(bad:Prop)(hb:bad↔(zX (zk l p)<0\/(k=3/\216<=16*N+zX (zk l p)/\16*N+zX (zk l p)<=223))) :
  (bad->Fails l m p 2 p) /\
  (¬bad->k≠1->p<l.length/\verdict l m p=verdict l { m with number:=16*N+zX (zk l p),need:=k-1 } (p+1)) /\
  (¬bad->k=1->p<l.length/\verdict l m p=verdict l { m with number:=16*N+zX (zk l p),need:=k-1,got:=m.got++enc (16*N+zX (zk l p)),state:=8 } (p+1)):=by
 have b:Ref.step m (zk l p:Int)=digit m (zk l p:Int):=Wl m _ g;unfold digit at b;rw[d,e] at b;refine⟨λh=>?_,λh c=>?_,λh c=>?_⟩
 ·refine ZM l m p f (.inl (by omega)) 2 (by decide) ?_ (λ_=>rfl);rw[b]
  by_cases h1:zX (zk l p:Int)<0
  ·rw[zb h1]
  ·rw[za h1,zb (by have:=hb.1 h;omega)]
 ·rw[hb] at h;have a:p<l.length:=dK l p (by omega);refine⟨a,yl l m _ p a ?_⟩;rw[b,za (by omega),za (by omega),za (by omega)]
 ·rw[hb] at h;have a:p<l.length:=dK l p (by omega);refine⟨a,yl l m _ p a ?_⟩;rw[b,za (by omega),za (by omega),zb (by omega)]
theorem Ld(l:List UInt8)(m:zA)(p:Nat)(y:p<=l.length)(d:m.state=11)(x:m.number=0)(w:m.need=4) :
  match uB l p with
  | .ok s q=>p<q/\q<=l.length/\∃m',Within { m with state:=8 } m' s/\verdict l m p=verdict l m' q
  | .err e q=>Fails l m p e q:=by
 have z:=Y5 (zk l p);have hb:=Y5 (zk l (p+1));unfold uB;simp only;generalize i:zX (zk l p:Int)=A at *;have o:=U0 l m p y d 0 4 x w (A<0) (by rw[i];omega)
 by_cases c1:A<0
 ·rw[zb c1];exact o.1 c1
 rw[za c1];obtain⟨E,v1⟩:=o.2.1 c1 (by decide);rw[i] at v1;obtain⟨f,a⟩:∃f:zA,f={ m with number:=16*0+A,need:=4-1 }:=⟨_,rfl⟩
 rw[<- a] at v1;generalize j:zX (zk l (p+1):Int)=B at *;have r:=U0 l f (p+1) (by omega) (by rw[a];exact d) A 3 (by rw[a];simp) (by rw[a];rfl) (B<0\/(A=13/\8<=B)) (by rw[j];omega)
 by_cases c2:B<0\/(A=13/\8<=B)
 ·rw[zb c2];exact (r.1 c2).of_eq v1
 rw[za c2];obtain⟨q2,v2⟩:=r.2.1 c2 (by decide);rw[j] at v2;have v2:=v1.trans v2;obtain⟨g,b⟩:∃g:zA,g={ f with number:=16*A+B,need:=3-1 }:=⟨_,rfl⟩
 rw[<- b] at v2;generalize k:zX (zk l (p+2):Int)=C at *;have t:=U0 l g (p+2) (by omega) (by rw[b,a];exact d) (16*A+B) 2 (by rw[b]) (by rw[b];rfl) (C<0) (by rw[k];omega)
 by_cases c3:C<0
 ·rw[zb c3];exact (t.1 c3).of_eq v2
 rw[za c3];obtain⟨F,v3⟩:=t.2.1 c3 (by decide);rw[k] at v3;have v3:=v2.trans v3;obtain⟨h,c⟩:∃h:zA,h={ g with number:=16*(16*A+B)+C,need:=2-1 }:=⟨_,rfl⟩
 rw[<- c] at v3;generalize n:zX (zk l (p+3):Int)=D at *;have u:=U0 l h (p+3) (by omega) (by rw[c,b,a];exact d) (16*(16*A+B)+C) 1 (by rw[c]) (by rw[c];rfl) (D<0) (by rw[n];omega)
 by_cases c4:D<0
 ·rw[zb c4];exact (u.1 c4).of_eq v3
 rw[za c4];obtain⟨G,v⟩:=u.2.2 c4 rfl;rw[n] at v;refine⟨by omega,by omega,_,?_,v3.trans v⟩;rw[c,b,a];refine⟨rfl,rfl,rfl,rfl,rfl,?_⟩;simp only;have e:16*(16*(16*A+B)+C)+D=((A*16+B)*16+C)*16+D:=by omega
 rw[e]
theorem Ip(l:List UInt8)(m:zA)(p:Nat)(i:p<=l.length)(j:m.state=10) :
  match vG l p with
  | .ok s q=>p<q/\q<=l.length/\∃m',Within { m with state:=8 } m' s/\verdict l m p=verdict l m' q
  | .err e q=>Fails l m p e q:=by
 have a:Ref.step m (zk l p:Int)=escape m (zk l p:Int):=Wj m _ j;unfold escape at a;unfold vG;simp only;generalize hb:zk l p=b at *
 by_cases c1:b=34\/b=92\/b=47
 ·rw[zb c1];rw[zb (by omega)] at a;have c:p<l.length:=qC l p (by rw[hb];omega);have v:=yl l m _ p c (by rw[hb];exact a);refine⟨by omega,by omega,_,?_,v⟩;exact⟨rfl,rfl,rfl,rfl,rfl,rfl⟩
 rw[za c1];rw[za (by omega)] at a
 by_cases c2:b=110
 ·rw[zb c2];rw[zb (by omega)] at a;have c:p<l.length:=qC l p (by rw[hb];omega);have v:=yl l m _ p c (by rw[hb];exact a);refine⟨by omega,by omega,_,?_,v⟩;exact⟨rfl,rfl,rfl,rfl,rfl,rfl⟩
 rw[za c2];rw[za (by omega)] at a
 by_cases c3:b=116
 ·rw[zb c3];rw[zb (by omega)] at a;have c:p<l.length:=qC l p (by rw[hb];omega);have v:=yl l m _ p c (by rw[hb];exact a);refine⟨by omega,by omega,_,?_,v⟩;exact⟨rfl,rfl,rfl,rfl,rfl,rfl⟩
 rw[za c3];rw[za (by omega)] at a
 by_cases c4:b=117
 ·rw[zb c4];rw[zb (by omega)] at a;have c:p<l.length:=qC l p (by rw[hb];omega);have v:=yl l m _ p c (by rw[hb];exact a);have f:=Ld l { m with state:=11,need:=4,number:=0 } (p+1) (by omega) rfl rfl rfl
  cases hf:uB l (p+1) with
  | ok s q=>
   rw[hf] at f;obtain⟨k,d,m',g,h⟩:=f;exact⟨by omega,d,m',g,v.trans h⟩
  | err e q=>
   rw[hf] at f;exact Fails.of_eq f v
 rw[za c4];rw[za (by omega)] at a;exact ZM l m p i (.inl (by omega)) 2 (by decide) (by rw[hb,a]) (λ_=>rfl)
theorem EX(l:List UInt8)(m:zA)(p:Nat)(i:p<=l.length)(c:m.state=8)(k:zk l p≠34):lD l m p (yE l p):=by
 have a:Ref.step m (zk l p:Int)=plain m (zk l p:Int):=KO m _ c;unfold plain at a;unfold yE;simp only
 by_cases c1:zk l p<32
 ·rw[zb c1];rw[za (by omega),za (by omega),zb (by omega)] at a;exact ZM l m p i (.inl (by omega)) 2 (by decide) (by rw[a]) (λ_=>rfl)
 rw[za c1];have b:p<l.length:=qC l p (by omega)
 by_cases c2:zk l p=92
 ·rw[zb c2];rw[za (by omega),zb (by omega)] at a;have v:=yl l m _ p b a;have f:=Ip l { m with state:=10 } (p+1) (by omega) rfl
  cases hf:vG l (p+1) with
  | ok s q=>
   rw[hf] at f;obtain⟨j,d,m',g,h⟩:=f;exact⟨by omega,d,m',g,v.trans h⟩
  | err e q=>
   rw[hf] at f;exact Fails.of_eq f v
 rw[za c2]
 by_cases c3:zk l p<128
 ·rw[zb c3];rw[za (by omega),za (by omega),za (by omega),zb (by omega)] at a;refine⟨by omega,by omega,_,?_,yl l m _ p b a⟩;exact⟨c,rfl,rfl,rfl,rfl,rfl⟩
 rw[za c3];exact Tp l m p c (by omega)
theorem zaZ(l:List UInt8)(m:zA)(p:Nat)(d:p<l.length)(e:Int)(a:e≠0)(b:(Ref.step m (zk l p:Int)).1=e):Fails l m p e p:=by
 have c:Ref.run m (l.drop p) p=(e,p,m):=by
  rw[ib l m p d,za (by rw[b];exact a),b]
 unfold Fails verdict;rw[c,zb a];exact⟨rfl,rfl⟩
def qV(l:List UInt8):Nat->Nat->BA->Res BA
 | 0,p,_ => .err 2 p
 | f+1,p,acc=>if zk l p=34 then .ok acc (p+1) else match yE l p with
  | .ok s q=>qV l f q (acc++s)
  | .err e q => .err e q
def vM(l:List UInt8)(p:Nat):Res BA:=qV l (l.length+1-p) p ⟨#[]⟩
def lI(m m':zA)(s:BA):Prop:=m'.state=8/\m'.opn=m.opn/\m'.nodes=m.nodes/\m'.named=m.named/\m'.root=m.root/\m'.got=s
theorem WV(l:List UInt8)(f:Nat)(m:zA)(p:Nat)(acc:BA)(n:p<=l.length)(I:l.length<p+f)(c:m.state=8)(b:m.got=acc) :
  match qV l f p acc with
  | .ok s q=>p<q/\q<=l.length/\zk l (q-1)=34/\∃m',lI m m' s/\verdict l m p=verdict l m' (q-1)
  | .err e q=>Fails l m p e q:=by
 induction f generalizing m p acc with
 | zero=>omega
 | succ f o=>
  rw[qV]
  by_cases h34:zk l p=34
  ·rw[zb h34];have k:=qC l p (by omega);exact⟨by omega,by omega,by simpa using h34,m,⟨c,rfl,rfl,rfl,rfl,b⟩,by simp⟩
  rw[za h34];have a:=EX l m p n c h34
  cases hm:yE l p with
  | err e q=>rw[hm] at a;exact a
  | ok s q=>
   rw[hm] at a;obtain⟨H,j,y,⟨A,B,C,D,E,F⟩,d⟩:=a;have hi:=o y q (acc++s) j (by omega) A (by rw[F,b]);simp only
   cases hr:qV l f q (acc++s) with
   | err e z=>rw[hr] at hi;exact Fails.of_eq hi d
   | ok J z=>
    rw[hr] at hi;obtain⟨G,g,h,m',⟨r,t,u,v,w,x⟩,i⟩:=hi;exact⟨by omega,g,h,m',⟨r,by rw[t,B],by rw[u,C],by rw[v,D],by rw[w,E],x⟩,d.trans i⟩
theorem iA(l:List UInt8)(m:zA)(p:Nat)(b:p<=l.length)(c:m.state=8)(a:m.got=⟨#[]⟩) :
  match vM l p with
  | .ok s q=>p<q/\q<=l.length/\zk l (q-1)=34/\∃m',lI m m' s/\verdict l m p=verdict l m' (q-1)
  | .err e q=>Fails l m p e q:=WV l _ m p ⟨#[]⟩ b (by omega) c a
inductive V where
 | str (s:BA)
 | word (b:Bool)
 | list (l:List V)
 | obj (l:List (BA×V))
inductive Rep (ns:List Ref.Node):Nat->V->Prop
 | str (i:Nat) (n:Ref.Node) (s:BA):ns[i]?=some n->n.kind=3->n.text=s->n.kids=[]->n.names=[]->Rep ns i (.str s)
 | word (i:Nat) (n:Ref.Node) (b:Bool):ns[i]?=some n->n.kind=(if b then 4 else 5)->n.kids=[]->n.names=[]->Rep ns i (.word b)
 | list (i:Nat) (n:Ref.Node) (vs:List V):ns[i]?=some n->n.kind=2->n.names=[]->n.kids.length=vs.length ->
   (∀k ∈ n.kids,i<k)->(∀(j k:Nat) (v:V),n.kids[j]?=some k->vs[j]?=some v->Rep ns k v)->Rep ns i (.list vs)
 | obj (i:Nat) (n:Ref.Node) (ms:List (BA×V)):ns[i]?=some n->n.kind=1->n.names=ms.map Prod.fst->n.kids.length=ms.length ->
   (∀k ∈ n.kids,i<k)->(∀(j k:Nat) (x:BA×V),n.kids[j]?=some k->ms[j]?=some x->Rep ns k x.2)->Rep ns i (.obj ms)
theorem Rep.more{t o:List Ref.Node}{i:Nat}{v:V}(h:Rep t i v)(l:∀(j:Nat) (n:Ref.Node),i<=j->t[j]?=some n->o[j]?=some n):Rep o i v:=by
 induction h with
 | str i n s a c d e f=>exact .str i n s (l i n (ze _) a) c d e f
 | word i n b a c d e=>exact .word i n b (l i n (ze _) a) c d e
 | list i n z a c d e f _ p=>
  exact .list i n z (l i n (ze _) a) c d e f (λj k v m w=>p j k v m w (λq r u g=>l q r (by have:=f k (Qm m);omega) g))
 | obj i n ms a c d e f _ p=>
  exact .obj i n ms (l i n (ze _) a) c d e f (λj k x m y=>p j k x m y (λq r u g=>l q r (by have:=f k (Qm m);omega) g))
def base(m:zA):List Ref.Node:=if m.opn=[] then m.nodes else Yf (m.opn.getLastD 0) m.nodes.length m.nodes
structure XF (m m':zA) (v:V):Prop where
 state:m'.state=6
 opn:m'.opn=m.opn
 old:m'.nodes.take m.nodes.length=base m
 rep:Rep m'.nodes m.nodes.length v
 root:m'.root=if m.opn=[] then (m.nodes.length:Int) else m.root
theorem UN(m:zA):(base m).length=m.nodes.length:=by
 unfold base;split
 ·rfl
 ·simp[Yf]
def JB(m:zA):Prop:=∀o ∈ m.opn,o<m.nodes.length
theorem Nh(l:List Nat)(h:l≠[]):l.getLastD 0 ∈ l:=by
 cases l with
 | nil=>exact absurd rfl h
 | cons a r=>rw[List.getLastD_eq_getLast?,List.getLast?_eq_some_getLast (by simp)];exact List.getLast_mem _
theorem Kg(m:zA)(n:Ref.Node)(b:JB m):(lay m n).nodes=base m++[n]:=by
 unfold lay base
 by_cases h:m.opn=[]
 ·rw[zb h,zb h]
 ·rw[za h,za h];have a:=b _ (Nh m.opn h);generalize m.opn.getLastD 0=t at a |-;unfold Yf;simp only;apply ah;intro i;rw[Vz]
  by_cases hi:i<m.nodes.length
  ·rw[kR hi,kR (by simpa using hi),Vz]
  ·rw[ZR (by omega),ZR (by simp;omega)]
   have:¬t=i:=by omega
   simp[this]
theorem sw(m:zA)(n:Ref.Node):(lay m n).root=if m.opn=[] then (m.nodes.length:Int) else m.root:=by
 unfold lay;split<;>rfl
theorem BZ(m m':zA)(n:Ref.Node)(v:V)(d:JB m)(b:m'.state=6)(a:m'.opn=m.opn)(c:m'.nodes=(lay m n).nodes)(e:m'.root=(lay m n).root)(f:Rep m'.nodes m.nodes.length v):XF m m' v:=by
 refine⟨b,a,?_,f,by rw[e,sw]⟩;rw[c,Kg m n d,<- UN m,aB]
theorem fG(m:zA)(n:Ref.Node)(a:JB m):(lay m n).nodes[m.nodes.length]?=some n:=by
 rw[Kg m n a,<- UN m];simp
structure xq (m0 m:zA) (kind:Int) (names:List BA) (vs:List V):Prop where
 opn:m.opn=m0.opn++[m0.nodes.length]
 old:m.nodes.take m0.nodes.length=base m0
 node:∃n:Ref.Node,m.nodes[m0.nodes.length]?=some n/\n.kind=kind/\n.names=names/\n.kids.length=vs.length/\(∀c ∈ n.kids,m0.nodes.length<c)/\∀(j c:Nat) (v:V),n.kids[j]?=some c->vs[j]?=some v->Rep m.nodes c v
 root:m.root=if m0.opn=[] then (m0.nodes.length:Int) else m0.root
 opens:JB m
theorem xq.like{c m m':zA}{kind:Int}{names:List BA}{d:List V}(h:xq c m kind names d)(b:m'.opn=m.opn)(a:m'.nodes=m.nodes)(i:m'.root=m.root):xq c m' kind names d:=by
 refine⟨by rw[b];exact h.opn,by rw[a];exact h.old,?_,by rw[i];exact h.root,λo g=>by rw[a];exact h.opens o (by rw[<- b];exact g)⟩;obtain⟨n,e,f⟩:=h.node;exact⟨n,by rw[a];exact e,by rw[a];exact f⟩
theorem xq.top{a m:zA}{kind:Int}{names:List BA}{b:List V}(h:xq a m kind names b):m.opn.getLastD 0=a.nodes.length:=by
 rw[h.opn,List.getLastD_eq_getLast?];simp
theorem xq.ne{a m:zA}{kind:Int}{names:List BA}{b:List V}(h:xq a m kind names b):m.opn≠[]:=by
 rw[h.opn];simp
theorem xq.kindTop{c m:zA}{kind:Int}{names:List BA}{d:List V}(h:xq c m kind names d):KX m=kind:=by
 obtain⟨n,a,b,_⟩:=h.node;unfold KX;rw[h.top,a];exact b
theorem xq.namesTop{c m:zA}{kind:Int}{names:List BA}{d:List V}(h:xq c m kind names d):iU m=names:=by
 obtain⟨n,a,_,b,_⟩:=h.node;unfold iU;rw[h.top,a];exact b
theorem xq.lt{a m:zA}{kind:Int}{names:List BA}{c:List V}(h:xq a m kind names c):a.nodes.length<m.nodes.length:=by
 obtain⟨n,b,_⟩:=h.node;exact (xw.1 b).1
theorem tX(a m:zA)(n:Ref.Node)(d:JB a)(b:m.opn=a.opn++[a.nodes.length])(e:m.nodes=(lay a n).nodes)(i:m.root=(lay a n).root)(f:n.kids=[]):xq a m n.kind n.names []:=by
 refine⟨b,?_,⟨n,by rw[e];exact fG a n d,rfl,rfl,by rw[f];rfl,by rw[f];simp,λj c v _ k=>by simp at k⟩,by rw[i,sw],?_⟩
 ·rw[e,Kg a n d,<- UN a,aB]
 ·intro o g;rw[e,Kg a n d,qL,UN];rw[b] at g
  rcases ZT.1 g with h|h
  ·have:=d o h;simp;omega
  ·simp at h;subst h;simp
theorem zau{l a:List Ref.Node}{k:Nat}(h:a.take k=l)(i:Nat)(hi:i<k):a[i]?=l[i]?:=by
 rw[<- h,Qk,zb hi]
theorem XF.len{m m':zA}{v:V}(h:XF m m' v):m.nodes.length<m'.nodes.length:=by
 have:∃n,m'.nodes[m.nodes.length]?=some n:=by
  cases h.rep with
  | str i n s a=>exact⟨n,a⟩
  | word i n b a=>exact⟨n,a⟩
  | list i n d a=>exact⟨n,a⟩
  | obj i n ms a=>exact⟨n,a⟩
 obtain⟨n,c⟩:=this;exact (xw.1 c).1
theorem tY{d m m':zA}{kind:Int}{names:List BA}{x:List V}{v:V}(h:xq d m kind names x)(l:XF m m' v):xq d m' kind names (x++[v]):=by
 have p:=h.lt;have hlen:=l.len;have g:base m=Yf d.nodes.length m.nodes.length m.nodes:=by unfold base;rw[za h.ne,h.top]
 have f:∀i,i<m.nodes.length->m'.nodes[i]?=(Yf d.nodes.length m.nodes.length m.nodes)[i]?:=λi hi=>by
  rw[<- g];exact zau l.old i hi
 have a:∀i,i<m.nodes.length->i≠d.nodes.length->m'.nodes[i]?=m.nodes[i]?:=λi hi u=>by
  rw[f i hi];unfold Yf;rw[Vz]
  have:¬d.nodes.length=i:=λe=>u e.symm
  simp[this]
 obtain⟨n,C,D,E,F,A,G⟩:=h.node
 have H:m'.nodes[d.nodes.length]?=some { n with kids:=n.kids++[m.nodes.length] }:=by
  rw[f _ p];unfold Yf;rw[Vz,C]
  simp
 have k:∀c w,d.nodes.length<c->Rep m.nodes c w->Rep m'.nodes c w:=λc w b I=>I.more λj J s q=>by
  have t:=(xw.1 q).1;rw[a j t (by omega)];exact q
 refine⟨by rw[l.opn];exact h.opn,?_,⟨_,H,D,E,by simp[F],?_,?_⟩,by rw[l.root,za h.ne];exact h.root,?_⟩
 ·rw[<- h.old];apply ah;intro i;rw[Qk,Qk]
  by_cases hi:i<d.nodes.length
  ·rw[zb hi,zb hi,a i (by omega) (by omega)]
  ·rw[za hi,za hi]
 ·intro c b
  rcases ZT.1 b with h|h
  ·exact A c h
  ·simp at h;subst h;exact p
 ·intro j c w b r;simp only at b;rw[List.getElem?_append] at b r
  by_cases s:j<x.length
  ·rw[zb (by omega)] at b;rw[zb s] at r;exact k c w (A c (Qm b)) (G j c w b r)
  ·rw[za (by omega)] at b;rw[za s] at r;have y:=Qm b;have z:=Qm r;simp at y z;subst y;subst z;exact l.rep
 ·intro o B;rw[l.opn] at B
  have:=h.opens o B
  omega
theorem OG{b m m':zA}{names:List BA}{r:List V}{s:BA}(h:xq b m 1 names r)(q:m'.opn=m.opn)(d:m'.nodes=YW b.nodes.length s m.nodes)(C:m'.root=m.root):xq b m' 1 (names++[s]) r:=by
 have B:=h.lt
 have a:∀i,i≠b.nodes.length->m'.nodes[i]?=m.nodes[i]?:=λi g=>by
  rw[d];unfold YW;rw[Vz]
  have:¬b.nodes.length=i:=λe=>g e.symm
  simp[this]
 obtain⟨n,t,u,v,x,k,y⟩:=h.node
 have A:m'.nodes[b.nodes.length]?=some { n with names:=n.names++[s] }:=by
  rw[d];unfold YW;rw[Vz,t]
  simp
 refine⟨by rw[q];exact h.opn,?_,⟨_,A,u,by simp[v],x,k,?_⟩,by rw[C];exact h.root,?_⟩
 ·rw[<- h.old];apply ah;intro i;rw[Qk,Qk]
  by_cases hi:i<b.nodes.length
  ·rw[zb hi,zb hi,a i (by omega)]
  ·rw[za hi,za hi]
 ·intro j c w l D;have z:=k c (Qm l);exact (y j c w l D).more λi E hi f=>by rw[a i (by omega)];exact f
 ·intro o p;rw[q] at p
  have:=h.opens o p
  rw[d];simpa [YW] using this
theorem Ca{d m m':zA}{b:List V}(h:xq d m 2 [] b)(k:m'.state=6)(l:m'.opn=m.opn.dropLast)(c:m'.nodes=m.nodes)(o:m'.root=m.root):XF d m' (.list b):=by
 obtain⟨n,e,f,g,i,j,a⟩:=h.node;refine⟨k,by rw[l,h.opn];simp,by rw[c];exact h.old,?_,by rw[o];exact h.root⟩;rw[c];exact .list _ n b e f g i j a
theorem Cb{c m m':zA}{ms:List (BA×V)}(h:xq c m 1 (ms.map Prod.fst) (ms.map Prod.snd))(l:m'.state=6)(p:m'.opn=m.opn.dropLast)(b:m'.nodes=m.nodes)(q:m'.root=m.root):XF c m' (.obj ms):=by
 obtain⟨n,d,e,f,g,i,a⟩:=h.node;refine⟨l,by rw[p,h.opn];simp,by rw[b];exact h.old,?_,by rw[q];exact h.root⟩;rw[b];refine .obj _ n ms d e f (by rw[g,qg]) i (λj k x o r=>a j k x.2 o ?_);rw[vv,r];rfl
def qj(l:List UInt8):List Nat->Nat->Res Unit
 | [],p => .ok () p
 | b::r,p=>if zk l p=b then qj l r (p+1) else .err 2 p
mutual
def qo(l:List UInt8):Nat->Nat->Nat->Res V
 | 0,_,p => .err 2 p
 | f+1,d,p=>
  if zk l p=123 then (if 8<d then .err 3 p else if zk l (skip l (p+1))=125 then .ok (.obj []) (skip l (p+1)+1) else uI l f d (skip l (p+1)) [])
  else if zk l p=91 then (if 8<d then .err 3 p else if zk l (skip l (p+1))=93 then .ok (.list []) (skip l (p+1)+1) else uH l f d (skip l (p+1)) [])
  else if zk l p=34 then (match vM l (p+1) with
   | .ok s q => .ok (.str s) q
   | .err e q => .err e q)
  else if zk l p=116 then (match qj l [114,117,101] (p+1) with
   | .ok _ q => .ok (.word true) q
   | .err e q => .err e q)
  else if zk l p=102 then (match qj l [97,108,115,101] (p+1) with
   | .ok _ q => .ok (.word false) q
   | .err e q => .err e q)
  else .err 2 p
def uH(l:List UInt8):Nat->Nat->Nat->List V->Res V
 | 0,_,p,_ => .err 2 p
 | f+1,d,p,acc=>match qo l f (d+1) p with
  | .err e q => .err e q
  | .ok v q=>
   if zk l (skip l q)=44 then uH l f d (skip l (skip l q+1)) (acc++[v])
   else if zk l (skip l q)=93 then .ok (.list (acc++[v])) (skip l q+1)
   else .err 2 (skip l q)
def uI(l:List UInt8):Nat->Nat->Nat->List (BA×V)->Res V
 | 0,_,p,_ => .err 2 p
 | f+1,d,p,acc=>
  if zk l p≠34 then .err 2 p else match vM l (p+1) with
  | .err e q => .err e q
  | .ok s q=>
   if acc.any (λx=>x.1.toList==s.toList) then .err 4 (q-1)
   else if zk l (skip l q)≠58 then .err 2 (skip l q)
   else match qo l f (d+1) (skip l (skip l q+1)) with
   | .err e a => .err e a
   | .ok v a=>
    if zk l (skip l a)=44 then uI l f d (skip l (skip l a+1)) (acc++[(s,v)])
    else if zk l (skip l a)=125 then .ok (.obj (acc++[(s,v)])) (skip l a+1)
    else .err 2 (skip l a)
end
def YV(l:List UInt8)(a m:zA)(p:Nat)(r:Res V):Prop:=match r with
 | .ok v q=>p<q/\q<=l.length/\∃m',XF a m' v/\verdict l m p=verdict l m' q
 | .err e q=>Fails l m p e q
theorem YV.of_eq{l:List UInt8}{c m m':zA}{p a:Nat}{r:Res V}(h:YV l c m' a r)(k:p<=a)(b:verdict l m p=verdict l m' a):YV l c m p r:=by
 cases r with
 | ok v q=>
  obtain⟨j,d,i,f,g⟩:=h;exact⟨by omega,d,i,f,b.trans g⟩
 | err e q=>exact Fails.of_eq h b
theorem za5(l:List UInt8)(r:List Nat)(m:zA)(p:Nat)(B:p<=l.length)(C:r≠[])(D:m.state=7)(d:m.word.data.toList.map UInt8.toNat=r)(j:∀b ∈ r,b≠0) :
  match qj l r p with
  | .ok _ q=>p<q/\q<=l.length/\∃m':zA,m'.state=6/\m'.opn=m.opn/\m'.nodes=m.nodes/\m'.root=m.root/\verdict l m p=verdict l m' q
  | .err e q=>Fails l m p e q:=by
 induction r generalizing m p with
 | nil=>exact absurd rfl C
 | cons b r E=>
  have a:=Wm m (zk l p:Int) D
  have hlen:m.word.size=r.length+1:=by
   have:=congrArg List.length d
   rw[qg,zP] at this
   simpa using this
  have g:(m.word.data.toList.getD 0 0).toNat=b:=by
   cases hl:m.word.data.toList with
   | nil=>rw[hl] at d;simp at d
   | cons c t=>rw[hl] at d;simp at d;simpa using d.1
  rw[g] at a;rw[qj]
  by_cases hb:zk l p=b
  ·rw[zb hb];rw[za (by omega)] at a;have z:=j b (by simp);have h:=qC l p (by omega);have i:=yl l m _ p h a
   by_cases hr0:r=[]
   ·subst hr0;rw[qj];refine⟨by omega,by omega,_,?_,?_,?_,?_,i⟩
    ·simp only;rw[zb (by rw[hlen];rfl)]
    ·rfl
    ·rfl
    ·rfl
   ·have A:¬m.word.size=1:=by rw[hlen];cases r with|nil=>exact absurd rfl hr0|cons _ _=>simp
    have hi:=E { m with word:=m.word.extract 1 m.word.size,state:=if m.word.size=1 then 6 else 7 } (p+1) (by omega) hr0 (by simp only;rw[za A])
     (by
       simp only
       have e:(m.word.extract 1 m.word.size).data.toList=m.word.data.toList.drop 1:=by
        have y:m.word.data.toList.length=m.word.size:=zP _;simp only[Jn,Uu,ai];rw[ZU (by simp[y])]
       rw[e,List.map_drop,d];rfl)
     (λk f=>j k (by simp[f]))
    cases hw2:qj l r (p+1) with
    | ok u q=>
     rw[hw2] at hi;obtain⟨F,n,m',o,s,v,w,x⟩:=hi;exact⟨by omega,n,m',o,s,v,w,i.trans x⟩
    | err e q=>rw[hw2] at hi;exact Fails.of_eq hi i
  ·rw[za hb];rw[zb (by omega)] at a;exact ZM l m p B (.inl (by omega)) 2 (by decide) (by rw[a]) (λ_=>rfl)
theorem Wn(m:zA)(b:Nat)(h:m.state=1\/m.state=2)(hb:blank b=false)(a:¬(m.state=2/\b=93)):Ref.step m (b:Int)=UO m (b:Int):=by
 rw[Uh m _ (by omega),VL,hb,za (by decide),za (by omega),za (by omega),za (by omega)]
theorem iy(m:zA)(b:Nat)(h:m.state=6\/m.state=5)(hb:blank b=false):Ref.step m (b:Int)=after m (b:Int):=by
 rw[Uh m _ (by omega),VL,hb,za (by decide),zb h]
theorem Wt(m:zA)(b:Nat)(h:m.state=3\/m.state=4)(hb:blank b=false)(a:¬(m.state=3/\b=125)):Ref.step m (b:Int)=if (b:Int)≠34 then (2,m) else (0,{ m with state:=8,named:=true,got:=⟨#[]⟩ }):=by
 rw[Uh m _ (by omega),VL,hb,za (by decide),za (by omega),za (by omega),zb h]
theorem step_end(m:zA)(b:Nat)(h:(m.state=2/\b=93)\/(m.state=3/\b=125)):Ref.step m (b:Int)=Zd m (b:Int):=by
 rw[Uh m _ (by omega),VL]
 have hb:blank b=false:=by
  rcases h with ⟨_,rfl⟩|⟨_,rfl⟩<;>decide
 rw[hb,za (by decide),za (by omega),zb (by omega)]
theorem oL{a m:zA}{b:List V}(h:xq a m 2 [] b):Zd m 93=(0,{ m with opn:=m.opn.dropLast,state:=6 }):=by
 unfold Zd;rw[za h.ne,h.kindTop];rfl
theorem oM{a m:zA}{names:List BA}{b:List V}(h:xq a m 1 names b):Zd m 125=(0,{ m with opn:=m.opn.dropLast,state:=6 }):=by
 unfold Zd;rw[za h.ne,h.kindTop];rfl
theorem Nw(l:List UInt8){f m:zA}{g:List V}(h:xq f m 2 [] g)(j:m.state=6)(p:Nat)(k:p<=l.length) :
  (zk l (skip l p)=44->∃m',m'.state=1/\xq f m' 2 [] g/\skip l p<l.length/\verdict l m p=verdict l m' (skip l (skip l p+1))) /\
  (zk l (skip l p)=93->∃m',XF f m' (.list g)/\skip l p<l.length/\verdict l m p=verdict l m' (skip l p+1)) /\
  (zk l (skip l p)≠44->zk l (skip l p)≠93->Fails l m p 2 (skip l p)):=by
 have d:=YE l m (by omega) p;have hle:=uQ l p k;have a:=iy m (zk l (skip l p)) (.inl j) (ZJ l p);unfold after at a;rw[za (by omega),za (by rintro (h|i);omega;exact h.ne i)] at a;refine⟨λhb=>?_,λhb=>?_,λn o=>?_⟩
 ·rw[za (by omega),za (by omega),h.kindTop,za (by decide)] at a;have b:=qC l (skip l p) (by omega);have c:=yl l m _ (skip l p) b a;refine⟨{ m with state:=1 },rfl,h.like rfl rfl rfl,b,(d.trans c).trans (YE l _ (show (1:Int)<7 by decide) _)⟩
 ·rw[zb (by omega),hb] at a;have b:=qC l (skip l p) (by omega);have e:Zd m ((93:Nat):Int)=_:=oL h;rw[e] at a;have c:=yl l m _ (skip l p) b (by rw[hb];exact a);refine⟨_,?_,b,d.trans c⟩;exact Ca h rfl rfl rfl rfl
 ·refine Fails.of_eq (ZM l m (skip l p) hle (.inr h.ne) 2 (by decide) ?_ (λ_=>rfl)) d;rw[a]
  by_cases h3:(zk l (skip l p):Int)=125\/(zk l (skip l p):Int)=93
  ·rw[zb h3];unfold Zd;rw[za h.ne,h.kindTop,zb];have e:(zk l (skip l p):Int)=125:=by omega
   rw[e];decide
  ·rw[za h3,zb (by omega)]
theorem OQ(l:List UInt8){f m:zA}{ms:List (BA×V)}(h:xq f m 1 (ms.map Prod.fst) (ms.map Prod.snd))(i:m.state=6)(p:Nat)(j:p<=l.length) :
  (zk l (skip l p)=44->∃m',m'.state=4/\xq f m' 1 (ms.map Prod.fst) (ms.map Prod.snd)/\skip l p<l.length/\verdict l m p=verdict l m' (skip l (skip l p+1))) /\
  (zk l (skip l p)=125->∃m',XF f m' (.obj ms)/\skip l p<l.length/\verdict l m p=verdict l m' (skip l p+1)) /\
  (zk l (skip l p)≠44->zk l (skip l p)≠125->Fails l m p 2 (skip l p)):=by
 have d:=YE l m (by omega) p;have hle:=uQ l p j;have a:=iy m (zk l (skip l p)) (.inl i) (ZJ l p);unfold after at a;rw[za (by omega),za (by rintro (h|g);omega;exact h.ne g)] at a;refine⟨λhb=>?_,λhb=>?_,λk n=>?_⟩
 ·rw[za (by omega),za (by omega),h.kindTop,zb rfl] at a;have b:=qC l (skip l p) (by omega);have c:=yl l m _ (skip l p) b a;refine⟨{ m with state:=4 },rfl,h.like rfl rfl rfl,b,(d.trans c).trans (YE l _ (show (4:Int)<7 by decide) _)⟩
 ·rw[zb (by omega),hb] at a;have b:=qC l (skip l p) (by omega);have e:Zd m ((125:Nat):Int)=_:=oM h;rw[e] at a;have c:=yl l m _ (skip l p) b (by rw[hb];exact a);refine⟨_,?_,b,d.trans c⟩;exact Cb h rfl rfl rfl rfl
 ·refine Fails.of_eq (ZM l m (skip l p) hle (.inr h.ne) 2 (by decide) ?_ (λ_=>rfl)) d;rw[a]
  by_cases h3:(zk l (skip l p):Int)=125\/(zk l (skip l p):Int)=93
  ·rw[zb h3];unfold Zd;rw[za h.ne,h.kindTop,zb];have e:(zk l (skip l p):Int)=93:=by omega
   rw[e];decide
  ·rw[za h3,zb (by omega)]
def AV(l:List UInt8)(f:Nat):Prop:=∀(m:zA) (d p:Nat),(m.state=1\/m.state=2)->JB m->m.opn.length+1=d->p<=l.length->blank (zk l p)=false->¬(m.state=2/\zk l p=93)->2*(l.length-p)<f ->
 YV l m m p (qo l f d p)
def AL(l:List UInt8)(f:Nat):Prop:=∀(a m:zA) (d p:Nat) (acc:List V),xq a m 2 [] acc->(m.state=1\/m.state=2)->a.opn.length+1=d->p<=l.length->blank (zk l p)=false->¬(m.state=2/\zk l p=93)->2*(l.length-p)+1<f ->
 YV l a m p (uH l f d p acc)
def AO(l:List UInt8)(f:Nat):Prop:=∀(a m:zA) (d p:Nat) (acc:List (BA×V)),xq a m 1 (acc.map Prod.fst) (acc.map Prod.snd)->(m.state=3\/m.state=4)->a.opn.length+1=d->p<=l.length->blank (zk l p)=false->¬(m.state=3/\zk l p=125)->2*(l.length-p)+1<f ->
 YV l a m p (uI l f d p acc)
theorem VY(m a:zA)(b:a.opn=m.opn)(c:a.nodes=m.nodes)(d:a.root=m.root)(n:Ref.Node):(lay a n).nodes=(lay m n).nodes/\(lay a n).root=(lay m n).root:=by
 unfold lay;rw[b,c]
 by_cases hE:m.opn=[]
 ·rw[zb hE,zb hE];exact⟨rfl,rfl⟩
 ·rw[za hE,za hE];exact⟨rfl,d⟩
theorem ND(l:List UInt8)(f:Nat)(y:AV l f)(x:AL l f):AL l (f+1):=by
 intro C m d p acc o A hd z hb j H;have a:m.opn.length+1=d+1:=by rw[o.opn,qL];simp;omega
 have c:=y m (d+1) p A o.opens a z hb j (by omega);rw[uH]
 cases hr:qo l f (d+1) p with
 | err e q=>rw[hr] at c;exact c
 | ok v q=>
  rw[hr] at c;obtain⟨G,w,I,u,k⟩:=c;have r:=tY o u;obtain⟨g,h,i⟩:=Nw l r u.state q w;simp only;have B:=je l q
  by_cases c1:zk l (skip l q)=44
  ·rw[zb c1];obtain⟨s,E,D,n,v2⟩:=g c1;clear g h i;have t:=je l (skip l q+1);have b:=uQ l (skip l q+1) (by omega)
   have:=x C s d (skip l (skip l q+1)) (acc++[v]) D (.inl E) hd b (ZJ l _) (by omega) (by omega)
   exact this.of_eq (by omega) (k.trans v2)
  rw[za c1]
  by_cases c2:zk l (skip l q)=93
  ·rw[zb c2];obtain⟨s,F,n,v2⟩:=h c2;clear g h i;exact⟨by omega,by omega,s,F,k.trans v2⟩
  rw[za c2];exact Fails.of_eq (i c1 c2) k
theorem OV(l:List UInt8)(f:Nat)(hV:AV l f)(hO:AO l f):AO l (f+1):=by
 intro J m d p acc X hs hd hp hb B hf;rw[uI];have n:=Wt m (zk l p) hs hb B
 by_cases c0:zk l p=34
 ·rw[za (by simpa using c0)];rw[za (by omega)] at n;have O:=qC l p (by omega);have S:=yl l m _ p O n;have g:=iA l { m with state:=8,named:=true,got:=⟨#[]⟩ } (p+1) (by omega) rfl rfl
  cases hr:vM l (p+1) with
  | err e q=>rw[hr] at g;exact Fails.of_eq g S
  | ok s q=>
   rw[hr] at g;obtain⟨h1,h2,h3,a,⟨k1,k2,k3,k4,k5,k6⟩,W⟩:=g;simp only;have r:xq J a 1 (acc.map Prod.fst) (acc.map Prod.snd):=X.like k2 k3 k5
   have c:Ref.step a (zk l (q-1):Int)=closed a:=by
    rw[KO a _ k1,h3];unfold plain;rw[zb (by decide)]
   have T:a.named=true:=k4
   have C:(acc.map Prod.fst).any (λx=>x.toList==a.got.toList)=acc.any (λx=>x.1.toList==s.toList):=by
    rw[k6,QV];rfl
   have N:closed a=if acc.any (λx=>x.1.toList==s.toList)=true then (4,a) else (0,{ a with nodes:=YW (a.opn.getLastD 0) a.got a.nodes,state:=5 }):=by
    unfold closed;rw[za (by rw[T];decide),r.namesTop,C]
   rw[N] at c
   by_cases c1:acc.any (λx=>x.1.toList==s.toList)=true
   ·rw[zb c1];rw[zb c1] at c;exact Fails.of_eq (zaZ l a (q-1) (by omega) 4 (by decide) (by rw[c])) (S.trans W)
   rw[za c1];rw[za c1] at c;have z:=yl l a _ (q-1) (by omega) c;rw[show q-1+1=q by omega] at z;obtain⟨j,k⟩:∃j:zA,j={ a with nodes:=YW (a.opn.getLastD 0) a.got a.nodes,state:=5 }:=⟨_,rfl⟩
   rw[<- k] at z
   have P:xq J j 1 (acc.map Prod.fst++[s]) (acc.map Prod.snd):=by
    have:=OG (s:=a.got) r (m':=j) (by rw[k]) (by rw[k];simp only;rw[r.top]) (by rw[k])
    rw[k6] at this;exact this
   have u:j.state=5:=by rw[k]
   have H:=((S.trans W).trans z).trans (YE l j (by omega) q);have b4:=je l q;have G:=uQ l q h2;have b:=iy j (zk l (skip l q)) (.inr u) (ZJ l q);unfold after at b
   by_cases c2:zk l (skip l q)=58
   ·rw[za (by simpa using c2)];rw[zb ⟨u,by omega⟩] at b;have D:=qC l (skip l q) (by omega);have I:=H.trans ((yl l j _ (skip l q) D b).trans (YE l _ (show (1:Int)<7 by decide) _));have t:xq J { j with state:=1 } 1 (acc.map Prod.fst++[s]) (acc.map Prod.snd):=P.like rfl rfl rfl
    have Y:=je l (skip l q+1);have w:=uQ l (skip l q+1) (by omega);have F:({ j with state:=1 }:zA).opn.length+1=d+1:=by rw[t.opn,qL];simp;omega
    have i:=hV { j with state:=1 } (d+1) (skip l (skip l q+1)) (.inl rfl) t.opens F w (ZJ l _) (λh=>absurd h.1 (show ¬(1:Int)=2 by decide)) (by omega)
    cases hr2:qo l f (d+1) (skip l (skip l q+1)) with
    | err e o=>rw[hr2] at i;exact Fails.of_eq i I
    | ok v o=>
     rw[hr2] at i;obtain⟨g1,g2,m4,ht,ge⟩:=i;have Q:=tY t ht;have R:xq J m4 1 ((acc++[(s,v)]).map Prod.fst) ((acc++[(s,v)]).map Prod.snd):=by simpa using Q
     obtain⟨K,L,M⟩:=OQ l R ht.state o g2;simp only;have Z:=je l o;have A:=I.trans ge
     by_cases c3:zk l (skip l o)=44
     ·rw[zb c3];obtain⟨U,s5,n5,E,V⟩:=K c3;clear K L M;have a0:=je l (skip l o+1);have y:=uQ l (skip l o+1) (by omega)
      have:=hO J U d (skip l (skip l o+1)) (acc++[(s,v)]) n5 (.inr s5) hd y (ZJ l _) (by omega) (by omega)
      exact this.of_eq (by omega) (A.trans V)
     rw[za c3]
     by_cases c4:zk l (skip l o)=125
     ·rw[zb c4];obtain⟨U,t5,E,V⟩:=L c4;clear K L M;exact⟨by omega,by omega,U,t5,A.trans V⟩
     rw[za c4];exact Fails.of_eq (M c3 c4) A
   ·rw[zb c2];rw[za (by omega),zb (.inl u)] at b;exact Fails.of_eq (ZM l j (skip l q) G (.inl (by omega)) 2 (by decide) (by rw[b]) (λ_=>rfl)) H
 ·rw[zb c0];rw[zb (by omega)] at n;exact ZM l m p hp (.inr X.ne) 2 (by decide) (by rw[n]) (λ_=>rfl)
theorem zaV(l:List UInt8)(f:Nat)(U:AL l f)(V:AO l f):AV l (f+1):=by
 intro m d p X F hd J hb H hf;rw[qo];have a:=Wn m (zk l p) X hb H;unfold UO at a;have v:Inc m := .inl (by omega)
 by_cases c1:zk l p=123
 ·rw[zb c1];rw[zb (by omega)] at a
  by_cases c2:8<d
  ·rw[zb c2];rw[zb (by omega)] at a;exact ZM l m p J v 3 (by decide) (by rw[a]) (λh=>by omega)
  rw[za c2];rw[za (by omega)] at a;simp only at a;rw[za (by omega),za (by omega)] at a;have n:=qC l p (by omega);have B:=yl l m _ p n a;obtain⟨c,g⟩:∃c:zA,c={ (lay { m with state:=3 } { kind:=1,text:=⟨#[]⟩,names:=[],kids:=[] }) with opn:=m.opn++[m.nodes.length] }:=⟨_,rfl⟩
  rw[<- g] at B;have o:xq m c 1 [] []:=tX m c { kind:=1,text:=⟨#[]⟩,names:=[],kids:=[] } F (by rw[g]) (by rw[g];exact (VY m { m with state:=3 } rfl rfl rfl _).1) (by rw[g];exact (VY m { m with state:=3 } rfl rfl rfl _).2) rfl
  have y:c.state=3:=by rw[g];exact sD _ _
  have k:=B.trans (YE l c (by omega) (p+1));have K:=je l (p+1);have z:=uQ l (p+1) (by omega)
  by_cases c3:zk l (skip l (p+1))=125
  ·rw[zb c3];have i:=step_end c (zk l (skip l (p+1))) (.inr ⟨y,c3⟩);rw[c3] at i;have e:Zd c ((125:Nat):Int)=_:=oM o;rw[e] at i;have x:=qC l (skip l (p+1)) (by omega);have D:=k.trans (yl l c _ (skip l (p+1)) x (by rw[c3];exact i));refine⟨by omega,by omega,_,?_,D⟩;exact Cb (ms:=[]) o rfl rfl rfl rfl
  rw[za c3]
  have:=V m c d (skip l (p+1)) [] o (.inl y) hd z (ZJ l _) (by omega) (by omega)
  exact this.of_eq (by omega) k
 rw[za c1]
 by_cases c2:zk l p=91
 ·rw[zb c2];rw[zb (by omega)] at a
  by_cases c3:8<d
  ·rw[zb c3];rw[zb (by omega)] at a;exact ZM l m p J v 3 (by decide) (by rw[a]) (λh=>by omega)
  rw[za c3];rw[za (by omega)] at a;simp only at a;rw[zb (by omega),zb (by omega)] at a;have n:=qC l p (by omega);have B:=yl l m _ p n a;obtain⟨c,g⟩:∃c:zA,c={ (lay { m with state:=2 } { kind:=2,text:=⟨#[]⟩,names:=[],kids:=[] }) with opn:=m.opn++[m.nodes.length] }:=⟨_,rfl⟩
  rw[<- g] at B;have o:xq m c 2 [] []:=tX m c { kind:=2,text:=⟨#[]⟩,names:=[],kids:=[] } F (by rw[g]) (by rw[g];exact (VY m { m with state:=2 } rfl rfl rfl _).1) (by rw[g];exact (VY m { m with state:=2 } rfl rfl rfl _).2) rfl
  have y:c.state=2:=by rw[g];exact sD _ _
  have k:=B.trans (YE l c (by omega) (p+1));have K:=je l (p+1);have z:=uQ l (p+1) (by omega)
  by_cases c4:zk l (skip l (p+1))=93
  ·rw[zb c4];have i:=step_end c (zk l (skip l (p+1))) (.inl ⟨y,c4⟩);rw[c4] at i;have e:Zd c ((93:Nat):Int)=_:=oL o;rw[e] at i;have x:=qC l (skip l (p+1)) (by omega);have D:=k.trans (yl l c _ (skip l (p+1)) x (by rw[c4];exact i));refine⟨by omega,by omega,_,?_,D⟩;exact Ca o rfl rfl rfl rfl
  rw[za c4]
  have:=U m c d (skip l (p+1)) [] o (.inr y) hd z (ZJ l _) (by omega) (by omega)
  exact this.of_eq (by omega) k
 rw[za c2];rw[za (by omega)] at a
 by_cases c3:zk l p=34
 ·rw[zb c3];rw[zb (by omega)] at a;have n:=qC l p (by omega);have B:=yl l m _ p n a;have t:=iA l { m with state:=8,named:=false,got:=⟨#[]⟩ } (p+1) (by omega) rfl rfl
  cases G:vM l (p+1) with
  | err e q=>rw[G] at t;exact Fails.of_eq t B
  | ok s q=>
   rw[G] at t;obtain⟨h1,S,T,c,⟨k1,M,k3,k4,k5,k6⟩,W⟩:=t;simp only
   have A:Ref.step c (zk l (q-1):Int)=closed c:=by
    rw[KO c _ k1,T];unfold plain;rw[zb (by decide)]
   unfold closed at A;rw[zb (by rw[k4])] at A;have k:=yl l c _ (q-1) (by omega) A;rw[show q-1+1=q by omega] at k;refine⟨by omega,S,_,?_,(B.trans W).trans k⟩;have I:=VY m c M k3 k5 { kind:=3,text:=c.got,names:=[],kids:=[] };refine BZ m _ { kind:=3,text:=c.got,names:=[],kids:=[] } _ F rfl ?_ I.1 I.2 ?_
   ·show (lay c _).opn=_;rw[su,M]
   ·show Rep (lay c _).nodes _ _;rw[I.1];exact .str _ _ s (fG m _ F) rfl k6 rfl rfl
 rw[za c3];rw[za (by omega)] at a
 have j:∀(E:Bool) (w:BA) (r:List Nat),r≠[]->w.data.toList.map UInt8.toNat=r->(∀b ∈ r,b≠0)->p<l.length ->
   Ref.step m (zk l p:Int)=(0,{ lay m { kind:=if E then 4 else 5,text:=⟨#[]⟩,names:=[],kids:=[] } with state:=7,word:=w }) ->
   YV l m m p (match qj l r (p+1) with | .ok _ q => .ok (.word E) q | .err e q => .err e q):=by
  intro E w r G Y Z n a;have B:=yl l m _ p n a;have C:=za5 l r { lay m { kind:=if E then 4 else 5,text:=⟨#[]⟩,names:=[],kids:=[] } with state:=7,word:=w } (p+1) (by omega) G rfl Y Z
  cases hr2:qj l r (p+1) with
  | err e q=>rw[hr2] at C;exact Fails.of_eq C B
  | ok u q=>
   rw[hr2] at C;obtain⟨g1,N,c,O,P,L,Q,R⟩:=C;refine⟨by omega,N,c,?_,B.trans R⟩;refine BZ m c { kind:=if E then 4 else 5,text:=⟨#[]⟩,names:=[],kids:=[] } _ F O (by rw[P];exact su _ _) L Q ?_
   rw[L];exact .word _ _ E (fG m _ F) rfl rfl rfl
 by_cases c4:zk l p=116
 ·rw[zb c4];rw[zb (by omega)] at a;exact j true ⟨#[114,117,101]⟩ [114,117,101] (by decide) (by decide) (by decide) (qC l p (by omega)) a
 rw[za c4];rw[za (by omega)] at a
 by_cases c5:zk l p=102
 ·rw[zb c5];rw[zb (by omega)] at a;exact j false ⟨#[97,108,115,101]⟩ [97,108,115,101] (by decide) (by decide) (by decide) (qC l p (by omega)) a
 rw[za c5];rw[za (by omega)] at a;exact ZM l m p J v 2 (by decide) (by rw[a]) (λ_=>rfl)
theorem Dp(l:List UInt8)(f:Nat):AV l f/\AL l f/\AO l f:=by
 induction f with
 | zero=>exact⟨λm d p _ _ _ _ _ _ h=>by omega,λb m d p acc _ _ _ _ _ _ h=>by omega,λb m d p acc _ _ _ _ _ _ h=>by omega⟩
 | succ f a=>exact⟨zaV l f a.2.1 a.2.2,ND l f a.1 a.2.1,OV l f a.1 a.2.2⟩
def yS(l:List UInt8):Res V:=match qo l (2*l.length+1) 1 (skip l 0) with
 | .err e q => .err e q
 | .ok v q=>if skip l q<l.length then .err 2 (skip l q) else .ok v (skip l q)
def ko(t:BA):List Value:=t.data.toList.map λc => .int .u8 (c.toNat:Int)
theorem byte_of(x:Int)(a:0<=x)(b:x<256):((UInt8.ofNat x.toNat).toNat:Int)=x:=by
 rw[UInt8.toNat_ofNat'];omega
theorem SS(n:Int)(a:0<=n)(b:n<=65535)(c:¬(55296<=n/\n<=57343)):Lib.runeCells n=ko (enc n):=by
 unfold Lib.runeCells ko enc
 by_cases c1:n<128
 ·rw[zb c1,Lib.encodeRuneZ_one a (by omega)];unfold one;simp only[vw,Zv];rw[byte_of n a (by omega)]
 by_cases c2:n<2048
 ·rw[za c1,zb c2,Lib.encodeRuneZ_two (by omega) (by omega)];simp only[vw,Zv];rw[byte_of (192+n / 64) (by omega) (by omega),byte_of (128+n % 64) (by omega) (by omega)]
 ·rw[za c1,za c2,Lib.encodeRuneZ_three (by omega)];simp only[vw,Zv];rw[byte_of (224+n / 4096) (by omega) (by omega),byte_of (128+n / 64 % 64) (by omega) (by omega),byte_of (128+n % 64) (by omega) (by omega)]
theorem aU(a b:BA):ko (a++b)=ko a++ko b:=by
 unfold ko;simp
theorem EF(a:BA):(ko a).length=a.size:=by
 unfold ko;rw[qg,zP]
def kH(k:Nat):Nat:=[194,224,225,237,238,240,241,244].getD k 0
def Zm(k:Nat):Nat:=[223,224,236,237,239,240,243,244].getD k 0
def QL(k:Nat):Nat:=[1,2,2,2,2,3,3,3].getD k 0
def X0(k:Nat):Nat:=[128,160,128,128,128,144,128,128].getD k 0
def Yx(k:Nat):Nat:=[191,191,191,159,191,191,191,143].getD k 0
theorem lt8{k:Nat}(h:k<8):k=0\/k=1\/k=2\/k=3\/k=4\/k=5\/k=6\/k=7:=by omega
theorem KL(k:Nat)(a:k<8):128<=kH k/\kH k<256/\Zm k<256/\1<=QL k/\QL k<=3/\0<X0 k/\X0 k<256/\Yx k<256:=by
 rcases lt8 a with rfl|rfl|rfl|rfl|rfl|rfl|rfl|rfl<;>decide
theorem fI(b k:Nat)(d:k<8)(a:kH k<=b)(c:b<=Zm k):qE (b:Int)=((QL k:Int),(X0 k:Int),(Yx k:Int)):=by
 unfold qE
 rcases lt8 d with rfl|rfl|rfl|rfl|rfl|rfl|rfl|rfl<;>simp[kH,Zm,QL,X0,Yx] at a c |-<;>(repeat' split)<;>first|rfl|omega
theorem Nn(b:Nat)(h:∀k,k<8->b<kH k\/Zm k<b):qE (b:Int)=(0,0,0):=by
 have a:=h 0 (by omega);have c:=h 1 (by omega);have d:=h 2 (by omega);have e:=h 3 (by omega);have f:=h 4 (by omega);have g:=h 5 (by omega);have i:=h 6 (by omega);have j:=h 7 (by omega);simp[kH,Zm] at a c d e f g i j;unfold qE
 repeat' split
 all_goals first|rfl|omega
def piece(l:List UInt8)(p q:Nat):BA:=⟨((l.drop p).take (q-p)).toArray⟩
theorem Tt(l:List UInt8)(p:Nat)(h:qE (zk l p:Int)=(0,0,0)):jY l p = .err 2 p:=by
 unfold jY;simp only;rw[h];rfl
def KV(l:List UInt8)(p j:Nat):Prop:=∀i,i<j->within l 128 191 (p+2+i)=true
theorem Ak(l:List UInt8)(p:Nat)(h:p<l.length):one (zk l p:Int)=⟨#[l[p]]⟩:=by
 unfold one;rw[gM l p h]
 simp
theorem K4(l:List UInt8)(lo hi p:Nat)(a:0<lo)(h:within l lo hi p=true):p<l.length:=by
 unfold within at h;simp at h;exact qC l p (by omega)
theorem Rv(l:List UInt8)(p:Nat)(h:p<l.length):piece l p (p+1)=one (zk l p:Int):=by
 rw[Ak l p h]
 have e:(l.drop p).take (p+1-p)=[l[p]]:=by
  rw[ZQ h,show p+1-p=1 by omega];rfl
 unfold piece;rw[e]
theorem piece_more(l:List UInt8)(p q:Nat)(a:p<=q)(h:q<l.length):piece l p (q+1)=piece l p q++one (zk l q:Int):=by
 rw[Ak l q h];unfold piece;rw[show q+1-p=(q-p)+1 by omega,VB]
 have:(l.drop p)[q-p]?=some l[q]:=by
  rw[YQ,show p+(q-p)=q by omega,zt h]
 rw[this];apply uS;simp[ByteArray.data_append]
theorem TE(l:List UInt8)(p k:Nat)(a:k<8)(b:kH k<=zk l p)(c:zk l p<=Zm k)(d:within l (X0 k) (Yx k) (p+1)=false):jY l p = .err 2 (p+1):=by
 have hb:=KL k a;unfold jY;simp only;rw[fI _ k a b c,za (by simp;omega)];simp only[Xv];rw[zb d]
theorem TG(l:List UInt8)(p k j:Nat)(a:k<8)(b:kH k<=zk l p)(c:zk l p<=Zm k)(g:within l (X0 k) (Yx k) (p+1)=true)(e:KV l p j)(f:j+1<QL k)(hb:within l 128 191 (p+2+j)=false):jY l p = .err 2 (p+2+j):=by
 have d:=KL k a;unfold jY;simp only;rw[fI _ k a b c,za (by simp;omega)];simp only[Xv];rw[za (by rw[g];decide),za (by omega)]
 match j with
 | 0=>rw[zb (by simpa using hb)]
 | 1=>
  have:=e 0 (by omega)
  rw[za (by rw[show p+2=p+2+0 by omega,this];decide),za (by omega),zb (by simpa using hb)]
 | j+2=>omega
theorem Tq(l:List UInt8)(p k:Nat)(e:k<8)(h:kH k<=zk l p)(i:zk l p<=Zm k)(f:within l (X0 k) (Yx k) (p+1)=true)(c:KV l p (QL k-1)):jY l p = .ok (piece l p (p+1+QL k)) (p+1+QL k):=by
 have hb:=KL k e;have o:p<l.length:=qC l p (by omega);have q:=K4 l _ _ _ (by omega) f;unfold jY;simp only;rw[fI _ k e h i,za (by simp;omega)];simp only[Xv];rw[za (by rw[f];decide)]
 have d:piece l p (p+2)=one (zk l p:Int)++one (zk l (p+1):Int):=by
  rw[piece_more l p (p+1) (by omega) q,Rv l p o]
 obtain⟨n,m⟩:=Nm (QL k);rw[m] at c hb |-;have j:n=1\/n=2\/n=3:=by omega
 rcases j with rfl|rfl|rfl
 ·rw[zb (by simp),d]
 ·have a:=c 0 (by omega);have b:=K4 l _ _ _ (by omega) a;simp only[ut] at a b;rw[za (by simp),za (by rw[a];decide),zb (by simp),piece_more l p (p+2) (by omega) b,d]
 ·have a:=c 0 (by omega);have g:=c 1 (by omega);have b:=K4 l _ _ _ (by omega) a;have r:=K4 l _ _ _ (by omega) g;simp only[ut] at a b;rw[za (by simp),za (by rw[a];decide),za (by simp),za (by rw[show p+3=p+2+1 by omega,g];decide),piece_more l p (p+3) (by omega) r,piece_more l p (p+2) (by omega) b,d]
def Res.to{α:Type}:Res α->Nat
 | .ok _ q=>q
 | .err _ q=>q
theorem V7(n:Int):(one n).size=1:=rfl
theorem oK(n:Int):(enc n).size<=3:=by
 unfold enc
 split
 ·rw[V7];omega
 split
 ·exact (by decide:2<=3)
 ·exact (by decide:3<=3)
theorem Lc{l:List UInt8}{p q:Nat}{u:BA}(h:uB l p = .ok u q):q=p+4/\u.size<=3:=by
 unfold uB at h;simp only at h
 repeat' split at h
 all_goals first|(cases h;done)|(injection h with h1 h2;subst h1;exact⟨h2.symm,oK _⟩)
theorem Io{l:List UInt8}{p q:Nat}{u:BA}(h:vG l p = .ok u q):p<q/\u.size<=q-p:=by
 unfold vG at h;simp only at h
 repeat' split at h
 all_goals first
  | (cases h;done)
  | (injection h with h1 h2;subst h1;rw[V7];omega)
  | (have:=Lc h;omega)
theorem Tn{l:List UInt8}{p q:Nat}{u:BA}(h:jY l p = .ok u q):p<q/\u.size<=q-p:=by
 unfold jY at h;simp only at h
 repeat' split at h
 all_goals first
  | (cases h;done)
  | (injection h with h1 h2;subst h1;simp only[qD,V7];omega)
theorem nM{l:List UInt8}{p q:Nat}{u:BA}(h:yE l p = .ok u q):p<q/\u.size<=q-p:=by
 unfold yE at h;simp only at h
 repeat' split at h
 all_goals first
  | (cases h;done)
  | (injection h with h1 h2;subst h1;rw[V7];omega)
  | (have:=Io h;omega)
  | exact Tn h
theorem WZ{l:List UInt8}{f p q:Nat}{acc u:BA}(a:zk l p≠34)(h:yE l p = .ok u q):qV l (f+1) p acc=qV l f q (acc++u):=by
 rw[qV,za a,h]
theorem WX{l:List UInt8}{f p q:Nat}{acc:BA}{c:Int}(a:zk l p≠34)(h:yE l p = .err c q):qV l (f+1) p acc = .err c q:=by
 rw[qV,za a,h]
theorem WW{l:List UInt8}{f p:Nat}{acc:BA}(a:zk l p=34):qV l (f+1) p acc = .ok acc (p+1):=by
 rw[qV,zb a]
def yR(l:List UInt8)(p:Nat):Res BA:=if zk l p=34 then vM l (p+1) else .err 2 p
theorem Az(l:List UInt8)(p:Nat):qj l [34] p=if zk l p=34 then .ok () (p+1) else .err 2 p:=by
 simp only[qj]
theorem TI{l:List UInt8}{p q:Nat}{c:Int}(h:jY l p = .err c q):c=2:=by
 unfold jY at h;simp only at h
 repeat' split at h
 all_goals first|(cases h;done)|(injection h with h1 h2;exact h1.symm)
theorem Li{l:List UInt8}{p q:Nat}{c:Int}(h:uB l p = .err c q):c=2:=by
 unfold uB at h;simp only at h
 repeat' split at h
 all_goals first|(cases h;done)|(injection h with h1 h2;exact h1.symm)
theorem Ir{l:List UInt8}{p q:Nat}{c:Int}(h:vG l p = .err c q):c=2:=by
 unfold vG at h;simp only at h
 repeat' split at h
 all_goals first
  | (cases h;done)
  | (injection h with h1 h2;exact h1.symm)
  | exact Li h
theorem EY{l:List UInt8}{p q:Nat}{c:Int}(h:yE l p = .err c q):c=2:=by
 unfold yE at h;simp only at h
 repeat' split at h
 all_goals first
  | (cases h;done)
  | (injection h with h1 h2;exact h1.symm)
  | exact Ir h
  | exact TI h
theorem KR{l:List UInt8}:∀{f p q:Nat} {acc:BA} {c:Int},qV l f p acc = .err c q->c=2
 | 0,p,q,acc,c,h=>by rw[qV] at h;injection h with h1 h2;exact h1.symm
 | f+1,p,q,acc,c,h=>by
  rw[qV] at h
  split at h
  ·cases h
  cases hc:yE l p with
  | ok u a=>rw[hc] at h;exact KR h
  | err b a=>rw[hc] at h;injection h with h1 h2;rw[<- h1];exact EY hc
theorem Ay{l:List UInt8}{p q:Nat}{c:Int}(h:yR l p = .err c q):c=2:=by
 unfold yR at h
 split at h
 ·exact KR h
 ·injection h with h1 h2;exact h1.symm
theorem Ur{l:List UInt8}:∀{r:List Nat} {p q:Nat} {c:Int},qj l r p = .err c q->c=2
 | [],p,q,c,h=>by rw[qj] at h;cases h
 | b::r,p,q,c,h=>by
  rw[qj] at h
  split at h
  ·exact Ur h
  ·injection h with h1 h2;exact h1.symm
def jU{α:Type}(l:List UInt8)(d:Nat->α->Nat->Res α)(e:Nat):Nat->α->Nat->Res α
 | 0,_,p => .err 2 p
 | f+1,a,p=>match d f a p with
  | .err c q => .err c q
  | .ok b q=>
   if zk l (skip l q)=44 then jU l d e f b (skip l (skip l q+1))
   else if zk l (skip l q)=e then .ok b (skip l q+1)
   else .err 2 (skip l q)
def uD{α:Type}(l:List UInt8)(b:Nat->α->Nat->Res α)(e:Nat)(f d:Nat)(a:α)(p:Nat):Res α:=
 if 8<d then .err 3 p
 else if zk l (skip l (p+1))=e then .ok a (skip l (p+1)+1)
 else jU l b e f a (skip l (p+1))
def Res.map{α β:Type}(g:α->β):Res α->Res β
 | .ok a q => .ok (g a) q
 | .err c q => .err c q
def stL(l:List UInt8)(d:Nat)(f:Nat)(acc:List V)(q:Nat):Res (List V):=match qo l f (d+1) q with
 | .ok v a => .ok (acc++[v]) a
 | .err c a => .err c a
def Xd(l:List UInt8)(d:Nat)(f:Nat)(acc:List (BA×V))(q:Nat):Res (BA×V):=match yR l q with
 | .err c b => .err c b
 | .ok s b=>
  if acc.any (λx=>x.1.toList==s.toList) then .err 4 (b-1)
  else if zk l (skip l b)≠58 then .err 2 (skip l b)
  else match qo l f (d+1) (skip l (skip l b+1)) with
  | .err c a => .err c a
  | .ok v a => .ok (s,v) a
def stO(l:List UInt8)(d:Nat)(f:Nat)(acc:List (BA×V))(q:Nat):Res (List (BA×V)):=match Xd l d f acc q with
 | .ok m a => .ok (acc++[m]) a
 | .err c a => .err c a
theorem sJ(l:List UInt8)(d:Nat):∀(f p:Nat) (acc:List V),uH l f d p acc=(jU l (stL l d) 93 f acc p).map .list
 | 0,p,acc=>by rw[uH,jU,Res.map]
 | f+1,p,acc=>by
  rw[uH,jU,stL]
  cases hv:qo l f (d+1) p with
  | err c q=>rfl
  | ok v q=>
   simp only
   split
   ·exact sJ l d f _ _
   split
   ·rfl
   ·rfl
theorem wH(l:List UInt8)(d:Nat):∀(f p:Nat) (acc:List (BA×V)),uI l f d p acc=(jU l (stO l d) 125 f acc p).map .obj
 | 0,p,acc=>by rw[uI,jU,Res.map]
 | f+1,p,acc=>by
  rw[uI,jU,stO,Xd,yR]
  by_cases h:zk l p=34
  ·rw[za (by simp[h]),zb h]
   cases hs:vM l (p+1) with
   | err c q=>rfl
   | ok s q=>
    simp only
    by_cases ht:acc.any (λx=>x.1.toList==s.toList)=true
    ·rw[zb ht,zb ht];rfl
    rw[za ht,za ht]
    by_cases h58:zk l (skip l q)≠58
    ·rw[zb h58,zb h58];rfl
    rw[za h58,za h58]
    cases hv:qo l f (d+1) (skip l (skip l q+1)) with
    | err c a=>rfl
    | ok v a=>
     simp only
     split
     ·exact wH l d f _ _
     split
     ·rfl
     ·rfl
  ·rw[zb h,za h];rfl
theorem zaS(l:List UInt8)(f d p:Nat)(h:zk l p=91):qo l (f+1) d p=(uD l (stL l d) 93 f d [] p).map .list:=by
 rw[qo,za (by omega),zb h];unfold uD
 split
 ·rfl
 split
 ·rfl
 ·exact sJ l d f _ _
theorem zaU(l:List UInt8)(f d p:Nat)(h:zk l p=123):qo l (f+1) d p=(uD l (stO l d) 125 f d [] p).map .obj:=by
 rw[qo,zb h];unfold uD
 split
 ·rfl
 split
 ·rfl
 ·exact wH l d f _ _
theorem zaX(l:List UInt8)(f d p:Nat)(h:zk l p=34):qo l (f+1) d p=(yR l p).map .str:=by
 rw[qo,za (by omega),za (by omega),zb h,yR,zb h]
 cases vM l (p+1)<;>rfl
theorem zaY(l:List UInt8)(f d p:Nat)(h:zk l p=116):qo l (f+1) d p=(qj l [116,114,117,101] p).map (λ_ => .word true):=by
 rw[qo,za (by omega),za (by omega),za (by omega),zb h]
 conv=>rhs;rw[qj,zb h]
 cases qj l [114,117,101] (p+1)<;>rfl
theorem zaR(l:List UInt8)(f d p:Nat)(h:zk l p=102):qo l (f+1) d p=(qj l [102,97,108,115,101] p).map (λ_ => .word false):=by
 rw[qo,za (by omega),za (by omega),za (by omega),za (by omega),zb h]
 conv=>rhs;rw[qj,zb h]
 cases qj l [97,108,115,101] (p+1)<;>rfl
theorem zaT(l:List UInt8)(f d p:Nat)(a:zk l p≠123)(b:zk l p≠91)(c:zk l p≠34)(e:zk l p≠116)(g:zk l p≠102):qo l (f+1) d p = .err 2 p:=by
 rw[qo,za a,za b,za c,za e,za g]
def bP(d:Nat):zA:={ init with opn:=List.replicate (d-1) 0,nodes:=[⟨2,⟨#[]⟩,[],[]⟩] }
theorem K3{l:List UInt8}{f d p q:Nat}{v:V}(hd:1<=d)(e:p<=l.length)(hb:blank (zk l p)=false)(b:2*(l.length-p)<f)(h:qo l f d p = .ok v q):p<q/\q<=l.length:=by
 have:=(Dp l f).1 (bP d) d p (.inl rfl) (λo c=>by
  have:o=0:=List.eq_of_mem_replicate c
  rw[this];exact Nat.zero_lt_one) (by simp[bP];omega) e hb (λh=>by have a:=h.1;simp[bP,init] at a) b
 rw[h] at this;exact⟨this.1,this.2.1⟩
theorem BO{l:List UInt8}:∀{f p q:Nat} {acc t:BA},qV l f p acc = .ok t q->p<q/\t.size<=acc.size+(q-p)
 | 0,p,q,acc,t,h=>by rw[qV] at h;cases h
 | f+1,p,q,acc,t,h=>by
  rw[qV] at h
  split at h
  ·injection h with a b;subst a;omega
  cases hc:yE l p with
  | ok u c=>
   rw[hc] at h;have a:=nM hc;have b:=BO (acc:=acc++u) h;rw[qD] at b;omega
  | err d c=>rw[hc] at h;cases h
theorem KF{l:List UInt8}{p q:Nat}{t:BA}(h:yR l p = .ok t q):p+1<q/\t.size<=q:=by
 unfold yR vM at h
 split at h
 ·have:=BO h
  have e:(ByteArray.mk #[]).size=0:=rfl;omega
 ·cases h
theorem KG{l:List UInt8}{p q:Nat}{t:BA}(h:yR l p = .ok t q):q<=l.length:=by
 unfold yR at h
 split at h
 ·rename_i a;have b:=qC l p (by omega)
  have:=iA l { init with state:=8,got:=⟨#[]⟩ } (p+1) (by omega) rfl rfl
  rw[h] at this;exact this.2.1
 ·cases h
end Rd
end Go.Proofs.YtagnlbgbnfnapaaGreatDoor
