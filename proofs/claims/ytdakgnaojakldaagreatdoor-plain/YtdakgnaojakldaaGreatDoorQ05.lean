/- P -/
import Derived.Test.YtdakgnaojakldaaGreatDoorQ04
import Derived.Lib.RuneBytes
set_option maxRecDepth 100000
namespace Go.Proofs.YtdakgnaojakldaaGreatDoor
namespace Rd
open Ref
def zi(l:List UInt8)(p:Nat):Nat:=(l.getD p 0).toNat
inductive Res (α:Type) where
 | ok (v:α) (p:Nat)
 | err (e:Int) (p:Nat)
def verdict(l:List UInt8)(m:zn)(p:Nat):Int×Nat×zn:=
 if (Ref.run m (l.drop p) p).1≠0 then Ref.run m (l.drop p) p
 else if (Ref.run m (l.drop p) p).2.2.state≠6\/(Ref.run m (l.drop p) p).2.2.opn≠[] then (2,l.length,(Ref.run m (l.drop p) p).2.2)
 else Ref.run m (l.drop p) p
def Inc(m:zn):Prop:=m.state≠6\/m.opn≠[]
def Fails(l:List UInt8)(m:zn)(p:Nat)(e:Int)(q:Nat):Prop:=(verdict l m p).1=e/\(verdict l m p).2.1=q
theorem dQ(l:List UInt8)(p:Nat)(h:p<l.length):zi l p=l[p].toNat:=by
 unfold zi;rw[zL,zl h];rfl
theorem U7(l:List UInt8)(p:Nat)(h:¬p<l.length):zi l p=0:=by
 unfold zi;rw[zL,KQ (by omega)];rfl
theorem qy(l:List UInt8)(p:Nat)(h:zi l p≠0):p<l.length:=by
 rcases Nat.lt_or_ge p l.length with h1|h1
 ·exact h1
 ·exact absurd (U7 l p (by omega)) h
theorem Z9(l:List UInt8)(p:Nat):zi l p<256:=UInt8.toNat_lt _
theorem eY(l:List UInt8)(m:zn)(p:Nat)(h:p<l.length):Ref.run m (l.drop p) p=if (Ref.step m (zi l p:Int)).1=0 then Ref.run (Ref.step m (zi l p:Int)).2 (l.drop (p+1)) (p+1) else ((Ref.step m (zi l p:Int)).1,p,m):=by
 rw[uS h,Ref.run,dQ l p h]
theorem xY(l:List UInt8)(m m':zn)(p:Nat)(h:p<l.length)(a:Ref.step m (zi l p:Int)=(0,m')):verdict l m p=verdict l m' (p+1):=by
 have e:Ref.run m (l.drop p) p=Ref.run m' (l.drop (p+1)) (p+1):=by rw[eY l m p h,a];rfl
 unfold verdict;rw[e]
theorem Zk(l:List UInt8)(m:zn)(p:Nat)(j:p<=l.length)(hi:Inc m)(e:Int)(d:e≠0)(f:(Ref.step m (zi l p:Int)).1=e)(i:zi l p=0->e=2):Fails l m p e p:=by
 by_cases h:p<l.length
 ·have a:Ref.run m (l.drop p) p=(e,p,m):=by
   rw[eY l m p h,za (by rw[f];exact d),f]
  unfold Fails verdict;rw[a,zb d];exact⟨rfl,rfl⟩
 ·have g:=i (U7 l p h);have c:p=l.length:=by omega
  have a:Ref.run m (l.drop p) p=(0,p,m):=by rw[KN (by omega),Ref.run]
  unfold Fails verdict;have b:(0,p,m).2.2.state≠6\/(0,p,m).2.2.opn≠[]:=hi;rw[a,za (by simp),zb b,g,c];exact⟨rfl,rfl⟩
theorem Fails.of_eq{l:List UInt8}{m m':zn}{p a:Nat}{e:Int}{q:Nat}(h:Fails l m' a e q)(b:verdict l m p=verdict l m' a):Fails l m p e q:=by
 unfold Fails at *;rw[b];exact h
def blank(b:Nat):Bool:=b==32||b==9||b==10||b==13
theorem Vk(b:Nat):Ul (b:Int)=blank b:=by
 unfold Ul blank;rw[vN]
 simp
 omega
def Kk(l:List UInt8):Nat->Nat->Nat
 | 0,p=>p
 | f+1,p=>if blank (zi l p) then Kk l f (p+1) else p
def skip(l:List UInt8)(p:Nat):Nat:=Kk l (l.length-p) p
theorem Jb(l:List UInt8)(p:Nat)(h:blank (zi l p)=true):p<l.length:=by
 apply qy;intro e;rw[e] at h;exact absurd h (by decide)
theorem Qe(l:List UInt8)(p:Nat):skip l p=if blank (zi l p) then skip l (p+1) else p:=by
 unfold skip
 by_cases h:p<l.length
 ·obtain⟨k,a⟩:∃k,l.length-p=k+1:=⟨l.length-p-1,by omega⟩;rw[a,Kk,show l.length-(p+1)=k by omega]
 ·have e:l.length-p=0:=by omega
  rw[e,Kk,za];intro hb;exact h (Jb l p hb)
theorem TE(m:zn)(a:m.state<7)(b:Nat)(hb:blank b=true):Ref.step m (b:Int)=(0,m):=by
 rw[VO m _ a,Vk,hb,zb rfl]
theorem X9(l:List UInt8)(m:zn)(a:m.state<7)(p:Nat):verdict l m p=verdict l m (skip l p):=by
 generalize c:l.length-p=n
 induction n generalizing p with
 | zero=>
  rw[Qe,za];intro hb
  have:=Jb l p hb
  omega
 | succ n b=>
  rw[Qe]
  by_cases hb:blank (zi l p)=true
  ·rw[zb hb,<- b (p+1) (by omega)];exact xY l m m p (by omega) (TE m a _ hb)
  ·rw[za hb]
theorem yY(l:List UInt8)(p:Nat):p<=skip l p:=by
 generalize b:l.length-p=n
 induction n generalizing p with
 | zero=>rw[Qe];split<;>rename_i h<;>first|(have:=Jb l p h;omega)|omega
 | succ n a=>
  rw[Qe]
  split
  ·have:=a (p+1) (by omega);omega
  ·omega
theorem ul(l:List UInt8)(p:Nat)(c:p<=l.length):skip l p<=l.length:=by
 generalize b:l.length-p=n
 induction n generalizing p with
 | zero=>rw[Qe];split<;>rename_i h<;>first|(have:=Jb l p h;omega)|omega
 | succ n a=>
  rw[Qe]
  split
  ·exact a (p+1) (by omega) (by omega)
  ·omega
theorem Zh(l:List UInt8)(p:Nat):blank (zi l (skip l p))=false:=by
 generalize b:l.length-p=n
 induction n generalizing p with
 | zero=>
  rw[Qe]
  split
  ·rename_i h;have:=Jb l p h;omega
  ·rename_i h;simpa using h
 | succ n a=>
  rw[Qe]
  split
  ·exact a (p+1) (by omega)
  ·rename_i h;simpa using h
def Within(m m':zn)(g:BA):Prop:=m'.state=8/\m'.opn=m.opn/\m'.nodes=m.nodes/\m'.named=m.named/\m'.root=m.root/\m'.got=m.got++g
def within(l:List UInt8)(lo hi p:Nat):Bool:=decide (lo<=zi l p/\zi l p<=hi)
def jJ(l:List UInt8)(p:Nat):Res BA:=
 let r:=qz (zi l p:Int)
 if r.1=0 then .err 2 p
 else if within l r.2.1.toNat r.2.2.toNat (p+1)=false then .err 2 (p+1)
 else if r.1=1 then .ok (one (zi l p)++one (zi l (p+1))) (p+2)
 else if within l 128 191 (p+2)=false then .err 2 (p+2)
 else if r.1=2 then .ok (one (zi l p)++one (zi l (p+1))++one (zi l (p+2))) (p+3)
 else if within l 128 191 (p+3)=false then .err 2 (p+3)
 else .ok (one (zi l p)++one (zi l (p+1))++one (zi l (p+2))++one (zi l (p+3))) (p+4)
def vY(l:List UInt8)(p:Nat):Res BA:=
 let a:=zR (zi l p)
 let b:=zR (zi l (p+1))
 let c:=zR (zi l (p+2))
 let d:=zR (zi l (p+3))
 if a<0 then .err 2 p
 else if b<0\/(a=13/\8<=b) then .err 2 (p+1)
 else if c<0 then .err 2 (p+2)
 else if d<0 then .err 2 (p+3)
 else .ok (enc (((a*16+b)*16+c)*16+d)) (p+4)
def jS(l:List UInt8)(p:Nat):Res BA:=
 let b:=zi l p
 if b=34\/b=92\/b=47 then .ok (one b) (p+1)
 else if b=110 then .ok (one 10) (p+1)
 else if b=116 then .ok (one 9) (p+1)
 else if b=117 then vY l (p+1)
 else .err 2 p
def yw(l:List UInt8)(p:Nat):Res BA:=
 let b:=zi l p
 if b<32 then .err 2 p
 else if b=92 then jS l (p+1)
 else if b<128 then .ok (one b) (p+1)
 else jJ l p
def gI(l:List UInt8)(m:zn)(p:Nat)(r:Res BA):Prop:=match r with
 | .ok s q=>p<q/\q<=l.length/\∃m',Within m m' s/\verdict l m p=verdict l m' q
 | .err e q=>Fails l m p e q
theorem YC(b:Nat):zR (b:Int)<=15:=by
 unfold zR;repeat' split
 all_goals omega
theorem bN(l:List UInt8)(p:Nat)(h:0<=zR (zi l p)):p<l.length:=by
 apply qy;intro e;rw[e] at h;exact absurd h (by decide)
theorem eZ(l:List UInt8)(m:zn)(p:Nat)(e:p<=l.length)(d:m.state=9)(lo hi:Nat)(c:m.low=lo)(b:m.high=hi)(f:0<lo) :
  (within l lo hi p=false->Fails l m p 2 p) /\
  (within l lo hi p=true->p<l.length/\verdict l m p=verdict l { m with got:=m.got++one (zi l p),low:=128,high:=191,need:=m.need-1,state:=if m.need-1=0 then 8 else 9 } (p+1)):=by
 constructor
 ·intro h;refine Zk l m p e (.inl (by omega)) 2 (by decide) ?_ (λ_=>rfl);rw[fB m _ d,c,b,zb];unfold within at h;simp at h;omega
 ·intro h;unfold within at h;simp at h;have a:p<l.length:=qy l p (by omega);refine⟨a,xY l m _ p a ?_⟩;rw[fB m _ d,c,b,za (by omega)]
theorem MI(b:Nat):qz (b:Int)=(0,0,0)\/(128<=b/\∃n lo hi:Nat,qz (b:Int)=((n:Int),(lo:Int),(hi:Int))/\0<lo/\(n=1\/n=2\/n=3)):=by
 unfold qz
 split
 ·exact .inr ⟨by omega,1,128,191,rfl,by omega,by omega⟩
 split
 ·exact .inr ⟨by omega,2,160,191,rfl,by omega,by omega⟩
 split
 ·exact .inr ⟨by omega,2,128,159,rfl,by omega,by omega⟩
 split
 ·exact .inr ⟨by omega,2,128,191,rfl,by omega,by omega⟩
 split
 ·exact .inr ⟨by omega,3,144,191,rfl,by omega,by omega⟩
 split
 ·exact .inr ⟨by omega,3,128,191,rfl,by omega,by omega⟩
 split
 ·exact .inr ⟨by omega,3,128,143,rfl,by omega,by omega⟩
 exact .inl rfl
theorem K6(a b c:BA):a++b++c=a++(b++c):=by
 apply jk;simp
theorem SC(l:List UInt8)(m:zn)(p:Nat)(s:m.state=8)(hb:128<=zi l p):gI l m p (jJ l p):=by
 have r:p<l.length:=qy l p (by omega)
 have d:Ref.step m (zi l p:Int)=if (qz (zi l p:Int)).1=0 then (2,m) else (0,{ m with need:=(qz (zi l p:Int)).1,low:=(qz (zi l p:Int)).2.1,high:=(qz (zi l p:Int)).2.2,got:=m.got++one (zi l p),state:=9 }):=by
  rw[Kl m _ s];unfold plain;rw[za (by omega),za (by omega),za (by omega),za (by omega)]
 unfold jJ
 rcases MI (zi l p) with h0|⟨_,n,lo,hi,hr,hlo,hn⟩
 ·rw[h0] at d |-;simp only[qh];exact Zk l m p (by omega) (.inl (by omega)) 2 (by decide) (by rw[d];rfl) (λ_=>rfl)
 ·rw[hr] at d |-;simp only[Qm];rw[za (by omega)] at d |-;have i:=xY l m _ p r d;obtain⟨e,a⟩:∃e:zn,e={ m with need:=(n:Int),low:=(lo:Int),high:=(hi:Int),got:=m.got++one (zi l p),state:=9 }:=⟨_,rfl⟩
  rw[<- a] at i;have k:=eZ l e (p+1) (by omega) (by rw[a]) lo hi (by rw[a]) (by rw[a]) hlo
  cases w1:within l lo hi (p+1) with
  | false=>rw[zb rfl];exact (k.1 w1).of_eq i
  | true=>
   rw[za (by decide)];obtain⟨u,g⟩:=k.2 w1;have g:=i.trans g
   by_cases n1:n=1
   ·rw[zb (by omega)];refine⟨by omega,by omega,_,?_,g⟩;subst n1;rw[a];exact⟨rfl,rfl,rfl,rfl,rfl,by simp only;rw[K6]⟩
   rw[za (by omega)];obtain⟨f,b⟩:∃f:zn,f={ e with got:=e.got++one (zi l (p+1)),low:=128,high:=191,need:=e.need-1,state:=if e.need-1=0 then 8 else 9 }:=⟨_,rfl⟩
   rw[<- b] at g;have o:=eZ l f (p+2) (by omega) (by rw[b];simp only;rw[za];rw[a];simp only;omega) 128 191 (by rw[b];rfl) (by rw[b];rfl) (by omega)
   cases w2:within l 128 191 (p+2) with
   | false=>rw[zb rfl];exact (o.1 w2).of_eq g
   | true=>
    rw[za (by decide)];obtain⟨q2,h⟩:=o.2 w2;have h:=g.trans h
    by_cases n2:n=2
    ·rw[zb (by omega)];refine⟨by omega,by omega,_,?_,h⟩;subst n2;rw[b,a];exact⟨rfl,rfl,rfl,rfl,rfl,by simp only[K6]⟩
    rw[za (by omega)];obtain rfl:n=3:=by omega
    obtain⟨j,c⟩:∃j:zn,j={ f with got:=f.got++one (zi l (p+2)),low:=128,high:=191,need:=f.need-1,state:=if f.need-1=0 then 8 else 9 }:=⟨_,rfl⟩
    rw[<- c] at h;have q:=eZ l j (p+3) (by omega) (by rw[c,b,a];rfl) 128 191 (by rw[c];rfl) (by rw[c];rfl) (by omega)
    cases w3:within l 128 191 (p+3) with
    | false=>rw[zb rfl];exact (q.1 w3).of_eq h
    | true=>
     rw[za (by decide)];obtain⟨v,t⟩:=q.2 w3;refine⟨by omega,by omega,_,?_,h.trans t⟩;rw[c,b,a];exact⟨rfl,rfl,rfl,rfl,rfl,by simp only[K6]⟩
theorem UC(l:List UInt8)(m:zn)(p:Nat)(f:p<=l.length)(g:m.state=11)(N k:Int)(d:m.number=N)(e:m.need=k)(bad:Prop)(hb:bad↔(zR (zi l p)<0\/(k=3/\216<=16*N+zR (zi l p)/\16*N+zR (zi l p)<=223))) :
  (bad->Fails l m p 2 p) /\
  (¬bad->k≠1->p<l.length/\verdict l m p=verdict l { m with number:=16*N+zR (zi l p),need:=k-1 } (p+1)) /\
  (¬bad->k=1->p<l.length/\verdict l m p=verdict l { m with number:=16*N+zR (zi l p),need:=k-1,got:=m.got++enc (16*N+zR (zi l p)),state:=8 } (p+1)):=by
 have b:Ref.step m (zi l p:Int)=digit m (zi l p:Int):=TB m _ g;unfold digit at b;rw[d,e] at b;refine⟨λh=>?_,λh c=>?_,λh c=>?_⟩
 ·refine Zk l m p f (.inl (by omega)) 2 (by decide) ?_ (λ_=>rfl);rw[b]
  by_cases h1:zR (zi l p:Int)<0
  ·rw[zb h1]
  ·rw[za h1,zb (by have:=hb.1 h;omega)]
 ·rw[hb] at h;have a:p<l.length:=bN l p (by omega);refine⟨a,xY l m _ p a ?_⟩;rw[b,za (by omega),za (by omega),za (by omega)]
 ·rw[hb] at h;have a:p<l.length:=bN l p (by omega);refine⟨a,xY l m _ p a ?_⟩;rw[b,za (by omega),za (by omega),zb (by omega)]
theorem GR(l:List UInt8)(m:zn)(p:Nat)(F:p<=l.length)(g:m.state=11)(E:m.number=0)(z:m.need=4) :
  match vY l p with
  | .ok s q=>p<q/\q<=l.length/\∃m',Within { m with state:=8 } m' s/\verdict l m p=verdict l m' q
  | .err e q=>Fails l m p e q:=by
 have G:=YC (zi l p);have hb:=YC (zi l (p+1));unfold vY;simp only;generalize n:zR (zi l p:Int)=A at *;have u:=UC l m p F g 0 4 E z (A<0) (by rw[n];omega)
 by_cases c1:A<0
 ·rw[zb c1];exact u.1 c1
 rw[za c1];obtain⟨H,j⟩:=u.2.1 c1 (by decide);rw[n] at j;obtain⟨h,a⟩:∃h:zn,h={ m with number:=16*0+A,need:=4-1 }:=⟨_,rfl⟩
 rw[<- a] at j;generalize o:zR (zi l (p+1):Int)=B at *;have v:=UC l h (p+1) (by omega) (by rw[a];exact g) A 3 (by rw[a];simp) (by rw[a];rfl) (B<0\/(A=13/\8<=B)) (by rw[o];omega)
 by_cases c2:B<0\/(A=13/\8<=B)
 ·rw[zb c2];exact (v.1 c2).of_eq j
 rw[za c2];obtain⟨q2,d⟩:=v.2.1 c2 (by decide);rw[o] at d;have d:=j.trans d;obtain⟨i,b⟩:∃i:zn,i={ h with number:=16*A+B,need:=3-1 }:=⟨_,rfl⟩
 rw[<- b] at d;generalize r:zR (zi l (p+2):Int)=C at *;have w:=UC l i (p+2) (by omega) (by rw[b,a];exact g) (16*A+B) 2 (by rw[b]) (by rw[b];rfl) (C<0) (by rw[r];omega)
 by_cases c3:C<0
 ·rw[zb c3];exact (w.1 c3).of_eq d
 rw[za c3];obtain⟨I,f⟩:=w.2.1 c3 (by decide);rw[r] at f;have f:=d.trans f;obtain⟨k,c⟩:∃k:zn,k={ i with number:=16*(16*A+B)+C,need:=2-1 }:=⟨_,rfl⟩
 rw[<- c] at f;generalize t:zR (zi l (p+3):Int)=D at *;have x:=UC l k (p+3) (by omega) (by rw[c,b,a];exact g) (16*(16*A+B)+C) 1 (by rw[c]) (by rw[c];rfl) (D<0) (by rw[t];omega)
 by_cases c4:D<0
 ·rw[zb c4];exact (x.1 c4).of_eq f
 rw[za c4];obtain⟨J,y⟩:=x.2.2 c4 rfl;rw[t] at y;refine⟨by omega,by omega,_,?_,f.trans y⟩;rw[c,b,a];refine⟨rfl,rfl,rfl,rfl,rfl,?_⟩;simp only;have e:16*(16*(16*A+B)+C)+D=((A*16+B)*16+C)*16+D:=by omega
 rw[e]
theorem Gh(l:List UInt8)(m:zn)(p:Nat)(i:p<=l.length)(j:m.state=10) :
  match jS l p with
  | .ok s q=>p<q/\q<=l.length/\∃m',Within { m with state:=8 } m' s/\verdict l m p=verdict l m' q
  | .err e q=>Fails l m p e q:=by
 have a:Ref.step m (zi l p:Int)=escape m (zi l p:Int):=TA m _ j;unfold escape at a;unfold jS;simp only;generalize hb:zi l p=b at *
 by_cases c1:b=34\/b=92\/b=47
 ·rw[zb c1];rw[zb (by omega)] at a;have c:p<l.length:=qy l p (by rw[hb];omega);have v:=xY l m _ p c (by rw[hb];exact a);refine⟨by omega,by omega,_,?_,v⟩;exact⟨rfl,rfl,rfl,rfl,rfl,rfl⟩
 rw[za c1];rw[za (by omega)] at a
 by_cases c2:b=110
 ·rw[zb c2];rw[zb (by omega)] at a;have c:p<l.length:=qy l p (by rw[hb];omega);have v:=xY l m _ p c (by rw[hb];exact a);refine⟨by omega,by omega,_,?_,v⟩;exact⟨rfl,rfl,rfl,rfl,rfl,rfl⟩
 rw[za c2];rw[za (by omega)] at a
 by_cases c3:b=116
 ·rw[zb c3];rw[zb (by omega)] at a;have c:p<l.length:=qy l p (by rw[hb];omega);have v:=xY l m _ p c (by rw[hb];exact a);refine⟨by omega,by omega,_,?_,v⟩;exact⟨rfl,rfl,rfl,rfl,rfl,rfl⟩
 rw[za c3];rw[za (by omega)] at a
 by_cases c4:b=117
 ·rw[zb c4];rw[zb (by omega)] at a;have c:p<l.length:=qy l p (by rw[hb];omega);have v:=xY l m _ p c (by rw[hb];exact a);have f:=GR l { m with state:=11,need:=4,number:=0 } (p+1) (by omega) rfl rfl rfl
  cases hf:vY l (p+1) with
  | ok s q=>
   rw[hf] at f;obtain⟨k,d,m',g,h⟩:=f;exact⟨by omega,d,m',g,v.trans h⟩
  | err e q=>
   rw[hf] at f;exact Fails.of_eq f v
 rw[za c4];rw[za (by omega)] at a;exact Zk l m p i (.inl (by omega)) 2 (by decide) (by rw[hb,a]) (λ_=>rfl)
theorem DI(l:List UInt8)(m:zn)(p:Nat)(i:p<=l.length)(c:m.state=8)(k:zi l p≠34):gI l m p (yw l p):=by
 have a:Ref.step m (zi l p:Int)=plain m (zi l p:Int):=Kl m _ c;unfold plain at a;unfold yw;simp only
 by_cases c1:zi l p<32
 ·rw[zb c1];rw[za (by omega),za (by omega),zb (by omega)] at a;exact Zk l m p i (.inl (by omega)) 2 (by decide) (by rw[a]) (λ_=>rfl)
 rw[za c1];have b:p<l.length:=qy l p (by omega)
 by_cases c2:zi l p=92
 ·rw[zb c2];rw[za (by omega),zb (by omega)] at a;have v:=xY l m _ p b a;have f:=Gh l { m with state:=10 } (p+1) (by omega) rfl
  cases hf:jS l (p+1) with
  | ok s q=>
   rw[hf] at f;obtain⟨j,d,m',g,h⟩:=f;exact⟨by omega,d,m',g,v.trans h⟩
  | err e q=>
   rw[hf] at f;exact Fails.of_eq f v
 rw[za c2]
 by_cases c3:zi l p<128
 ·rw[zb c3];rw[za (by omega),za (by omega),za (by omega),zb (by omega)] at a;refine⟨by omega,by omega,_,?_,xY l m _ p b a⟩;exact⟨c,rfl,rfl,rfl,rfl,rfl⟩
 rw[za c3];exact SC l m p c (by omega)
theorem zas(l:List UInt8)(m:zn)(p:Nat)(d:p<l.length)(e:Int)(a:e≠0)(b:(Ref.step m (zi l p:Int)).1=e):Fails l m p e p:=by
 have c:Ref.run m (l.drop p) p=(e,p,m):=by
  rw[eY l m p d,za (by rw[b];exact a),b]
 unfold Fails verdict;rw[c,zb a];exact⟨rfl,rfl⟩
def qJ(l:List UInt8):Nat->Nat->BA->Res BA
 | 0,p,_ => .err 2 p
 | f+1,p,acc=>if zi l p=34 then .ok acc (p+1) else match yw l p with
  | .ok s q=>qJ l f q (acc++s)
  | .err e q => .err e q
def jY(l:List UInt8)(p:Nat):Res BA:=qJ l (l.length+1-p) p ⟨#[]⟩
def gM(m m':zn)(s:BA):Prop:=m'.state=8/\m'.opn=m.opn/\m'.nodes=m.nodes/\m'.named=m.named/\m'.root=m.root/\m'.got=s
theorem Wp(l:List UInt8)(f:Nat)(m:zn)(p:Nat)(acc:BA)(n:p<=l.length)(I:l.length<p+f)(c:m.state=8)(b:m.got=acc) :
  match qJ l f p acc with
  | .ok s q=>p<q/\q<=l.length/\zi l (q-1)=34/\∃m',gM m m' s/\verdict l m p=verdict l m' (q-1)
  | .err e q=>Fails l m p e q:=by
 induction f generalizing m p acc with
 | zero=>omega
 | succ f o=>
  rw[qJ]
  by_cases h34:zi l p=34
  ·rw[zb h34];have k:=qy l p (by omega);exact⟨by omega,by omega,by simpa using h34,m,⟨c,rfl,rfl,rfl,rfl,b⟩,by simp⟩
  rw[za h34];have a:=DI l m p n c h34
  cases hm:yw l p with
  | err e q=>rw[hm] at a;exact a
  | ok s q=>
   rw[hm] at a;obtain⟨H,j,y,⟨A,B,C,D,E,F⟩,d⟩:=a;have hi:=o y q (acc++s) j (by omega) A (by rw[F,b]);simp only
   cases hr:qJ l f q (acc++s) with
   | err e z=>rw[hr] at hi;exact Fails.of_eq hi d
   | ok J z=>
    rw[hr] at hi;obtain⟨G,g,h,m',⟨r,t,u,v,w,x⟩,i⟩:=hi;exact⟨by omega,g,h,m',⟨r,by rw[t,B],by rw[u,C],by rw[v,D],by rw[w,E],x⟩,d.trans i⟩
theorem fG(l:List UInt8)(m:zn)(p:Nat)(b:p<=l.length)(c:m.state=8)(a:m.got=⟨#[]⟩) :
  match jY l p with
  | .ok s q=>p<q/\q<=l.length/\zi l (q-1)=34/\∃m',gM m m' s/\verdict l m p=verdict l m' (q-1)
  | .err e q=>Fails l m p e q:=Wp l _ m p ⟨#[]⟩ b (by omega) c a
inductive V where
 | str (s:BA)
 | word (b:Bool)
 | list (l:List V)
 | obj (l:List (BA×V))
inductive Rep (ns:List Ref.Node):Nat->V->Prop
 | str (i:Nat) (n:Ref.Node) (s:BA):ns[i]?=some n->n.kind=3->n.text=s->n.kids=[]->n.names=[]->Rep ns i (.str s)
 | word (i:Nat) (n:Ref.Node) (b:Bool):ns[i]?=some n->n.kind=(if b then 4 else 5)->n.kids=[]->n.names=[]->Rep ns i (.word b)
 | list (i:Nat) (n:Ref.Node) (vs:List V):ns[i]?=some n->n.kind=2->n.names=[]->n.kids.length=vs.length ->
   (∀k ∈ n.kids,i<k)->(∀(j k:Nat) (v:V),n.kids[j]?=some k->vs[j]?=some v->Rep ns k v)->Rep ns i (.list vs)
 | obj (i:Nat) (n:Ref.Node) (ms:List (BA×V)):ns[i]?=some n->n.kind=1->n.names=ms.map Prod.fst->n.kids.length=ms.length ->
   (∀k ∈ n.kids,i<k)->(∀(j k:Nat) (x:BA×V),n.kids[j]?=some k->ms[j]?=some x->Rep ns k x.2)->Rep ns i (.obj ms)
theorem Rep.more{t o:List Ref.Node}{i:Nat}{v:V}(h:Rep t i v)(l:∀(j:Nat) (n:Ref.Node),i<=j->t[j]?=some n->o[j]?=some n):Rep o i v:=by
 induction h with
 | str i n s a c d e f=>exact .str i n s (l i n (ze _) a) c d e f
 | word i n b a c d e=>exact .word i n b (l i n (ze _) a) c d e
 | list i n z a c d e f _ p=>
  exact .list i n z (l i n (ze _) a) c d e f (λj k v m w=>p j k v m w (λq r u g=>l q r (by have:=f k (ZN m);omega) g))
 | obj i n ms a c d e f _ p=>
  exact .obj i n ms (l i n (ze _) a) c d e f (λj k x m y=>p j k x m y (λq r u g=>l q r (by have:=f k (ZN m);omega) g))
def base(m:zn):List Ref.Node:=if m.opn=[] then m.nodes else XK (m.opn.getLastD 0) m.nodes.length m.nodes
structure Q9 (m m':zn) (v:V):Prop where
 state:m'.state=6
 opn:m'.opn=m.opn
 old:m'.nodes.take m.nodes.length=base m
 rep:Rep m'.nodes m.nodes.length v
 root:m'.root=if m.opn=[] then (m.nodes.length:Int) else m.root
theorem Uj(m:zn):(base m).length=m.nodes.length:=by
 unfold base;split
 ·rfl
 ·simp[XK]
def Y4(m:zn):Prop:=∀o ∈ m.opn,o<m.nodes.length
theorem MC(l:List Nat)(h:l≠[]):l.getLastD 0 ∈ l:=by
 cases l with
 | nil=>exact absurd rfl h
 | cons a r=>rw[List.getLastD_eq_getLast?,List.getLast?_eq_some_getLast (by simp)];exact List.getLast_mem _
theorem UU(m:zn)(n:Ref.Node)(b:Y4 m):(lay m n).nodes=base m++[n]:=by
 unfold lay base
 by_cases h:m.opn=[]
 ·rw[zb h,zb h]
 ·rw[za h,za h];have a:=b _ (MC m.opn h);generalize m.opn.getLastD 0=t at a |-;unfold XK;simp only;apply KP;intro i;rw[Va]
  by_cases hi:i<m.nodes.length
  ·rw[Y1 hi,Y1 (by simpa using hi),Va]
  ·rw[V8 (by omega),V8 (by simp;omega)]
   have:¬t=i:=by omega
   simp[this]
theorem oG(m:zn)(n:Ref.Node):(lay m n).root=if m.opn=[] then (m.nodes.length:Int) else m.root:=by
 unfold lay;split<;>rfl
theorem Ap(m m':zn)(n:Ref.Node)(v:V)(d:Y4 m)(b:m'.state=6)(a:m'.opn=m.opn)(c:m'.nodes=(lay m n).nodes)(e:m'.root=(lay m n).root)(f:Rep m'.nodes m.nodes.length v):Q9 m m' v:=by
 refine⟨b,a,?_,f,by rw[e,oG]⟩;rw[c,UU m n d,<- Uj m,List.take_left]
theorem cu(m:zn)(n:Ref.Node)(a:Y4 m):(lay m n).nodes[m.nodes.length]?=some n:=by
 rw[UU m n a,<- Uj m];simp
structure qV (m0 m:zn) (kind:Int) (names:List BA) (vs:List V):Prop where
 opn:m.opn=m0.opn++[m0.nodes.length]
 old:m.nodes.take m0.nodes.length=base m0
 node:∃n:Ref.Node,m.nodes[m0.nodes.length]?=some n/\n.kind=kind/\n.names=names/\n.kids.length=vs.length/\(∀c ∈ n.kids,m0.nodes.length<c)/\∀(j c:Nat) (v:V),n.kids[j]?=some c->vs[j]?=some v->Rep m.nodes c v
 root:m.root=if m0.opn=[] then (m0.nodes.length:Int) else m0.root
 opens:Y4 m
theorem qV.like{c m m':zn}{kind:Int}{names:List BA}{d:List V}(h:qV c m kind names d)(b:m'.opn=m.opn)(a:m'.nodes=m.nodes)(i:m'.root=m.root):qV c m' kind names d:=by
 refine⟨by rw[b];exact h.opn,by rw[a];exact h.old,?_,by rw[i];exact h.root,λo g=>by rw[a];exact h.opens o (by rw[<- b];exact g)⟩;obtain⟨n,e,f⟩:=h.node;exact⟨n,by rw[a];exact e,by rw[a];exact f⟩
theorem qV.top{a m:zn}{kind:Int}{names:List BA}{b:List V}(h:qV a m kind names b):m.opn.getLastD 0=a.nodes.length:=by
 rw[h.opn,List.getLastD_eq_getLast?];simp
theorem qV.ne{a m:zn}{kind:Int}{names:List BA}{b:List V}(h:qV a m kind names b):m.opn≠[]:=by
 rw[h.opn];simp
theorem qV.kindTop{c m:zn}{kind:Int}{names:List BA}{d:List V}(h:qV c m kind names d):KA m=kind:=by
 obtain⟨n,a,b,_⟩:=h.node;unfold KA;rw[h.top,a];exact b
theorem qV.namesTop{c m:zn}{kind:Int}{names:List BA}{d:List V}(h:qV c m kind names d):gz m=names:=by
 obtain⟨n,a,_,b,_⟩:=h.node;unfold gz;rw[h.top,a];exact b
theorem qV.lt{a m:zn}{kind:Int}{names:List BA}{c:List V}(h:qV a m kind names c):a.nodes.length<m.nodes.length:=by
 obtain⟨n,b,_⟩:=h.node;exact (qY.1 b).1
theorem pV(a m:zn)(n:Ref.Node)(d:Y4 a)(b:m.opn=a.opn++[a.nodes.length])(e:m.nodes=(lay a n).nodes)(i:m.root=(lay a n).root)(f:n.kids=[]):qV a m n.kind n.names []:=by
 refine⟨b,?_,⟨n,by rw[e];exact cu a n d,rfl,rfl,by rw[f];rfl,by rw[f];simp,λj c v _ k=>by simp at k⟩,by rw[i,oG],?_⟩
 ·rw[e,UU a n d,<- Uj a,List.take_left]
 ·intro o g;rw[e,UU a n d,xm,Uj];rw[b] at g
  rcases ZM.1 g with h|h
  ·have:=d o h;simp;omega
  ·simp at h;subst h;simp
theorem WN{l a:List Ref.Node}{k:Nat}(h:a.take k=l)(i:Nat)(hi:i<k):a[i]?=l[i]?:=by
 rw[<- h,QY,zb hi]
theorem Q9.len{m m':zn}{v:V}(h:Q9 m m' v):m.nodes.length<m'.nodes.length:=by
 have:∃n,m'.nodes[m.nodes.length]?=some n:=by
  cases h.rep with
  | str i n s a=>exact⟨n,a⟩
  | word i n b a=>exact⟨n,a⟩
  | list i n d a=>exact⟨n,a⟩
  | obj i n ms a=>exact⟨n,a⟩
 obtain⟨n,c⟩:=this;exact (qY.1 c).1
theorem pW{d m m':zn}{kind:Int}{names:List BA}{x:List V}{v:V}(h:qV d m kind names x)(l:Q9 m m' v):qV d m' kind names (x++[v]):=by
 have p:=h.lt;have hlen:=l.len;have g:base m=XK d.nodes.length m.nodes.length m.nodes:=by unfold base;rw[za h.ne,h.top]
 have f:∀i,i<m.nodes.length->m'.nodes[i]?=(XK d.nodes.length m.nodes.length m.nodes)[i]?:=λi hi=>by
  rw[<- g];exact WN l.old i hi
 have a:∀i,i<m.nodes.length->i≠d.nodes.length->m'.nodes[i]?=m.nodes[i]?:=λi hi u=>by
  rw[f i hi];unfold XK;rw[Va]
  have:¬d.nodes.length=i:=λe=>u e.symm
  simp[this]
 obtain⟨n,C,D,E,F,A,G⟩:=h.node
 have H:m'.nodes[d.nodes.length]?=some { n with kids:=n.kids++[m.nodes.length] }:=by
  rw[f _ p];unfold XK;rw[Va,C]
  simp
 have k:∀c w,d.nodes.length<c->Rep m.nodes c w->Rep m'.nodes c w:=λc w b I=>I.more λj J s q=>by
  have t:=(qY.1 q).1;rw[a j t (by omega)];exact q
 refine⟨by rw[l.opn];exact h.opn,?_,⟨_,H,D,E,by simp[F],?_,?_⟩,by rw[l.root,za h.ne];exact h.root,?_⟩
 ·rw[<- h.old];apply KP;intro i;rw[QY,QY]
  by_cases hi:i<d.nodes.length
  ·rw[zb hi,zb hi,a i (by omega) (by omega)]
  ·rw[za hi,za hi]
 ·intro c b
  rcases ZM.1 b with h|h
  ·exact A c h
  ·simp at h;subst h;exact p
 ·intro j c w b r;simp only at b;rw[List.getElem?_append] at b r
  by_cases s:j<x.length
  ·rw[zb (by omega)] at b;rw[zb s] at r;exact k c w (A c (ZN b)) (G j c w b r)
  ·rw[za (by omega)] at b;rw[za s] at r;have y:=ZN b;have z:=ZN r;simp at y z;subst y;subst z;exact l.rep
 ·intro o B;rw[l.opn] at B
  have:=h.opens o B
  omega
theorem NZ{b m m':zn}{names:List BA}{r:List V}{s:BA}(h:qV b m 1 names r)(q:m'.opn=m.opn)(d:m'.nodes=Yq b.nodes.length s m.nodes)(C:m'.root=m.root):qV b m' 1 (names++[s]) r:=by
 have B:=h.lt
 have a:∀i,i≠b.nodes.length->m'.nodes[i]?=m.nodes[i]?:=λi g=>by
  rw[d];unfold Yq;rw[Va]
  have:¬b.nodes.length=i:=λe=>g e.symm
  simp[this]
 obtain⟨n,t,u,v,x,k,y⟩:=h.node
 have A:m'.nodes[b.nodes.length]?=some { n with names:=n.names++[s] }:=by
  rw[d];unfold Yq;rw[Va,t]
  simp
 refine⟨by rw[q];exact h.opn,?_,⟨_,A,u,by simp[v],x,k,?_⟩,by rw[C];exact h.root,?_⟩
 ·rw[<- h.old];apply KP;intro i;rw[QY,QY]
  by_cases hi:i<b.nodes.length
  ·rw[zb hi,zb hi,a i (by omega)]
  ·rw[za hi,za hi]
 ·intro j c w l D;have z:=k c (ZN l);exact (y j c w l D).more λi E hi f=>by rw[a i (by omega)];exact f
 ·intro o p;rw[q] at p
  have:=h.opens o p
  rw[d];simpa [Yq] using this
theorem Aq{d m m':zn}{b:List V}(h:qV d m 2 [] b)(k:m'.state=6)(l:m'.opn=m.opn.dropLast)(c:m'.nodes=m.nodes)(o:m'.root=m.root):Q9 d m' (.list b):=by
 obtain⟨n,e,f,g,i,j,a⟩:=h.node;refine⟨k,by rw[l,h.opn];simp,by rw[c];exact h.old,?_,by rw[o];exact h.root⟩;rw[c];exact .list _ n b e f g i j a
theorem Ar{c m m':zn}{ms:List (BA×V)}(h:qV c m 1 (ms.map Prod.fst) (ms.map Prod.snd))(l:m'.state=6)(p:m'.opn=m.opn.dropLast)(b:m'.nodes=m.nodes)(q:m'.root=m.root):Q9 c m' (.obj ms):=by
 obtain⟨n,d,e,f,g,i,a⟩:=h.node;refine⟨l,by rw[p,h.opn];simp,by rw[b];exact h.old,?_,by rw[q];exact h.root⟩;rw[b];refine .obj _ n ms d e f (by rw[g,zN]) i (λj k x o r=>a j k x.2 o ?_);rw[jN,r];rfl
def qf(l:List UInt8):List Nat->Nat->Res Unit
 | [],p => .ok () p
 | b::r,p=>if zi l p=b then qf l r (p+1) else .err 2 p
mutual
def qi(l:List UInt8):Nat->Nat->Nat->Res V
 | 0,_,p => .err 2 p
 | f+1,d,p=>
  if zi l p=123 then (if 8<d then .err 3 p else if zi l (skip l (p+1))=125 then .ok (.obj []) (skip l (p+1)+1) else uh l f d (skip l (p+1)) [])
  else if zi l p=91 then (if 8<d then .err 3 p else if zi l (skip l (p+1))=93 then .ok (.list []) (skip l (p+1)+1) else ug l f d (skip l (p+1)) [])
  else if zi l p=34 then (match jY l (p+1) with
   | .ok s q => .ok (.str s) q
   | .err e q => .err e q)
  else if zi l p=116 then (match qf l [114,117,101] (p+1) with
   | .ok _ q => .ok (.word true) q
   | .err e q => .err e q)
  else if zi l p=102 then (match qf l [97,108,115,101] (p+1) with
   | .ok _ q => .ok (.word false) q
   | .err e q => .err e q)
  else .err 2 p
def ug(l:List UInt8):Nat->Nat->Nat->List V->Res V
 | 0,_,p,_ => .err 2 p
 | f+1,d,p,acc=>match qi l f (d+1) p with
  | .err e q => .err e q
  | .ok v q=>
   if zi l (skip l q)=44 then ug l f d (skip l (skip l q+1)) (acc++[v])
   else if zi l (skip l q)=93 then .ok (.list (acc++[v])) (skip l q+1)
   else .err 2 (skip l q)
def uh(l:List UInt8):Nat->Nat->Nat->List (BA×V)->Res V
 | 0,_,p,_ => .err 2 p
 | f+1,d,p,acc=>
  if zi l p≠34 then .err 2 p else match jY l (p+1) with
  | .err e q => .err e q
  | .ok s q=>
   if acc.any (λx=>x.1.toList==s.toList) then .err 4 (q-1)
   else if zi l (skip l q)≠58 then .err 2 (skip l q)
   else match qi l f (d+1) (skip l (skip l q+1)) with
   | .err e a => .err e a
   | .ok v a=>
    if zi l (skip l a)=44 then uh l f d (skip l (skip l a+1)) (acc++[(s,v)])
    else if zi l (skip l a)=125 then .ok (.obj (acc++[(s,v)])) (skip l a+1)
    else .err 2 (skip l a)
end
def Yo(l:List UInt8)(a m:zn)(p:Nat)(r:Res V):Prop:=match r with
 | .ok v q=>p<q/\q<=l.length/\∃m',Q9 a m' v/\verdict l m p=verdict l m' q
 | .err e q=>Fails l m p e q
theorem Yo.of_eq{l:List UInt8}{c m m':zn}{p a:Nat}{r:Res V}(h:Yo l c m' a r)(k:p<=a)(b:verdict l m p=verdict l m' a):Yo l c m p r:=by
 cases r with
 | ok v q=>
  obtain⟨j,d,i,f,g⟩:=h;exact⟨by omega,d,i,f,b.trans g⟩
 | err e q=>exact Fails.of_eq h b
theorem zaC(l:List UInt8)(r:List Nat)(m:zn)(p:Nat)(B:p<=l.length)(C:r≠[])(D:m.state=7)(d:m.word.data.toList.map UInt8.toNat=r)(j:∀b ∈ r,b≠0) :
  match qf l r p with
  | .ok _ q=>p<q/\q<=l.length/\∃m':zn,m'.state=6/\m'.opn=m.opn/\m'.nodes=m.nodes/\m'.root=m.root/\verdict l m p=verdict l m' q
  | .err e q=>Fails l m p e q:=by
 induction r generalizing m p with
 | nil=>exact absurd rfl C
 | cons b r E=>
  have a:=TC m (zi l p:Int) D
  have hlen:m.word.size=r.length+1:=by
   have:=congrArg List.length d
   rw[zN,zG] at this
   simpa using this
  have g:(m.word.data.toList.getD 0 0).toNat=b:=by
   cases hl:m.word.data.toList with
   | nil=>rw[hl] at d;simp at d
   | cons c t=>rw[hl] at d;simp at d;simpa using d.1
  rw[g] at a;rw[qf]
  by_cases hb:zi l p=b
  ·rw[zb hb];rw[za (by omega)] at a;have z:=j b (by simp);have h:=qy l p (by omega);have i:=xY l m _ p h a
   by_cases hr0:r=[]
   ·subst hr0;rw[qf];refine⟨by omega,by omega,_,?_,?_,?_,?_,i⟩
    ·simp only;rw[zb (by rw[hlen];rfl)]
    ·rfl
    ·rfl
    ·rfl
   ·have A:¬m.word.size=1:=by rw[hlen];cases r with|nil=>exact absurd rfl hr0|cons _ _=>simp
    have hi:=E { m with word:=m.word.extract 1 m.word.size,state:=if m.word.size=1 then 6 else 7 } (p+1) (by omega) hr0 (by simp only;rw[za A])
     (by
       simp only
       have e:(m.word.extract 1 m.word.size).data.toList=m.word.data.toList.drop 1:=by
        have y:m.word.data.toList.length=m.word.size:=zG _;simp only[XB,YV,J8];rw[uW (by simp[y])]
       rw[e,List.map_drop,d];rfl)
     (λk f=>j k (by simp[f]))
    cases hw2:qf l r (p+1) with
    | ok u q=>
     rw[hw2] at hi;obtain⟨F,n,m',o,s,v,w,x⟩:=hi;exact⟨by omega,n,m',o,s,v,w,i.trans x⟩
    | err e q=>rw[hw2] at hi;exact Fails.of_eq hi i
  ·rw[za hb];rw[zb (by omega)] at a;exact Zk l m p B (.inl (by omega)) 2 (by decide) (by rw[a]) (λ_=>rfl)
theorem TD(m:zn)(b:Nat)(h:m.state=1\/m.state=2)(hb:blank b=false)(a:¬(m.state=2/\b=93)):Ref.step m (b:Int)=Uk m (b:Int):=by
 rw[VO m _ (by omega),Vk,hb,za (by decide),za (by omega),za (by omega),za (by omega)]
theorem fD(m:zn)(b:Nat)(h:m.state=6\/m.state=5)(hb:blank b=false):Ref.step m (b:Int)=after m (b:Int):=by
 rw[VO m _ (by omega),Vk,hb,za (by decide),zb h]
theorem TJ(m:zn)(b:Nat)(h:m.state=3\/m.state=4)(hb:blank b=false)(a:¬(m.state=3/\b=125)):Ref.step m (b:Int)=if (b:Int)≠34 then (2,m) else (0,{ m with state:=8,named:=true,got:=⟨#[]⟩ }):=by
 rw[VO m _ (by omega),Vk,hb,za (by decide),za (by omega),za (by omega),zb h]
theorem step_end(m:zn)(b:Nat)(h:(m.state=2/\b=93)\/(m.state=3/\b=125)):Ref.step m (b:Int)=ko m (b:Int):=by
 rw[VO m _ (by omega),Vk]
 have hb:blank b=false:=by
  rcases h with ⟨_,rfl⟩|⟨_,rfl⟩<;>decide
 rw[hb,za (by decide),za (by omega),zb (by omega)]
theorem mQ{a m:zn}{b:List V}(h:qV a m 2 [] b):ko m 93=(0,{ m with opn:=m.opn.dropLast,state:=6 }):=by
 unfold ko;rw[za h.ne,h.kindTop];rfl
theorem mR{a m:zn}{names:List BA}{b:List V}(h:qV a m 1 names b):ko m 125=(0,{ m with opn:=m.opn.dropLast,state:=6 }):=by
 unfold ko;rw[za h.ne,h.kindTop];rfl
theorem MO(l:List UInt8){f m:zn}{g:List V}(h:qV f m 2 [] g)(j:m.state=6)(p:Nat)(k:p<=l.length) :
  (zi l (skip l p)=44->∃m',m'.state=1/\qV f m' 2 [] g/\skip l p<l.length/\verdict l m p=verdict l m' (skip l (skip l p+1))) /\
  (zi l (skip l p)=93->∃m',Q9 f m' (.list g)/\skip l p<l.length/\verdict l m p=verdict l m' (skip l p+1)) /\
  (zi l (skip l p)≠44->zi l (skip l p)≠93->Fails l m p 2 (skip l p)):=by
 have d:=X9 l m (by omega) p;have hle:=ul l p k;have a:=fD m (zi l (skip l p)) (.inl j) (Zh l p);unfold after at a;rw[za (by omega),za (by rintro (h|i);omega;exact h.ne i)] at a;refine⟨λhb=>?_,λhb=>?_,λn o=>?_⟩
 ·rw[za (by omega),za (by omega),h.kindTop,za (by decide)] at a;have b:=qy l (skip l p) (by omega);have c:=xY l m _ (skip l p) b a;refine⟨{ m with state:=1 },rfl,h.like rfl rfl rfl,b,(d.trans c).trans (X9 l _ (show (1:Int)<7 by decide) _)⟩
 ·rw[zb (by omega),hb] at a;have b:=qy l (skip l p) (by omega);have e:ko m ((93:Nat):Int)=_:=mQ h;rw[e] at a;have c:=xY l m _ (skip l p) b (by rw[hb];exact a);refine⟨_,?_,b,d.trans c⟩;exact Aq h rfl rfl rfl rfl
 ·refine Fails.of_eq (Zk l m (skip l p) hle (.inr h.ne) 2 (by decide) ?_ (λ_=>rfl)) d;rw[a]
  by_cases h3:(zi l (skip l p):Int)=125\/(zi l (skip l p):Int)=93
  ·rw[zb h3];unfold ko;rw[za h.ne,h.kindTop,zb];have e:(zi l (skip l p):Int)=125:=by omega
   rw[e];decide
  ·rw[za h3,zb (by omega)]
theorem Oi(l:List UInt8){f m:zn}{ms:List (BA×V)}(h:qV f m 1 (ms.map Prod.fst) (ms.map Prod.snd))(i:m.state=6)(p:Nat)(j:p<=l.length) :
  (zi l (skip l p)=44->∃m',m'.state=4/\qV f m' 1 (ms.map Prod.fst) (ms.map Prod.snd)/\skip l p<l.length/\verdict l m p=verdict l m' (skip l (skip l p+1))) /\
  (zi l (skip l p)=125->∃m',Q9 f m' (.obj ms)/\skip l p<l.length/\verdict l m p=verdict l m' (skip l p+1)) /\
  (zi l (skip l p)≠44->zi l (skip l p)≠125->Fails l m p 2 (skip l p)):=by
 have d:=X9 l m (by omega) p;have hle:=ul l p j;have a:=fD m (zi l (skip l p)) (.inl i) (Zh l p);unfold after at a;rw[za (by omega),za (by rintro (h|g);omega;exact h.ne g)] at a;refine⟨λhb=>?_,λhb=>?_,λk n=>?_⟩
 ·rw[za (by omega),za (by omega),h.kindTop,zb rfl] at a;have b:=qy l (skip l p) (by omega);have c:=xY l m _ (skip l p) b a;refine⟨{ m with state:=4 },rfl,h.like rfl rfl rfl,b,(d.trans c).trans (X9 l _ (show (4:Int)<7 by decide) _)⟩
 ·rw[zb (by omega),hb] at a;have b:=qy l (skip l p) (by omega);have e:ko m ((125:Nat):Int)=_:=mR h;rw[e] at a;have c:=xY l m _ (skip l p) b (by rw[hb];exact a);refine⟨_,?_,b,d.trans c⟩;exact Ar h rfl rfl rfl rfl
 ·refine Fails.of_eq (Zk l m (skip l p) hle (.inr h.ne) 2 (by decide) ?_ (λ_=>rfl)) d;rw[a]
  by_cases h3:(zi l (skip l p):Int)=125\/(zi l (skip l p):Int)=93
  ·rw[zb h3];unfold ko;rw[za h.ne,h.kindTop,zb];have e:(zi l (skip l p):Int)=93:=by omega
   rw[e];decide
  ·rw[za h3,zb (by omega)]
def AV(l:List UInt8)(f:Nat):Prop:=∀(m:zn) (d p:Nat),(m.state=1\/m.state=2)->Y4 m->m.opn.length+1=d->p<=l.length->blank (zi l p)=false->¬(m.state=2/\zi l p=93)->2*(l.length-p)<f ->
 Yo l m m p (qi l f d p)
def AL(l:List UInt8)(f:Nat):Prop:=∀(a m:zn) (d p:Nat) (acc:List V),qV a m 2 [] acc->(m.state=1\/m.state=2)->a.opn.length+1=d->p<=l.length->blank (zi l p)=false->¬(m.state=2/\zi l p=93)->2*(l.length-p)+1<f ->
 Yo l a m p (ug l f d p acc)
def AO(l:List UInt8)(f:Nat):Prop:=∀(a m:zn) (d p:Nat) (acc:List (BA×V)),qV a m 1 (acc.map Prod.fst) (acc.map Prod.snd)->(m.state=3\/m.state=4)->a.opn.length+1=d->p<=l.length->blank (zi l p)=false->¬(m.state=3/\zi l p=125)->2*(l.length-p)+1<f ->
 Yo l a m p (uh l f d p acc)
theorem Vx(m a:zn)(b:a.opn=m.opn)(c:a.nodes=m.nodes)(d:a.root=m.root)(n:Ref.Node):(lay a n).nodes=(lay m n).nodes/\(lay a n).root=(lay m n).root:=by
 unfold lay;rw[b,c]
 by_cases hE:m.opn=[]
 ·rw[zb hE,zb hE];exact⟨rfl,rfl⟩
 ·rw[za hE,za hE];exact⟨rfl,d⟩
theorem MS(l:List UInt8)(f:Nat)(z:AV l f)(y:AL l f):AL l (f+1):=by
 intro D m d p acc o B hd A hb j I;have a:m.opn.length+1=d+1:=by rw[o.opn,xm];simp;omega
 have c:=z m (d+1) p B o.opens a A hb j (by omega);rw[ug]
 cases hr:qi l f (d+1) p with
 | err e q=>rw[hr] at c;exact c
 | ok v q=>
  rw[hr] at c;obtain⟨H,x,J,w,k⟩:=c;have r:=pW o w;obtain⟨g,h,i⟩:=MO l r w.state q x;simp only;have C:=yY l q
  by_cases c1:zi l (skip l q)=44
  ·rw[zb c1];obtain⟨s,F,E,n,t⟩:=g c1;clear g h i;have u:=yY l (skip l q+1);have b:=ul l (skip l q+1) (by omega)
   have:=y D s d (skip l (skip l q+1)) (acc++[v]) E (.inl F) hd b (Zh l _) (by omega) (by omega)
   exact this.of_eq (by omega) (k.trans t)
  rw[za c1]
  by_cases c2:zi l (skip l q)=93
  ·rw[zb c2];obtain⟨s,G,n,t⟩:=h c2;clear g h i;exact⟨by omega,by omega,s,G,k.trans t⟩
  rw[za c2];exact Fails.of_eq (i c1 c2) k
theorem Om(l:List UInt8)(f:Nat)(hV:AV l f)(hO:AO l f):AO l (f+1):=by
 intro J m d p acc X hs hd hp hb B hf;rw[uh];have n:=TJ m (zi l p) hs hb B
 by_cases c0:zi l p=34
 ·rw[za (by simpa using c0)];rw[za (by omega)] at n;have O:=qy l p (by omega);have S:=xY l m _ p O n;have g:=fG l { m with state:=8,named:=true,got:=⟨#[]⟩ } (p+1) (by omega) rfl rfl
  cases hr:jY l (p+1) with
  | err e q=>rw[hr] at g;exact Fails.of_eq g S
  | ok s q=>
   rw[hr] at g;obtain⟨h1,h2,h3,a,⟨k1,k2,k3,k4,k5,k6⟩,W⟩:=g;simp only;have r:qV J a 1 (acc.map Prod.fst) (acc.map Prod.snd):=X.like k2 k3 k5
   have c:Ref.step a (zi l (q-1):Int)=closed a:=by
    rw[Kl a _ k1,h3];unfold plain;rw[zb (by decide)]
   have T:a.named=true:=k4
   have C:(acc.map Prod.fst).any (λx=>x.toList==a.got.toList)=acc.any (λx=>x.1.toList==s.toList):=by
    rw[k6,Qp];rfl
   have N:closed a=if acc.any (λx=>x.1.toList==s.toList)=true then (4,a) else (0,{ a with nodes:=Yq (a.opn.getLastD 0) a.got a.nodes,state:=5 }):=by
    unfold closed;rw[za (by rw[T];decide),r.namesTop,C]
   rw[N] at c
   by_cases c1:acc.any (λx=>x.1.toList==s.toList)=true
   ·rw[zb c1];rw[zb c1] at c;exact Fails.of_eq (zas l a (q-1) (by omega) 4 (by decide) (by rw[c])) (S.trans W)
   rw[za c1];rw[za c1] at c;have z:=xY l a _ (q-1) (by omega) c;rw[show q-1+1=q by omega] at z;obtain⟨j,k⟩:∃j:zn,j={ a with nodes:=Yq (a.opn.getLastD 0) a.got a.nodes,state:=5 }:=⟨_,rfl⟩
   rw[<- k] at z
   have P:qV J j 1 (acc.map Prod.fst++[s]) (acc.map Prod.snd):=by
    have:=NZ (s:=a.got) r (m':=j) (by rw[k]) (by rw[k];simp only;rw[r.top]) (by rw[k])
    rw[k6] at this;exact this
   have u:j.state=5:=by rw[k]
   have H:=((S.trans W).trans z).trans (X9 l j (by omega) q);have b4:=yY l q;have G:=ul l q h2;have b:=fD j (zi l (skip l q)) (.inr u) (Zh l q);unfold after at b
   by_cases c2:zi l (skip l q)=58
   ·rw[za (by simpa using c2)];rw[zb ⟨u,by omega⟩] at b;have D:=qy l (skip l q) (by omega);have I:=H.trans ((xY l j _ (skip l q) D b).trans (X9 l _ (show (1:Int)<7 by decide) _));have t:qV J { j with state:=1 } 1 (acc.map Prod.fst++[s]) (acc.map Prod.snd):=P.like rfl rfl rfl
    have Y:=yY l (skip l q+1);have w:=ul l (skip l q+1) (by omega);have F:({ j with state:=1 }:zn).opn.length+1=d+1:=by rw[t.opn,xm];simp;omega
    have i:=hV { j with state:=1 } (d+1) (skip l (skip l q+1)) (.inl rfl) t.opens F w (Zh l _) (λh=>absurd h.1 (show ¬(1:Int)=2 by decide)) (by omega)
    cases hr2:qi l f (d+1) (skip l (skip l q+1)) with
    | err e o=>rw[hr2] at i;exact Fails.of_eq i I
    | ok v o=>
     rw[hr2] at i;obtain⟨g1,g2,m4,ht,ge⟩:=i;have Q:=pW t ht;have R:qV J m4 1 ((acc++[(s,v)]).map Prod.fst) ((acc++[(s,v)]).map Prod.snd):=by simpa using Q
     obtain⟨K,L,M⟩:=Oi l R ht.state o g2;simp only;have Z:=yY l o;have A:=I.trans ge
     by_cases c3:zi l (skip l o)=44
     ·rw[zb c3];obtain⟨U,s5,n5,E,V⟩:=K c3;clear K L M;have a0:=yY l (skip l o+1);have y:=ul l (skip l o+1) (by omega)
      have:=hO J U d (skip l (skip l o+1)) (acc++[(s,v)]) n5 (.inr s5) hd y (Zh l _) (by omega) (by omega)
      exact this.of_eq (by omega) (A.trans V)
     rw[za c3]
     by_cases c4:zi l (skip l o)=125
     ·rw[zb c4];obtain⟨U,t5,E,V⟩:=L c4;clear K L M;exact⟨by omega,by omega,U,t5,A.trans V⟩
     rw[za c4];exact Fails.of_eq (M c3 c4) A
   ·rw[zb c2];rw[za (by omega),zb (.inl u)] at b;exact Fails.of_eq (Zk l j (skip l q) G (.inl (by omega)) 2 (by decide) (by rw[b]) (λ_=>rfl)) H
 ·rw[zb c0];rw[zb (by omega)] at n;exact Zk l m p hp (.inr X.ne) 2 (by decide) (by rw[n]) (λ_=>rfl)
theorem zan(l:List UInt8)(f:Nat)(U:AL l f)(V:AO l f):AV l (f+1):=by
 intro m d p X F hd J hb H hf;rw[qi];have a:=TD m (zi l p) X hb H;unfold Uk at a;have v:Inc m := .inl (by omega)
 by_cases c1:zi l p=123
 ·rw[zb c1];rw[zb (by omega)] at a
  by_cases c2:8<d
  ·rw[zb c2];rw[zb (by omega)] at a;exact Zk l m p J v 3 (by decide) (by rw[a]) (λh=>by omega)
  rw[za c2];rw[za (by omega)] at a;simp only at a;rw[za (by omega),za (by omega)] at a;have n:=qy l p (by omega);have B:=xY l m _ p n a;obtain⟨c,g⟩:∃c:zn,c={ (lay { m with state:=3 } { kind:=1,text:=⟨#[]⟩,names:=[],kids:=[] }) with opn:=m.opn++[m.nodes.length] }:=⟨_,rfl⟩
  rw[<- g] at B;have o:qV m c 1 [] []:=pV m c { kind:=1,text:=⟨#[]⟩,names:=[],kids:=[] } F (by rw[g]) (by rw[g];exact (Vx m { m with state:=3 } rfl rfl rfl _).1) (by rw[g];exact (Vx m { m with state:=3 } rfl rfl rfl _).2) rfl
  have y:c.state=3:=by rw[g];exact oH _ _
  have k:=B.trans (X9 l c (by omega) (p+1));have K:=yY l (p+1);have z:=ul l (p+1) (by omega)
  by_cases c3:zi l (skip l (p+1))=125
  ·rw[zb c3];have i:=step_end c (zi l (skip l (p+1))) (.inr ⟨y,c3⟩);rw[c3] at i;have e:ko c ((125:Nat):Int)=_:=mR o;rw[e] at i;have x:=qy l (skip l (p+1)) (by omega);have D:=k.trans (xY l c _ (skip l (p+1)) x (by rw[c3];exact i));refine⟨by omega,by omega,_,?_,D⟩;exact Ar (ms:=[]) o rfl rfl rfl rfl
  rw[za c3]
  have:=V m c d (skip l (p+1)) [] o (.inl y) hd z (Zh l _) (by omega) (by omega)
  exact this.of_eq (by omega) k
 rw[za c1]
 by_cases c2:zi l p=91
 ·rw[zb c2];rw[zb (by omega)] at a
  by_cases c3:8<d
  ·rw[zb c3];rw[zb (by omega)] at a;exact Zk l m p J v 3 (by decide) (by rw[a]) (λh=>by omega)
  rw[za c3];rw[za (by omega)] at a;simp only at a;rw[zb (by omega),zb (by omega)] at a;have n:=qy l p (by omega);have B:=xY l m _ p n a;obtain⟨c,g⟩:∃c:zn,c={ (lay { m with state:=2 } { kind:=2,text:=⟨#[]⟩,names:=[],kids:=[] }) with opn:=m.opn++[m.nodes.length] }:=⟨_,rfl⟩
  rw[<- g] at B;have o:qV m c 2 [] []:=pV m c { kind:=2,text:=⟨#[]⟩,names:=[],kids:=[] } F (by rw[g]) (by rw[g];exact (Vx m { m with state:=2 } rfl rfl rfl _).1) (by rw[g];exact (Vx m { m with state:=2 } rfl rfl rfl _).2) rfl
  have y:c.state=2:=by rw[g];exact oH _ _
  have k:=B.trans (X9 l c (by omega) (p+1));have K:=yY l (p+1);have z:=ul l (p+1) (by omega)
  by_cases c4:zi l (skip l (p+1))=93
  ·rw[zb c4];have i:=step_end c (zi l (skip l (p+1))) (.inl ⟨y,c4⟩);rw[c4] at i;have e:ko c ((93:Nat):Int)=_:=mQ o;rw[e] at i;have x:=qy l (skip l (p+1)) (by omega);have D:=k.trans (xY l c _ (skip l (p+1)) x (by rw[c4];exact i));refine⟨by omega,by omega,_,?_,D⟩;exact Aq o rfl rfl rfl rfl
  rw[za c4]
  have:=U m c d (skip l (p+1)) [] o (.inr y) hd z (Zh l _) (by omega) (by omega)
  exact this.of_eq (by omega) k
 rw[za c2];rw[za (by omega)] at a
 by_cases c3:zi l p=34
 ·rw[zb c3];rw[zb (by omega)] at a;have n:=qy l p (by omega);have B:=xY l m _ p n a;have t:=fG l { m with state:=8,named:=false,got:=⟨#[]⟩ } (p+1) (by omega) rfl rfl
  cases G:jY l (p+1) with
  | err e q=>rw[G] at t;exact Fails.of_eq t B
  | ok s q=>
   rw[G] at t;obtain⟨h1,S,T,c,⟨k1,M,k3,k4,k5,k6⟩,W⟩:=t;simp only
   have A:Ref.step c (zi l (q-1):Int)=closed c:=by
    rw[Kl c _ k1,T];unfold plain;rw[zb (by decide)]
   unfold closed at A;rw[zb (by rw[k4])] at A;have k:=xY l c _ (q-1) (by omega) A;rw[show q-1+1=q by omega] at k;refine⟨by omega,S,_,?_,(B.trans W).trans k⟩;have I:=Vx m c M k3 k5 { kind:=3,text:=c.got,names:=[],kids:=[] };refine Ap m _ { kind:=3,text:=c.got,names:=[],kids:=[] } _ F rfl ?_ I.1 I.2 ?_
   ·show (lay c _).opn=_;rw[oF,M]
   ·show Rep (lay c _).nodes _ _;rw[I.1];exact .str _ _ s (cu m _ F) rfl k6 rfl rfl
 rw[za c3];rw[za (by omega)] at a
 have j:∀(E:Bool) (w:BA) (r:List Nat),r≠[]->w.data.toList.map UInt8.toNat=r->(∀b ∈ r,b≠0)->p<l.length ->
   Ref.step m (zi l p:Int)=(0,{ lay m { kind:=if E then 4 else 5,text:=⟨#[]⟩,names:=[],kids:=[] } with state:=7,word:=w }) ->
   Yo l m m p (match qf l r (p+1) with | .ok _ q => .ok (.word E) q | .err e q => .err e q):=by
  intro E w r G Y Z n a;have B:=xY l m _ p n a;have C:=zaC l r { lay m { kind:=if E then 4 else 5,text:=⟨#[]⟩,names:=[],kids:=[] } with state:=7,word:=w } (p+1) (by omega) G rfl Y Z
  cases hr2:qf l r (p+1) with
  | err e q=>rw[hr2] at C;exact Fails.of_eq C B
  | ok u q=>
   rw[hr2] at C;obtain⟨g1,N,c,O,P,L,Q,R⟩:=C;refine⟨by omega,N,c,?_,B.trans R⟩;refine Ap m c { kind:=if E then 4 else 5,text:=⟨#[]⟩,names:=[],kids:=[] } _ F O (by rw[P];exact oF _ _) L Q ?_
   rw[L];exact .word _ _ E (cu m _ F) rfl rfl rfl
 by_cases c4:zi l p=116
 ·rw[zb c4];rw[zb (by omega)] at a;exact j true ⟨#[114,117,101]⟩ [114,117,101] (by decide) (by decide) (by decide) (qy l p (by omega)) a
 rw[za c4];rw[za (by omega)] at a
 by_cases c5:zi l p=102
 ·rw[zb c5];rw[zb (by omega)] at a;exact j false ⟨#[97,108,115,101]⟩ [97,108,115,101] (by decide) (by decide) (by decide) (qy l p (by omega)) a
 rw[za c5];rw[za (by omega)] at a;exact Zk l m p J v 2 (by decide) (by rw[a]) (λ_=>rfl)
theorem Bv(l:List UInt8)(f:Nat):AV l f/\AL l f/\AO l f:=by
 induction f with
 | zero=>exact⟨λm d p _ _ _ _ _ _ h=>by omega,λb m d p acc _ _ _ _ _ _ h=>by omega,λb m d p acc _ _ _ _ _ _ h=>by omega⟩
 | succ f a=>exact⟨zan l f a.2.1 a.2.2,MS l f a.1 a.2.1,Om l f a.1 a.2.2⟩
def yh(l:List UInt8):Res V:=match qi l (2*l.length+1) 1 (skip l 0) with
 | .err e q => .err e q
 | .ok v q=>if skip l q<l.length then .err 2 (skip l q) else .ok v (skip l q)
def yu(t:BA):List Value:=t.data.toList.map λc => .int .u8 (c.toNat:Int)
theorem byte_of(x:Int)(a:0<=x)(b:x<256):((UInt8.ofNat x.toNat).toNat:Int)=x:=by
 rw[UInt8.toNat_ofNat'];omega
theorem Si(n:Int)(a:0<=n)(b:n<=65535)(c:¬(55296<=n/\n<=57343)):Lib.runeCells n=yu (enc n):=by
 unfold Lib.runeCells yu enc
 by_cases c1:n<128
 ·rw[zb c1,Lib.encodeRuneZ_one a (by omega)];unfold one;simp only[yn,vg];rw[byte_of n a (by omega)]
 by_cases c2:n<2048
 ·rw[za c1,zb c2,Lib.encodeRuneZ_two (by omega) (by omega)];simp only[yn,vg];rw[byte_of (192+n / 64) (by omega) (by omega),byte_of (128+n % 64) (by omega) (by omega)]
 ·rw[za c1,za c2,Lib.encodeRuneZ_three (by omega)];simp only[yn,vg];rw[byte_of (224+n / 4096) (by omega) (by omega),byte_of (128+n / 64 % 64) (by omega) (by omega),byte_of (128+n % 64) (by omega) (by omega)]
theorem Um(a b:BA):yu (a++b)=yu a++yu b:=by
 unfold yu;simp
theorem Dm(a:BA):(yu a).length=a.size:=by
 unfold yu;rw[zN,zG]
def uM(k:Nat):Nat:=[194,224,225,237,238,240,241,244].getD k 0
def kG(k:Nat):Nat:=[223,224,236,237,239,240,243,244].getD k 0
def Qd(k:Nat):Nat:=[1,2,2,2,2,3,3,3].getD k 0
def Xu(k:Nat):Nat:=[128,160,128,128,128,144,128,128].getD k 0
def X0(k:Nat):Nat:=[191,191,191,159,191,191,191,143].getD k 0
theorem lt8{k:Nat}(h:k<8):k=0\/k=1\/k=2\/k=3\/k=4\/k=5\/k=6\/k=7:=by omega
theorem Ki(k:Nat)(a:k<8):128<=uM k/\uM k<256/\kG k<256/\1<=Qd k/\Qd k<=3/\0<Xu k/\Xu k<256/\X0 k<256:=by
 rcases lt8 a with rfl|rfl|rfl|rfl|rfl|rfl|rfl|rfl<;>decide
theorem cK(b k:Nat)(d:k<8)(a:uM k<=b)(c:b<=kG k):qz (b:Int)=((Qd k:Int),(Xu k:Int),(X0 k:Int)):=by
 unfold qz
 rcases lt8 d with rfl|rfl|rfl|rfl|rfl|rfl|rfl|rfl<;>simp[uM,kG,Qd,Xu,X0] at a c |-<;>(repeat' split)<;>first|rfl|omega
theorem MJ(b:Nat)(h:∀k,k<8->b<uM k\/kG k<b):qz (b:Int)=(0,0,0):=by
 have a:=h 0 (by omega);have c:=h 1 (by omega);have d:=h 2 (by omega);have e:=h 3 (by omega);have f:=h 4 (by omega);have g:=h 5 (by omega);have i:=h 6 (by omega);have j:=h 7 (by omega);simp[uM,kG] at a c d e f g i j;unfold qz
 repeat' split
 all_goals first|rfl|omega
def piece(l:List UInt8)(p q:Nat):BA:=⟨((l.drop p).take (q-p)).toArray⟩
theorem SF(l:List UInt8)(p:Nat)(h:qz (zi l p:Int)=(0,0,0)):jJ l p = .err 2 p:=by
 unfold jJ;simp only;rw[h];rfl
def Ky(l:List UInt8)(p j:Nat):Prop:=∀i,i<j->within l 128 191 (p+2+i)=true
theorem sH(l:List UInt8)(p:Nat)(h:p<l.length):one (zi l p:Int)=⟨#[l[p]]⟩:=by
 unfold one;rw[dQ l p h]
 simp
theorem KE(l:List UInt8)(lo hi p:Nat)(a:0<lo)(h:within l lo hi p=true):p<l.length:=by
 unfold within at h;simp at h;exact qy l p (by omega)
theorem PH(l:List UInt8)(p:Nat)(h:p<l.length):piece l p (p+1)=one (zi l p:Int):=by
 rw[sH l p h]
 have e:(l.drop p).take (p+1-p)=[l[p]]:=by
  rw[uS h,show p+1-p=1 by omega];rfl
 unfold piece;rw[e]
theorem piece_more(l:List UInt8)(p q:Nat)(a:p<=q)(h:q<l.length):piece l p (q+1)=piece l p q++one (zi l q:Int):=by
 rw[sH l q h];unfold piece;rw[show q+1-p=(q-p)+1 by omega,XF]
 have:(l.drop p)[q-p]?=some l[q]:=by
  rw[Yi,show p+(q-p)=q by omega,zl h]
 rw[this];apply jk;simp[ByteArray.data_append]
theorem SY(l:List UInt8)(p k:Nat)(a:k<8)(b:uM k<=zi l p)(c:zi l p<=kG k)(d:within l (Xu k) (X0 k) (p+1)=false):jJ l p = .err 2 (p+1):=by
 have hb:=Ki k a;unfold jJ;simp only;rw[cK _ k a b c,za (by simp;omega)];simp only[Qm];rw[zb d]
theorem Tc(l:List UInt8)(p k j:Nat)(a:k<8)(b:uM k<=zi l p)(c:zi l p<=kG k)(g:within l (Xu k) (X0 k) (p+1)=true)(e:Ky l p j)(f:j+1<Qd k)(hb:within l 128 191 (p+2+j)=false):jJ l p = .err 2 (p+2+j):=by
 have d:=Ki k a;unfold jJ;simp only;rw[cK _ k a b c,za (by simp;omega)];simp only[Qm];rw[za (by rw[g];decide),za (by omega)]
 match j with
 | 0=>rw[zb (by simpa using hb)]
 | 1=>
  have:=e 0 (by omega)
  rw[za (by rw[show p+2=p+2+0 by omega,this];decide),za (by omega),zb (by simpa using hb)]
 | j+2=>omega
theorem SE(l:List UInt8)(p k:Nat)(e:k<8)(h:uM k<=zi l p)(i:zi l p<=kG k)(f:within l (Xu k) (X0 k) (p+1)=true)(c:Ky l p (Qd k-1)):jJ l p = .ok (piece l p (p+1+Qd k)) (p+1+Qd k):=by
 have hb:=Ki k e;have o:p<l.length:=qy l p (by omega);have q:=KE l _ _ _ (by omega) f;unfold jJ;simp only;rw[cK _ k e h i,za (by simp;omega)];simp only[Qm];rw[za (by rw[f];decide)]
 have d:piece l p (p+2)=one (zi l p:Int)++one (zi l (p+1):Int):=by
  rw[piece_more l p (p+1) (by omega) q,PH l p o]
 obtain⟨n,m⟩:=Nm (Qd k);rw[m] at c hb |-;have j:n=1\/n=2\/n=3:=by omega
 rcases j with rfl|rfl|rfl
 ·rw[zb (by simp),d]
 ·have a:=c 0 (by omega);have b:=KE l _ _ _ (by omega) a;simp only[vR] at a b;rw[za (by simp),za (by rw[a];decide),zb (by simp),piece_more l p (p+2) (by omega) b,d]
 ·have a:=c 0 (by omega);have g:=c 1 (by omega);have b:=KE l _ _ _ (by omega) a;have r:=KE l _ _ _ (by omega) g;simp only[vR] at a b;rw[za (by simp),za (by rw[a];decide),za (by simp),za (by rw[show p+3=p+2+1 by omega,g];decide),piece_more l p (p+3) (by omega) r,piece_more l p (p+2) (by omega) b,d]
def Res.to{α:Type}:Res α->Nat
 | .ok _ q=>q
 | .err _ q=>q
theorem VD(n:Int):(one n).size=1:=rfl
theorem mP(n:Int):(enc n).size<=3:=by
 unfold enc
 split
 ·rw[VD];omega
 split
 ·exact (by decide:2<=3)
 ·exact (by decide:3<=3)
theorem GQ{l:List UInt8}{p q:Nat}{u:BA}(h:vY l p = .ok u q):q=p+4/\u.size<=3:=by
 unfold vY at h;simp only at h
 repeat' split at h
 all_goals first|(cases h;done)|(injection h with h1 h2;subst h1;exact⟨h2.symm,mP _⟩)
theorem Gg{l:List UInt8}{p q:Nat}{u:BA}(h:jS l p = .ok u q):p<q/\u.size<=q-p:=by
 unfold jS at h;simp only at h
 repeat' split at h
 all_goals first
  | (cases h;done)
  | (injection h with h1 h2;subst h1;rw[VD];omega)
  | (have:=GQ h;omega)
theorem SB{l:List UInt8}{p q:Nat}{u:BA}(h:jJ l p = .ok u q):p<q/\u.size<=q-p:=by
 unfold jJ at h;simp only at h
 repeat' split at h
 all_goals first
  | (cases h;done)
  | (injection h with h1 h2;subst h1;simp only[zI,VD];omega)
theorem lq{l:List UInt8}{p q:Nat}{u:BA}(h:yw l p = .ok u q):p<q/\u.size<=q-p:=by
 unfold yw at h;simp only at h
 repeat' split at h
 all_goals first
  | (cases h;done)
  | (injection h with h1 h2;subst h1;rw[VD];omega)
  | (have:=Gg h;omega)
  | exact SB h
theorem Wt{l:List UInt8}{f p q:Nat}{acc u:BA}(a:zi l p≠34)(h:yw l p = .ok u q):qJ l (f+1) p acc=qJ l f q (acc++u):=by
 rw[qJ,za a,h]
theorem Ws{l:List UInt8}{f p q:Nat}{acc:BA}{c:Int}(a:zi l p≠34)(h:yw l p = .err c q):qJ l (f+1) p acc = .err c q:=by
 rw[qJ,za a,h]
theorem Wq{l:List UInt8}{f p:Nat}{acc:BA}(a:zi l p=34):qJ l (f+1) p acc = .ok acc (p+1):=by
 rw[qJ,zb a]
def yM(l:List UInt8)(p:Nat):Res BA:=if zi l p=34 then jY l (p+1) else .err 2 p
theorem sW(l:List UInt8)(p:Nat):qf l [34] p=if zi l p=34 then .ok () (p+1) else .err 2 p:=by
 simp only[qf]
theorem Td{l:List UInt8}{p q:Nat}{c:Int}(h:jJ l p = .err c q):c=2:=by
 unfold jJ at h;simp only at h
 repeat' split at h
 all_goals first|(cases h;done)|(injection h with h1 h2;exact h1.symm)
theorem GY{l:List UInt8}{p q:Nat}{c:Int}(h:vY l p = .err c q):c=2:=by
 unfold vY at h;simp only at h
 repeat' split at h
 all_goals first|(cases h;done)|(injection h with h1 h2;exact h1.symm)
theorem Gj{l:List UInt8}{p q:Nat}{c:Int}(h:jS l p = .err c q):c=2:=by
 unfold jS at h;simp only at h
 repeat' split at h
 all_goals first
  | (cases h;done)
  | (injection h with h1 h2;exact h1.symm)
  | exact GY h
theorem DJ{l:List UInt8}{p q:Nat}{c:Int}(h:yw l p = .err c q):c=2:=by
 unfold yw at h;simp only at h
 repeat' split at h
 all_goals first
  | (cases h;done)
  | (injection h with h1 h2;exact h1.symm)
  | exact Gj h
  | exact Td h
theorem Kt{l:List UInt8}:∀{f p q:Nat} {acc:BA} {c:Int},qJ l f p acc = .err c q->c=2
 | 0,p,q,acc,c,h=>by rw[qJ] at h;injection h with h1 h2;exact h1.symm
 | f+1,p,q,acc,c,h=>by
  rw[qJ] at h
  split at h
  ·cases h
  cases hc:yw l p with
  | ok u a=>rw[hc] at h;exact Kt h
  | err b a=>rw[hc] at h;injection h with h1 h2;rw[<- h1];exact DJ hc
theorem sV{l:List UInt8}{p q:Nat}{c:Int}(h:yM l p = .err c q):c=2:=by
 unfold yM at h
 split at h
 ·exact Kt h
 ·injection h with h1 h2;exact h1.symm
theorem VX{l:List UInt8}:∀{r:List Nat} {p q:Nat} {c:Int},qf l r p = .err c q->c=2
 | [],p,q,c,h=>by rw[qf] at h;cases h
 | b::r,p,q,c,h=>by
  rw[qf] at h
  split at h
  ·exact VX h
  ·injection h with h1 h2;exact h1.symm
def jF{α:Type}(l:List UInt8)(st:Nat->α->Nat->Res α)(e:Nat):Nat->α->Nat->Res α
 | 0,_,p => .err 2 p
 | f+1,a,p=>match st f a p with
  | .err c q => .err c q
  | .ok b q=>
   if zi l (skip l q)=44 then jF l st e f b (skip l (skip l q+1))
   else if zi l (skip l q)=e then .ok b (skip l q+1)
   else .err 2 (skip l q)
def uf{α:Type}(l:List UInt8)(st:Nat->α->Nat->Res α)(e:Nat)(f d:Nat)(a:α)(p:Nat):Res α:=
 if 8<d then .err 3 p
 else if zi l (skip l (p+1))=e then .ok a (skip l (p+1)+1)
 else jF l st e f a (skip l (p+1))
def Res.map{α β:Type}(g:α->β):Res α->Res β
 | .ok a q => .ok (g a) q
 | .err c q => .err c q
def stL(l:List UInt8)(d:Nat)(f:Nat)(acc:List V)(q:Nat):Res (List V):=match qi l f (d+1) q with
 | .ok v a => .ok (acc++[v]) a
 | .err c a => .err c a
def QG(l:List UInt8)(d:Nat)(f:Nat)(acc:List (BA×V))(q:Nat):Res (BA×V):=match yM l q with
 | .err c b => .err c b
 | .ok s b=>
  if acc.any (λx=>x.1.toList==s.toList) then .err 4 (b-1)
  else if zi l (skip l b)≠58 then .err 2 (skip l b)
  else match qi l f (d+1) (skip l (skip l b+1)) with
  | .err c a => .err c a
  | .ok v a => .ok (s,v) a
def stO(l:List UInt8)(d:Nat)(f:Nat)(acc:List (BA×V))(q:Nat):Res (List (BA×V)):=match QG l d f acc q with
 | .ok m a => .ok (acc++[m]) a
 | .err c a => .err c a
theorem oO(l:List UInt8)(d:Nat):∀(f p:Nat) (acc:List V),ug l f d p acc=(jF l (stL l d) 93 f acc p).map .list
 | 0,p,acc=>by rw[ug,jF,Res.map]
 | f+1,p,acc=>by
  rw[ug,jF,stL]
  cases hv:qi l f (d+1) p with
  | err c q=>rfl
  | ok v q=>
   simp only
   split
   ·exact oO l d f _ _
   split
   ·rfl
   ·rfl
theorem rE(l:List UInt8)(d:Nat):∀(f p:Nat) (acc:List (BA×V)),uh l f d p acc=(jF l (stO l d) 125 f acc p).map .obj
 | 0,p,acc=>by rw[uh,jF,Res.map]
 | f+1,p,acc=>by
  rw[uh,jF,stO,QG,yM]
  by_cases h:zi l p=34
  ·rw[za (by simp[h]),zb h]
   cases hs:jY l (p+1) with
   | err c q=>rfl
   | ok s q=>
    simp only
    by_cases ht:acc.any (λx=>x.1.toList==s.toList)=true
    ·rw[zb ht,zb ht];rfl
    rw[za ht,za ht]
    by_cases h58:zi l (skip l q)≠58
    ·rw[zb h58,zb h58];rfl
    rw[za h58,za h58]
    cases hv:qi l f (d+1) (skip l (skip l q+1)) with
    | err c a=>rfl
    | ok v a=>
     simp only
     split
     ·exact rE l d f _ _
     split
     ·rfl
     ·rfl
  ·rw[zb h,za h];rfl
theorem zak(l:List UInt8)(f d p:Nat)(h:zi l p=91):qi l (f+1) d p=(uf l (stL l d) 93 f d [] p).map .list:=by
 rw[qi,za (by omega),zb h];unfold uf
 split
 ·rfl
 split
 ·rfl
 ·exact oO l d f _ _
theorem zam(l:List UInt8)(f d p:Nat)(h:zi l p=123):qi l (f+1) d p=(uf l (stO l d) 125 f d [] p).map .obj:=by
 rw[qi,zb h];unfold uf
 split
 ·rfl
 split
 ·rfl
 ·exact rE l d f _ _
theorem zaq(l:List UInt8)(f d p:Nat)(h:zi l p=34):qi l (f+1) d p=(yM l p).map .str:=by
 rw[qi,za (by omega),za (by omega),zb h,yM,zb h]
 cases jY l (p+1)<;>rfl
theorem zar(l:List UInt8)(f d p:Nat)(h:zi l p=116):qi l (f+1) d p=(qf l [116,114,117,101] p).map (λ_ => .word true):=by
 rw[qi,za (by omega),za (by omega),za (by omega),zb h]
 conv=>rhs;rw[qf,zb h]
 cases qf l [114,117,101] (p+1)<;>rfl
theorem zaj(l:List UInt8)(f d p:Nat)(h:zi l p=102):qi l (f+1) d p=(qf l [102,97,108,115,101] p).map (λ_ => .word false):=by
 rw[qi,za (by omega),za (by omega),za (by omega),za (by omega),zb h]
 conv=>rhs;rw[qf,zb h]
 cases qf l [97,108,115,101] (p+1)<;>rfl
theorem zal(l:List UInt8)(f d p:Nat)(a:zi l p≠123)(b:zi l p≠91)(c:zi l p≠34)(e:zi l p≠116)(g:zi l p≠102):qi l (f+1) d p = .err 2 p:=by
 rw[qi,za a,za b,za c,za e,za g]
def aU(d:Nat):zn:={ init with opn:=List.replicate (d-1) 0,nodes:=[⟨2,⟨#[]⟩,[],[]⟩] }
theorem KD{l:List UInt8}{f d p q:Nat}{v:V}(hd:1<=d)(e:p<=l.length)(hb:blank (zi l p)=false)(b:2*(l.length-p)<f)(h:qi l f d p = .ok v q):p<q/\q<=l.length:=by
 have:=(Bv l f).1 (aU d) d p (.inl rfl) (λo c=>by
  have:o=0:=List.eq_of_mem_replicate c
  rw[this];exact Nat.zero_lt_one) (by simp[aU];omega) e hb (λh=>by have a:=h.1;simp[aU,init] at a) b
 rw[h] at this;exact⟨this.1,this.2.1⟩
theorem Ah{l:List UInt8}:∀{f p q:Nat} {acc t:BA},qJ l f p acc = .ok t q->p<q/\t.size<=acc.size+(q-p)
 | 0,p,q,acc,t,h=>by rw[qJ] at h;cases h
 | f+1,p,q,acc,t,h=>by
  rw[qJ] at h
  split at h
  ·injection h with a b;subst a;omega
  cases hc:yw l p with
  | ok u c=>
   rw[hc] at h;have a:=lq hc;have b:=Ah (acc:=acc++u) h;rw[zI] at b;omega
  | err d c=>rw[hc] at h;cases h
theorem Ka{l:List UInt8}{p q:Nat}{t:BA}(h:yM l p = .ok t q):p+1<q/\t.size<=q:=by
 unfold yM jY at h
 split at h
 ·have:=Ah h
  have e:(ByteArray.mk #[]).size=0:=rfl;omega
 ·cases h
theorem Kb{l:List UInt8}{p q:Nat}{t:BA}(h:yM l p = .ok t q):q<=l.length:=by
 unfold yM at h
 split at h
 ·rename_i a;have b:=qy l p (by omega)
  have:=fG l { init with state:=8,got:=⟨#[]⟩ } (p+1) (by omega) rfl rfl
  rw[h] at this;exact this.2.1
 ·cases h
end Rd
end Go.Proofs.YtdakgnaojakldaaGreatDoor
