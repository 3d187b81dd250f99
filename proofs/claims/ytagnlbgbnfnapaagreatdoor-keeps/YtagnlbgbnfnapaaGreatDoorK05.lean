/- P -/
import Derived.Test.YtagnlbgbnfnapaaGreatDoorK04
set_option maxRecDepth 100000
namespace Go.Proofs.YtagnlbgbnfnapaaGreatDoor
namespace Rd
open Ref
def zk(l:List UInt8)(p:Nat):Nat:=(l.getD p 0).toNat
inductive Res (α:Type) where
 | ok (v:α) (p:Nat)
 | err (e:Int) (p:Nat)
def verdict(l:List UInt8)(m:zl)(p:Nat):Int×Nat×zl:=
 if (Ref.run m (l.drop p) p).1≠0 then Ref.run m (l.drop p) p
 else if (Ref.run m (l.drop p) p).2.2.state≠6\/(Ref.run m (l.drop p) p).2.2.opn≠[] then (2,l.length,(Ref.run m (l.drop p) p).2.2)
 else Ref.run m (l.drop p) p
def Inc(m:zl):Prop:=m.state≠6\/m.opn≠[]
def Fails(l:List UInt8)(m:zl)(p:Nat)(e:Int)(q:Nat):Prop:=(verdict l m p).1=e/\(verdict l m p).2.1=q
theorem bT(l:List UInt8)(p:Nat)(h:p<l.length):zk l p=l[p].toNat:=by
 unfold zk;rw[zY,zn h];rfl
theorem bU(l:List UInt8)(p:Nat)(h:¬p<l.length):zk l p=0:=by
 unfold zk;rw[zY,VB (by omega)];rfl
theorem qj(l:List UInt8)(p:Nat)(h:zk l p≠0):p<l.length:=by
 rcases Nat.lt_or_ge p l.length with h1|h1
 ·exact h1
 ·exact absurd (bU l p (by omega)) h
theorem ZW(l:List UInt8)(p:Nat):zk l p<256:=VO _
theorem dw(l:List UInt8)(m:zl)(p:Nat)(h:p<l.length):Ref.run m (l.drop p) p=if (Ref.step m (zk l p:Int)).1=0 then Ref.run (Ref.step m (zk l p:Int)).2 (l.drop (p+1)) (p+1) else ((Ref.step m (zk l p:Int)).1,p,m):=by
 rw[vw h,Ref.run,bT l p h]
theorem yg(l:List UInt8)(m m':zl)(p:Nat)(h:p<l.length)(a:Ref.step m (zk l p:Int)=(0,m')):verdict l m p=verdict l m' (p+1):=by
 have e:Ref.run m (l.drop p) p=Ref.run m' (l.drop (p+1)) (p+1):=by rw[dw l m p h,a];rfl
 unfold verdict;rw[e]
theorem kZ(l:List UInt8)(m:zl)(p:Nat)(j:p<=l.length)(hi:Inc m)(e:Int)(d:e≠0)(f:(Ref.step m (zk l p:Int)).1=e)(i:zk l p=0->e=2):Fails l m p e p:=by
 by_cases h:p<l.length
 ·have a:Ref.run m (l.drop p) p=(e,p,m):=by
   rw[dw l m p h,za (by rw[f];exact d),f]
  unfold Fails verdict;rw[a,zb d];exact⟨rfl,rfl⟩
 ·have g:=i (bU l p h);have c:p=l.length:=by omega
  have a:Ref.run m (l.drop p) p=(0,p,m):=by rw[Vy (by omega),Ref.run]
  unfold Fails verdict;have b:(0,p,m).2.2.state≠6\/(0,p,m).2.2.opn≠[]:=hi;rw[a,za (by simp),zb b,g,c];exact⟨rfl,rfl⟩
theorem SY(l:List UInt8)(m:zl)(hi:m.state=6)(a:m.opn=[]):verdict l m l.length=(0,l.length,m):=by
 unfold verdict;rw[List.drop_length,Ref.run];simp[hi,a]
theorem Fails.of_eq{l:List UInt8}{m m':zl}{p a:Nat}{e:Int}{q:Nat}(h:Fails l m' a e q)(b:verdict l m p=verdict l m' a):Fails l m p e q:=by
 unfold Fails at *;rw[b];exact h
def blank(b:Nat):Bool:=b==32||b==9||b==10||b==13
theorem JG(b:Nat):QM (b:Int)=blank b:=by
 unfold QM blank;rw[XH]
 simp
 omega
def UR(l:List UInt8):Nat->Nat->Nat
 | 0,p=>p
 | f+1,p=>if blank (zk l p) then UR l f (p+1) else p
def skip(l:List UInt8)(p:Nat):Nat:=UR l (l.length-p) p
theorem YI(l:List UInt8)(p:Nat)(h:blank (zk l p)=true):p<l.length:=by
 apply qj;intro e;rw[e] at h;exact absurd h (by decide)
theorem Q3(l:List UInt8)(p:Nat):skip l p=if blank (zk l p) then skip l (p+1) else p:=by
 unfold skip
 by_cases h:p<l.length
 ·obtain⟨k,a⟩:∃k,l.length-p=k+1:=⟨l.length-p-1,by omega⟩;rw[a,UR,show l.length-(p+1)=k by omega]
 ·have e:l.length-p=0:=by omega
  rw[e,UR,za];intro hb;exact h (YI l p hb)
theorem PN(m:zl)(a:m.state<7)(b:Nat)(hb:blank b=true):Ref.step m (b:Int)=(0,m):=by
 rw[Q7 m _ a,JG,hb,zb rfl]
theorem Qx(l:List UInt8)(m:zl)(a:m.state<7)(p:Nat):verdict l m p=verdict l m (skip l p):=by
 generalize c:l.length-p=n
 induction n generalizing p with
 | zero=>
  rw[Q3,za];intro hb
  have:=YI l p hb
  omega
 | succ n b=>
  rw[Q3]
  by_cases hb:blank (zk l p)=true
  ·rw[zb hb,<- b (p+1) (by omega)];exact yg l m m p (by omega) (PN m a _ hb)
  ·rw[za hb]
theorem yX(l:List UInt8)(p:Nat):p<=skip l p:=by
 generalize b:l.length-p=n
 induction n generalizing p with
 | zero=>rw[Q3];split<;>rename_i h<;>first|(have:=YI l p h;omega)|omega
 | succ n a=>
  rw[Q3]
  split
  ·have:=a (p+1) (by omega);omega
  ·omega
theorem ve(l:List UInt8)(p:Nat)(c:p<=l.length):skip l p<=l.length:=by
 generalize b:l.length-p=n
 induction n generalizing p with
 | zero=>rw[Q3];split<;>rename_i h<;>first|(have:=YI l p h;omega)|omega
 | succ n a=>
  rw[Q3]
  split
  ·exact a (p+1) (by omega) (by omega)
  ·omega
theorem uw(l:List UInt8)(p:Nat):blank (zk l (skip l p))=false:=by
 generalize b:l.length-p=n
 induction n generalizing p with
 | zero=>
  rw[Q3]
  split
  ·rename_i h;have:=YI l p h;omega
  ·rename_i h;simpa using h
 | succ n a=>
  rw[Q3]
  split
  ·exact a (p+1) (by omega)
  ·rename_i h;simpa using h
def Within(m m':zl)(g:BY):Prop:=m'.state=8/\m'.opn=m.opn/\m'.nodes=m.nodes/\m'.named=m.named/\m'.root=m.root/\m'.got=m.got++g
def within(l:List UInt8)(lo hi p:Nat):Bool:=decide (lo<=zk l p/\zk l p<=hi)
def j6(l:List UInt8)(p:Nat):Res BY:=
 let r:=zT (zk l p:Int)
 if r.1=0 then .err 2 p
 else if within l r.2.1.toNat r.2.2.toNat (p+1)=false then .err 2 (p+1)
 else if r.1=1 then .ok (one (zk l p)++one (zk l (p+1))) (p+2)
 else if within l 128 191 (p+2)=false then .err 2 (p+2)
 else if r.1=2 then .ok (one (zk l p)++one (zk l (p+1))++one (zk l (p+2))) (p+3)
 else if within l 128 191 (p+3)=false then .err 2 (p+3)
 else .ok (one (zk l p)++one (zk l (p+1))++one (zk l (p+2))++one (zk l (p+3))) (p+4)
def uO(l:List UInt8)(p:Nat):Res BY:=
 let a:=zL (zk l p)
 let b:=zL (zk l (p+1))
 let c:=zL (zk l (p+2))
 let d:=zL (zk l (p+3))
 if a<0 then .err 2 p
 else if b<0\/(a=13/\8<=b) then .err 2 (p+1)
 else if c<0 then .err 2 (p+2)
 else if d<0 then .err 2 (p+3)
 else .ok (enc (((a*16+b)*16+c)*16+d)) (p+4)
def uo(l:List UInt8)(p:Nat):Res BY:=
 let b:=zk l p
 if b=34\/b=92\/b=47 then .ok (one b) (p+1)
 else if b=110 then .ok (one 10) (p+1)
 else if b=116 then .ok (one 9) (p+1)
 else if b=117 then uO l (p+1)
 else .err 2 p
def jU(l:List UInt8)(p:Nat):Res BY:=
 let b:=zk l p
 if b<32 then .err 2 p
 else if b=92 then uo l (p+1)
 else if b<128 then .ok (one b) (p+1)
 else j6 l p
def eD(l:List UInt8)(m:zl)(p:Nat)(r:Res BY):Prop:=match r with
 | .ok s q=>p<q/\q<=l.length/\∃m',Within m m' s/\verdict l m p=verdict l m' q
 | .err e q=>Fails l m p e q
theorem X8(b:Nat):zL (b:Int)<=15:=by
 unfold zL;repeat' split
 all_goals omega
theorem aM(l:List UInt8)(p:Nat)(h:0<=zL (zk l p)):p<l.length:=by
 apply qj;intro e;rw[e] at h;exact absurd h (by decide)
theorem dA(l:List UInt8)(m:zl)(p:Nat)(e:p<=l.length)(d:m.state=9)(lo hi:Nat)(c:m.low=lo)(b:m.high=hi)(f:0<lo) :
  (within l lo hi p=false->Fails l m p 2 p) /\
  (within l lo hi p=true->p<l.length/\verdict l m p=verdict l { m with got:=m.got++one (zk l p),low:=128,high:=191,need:=m.need-1,state:=if m.need-1=0 then 8 else 9 } (p+1)):=by
 constructor
 ·intro h;refine kZ l m p e (.inl (by omega)) 2 (by decide) ?_ (λ_=>rfl);rw[Yl m _ d,c,b,zb];unfold within at h;simp at h;omega
 ·intro h;unfold within at h;simp at h;have a:p<l.length:=qj l p (by omega);refine⟨a,yg l m _ p a ?_⟩;rw[Yl m _ d,c,b,za (by omega)]
theorem IP(b:Nat):zT (b:Int)=(0,0,0)\/(128<=b/\∃n lo hi:Nat,zT (b:Int)=((n:Int),(lo:Int),(hi:Int))/\0<lo/\(n=1\/n=2\/n=3)):=by
 unfold zT
 split
 ·exact .inr ⟨by omega,1,128,191,rfl,by omega,by omega⟩
 split
 ·exact .inr ⟨by omega,2,160,191,rfl,by omega,by omega⟩
 split
 ·exact .inr ⟨by omega,2,128,159,rfl,by omega,by omega⟩
 split
 ·exact .inr ⟨by omega,2,128,191,rfl,by omega,by omega⟩
 split
 ·exact .inr ⟨by omega,3,144,191,rfl,by omega,by omega⟩
 split
 ·exact .inr ⟨by omega,3,128,191,rfl,by omega,by omega⟩
 split
 ·exact .inr ⟨by omega,3,128,143,rfl,by omega,by omega⟩
 exact .inl rfl
theorem KF(a b c:BY):a++b++c=a++(b++c):=by
 apply Z4;simp
theorem OT(l:List UInt8)(m:zl)(p:Nat)(s:m.state=8)(hb:128<=zk l p):eD l m p (j6 l p):=by
 have r:p<l.length:=qj l p (by omega)
 have d:Ref.step m (zk l p:Int)=if (zT (zk l p:Int)).1=0 then (2,m) else (0,{ m with need:=(zT (zk l p:Int)).1,low:=(zT (zk l p:Int)).2.1,high:=(zT (zk l p:Int)).2.2,got:=m.got++one (zk l p),state:=9 }):=by
  rw[Q6 m _ s];unfold plain;rw[za (by omega),za (by omega),za (by omega),za (by omega)]
 unfold j6
 rcases IP (zk l p) with h0|⟨_,n,lo,hi,hr,hlo,hn⟩
 ·rw[h0] at d |-;simp only[xy];exact kZ l m p (by omega) (.inl (by omega)) 2 (by decide) (by rw[d];rfl) (λ_=>rfl)
 ·rw[hr] at d |-;simp only[xQ];rw[za (by omega)] at d |-;have i:=yg l m _ p r d;obtain⟨e,a⟩:∃e:zl,e={ m with need:=(n:Int),low:=(lo:Int),high:=(hi:Int),got:=m.got++one (zk l p),state:=9 }:=⟨_,rfl⟩
  rw[<- a] at i;have k:=dA l e (p+1) (by omega) (by rw[a]) lo hi (by rw[a]) (by rw[a]) hlo
  cases w1:within l lo hi (p+1) with
  | false=>rw[zb rfl];exact (k.1 w1).of_eq i
  | true=>
   rw[za (by decide)];obtain⟨u,g⟩:=k.2 w1;have g:=i.trans g
   by_cases n1:n=1
   ·rw[zb (by omega)];refine⟨by omega,by omega,_,?_,g⟩;subst n1;rw[a];exact⟨rfl,rfl,rfl,rfl,rfl,by simp only;rw[KF]⟩
   rw[za (by omega)];obtain⟨f,b⟩:∃f:zl,f={ e with got:=e.got++one (zk l (p+1)),low:=128,high:=191,need:=e.need-1,state:=if e.need-1=0 then 8 else 9 }:=⟨_,rfl⟩
   rw[<- b] at g;have o:=dA l f (p+2) (by omega) (by rw[b];simp only;rw[za];rw[a];simp only;omega) 128 191 (by rw[b];rfl) (by rw[b];rfl) (by omega)
   cases w2:within l 128 191 (p+2) with
   | false=>rw[zb rfl];exact (o.1 w2).of_eq g
   | true=>
    rw[za (by decide)];obtain⟨q2,h⟩:=o.2 w2;have h:=g.trans h
    by_cases n2:n=2
    ·rw[zb (by omega)];refine⟨by omega,by omega,_,?_,h⟩;subst n2;rw[b,a];exact⟨rfl,rfl,rfl,rfl,rfl,by simp only[KF]⟩
    rw[za (by omega)];obtain rfl:n=3:=by omega
    obtain⟨j,c⟩:∃j:zl,j={ f with got:=f.got++one (zk l (p+2)),low:=128,high:=191,need:=f.need-1,state:=if f.need-1=0 then 8 else 9 }:=⟨_,rfl⟩
    rw[<- c] at h;have q:=dA l j (p+3) (by omega) (by rw[c,b,a];rfl) 128 191 (by rw[c];rfl) (by rw[c];rfl) (by omega)
    cases w3:within l 128 191 (p+3) with
    | false=>rw[zb rfl];exact (q.1 w3).of_eq h
    | true=>
     rw[za (by decide)];obtain⟨v,t⟩:=q.2 w3;refine⟨by omega,by omega,_,?_,h.trans t⟩;rw[c,b,a];exact⟨rfl,rfl,rfl,rfl,rfl,by simp only[KF]⟩
theorem V6(l:List UInt8)(m:zl)(p:Nat)(f:p<=l.length)(g:m.state=11)(N k:Int)(d:m.number=N)(e:m.need=k)(bad:Prop)(hb:bad↔(zL (zk l p)<0\/(k=3/\216<=16*N+zL (zk l p)/\16*N+zL (zk l p)<=223))) :
  (bad->Fails l m p 2 p) /\
  (¬bad->k≠1->p<l.length/\verdict l m p=verdict l { m with number:=16*N+zL (zk l p),need:=k-1 } (p+1)) /\
  (¬bad->k=1->p<l.length/\verdict l m p=verdict l { m with number:=16*N+zL (zk l p),need:=k-1,got:=m.got++enc (16*N+zL (zk l p)),state:=8 } (p+1)):=by
 have b:Ref.step m (zk l p:Int)=digit m (zk l p:Int):=Ja m _ g;unfold digit at b;rw[d,e] at b;refine⟨λh=>?_,λh c=>?_,λh c=>?_⟩
 ·refine kZ l m p f (.inl (by omega)) 2 (by decide) ?_ (λ_=>rfl);rw[b]
  by_cases h1:zL (zk l p:Int)<0
  ·rw[zb h1]
  ·rw[za h1,zb (by have:=hb.1 h;omega)]
 ·rw[hb] at h;have a:p<l.length:=aM l p (by omega);refine⟨a,yg l m _ p a ?_⟩;rw[b,za (by omega),za (by omega),za (by omega)]
 ·rw[hb] at h;have a:p<l.length:=aM l p (by omega);refine⟨a,yg l m _ p a ?_⟩;rw[b,za (by omega),za (by omega),zb (by omega)]
theorem Ff(l:List UInt8)(m:zl)(p:Nat)(F:p<=l.length)(g:m.state=11)(E:m.number=0)(z:m.need=4) :
  match uO l p with
  | .ok s q=>p<q/\q<=l.length/\∃m',Within { m with state:=8 } m' s/\verdict l m p=verdict l m' q
  | .err e q=>Fails l m p e q:=by
 have G:=X8 (zk l p);have hb:=X8 (zk l (p+1));unfold uO;simp only;generalize n:zL (zk l p:Int)=A at *;have u:=V6 l m p F g 0 4 E z (A<0) (by rw[n];omega)
 by_cases c1:A<0
 ·rw[zb c1];exact u.1 c1
 rw[za c1];obtain⟨H,j⟩:=u.2.1 c1 (by decide);rw[n] at j;obtain⟨h,a⟩:∃h:zl,h={ m with number:=16*0+A,need:=4-1 }:=⟨_,rfl⟩
 rw[<- a] at j;generalize o:zL (zk l (p+1):Int)=B at *;have v:=V6 l h (p+1) (by omega) (by rw[a];exact g) A 3 (by rw[a];simp) (by rw[a];rfl) (B<0\/(A=13/\8<=B)) (by rw[o];omega)
 by_cases c2:B<0\/(A=13/\8<=B)
 ·rw[zb c2];exact (v.1 c2).of_eq j
 rw[za c2];obtain⟨q2,d⟩:=v.2.1 c2 (by decide);rw[o] at d;have d:=j.trans d;obtain⟨i,b⟩:∃i:zl,i={ h with number:=16*A+B,need:=3-1 }:=⟨_,rfl⟩
 rw[<- b] at d;generalize r:zL (zk l (p+2):Int)=C at *;have w:=V6 l i (p+2) (by omega) (by rw[b,a];exact g) (16*A+B) 2 (by rw[b]) (by rw[b];rfl) (C<0) (by rw[r];omega)
 by_cases c3:C<0
 ·rw[zb c3];exact (w.1 c3).of_eq d
 rw[za c3];obtain⟨I,f⟩:=w.2.1 c3 (by decide);rw[r] at f;have f:=d.trans f;obtain⟨k,c⟩:∃k:zl,k={ i with number:=16*(16*A+B)+C,need:=2-1 }:=⟨_,rfl⟩
 rw[<- c] at f;generalize t:zL (zk l (p+3):Int)=D at *;have x:=V6 l k (p+3) (by omega) (by rw[c,b,a];exact g) (16*(16*A+B)+C) 1 (by rw[c]) (by rw[c];rfl) (D<0) (by rw[t];omega)
 by_cases c4:D<0
 ·rw[zb c4];exact (x.1 c4).of_eq f
 rw[za c4];obtain⟨J,y⟩:=x.2.2 c4 rfl;rw[t] at y;refine⟨by omega,by omega,_,?_,f.trans y⟩;rw[c,b,a];refine⟨rfl,rfl,rfl,rfl,rfl,?_⟩;simp only;have e:16*(16*(16*A+B)+C)+D=((A*16+B)*16+C)*16+D:=by omega
 rw[e]
theorem Ez(l:List UInt8)(m:zl)(p:Nat)(i:p<=l.length)(j:m.state=10) :
  match uo l p with
  | .ok s q=>p<q/\q<=l.length/\∃m',Within { m with state:=8 } m' s/\verdict l m p=verdict l m' q
  | .err e q=>Fails l m p e q:=by
 have a:Ref.step m (zk l p:Int)=escape m (zk l p:Int):=Y9 m _ j;unfold escape at a;unfold uo;simp only;generalize hb:zk l p=b at *
 by_cases c1:b=34\/b=92\/b=47
 ·rw[zb c1];rw[zb (by omega)] at a;have c:p<l.length:=qj l p (by rw[hb];omega);have v:=yg l m _ p c (by rw[hb];exact a);refine⟨by omega,by omega,_,?_,v⟩;exact⟨rfl,rfl,rfl,rfl,rfl,rfl⟩
 rw[za c1];rw[za (by omega)] at a
 by_cases c2:b=110
 ·rw[zb c2];rw[zb (by omega)] at a;have c:p<l.length:=qj l p (by rw[hb];omega);have v:=yg l m _ p c (by rw[hb];exact a);refine⟨by omega,by omega,_,?_,v⟩;exact⟨rfl,rfl,rfl,rfl,rfl,rfl⟩
 rw[za c2];rw[za (by omega)] at a
 by_cases c3:b=116
 ·rw[zb c3];rw[zb (by omega)] at a;have c:p<l.length:=qj l p (by rw[hb];omega);have v:=yg l m _ p c (by rw[hb];exact a);refine⟨by omega,by omega,_,?_,v⟩;exact⟨rfl,rfl,rfl,rfl,rfl,rfl⟩
 rw[za c3];rw[za (by omega)] at a
 by_cases c4:b=117
 ·rw[zb c4];rw[zb (by omega)] at a;have c:p<l.length:=qj l p (by rw[hb];omega);have v:=yg l m _ p c (by rw[hb];exact a);have f:=Ff l { m with state:=11,need:=4,number:=0 } (p+1) (by omega) rfl rfl rfl
  cases hf:uO l (p+1) with
  | ok s q=>
   rw[hf] at f;obtain⟨k,d,m',g,h⟩:=f;exact⟨by omega,d,m',g,v.trans h⟩
  | err e q=>
   rw[hf] at f;exact Fails.of_eq f v
 rw[za c4];rw[za (by omega)] at a;exact kZ l m p i (.inl (by omega)) 2 (by decide) (by rw[hb,a]) (λ_=>rfl)
theorem Br(l:List UInt8)(m:zl)(p:Nat)(i:p<=l.length)(c:m.state=8)(k:zk l p≠34):eD l m p (jU l p):=by
 have a:Ref.step m (zk l p:Int)=plain m (zk l p:Int):=Q6 m _ c;unfold plain at a;unfold jU;simp only
 by_cases c1:zk l p<32
 ·rw[zb c1];rw[za (by omega),za (by omega),zb (by omega)] at a;exact kZ l m p i (.inl (by omega)) 2 (by decide) (by rw[a]) (λ_=>rfl)
 rw[za c1];have b:p<l.length:=qj l p (by omega)
 by_cases c2:zk l p=92
 ·rw[zb c2];rw[za (by omega),zb (by omega)] at a;have v:=yg l m _ p b a;have f:=Ez l { m with state:=10 } (p+1) (by omega) rfl
  cases hf:uo l (p+1) with
  | ok s q=>
   rw[hf] at f;obtain⟨j,d,m',g,h⟩:=f;exact⟨by omega,d,m',g,v.trans h⟩
  | err e q=>
   rw[hf] at f;exact Fails.of_eq f v
 rw[za c2]
 by_cases c3:zk l p<128
 ·rw[zb c3];rw[za (by omega),za (by omega),za (by omega),zb (by omega)] at a;refine⟨by omega,by omega,_,?_,yg l m _ p b a⟩;exact⟨c,rfl,rfl,rfl,rfl,rfl⟩
 rw[za c3];exact OT l m p c (by omega)
theorem tN(l:List UInt8)(m:zl)(p:Nat)(d:p<l.length)(e:Int)(a:e≠0)(b:(Ref.step m (zk l p:Int)).1=e):Fails l m p e p:=by
 have c:Ref.run m (l.drop p) p=(e,p,m):=by
  rw[dw l m p d,za (by rw[b];exact a),b]
 unfold Fails verdict;rw[c,zb a];exact⟨rfl,rfl⟩
def qO(l:List UInt8):Nat->Nat->BY->Res BY
 | 0,p,_ => .err 2 p
 | f+1,p,acc=>if zk l p=34 then .ok acc (p+1) else match jU l p with
  | .ok s q=>qO l f q (acc++s)
  | .err e q => .err e q
def vZ(l:List UInt8)(p:Nat):Res BY:=qO l (l.length+1-p) p ⟨#[]⟩
def eH(m m':zl)(s:BY):Prop:=m'.state=8/\m'.opn=m.opn/\m'.nodes=m.nodes/\m'.named=m.named/\m'.root=m.root/\m'.got=s
theorem Ry(l:List UInt8)(f:Nat)(m:zl)(p:Nat)(acc:BY)(n:p<=l.length)(H:l.length<p+f)(c:m.state=8)(b:m.got=acc) :
  match qO l f p acc with
  | .ok s q=>p<q/\q<=l.length/\zk l (q-1)=34/\∃m',eH m m' s/\verdict l m p=verdict l m' (q-1)
  | .err e q=>Fails l m p e q:=by
 induction f generalizing m p acc with
 | zero=>omega
 | succ f o=>
  rw[qO]
  by_cases h34:zk l p=34
  ·rw[zb h34];have k:=qj l p (by omega);exact⟨by omega,by omega,by simpa using h34,m,⟨c,rfl,rfl,rfl,rfl,b⟩,by simp⟩
  rw[za h34];have a:=Br l m p n c h34
  cases hm:jU l p with
  | err e q=>rw[hm] at a;exact a
  | ok s q=>
   rw[hm] at a;obtain⟨G,j,y,⟨w1,A,B,C,D,E⟩,d⟩:=a;have hi:=o y q (acc++s) j (by omega) w1 (by rw[E,b]);simp only
   cases hr:qO l f q (acc++s) with
   | err e z=>rw[hr] at hi;exact Fails.of_eq hi d
   | ok I z=>
    rw[hr] at hi;obtain⟨F,g,h,m',⟨r,t,u,v,w,x⟩,i⟩:=hi;exact⟨by omega,g,h,m',⟨r,by rw[t,A],by rw[u,B],by rw[v,C],by rw[w,D],x⟩,d.trans i⟩
theorem dK(l:List UInt8)(m:zl)(p:Nat)(b:p<=l.length)(c:m.state=8)(a:m.got=⟨#[]⟩) :
  match vZ l p with
  | .ok s q=>p<q/\q<=l.length/\zk l (q-1)=34/\∃m',eH m m' s/\verdict l m p=verdict l m' (q-1)
  | .err e q=>Fails l m p e q:=Ry l _ m p ⟨#[]⟩ b (by omega) c a
inductive V where
 | str (s:BY)
 | word (b:Bool)
 | list (l:List V)
 | obj (l:List (BY×V))
inductive Rep (ns:List Ref.Node):Nat->V->Prop
 | str (i:Nat) (n:Ref.Node) (s:BY):ns[i]?=some n->n.kind=3->n.text=s->n.kids=[]->n.names=[]->Rep ns i (.str s)
 | word (i:Nat) (n:Ref.Node) (b:Bool):ns[i]?=some n->n.kind=(if b then 4 else 5)->n.kids=[]->n.names=[]->Rep ns i (.word b)
 | list (i:Nat) (n:Ref.Node) (vs:List V):ns[i]?=some n->n.kind=2->n.names=[]->n.kids.length=vs.length ->
   (∀k ∈ n.kids,i<k)->(∀(j k:Nat) (v:V),n.kids[j]?=some k->vs[j]?=some v->Rep ns k v)->Rep ns i (.list vs)
 | obj (i:Nat) (n:Ref.Node) (ms:List (BY×V)):ns[i]?=some n->n.kind=1->n.names=ms.map Prod.fst->n.kids.length=ms.length ->
   (∀k ∈ n.kids,i<k)->(∀(j k:Nat) (x:BY×V),n.kids[j]?=some k->ms[j]?=some x->Rep ns k x.2)->Rep ns i (.obj ms)
theorem Rep.more{ns o:List Ref.Node}{i:Nat}{v:V}(h:Rep ns i v)(l:∀(j:Nat) (n:Ref.Node),i<=j->ns[j]?=some n->o[j]?=some n):Rep o i v:=by
 induction h with
 | str i n s a c d e f=>exact .str i n s (l i n (ze _) a) c d e f
 | word i n b a c d e=>exact .word i n b (l i n (ze _) a) c d e
 | list i n y a c d e f _ p=>
  exact .list i n y (l i n (ze _) a) c d e f (λj k v m u=>p j k v m u (λq r t g=>l q r (by have:=f k (qL m);omega) g))
 | obj i n ms a c d e f _ p=>
  exact .obj i n ms (l i n (ze _) a) c d e f (λj k x m w=>p j k x m w (λq r t g=>l q r (by have:=f k (qL m);omega) g))
def base(m:zl):List Ref.Node:=if m.opn=[] then m.nodes else xV (m.opn.getLastD 0) m.nodes.length m.nodes
structure QI (m m':zl) (v:V):Prop where
 state:m'.state=6
 opn:m'.opn=m.opn
 old:m'.nodes.take m.nodes.length=base m
 rep:Rep m'.nodes m.nodes.length v
 root:m'.root=if m.opn=[] then (m.nodes.length:Int) else m.root
theorem VS(m:zl):(base m).length=m.nodes.length:=by
 unfold base;split
 ·rfl
 ·simp[xV]
def XQ(m:zl):Prop:=∀o ∈ m.opn,o<m.nodes.length
theorem IE(l:List Nat)(h:l≠[]):l.getLastD 0 ∈ l:=by
 cases l with
 | nil=>exact absurd rfl h
 | cons a r=>rw[List.getLastD_eq_getLast?,List.getLast?_eq_some_getLast (by simp)];exact List.getLast_mem _
theorem Uk(m:zl)(n:Ref.Node)(b:XQ m):(lay m n).nodes=base m++[n]:=by
 unfold lay base
 by_cases h:m.opn=[]
 ·rw[zb h,zb h]
 ·rw[za h,za h];have a:=b _ (IE m.opn h);generalize m.opn.getLastD 0=t at a |-;unfold xV;simp only;apply Ki;intro i;rw[Zz]
  by_cases hi:i<m.nodes.length
  ·rw[xK hi,xK (by simpa using hi),Zz]
  ·rw[xZ (by omega),xZ (by simp;omega)]
   have:¬t=i:=by omega
   simp[this]
theorem ng(m:zl)(n:Ref.Node):(lay m n).root=if m.opn=[] then (m.nodes.length:Int) else m.root:=by
 unfold lay;split<;>rfl
theorem tu(m m':zl)(n:Ref.Node)(v:V)(d:XQ m)(b:m'.state=6)(a:m'.opn=m.opn)(c:m'.nodes=(lay m n).nodes)(e:m'.root=(lay m n).root)(f:Rep m'.nodes m.nodes.length v):QI m m' v:=by
 refine⟨b,a,?_,f,by rw[e,ng]⟩;rw[c,Uk m n d,<- VS m,List.take_left]
theorem bi(m:zl)(n:Ref.Node)(a:XQ m):(lay m n).nodes[m.nodes.length]?=some n:=by
 rw[Uk m n a,<- VS m];simp
structure qU (m0 m:zl) (kind:Int) (names:List BY) (vs:List V):Prop where
 opn:m.opn=m0.opn++[m0.nodes.length]
 old:m.nodes.take m0.nodes.length=base m0
 node:∃n:Ref.Node,m.nodes[m0.nodes.length]?=some n/\n.kind=kind/\n.names=names/\n.kids.length=vs.length/\(∀c ∈ n.kids,m0.nodes.length<c)/\∀(j c:Nat) (v:V),n.kids[j]?=some c->vs[j]?=some v->Rep m.nodes c v
 root:m.root=if m0.opn=[] then (m0.nodes.length:Int) else m0.root
 opens:XQ m
theorem qU.like{c m m':zl}{kind:Int}{names:List BY}{d:List V}(h:qU c m kind names d)(b:m'.opn=m.opn)(a:m'.nodes=m.nodes)(i:m'.root=m.root):qU c m' kind names d:=by
 refine⟨by rw[b];exact h.opn,by rw[a];exact h.old,?_,by rw[i];exact h.root,λo g=>by rw[a];exact h.opens o (by rw[<- b];exact g)⟩;obtain⟨n,e,f⟩:=h.node;exact⟨n,by rw[a];exact e,by rw[a];exact f⟩
theorem qU.top{a m:zl}{kind:Int}{names:List BY}{b:List V}(h:qU a m kind names b):m.opn.getLastD 0=a.nodes.length:=by
 rw[h.opn,List.getLastD_eq_getLast?];simp
theorem qU.ne{a m:zl}{kind:Int}{names:List BY}{b:List V}(h:qU a m kind names b):m.opn≠[]:=by
 rw[h.opn];simp
theorem qU.kindTop{c m:zl}{kind:Int}{names:List BY}{d:List V}(h:qU c m kind names d):uf m=kind:=by
 obtain⟨n,a,b,_⟩:=h.node;unfold uf;rw[h.top,a];exact b
theorem qU.namesTop{c m:zl}{kind:Int}{names:List BY}{d:List V}(h:qU c m kind names d):Vo m=names:=by
 obtain⟨n,a,_,b,_⟩:=h.node;unfold Vo;rw[h.top,a];exact b
theorem qU.lt{a m:zl}{kind:Int}{names:List BY}{c:List V}(h:qU a m kind names c):a.nodes.length<m.nodes.length:=by
 obtain⟨n,b,_⟩:=h.node;exact (zR.1 b).1
theorem nY(a m:zl)(n:Ref.Node)(d:XQ a)(b:m.opn=a.opn++[a.nodes.length])(e:m.nodes=(lay a n).nodes)(i:m.root=(lay a n).root)(f:n.kids=[]):qU a m n.kind n.names []:=by
 refine⟨b,?_,⟨n,by rw[e];exact bi a n d,rfl,rfl,by rw[f];rfl,by rw[f];simp,λj c v _ k=>by simp at k⟩,by rw[i,ng],?_⟩
 ·rw[e,Uk a n d,<- VS a,List.take_left]
 ·intro o g;rw[e,Uk a n d,qA,VS];rw[b] at g
  rcases jy.1 g with h|h
  ·have:=d o h;simp;omega
  ·simp at h;subst h;simp
theorem Sj{l a:List Ref.Node}{k:Nat}(h:a.take k=l)(i:Nat)(hi:i<k):a[i]?=l[i]?:=by
 rw[<- h,kr,zb hi]
theorem QI.len{m m':zl}{v:V}(h:QI m m' v):m.nodes.length<m'.nodes.length:=by
 have:∃n,m'.nodes[m.nodes.length]?=some n:=by
  cases h.rep with
  | str i n s a=>exact⟨n,a⟩
  | word i n b a=>exact⟨n,a⟩
  | list i n d a=>exact⟨n,a⟩
  | obj i n ms a=>exact⟨n,a⟩
 obtain⟨n,c⟩:=this;exact (zR.1 c).1
theorem nZ{d m m':zl}{kind:Int}{names:List BY}{x:List V}{v:V}(h:qU d m kind names x)(l:QI m m' v):qU d m' kind names (x++[v]):=by
 have p:=h.lt;have hlen:=l.len;have g:base m=xV d.nodes.length m.nodes.length m.nodes:=by unfold base;rw[za h.ne,h.top]
 have f:∀i,i<m.nodes.length->m'.nodes[i]?=(xV d.nodes.length m.nodes.length m.nodes)[i]?:=λi hi=>by
  rw[<- g];exact Sj l.old i hi
 have a:∀i,i<m.nodes.length->i≠d.nodes.length->m'.nodes[i]?=m.nodes[i]?:=λi hi u=>by
  rw[f i hi];unfold xV;rw[Zz]
  have:¬d.nodes.length=i:=λe=>u e.symm
  simp[this]
 obtain⟨n,C,D,E,F,A,G⟩:=h.node
 have H:m'.nodes[d.nodes.length]?=some { n with kids:=n.kids++[m.nodes.length] }:=by
  rw[f _ p];unfold xV;rw[Zz,C]
  simp
 have k:∀c w,d.nodes.length<c->Rep m.nodes c w->Rep m'.nodes c w:=λc w b I=>I.more λj J s q=>by
  have t:=(zR.1 q).1;rw[a j t (by omega)];exact q
 refine⟨by rw[l.opn];exact h.opn,?_,⟨_,H,D,E,by simp[F],?_,?_⟩,by rw[l.root,za h.ne];exact h.root,?_⟩
 ·rw[<- h.old];apply Ki;intro i;rw[kr,kr]
  by_cases hi:i<d.nodes.length
  ·rw[zb hi,zb hi,a i (by omega) (by omega)]
  ·rw[za hi,za hi]
 ·intro c b
  rcases jy.1 b with h|h
  ·exact A c h
  ·simp at h;subst h;exact p
 ·intro j c w b r;simp only at b;rw[Z9] at b r
  by_cases s:j<x.length
  ·rw[zb (by omega)] at b;rw[zb s] at r;exact k c w (A c (qL b)) (G j c w b r)
  ·rw[za (by omega)] at b;rw[za s] at r;have y:=qL b;have z:=qL r;simp at y z;subst y;subst z;exact l.rep
 ·intro o B;rw[l.opn] at B
  have:=h.opens o B
  omega
theorem Mh{b m m':zl}{names:List BY}{r:List V}{s:BY}(h:qU b m 1 names r)(q:m'.opn=m.opn)(d:m'.nodes=yj b.nodes.length s m.nodes)(C:m'.root=m.root):qU b m' 1 (names++[s]) r:=by
 have B:=h.lt
 have a:∀i,i≠b.nodes.length->m'.nodes[i]?=m.nodes[i]?:=λi g=>by
  rw[d];unfold yj;rw[Zz]
  have:¬b.nodes.length=i:=λe=>g e.symm
  simp[this]
 obtain⟨n,t,u,v,x,k,y⟩:=h.node
 have A:m'.nodes[b.nodes.length]?=some { n with names:=n.names++[s] }:=by
  rw[d];unfold yj;rw[Zz,t]
  simp
 refine⟨by rw[q];exact h.opn,?_,⟨_,A,u,by simp[v],x,k,?_⟩,by rw[C];exact h.root,?_⟩
 ·rw[<- h.old];apply Ki;intro i;rw[kr,kr]
  by_cases hi:i<b.nodes.length
  ·rw[zb hi,zb hi,a i (by omega)]
  ·rw[za hi,za hi]
 ·intro j c w l D;have z:=k c (qL l);exact (y j c w l D).more λi E hi f=>by rw[a i (by omega)];exact f
 ·intro o p;rw[q] at p
  have:=h.opens o p
  rw[d];simpa [yj] using this
theorem tC{d m m':zl}{b:List V}(h:qU d m 2 [] b)(k:m'.state=6)(l:m'.opn=m.opn.dropLast)(c:m'.nodes=m.nodes)(o:m'.root=m.root):QI d m' (.list b):=by
 obtain⟨n,e,f,g,i,j,a⟩:=h.node;refine⟨k,by rw[l,h.opn];simp,by rw[c];exact h.old,?_,by rw[o];exact h.root⟩;rw[c];exact .list _ n b e f g i j a
theorem tF{c m m':zl}{ms:List (BY×V)}(h:qU c m 1 (ms.map Prod.fst) (ms.map Prod.snd))(l:m'.state=6)(p:m'.opn=m.opn.dropLast)(b:m'.nodes=m.nodes)(q:m'.root=m.root):QI c m' (.obj ms):=by
 obtain⟨n,d,e,f,g,i,a⟩:=h.node;refine⟨l,by rw[p,h.opn];simp,by rw[b];exact h.old,?_,by rw[q];exact h.root⟩;rw[b];refine .obj _ n ms d e f (by rw[g,qB]) i (λj k x o r=>a j k x.2 o ?_);rw[vz,r];rfl
def qi(l:List UInt8):List Nat->Nat->Res Unit
 | [],p => .ok () p
 | b::r,p=>if zk l p=b then qi l r (p+1) else .err 2 p
mutual
def qm(l:List UInt8):Nat->Nat->Nat->Res V
 | 0,_,p => .err 2 p
 | f+1,d,p=>
  if zk l p=123 then (if 8<d then .err 3 p else if zk l (skip l (p+1))=125 then .ok (.obj []) (skip l (p+1)+1) else kU l f d (skip l (p+1)) [])
  else if zk l p=91 then (if 8<d then .err 3 p else if zk l (skip l (p+1))=93 then .ok (.list []) (skip l (p+1)+1) else kR l f d (skip l (p+1)) [])
  else if zk l p=34 then (match vZ l (p+1) with
   | .ok s q => .ok (.str s) q
   | .err e q => .err e q)
  else if zk l p=116 then (match qi l [114,117,101] (p+1) with
   | .ok _ q => .ok (.word true) q
   | .err e q => .err e q)
  else if zk l p=102 then (match qi l [97,108,115,101] (p+1) with
   | .ok _ q => .ok (.word false) q
   | .err e q => .err e q)
  else .err 2 p
def kR(l:List UInt8):Nat->Nat->Nat->List V->Res V
 | 0,_,p,_ => .err 2 p
 | f+1,d,p,acc=>match qm l f (d+1) p with
  | .err e q => .err e q
  | .ok v q=>
   if zk l (skip l q)=44 then kR l f d (skip l (skip l q+1)) (acc++[v])
   else if zk l (skip l q)=93 then .ok (.list (acc++[v])) (skip l q+1)
   else .err 2 (skip l q)
def kU(l:List UInt8):Nat->Nat->Nat->List (BY×V)->Res V
 | 0,_,p,_ => .err 2 p
 | f+1,d,p,acc=>
  if zk l p≠34 then .err 2 p else match vZ l (p+1) with
  | .err e q => .err e q
  | .ok s q=>
   if acc.any (λx=>x.1.toList==s.toList) then .err 4 (q-1)
   else if zk l (skip l q)≠58 then .err 2 (skip l q)
   else match qm l f (d+1) (skip l (skip l q+1)) with
   | .err e a => .err e a
   | .ok v a=>
    if zk l (skip l a)=44 then kU l f d (skip l (skip l a+1)) (acc++[(s,v)])
    else if zk l (skip l a)=125 then .ok (.obj (acc++[(s,v)])) (skip l a+1)
    else .err 2 (skip l a)
end
def XW(l:List UInt8)(a m:zl)(p:Nat)(r:Res V):Prop:=match r with
 | .ok v q=>p<q/\q<=l.length/\∃m',QI a m' v/\verdict l m p=verdict l m' q
 | .err e q=>Fails l m p e q
theorem XW.of_eq{l:List UInt8}{c m m':zl}{p a:Nat}{r:Res V}(h:XW l c m' a r)(k:p<=a)(b:verdict l m p=verdict l m' a):XW l c m p r:=by
 cases r with
 | ok v q=>
  obtain⟨j,d,i,f,g⟩:=h;exact⟨by omega,d,i,f,b.trans g⟩
 | err e q=>exact Fails.of_eq h b
theorem Tm(l:List UInt8)(r:List Nat)(m:zl)(p:Nat)(B:p<=l.length)(C:r≠[])(D:m.state=7)(d:m.word.data.toList.map UInt8.toNat=r)(j:∀b ∈ r,b≠0) :
  match qi l r p with
  | .ok _ q=>p<q/\q<=l.length/\∃m':zl,m'.state=6/\m'.opn=m.opn/\m'.nodes=m.nodes/\m'.root=m.root/\verdict l m p=verdict l m' q
  | .err e q=>Fails l m p e q:=by
 induction r generalizing m p with
 | nil=>exact absurd rfl C
 | cons b r E=>
  have a:=Jb m (zk l p:Int) D
  have hlen:m.word.size=r.length+1:=by
   have:=congrArg List.length d
   rw[qB,zA] at this
   simpa using this
  have g:(m.word.data.toList.getD 0 0).toNat=b:=by
   cases hl:m.word.data.toList with
   | nil=>rw[hl] at d;simp at d
   | cons c t=>rw[hl] at d;simp at d;simpa using d.1
  rw[g] at a;rw[qi]
  by_cases hb:zk l p=b
  ·rw[zb hb];rw[za (by omega)] at a;have z:=j b (by simp);have h:=qj l p (by omega);have i:=yg l m _ p h a
   by_cases hr0:r=[]
   ·subst hr0;rw[qi];refine⟨by omega,by omega,_,?_,?_,?_,?_,i⟩
    ·simp only;rw[zb (by rw[hlen];rfl)]
    ·rfl
    ·rfl
    ·rfl
   ·have A:¬m.word.size=1:=by rw[hlen];cases r with|nil=>exact absurd rfl hr0|cons _ _=>simp
    have hi:=E { m with word:=m.word.extract 1 m.word.size,state:=if m.word.size=1 then 6 else 7 } (p+1) (by omega) hr0 (by simp only;rw[za A])
     (by
       simp only
       have e:(m.word.extract 1 m.word.size).data.toList=m.word.data.toList.drop 1:=by
        have y:m.word.data.toList.length=m.word.size:=zA _;simp only[Jj,U1,fw];rw[Zd (by simp[y])]
       rw[e,List.map_drop,d];rfl)
     (λk f=>j k (by simp[f]))
    cases hw2:qi l r (p+1) with
    | ok u q=>
     rw[hw2] at hi;obtain⟨F,n,m',o,s,v,w,x⟩:=hi;exact⟨by omega,n,m',o,s,v,w,i.trans x⟩
    | err e q=>rw[hw2] at hi;exact Fails.of_eq hi i
  ·rw[za hb];rw[zb (by omega)] at a;exact kZ l m p B (.inl (by omega)) 2 (by decide) (by rw[a]) (λ_=>rfl)
theorem PM(m:zl)(b:Nat)(h:m.state=1\/m.state=2)(hb:blank b=false)(a:¬(m.state=2/\b=93)):Ref.step m (b:Int)=jf m (b:Int):=by
 rw[Q7 m _ (by omega),JG,hb,za (by decide),za (by omega),za (by omega),za (by omega)]
theorem UT(m:zl)(b:Nat)(h:m.state=6\/m.state=5)(hb:blank b=false):Ref.step m (b:Int)=after m (b:Int):=by
 rw[Q7 m _ (by omega),JG,hb,za (by decide),zb h]
theorem PR(m:zl)(b:Nat)(h:m.state=3\/m.state=4)(hb:blank b=false)(a:¬(m.state=3/\b=125)):Ref.step m (b:Int)=if (b:Int)≠34 then (2,m) else (0,{ m with state:=8,named:=true,got:=⟨#[]⟩ }):=by
 rw[Q7 m _ (by omega),JG,hb,za (by decide),za (by omega),za (by omega),zb h]
theorem step_end(m:zl)(b:Nat)(h:(m.state=2/\b=93)\/(m.state=3/\b=125)):Ref.step m (b:Int)=xx m (b:Int):=by
 rw[Q7 m _ (by omega),JG]
 have hb:blank b=false:=by
  rcases h with ⟨_,rfl⟩|⟨_,rfl⟩<;>decide
 rw[hb,za (by decide),za (by omega),zb (by omega)]
theorem ll{a m:zl}{b:List V}(h:qU a m 2 [] b):xx m 93=(0,{ m with opn:=m.opn.dropLast,state:=6 }):=by
 unfold xx;rw[za h.ne,h.kindTop];rfl
theorem lq{a m:zl}{names:List BY}{b:List V}(h:qU a m 1 names b):xx m 125=(0,{ m with opn:=m.opn.dropLast,state:=6 }):=by
 unfold xx;rw[za h.ne,h.kindTop];rfl
theorem Le(l:List UInt8){f m:zl}{g:List V}(h:qU f m 2 [] g)(j:m.state=6)(p:Nat)(k:p<=l.length) :
  (zk l (skip l p)=44->∃m',m'.state=1/\qU f m' 2 [] g/\skip l p<l.length/\verdict l m p=verdict l m' (skip l (skip l p+1))) /\
  (zk l (skip l p)=93->∃m',QI f m' (.list g)/\skip l p<l.length/\verdict l m p=verdict l m' (skip l p+1)) /\
  (zk l (skip l p)≠44->zk l (skip l p)≠93->Fails l m p 2 (skip l p)):=by
 have d:=Qx l m (by omega) p;have hle:=ve l p k;have a:=UT m (zk l (skip l p)) (.inl j) (uw l p);unfold after at a;rw[za (by omega),za (by rintro (h|i);omega;exact h.ne i)] at a;refine⟨λhb=>?_,λhb=>?_,λn o=>?_⟩
 ·rw[za (by omega),za (by omega),h.kindTop,za (by decide)] at a;have b:=qj l (skip l p) (by omega);have c:=yg l m _ (skip l p) b a;refine⟨{ m with state:=1 },rfl,h.like rfl rfl rfl,b,(d.trans c).trans (Qx l _ (show (1:Int)<7 by decide) _)⟩
 ·rw[zb (by omega),hb] at a;have b:=qj l (skip l p) (by omega);have e:xx m ((93:Nat):Int)=_:=ll h;rw[e] at a;have c:=yg l m _ (skip l p) b (by rw[hb];exact a);refine⟨_,?_,b,d.trans c⟩;exact tC h rfl rfl rfl rfl
 ·refine Fails.of_eq (kZ l m (skip l p) hle (.inr h.ne) 2 (by decide) ?_ (λ_=>rfl)) d;rw[a]
  by_cases h3:(zk l (skip l p):Int)=125\/(zk l (skip l p):Int)=93
  ·rw[zb h3];unfold xx;rw[za h.ne,h.kindTop,zb];have e:(zk l (skip l p):Int)=125:=by omega
   rw[e];decide
  ·rw[za h3,zb (by omega)]
theorem Mq(l:List UInt8){f m:zl}{ms:List (BY×V)}(h:qU f m 1 (ms.map Prod.fst) (ms.map Prod.snd))(i:m.state=6)(p:Nat)(j:p<=l.length) :
  (zk l (skip l p)=44->∃m',m'.state=4/\qU f m' 1 (ms.map Prod.fst) (ms.map Prod.snd)/\skip l p<l.length/\verdict l m p=verdict l m' (skip l (skip l p+1))) /\
  (zk l (skip l p)=125->∃m',QI f m' (.obj ms)/\skip l p<l.length/\verdict l m p=verdict l m' (skip l p+1)) /\
  (zk l (skip l p)≠44->zk l (skip l p)≠125->Fails l m p 2 (skip l p)):=by
 have d:=Qx l m (by omega) p;have hle:=ve l p j;have a:=UT m (zk l (skip l p)) (.inl i) (uw l p);unfold after at a;rw[za (by omega),za (by rintro (h|g);omega;exact h.ne g)] at a;refine⟨λhb=>?_,λhb=>?_,λk n=>?_⟩
 ·rw[za (by omega),za (by omega),h.kindTop,zb rfl] at a;have b:=qj l (skip l p) (by omega);have c:=yg l m _ (skip l p) b a;refine⟨{ m with state:=4 },rfl,h.like rfl rfl rfl,b,(d.trans c).trans (Qx l _ (show (4:Int)<7 by decide) _)⟩
 ·rw[zb (by omega),hb] at a;have b:=qj l (skip l p) (by omega);have e:xx m ((125:Nat):Int)=_:=lq h;rw[e] at a;have c:=yg l m _ (skip l p) b (by rw[hb];exact a);refine⟨_,?_,b,d.trans c⟩;exact tF h rfl rfl rfl rfl
 ·refine Fails.of_eq (kZ l m (skip l p) hle (.inr h.ne) 2 (by decide) ?_ (λ_=>rfl)) d;rw[a]
  by_cases h3:(zk l (skip l p):Int)=125\/(zk l (skip l p):Int)=93
  ·rw[zb h3];unfold xx;rw[za h.ne,h.kindTop,zb];have e:(zk l (skip l p):Int)=93:=by omega
   rw[e];decide
  ·rw[za h3,zb (by omega)]
def AV(l:List UInt8)(f:Nat):Prop:=∀(m:zl) (d p:Nat),(m.state=1\/m.state=2)->XQ m->m.opn.length+1=d->p<=l.length->blank (zk l p)=false->¬(m.state=2/\zk l p=93)->2*(l.length-p)<f ->
 XW l m m p (qm l f d p)
def AL(l:List UInt8)(f:Nat):Prop:=∀(a m:zl) (d p:Nat) (acc:List V),qU a m 2 [] acc->(m.state=1\/m.state=2)->a.opn.length+1=d->p<=l.length->blank (zk l p)=false->¬(m.state=2/\zk l p=93)->2*(l.length-p)+1<f ->
 XW l a m p (kR l f d p acc)
def AO(l:List UInt8)(f:Nat):Prop:=∀(a m:zl) (d p:Nat) (acc:List (BY×V)),qU a m 1 (acc.map Prod.fst) (acc.map Prod.snd)->(m.state=3\/m.state=4)->a.opn.length+1=d->p<=l.length->blank (zk l p)=false->¬(m.state=3/\zk l p=125)->2*(l.length-p)+1<f ->
 XW l a m p (kU l f d p acc)
theorem JY(m a:zl)(b:a.opn=m.opn)(c:a.nodes=m.nodes)(d:a.root=m.root)(n:Ref.Node):(lay a n).nodes=(lay m n).nodes/\(lay a n).root=(lay m n).root:=by
 unfold lay;rw[b,c]
 by_cases hE:m.opn=[]
 ·rw[zb hE,zb hE];exact⟨rfl,rfl⟩
 ·rw[za hE,za hE];exact⟨rfl,d⟩
theorem Li(l:List UInt8)(f:Nat)(z:AV l f)(y:AL l f):AL l (f+1):=by
 intro E m d p acc o C A B hb j J;have a:m.opn.length+1=d+1:=by rw[o.opn,qA];simp;omega
 have c:=z m (d+1) p C o.opens a B hb j (by omega);rw[kR]
 cases hr:qm l f (d+1) p with
 | err e q=>rw[hr] at c;exact c
 | ok v q=>
  rw[hr] at c;obtain⟨I,x,K,w,k⟩:=c;have r:=nZ o w;obtain⟨g,h,i⟩:=Le l r w.state q x;simp only;have D:=yX l q
  by_cases c1:zk l (skip l q)=44
  ·rw[zb c1];obtain⟨s,G,F,n,t⟩:=g c1;clear g h i;have u:=yX l (skip l q+1);have b:=ve l (skip l q+1) (by omega)
   have:=y E s d (skip l (skip l q+1)) (acc++[v]) F (.inl G) A b (uw l _) (by omega) (by omega)
   exact this.of_eq (by omega) (k.trans t)
  rw[za c1]
  by_cases c2:zk l (skip l q)=93
  ·rw[zb c2];obtain⟨s,H,n,t⟩:=h c2;clear g h i;exact⟨by omega,by omega,s,H,k.trans t⟩
  rw[za c2];exact Fails.of_eq (i c1 c2) k
theorem Mt(l:List UInt8)(f:Nat)(hV:AV l f)(hO:AO l f):AO l (f+1):=by
 intro J m d p acc X hs hd hp hb B hf;rw[kU];have n:=PR m (zk l p) hs hb B
 by_cases c0:zk l p=34
 ·rw[za (by simpa using c0)];rw[za (by omega)] at n;have O:=qj l p (by omega);have S:=yg l m _ p O n;have g:=dK l { m with state:=8,named:=true,got:=⟨#[]⟩ } (p+1) (by omega) rfl rfl
  cases hr:vZ l (p+1) with
  | err e q=>rw[hr] at g;exact Fails.of_eq g S
  | ok s q=>
   rw[hr] at g;obtain⟨h1,h2,h3,a,⟨k1,k2,k3,k4,k5,k6⟩,W⟩:=g;simp only;have r:qU J a 1 (acc.map Prod.fst) (acc.map Prod.snd):=X.like k2 k3 k5
   have c:Ref.step a (zk l (q-1):Int)=closed a:=by
    rw[Q6 a _ k1,h3];unfold plain;rw[zb (by decide)]
   have T:a.named=true:=k4
   have C:(acc.map Prod.fst).any (λx=>x.toList==a.got.toList)=acc.any (λx=>x.1.toList==s.toList):=by
    rw[k6,QB];rfl
   have N:closed a=if acc.any (λx=>x.1.toList==s.toList)=true then (4,a) else (0,{ a with nodes:=yj (a.opn.getLastD 0) a.got a.nodes,state:=5 }):=by
    unfold closed;rw[za (by rw[T];decide),r.namesTop,C]
   rw[N] at c
   by_cases c1:acc.any (λx=>x.1.toList==s.toList)=true
   ·rw[zb c1];rw[zb c1] at c;exact Fails.of_eq (tN l a (q-1) (by omega) 4 (by decide) (by rw[c])) (S.trans W)
   rw[za c1];rw[za c1] at c;have z:=yg l a _ (q-1) (by omega) c;rw[show q-1+1=q by omega] at z;obtain⟨j,k⟩:∃j:zl,j={ a with nodes:=yj (a.opn.getLastD 0) a.got a.nodes,state:=5 }:=⟨_,rfl⟩
   rw[<- k] at z
   have P:qU J j 1 (acc.map Prod.fst++[s]) (acc.map Prod.snd):=by
    have:=Mh (s:=a.got) r (m':=j) (by rw[k]) (by rw[k];simp only;rw[r.top]) (by rw[k])
    rw[k6] at this;exact this
   have u:j.state=5:=by rw[k]
   have H:=((S.trans W).trans z).trans (Qx l j (by omega) q);have b5:=yX l q;have G:=ve l q h2;have b:=UT j (zk l (skip l q)) (.inr u) (uw l q);unfold after at b
   by_cases c2:zk l (skip l q)=58
   ·rw[za (by simpa using c2)];rw[zb ⟨u,by omega⟩] at b;have D:=qj l (skip l q) (by omega);have I:=H.trans ((yg l j _ (skip l q) D b).trans (Qx l _ (show (1:Int)<7 by decide) _));have t:qU J { j with state:=1 } 1 (acc.map Prod.fst++[s]) (acc.map Prod.snd):=P.like rfl rfl rfl
    have Y:=yX l (skip l q+1);have w:=ve l (skip l q+1) (by omega);have F:({ j with state:=1 }:zl).opn.length+1=d+1:=by rw[t.opn,qA];simp;omega
    have i:=hV { j with state:=1 } (d+1) (skip l (skip l q+1)) (.inl rfl) t.opens F w (uw l _) (λh=>absurd h.1 (show ¬(1:Int)=2 by decide)) (by omega)
    cases hr2:qm l f (d+1) (skip l (skip l q+1)) with
    | err e o=>rw[hr2] at i;exact Fails.of_eq i I
    | ok v o=>
     rw[hr2] at i;obtain⟨g1,g2,m4,ht,ge⟩:=i;have Q:=nZ t ht;have R:qU J m4 1 ((acc++[(s,v)]).map Prod.fst) ((acc++[(s,v)]).map Prod.snd):=by simpa using Q
     obtain⟨K,L,M⟩:=Mq l R ht.state o g2;simp only;have Z:=yX l o;have A:=I.trans ge
     by_cases c3:zk l (skip l o)=44
     ·rw[zb c3];obtain⟨U,s5,n5,E,V⟩:=K c3;clear K L M;have a0:=yX l (skip l o+1);have y:=ve l (skip l o+1) (by omega)
      have:=hO J U d (skip l (skip l o+1)) (acc++[(s,v)]) n5 (.inr s5) hd y (uw l _) (by omega) (by omega)
      exact this.of_eq (by omega) (A.trans V)
     rw[za c3]
     by_cases c4:zk l (skip l o)=125
     ·rw[zb c4];obtain⟨U,t5,E,V⟩:=L c4;clear K L M;exact⟨by omega,by omega,U,t5,A.trans V⟩
     rw[za c4];exact Fails.of_eq (M c3 c4) A
   ·rw[zb c2];rw[za (by omega),zb (.inl u)] at b;exact Fails.of_eq (kZ l j (skip l q) G (.inl (by omega)) 2 (by decide) (by rw[b]) (λ_=>rfl)) H
 ·rw[zb c0];rw[zb (by omega)] at n;exact kZ l m p hp (.inr X.ne) 2 (by decide) (by rw[n]) (λ_=>rfl)
theorem SN(l:List UInt8)(f:Nat)(V:AL l f)(W:AO l f):AV l (f+1):=by
 intro m d p Y F M J hb H hf;rw[qm];have a:=PM m (zk l p) Y hb H;unfold jf at a;have v:Inc m := .inl (by omega)
 by_cases c1:zk l p=123
 ·rw[zb c1];rw[zb (by omega)] at a
  by_cases c2:8<d
  ·rw[zb c2];rw[zb (by omega)] at a;exact kZ l m p J v 3 (by decide) (by rw[a]) (λh=>by omega)
  rw[za c2];rw[za (by omega)] at a;simp only at a;rw[za (by omega),za (by omega)] at a;have n:=qj l p (by omega);have B:=yg l m _ p n a;obtain⟨c,g⟩:∃c:zl,c={ (lay { m with state:=3 } { kind:=1,text:=⟨#[]⟩,names:=[],kids:=[] }) with opn:=m.opn++[m.nodes.length] }:=⟨_,rfl⟩
  rw[<- g] at B;have o:qU m c 1 [] []:=nY m c { kind:=1,text:=⟨#[]⟩,names:=[],kids:=[] } F (by rw[g]) (by rw[g];exact (JY m { m with state:=3 } rfl rfl rfl _).1) (by rw[g];exact (JY m { m with state:=3 } rfl rfl rfl _).2) rfl
  have y:c.state=3:=by rw[g];exact J2 _ _
  have k:=B.trans (Qx l c (by omega) (p+1));have K:=yX l (p+1);have z:=ve l (p+1) (by omega)
  by_cases c3:zk l (skip l (p+1))=125
  ·rw[zb c3];have i:=step_end c (zk l (skip l (p+1))) (.inr ⟨y,c3⟩);rw[c3] at i;have e:xx c ((125:Nat):Int)=_:=lq o;rw[e] at i;have x:=qj l (skip l (p+1)) (by omega);have D:=k.trans (yg l c _ (skip l (p+1)) x (by rw[c3];exact i));refine⟨by omega,by omega,_,?_,D⟩;exact tF (ms:=[]) o rfl rfl rfl rfl
  rw[za c3]
  have:=W m c d (skip l (p+1)) [] o (.inl y) M z (uw l _) (by omega) (by omega)
  exact this.of_eq (by omega) k
 rw[za c1]
 by_cases c2:zk l p=91
 ·rw[zb c2];rw[zb (by omega)] at a
  by_cases c3:8<d
  ·rw[zb c3];rw[zb (by omega)] at a;exact kZ l m p J v 3 (by decide) (by rw[a]) (λh=>by omega)
  rw[za c3];rw[za (by omega)] at a;simp only at a;rw[zb (by omega),zb (by omega)] at a;have n:=qj l p (by omega);have B:=yg l m _ p n a;obtain⟨c,g⟩:∃c:zl,c={ (lay { m with state:=2 } { kind:=2,text:=⟨#[]⟩,names:=[],kids:=[] }) with opn:=m.opn++[m.nodes.length] }:=⟨_,rfl⟩
  rw[<- g] at B;have o:qU m c 2 [] []:=nY m c { kind:=2,text:=⟨#[]⟩,names:=[],kids:=[] } F (by rw[g]) (by rw[g];exact (JY m { m with state:=2 } rfl rfl rfl _).1) (by rw[g];exact (JY m { m with state:=2 } rfl rfl rfl _).2) rfl
  have y:c.state=2:=by rw[g];exact J2 _ _
  have k:=B.trans (Qx l c (by omega) (p+1));have K:=yX l (p+1);have z:=ve l (p+1) (by omega)
  by_cases c4:zk l (skip l (p+1))=93
  ·rw[zb c4];have i:=step_end c (zk l (skip l (p+1))) (.inl ⟨y,c4⟩);rw[c4] at i;have e:xx c ((93:Nat):Int)=_:=ll o;rw[e] at i;have x:=qj l (skip l (p+1)) (by omega);have D:=k.trans (yg l c _ (skip l (p+1)) x (by rw[c4];exact i));refine⟨by omega,by omega,_,?_,D⟩;exact tC o rfl rfl rfl rfl
  rw[za c4]
  have:=V m c d (skip l (p+1)) [] o (.inr y) M z (uw l _) (by omega) (by omega)
  exact this.of_eq (by omega) k
 rw[za c2];rw[za (by omega)] at a
 by_cases c3:zk l p=34
 ·rw[zb c3];rw[zb (by omega)] at a;have n:=qj l p (by omega);have B:=yg l m _ p n a;have t:=dK l { m with state:=8,named:=false,got:=⟨#[]⟩ } (p+1) (by omega) rfl rfl
  cases G:vZ l (p+1) with
  | err e q=>rw[G] at t;exact Fails.of_eq t B
  | ok s q=>
   rw[G] at t;obtain⟨h1,T,U,c,⟨k1,N,k3,k4,k5,k6⟩,X⟩:=t;simp only
   have A:Ref.step c (zk l (q-1):Int)=closed c:=by
    rw[Q6 c _ k1,U];unfold plain;rw[zb (by decide)]
   unfold closed at A;rw[zb (by rw[k4])] at A;have k:=yg l c _ (q-1) (by omega) A;rw[show q-1+1=q by omega] at k;refine⟨by omega,T,_,?_,(B.trans X).trans k⟩;have I:=JY m c N k3 k5 { kind:=3,text:=c.got,names:=[],kids:=[] };refine tu m _ { kind:=3,text:=c.got,names:=[],kids:=[] } _ F rfl ?_ I.1 I.2 ?_
   ·show (lay c _).opn=_;rw[mZ,N]
   ·show Rep (lay c _).nodes _ _;rw[I.1];exact .str _ _ s (bi m _ F) rfl k6 rfl rfl
 rw[za c3];rw[za (by omega)] at a
 have j:∀(E:Bool) (w:BY) (r:List Nat),r≠[]->w.data.toList.map UInt8.toNat=r->(∀b ∈ r,b≠0)->p<l.length ->
   Ref.step m (zk l p:Int)=(0,{ lay m { kind:=if E then 4 else 5,text:=⟨#[]⟩,names:=[],kids:=[] } with state:=7,word:=w }) ->
   XW l m m p (match qi l r (p+1) with | .ok _ q => .ok (.word E) q | .err e q => .err e q):=by
  intro E w r G Z hz n a;have B:=yg l m _ p n a;have C:=Tm l r { lay m { kind:=if E then 4 else 5,text:=⟨#[]⟩,names:=[],kids:=[] } with state:=7,word:=w } (p+1) (by omega) G rfl Z hz
  cases hr2:qi l r (p+1) with
  | err e q=>rw[hr2] at C;exact Fails.of_eq C B
  | ok u q=>
   rw[hr2] at C;obtain⟨g1,O,c,P,Q,L,R,S⟩:=C;refine⟨by omega,O,c,?_,B.trans S⟩;refine tu m c { kind:=if E then 4 else 5,text:=⟨#[]⟩,names:=[],kids:=[] } _ F P (by rw[Q];exact mZ _ _) L R ?_
   rw[L];exact .word _ _ E (bi m _ F) rfl rfl rfl
 by_cases c4:zk l p=116
 ·rw[zb c4];rw[zb (by omega)] at a;exact j true ⟨#[114,117,101]⟩ [114,117,101] (by decide) (by decide) (by decide) (qj l p (by omega)) a
 rw[za c4];rw[za (by omega)] at a
 by_cases c5:zk l p=102
 ·rw[zb c5];rw[zb (by omega)] at a;exact j false ⟨#[97,108,115,101]⟩ [97,108,115,101] (by decide) (by decide) (by decide) (qj l p (by omega)) a
 rw[za c5];rw[za (by omega)] at a;exact kZ l m p J v 2 (by decide) (by rw[a]) (λ_=>rfl)
theorem fV(l:List UInt8)(f:Nat):AV l f/\AL l f/\AO l f:=by
 induction f with
 | zero=>exact⟨λm d p _ _ _ _ _ _ h=>by omega,λb m d p acc _ _ _ _ _ _ h=>by omega,λb m d p acc _ _ _ _ _ _ h=>by omega⟩
 | succ f a=>exact⟨SN l f a.2.1 a.2.2,Li l f a.1 a.2.1,Mt l f a.1 a.2.2⟩
def yC(l:List UInt8):Res V:=match qm l (2*l.length+1) 1 (skip l 0) with
 | .err e q => .err e q
 | .ok v q=>if skip l q<l.length then .err 2 (skip l q) else .ok v (skip l q)
theorem Gs:XQ init:=λo a=>by simp[init] at a
theorem rE(l:List UInt8):match yC l with
  | .ok v _=>∃m:zl,verdict l init 0=(0,l.length,m)/\m.state=6/\m.opn=[]/\m.root=0/\Rep m.nodes 0 v
  | .err e q=>Fails l init 0 e q:=by
 have g:=ve l 0 (by omega);have f:=Qx l init (by decide) 0;have h:=(fV l (2*l.length+1)).1 init 1 (skip l 0) (.inl rfl) Gs rfl g (uw l 0) (λh=>absurd h.1 (by decide)) (by omega);unfold yC
 cases hr:qm l (2*l.length+1) 1 (skip l 0) with
 | err e q=>rw[hr] at h;exact Fails.of_eq h f
 | ok v q=>
  rw[hr] at h;obtain⟨n,j,m,a,k⟩:=h;simp only;have i:=(f.trans k).trans (Qx l m (by rw[a.state];decide) q);have hle:=ve l q j;have b:m.opn=[]:=a.opn
  by_cases c:skip l q<l.length
  ·rw[zb c];have d:=UT m (zk l (skip l q)) (.inl a.state) (uw l q);unfold after at d;rw[za (by rw[a.state];simp),zb (.inr b)] at d;exact Fails.of_eq (tN l m (skip l q) c 2 (by decide) (by rw[d])) i
  ·rw[za c];have e:skip l q=l.length:=by omega
   rw[e,SY l m a.state b] at i;refine⟨m,i,a.state,b,?_,a.rep⟩
   have:=a.root
   rw[zb (by rfl)] at this;exact this
def yw(t:BY):List Value:=t.data.toList.map λc => .int .u8 (c.toNat:Int)
theorem byte_of(x:Int)(a:0<=x)(b:x<256):((UInt8.ofNat x.toNat).toNat:Int)=x:=by
 rw[UInt8.toNat_ofNat'];omega
theorem OG(n:Int)(a:0<=n)(b:n<=65535)(c:¬(55296<=n/\n<=57343)):Lib.runeCells n=yw (enc n):=by
 unfold Lib.runeCells yw enc
 by_cases c1:n<128
 ·rw[zb c1,Lib.encodeRuneZ_one a (by omega)];unfold one;simp only[yh,Zc];rw[byte_of n a (by omega)]
 by_cases c2:n<2048
 ·rw[za c1,zb c2,Lib.encodeRuneZ_two (by omega) (by omega)];simp only[yh,Zc];rw[byte_of (192+n / 64) (by omega) (by omega),byte_of (128+n % 64) (by omega) (by omega)]
 ·rw[za c1,za c2,Lib.encodeRuneZ_three (by omega)];simp only[yh,Zc];rw[byte_of (224+n / 4096) (by omega) (by omega),byte_of (128+n / 64 % 64) (by omega) (by omega),byte_of (128+n % 64) (by omega) (by omega)]
theorem VV(a b:BY):yw (a++b)=yw a++yw b:=by
 unfold yw;simp
theorem AY(a:BY):(yw a).length=a.size:=by
 unfold yw;rw[qB,zA]
def uu(k:Nat):Nat:=[194,224,225,237,238,240,241,244].getD k 0
def uT(k:Nat):Nat:=[223,224,236,237,239,240,243,244].getD k 0
def ZY(k:Nat):Nat:=[1,2,2,2,2,3,3,3].getD k 0
def QY(k:Nat):Nat:=[128,160,128,128,128,144,128,128].getD k 0
def Xy(k:Nat):Nat:=[191,191,191,159,191,191,191,143].getD k 0
theorem lt8{k:Nat}(h:k<8):k=0\/k=1\/k=2\/k=3\/k=4\/k=5\/k=6\/k=7:=by omega
theorem UM(k:Nat)(a:k<8):128<=uu k/\uu k<256/\uT k<256/\1<=ZY k/\ZY k<=3/\0<QY k/\QY k<256/\Xy k<256:=by
 rcases lt8 a with rfl|rfl|rfl|rfl|rfl|rfl|rfl|rfl<;>decide
theorem bB(b k:Nat)(d:k<8)(a:uu k<=b)(c:b<=uT k):zT (b:Int)=((ZY k:Int),(QY k:Int),(Xy k:Int)):=by
 unfold zT
 rcases lt8 d with rfl|rfl|rfl|rfl|rfl|rfl|rfl|rfl<;>simp[uu,uT,ZY,QY,Xy] at a c |-<;>(repeat' split)<;>first|rfl|omega
theorem IR(b:Nat)(h:∀k,k<8->b<uu k\/uT k<b):zT (b:Int)=(0,0,0):=by
 have a:=h 0 (by omega);have c:=h 1 (by omega);have d:=h 2 (by omega);have e:=h 3 (by omega);have f:=h 4 (by omega);have g:=h 5 (by omega);have i:=h 6 (by omega);have j:=h 7 (by omega);simp[uu,uT] at a c d e f g i j;unfold zT
 repeat' split
 all_goals first|rfl|omega
def piece(l:List UInt8)(p q:Nat):BY:=⟨((l.drop p).take (q-p)).toArray⟩
theorem OV(l:List UInt8)(p:Nat)(h:zT (zk l p:Int)=(0,0,0)):j6 l p = .err 2 p:=by
 unfold j6;simp only;rw[h];rfl
def UW(l:List UInt8)(p j:Nat):Prop:=∀i,i<j->within l 128 191 (p+2+i)=true
theorem pK(l:List UInt8)(p:Nat)(h:p<l.length):one (zk l p:Int)=⟨#[l[p]]⟩:=by
 unfold one;rw[bT l p h]
 simp
theorem U0(l:List UInt8)(lo hi p:Nat)(a:0<lo)(h:within l lo hi p=true):p<l.length:=by
 unfold within at h;simp at h;exact qj l p (by omega)
theorem Nt(l:List UInt8)(p:Nat)(h:p<l.length):piece l p (p+1)=one (zk l p:Int):=by
 rw[pK l p h]
 have e:(l.drop p).take (p+1-p)=[l[p]]:=by
  rw[vw h,show p+1-p=1 by omega];rfl
 unfold piece;rw[e]
theorem piece_more(l:List UInt8)(p q:Nat)(a:p<=q)(h:q<l.length):piece l p (q+1)=piece l p q++one (zk l q:Int):=by
 rw[pK l q h];unfold piece;rw[show q+1-p=(q-p)+1 by omega,Xe]
 have:(l.drop p)[q-p]?=some l[q]:=by
  rw[Zy,show p+(q-p)=q by omega,zn h]
 rw[this];apply Z4;simp[ByteArray.data_append]
theorem Pk(l:List UInt8)(p k:Nat)(a:k<8)(b:uu k<=zk l p)(c:zk l p<=uT k)(d:within l (QY k) (Xy k) (p+1)=false):j6 l p = .err 2 (p+1):=by
 have hb:=UM k a;unfold j6;simp only;rw[bB _ k a b c,za (by simp;omega)];simp only[xQ];rw[zb d]
theorem Pn(l:List UInt8)(p k j:Nat)(a:k<8)(b:uu k<=zk l p)(c:zk l p<=uT k)(g:within l (QY k) (Xy k) (p+1)=true)(e:UW l p j)(f:j+1<ZY k)(hb:within l 128 191 (p+2+j)=false):j6 l p = .err 2 (p+2+j):=by
 have d:=UM k a;unfold j6;simp only;rw[bB _ k a b c,za (by simp;omega)];simp only[xQ];rw[za (by rw[g];decide),za (by omega)]
 match j with
 | 0=>rw[zb (by simpa using hb)]
 | 1=>
  have:=e 0 (by omega)
  rw[za (by rw[show p+2=p+2+0 by omega,this];decide),za (by omega),zb (by simpa using hb)]
 | j+2=>omega
theorem OU(l:List UInt8)(p k:Nat)(e:k<8)(h:uu k<=zk l p)(i:zk l p<=uT k)(f:within l (QY k) (Xy k) (p+1)=true)(c:UW l p (ZY k-1)):j6 l p = .ok (piece l p (p+1+ZY k)) (p+1+ZY k):=by
 have hb:=UM k e;have o:p<l.length:=qj l p (by omega);have q:=U0 l _ _ _ (by omega) f;unfold j6;simp only;rw[bB _ k e h i,za (by simp;omega)];simp only[xQ];rw[za (by rw[f];decide)]
 have d:piece l p (p+2)=one (zk l p:Int)++one (zk l (p+1):Int):=by
  rw[piece_more l p (p+1) (by omega) q,Nt l p o]
 obtain⟨n,m⟩:=Nm (ZY k);rw[m] at c hb |-;have j:n=1\/n=2\/n=3:=by omega
 rcases j with rfl|rfl|rfl
 ·rw[zb (by simp),d]
 ·have a:=c 0 (by omega);have b:=U0 l _ _ _ (by omega) a;simp only[Ze] at a b;rw[za (by simp),za (by rw[a];decide),zb (by simp),piece_more l p (p+2) (by omega) b,d]
 ·have a:=c 0 (by omega);have g:=c 1 (by omega);have b:=U0 l _ _ _ (by omega) a;have r:=U0 l _ _ _ (by omega) g;simp only[Ze] at a b;rw[za (by simp),za (by rw[a];decide),za (by simp),za (by rw[show p+3=p+2+1 by omega,g];decide),piece_more l p (p+3) (by omega) r,piece_more l p (p+2) (by omega) b,d]
def Res.to{α:Type}:Res α->Nat
 | .ok _ q=>q
 | .err _ q=>q
theorem ZT(n:Int):(one n).size=1:=rfl
theorem ai(n:Int):(enc n).size<=3:=by
 unfold enc
 split
 ·rw[ZT];omega
 split
 ·exact (by decide:2<=3)
 ·exact (by decide:3<=3)
theorem Fe{l:List UInt8}{p q:Nat}{u:BY}(h:uO l p = .ok u q):q=p+4/\u.size<=3:=by
 unfold uO at h;simp only at h
 repeat' split at h
 all_goals first|(cases h;done)|(injection h with h1 h2;subst h1;exact⟨h2.symm,ai _⟩)
theorem Ey{l:List UInt8}{p q:Nat}{u:BY}(h:uo l p = .ok u q):p<q/\u.size<=q-p:=by
 unfold uo at h;simp only at h
 repeat' split at h
 all_goals first
  | (cases h;done)
  | (injection h with h1 h2;subst h1;rw[ZT];omega)
  | (have:=Fe h;omega)
theorem OQ{l:List UInt8}{p q:Nat}{u:BY}(h:j6 l p = .ok u q):p<q/\u.size<=q-p:=by
 unfold j6 at h;simp only at h
 repeat' split at h
 all_goals first
  | (cases h;done)
  | (injection h with h1 h2;subst h1;simp only[zJ,ZT];omega)
theorem il{l:List UInt8}{p q:Nat}{u:BY}(h:jU l p = .ok u q):p<q/\u.size<=q-p:=by
 unfold jU at h;simp only at h
 repeat' split at h
 all_goals first
  | (cases h;done)
  | (injection h with h1 h2;subst h1;rw[ZT];omega)
  | (have:=Ey h;omega)
  | exact OQ h
theorem RD{l:List UInt8}{f p q:Nat}{acc u:BY}(a:zk l p≠34)(h:jU l p = .ok u q):qO l (f+1) p acc=qO l f q (acc++u):=by
 rw[qO,za a,h]
theorem RA{l:List UInt8}{f p q:Nat}{acc:BY}{c:Int}(a:zk l p≠34)(h:jU l p = .err c q):qO l (f+1) p acc = .err c q:=by
 rw[qO,za a,h]
theorem Rz{l:List UInt8}{f p:Nat}{acc:BY}(a:zk l p=34):qO l (f+1) p acc = .ok acc (p+1):=by
 rw[qO,zb a]
def yJ(l:List UInt8)(p:Nat):Res BY:=if zk l p=34 then vZ l (p+1) else .err 2 p
theorem pY(l:List UInt8)(p:Nat):qi l [34] p=if zk l p=34 then .ok () (p+1) else .err 2 p:=by
 simp only[qi]
theorem Po{l:List UInt8}{p q:Nat}{c:Int}(h:j6 l p = .err c q):c=2:=by
 unfold j6 at h;simp only at h
 repeat' split at h
 all_goals first|(cases h;done)|(injection h with h1 h2;exact h1.symm)
theorem Fj{l:List UInt8}{p q:Nat}{c:Int}(h:uO l p = .err c q):c=2:=by
 unfold uO at h;simp only at h
 repeat' split at h
 all_goals first|(cases h;done)|(injection h with h1 h2;exact h1.symm)
theorem EB{l:List UInt8}{p q:Nat}{c:Int}(h:uo l p = .err c q):c=2:=by
 unfold uo at h;simp only at h
 repeat' split at h
 all_goals first
  | (cases h;done)
  | (injection h with h1 h2;exact h1.symm)
  | exact Fj h
theorem Bt{l:List UInt8}{p q:Nat}{c:Int}(h:jU l p = .err c q):c=2:=by
 unfold jU at h;simp only at h
 repeat' split at h
 all_goals first
  | (cases h;done)
  | (injection h with h1 h2;exact h1.symm)
  | exact EB h
  | exact Po h
theorem UV{l:List UInt8}:∀{f p q:Nat} {acc:BY} {c:Int},qO l f p acc = .err c q->c=2
 | 0,p,q,acc,c,h=>by rw[qO] at h;injection h with h1 h2;exact h1.symm
 | f+1,p,q,acc,c,h=>by
  rw[qO] at h
  split at h
  ·cases h
  cases hc:jU l p with
  | ok u a=>rw[hc] at h;exact UV h
  | err b a=>rw[hc] at h;injection h with h1 h2;rw[<- h1];exact Bt hc
theorem pX{l:List UInt8}{p q:Nat}{c:Int}(h:yJ l p = .err c q):c=2:=by
 unfold yJ at h
 split at h
 ·exact UV h
 ·injection h with h1 h2;exact h1.symm
theorem Vq{l:List UInt8}:∀{r:List Nat} {p q:Nat} {c:Int},qi l r p = .err c q->c=2
 | [],p,q,c,h=>by rw[qi] at h;cases h
 | b::r,p,q,c,h=>by
  rw[qi] at h
  split at h
  ·exact Vq h
  ·injection h with h1 h2;exact h1.symm
def jO{α:Type}(l:List UInt8)(st:Nat->α->Nat->Res α)(e:Nat):Nat->α->Nat->Res α
 | 0,_,p => .err 2 p
 | f+1,a,p=>match st f a p with
  | .err c q => .err c q
  | .ok b q=>
   if zk l (skip l q)=44 then jO l st e f b (skip l (skip l q+1))
   else if zk l (skip l q)=e then .ok b (skip l q+1)
   else .err 2 (skip l q)
def vV{α:Type}(l:List UInt8)(st:Nat->α->Nat->Res α)(e:Nat)(f d:Nat)(a:α)(p:Nat):Res α:=
 if 8<d then .err 3 p
 else if zk l (skip l (p+1))=e then .ok a (skip l (p+1)+1)
 else jO l st e f a (skip l (p+1))
def Res.map{α β:Type}(g:α->β):Res α->Res β
 | .ok a q => .ok (g a) q
 | .err c q => .err c q
def stL(l:List UInt8)(d:Nat)(f:Nat)(acc:List V)(q:Nat):Res (List V):=match qm l f (d+1) q with
 | .ok v a => .ok (acc++[v]) a
 | .err c a => .err c a
def Qs(l:List UInt8)(d:Nat)(f:Nat)(acc:List (BY×V))(q:Nat):Res (BY×V):=match yJ l q with
 | .err c b => .err c b
 | .ok s b=>
  if acc.any (λx=>x.1.toList==s.toList) then .err 4 (b-1)
  else if zk l (skip l b)≠58 then .err 2 (skip l b)
  else match qm l f (d+1) (skip l (skip l b+1)) with
  | .err c a => .err c a
  | .ok v a => .ok (s,v) a
def stO(l:List UInt8)(d:Nat)(f:Nat)(acc:List (BY×V))(q:Nat):Res (List (BY×V)):=match Qs l d f acc q with
 | .ok m a => .ok (acc++[m]) a
 | .err c a => .err c a
theorem nD(l:List UInt8)(d:Nat):∀(f p:Nat) (acc:List V),kR l f d p acc=(jO l (stL l d) 93 f acc p).map .list
 | 0,p,acc=>by rw[kR,jO,Res.map]
 | f+1,p,acc=>by
  rw[kR,jO,stL]
  cases hv:qm l f (d+1) p with
  | err c q=>rfl
  | ok v q=>
   simp only
   split
   ·exact nD l d f _ _
   split
   ·rfl
   ·rfl
theorem ow(l:List UInt8)(d:Nat):∀(f p:Nat) (acc:List (BY×V)),kU l f d p acc=(jO l (stO l d) 125 f acc p).map .obj
 | 0,p,acc=>by rw[kU,jO,Res.map]
 | f+1,p,acc=>by
  rw[kU,jO,stO,Qs,yJ]
  by_cases h:zk l p=34
  ·rw[za (by simp[h]),zb h]
   cases hs:vZ l (p+1) with
   | err c q=>rfl
   | ok s q=>
    simp only
    by_cases ht:acc.any (λx=>x.1.toList==s.toList)=true
    ·rw[zb ht,zb ht];rfl
    rw[za ht,za ht]
    by_cases h58:zk l (skip l q)≠58
    ·rw[zb h58,zb h58];rfl
    rw[za h58,za h58]
    cases hv:qm l f (d+1) (skip l (skip l q+1)) with
    | err c a=>rfl
    | ok v a=>
     simp only
     split
     ·exact ow l d f _ _
     split
     ·rfl
     ·rfl
  ·rw[zb h,za h];rfl
theorem SI(l:List UInt8)(f d p:Nat)(h:zk l p=91):qm l (f+1) d p=(vV l (stL l d) 93 f d [] p).map .list:=by
 rw[qm,za (by omega),zb h];unfold vV
 split
 ·rfl
 split
 ·rfl
 ·exact nD l d f _ _
theorem SL(l:List UInt8)(f d p:Nat)(h:zk l p=123):qm l (f+1) d p=(vV l (stO l d) 125 f d [] p).map .obj:=by
 rw[qm,zb h];unfold vV
 split
 ·rfl
 split
 ·rfl
 ·exact ow l d f _ _
theorem SS(l:List UInt8)(f d p:Nat)(h:zk l p=34):qm l (f+1) d p=(yJ l p).map .str:=by
 rw[qm,za (by omega),za (by omega),zb h,yJ,zb h]
 cases vZ l (p+1)<;>rfl
theorem SV(l:List UInt8)(f d p:Nat)(h:zk l p=116):qm l (f+1) d p=(qi l [116,114,117,101] p).map (λ_ => .word true):=by
 rw[qm,za (by omega),za (by omega),za (by omega),zb h]
 conv=>rhs;rw[qi,zb h]
 cases qi l [114,117,101] (p+1)<;>rfl
theorem SG(l:List UInt8)(f d p:Nat)(h:zk l p=102):qm l (f+1) d p=(qi l [102,97,108,115,101] p).map (λ_ => .word false):=by
 rw[qm,za (by omega),za (by omega),za (by omega),za (by omega),zb h]
 conv=>rhs;rw[qi,zb h]
 cases qi l [97,108,115,101] (p+1)<;>rfl
theorem SK(l:List UInt8)(f d p:Nat)(a:zk l p≠123)(b:zk l p≠91)(c:zk l p≠34)(e:zk l p≠116)(g:zk l p≠102):qm l (f+1) d p = .err 2 p:=by
 rw[qm,za a,za b,za c,za e,za g]
def ag(d:Nat):zl:={ init with opn:=List.replicate (d-1) 0,nodes:=[⟨2,⟨#[]⟩,[],[]⟩] }
theorem UZ{l:List UInt8}{f d p q:Nat}{v:V}(g:1<=d)(e:p<=l.length)(hb:blank (zk l p)=false)(b:2*(l.length-p)<f)(h:qm l f d p = .ok v q):p<q/\q<=l.length:=by
 have:=(fV l f).1 (ag d) d p (.inl rfl) (λo c=>by
  have:o=0:=List.eq_of_mem_replicate c
  rw[this];exact Nat.zero_lt_one) (by simp[ag];omega) e hb (λh=>by have a:=h.1;simp[ag,init] at a) b
 rw[h] at this;exact⟨this.1,this.2.1⟩
theorem sK{l:List UInt8}:∀{f p q:Nat} {acc t:BY},qO l f p acc = .ok t q->p<q/\t.size<=acc.size+(q-p)
 | 0,p,q,acc,t,h=>by rw[qO] at h;cases h
 | f+1,p,q,acc,t,h=>by
  rw[qO] at h
  split at h
  ·injection h with a b;subst a;omega
  cases hc:jU l p with
  | ok u c=>
   rw[hc] at h;have a:=il hc;have b:=sK (acc:=acc++u) h;rw[zJ] at b;omega
  | err d c=>rw[hc] at h;cases h
theorem UC{l:List UInt8}{p q:Nat}{t:BY}(h:yJ l p = .ok t q):p+1<q/\t.size<=q:=by
 unfold yJ vZ at h
 split at h
 ·have:=sK h
  have e:(ByteArray.mk #[]).size=0:=rfl;omega
 ·cases h
theorem UD{l:List UInt8}{p q:Nat}{t:BY}(h:yJ l p = .ok t q):q<=l.length:=by
 unfold yJ at h
 split at h
 ·rename_i a;have b:=qj l p (by omega)
  have:=dK l { init with state:=8,got:=⟨#[]⟩ } (p+1) (by omega) rfl rfl
  rw[h] at this;exact this.2.1
 ·cases h
end Rd
end Go.Proofs.YtagnlbgbnfnapaaGreatDoor
