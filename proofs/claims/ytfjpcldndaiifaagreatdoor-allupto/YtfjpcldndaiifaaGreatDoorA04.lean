/- P -/
import Derived.Test.YtfjpcldndaiifaaGreatDoorA03
set_option maxRecDepth 100000
namespace Go.Proofs.YtfjpcldndaiifaaGreatDoor
namespace Z
open U
def zk(l:List UInt8)(p:Nat):Nat:=(l.getD p 0).toNat
inductive Res (α:Type) where
 | ok (v:α) (p:Nat)
 | err (e:Int) (p:Nat)
def verdict(l:List UInt8)(m:zl)(p:Nat):Int×Nat×zl:=
 if (U.run m (l.drop p) p).1≠0 then U.run m (l.drop p) p
 else if (U.run m (l.drop p) p).2.2.state≠6\/(U.run m (l.drop p) p).2.2.opn≠[] then (2,l.length,(U.run m (l.drop p) p).2.2)
 else U.run m (l.drop p) p
def Inc(m:zl):Prop:=m.state≠6\/m.opn≠[]
def Fails(l:List UInt8)(m:zl)(p:Nat)(e:Int)(q:Nat):Prop:=(verdict l m p).1=e/\(verdict l m p).2.1=q
theorem nJ(l:List UInt8)(p:Nat)(h:p<l.length):zk l p=l[p].toNat:=by
 unfold zk;rw[zT,zn h];rfl
theorem nK(l:List UInt8)(p:Nat)(h:¬p<l.length):zk l p=0:=by
 unfold zk;rw[zT,aK (by omega)];rfl
theorem qH(l:List UInt8)(p:Nat)(h:zk l p≠0):p<l.length:=by
 rcases UW p l.length with h1|h1
 ·exact h1
 exact absurd (nK l p (by omega)) h
theorem XD(l:List UInt8)(p:Nat):zk l p<256:=bu _
theorem nX(l:List UInt8)(m:zl)(p:Nat)(h:p<l.length):U.run m (l.drop p) p=if (U.step m (zk l p:Int)).1=0 then U.run (U.step m (zk l p:Int)).2 (l.drop (p+1)) (p+1) else ((U.step m (zk l p:Int)).1,p,m):=by
 rw[jD h,U.run,nJ l p h]
theorem yT(l:List UInt8)(m m':zl)(p:Nat)(h:p<l.length)(a:U.step m (zk l p:Int)=(0,m')):verdict l m p=verdict l m' (p+1):=by
 have e:U.run m (l.drop p) p=U.run m' (l.drop (p+1)) (p+1):=by rw[nX l m p h,a];rfl
 unfold verdict;rw[e]
theorem Qx(l:List UInt8)(m:zl)(p:Nat)(k:p<=l.length)(j:Inc m)(e:Int)(d:e≠0)(f:(U.step m (zk l p:Int)).1=e)(i:zk l p=0->e=2):Fails l m p e p:=by
 by_cases h:p<l.length
 ·have a:U.run m (l.drop p) p=(e,p,m):=by
   rw[nX l m p h,za (by rw[f];exact d),f]
  unfold Fails verdict;rw[a,zb d];exact⟨rfl,rfl⟩
 have g:=i (nK l p h);have c:p=l.length:=by omega
 have a:U.run m (l.drop p) p=(0,p,m):=by rw[Yw (by omega),U.run]
 unfold Fails verdict;have b:(0,p,m).2.2.state≠6\/(0,p,m).2.2.opn≠[]:=j;rw[a,za (by simp),zb b,g,c];exact⟨rfl,rfl⟩
theorem zfI(l:List UInt8)(m:zl)(a:m.state=6)(b:m.opn=[]):verdict l m l.length=(0,l.length,m):=by
 unfold verdict;rw[JP,U.run];simp[a,b]
theorem Fails.of_eq{l:List UInt8}{m m':zl}{p a:Nat}{e:Int}{q:Nat}(h:Fails l m' a e q)(b:verdict l m p=verdict l m' a):Fails l m p e q:=by
 unfold Fails at *;rw[b];exact h
def blank(b:Nat):Bool:=b==32||b==9||b==10||b==13
theorem U9(b:Nat):YG (b:Int)=blank b:=by
 unfold YG blank;rw[Zp]
 simp
 omega
def eU(l:List UInt8):Nat->Nat->Nat
 | 0,p=>p
 | f+1,p=>if blank (zk l p) then eU l f (p+1) else p
def skip(l:List UInt8)(p:Nat):Nat:=eU l (l.length-p) p
theorem VU(l:List UInt8)(p:Nat)(h:blank (zk l p)=true):p<l.length:=by
 apply qH;intro e;rw[e]at h;exact absurd h (by decide)
theorem YY(l:List UInt8)(p:Nat):skip l p=if blank (zk l p) then skip l (p+1) else p:=by
 unfold skip
 by_cases h:p<l.length
 ·obtain⟨k,b⟩:∃k,l.length-p=k+1:=⟨l.length-p-1,by omega⟩;rw[b,eU,show l.length-(p+1)=k by omega]
 have e:l.length-p=0:=by omega
 rw[e,eU,za];intro a;exact h (VU l p a)
theorem zd9(m:zl)(a:m.state<7)(b:Nat)(c:blank b=true):U.step m (b:Int)=(0,m):=by
 rw[Y0 m _ a,U9,c,zb rfl]
theorem Yn(l:List UInt8)(m:zl)(b:m.state<7)(p:Nat):verdict l m p=verdict l m (skip l p):=by
 generalize d:l.length-p=n
 induction n generalizing p with
 | zero=>
  rw[YY,za];intro a
  have:=VU l p a
  omega
 | succ n c=>
  rw[YY]
  by_cases a:blank (zk l p)=true
  ·rw[zb a,<- c (p+1) (by omega)];exact yT l m m p (by omega) (zd9 m b _ a)
  rw[za a]
theorem jV(l:List UInt8)(p:Nat):p<=skip l p:=by
 generalize b:l.length-p=n
 induction n generalizing p with
 | zero=>rw[YY];split<;>rename_i h<;>first|(have:=VU l p h;omega)|omega
 | succ n a=>
  rw[YY];split
  ·have:=a (p+1) (by omega);omega
  omega
theorem uX(l:List UInt8)(p:Nat)(c:p<=l.length):skip l p<=l.length:=by
 generalize b:l.length-p=n
 induction n generalizing p with
 | zero=>rw[YY];split<;>rename_i h<;>first|(have:=VU l p h;omega)|omega
 | succ n a=>
  rw[YY];split
  ·exact a (p+1) (by omega) (by omega)
  omega
theorem ZE(l:List UInt8)(p:Nat):blank (zk l (skip l p))=false:=by
 generalize b:l.length-p=n
 induction n generalizing p with
 | zero=>
  rw[YY];split
  ·rename_i h;have:=VU l p h;omega
  ·rename_i h;simpa using h
 | succ n a=>
  rw[YY];split
  ·exact a (p+1) (by omega)
  rename_i h;simpa using h
def Within(m m':zl)(g:BY):Prop:=m'.state=8/\m'.opn=m.opn/\m'.nodes=m.nodes/\m'.named=m.named/\m'.root=m.root/\m'.got=m.got++g
def within(l:List UInt8)(b a p:Nat):Bool:=decide (b<=zk l p/\zk l p<=a)
def uW(l:List UInt8)(p:Nat):Res BY:=
 let r:=zZ (zk l p:Int)
 if r.1=0 then .err 2 p
 else if within l r.2.1.toNat r.2.2.toNat (p+1)=false then .err 2 (p+1)
 else if r.1=1 then .ok (one (zk l p)++one (zk l (p+1))) (p+2)
 else if within l 128 191 (p+2)=false then .err 2 (p+2)
 else if r.1=2 then .ok (one (zk l p)++one (zk l (p+1))++one (zk l (p+2))) (p+3)
 else if within l 128 191 (p+3)=false then .err 2 (p+3)
 else .ok (one (zk l p)++one (zk l (p+1))++one (zk l (p+2))++one (zk l (p+3))) (p+4)
def ZV(l:List UInt8)(p:Nat):Res BY:=
 let a:=zP (zk l p)
 let b:=zP (zk l (p+1))
 let c:=zP (zk l (p+2))
 let d:=zP (zk l (p+3))
 if a<0 then .err 2 p
 else if b<0\/(a=13/\8<=b) then .err 2 (p+1)
 else if c<0 then .err 2 (p+2)
 else if d<0 then .err 2 (p+3)
 else .ok (enc (((a*16+b)*16+c)*16+d)) (p+4)
def Zy(l:List UInt8)(p:Nat):Res BY:=
 let b:=zk l p
 if b=34\/b=92\/b=47 then .ok (one b) (p+1)
 else if b=110 then .ok (one 10) (p+1)
 else if b=116 then .ok (one 9) (p+1)
 else if b=117 then ZV l (p+1)
 else .err 2 p
def uI(l:List UInt8)(p:Nat):Res BY:=
 let b:=zk l p
 if b<32 then .err 2 p
 else if b=92 then Zy l (p+1)
 else if b<128 then .ok (one b) (p+1)
 else uW l p
def pJ(l:List UInt8)(m:zl)(p:Nat)(r:Res BY):Prop:=match r with
 | .ok s q=>p<q/\q<=l.length/\∃a,Within m a s/\verdict l m p=verdict l a q
 | .err e q=>Fails l m p e q
theorem Vf(b:Nat):zP (b:Int)<=15:=by
 unfold zP;repeat' split
 all_goals omega
theorem lS(l:List UInt8)(p:Nat)(h:0<=zP (zk l p)):p<l.length:=by
 apply qH;intro e;rw[e]at h;exact absurd h (by decide)
theorem oh(l:List UInt8)(m:zl)(p:Nat)(g:p<=l.length)(f:m.state=9)(b c:Nat)(e:m.low=b)(d:m.high=c)(i:0<b):(within l b c p=false->Fails l m p 2 p) /\
  (within l b c p=true->p<l.length/\verdict l m p=verdict l { m with got:=m.got++one (zk l p),low:=128,high:=191,need:=m.need-1,state:=if m.need-1=0 then 8 else 9 } (p+1)):=by
 constructor
 ·intro h;refine Qx l m p g (.inl (by omega)) 2 (by decide) ?_ (λ_=>rfl);rw[Vs m _ f,e,d,zb];unfold within at h;simp at h;omega
 intro h;unfold within at h;simp at h;have a:p<l.length:=qH l p (by omega);refine⟨a,yT l m _ p a ?_⟩;rw[Vs m _ f,e,d,N8]
theorem zab(b:Nat):zZ (b:Int)=(0,0,0)\/(128<=b/\∃n a c:Nat,zZ (b:Int)=((n:Int),(a:Int),(c:Int))/\0<a/\(n=1\/n=2\/n=3)):=by
 unfold zZ;split
 ·exact .inr ⟨by omega,1,128,191,rfl,by omega,by omega⟩
 split
 ·exact .inr ⟨by omega,2,160,191,rfl,by omega,by omega⟩
 split
 ·exact .inr ⟨by omega,2,128,159,rfl,by omega,by omega⟩
 split
 ·exact .inr ⟨by omega,2,128,191,rfl,by omega,by omega⟩
 split
 ·exact .inr ⟨by omega,3,144,191,rfl,by omega,by omega⟩
 split
 ·exact .inr ⟨by omega,3,128,191,rfl,by omega,by omega⟩
 split
 ·exact .inr ⟨by omega,3,128,143,rfl,by omega,by omega⟩
 exact .inl rfl
theorem gY(a b c:BY):a++b++c=a++(b++c):=by
 apply XJ;simp
theorem zds(l:List UInt8)(m:zl)(p:Nat)(u:m.state=8)(w:128<=zk l p):pJ l m p (uW l p):=by
 have t:p<l.length:=qH l p (by omega)
 have d:U.step m (zk l p:Int)=if (zZ (zk l p:Int)).1=0 then (2,m) else (0,{ m with need:=(zZ (zk l p:Int)).1,low:=(zZ (zk l p:Int)).2.1,high:=(zZ (zk l p:Int)).2.2,got:=m.got++one (zk l p),state:=9 }):=by
  rw[YZ m _ u];unfold plain;rw[N8,N8,N8,N8]
 unfold uW
 rcases zab (zk l p) with h0|⟨_,n,k,i,hr,hlo,hn⟩
 ·rw[h0]at d |-;simp only[qJ];exact Qx l m p (by omega) (.inl (by omega)) 2 (by decide) (by rw[d];rfl) (λ_=>rfl)
 rw[hr]at d |-;simp only[yE];rw[N8]at d |-;have j:=yT l m _ p t d;obtain⟨e,a⟩:∃e:zl,e={ m with need:=(n:Int),low:=(k:Int),high:=(i:Int),got:=m.got++one (zk l p),state:=9 }:=⟨_,rfl⟩
 rw[<- a]at j;have q:=oh l e (p+1) (by omega) (by rw[a]) k i (by rw[a]) (by rw[a]) hlo
 cases w1:within l k i (p+1) with
 | false=>rw[zb rfl];exact(q.1 w1).of_eq j
 | true=>
  rw[za (by decide)];obtain⟨x,g⟩:=q.2 w1;have g:=j.trans g
  by_cases n1:n=1
  ·rw[N9];refine⟨by omega,by omega,_,?_,g⟩;subst n1;rw[a];exact⟨rfl,rfl,rfl,rfl,rfl,by simp only;rw[gY]⟩
  rw[N8];obtain⟨f,b⟩:∃f:zl,f={ e with got:=e.got++one (zk l (p+1)),low:=128,high:=191,need:=e.need-1,state:=if e.need-1=0 then 8 else 9 }:=⟨_,rfl⟩
  rw[<- b]at g;have r:=oh l f (p+2) (by omega) (by rw[b];simp only;rw[za];rw[a];simp only;omega) 128 191 (by rw[b];rfl) (by rw[b];rfl) (by omega)
  cases w2:within l 128 191 (p+2) with
  | false=>rw[zb rfl];exact(r.1 w2).of_eq g
  | true=>
   rw[za (by decide)];obtain⟨y,h⟩:=r.2 w2;have h:=g.trans h
   by_cases n2:n=2
   ·rw[N9];refine⟨by omega,by omega,_,?_,h⟩;subst n2;rw[b,a];exact⟨rfl,rfl,rfl,rfl,rfl,by simp only[gY]⟩
   rw[N8];obtain rfl:n=3:=by omega
   obtain⟨o,c⟩:∃o:zl,o={ f with got:=f.got++one (zk l (p+2)),low:=128,high:=191,need:=f.need-1,state:=if f.need-1=0 then 8 else 9 }:=⟨_,rfl⟩
   rw[<- c]at h;have s:=oh l o (p+3) (by omega) (by rw[c,b,a];rfl) 128 191 (by rw[c];rfl) (by rw[c];rfl) (by omega)
   cases w3:within l 128 191 (p+3) with
   | false=>rw[zb rfl];exact(s.1 w3).of_eq h
   | true=>
    rw[za (by decide)];obtain⟨z,v⟩:=s.2 w3;refine⟨by omega,by omega,_,?_,h.trans v⟩;rw[c,b,a];exact⟨rfl,rfl,rfl,rfl,rfl,by simp only[gY]⟩
theorem bT(l:List UInt8)(m:zl)(p:Nat)(i:p<=l.length)(j:m.state=11)(N k:Int)(f:m.number=N)(g:m.need=k)(c:Prop)(d:c↔(zP (zk l p)<0\/(k=3/\216<=16*N+zP (zk l p)/\16*N+zP (zk l p)<=223))):(c->Fails l m p 2 p) /\
  (¬c->k≠1->p<l.length/\verdict l m p=verdict l { m with number:=16*N+zP (zk l p),need:=k-1 } (p+1)) /\
  (¬c->k=1->p<l.length/\verdict l m p=verdict l { m with number:=16*N+zP (zk l p),need:=k-1,got:=m.got++enc (16*N+zP (zk l p)),state:=8 } (p+1)):=by
 have b:U.step m (zk l p:Int)=digit m (zk l p:Int):=UB m _ j;unfold digit at b;rw[f,g]at b;refine⟨λh=>?_,λh e=>?_,λh e=>?_⟩
 ·refine Qx l m p i (.inl (by omega)) 2 (by decide) ?_ (λ_=>rfl);rw[b]
  by_cases h1:zP (zk l p:Int)<0
  ·rw[zb h1]
  rw[za h1,zb (by have:=d.1 h;omega)]
 ·rw[d]at h;have a:p<l.length:=lS l p (by omega);refine⟨a,yT l m _ p a ?_⟩;rw[b,N8,N8,N8]
 rw[d]at h;have a:p<l.length:=lS l p (by omega);refine⟨a,yT l m _ p a ?_⟩;rw[b,N8,N8,N9]
theorem Rp(l:List UInt8)(m:zl)(p:Nat)(G:p<=l.length)(g:m.state=11)(F:m.number=0)(E:m.need=4):match ZV l p with
  | .ok s q=>p<q/\q<=l.length/\∃u,Within { m with state:=8 } u s/\verdict l m p=verdict l u q
  | .err e q=>Fails l m p e q:=by
 have H:=Vf (zk l p);have I:=Vf (zk l (p+1));unfold ZV;simp only;generalize n:zP (zk l p:Int)=A at *;have v:=bT l m p G g 0 4 F E (A<0) (by rw[n];omega)
 by_cases c1:A<0
 ·rw[zb c1];exact v.1 c1
 rw[za c1];obtain⟨K,j⟩:=v.2.1 c1 (by decide);rw[n]at j;obtain⟨h,a⟩:∃h:zl,h={ m with number:=16*0+A,need:=4-1 }:=⟨_,rfl⟩
 rw[<- a]at j;generalize o:zP (zk l (p+1):Int)=B at *;have w:=bT l h (p+1) (by omega) (by rw[a];exact g) A 3 (by rw[a];simp) (by rw[a];rfl) (B<0\/(A=13/\8<=B)) (by rw[o];omega)
 by_cases c2:B<0\/(A=13/\8<=B)
 ·rw[zb c2];exact(w.1 c2).of_eq j
 rw[za c2];obtain⟨L,d⟩:=w.2.1 c2 (by decide);rw[o]at d;have d:=j.trans d;obtain⟨i,b⟩:∃i:zl,i={ h with number:=16*A+B,need:=3-1 }:=⟨_,rfl⟩
 rw[<- b]at d;generalize r:zP (zk l (p+2):Int)=C at *;have x:=bT l i (p+2) (by omega) (by rw[b,a];exact g) (16*A+B) 2 (by rw[b]) (by rw[b];rfl) (C<0) (by rw[r];omega)
 by_cases c3:C<0
 ·rw[zb c3];exact(x.1 c3).of_eq d
 rw[za c3];obtain⟨M,f⟩:=x.2.1 c3 (by decide);rw[r]at f;have f:=d.trans f;obtain⟨k,c⟩:∃k:zl,k={ i with number:=16*(16*A+B)+C,need:=2-1 }:=⟨_,rfl⟩
 rw[<- c]at f;generalize t:zP (zk l (p+3):Int)=D at *;have y:=bT l k (p+3) (by omega) (by rw[c,b,a];exact g) (16*(16*A+B)+C) 1 (by rw[c]) (by rw[c];rfl) (D<0) (by rw[t];omega)
 by_cases c4:D<0
 ·rw[zb c4];exact(y.1 c4).of_eq f
 rw[za c4];obtain⟨N,z⟩:=y.2.2 c4 rfl;rw[t]at z;refine⟨by omega,by omega,_,?_,f.trans z⟩;rw[c,b,a];refine⟨rfl,rfl,rfl,rfl,rfl,?_⟩;simp only;have e:16*(16*(16*A+B)+C)+D=((A*16+B)*16+C)*16+D:=by omega
 rw[e]
theorem PE(l:List UInt8)(m:zl)(p:Nat)(k:p<=l.length)(n:m.state=10):match Zy l p with
  | .ok s q=>p<q/\q<=l.length/\∃g,Within { m with state:=8 } g s/\verdict l m p=verdict l g q
  | .err e q=>Fails l m p e q:=by
 have a:U.step m (zk l p:Int)=escape m (zk l p:Int):=UA m _ n;unfold escape at a;unfold Zy;simp only;generalize d:zk l p=b at *
 by_cases c1:b=34\/b=92\/b=47
 ·rw[zb c1];rw[N9]at a;have c:p<l.length:=qH l p (by rw[d];omega);have v:=yT l m _ p c (by rw[d];exact a);refine⟨by omega,by omega,_,?_,v⟩;exact⟨rfl,rfl,rfl,rfl,rfl,rfl⟩
 rw[za c1];rw[N8]at a
 by_cases c2:b=110
 ·rw[zb c2];rw[N9]at a;have c:p<l.length:=qH l p (by rw[d];omega);have v:=yT l m _ p c (by rw[d];exact a);refine⟨by omega,by omega,_,?_,v⟩;exact⟨rfl,rfl,rfl,rfl,rfl,rfl⟩
 rw[za c2];rw[N8]at a
 by_cases c3:b=116
 ·rw[zb c3];rw[N9]at a;have c:p<l.length:=qH l p (by rw[d];omega);have v:=yT l m _ p c (by rw[d];exact a);refine⟨by omega,by omega,_,?_,v⟩;exact⟨rfl,rfl,rfl,rfl,rfl,rfl⟩
 rw[za c3];rw[N8]at a
 by_cases c4:b=117
 ·rw[zb c4];rw[N9]at a;have c:p<l.length:=qH l p (by rw[d];omega);have v:=yT l m _ p c (by rw[d];exact a);have f:=Rp l { m with state:=11,need:=4,number:=0 } (p+1) (by omega) rfl rfl rfl
  cases hf:ZV l (p+1) with
  | ok s q=>
   rw[hf]at f;obtain⟨o,h,g,i,j⟩:=f;exact⟨by omega,h,g,i,v.trans j⟩
  | err e q=>
   rw[hf]at f;exact Fails.of_eq f v
 rw[za c4];rw[N8]at a;exact Qx l m p k (.inl (by omega)) 2 (by decide) (by rw[d,a]) (λ_=>rfl)
theorem Mf(l:List UInt8)(m:zl)(p:Nat)(i:p<=l.length)(c:m.state=8)(n:zk l p≠34):pJ l m p (uI l p):=by
 have a:U.step m (zk l p:Int)=plain m (zk l p:Int):=YZ m _ c;unfold plain at a;unfold uI;simp only
 by_cases c1:zk l p<32
 ·rw[zb c1];rw[N8,N8,N9]at a;exact Qx l m p i (.inl (by omega)) 2 (by decide) (by rw[a]) (λ_=>rfl)
 rw[za c1];have b:p<l.length:=qH l p (by omega)
 by_cases c2:zk l p=92
 ·rw[zb c2];rw[N8,N9]at a;have v:=yT l m _ p b a;have f:=PE l { m with state:=10 } (p+1) (by omega) rfl
  cases hf:Zy l (p+1) with
  | ok s q=>
   rw[hf]at f;obtain⟨k,d,j,g,h⟩:=f;exact⟨by omega,d,j,g,v.trans h⟩
  | err e q=>
   rw[hf]at f;exact Fails.of_eq f v
 rw[za c2]
 by_cases c3:zk l p<128
 ·rw[zb c3];rw[N8,N8,N8,N9]at a;refine⟨by omega,by omega,_,?_,yT l m _ p b a⟩;exact⟨c,rfl,rfl,rfl,rfl,rfl⟩
 rw[za c3];exact zds l m p c (by omega)
theorem Gx(l:List UInt8)(m:zl)(p:Nat)(d:p<l.length)(e:Int)(a:e≠0)(b:(U.step m (zk l p:Int)).1=e):Fails l m p e p:=by
 have c:U.run m (l.drop p) p=(e,p,m):=by
  rw[nX l m p d,za (by rw[b];exact a),b]
 unfold Fails verdict;rw[c,zb a];exact⟨rfl,rfl⟩
def xA(l:List UInt8):Nat->Nat->BY->Res BY
 | 0,p,_ => .err 2 p
 | f+1,p,acc=>if zk l p=34 then .ok acc (p+1) else match uI l p with
  | .ok s q=>xA l f q (acc++s)
  | .err e q => .err e q
def Zl(l:List UInt8)(p:Nat):Res BY:=xA l (l.length+1-p) p ⟨#[]⟩
def pM(m m':zl)(s:BY):Prop:=m'.state=8/\m'.opn=m.opn/\m'.nodes=m.nodes/\m'.named=m.named/\m'.root=m.root/\m'.got=s
theorem zeM(l:List UInt8)(f:Nat)(m:zl)(p:Nat)(acc:BY)(r:p<=l.length)(L:l.length<p+f)(g:m.state=8)(d:m.got=acc):match xA l f p acc with
  | .ok s q=>p<q/\q<=l.length/\zk l (q-1)=34/\∃c,pM m c s/\verdict l m p=verdict l c (q-1)
  | .err e q=>Fails l m p e q:=by
 induction f generalizing m p acc with
 | zero=>omega
 | succ f t=>
  rw[xA]
  by_cases h34:zk l p=34
  ·rw[zb h34];have o:=qH l p (by omega);exact⟨by omega,by omega,by simpa using h34,m,⟨g,rfl,rfl,rfl,rfl,d⟩,by simp⟩
  rw[za h34];have a:=Mf l m p r g h34
  cases hm:uI l p with
  | err e q=>rw[hm]at a;exact a
  | ok s q=>
   rw[hm]at a;obtain⟨K,n,A,⟨C,D,E,F,G,H⟩,h⟩:=a;have b:=t A q (acc++s) n (by omega) C (by rw[H,d]);simp only
   cases hr:xA l f q (acc++s) with
   | err e B=>rw[hr]at b;exact Fails.of_eq b h
   | ok M B=>
    rw[hr]at b;obtain⟨I,i,j,c,⟨u,v,w,x,y,z⟩,k⟩:=b;exact⟨by omega,i,j,c,⟨u,by rw[v,D],by rw[w,E],by rw[x,F],by rw[y,G],z⟩,h.trans k⟩
theorem oJ(l:List UInt8)(m:zl)(p:Nat)(c:p<=l.length)(d:m.state=8)(b:m.got=⟨#[]⟩):match Zl l p with
  | .ok s q=>p<q/\q<=l.length/\zk l (q-1)=34/\∃a,pM m a s/\verdict l m p=verdict l a (q-1)
  | .err e q=>Fails l m p e q:=zeM l _ m p ⟨#[]⟩ c (by omega) d b
inductive V where
 | str (s:BY)
 | word (b:Bool)
 | list (l:List V)
 | obj (l:List (BY×V))
inductive Rep (ns:List U.Node):Nat->V->Prop
 | str (i:Nat) (n:U.Node) (s:BY):ns[i]?=some n->n.kind=3->n.text=s->n.kids=[]->n.names=[]->Rep ns i (.str s)
 | word (i:Nat) (n:U.Node) (b:Bool):ns[i]?=some n->n.kind=(if b then 4 else 5)->n.kids=[]->n.names=[]->Rep ns i (.word b)
 | list (i:Nat) (n:U.Node) (vs:List V):ns[i]?=some n->n.kind=2->n.names=[]->n.kids.length=vs.length ->
   (∀k ∈ n.kids,i<k)->(∀(j k:Nat) (v:V),n.kids[j]?=some k->vs[j]?=some v->Rep ns k v)->Rep ns i (.list vs)
 | obj (i:Nat) (n:U.Node) (ms:List (BY×V)):ns[i]?=some n->n.kind=1->n.names=ms.map Prod.fst->n.kids.length=ms.length ->
   (∀k ∈ n.kids,i<k)->(∀(j k:Nat) (x:BY×V),n.kids[j]?=some k->ms[j]?=some x->Rep ns k x.2)->Rep ns i (.obj ms)
theorem Rep.more{ns o:List U.Node}{i:Nat}{v:V}(h:Rep ns i v)(l:∀(j:Nat) (n:U.Node),i<=j->ns[j]?=some n->o[j]?=some n):Rep o i v:=by
 induction h with
 | str i n s a c d e f=>exact .str i n s (l i n F7 a) c d e f
 | word i n b a c d e=>exact .word i n b (l i n F7 a) c d e
 | list i n z a c d e f _ p=>
  exact .list i n z (l i n F7 a) c d e f (λj k v m u=>p j k v m u (λq r t g=>l q r (by have:=f k (xC m);omega) g))
 | obj i n y a c d e f _ p=>
  exact .obj i n y (l i n F7 a) c d e f (λj k x m w=>p j k x m w (λq r t g=>l q r (by have:=f k (xC m);omega) g))
def base(m:zl):List U.Node:=if m.opn=[] then m.nodes else yH (m.opn.getLastD 0) m.nodes.length m.nodes
structure YE (m m':zl) (v:V):Prop where
 state:m'.state=6
 opn:m'.opn=m.opn
 old:m'.nodes.take m.nodes.length=base m
 rep:Rep m'.nodes m.nodes.length v
 root:m'.root=if m.opn=[] then (m.nodes.length:Int) else m.root
theorem bH(m:zl):(base m).length=m.nodes.length:=by
 unfold base;split
 ·rfl
 simp[yH]
def JY(m:zl):Prop:=∀o ∈ m.opn,o<m.nodes.length
theorem WT(l:List Nat)(h:l≠[]):l.getLastD 0 ∈ l:=by
 cases l with
 | nil=>exact absurd rfl h
 | cons a r=>rw[List.getLastD_eq_getLast?,List.getLast?_eq_some_getLast (by simp)];exact List.getLast_mem _
theorem dG(m:zl)(n:U.Node)(b:JY m):(lay m n).nodes=base m++[n]:=by
 unfold lay base
 by_cases h:m.opn=[]
 ·rw[zb h,zb h]
 rw[za h,za h];have a:=b _ (WT m.opn h);generalize m.opn.getLastD 0=t at a |-;unfold yH;simp only;apply UN;intro i;rw[Q7]
 by_cases hi:i<m.nodes.length
 ·rw[yw hi,yw (by simpa using hi),Q7]
 rw[P8,yN (by simp;omega)]
 have:¬t=i:=by omega
 simp[this]
theorem Ca(m:zl)(n:U.Node):(lay m n).root=if m.opn=[] then (m.nodes.length:Int) else m.root:=by
 unfold lay;split<;>rfl
theorem Gr(m m':zl)(n:U.Node)(v:V)(d:JY m)(b:m'.state=6)(a:m'.opn=m.opn)(c:m'.nodes=(lay m n).nodes)(e:m'.root=(lay m n).root)(f:Rep m'.nodes m.nodes.length v):YE m m' v:=by
 refine⟨b,a,?_,f,by rw[e,Ca]⟩;rw[c,dG m n d,<- bH m,aU]
theorem mq(m:zl)(n:U.Node)(a:JY m):(lay m n).nodes[m.nodes.length]?=some n:=by
 rw[dG m n a,<- bH m];simp
structure xJ (m0 m:zl) (kind:Int) (names:List BY) (vs:List V):Prop where
 opn:m.opn=m0.opn++[m0.nodes.length]
 old:m.nodes.take m0.nodes.length=base m0
 node:∃n:U.Node,m.nodes[m0.nodes.length]?=some n/\n.kind=kind/\n.names=names/\n.kids.length=vs.length/\(∀c ∈ n.kids,m0.nodes.length<c)/\∀(j c:Nat) (v:V),n.kids[j]?=some c->vs[j]?=some v->Rep m.nodes c v
 root:m.root=if m0.opn=[] then (m0.nodes.length:Int) else m0.root
 opens:JY m
theorem xJ.like{d m m':zl}{a:Int}{names:List BY}{e:List V}(h:xJ d m a names e)(c:m'.opn=m.opn)(b:m'.nodes=m.nodes)(j:m'.root=m.root):xJ d m' a names e:=by
 refine⟨by rw[c];exact h.opn,by rw[b];exact h.old,?_,by rw[j];exact h.root,λo i=>by rw[b];exact h.opens o (by rw[<- c];exact i)⟩;obtain⟨n,f,g⟩:=h.node;exact⟨n,by rw[b];exact f,by rw[b];exact g⟩
theorem xJ.top{b m:zl}{a:Int}{names:List BY}{c:List V}(h:xJ b m a names c):m.opn.getLastD 0=b.nodes.length:=by
 rw[h.opn,List.getLastD_eq_getLast?];simp
theorem xJ.ne{b m:zl}{a:Int}{names:List BY}{c:List V}(h:xJ b m a names c):m.opn≠[]:=by
 rw[h.opn];simp
theorem xJ.kindTop{d m:zl}{a:Int}{names:List BY}{e:List V}(h:xJ d m a names e):Zm m=a:=by
 obtain⟨n,b,c,_⟩:=h.node;unfold Zm;rw[h.top,b];exact c
theorem xJ.namesTop{d m:zl}{a:Int}{names:List BY}{e:List V}(h:xJ d m a names e):ah m=names:=by
 obtain⟨n,b,_,c,_⟩:=h.node;unfold ah;rw[h.top,b];exact c
theorem xJ.lt{b m:zl}{a:Int}{names:List BY}{d:List V}(h:xJ b m a names d):b.nodes.length<m.nodes.length:=by
 obtain⟨n,c,_⟩:=h.node;exact(zU.1 c).1
theorem Dr(a m:zl)(n:U.Node)(d:JY a)(b:m.opn=a.opn++[a.nodes.length])(e:m.nodes=(lay a n).nodes)(i:m.root=(lay a n).root)(f:n.kids=[]):xJ a m n.kind n.names []:=by
 refine⟨b,?_,⟨n,by rw[e];exact mq a n d,rfl,rfl,by rw[f];rfl,by rw[f];simp,λj c v _ k=>by simp at k⟩,by rw[i,Ca],?_⟩
 ·rw[e,dG a n d,<- bH a,aU]
 intro o g;rw[e,dG a n d,qE,bH];rw[b]at g
 rcases vg.1 g with h|h
 ·have:=d o h;simp;omega
 simp at h;subst h;simp
theorem ze9{l a:List U.Node}{k:Nat}(h:a.take k=l)(i:Nat)(b:i<k):a[i]?=l[i]?:=by
 rw[<- h,Qe,zb b]
theorem YE.len{m m':zl}{v:V}(h:YE m m' v):m.nodes.length<m'.nodes.length:=by
 have:∃n,m'.nodes[m.nodes.length]?=some n:=by
  cases h.rep with
  | str i n s a=>exact⟨n,a⟩
  | word i n b a=>exact⟨n,a⟩
  | list i n e a=>exact⟨n,a⟩
  | obj i n d a=>exact⟨n,a⟩
 obtain⟨n,c⟩:=this;exact(zU.1 c).1
theorem Dt{d m m':zl}{k:Int}{names:List BY}{z:List V}{v:V}(h:xJ d m k names z)(q:YE m m' v):xJ d m' k names (z++[v]):=by
 have r:=h.lt;have D:=q.len;have l:base m=yH d.nodes.length m.nodes.length m.nodes:=by unfold base;rw[za h.ne,h.top]
 have f:∀i,i<m.nodes.length->m'.nodes[i]?=(yH d.nodes.length m.nodes.length m.nodes)[i]?:=λi g=>by
  rw[<- l];exact ze9 q.old i g
 have a:∀i,i<m.nodes.length->i≠d.nodes.length->m'.nodes[i]?=m.nodes[i]?:=λi g y=>by
  rw[f i g];unfold yH;rw[Q7]
  have:¬d.nodes.length=i:=λe=>y e.symm
  simp[this]
 obtain⟨n,F,G,H,I,C,K⟩:=h.node
 have L:m'.nodes[d.nodes.length]?=some { n with kids:=n.kids++[m.nodes.length] }:=by
  rw[f _ r];unfold yH;rw[Q7,F]
  simp
 have p:∀c w,d.nodes.length<c->Rep m.nodes c w->Rep m'.nodes c w:=λc w b M=>M.more λj N u s=>by
  have x:=(zU.1 s).1;rw[a j x (by omega)];exact s
 refine⟨by rw[q.opn];exact h.opn,?_,⟨_,L,G,H,by simp[I],?_,?_⟩,by rw[q.root,za h.ne];exact h.root,?_⟩
 ·rw[<- h.old];apply UN;intro i;rw[Qe,Qe]
  by_cases g:i<d.nodes.length
  ·rw[zb g,zb g,a i (by omega) (by omega)]
  rw[za g,za g]
 ·intro c b
  rcases vg.1 b with h|h
  ·exact C c h
  simp at h;subst h;exact r
 ·intro j c w b t;simp only at b;rw[XQ]at b t
  by_cases u:j<z.length
  ·rw[N9]at b;rw[zb u]at t;exact p c w (C c (xC b)) (K j c w b t)
  rw[N8]at b;rw[za u]at t;have A:=xC b;have B:=xC t;simp at A B;subst A;subst B;exact q.rep
 intro o E;rw[q.opn]at E
 have:=h.opens o E
 omega
theorem zbi{b m m':zl}{names:List BY}{t:List V}{s:BY}(h:xJ b m 1 names t)(r:m'.opn=m.opn)(f:m'.nodes=yU b.nodes.length s m.nodes)(D:m'.root=m.root):xJ b m' 1 (names++[s]) t:=by
 have C:=h.lt
 have a:∀i,i≠b.nodes.length->m'.nodes[i]?=m.nodes[i]?:=λi k=>by
  rw[f];unfold yU;rw[Q7]
  have:¬b.nodes.length=i:=λe=>k e.symm
  simp[this]
 obtain⟨n,u,v,x,y,l,z⟩:=h.node
 have B:m'.nodes[b.nodes.length]?=some { n with names:=n.names++[s] }:=by
  rw[f];unfold yU;rw[Q7,u]
  simp
 refine⟨by rw[r];exact h.opn,?_,⟨_,B,v,by simp[x],y,l,?_⟩,by rw[D];exact h.root,?_⟩
 ·rw[<- h.old];apply UN;intro i;rw[Qe,Qe]
  by_cases d:i<b.nodes.length
  ·rw[zb d,zb d,a i (by omega)]
  rw[za d,za d]
 ·intro j c w p E;have A:=l c (xC p);exact(z j c w p E).more λi F d g=>by rw[a i (by omega)];exact g
 intro o q;rw[r]at q
 have:=h.opens o q
 rw[f];simpa [yU] using this
theorem Gs{d m m':zl}{b:List V}(h:xJ d m 2 [] b)(k:m'.state=6)(l:m'.opn=m.opn.dropLast)(c:m'.nodes=m.nodes)(o:m'.root=m.root):YE d m' (.list b):=by
 obtain⟨n,e,f,g,i,j,a⟩:=h.node;refine⟨k,by rw[l,h.opn];simp,by rw[c];exact h.old,?_,by rw[o];exact h.root⟩;rw[c];exact .list _ n b e f g i j a
theorem Gt{c m m':zl}{ms:List (BY×V)}(h:xJ c m 1 (ms.map Prod.fst) (ms.map Prod.snd))(l:m'.state=6)(p:m'.opn=m.opn.dropLast)(b:m'.nodes=m.nodes)(q:m'.root=m.root):YE c m' (.obj ms):=by
 obtain⟨n,d,e,f,g,i,a⟩:=h.node;refine⟨l,by rw[p,h.opn];simp,by rw[b];exact h.old,?_,by rw[q];exact h.root⟩;rw[b];refine .obj _ n ms d e f (by rw[g,qf]) i (λj k x o r=>a j k x.2 o ?_);rw[ui,r];rfl
def qG(l:List UInt8):List Nat->Nat->Res Unit
 | [],p => .ok () p
 | b::r,p=>if zk l p=b then qG l r (p+1) else .err 2 p
mutual
def qL(l:List UInt8):Nat->Nat->Nat->Res V
 | 0,_,p => .err 2 p
 | f+1,d,p=>
  if zk l p=123 then (if 8<d then .err 3 p else if zk l (skip l (p+1))=125 then .ok (.obj []) (skip l (p+1)+1) else Qr l f d (skip l (p+1)) [])
  else if zk l p=91 then (if 8<d then .err 3 p else if zk l (skip l (p+1))=93 then .ok (.list []) (skip l (p+1)+1) else Qq l f d (skip l (p+1)) [])
  else if zk l p=34 then (match Zl l (p+1) with
   | .ok s q => .ok (.str s) q
   | .err e q => .err e q)
  else if zk l p=116 then (match qG l [114,117,101] (p+1) with
   | .ok _ q => .ok (.word true) q
   | .err e q => .err e q)
  else if zk l p=102 then (match qG l [97,108,115,101] (p+1) with
   | .ok _ q => .ok (.word false) q
   | .err e q => .err e q)
  else .err 2 p
def Qq(l:List UInt8):Nat->Nat->Nat->List V->Res V
 | 0,_,p,_ => .err 2 p
 | f+1,d,p,acc=>match qL l f (d+1) p with
  | .err e q => .err e q
  | .ok v q=>
   if zk l (skip l q)=44 then Qq l f d (skip l (skip l q+1)) (acc++[v])
   else if zk l (skip l q)=93 then .ok (.list (acc++[v])) (skip l q+1)
   else .err 2 (skip l q)
def Qr(l:List UInt8):Nat->Nat->Nat->List (BY×V)->Res V
 | 0,_,p,_ => .err 2 p
 | f+1,d,p,acc=>
  if zk l p≠34 then .err 2 p else match Zl l (p+1) with
  | .err e q => .err e q
  | .ok s q=>
   if acc.any (λx=>x.1.toList==s.toList) then .err 4 (q-1)
   else if zk l (skip l q)≠58 then .err 2 (skip l q)
   else match qL l f (d+1) (skip l (skip l q+1)) with
   | .err e a => .err e a
   | .ok v a=>
    if zk l (skip l a)=44 then Qr l f d (skip l (skip l a+1)) (acc++[(s,v)])
    else if zk l (skip l a)=125 then .ok (.obj (acc++[(s,v)])) (skip l a+1)
    else .err 2 (skip l a)
end
def J3(l:List UInt8)(b m:zl)(p:Nat)(r:Res V):Prop:=match r with
 | .ok v q=>p<q/\q<=l.length/\∃a,YE b a v/\verdict l m p=verdict l a q
 | .err e q=>Fails l m p e q
theorem J3.of_eq{l:List UInt8}{c m m':zl}{p a:Nat}{r:Res V}(h:J3 l c m' a r)(k:p<=a)(b:verdict l m p=verdict l m' a):J3 l c m p r:=by
 cases r with
 | ok v q=>
  obtain⟨j,d,i,f,g⟩:=h;exact⟨by omega,d,i,f,b.trans g⟩
 | err e q=>exact Fails.of_eq h b
theorem zfS(l:List UInt8)(r:List Nat)(m:zl)(p:Nat)(E:p<=l.length)(F:r≠[])(G:m.state=7)(f:m.word.data.toList.map UInt8.toNat=r)(o:∀b ∈ r,b≠0):match qG l r p with
  | .ok _ q=>p<q/\q<=l.length/\∃g:zl,g.state=6/\g.opn=m.opn/\g.nodes=m.nodes/\g.root=m.root/\verdict l m p=verdict l g q
  | .err e q=>Fails l m p e q:=by
 induction r generalizing m p with
 | nil=>exact absurd rfl F
 | cons b r H=>
  have a:=UC m (zk l p:Int) G
  have d:m.word.size=r.length+1:=by
   have:=congrArg List.length f
   rw[qf,zF]at this
   simpa using this
  have j:(m.word.data.toList.getD 0 0).toNat=b:=by
   cases hl:m.word.data.toList with
   | nil=>rw[hl]at f;simp at f
   | cons c t=>rw[hl]at f;simp at f;simpa using f.1
  rw[j]at a;rw[qG]
  by_cases hb:zk l p=b
  ·rw[zb hb];rw[N8]at a;have C:=o b (by simp);have k:=qH l p (by omega);have n:=yT l m _ p k a
   by_cases hr0:r=[]
   ·subst hr0;rw[qG];refine⟨by omega,by omega,_,?_,?_,?_,?_,n⟩
    ·simp only;rw[zb (by rw[d];rfl)]
    ·rfl
    ·rfl
    rfl
   have D:¬m.word.size=1:=by rw[d];cases r with|nil=>exact absurd rfl hr0|cons _ _=>simp
   have h:=H { m with word:=m.word.extract 1 m.word.size,state:=if m.word.size=1 then 6 else 7 } (p+1) (by omega) hr0 (by simp only;rw[za D])
    (by
      simp only
      have e:(m.word.extract 1 m.word.size).data.toList=m.word.data.toList.drop 1:=by
       have B:m.word.data.toList.length=m.word.size:=zF _;simp only[Vz,ay,gq];rw[uA (by simp[B])]
      rw[e,List.map_drop,f];rfl)
    (λs i=>o s (by simp[i]))
   cases hw2:qG l r (p+1) with
   | ok u q=>
    rw[hw2]at h;obtain⟨I,v,g,w,x,y,z,A⟩:=h;exact⟨by omega,v,g,w,x,y,z,n.trans A⟩
   | err e q=>rw[hw2]at h;exact Fails.of_eq h n
  rw[za hb];rw[N9]at a;exact Qx l m p E (.inl (by omega)) 2 (by decide) (by rw[a]) (λ_=>rfl)
theorem zd8(m:zl)(b:Nat)(h:m.state=1\/m.state=2)(a:blank b=false)(c:¬(m.state=2/\b=93)):U.step m (b:Int)=vz m (b:Int):=by
 rw[Y0 m _ (by omega),U9,a,za (by decide),N8,N8,N8]
theorem eX(m:zl)(b:Nat)(h:m.state=6\/m.state=5)(a:blank b=false):U.step m (b:Int)=after m (b:Int):=by
 rw[Y0 m _ (by omega),U9,a,za (by decide),zb h]
theorem zeg(m:zl)(b:Nat)(h:m.state=3\/m.state=4)(a:blank b=false)(c:¬(m.state=3/\b=125)):U.step m (b:Int)=if (b:Int)≠34 then (2,m) else (0,{ m with state:=8,named:=true,got:=⟨#[]⟩ }):=by
 rw[Y0 m _ (by omega),U9,a,za (by decide),N8,N8,zb h]
theorem step_end(m:zl)(b:Nat)(h:(m.state=2/\b=93)\/(m.state=3/\b=125)):U.step m (b:Int)=yc m (b:Int):=by
 rw[Y0 m _ (by omega),U9]
 have a:blank b=false:=by
  rcases h with⟨_,rfl⟩|⟨_,rfl⟩<;>decide
 rw[a,za (by decide),N8,N9]
theorem Ar{a m:zl}{b:List V}(h:xJ a m 2 [] b):yc m 93=(0,{ m with opn:=m.opn.dropLast,state:=6 }):=by
 unfold yc;rw[za h.ne,h.kindTop];rfl
theorem Av{a m:zl}{names:List BY}{b:List V}(h:xJ a m 1 names b):yc m 125=(0,{ m with opn:=m.opn.dropLast,state:=6 }):=by
 unfold yc;rw[za h.ne,h.kindTop];rfl
theorem zar(l:List UInt8){j m:zl}{k:List V}(h:xJ j m 2 [] k)(o:m.state=6)(p:Nat)(q:p<=l.length):(zk l (skip l p)=44->∃d,d.state=1/\xJ j d 2 [] k/\skip l p<l.length/\verdict l m p=verdict l d (skip l (skip l p+1))) /\
  (zk l (skip l p)=93->∃d,YE j d (.list k)/\skip l p<l.length/\verdict l m p=verdict l d (skip l p+1)) /\
  (zk l (skip l p)≠44->zk l (skip l p)≠93->Fails l m p 2 (skip l p)):=by
 have i:=Yn l m (by omega) p;have g:=uX l p q;have a:=eX m (zk l (skip l p)) (.inl o) (ZE l p);unfold after at a;rw[N8,za (by rintro (h|n);omega;exact h.ne n)]at a;refine⟨λf=>?_,λf=>?_,λr s=>?_⟩
 ·rw[N8,N8,h.kindTop,za (by decide)]at a;have b:=qH l (skip l p) (by omega);have c:=yT l m _ (skip l p) b a;refine⟨{ m with state:=1 },rfl,h.like rfl rfl rfl,b,(i.trans c).trans (Yn l _ (show (1:Int)<7 by decide) _)⟩
 ·rw[N9,f]at a;have b:=qH l (skip l p) (by omega);have e:yc m ((93:Nat):Int)=_:=Ar h;rw[e]at a;have c:=yT l m _ (skip l p) b (by rw[f];exact a);refine⟨_,?_,b,i.trans c⟩;exact Gs h rfl rfl rfl rfl
 refine Fails.of_eq (Qx l m (skip l p) g (.inr h.ne) 2 (by decide) ?_ (λ_=>rfl)) i;rw[a]
 by_cases h3:(zk l (skip l p):Int)=125\/(zk l (skip l p):Int)=93
 ·rw[zb h3];unfold yc;rw[za h.ne,h.kindTop,zb];have e:(zk l (skip l p):Int)=125:=by omega
  rw[e];decide
 rw[za h3,N9]
theorem zbr(l:List UInt8){j m:zl}{ms:List (BY×V)}(h:xJ j m 1 (ms.map Prod.fst) (ms.map Prod.snd))(n:m.state=6)(p:Nat)(o:p<=l.length):(zk l (skip l p)=44->∃d,d.state=4/\xJ j d 1 (ms.map Prod.fst) (ms.map Prod.snd)/\skip l p<l.length/\verdict l m p=verdict l d (skip l (skip l p+1))) /\
  (zk l (skip l p)=125->∃d,YE j d (.obj ms)/\skip l p<l.length/\verdict l m p=verdict l d (skip l p+1)) /\
  (zk l (skip l p)≠44->zk l (skip l p)≠125->Fails l m p 2 (skip l p)):=by
 have i:=Yn l m (by omega) p;have g:=uX l p o;have a:=eX m (zk l (skip l p)) (.inl n) (ZE l p);unfold after at a;rw[N8,za (by rintro (h|k);omega;exact h.ne k)]at a;refine⟨λf=>?_,λf=>?_,λq r=>?_⟩
 ·rw[N8,N8,h.kindTop,zb rfl]at a;have b:=qH l (skip l p) (by omega);have c:=yT l m _ (skip l p) b a;refine⟨{ m with state:=4 },rfl,h.like rfl rfl rfl,b,(i.trans c).trans (Yn l _ (show (4:Int)<7 by decide) _)⟩
 ·rw[N9,f]at a;have b:=qH l (skip l p) (by omega);have e:yc m ((125:Nat):Int)=_:=Av h;rw[e]at a;have c:=yT l m _ (skip l p) b (by rw[f];exact a);refine⟨_,?_,b,i.trans c⟩;exact Gt h rfl rfl rfl rfl
 refine Fails.of_eq (Qx l m (skip l p) g (.inr h.ne) 2 (by decide) ?_ (λ_=>rfl)) i;rw[a]
 by_cases h3:(zk l (skip l p):Int)=125\/(zk l (skip l p):Int)=93
 ·rw[zb h3];unfold yc;rw[za h.ne,h.kindTop,zb];have e:(zk l (skip l p):Int)=93:=by omega
  rw[e];decide
 rw[za h3,N9]
def AV(l:List UInt8)(f:Nat):Prop:=∀(m:zl) (d p:Nat),(m.state=1\/m.state=2)->JY m->m.opn.length+1=d->p<=l.length->blank (zk l p)=false->¬(m.state=2/\zk l p=93)->2*(l.length-p)<f ->
 J3 l m m p (qL l f d p)
def AL(l:List UInt8)(f:Nat):Prop:=∀(b m:zl) (d p:Nat) (a:List V),xJ b m 2 [] a->(m.state=1\/m.state=2)->b.opn.length+1=d->p<=l.length->blank (zk l p)=false->¬(m.state=2/\zk l p=93)->2*(l.length-p)+1<f ->
 J3 l b m p (Qq l f d p a)
def AO(l:List UInt8)(f:Nat):Prop:=∀(b m:zl) (d p:Nat) (a:List (BY×V)),xJ b m 1 (a.map Prod.fst) (a.map Prod.snd)->(m.state=3\/m.state=4)->b.opn.length+1=d->p<=l.length->blank (zk l p)=false->¬(m.state=3/\zk l p=125)->2*(l.length-p)+1<f ->
 J3 l b m p (Qr l f d p a)
theorem Kz(m a:zl)(b:a.opn=m.opn)(c:a.nodes=m.nodes)(d:a.root=m.root)(n:U.Node):(lay a n).nodes=(lay m n).nodes/\(lay a n).root=(lay m n).root:=by
 unfold lay;rw[b,c]
 by_cases hE:m.opn=[]
 ·rw[zb hE,zb hE];exact⟨rfl,rfl⟩
 rw[za hE,za hE];exact⟨rfl,d⟩
theorem zav(l:List UInt8)(f:Nat)(A:AV l f)(z:AL l f):AL l (f+1):=by
 intro G m d p j r E C D B k L;have a:m.opn.length+1=d+1:=by rw[r.opn,qE];simp;omega
 have c:=A m (d+1) p E r.opens a D B k (by omega);rw[Qq]
 cases hr:qL l f (d+1) p with
 | err e q=>rw[hr]at c;exact c
 | ok v q=>
  rw[hr]at c;obtain⟨K,y,M,x,n⟩:=c;have s:=Dt r x;obtain⟨g,h,i⟩:=zar l s x.state q y;simp only;have F:=jV l q
  by_cases c1:zk l (skip l q)=44
  ·rw[zb c1];obtain⟨t,I,H,o,u⟩:=g c1;clear g h i;have w:=jV l (skip l q+1);have b:=uX l (skip l q+1) (by omega)
   have:=z G t d (skip l (skip l q+1)) (j++[v]) H (.inl I) C b (ZE l _) (by omega) (by omega)
   exact this.of_eq (by omega) (n.trans u)
  rw[za c1]
  by_cases c2:zk l (skip l q)=93
  ·rw[zb c2];obtain⟨t,t2,o,u⟩:=h c2;clear g h i;exact⟨by omega,by omega,t,t2,n.trans u⟩
  rw[za c2];exact Fails.of_eq (i c1 c2) n
theorem zbu(l:List UInt8)(f:Nat)(hV:AV l f)(hO:AO l f):AO l (f+1):=by
 intro L m d p a hn hs hd hp hb C hf;rw[Qr];have o:=zeg m (zk l p) hs hb C
 by_cases c0:zk l p=34
 ·rw[za (by simpa using c0)];rw[N8]at o;have Q:=qH l p (by omega);have V:=yT l m _ p Q o;have i:=oJ l { m with state:=8,named:=true,got:=⟨#[]⟩ } (p+1) (by omega) rfl rfl
  cases hr:Zl l (p+1) with
  | err e q=>rw[hr]at i;exact Fails.of_eq i V
  | ok s q=>
   rw[hr]at i;obtain⟨h1,h2,h3,b,⟨k1,k2,k3,k4,k5,k6⟩,he⟩:=i;simp only;have t:xJ L b 1 (a.map Prod.fst) (a.map Prod.snd):=hn.like k2 k3 k5
   have g:U.step b (zk l (q-1):Int)=closed b:=by
    rw[YZ b _ k1,h3];unfold plain;rw[zb (by decide)]
   have W:b.named=true:=k4
   have D:(a.map Prod.fst).any (λx=>x.toList==b.got.toList)=a.any (λx=>x.1.toList==s.toList):=by
    rw[k6,XP];rfl
   have P:closed b=if a.any (λx=>x.1.toList==s.toList)=true then (4,b) else (0,{ b with nodes:=yU (b.opn.getLastD 0) b.got b.nodes,state:=5 }):=by
    unfold closed;rw[za (by rw[W];decide),t.namesTop,D]
   rw[P]at g
   by_cases c1:a.any (λx=>x.1.toList==s.toList)=true
   ·rw[zb c1];rw[zb c1]at g;exact Fails.of_eq (Gx l b (q-1) (by omega) 4 (by decide) (by rw[g])) (V.trans he)
   rw[za c1];rw[za c1]at g;have A:=yT l b _ (q-1) (by omega) g;rw[show q-1+1=q by omega]at A;obtain⟨k,n⟩:∃k:zl,k={ b with nodes:=yU (b.opn.getLastD 0) b.got b.nodes,state:=5 }:=⟨_,rfl⟩
   rw[<- n]at A
   have R:xJ L k 1 (a.map Prod.fst++[s]) (a.map Prod.snd):=by
    have:=zbi (s:=b.got) t (m':=k) (by rw[n]) (by rw[n];simp only;rw[t.top]) (by rw[n])
    rw[k6]at this;exact this
   have w:k.state=5:=by rw[n]
   have I:=((V.trans he).trans A).trans (Yn l k (by omega) q);have c6:=jV l q;have H:=uX l q h2;have c:=eX k (zk l (skip l q)) (.inr w) (ZE l q);unfold after at c
   by_cases c2:zk l (skip l q)=58
   ·rw[za (by simpa using c2)];rw[zb ⟨w,by omega⟩]at c;have E:=qH l (skip l q) (by omega);have K:=I.trans ((yT l k _ (skip l q) E c).trans (Yn l _ (show (1:Int)<7 by decide) _));have u:xJ L { k with state:=1 } 1 (a.map Prod.fst++[s]) (a.map Prod.snd):=R.like rfl rfl rfl
    have a6:=jV l (skip l q+1);have y:=uX l (skip l q+1) (by omega);have G:({ k with state:=1 }:zl).opn.length+1=d+1:=by rw[u.opn,qE];simp;omega
    have j:=hV { k with state:=1 } (d+1) (skip l (skip l q+1)) (.inl rfl) u.opens G y (ZE l _) (λh=>absurd h.1 (show ¬(1:Int)=2 by decide)) (by omega)
    cases hr2:qL l f (d+1) (skip l (skip l q+1)) with
    | err e r=>rw[hr2]at j;exact Fails.of_eq j K
    | ok v r=>
     rw[hr2]at j;obtain⟨g1,g2,m4,ht,ge⟩:=j;have S:=Dt u ht;have T:xJ L m4 1 ((a++[(s,v)]).map Prod.fst) ((a++[(s,v)]).map Prod.snd):=by simpa using S
     obtain⟨M,N,O⟩:=zbr l T ht.state r g2;simp only;have a7:=jV l r;have B:=K.trans ge
     by_cases c3:zk l (skip l r)=44
     ·rw[zb c3];obtain⟨X,s5,n5,F,v5⟩:=M c3;clear M N O;have a8:=jV l (skip l r+1);have z:=uX l (skip l r+1) (by omega)
      have:=hO L X d (skip l (skip l r+1)) (a++[(s,v)]) n5 (.inr s5) hd z (ZE l _) (by omega) (by omega)
      exact this.of_eq (by omega) (B.trans v5)
     rw[za c3]
     by_cases c4:zk l (skip l r)=125
     ·rw[zb c4];obtain⟨X,t5,F,v5⟩:=N c4;clear M N O;exact⟨by omega,by omega,X,t5,B.trans v5⟩
     rw[za c4];exact Fails.of_eq (O c3 c4) B
   rw[zb c2];rw[N8,zb (.inl w)]at c;exact Fails.of_eq (Qx l k (skip l q) H (.inl (by omega)) 2 (by decide) (by rw[c]) (λ_=>rfl)) I
 rw[zb c0];rw[N9]at o;exact Qx l m p hp (.inr hn.ne) 2 (by decide) (by rw[o]) (λ_=>rfl)
theorem zfD(l:List UInt8)(f:Nat)(X:AL l f)(hO:AO l f):AV l (f+1):=by
 intro m d p hs F N K hb H hf;rw[qL];have a:=zd8 m (zk l p) hs hb H;unfold vz at a;have v:Inc m := .inl (by omega)
 by_cases c1:zk l p=123
 ·rw[zb c1];rw[N9]at a
  by_cases c2:8<d
  ·rw[zb c2];rw[N9]at a;exact Qx l m p K v 3 (by decide) (by rw[a]) (λh=>by omega)
  rw[za c2];rw[N8]at a;simp only at a;rw[N8,N8]at a;have n:=qH l p (by omega);have B:=yT l m _ p n a;obtain⟨c,g⟩:∃c:zl,c={ (lay { m with state:=3 } { kind:=1,text:=⟨#[]⟩,names:=[],kids:=[] }) with opn:=m.opn++[m.nodes.length] }:=⟨_,rfl⟩
  rw[<- g]at B;have o:xJ m c 1 [] []:=Dr m c { kind:=1,text:=⟨#[]⟩,names:=[],kids:=[] } F (by rw[g]) (by rw[g];exact(Kz m { m with state:=3 } rfl rfl rfl _).1) (by rw[g];exact(Kz m { m with state:=3 } rfl rfl rfl _).2) rfl
  have y:c.state=3:=by rw[g];exact KD _ _
  have k:=B.trans (Yn l c (by omega) (p+1));have L:=jV l (p+1);have z:=uX l (p+1) (by omega)
  by_cases c3:zk l (skip l (p+1))=125
  ·rw[zb c3];have i:=step_end c (zk l (skip l (p+1))) (.inr ⟨y,c3⟩);rw[c3]at i;have e:yc c ((125:Nat):Int)=_:=Av o;rw[e]at i;have x:=qH l (skip l (p+1)) (by omega);have D:=k.trans (yT l c _ (skip l (p+1)) x (by rw[c3];exact i));refine⟨by omega,by omega,_,?_,D⟩;exact Gt (ms:=[]) o rfl rfl rfl rfl
  rw[za c3]
  have:=hO m c d (skip l (p+1)) [] o (.inl y) N z (ZE l _) (by omega) (by omega)
  exact this.of_eq (by omega) k
 rw[za c1]
 by_cases c2:zk l p=91
 ·rw[zb c2];rw[N9]at a
  by_cases c3:8<d
  ·rw[zb c3];rw[N9]at a;exact Qx l m p K v 3 (by decide) (by rw[a]) (λh=>by omega)
  rw[za c3];rw[N8]at a;simp only at a;rw[N9,N9]at a;have n:=qH l p (by omega);have B:=yT l m _ p n a;obtain⟨c,g⟩:∃c:zl,c={ (lay { m with state:=2 } { kind:=2,text:=⟨#[]⟩,names:=[],kids:=[] }) with opn:=m.opn++[m.nodes.length] }:=⟨_,rfl⟩
  rw[<- g]at B;have o:xJ m c 2 [] []:=Dr m c { kind:=2,text:=⟨#[]⟩,names:=[],kids:=[] } F (by rw[g]) (by rw[g];exact(Kz m { m with state:=2 } rfl rfl rfl _).1) (by rw[g];exact(Kz m { m with state:=2 } rfl rfl rfl _).2) rfl
  have y:c.state=2:=by rw[g];exact KD _ _
  have k:=B.trans (Yn l c (by omega) (p+1));have L:=jV l (p+1);have z:=uX l (p+1) (by omega)
  by_cases c4:zk l (skip l (p+1))=93
  ·rw[zb c4];have i:=step_end c (zk l (skip l (p+1))) (.inl ⟨y,c4⟩);rw[c4]at i;have e:yc c ((93:Nat):Int)=_:=Ar o;rw[e]at i;have x:=qH l (skip l (p+1)) (by omega);have D:=k.trans (yT l c _ (skip l (p+1)) x (by rw[c4];exact i));refine⟨by omega,by omega,_,?_,D⟩;exact Gs o rfl rfl rfl rfl
  rw[za c4]
  have:=X m c d (skip l (p+1)) [] o (.inr y) N z (ZE l _) (by omega) (by omega)
  exact this.of_eq (by omega) k
 rw[za c2];rw[N8]at a
 by_cases c3:zk l p=34
 ·rw[zb c3];rw[N9]at a;have n:=qH l p (by omega);have B:=yT l m _ p n a;have t:=oJ l { m with state:=8,named:=false,got:=⟨#[]⟩ } (p+1) (by omega) rfl rfl
  cases G:Zl l (p+1) with
  | err e q=>rw[G]at t;exact Fails.of_eq t B
  | ok s q=>
   rw[G]at t;obtain⟨h1,V,W,c,⟨k1,O,k3,k4,k5,k6⟩,he⟩:=t;simp only
   have A:U.step c (zk l (q-1):Int)=closed c:=by
    rw[YZ c _ k1,W];unfold plain;rw[zb (by decide)]
   unfold closed at A;rw[zb (by rw[k4])]at A;have k:=yT l c _ (q-1) (by omega) A;rw[show q-1+1=q by omega]at k;refine⟨by omega,V,_,?_,(B.trans he).trans k⟩;have I:=Kz m c O k3 k5 { kind:=3,text:=c.got,names:=[],kids:=[] };refine Gr m _ { kind:=3,text:=c.got,names:=[],kids:=[] } _ F rfl ?_ I.1 I.2 ?_
   ·show (lay c _).opn=_;rw[BZ,O]
   show Rep (lay c _).nodes _ _;rw[I.1];exact .str _ _ s (mq m _ F) rfl k6 rfl rfl
 rw[za c3];rw[N8]at a
 have j:∀(E:Bool) (w:BY) (r:List Nat),r≠[]->w.data.toList.map UInt8.toNat=r->(∀b ∈ r,b≠0)->p<l.length ->
   U.step m (zk l p:Int)=(0,{ lay m { kind:=if E then 4 else 5,text:=⟨#[]⟩,names:=[],kids:=[] } with state:=7,word:=w }) ->
   J3 l m m p (match qG l r (p+1) with | .ok _ q => .ok (.word E) q | .err e q => .err e q):=by
  intro E w r G hw hz n a;have B:=yT l m _ p n a;have C:=zfS l r { lay m { kind:=if E then 4 else 5,text:=⟨#[]⟩,names:=[],kids:=[] } with state:=7,word:=w } (p+1) (by omega) G rfl hw hz
  cases hr2:qG l r (p+1) with
  | err e q=>rw[hr2]at C;exact Fails.of_eq C B
  | ok u q=>
   rw[hr2]at C;obtain⟨g1,P,c,Q,R,M,S,T⟩:=C;refine⟨by omega,P,c,?_,B.trans T⟩;refine Gr m c { kind:=if E then 4 else 5,text:=⟨#[]⟩,names:=[],kids:=[] } _ F Q (by rw[R];exact BZ _ _) M S ?_
   rw[M];exact .word _ _ E (mq m _ F) rfl rfl rfl
 by_cases c4:zk l p=116
 ·rw[zb c4];rw[N9]at a;exact j true ⟨#[114,117,101]⟩ [114,117,101] (by decide) (by decide) (by decide) (qH l p (by omega)) a
 rw[za c4];rw[N8]at a
 by_cases c5:zk l p=102
 ·rw[zb c5];rw[N9]at a;exact j false ⟨#[97,108,115,101]⟩ [97,108,115,101] (by decide) (by decide) (by decide) (qH l p (by omega)) a
 rw[za c5];rw[N8]at a;exact Qx l m p K v 2 (by decide) (by rw[a]) (λ_=>rfl)
theorem rU(l:List UInt8)(f:Nat):AV l f/\AL l f/\AO l f:=by
 induction f with
 | zero=>exact⟨λm d p _ _ _ _ _ _ h=>by omega,λc m d p b _ _ _ _ _ _ h=>by omega,λc m d p b _ _ _ _ _ _ h=>by omega⟩
 | succ f a=>exact⟨zfD l f a.2.1 a.2.2,zav l f a.1 a.2.1,zbu l f a.1 a.2.2⟩
def jB(l:List UInt8):Res V:=match qL l (2*l.length+1) 1 (skip l 0) with
 | .err e q => .err e q
 | .ok v q=>if skip l q<l.length then .err 2 (skip l q) else .ok v (skip l q)
theorem Tj:JY init:=λo a=>by simp[init]at a
theorem EQ(l:List UInt8):match jB l with
  | .ok v _=>∃m:zl,verdict l init 0=(0,l.length,m)/\m.state=6/\m.opn=[]/\m.root=0/\Rep m.nodes 0 v
  | .err e q=>Fails l init 0 e q:=by
 have g:=uX l 0 (by omega);have f:=Yn l init (by decide) 0;have h:=(rU l (2*l.length+1)).1 init 1 (skip l 0) (.inl rfl) Tj rfl g (ZE l 0) (λh=>absurd h.1 (by decide)) (by omega);unfold jB
 cases hr:qL l (2*l.length+1) 1 (skip l 0) with
 | err e q=>rw[hr]at h;exact Fails.of_eq h f
 | ok v q=>
  rw[hr]at h;obtain⟨o,j,m,a,k⟩:=h;simp only;have i:=(f.trans k).trans (Yn l m (by rw[a.state];decide) q);have n:=uX l q j;have b:m.opn=[]:=a.opn
  by_cases c:skip l q<l.length
  ·rw[zb c];have d:=eX m (zk l (skip l q)) (.inl a.state) (ZE l q);unfold after at d;rw[za (by rw[a.state];simp),zb (.inr b)]at d;exact Fails.of_eq (Gx l m (skip l q) c 2 (by decide) (by rw[d])) i
  rw[za c];have e:skip l q=l.length:=by omega
  rw[e,zfI l m a.state b]at i;refine⟨m,i,a.state,b,?_,a.rep⟩
  have:=a.root
  rw[zb (by rfl)]at this;exact this
def jm(t:BY):List Y:=t.data.toList.map λc => .int .u8 (c.toNat:Int)
theorem byte_of(x:Int)(a:0<=x)(b:x<256):((UInt8.ofNat x.toNat).toNat:Int)=x:=by
 rw[UInt8.toNat_ofNat'];omega
theorem zdb(n:Int)(a:0<=n)(b:n<=65535)(c:¬(55296<=n/\n<=57343)):Lib.runeCells n=jm (enc n):=by
 unfold Lib.runeCells jm enc
 by_cases c1:n<128
 ·rw[zb c1,Lib.encodeRuneZ_one a (by omega)];unfold one;simp only[yO,Zr];rw[byte_of n a (by omega)]
 by_cases c2:n<2048
 ·rw[za c1,zb c2,Lib.encodeRuneZ_two (by omega) (by omega)];simp only[yO,Zr];rw[byte_of (192+n / 64) (by omega) (by omega),byte_of (128+n % 64) (by omega) (by omega)]
 rw[za c1,za c2,Lib.encodeRuneZ_three (by omega)];simp only[yO,Zr];rw[byte_of (224+n / 4096) (by omega) (by omega),byte_of (128+n / 64 % 64) (by omega) (by omega),byte_of (128+n % 64) (by omega) (by omega)]
theorem bJ(a b:BY):jm (a++b)=jm a++jm b:=by
 unfold jm;simp
theorem LG(a:BY):(jm a).length=a.size:=by
 unfold jm;rw[qf,zF]
def ZC(k:Nat):Nat:=[194,224,225,237,238,240,241,244].getD k 0
def Z7(k:Nat):Nat:=[223,224,236,237,239,240,243,244].getD k 0
def XF(k:Nat):Nat:=[1,2,2,2,2,3,3,3].getD k 0
def YV(k:Nat):Nat:=[128,160,128,128,128,144,128,128].getD k 0
def JA(k:Nat):Nat:=[191,191,191,159,191,191,191,143].getD k 0
theorem lt8{k:Nat}(h:k<8):k=0\/k=1\/k=2\/k=3\/k=4\/k=5\/k=6\/k=7:=by omega
theorem eG(k:Nat)(a:k<8):128<=ZC k/\ZC k<256/\Z7 k<256/\1<=XF k/\XF k<=3/\0<YV k/\YV k<256/\JA k<256:=by
 rcases lt8 a with rfl|rfl|rfl|rfl|rfl|rfl|rfl|rfl<;>decide
theorem mH(b k:Nat)(d:k<8)(a:ZC k<=b)(c:b<=Z7 k):zZ (b:Int)=((XF k:Int),(YV k:Int),(JA k:Int)):=by
 unfold zZ
 rcases lt8 d with rfl|rfl|rfl|rfl|rfl|rfl|rfl|rfl<;>simp[ZC,Z7,XF,YV,JA]at a c |-<;>(repeat' split)<;>first|rfl|omega
theorem zad(b:Nat)(h:∀k,k<8->b<ZC k\/Z7 k<b):zZ (b:Int)=(0,0,0):=by
 have a:=h 0 (by omega);have c:=h 1 (by omega);have d:=h 2 (by omega);have e:=h 3 (by omega);have f:=h 4 (by omega);have g:=h 5 (by omega);have i:=h 6 (by omega);have j:=h 7 (by omega);simp[ZC,Z7]at a c d e f g i j;unfold zZ
 repeat' split
 all_goals first|rfl|omega
def piece(l:List UInt8)(p q:Nat):BY:=⟨((l.drop p).take (q-p)).toArray⟩
theorem zdu(l:List UInt8)(p:Nat)(h:zZ (zk l p:Int)=(0,0,0)):uW l p=.err 2 p:=by
 unfold uW;simp only;rw[h];rfl
def fu(l:List UInt8)(p j:Nat):Prop:=∀i,i<j->within l 128 191 (p+2+i)=true
theorem Es(l:List UInt8)(p:Nat)(h:p<l.length):one (zk l p:Int)=⟨#[l[p]]⟩:=by
 unfold one;rw[nJ l p h]
 simp
theorem fE(l:List UInt8)(a b p:Nat)(c:0<a)(h:within l a b p=true):p<l.length:=by
 unfold within at h;simp at h;exact qH l p (by omega)
theorem zcd(l:List UInt8)(p:Nat)(h:p<l.length):piece l p (p+1)=one (zk l p:Int):=by
 rw[Es l p h]
 have e:(l.drop p).take (p+1-p)=[l[p]]:=by
  rw[jD h,show p+1-p=1 by omega];rfl
 unfold piece;rw[e]
theorem piece_more(l:List UInt8)(p q:Nat)(a:p<=q)(h:q<l.length):piece l p (q+1)=piece l p q++one (zk l q:Int):=by
 rw[Es l q h];unfold piece;rw[show q+1-p=(q-p)+1 by omega,Qg]
 have:(l.drop p)[q-p]?=some l[q]:=by
  rw[Q6,show p+(q-p)=q by omega,zn h]
 rw[this];apply XJ;simp[ByteArray.data_append]
theorem zdF(l:List UInt8)(p k:Nat)(a:k<8)(b:ZC k<=zk l p)(c:zk l p<=Z7 k)(d:within l (YV k) (JA k) (p+1)=false):uW l p=.err 2 (p+1):=by
 have e:=eG k a;unfold uW;simp only;rw[mH _ k a b c,za (by simp;omega)];simp only[yE];rw[zb d]
theorem zdH(l:List UInt8)(p k j:Nat)(b:k<8)(c:ZC k<=zk l p)(d:zk l p<=Z7 k)(h:within l (YV k) (JA k) (p+1)=true)(f:fu l p j)(g:j+1<XF k)(a:within l 128 191 (p+2+j)=false):uW l p=.err 2 (p+2+j):=by
 have e:=eG k b;unfold uW;simp only;rw[mH _ k b c d,za (by simp;omega)];simp only[yE];rw[za (by rw[h];decide),N8]
 match j with
 | 0=>rw[zb (by simpa using a)]
 | 1=>
  have:=f 0 (by omega)
  rw[za (by rw[show p+2=p+2+0 by omega,this];decide),N8,zb (by simpa using a)]
 | j+2=>omega
theorem zdt(l:List UInt8)(p k:Nat)(e:k<8)(h:ZC k<=zk l p)(i:zk l p<=Z7 k)(f:within l (YV k) (JA k) (p+1)=true)(c:fu l p (XF k-1)):uW l p=.ok (piece l p (p+1+XF k)) (p+1+XF k):=by
 have j:=eG k e;have q:p<l.length:=qH l p (by omega);have r:=fE l _ _ _ (by omega) f;unfold uW;simp only;rw[mH _ k e h i,za (by simp;omega)];simp only[yE];rw[za (by rw[f];decide)]
 have d:piece l p (p+2)=one (zk l p:Int)++one (zk l (p+1):Int):=by
  rw[piece_more l p (p+1) (by omega) r,zcd l p q]
 obtain⟨n,o⟩:=Nm (XF k);rw[o]at c j |-;have m:n=1\/n=2\/n=3:=by omega
 rcases m with rfl|rfl|rfl
 ·rw[zb (by simp),d]
 ·have a:=c 0 (by omega);have b:=fE l _ _ _ (by omega) a;simp only[Qh]at a b;rw[za (by simp),za (by rw[a];decide),zb (by simp),piece_more l p (p+2) (by omega) b,d]
 have a:=c 0 (by omega);have g:=c 1 (by omega);have b:=fE l _ _ _ (by omega) a;have s:=fE l _ _ _ (by omega) g;simp only[Qh]at a b;rw[za (by simp),za (by rw[a];decide),za (by simp),za (by rw[show p+3=p+2+1 by omega,g];decide),piece_more l p (p+3) (by omega) s,piece_more l p (p+2) (by omega) b,d]
def Res.to{α:Type}:Res α->Nat
 | .ok _ q=>q
 | .err _ q=>q
theorem one_size(n:Int):(one n).size=1:=rfl
theorem iZ(n:Int):(enc n).size<=3:=by
 unfold enc;split
 ·rw[one_size];omega
 split
 ·exact(by decide:2<=3)
 exact(by decide:3<=3)
theorem Ro{l:List UInt8}{p q:Nat}{u:BY}(h:ZV l p=.ok u q):q=p+4/\u.size<=3:=by
 unfold ZV at h;simp only at h
 repeat' split at h
 all_goals first|(cases h;done)|(injection h with h1 h2;subst h1;exact⟨h2.symm,iZ _⟩)
theorem PD{l:List UInt8}{p q:Nat}{u:BY}(h:Zy l p=.ok u q):p<q/\u.size<=q-p:=by
 unfold Zy at h;simp only at h
 repeat' split at h
 all_goals first
  | (cases h;done)
  | (injection h with h1 h2;subst h1;rw[one_size];omega)
  | (have:=Ro h;omega)
theorem zdr{l:List UInt8}{p q:Nat}{u:BY}(h:uW l p=.ok u q):p<q/\u.size<=q-p:=by
 unfold uW at h;simp only at h
 repeat' split at h
 all_goals first
  | (cases h;done)
  | (injection h with h1 h2;subst h1;simp only[zV,one_size];omega)
theorem tZ{l:List UInt8}{p q:Nat}{u:BY}(h:uI l p=.ok u q):p<q/\u.size<=q-p:=by
 unfold uI at h;simp only at h
 repeat' split at h
 all_goals first
  | (cases h;done)
  | (injection h with h1 h2;subst h1;rw[one_size];omega)
  | (have:=PD h;omega)
  | exact zdr h
theorem zeP{l:List UInt8}{f p q:Nat}{acc u:BY}(a:zk l p≠34)(h:uI l p=.ok u q):xA l (f+1) p acc=xA l f q (acc++u):=by
 rw[xA,za a,h]
theorem zeO{l:List UInt8}{f p q:Nat}{acc:BY}{c:Int}(a:zk l p≠34)(h:uI l p=.err c q):xA l (f+1) p acc=.err c q:=by
 rw[xA,za a,h]
theorem zeN{l:List UInt8}{f p:Nat}{acc:BY}(a:zk l p=34):xA l (f+1) p acc=.ok acc (p+1):=by
 rw[xA,zb a]
def jI(l:List UInt8)(p:Nat):Res BY:=if zk l p=34 then Zl l (p+1) else .err 2 p
theorem EJ(l:List UInt8)(p:Nat):qG l [34] p=if zk l p=34 then .ok () (p+1) else .err 2 p:=by
 simp only[qG]
theorem zdI{l:List UInt8}{p q:Nat}{c:Int}(h:uW l p=.err c q):c=2:=by
 unfold uW at h;simp only at h
 repeat' split at h
 all_goals first|(cases h;done)|(injection h with h1 h2;exact h1.symm)
theorem Rv{l:List UInt8}{p q:Nat}{c:Int}(h:ZV l p=.err c q):c=2:=by
 unfold ZV at h;simp only at h
 repeat' split at h
 all_goals first|(cases h;done)|(injection h with h1 h2;exact h1.symm)
theorem PG{l:List UInt8}{p q:Nat}{c:Int}(h:Zy l p=.err c q):c=2:=by
 unfold Zy at h;simp only at h
 repeat' split at h
 all_goals first
  | (cases h;done)
  | (injection h with h1 h2;exact h1.symm)
  | exact Rv h
theorem Mg{l:List UInt8}{p q:Nat}{c:Int}(h:uI l p=.err c q):c=2:=by
 unfold uI at h;simp only at h
 repeat' split at h
 all_goals first
  | (cases h;done)
  | (injection h with h1 h2;exact h1.symm)
  | exact PG h
  | exact zdI h
theorem fe{l:List UInt8}:∀{f p q:Nat} {a:BY} {c:Int},xA l f p a=.err c q->c=2
 | 0,p,q,a,c,h=>by rw[xA]at h;injection h with h1 h2;exact h1.symm
 | f+1,p,q,a,c,h=>by
  rw[xA]at h;split at h
  ·cases h
  cases hc:uI l p with
  | ok u b=>rw[hc]at h;exact fe h
  | err d b=>rw[hc]at h;injection h with h1 h2;rw[<- h1];exact Mg hc
theorem EI{l:List UInt8}{p q:Nat}{c:Int}(h:jI l p=.err c q):c=2:=by
 unfold jI at h;split at h
 ·exact fe h
 injection h with h1 h2;exact h1.symm
theorem ak{l:List UInt8}:∀{r:List Nat} {p q:Nat} {c:Int},qG l r p=.err c q->c=2
 | [],p,q,c,h=>by rw[qG]at h;cases h
 | b::r,p,q,c,h=>by
  rw[qG]at h;split at h
  ·exact ak h
  injection h with h1 h2;exact h1.symm
def uo{α:Type}(l:List UInt8)(d:Nat->α->Nat->Res α)(e:Nat):Nat->α->Nat->Res α
 | 0,_,p => .err 2 p
 | f+1,a,p=>match d f a p with
  | .err c q => .err c q
  | .ok b q=>
   if zk l (skip l q)=44 then uo l d e f b (skip l (skip l q+1))
   else if zk l (skip l q)=e then .ok b (skip l q+1)
   else .err 2 (skip l q)
def Ze{α:Type}(l:List UInt8)(b:Nat->α->Nat->Res α)(e:Nat)(f d:Nat)(a:α)(p:Nat):Res α:=
 if 8<d then .err 3 p
 else if zk l (skip l (p+1))=e then .ok a (skip l (p+1)+1)
 else uo l b e f a (skip l (p+1))
def Res.map{α β:Type}(g:α->β):Res α->Res β
 | .ok a q => .ok (g a) q
 | .err c q => .err c q
def stL(l:List UInt8)(d:Nat)(f:Nat)(acc:List V)(q:Nat):Res (List V):=match qL l f (d+1) q with
 | .ok v a => .ok (acc++[v]) a
 | .err c a => .err c a
def Yd(l:List UInt8)(d:Nat)(f:Nat)(acc:List (BY×V))(q:Nat):Res (BY×V):=match jI l q with
 | .err c b => .err c b
 | .ok s b=>
  if acc.any (λx=>x.1.toList==s.toList) then .err 4 (b-1)
  else if zk l (skip l b)≠58 then .err 2 (skip l b)
  else match qL l f (d+1) (skip l (skip l b+1)) with
  | .err c a => .err c a
  | .ok v a => .ok (s,v) a
def stO(l:List UInt8)(d:Nat)(f:Nat)(acc:List (BY×V))(q:Nat):Res (List (BY×V)):=match Yd l d f acc q with
 | .ok m a => .ok (acc++[m]) a
 | .err c a => .err c a
theorem Ck(l:List UInt8)(d:Nat):∀(f p:Nat) (a:List V),Qq l f d p a=(uo l (stL l d) 93 f a p).map .list
 | 0,p,a=>by rw[Qq,uo,Res.map]
 | f+1,p,a=>by
  rw[Qq,uo,stL]
  cases hv:qL l f (d+1) p with
  | err c q=>rfl
  | ok v q=>
   simp only;split
   ·exact Ck l d f _ _
   split
   ·rfl
   rfl
theorem DI(l:List UInt8)(d:Nat):∀(f p:Nat) (a:List (BY×V)),Qr l f d p a=(uo l (stO l d) 125 f a p).map .obj
 | 0,p,a=>by rw[Qr,uo,Res.map]
 | f+1,p,a=>by
  rw[Qr,uo,stO,Yd,jI]
  by_cases h:zk l p=34
  ·rw[za (by simp[h]),zb h]
   cases hs:Zl l (p+1) with
   | err c q=>rfl
   | ok s q=>
    simp only
    by_cases ht:a.any (λx=>x.1.toList==s.toList)=true
    ·rw[zb ht,zb ht];rfl
    rw[za ht,za ht]
    by_cases h58:zk l (skip l q)≠58
    ·rw[zb h58,zb h58];rfl
    rw[za h58,za h58]
    cases hv:qL l f (d+1) (skip l (skip l q+1)) with
    | err c b=>rfl
    | ok v b=>
     simp only;split
     ·exact DI l d f _ _
     split
     ·rfl
     rfl
  rw[zb h,za h];rfl
theorem zfA(l:List UInt8)(f d p:Nat)(h:zk l p=91):qL l (f+1) d p=(Ze l (stL l d) 93 f d [] p).map .list:=by
 rw[qL,N8,zb h];unfold Ze;split
 ·rfl
 split
 ·rfl
 exact Ck l d f _ _
theorem zfC(l:List UInt8)(f d p:Nat)(h:zk l p=123):qL l (f+1) d p=(Ze l (stO l d) 125 f d [] p).map .obj:=by
 rw[qL,zb h];unfold Ze;split
 ·rfl
 split
 ·rfl
 exact DI l d f _ _
theorem zfF(l:List UInt8)(f d p:Nat)(h:zk l p=34):qL l (f+1) d p=(jI l p).map .str:=by
 rw[qL,N8,N8,zb h,jI,zb h]
 cases Zl l (p+1)<;>rfl
theorem zfG(l:List UInt8)(f d p:Nat)(h:zk l p=116):qL l (f+1) d p=(qG l [116,114,117,101] p).map (λ_ => .word true):=by
 rw[qL,N8,N8,N8,zb h]
 conv=>rhs;rw[qG,zb h]
 cases qG l [114,117,101] (p+1)<;>rfl
theorem zfz(l:List UInt8)(f d p:Nat)(h:zk l p=102):qL l (f+1) d p=(qG l [102,97,108,115,101] p).map (λ_ => .word false):=by
 rw[qL,N8,N8,N8,N8,zb h]
 conv=>rhs;rw[qG,zb h]
 cases qG l [97,108,115,101] (p+1)<;>rfl
theorem zfB(l:List UInt8)(f d p:Nat)(a:zk l p≠123)(b:zk l p≠91)(c:zk l p≠34)(e:zk l p≠116)(g:zk l p≠102):qL l (f+1) d p=.err 2 p:=by
 rw[qL,za a,za b,za c,za e,za g]
def iV(d:Nat):zl:={ init with opn:=List.replicate (d-1) 0,nodes:=[⟨2,⟨#[]⟩,[],[]⟩] }
theorem fD{l:List UInt8}{f d p q:Nat}{v:V}(i:1<=d)(g:p<=l.length)(b:blank (zk l p)=false)(c:2*(l.length-p)<f)(h:qL l f d p=.ok v q):p<q/\q<=l.length:=by
 have:=(rU l f).1 (iV d) d p (.inl rfl) (λo e=>by
  have:o=0:=List.eq_of_mem_replicate e
  rw[this];exact Nat.zero_lt_one) (by simp[iV];omega) g b (λh=>by have a:=h.1;simp[iV,init]at a) c
 rw[h]at this;exact⟨this.1,this.2.1⟩
theorem Gb{l:List UInt8}:∀{f p q:Nat} {acc t:BY},xA l f p acc=.ok t q->p<q/\t.size<=acc.size+(q-p)
 | 0,p,q,acc,t,h=>by rw[xA]at h;cases h
 | f+1,p,q,acc,t,h=>by
  rw[xA]at h;split at h
  ·injection h with a b;subst a;omega
  cases hc:uI l p with
  | ok u c=>
   rw[hc]at h;have a:=tZ hc;have b:=Gb (acc:=acc++u) h;rw[zV]at b;omega
  | err d c=>rw[hc]at h;cases h
theorem dW{l:List UInt8}{p q:Nat}{t:BY}(h:jI l p=.ok t q):p+1<q/\t.size<=q:=by
 unfold jI Zl at h;split at h
 ·have:=Gb h
  have e:(ByteArray.mk #[]).size=0:=rfl;omega
 cases h
theorem dX{l:List UInt8}{p q:Nat}{t:BY}(h:jI l p=.ok t q):q<=l.length:=by
 unfold jI at h;split at h
 ·rename_i a;have b:=qH l p (by omega)
  have:=oJ l { init with state:=8,got:=⟨#[]⟩ } (p+1) (by omega) rfl rfl
  rw[h]at this;exact this.2.1
 cases h
end Z
end Go.Proofs.YtfjpcldndaiifaaGreatDoor
