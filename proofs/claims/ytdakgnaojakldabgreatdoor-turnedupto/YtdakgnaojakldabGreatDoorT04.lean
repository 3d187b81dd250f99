/- P -/
import Derived.Test.YtdakgnaojakldabGreatDoorT03
import Derived.Lib.RuneBytes
set_option maxRecDepth 100000
namespace Go.Proofs.YtdakgnaojakldabGreatDoor
namespace Rd
open Ref
def ze(l:List UInt8)(p:Nat):Nat:=(l.getD p 0).toNat
inductive Res (α:Type) where
 | ok (v:α) (p:Nat)
 | err (e:Int) (p:Nat)
def verdict(l:List UInt8)(m:zh)(p:Nat):Int×Nat×zh:=
 if (Ref.run m (l.drop p) p).1≠0 then Ref.run m (l.drop p) p
 else if (Ref.run m (l.drop p) p).2.2.state≠6\/(Ref.run m (l.drop p) p).2.2.opn≠[] then (2,l.length,(Ref.run m (l.drop p) p).2.2)
 else Ref.run m (l.drop p) p
def Inc(m:zh):Prop:=m.state≠6\/m.opn≠[]
def Fails(l:List UInt8)(m:zh)(p:Nat)(e:Int)(q:Nat):Prop:=(verdict l m p).1=e/\(verdict l m p).2.1=q
theorem U2(l:List UInt8)(p:Nat)(h:p<l.length):ze l p=l[p].toNat:=by
 unfold ze;rw[List.getD_eq_getElem?_getD,List.getElem?_eq_getElem h];rfl
theorem JU(l:List UInt8)(p:Nat)(h:¬p<l.length):ze l p=0:=by
 unfold ze;rw[List.getD_eq_getElem?_getD,List.getElem?_eq_none (by omega)];rfl
theorem zW(l:List UInt8)(p:Nat)(h:ze l p≠0):p<l.length:=by
 rcases Nat.lt_or_ge p l.length with h1|h1
 ·exact h1
 ·exact absurd (JU l p (by omega)) h
theorem kM(l:List UInt8)(p:Nat):ze l p<256:=UInt8.toNat_lt _
theorem Kh(l:List UInt8)(m:zh)(p:Nat)(h:p<l.length):Ref.run m (l.drop p) p=if (Ref.step m (ze l p:Int)).1=0 then Ref.run (Ref.step m (ze l p:Int)).2 (l.drop (p+1)) (p+1) else ((Ref.step m (ze l p:Int)).1,p,m):=by
 rw[List.drop_eq_getElem_cons h,Ref.run,U2 l p h]
theorem qZ(l:List UInt8)(m m':zh)(p:Nat)(h:p<l.length)(a:Ref.step m (ze l p:Int)=(0,m')):verdict l m p=verdict l m' (p+1):=by
 have e:Ref.run m (l.drop p) p=Ref.run m' (l.drop (p+1)) (p+1):=by rw[Kh l m p h,a];rfl
 unfold verdict;rw[e]
theorem uq(l:List UInt8)(m:zh)(p:Nat)(k:p<=l.length)(j:Inc m)(e:Int)(d:e≠0)(f:(Ref.step m (ze l p:Int)).1=e)(i:ze l p=0->e=2):Fails l m p e p:=by
 by_cases h:p<l.length
 ·have a:Ref.run m (l.drop p) p=(e,p,m):=by
   rw[Kh l m p h,if_neg (by rw[f];exact d),f]
  unfold Fails verdict;rw[a,if_pos d];exact⟨rfl,rfl⟩
 ·have g:=i (JU l p h);have c:p=l.length:=by omega
  have a:Ref.run m (l.drop p) p=(0,p,m):=by rw[List.drop_of_length_le (by omega),Ref.run]
  unfold Fails verdict;have b:(0,p,m).2.2.state≠6\/(0,p,m).2.2.opn≠[]:=j;rw[a,if_neg (by simp),if_pos b,g,c];exact⟨rfl,rfl⟩
theorem Fails.of_eq{l:List UInt8}{m m':zh}{p a:Nat}{e:Int}{q:Nat}(h:Fails l m' a e q)(b:verdict l m p=verdict l m' a):Fails l m p e q:=by
 unfold Fails at *;rw[b];exact h
def blank(b:Nat):Bool:=b==32||b==9||b==10||b==13
theorem Yk(b:Nat):Jb (b:Int)=blank b:=by
 unfold Jb blank;rw[Bool.eq_iff_iff]
 simp
 omega
def Vb(l:List UInt8):Nat->Nat->Nat
 | 0,p=>p
 | f+1,p=>if blank (ze l p) then Vb l f (p+1) else p
def skip(l:List UInt8)(p:Nat):Nat:=Vb l (l.length-p) p
theorem Xt(l:List UInt8)(p:Nat)(h:blank (ze l p)=true):p<l.length:=by
 apply zW;intro e;rw[e] at h;exact absurd h (by decide)
theorem kX(l:List UInt8)(p:Nat):skip l p=if blank (ze l p) then skip l (p+1) else p:=by
 unfold skip
 by_cases h:p<l.length
 ·obtain⟨k,b⟩:∃k,l.length-p=k+1:=⟨l.length-p-1,by omega⟩;rw[b,Vb,show l.length-(p+1)=k by omega]
 ·have e:l.length-p=0:=by omega
  rw[e,Vb,if_neg];intro a;exact h (Xt l p a)
theorem Ol(m:zh)(a:m.state<7)(b:Nat)(c:blank b=true):Ref.step m (b:Int)=(0,m):=by
 rw[YQ m _ a,Yk,c,if_pos rfl]
theorem QE(l:List UInt8)(m:zh)(b:m.state<7)(p:Nat):verdict l m p=verdict l m (skip l p):=by
 generalize d:l.length-p=n
 induction n generalizing p with
 | zero=>
  rw[kX,if_neg];intro a
  have:=Xt l p a
  omega
 | succ n c=>
  rw[kX]
  by_cases a:blank (ze l p)=true
  ·rw[if_pos a,<- c (p+1) (by omega)];exact qZ l m m p (by omega) (Ol m b _ a)
  ·rw[if_neg a]
theorem xW(l:List UInt8)(p:Nat):p<=skip l p:=by
 generalize b:l.length-p=n
 induction n generalizing p with
 | zero=>rw[kX];split<;>rename_i h<;>first|(have:=Xt l p h;omega)|omega
 | succ n a=>
  rw[kX]
  split
  ·have:=a (p+1) (by omega);omega
  ·omega
theorem jO(l:List UInt8)(p:Nat)(c:p<=l.length):skip l p<=l.length:=by
 generalize b:l.length-p=n
 induction n generalizing p with
 | zero=>rw[kX];split<;>rename_i h<;>first|(have:=Xt l p h;omega)|omega
 | succ n a=>
  rw[kX]
  split
  ·exact a (p+1) (by omega) (by omega)
  ·omega
theorem ul(l:List UInt8)(p:Nat):blank (ze l (skip l p))=false:=by
 generalize b:l.length-p=n
 induction n generalizing p with
 | zero=>
  rw[kX]
  split
  ·rename_i h;have:=Xt l p h;omega
  ·rename_i h;simpa using h
 | succ n a=>
  rw[kX]
  split
  ·exact a (p+1) (by omega)
  ·rename_i h;simpa using h
def Within(m m':zh)(g:BA):Prop:=m'.state=8/\m'.opn=m.opn/\m'.nodes=m.nodes/\m'.named=m.named/\m'.root=m.root/\m'.got=m.got++g
def within(l:List UInt8)(b a p:Nat):Bool:=decide (b<=ze l p/\ze l p<=a)
def yN(l:List UInt8)(p:Nat):Res BA:=
 let r:=qa (ze l p:Int)
 if r.1=0 then .err 2 p
 else if within l r.2.1.toNat r.2.2.toNat (p+1)=false then .err 2 (p+1)
 else if r.1=1 then .ok (one (ze l p)++one (ze l (p+1))) (p+2)
 else if within l 128 191 (p+2)=false then .err 2 (p+2)
 else if r.1=2 then .ok (one (ze l p)++one (ze l (p+1))++one (ze l (p+2))) (p+3)
 else if within l 128 191 (p+3)=false then .err 2 (p+3)
 else .ok (one (ze l p)++one (ze l (p+1))++one (ze l (p+2))++one (ze l (p+3))) (p+4)
def jF(l:List UInt8)(p:Nat):Res BA:=
 let a:=zG (ze l p)
 let b:=zG (ze l (p+1))
 let c:=zG (ze l (p+2))
 let d:=zG (ze l (p+3))
 if a<0 then .err 2 p
 else if b<0\/(a=13/\8<=b) then .err 2 (p+1)
 else if c<0 then .err 2 (p+2)
 else if d<0 then .err 2 (p+3)
 else .ok (enc (((a*16+b)*16+c)*16+d)) (p+4)
def yX(l:List UInt8)(p:Nat):Res BA:=
 let b:=ze l p
 if b=34\/b=92\/b=47 then .ok (one b) (p+1)
 else if b=110 then .ok (one 10) (p+1)
 else if b=116 then .ok (one 9) (p+1)
 else if b=117 then jF l (p+1)
 else .err 2 p
def xw(l:List UInt8)(p:Nat):Res BA:=
 let b:=ze l p
 if b<32 then .err 2 p
 else if b=92 then yX l (p+1)
 else if b<128 then .ok (one b) (p+1)
 else yN l p
def KX(l:List UInt8)(m:zh)(p:Nat)(r:Res BA):Prop:=match r with
 | .ok s q=>p<q/\q<=l.length/\∃m',Within m m' s/\verdict l m p=verdict l m' q
 | .err e q=>Fails l m p e q
theorem Q0(b:Nat):zG (b:Int)<=15:=by
 unfold zG;repeat' split
 all_goals omega
theorem Uu(l:List UInt8)(p:Nat)(h:0<=zG (ze l p)):p<l.length:=by
 apply zW;intro e;rw[e] at h;exact absurd h (by decide)
theorem Ki(l:List UInt8)(m:zh)(p:Nat)(g:p<=l.length)(f:m.state=9)(b c:Nat)(e:m.low=b)(d:m.high=c)(i:0<b) :
  (within l b c p=false->Fails l m p 2 p) /\
  (within l b c p=true->p<l.length/\verdict l m p=verdict l { m with got:=m.got++one (ze l p),low:=128,high:=191,need:=m.need-1,state:=if m.need-1=0 then 8 else 9 } (p+1)):=by
 constructor
 ·intro h;refine uq l m p g (.inl (by omega)) 2 (by decide) ?_ (λ_=>rfl);rw[mg m _ f,e,d,if_pos];unfold within at h;simp at h;omega
 ·intro h;unfold within at h;simp at h;have a:p<l.length:=zW l p (by omega);refine⟨a,qZ l m _ p a ?_⟩;rw[mg m _ f,e,d,if_neg (by omega)]
theorem FT(b:Nat):qa (b:Int)=(0,0,0)\/(128<=b/\∃n a c:Nat,qa (b:Int)=((n:Int),(a:Int),(c:Int))/\0<a/\(n=1\/n=2\/n=3)):=by
 unfold qa
 split
 ·exact .inr ⟨by omega,1,128,191,rfl,by omega,by omega⟩
 split
 ·exact .inr ⟨by omega,2,160,191,rfl,by omega,by omega⟩
 split
 ·exact .inr ⟨by omega,2,128,159,rfl,by omega,by omega⟩
 split
 ·exact .inr ⟨by omega,2,128,191,rfl,by omega,by omega⟩
 split
 ·exact .inr ⟨by omega,3,144,191,rfl,by omega,by omega⟩
 split
 ·exact .inr ⟨by omega,3,128,191,rfl,by omega,by omega⟩
 split
 ·exact .inr ⟨by omega,3,128,143,rfl,by omega,by omega⟩
 exact .inl rfl
theorem VE(a b c:BA):a++b++c=a++(b++c):=by
 apply ByteArray.ext;simp
theorem Nn(l:List UInt8)(m:zh)(p:Nat)(u:m.state=8)(w:128<=ze l p):KX l m p (yN l p):=by
 have t:p<l.length:=zW l p (by omega)
 have d:Ref.step m (ze l p:Int)=if (qa (ze l p:Int)).1=0 then (2,m) else (0,{ m with need:=(qa (ze l p:Int)).1,low:=(qa (ze l p:Int)).2.1,high:=(qa (ze l p:Int)).2.2,got:=m.got++one (ze l p),state:=9 }):=by
  rw[Vd m _ u];unfold plain;rw[if_neg (by omega),if_neg (by omega),if_neg (by omega),if_neg (by omega)]
 unfold yN
 rcases FT (ze l p) with h0|⟨_,n,k,i,hr,hlo,hn⟩
 ·rw[h0] at d |-;simp only[if_true];exact uq l m p (by omega) (.inl (by omega)) 2 (by decide) (by rw[d];rfl) (λ_=>rfl)
 ·rw[hr] at d |-;simp only[Int.toNat_natCast];rw[if_neg (by omega)] at d |-;have j:=qZ l m _ p t d;obtain⟨e,a⟩:∃e:zh,e={ m with need:=(n:Int),low:=(k:Int),high:=(i:Int),got:=m.got++one (ze l p),state:=9 }:=⟨_,rfl⟩
  rw[<- a] at j;have q:=Ki l e (p+1) (by omega) (by rw[a]) k i (by rw[a]) (by rw[a]) hlo
  cases w1:within l k i (p+1) with
  | false=>rw[if_pos rfl];exact (q.1 w1).of_eq j
  | true=>
   rw[if_neg (by decide)];obtain⟨x,g⟩:=q.2 w1;have g:=j.trans g
   by_cases n1:n=1
   ·rw[if_pos (by omega)];refine⟨by omega,by omega,_,?_,g⟩;subst n1;rw[a];exact⟨rfl,rfl,rfl,rfl,rfl,by simp only;rw[VE]⟩
   rw[if_neg (by omega)];obtain⟨f,b⟩:∃f:zh,f={ e with got:=e.got++one (ze l (p+1)),low:=128,high:=191,need:=e.need-1,state:=if e.need-1=0 then 8 else 9 }:=⟨_,rfl⟩
   rw[<- b] at g;have r:=Ki l f (p+2) (by omega) (by rw[b];simp only;rw[if_neg];rw[a];simp only;omega) 128 191 (by rw[b];rfl) (by rw[b];rfl) (by omega)
   cases w2:within l 128 191 (p+2) with
   | false=>rw[if_pos rfl];exact (r.1 w2).of_eq g
   | true=>
    rw[if_neg (by decide)];obtain⟨q2,h⟩:=r.2 w2;have h:=g.trans h
    by_cases n2:n=2
    ·rw[if_pos (by omega)];refine⟨by omega,by omega,_,?_,h⟩;subst n2;rw[b,a];exact⟨rfl,rfl,rfl,rfl,rfl,by simp only[VE]⟩
    rw[if_neg (by omega)];obtain rfl:n=3:=by omega
    obtain⟨o,c⟩:∃o:zh,o={ f with got:=f.got++one (ze l (p+2)),low:=128,high:=191,need:=f.need-1,state:=if f.need-1=0 then 8 else 9 }:=⟨_,rfl⟩
    rw[<- c] at h;have s:=Ki l o (p+3) (by omega) (by rw[c,b,a];rfl) 128 191 (by rw[c];rfl) (by rw[c];rfl) (by omega)
    cases w3:within l 128 191 (p+3) with
    | false=>rw[if_pos rfl];exact (s.1 w3).of_eq h
    | true=>
     rw[if_neg (by decide)];obtain⟨y,v⟩:=s.2 w3;refine⟨by omega,by omega,_,?_,h.trans v⟩;rw[c,b,a];exact⟨rfl,rfl,rfl,rfl,rfl,by simp only[VE]⟩
theorem Jm(l:List UInt8)(m:zh)(p:Nat)(g:p<=l.length)(i:m.state=11)(N k:Int)(e:m.number=N)(f:m.need=k)(bad:Prop)(c:bad↔(zG (ze l p)<0\/(k=3/\216<=16*N+zG (ze l p)/\16*N+zG (ze l p)<=223))) :
  (bad->Fails l m p 2 p) /\
  (¬bad->k≠1->p<l.length/\verdict l m p=verdict l { m with number:=16*N+zG (ze l p),need:=k-1 } (p+1)) /\
  (¬bad->k=1->p<l.length/\verdict l m p=verdict l { m with number:=16*N+zG (ze l p),need:=k-1,got:=m.got++enc (16*N+zG (ze l p)),state:=8 } (p+1)):=by
 have b:Ref.step m (ze l p:Int)=digit m (ze l p:Int):=Oh m _ i;unfold digit at b;rw[e,f] at b;refine⟨λh=>?_,λh d=>?_,λh d=>?_⟩
 ·refine uq l m p g (.inl (by omega)) 2 (by decide) ?_ (λ_=>rfl);rw[b]
  by_cases h1:zG (ze l p:Int)<0
  ·rw[if_pos h1]
  ·rw[if_neg h1,if_pos (by have:=c.1 h;omega)]
 ·rw[c] at h;have a:p<l.length:=Uu l p (by omega);refine⟨a,qZ l m _ p a ?_⟩;rw[b,if_neg (by omega),if_neg (by omega),if_neg (by omega)]
 ·rw[c] at h;have a:p<l.length:=Uu l p (by omega);refine⟨a,qZ l m _ p a ?_⟩;rw[b,if_neg (by omega),if_neg (by omega),if_pos (by omega)]
theorem Cu(l:List UInt8)(m:zh)(p:Nat)(F:p<=l.length)(g:m.state=11)(E:m.number=0)(z:m.need=4) :
  match jF l p with
  | .ok s q=>p<q/\q<=l.length/\∃m',Within { m with state:=8 } m' s/\verdict l m p=verdict l m' q
  | .err e q=>Fails l m p e q:=by
 have G:=Q0 (ze l p);have H:=Q0 (ze l (p+1));unfold jF;simp only;generalize n:zG (ze l p:Int)=A at *;have u:=Jm l m p F g 0 4 E z (A<0) (by rw[n];omega)
 by_cases c1:A<0
 ·rw[if_pos c1];exact u.1 c1
 rw[if_neg c1];obtain⟨I,j⟩:=u.2.1 c1 (by decide);rw[n] at j;obtain⟨h,a⟩:∃h:zh,h={ m with number:=16*0+A,need:=4-1 }:=⟨_,rfl⟩
 rw[<- a] at j;generalize o:zG (ze l (p+1):Int)=B at *;have v:=Jm l h (p+1) (by omega) (by rw[a];exact g) A 3 (by rw[a];simp) (by rw[a];rfl) (B<0\/(A=13/\8<=B)) (by rw[o];omega)
 by_cases c2:B<0\/(A=13/\8<=B)
 ·rw[if_pos c2];exact (v.1 c2).of_eq j
 rw[if_neg c2];obtain⟨q2,d⟩:=v.2.1 c2 (by decide);rw[o] at d;have d:=j.trans d;obtain⟨i,b⟩:∃i:zh,i={ h with number:=16*A+B,need:=3-1 }:=⟨_,rfl⟩
 rw[<- b] at d;generalize r:zG (ze l (p+2):Int)=C at *;have w:=Jm l i (p+2) (by omega) (by rw[b,a];exact g) (16*A+B) 2 (by rw[b]) (by rw[b];rfl) (C<0) (by rw[r];omega)
 by_cases c3:C<0
 ·rw[if_pos c3];exact (w.1 c3).of_eq d
 rw[if_neg c3];obtain⟨J,f⟩:=w.2.1 c3 (by decide);rw[r] at f;have f:=d.trans f;obtain⟨k,c⟩:∃k:zh,k={ i with number:=16*(16*A+B)+C,need:=2-1 }:=⟨_,rfl⟩
 rw[<- c] at f;generalize t:zG (ze l (p+3):Int)=D at *;have x:=Jm l k (p+3) (by omega) (by rw[c,b,a];exact g) (16*(16*A+B)+C) 1 (by rw[c]) (by rw[c];rfl) (D<0) (by rw[t];omega)
 by_cases c4:D<0
 ·rw[if_pos c4];exact (x.1 c4).of_eq f
 rw[if_neg c4];obtain⟨K,y⟩:=x.2.2 c4 rfl;rw[t] at y;refine⟨by omega,by omega,_,?_,f.trans y⟩;rw[c,b,a];refine⟨rfl,rfl,rfl,rfl,rfl,?_⟩;simp only;have e:16*(16*(16*A+B)+C)+D=((A*16+B)*16+C)*16+D:=by omega
 rw[e]
theorem BI(l:List UInt8)(m:zh)(p:Nat)(j:p<=l.length)(k:m.state=10) :
  match yX l p with
  | .ok s q=>p<q/\q<=l.length/\∃m',Within { m with state:=8 } m' s/\verdict l m p=verdict l m' q
  | .err e q=>Fails l m p e q:=by
 have a:Ref.step m (ze l p:Int)=escape m (ze l p:Int):=Og m _ k;unfold escape at a;unfold yX;simp only;generalize d:ze l p=b at *
 by_cases c1:b=34\/b=92\/b=47
 ·rw[if_pos c1];rw[if_pos (by omega)] at a;have c:p<l.length:=zW l p (by rw[d];omega);have v:=qZ l m _ p c (by rw[d];exact a);refine⟨by omega,by omega,_,?_,v⟩;exact⟨rfl,rfl,rfl,rfl,rfl,rfl⟩
 rw[if_neg c1];rw[if_neg (by omega)] at a
 by_cases c2:b=110
 ·rw[if_pos c2];rw[if_pos (by omega)] at a;have c:p<l.length:=zW l p (by rw[d];omega);have v:=qZ l m _ p c (by rw[d];exact a);refine⟨by omega,by omega,_,?_,v⟩;exact⟨rfl,rfl,rfl,rfl,rfl,rfl⟩
 rw[if_neg c2];rw[if_neg (by omega)] at a
 by_cases c3:b=116
 ·rw[if_pos c3];rw[if_pos (by omega)] at a;have c:p<l.length:=zW l p (by rw[d];omega);have v:=qZ l m _ p c (by rw[d];exact a);refine⟨by omega,by omega,_,?_,v⟩;exact⟨rfl,rfl,rfl,rfl,rfl,rfl⟩
 rw[if_neg c3];rw[if_neg (by omega)] at a
 by_cases c4:b=117
 ·rw[if_pos c4];rw[if_pos (by omega)] at a;have c:p<l.length:=zW l p (by rw[d];omega);have v:=qZ l m _ p c (by rw[d];exact a);have f:=Cu l { m with state:=11,need:=4,number:=0 } (p+1) (by omega) rfl rfl rfl
  cases hf:jF l (p+1) with
  | ok s q=>
   rw[hf] at f;obtain⟨n,g,m',h,i⟩:=f;exact⟨by omega,g,m',h,v.trans i⟩
  | err e q=>
   rw[hf] at f;exact Fails.of_eq f v
 rw[if_neg c4];rw[if_neg (by omega)] at a;exact uq l m p j (.inl (by omega)) 2 (by decide) (by rw[d,a]) (λ_=>rfl)
theorem sN(l:List UInt8)(m:zh)(p:Nat)(i:p<=l.length)(c:m.state=8)(k:ze l p≠34):KX l m p (xw l p):=by
 have a:Ref.step m (ze l p:Int)=plain m (ze l p:Int):=Vd m _ c;unfold plain at a;unfold xw;simp only
 by_cases c1:ze l p<32
 ·rw[if_pos c1];rw[if_neg (by omega),if_neg (by omega),if_pos (by omega)] at a;exact uq l m p i (.inl (by omega)) 2 (by decide) (by rw[a]) (λ_=>rfl)
 rw[if_neg c1];have b:p<l.length:=zW l p (by omega)
 by_cases c2:ze l p=92
 ·rw[if_pos c2];rw[if_neg (by omega),if_pos (by omega)] at a;have v:=qZ l m _ p b a;have f:=BI l { m with state:=10 } (p+1) (by omega) rfl
  cases hf:yX l (p+1) with
  | ok s q=>
   rw[hf] at f;obtain⟨j,d,m',g,h⟩:=f;exact⟨by omega,d,m',g,v.trans h⟩
  | err e q=>
   rw[hf] at f;exact Fails.of_eq f v
 rw[if_neg c2]
 by_cases c3:ze l p<128
 ·rw[if_pos c3];rw[if_neg (by omega),if_neg (by omega),if_neg (by omega),if_pos (by omega)] at a;refine⟨by omega,by omega,_,?_,qZ l m _ p b a⟩;exact⟨c,rfl,rfl,rfl,rfl,rfl⟩
 rw[if_neg c3];exact Nn l m p c (by omega)
theorem Rw(l:List UInt8)(m:zh)(p:Nat)(d:p<l.length)(e:Int)(a:e≠0)(b:(Ref.step m (ze l p:Int)).1=e):Fails l m p e p:=by
 have c:Ref.run m (l.drop p) p=(e,p,m):=by
  rw[Kh l m p d,if_neg (by rw[b];exact a),b]
 unfold Fails verdict;rw[c,if_pos a];exact⟨rfl,rfl⟩
def qh(l:List UInt8):Nat->Nat->BA->Res BA
 | 0,p,_ => .err 2 p
 | f+1,p,acc=>if ze l p=34 then .ok acc (p+1) else match xw l p with
  | .ok s q=>qh l f q (acc++s)
  | .err e q => .err e q
def jb(l:List UInt8)(p:Nat):Res BA:=qh l (l.length+1-p) p ⟨#[]⟩
def K3(m m':zh)(s:BA):Prop:=m'.state=8/\m'.opn=m.opn/\m'.nodes=m.nodes/\m'.named=m.named/\m'.root=m.root/\m'.got=s
theorem Pf(l:List UInt8)(f:Nat)(m:zh)(p:Nat)(acc:BA)(o:p<=l.length)(J:l.length<p+f)(d:m.state=8)(c:m.got=acc) :
  match qh l f p acc with
  | .ok s q=>p<q/\q<=l.length/\ze l (q-1)=34/\∃m',K3 m m' s/\verdict l m p=verdict l m' (q-1)
  | .err e q=>Fails l m p e q:=by
 induction f generalizing m p acc with
 | zero=>omega
 | succ f r=>
  rw[qh]
  by_cases h34:ze l p=34
  ·rw[if_pos h34];have n:=zW l p (by omega);exact⟨by omega,by omega,by simpa using h34,m,⟨d,rfl,rfl,rfl,rfl,c⟩,by simp⟩
  rw[if_neg h34];have a:=sN l m p o d h34
  cases hm:xw l p with
  | err e q=>rw[hm] at a;exact a
  | ok s q=>
   rw[hm] at a;obtain⟨I,k,z,⟨B,C,D,E,F,G⟩,g⟩:=a;have b:=r z q (acc++s) k (by omega) B (by rw[G,c]);simp only
   cases hr:qh l f q (acc++s) with
   | err e A=>rw[hr] at b;exact Fails.of_eq b g
   | ok K A=>
    rw[hr] at b;obtain⟨H,h,i,m',⟨t,u,v,w,x,y⟩,j⟩:=b;exact⟨by omega,h,i,m',⟨t,by rw[u,C],by rw[v,D],by rw[w,E],by rw[x,F],y⟩,g.trans j⟩
theorem Kn(l:List UInt8)(m:zh)(p:Nat)(b:p<=l.length)(c:m.state=8)(a:m.got=⟨#[]⟩) :
  match jb l p with
  | .ok s q=>p<q/\q<=l.length/\ze l (q-1)=34/\∃m',K3 m m' s/\verdict l m p=verdict l m' (q-1)
  | .err e q=>Fails l m p e q:=Pf l _ m p ⟨#[]⟩ b (by omega) c a
inductive V where
 | str (s:BA)
 | word (b:Bool)
 | list (l:List V)
 | obj (l:List (BA×V))
inductive Rep (ns:List Ref.Node):Nat->V->Prop
 | str (i:Nat) (n:Ref.Node) (s:BA):ns[i]?=some n->n.kind=3->n.text=s->n.kids=[]->n.names=[]->Rep ns i (.str s)
 | word (i:Nat) (n:Ref.Node) (b:Bool):ns[i]?=some n->n.kind=(if b then 4 else 5)->n.kids=[]->n.names=[]->Rep ns i (.word b)
 | list (i:Nat) (n:Ref.Node) (vs:List V):ns[i]?=some n->n.kind=2->n.names=[]->n.kids.length=vs.length ->
   (∀k ∈ n.kids,i<k)->(∀(j k:Nat) (v:V),n.kids[j]?=some k->vs[j]?=some v->Rep ns k v)->Rep ns i (.list vs)
 | obj (i:Nat) (n:Ref.Node) (ms:List (BA×V)):ns[i]?=some n->n.kind=1->n.names=ms.map Prod.fst->n.kids.length=ms.length ->
   (∀k ∈ n.kids,i<k)->(∀(j k:Nat) (x:BA×V),n.kids[j]?=some k->ms[j]?=some x->Rep ns k x.2)->Rep ns i (.obj ms)
theorem Rep.more{t o:List Ref.Node}{i:Nat}{v:V}(h:Rep t i v)(l:∀(j:Nat) (n:Ref.Node),i<=j->t[j]?=some n->o[j]?=some n):Rep o i v:=by
 induction h with
 | str i n s a c d e f=>exact .str i n s (l i n (Nat.le_refl _) a) c d e f
 | word i n b a c d e=>exact .word i n b (l i n (Nat.le_refl _) a) c d e
 | list i n z a c d e f _ p=>
  exact .list i n z (l i n (Nat.le_refl _) a) c d e f (λj k v m w=>p j k v m w (λq r u g=>l q r (by have:=f k (List.mem_of_getElem? m);omega) g))
 | obj i n ms a c d e f _ p=>
  exact .obj i n ms (l i n (Nat.le_refl _) a) c d e f (λj k x m y=>p j k x m y (λq r u g=>l q r (by have:=f k (List.mem_of_getElem? m);omega) g))
def base(m:zh):List Ref.Node:=if m.opn=[] then m.nodes else Qh (m.opn.getLastD 0) m.nodes.length m.nodes
structure ZL (m m':zh) (v:V):Prop where
 state:m'.state=6
 opn:m'.opn=m.opn
 old:m'.nodes.take m.nodes.length=base m
 rep:Rep m'.nodes m.nodes.length v
 root:m'.root=if m.opn=[] then (m.nodes.length:Int) else m.root
theorem Y9(m:zh):(base m).length=m.nodes.length:=by
 unfold base;split
 ·rfl
 ·simp[Qh]
def Xp(m:zh):Prop:=∀o ∈ m.opn,o<m.nodes.length
theorem FP(l:List Nat)(h:l≠[]):l.getLastD 0 ∈ l:=by
 cases l with
 | nil=>exact absurd rfl h
 | cons a r=>rw[List.getLastD_eq_getLast?,List.getLast?_eq_some_getLast (by simp)];exact List.getLast_mem _
theorem JF(m:zh)(n:Ref.Node)(b:Xp m):(lay m n).nodes=base m++[n]:=by
 unfold lay base
 by_cases h:m.opn=[]
 ·rw[if_pos h,if_pos h]
 ·rw[if_neg h,if_neg h];have a:=b _ (FP m.opn h);generalize m.opn.getLastD 0=t at a |-;unfold Qh;simp only;apply List.ext_getElem?;intro i;rw[List.getElem?_modify]
  by_cases hi:i<m.nodes.length
  ·rw[List.getElem?_append_left hi,List.getElem?_append_left (by simpa using hi),List.getElem?_modify]
  ·rw[List.getElem?_append_right (by omega),List.getElem?_append_right (by simp;omega)]
   have:¬t=i:=by omega
   simp[this]
theorem fe(m:zh)(n:Ref.Node):(lay m n).root=if m.opn=[] then (m.nodes.length:Int) else m.root:=by
 unfold lay;split<;>rfl
theorem mV(m m':zh)(n:Ref.Node)(v:V)(d:Xp m)(b:m'.state=6)(a:m'.opn=m.opn)(c:m'.nodes=(lay m n).nodes)(e:m'.root=(lay m n).root)(f:Rep m'.nodes m.nodes.length v):ZL m m' v:=by
 refine⟨b,a,?_,f,by rw[e,fe]⟩;rw[c,JF m n d,<- Y9 m,List.take_left]
theorem UC(m:zh)(n:Ref.Node)(a:Xp m):(lay m n).nodes[m.nodes.length]?=some n:=by
 rw[JF m n a,<- Y9 m];simp
structure qp (m0 m:zh) (kind:Int) (names:List BA) (vs:List V):Prop where
 opn:m.opn=m0.opn++[m0.nodes.length]
 old:m.nodes.take m0.nodes.length=base m0
 node:∃n:Ref.Node,m.nodes[m0.nodes.length]?=some n/\n.kind=kind/\n.names=names/\n.kids.length=vs.length/\(∀c ∈ n.kids,m0.nodes.length<c)/\∀(j c:Nat) (v:V),n.kids[j]?=some c->vs[j]?=some v->Rep m.nodes c v
 root:m.root=if m0.opn=[] then (m0.nodes.length:Int) else m0.root
 opens:Xp m
theorem qp.like{c m m':zh}{kind:Int}{names:List BA}{d:List V}(h:qp c m kind names d)(b:m'.opn=m.opn)(a:m'.nodes=m.nodes)(i:m'.root=m.root):qp c m' kind names d:=by
 refine⟨by rw[b];exact h.opn,by rw[a];exact h.old,?_,by rw[i];exact h.root,λo g=>by rw[a];exact h.opens o (by rw[<- b];exact g)⟩;obtain⟨n,e,f⟩:=h.node;exact⟨n,by rw[a];exact e,by rw[a];exact f⟩
theorem qp.top{a m:zh}{kind:Int}{names:List BA}{b:List V}(h:qp a m kind names b):m.opn.getLastD 0=a.nodes.length:=by
 rw[h.opn,List.getLastD_eq_getLast?];simp
theorem qp.ne{a m:zh}{kind:Int}{names:List BA}{b:List V}(h:qp a m kind names b):m.opn≠[]:=by
 rw[h.opn];simp
theorem qp.kindTop{c m:zh}{kind:Int}{names:List BA}{d:List V}(h:qp c m kind names d):XZ m=kind:=by
 obtain⟨n,a,b,_⟩:=h.node;unfold XZ;rw[h.top,a];exact b
theorem qp.namesTop{c m:zh}{kind:Int}{names:List BA}{d:List V}(h:qp c m kind names d):KM m=names:=by
 obtain⟨n,a,_,b,_⟩:=h.node;unfold KM;rw[h.top,a];exact b
theorem qp.lt{a m:zh}{kind:Int}{names:List BA}{c:List V}(h:qp a m kind names c):a.nodes.length<m.nodes.length:=by
 obtain⟨n,b,_⟩:=h.node;exact (List.getElem?_eq_some_iff.1 b).1
theorem gB(a m:zh)(n:Ref.Node)(d:Xp a)(b:m.opn=a.opn++[a.nodes.length])(e:m.nodes=(lay a n).nodes)(i:m.root=(lay a n).root)(f:n.kids=[]):qp a m n.kind n.names []:=by
 refine⟨b,?_,⟨n,by rw[e];exact UC a n d,rfl,rfl,by rw[f];rfl,by rw[f];simp,λj c v _ k=>by simp at k⟩,by rw[i,fe],?_⟩
 ·rw[e,JF a n d,<- Y9 a,List.take_left]
 ·intro o g;rw[e,JF a n d,List.length_append,Y9];rw[b] at g
  rcases List.mem_append.1 g with h|h
  ·have:=d o h;simp;omega
  ·simp at h;subst h;simp
theorem PK{l a:List Ref.Node}{k:Nat}(h:a.take k=l)(i:Nat)(b:i<k):a[i]?=l[i]?:=by
 rw[<- h,List.getElem?_take,if_pos b]
theorem ZL.len{m m':zh}{v:V}(h:ZL m m' v):m.nodes.length<m'.nodes.length:=by
 have:∃n,m'.nodes[m.nodes.length]?=some n:=by
  cases h.rep with
  | str i n s a=>exact⟨n,a⟩
  | word i n b a=>exact⟨n,a⟩
  | list i n d a=>exact⟨n,a⟩
  | obj i n ms a=>exact⟨n,a⟩
 obtain⟨n,c⟩:=this;exact (List.getElem?_eq_some_iff.1 c).1
theorem gD{d m m':zh}{kind:Int}{names:List BA}{y:List V}{v:V}(h:qp d m kind names y)(p:ZL m m' v):qp d m' kind names (y++[v]):=by
 have q:=h.lt;have hlen:=p.len;have k:base m=Qh d.nodes.length m.nodes.length m.nodes:=by unfold base;rw[if_neg h.ne,h.top]
 have f:∀i,i<m.nodes.length->m'.nodes[i]?=(Qh d.nodes.length m.nodes.length m.nodes)[i]?:=λi g=>by
  rw[<- k];exact PK p.old i g
 have a:∀i,i<m.nodes.length->i≠d.nodes.length->m'.nodes[i]?=m.nodes[i]?:=λi g x=>by
  rw[f i g];unfold Qh;rw[List.getElem?_modify]
  have:¬d.nodes.length=i:=λe=>x e.symm
  simp[this]
 obtain⟨n,D,E,F,G,B,H⟩:=h.node
 have I:m'.nodes[d.nodes.length]?=some { n with kids:=n.kids++[m.nodes.length] }:=by
  rw[f _ q];unfold Qh;rw[List.getElem?_modify,D]
  simp
 have l:∀c w,d.nodes.length<c->Rep m.nodes c w->Rep m'.nodes c w:=λc w b J=>J.more λj K t r=>by
  have u:=(List.getElem?_eq_some_iff.1 r).1;rw[a j u (by omega)];exact r
 refine⟨by rw[p.opn];exact h.opn,?_,⟨_,I,E,F,by simp[G],?_,?_⟩,by rw[p.root,if_neg h.ne];exact h.root,?_⟩
 ·rw[<- h.old];apply List.ext_getElem?;intro i;rw[List.getElem?_take,List.getElem?_take]
  by_cases g:i<d.nodes.length
  ·rw[if_pos g,if_pos g,a i (by omega) (by omega)]
  ·rw[if_neg g,if_neg g]
 ·intro c b
  rcases List.mem_append.1 b with h|h
  ·exact B c h
  ·simp at h;subst h;exact q
 ·intro j c w b s;simp only at b;rw[List.getElem?_append] at b s
  by_cases t:j<y.length
  ·rw[if_pos (by omega)] at b;rw[if_pos t] at s;exact l c w (B c (List.mem_of_getElem? b)) (H j c w b s)
  ·rw[if_neg (by omega)] at b;rw[if_neg t] at s;have z:=List.mem_of_getElem? b;have A:=List.mem_of_getElem? s;simp at z A;subst z;subst A;exact p.rep
 ·intro o C;rw[p.opn] at C
  have:=h.opens o C
  omega
theorem Hm{b m m':zh}{names:List BA}{t:List V}{s:BA}(h:qp b m 1 names t)(r:m'.opn=m.opn)(f:m'.nodes=QP b.nodes.length s m.nodes)(D:m'.root=m.root):qp b m' 1 (names++[s]) t:=by
 have C:=h.lt
 have a:∀i,i≠b.nodes.length->m'.nodes[i]?=m.nodes[i]?:=λi k=>by
  rw[f];unfold QP;rw[List.getElem?_modify]
  have:¬b.nodes.length=i:=λe=>k e.symm
  simp[this]
 obtain⟨n,u,v,x,y,l,z⟩:=h.node
 have B:m'.nodes[b.nodes.length]?=some { n with names:=n.names++[s] }:=by
  rw[f];unfold QP;rw[List.getElem?_modify,u]
  simp
 refine⟨by rw[r];exact h.opn,?_,⟨_,B,v,by simp[x],y,l,?_⟩,by rw[D];exact h.root,?_⟩
 ·rw[<- h.old];apply List.ext_getElem?;intro i;rw[List.getElem?_take,List.getElem?_take]
  by_cases d:i<b.nodes.length
  ·rw[if_pos d,if_pos d,a i (by omega)]
  ·rw[if_neg d,if_neg d]
 ·intro j c w p E;have A:=l c (List.mem_of_getElem? p);exact (z j c w p E).more λi F d g=>by rw[a i (by omega)];exact g
 ·intro o q;rw[r] at q
  have:=h.opens o q
  rw[f];simpa [QP] using this
theorem mW{d m m':zh}{b:List V}(h:qp d m 2 [] b)(k:m'.state=6)(l:m'.opn=m.opn.dropLast)(c:m'.nodes=m.nodes)(o:m'.root=m.root):ZL d m' (.list b):=by
 obtain⟨n,e,f,g,i,j,a⟩:=h.node;refine⟨k,by rw[l,h.opn];simp,by rw[c];exact h.old,?_,by rw[o];exact h.root⟩;rw[c];exact .list _ n b e f g i j a
theorem mX{c m m':zh}{ms:List (BA×V)}(h:qp c m 1 (ms.map Prod.fst) (ms.map Prod.snd))(l:m'.state=6)(p:m'.opn=m.opn.dropLast)(b:m'.nodes=m.nodes)(q:m'.root=m.root):ZL c m' (.obj ms):=by
 obtain⟨n,d,e,f,g,i,a⟩:=h.node;refine⟨l,by rw[p,h.opn];simp,by rw[b];exact h.old,?_,by rw[q];exact h.root⟩;rw[b];refine .obj _ n ms d e f (by rw[g,List.length_map]) i (λj k x o r=>a j k x.2 o ?_);rw[List.getElem?_map,r];rfl
def zP(l:List UInt8):List Nat->Nat->Res Unit
 | [],p => .ok () p
 | b::r,p=>if ze l p=b then zP l r (p+1) else .err 2 p
mutual
def zR(l:List UInt8):Nat->Nat->Nat->Res V
 | 0,_,p => .err 2 p
 | f+1,d,p=>
  if ze l p=123 then (if 8<d then .err 3 p else if ze l (skip l (p+1))=125 then .ok (.obj []) (skip l (p+1)+1) else jJ l f d (skip l (p+1)) [])
  else if ze l p=91 then (if 8<d then .err 3 p else if ze l (skip l (p+1))=93 then .ok (.list []) (skip l (p+1)+1) else jI l f d (skip l (p+1)) [])
  else if ze l p=34 then (match jb l (p+1) with
   | .ok s q => .ok (.str s) q
   | .err e q => .err e q)
  else if ze l p=116 then (match zP l [114,117,101] (p+1) with
   | .ok _ q => .ok (.word true) q
   | .err e q => .err e q)
  else if ze l p=102 then (match zP l [97,108,115,101] (p+1) with
   | .ok _ q => .ok (.word false) q
   | .err e q => .err e q)
  else .err 2 p
def jI(l:List UInt8):Nat->Nat->Nat->List V->Res V
 | 0,_,p,_ => .err 2 p
 | f+1,d,p,acc=>match zR l f (d+1) p with
  | .err e q => .err e q
  | .ok v q=>
   if ze l (skip l q)=44 then jI l f d (skip l (skip l q+1)) (acc++[v])
   else if ze l (skip l q)=93 then .ok (.list (acc++[v])) (skip l q+1)
   else .err 2 (skip l q)
def jJ(l:List UInt8):Nat->Nat->Nat->List (BA×V)->Res V
 | 0,_,p,_ => .err 2 p
 | f+1,d,p,acc=>
  if ze l p≠34 then .err 2 p else match jb l (p+1) with
  | .err e q => .err e q
  | .ok s q=>
   if acc.any (λx=>x.1.toList==s.toList) then .err 4 (q-1)
   else if ze l (skip l q)≠58 then .err 2 (skip l q)
   else match zR l f (d+1) (skip l (skip l q+1)) with
   | .err e a => .err e a
   | .ok v a=>
    if ze l (skip l a)=44 then jJ l f d (skip l (skip l a+1)) (acc++[(s,v)])
    else if ze l (skip l a)=125 then .ok (.obj (acc++[(s,v)])) (skip l a+1)
    else .err 2 (skip l a)
end
def QO(l:List UInt8)(a m:zh)(p:Nat)(r:Res V):Prop:=match r with
 | .ok v q=>p<q/\q<=l.length/\∃m',ZL a m' v/\verdict l m p=verdict l m' q
 | .err e q=>Fails l m p e q
theorem QO.of_eq{l:List UInt8}{c m m':zh}{p a:Nat}{r:Res V}(h:QO l c m' a r)(k:p<=a)(b:verdict l m p=verdict l m' a):QO l c m p r:=by
 cases r with
 | ok v q=>
  obtain⟨j,d,i,f,g⟩:=h;exact⟨by omega,d,i,f,b.trans g⟩
 | err e q=>exact Fails.of_eq h b
theorem RI(l:List UInt8)(r:List Nat)(m:zh)(p:Nat)(C:p<=l.length)(D:r≠[])(E:m.state=7)(d:m.word.data.toList.map UInt8.toNat=r)(k:∀b ∈ r,b≠0) :
  match zP l r p with
  | .ok _ q=>p<q/\q<=l.length/\∃m':zh,m'.state=6/\m'.opn=m.opn/\m'.nodes=m.nodes/\m'.root=m.root/\verdict l m p=verdict l m' q
  | .err e q=>Fails l m p e q:=by
 induction r generalizing m p with
 | nil=>exact absurd rfl D
 | cons b r F=>
  have a:=Oi m (ze l p:Int) E
  have hlen:m.word.size=r.length+1:=by
   have:=congrArg List.length d
   rw[List.length_map,zB] at this
   simpa using this
  have h:(m.word.data.toList.getD 0 0).toNat=b:=by
   cases hl:m.word.data.toList with
   | nil=>rw[hl] at d;simp at d
   | cons c t=>rw[hl] at d;simp at d;simpa using d.1
  rw[h] at a;rw[zP]
  by_cases hb:ze l p=b
  ·rw[if_pos hb];rw[if_neg (by omega)] at a;have A:=k b (by simp);have i:=zW l p (by omega);have j:=qZ l m _ p i a
   by_cases hr0:r=[]
   ·subst hr0;rw[zP];refine⟨by omega,by omega,_,?_,?_,?_,?_,j⟩
    ·simp only;rw[if_pos (by rw[hlen];rfl)]
    ·rfl
    ·rfl
    ·rfl
   ·have B:¬m.word.size=1:=by rw[hlen];cases r with|nil=>exact absurd rfl hr0|cons _ _=>simp
    have f:=F { m with word:=m.word.extract 1 m.word.size,state:=if m.word.size=1 then 6 else 7 } (p+1) (by omega) hr0 (by simp only;rw[if_neg B])
     (by
       simp only
       have e:(m.word.extract 1 m.word.size).data.toList=m.word.data.toList.drop 1:=by
        have z:m.word.data.toList.length=m.word.size:=zB _;simp only[ByteArray.data_extract,Array.toList_extract,List.extract_eq_take_drop];rw[List.take_of_length_le (by simp[z])]
       rw[e,List.map_drop,d];rfl)
     (λn g=>k n (by simp[g]))
    cases hw2:zP l r (p+1) with
    | ok u q=>
     rw[hw2] at f;obtain⟨G,o,m',s,v,w,x,y⟩:=f;exact⟨by omega,o,m',s,v,w,x,j.trans y⟩
    | err e q=>rw[hw2] at f;exact Fails.of_eq f j
  ·rw[if_neg hb];rw[if_pos (by omega)] at a;exact uq l m p C (.inl (by omega)) 2 (by decide) (by rw[a]) (λ_=>rfl)
theorem Oj(m:zh)(b:Nat)(h:m.state=1\/m.state=2)(a:blank b=false)(c:¬(m.state=2/\b=93)):Ref.step m (b:Int)=Ja m (b:Int):=by
 rw[YQ m _ (by omega),Yk,a,if_neg (by decide),if_neg (by omega),if_neg (by omega),if_neg (by omega)]
theorem Km(m:zh)(b:Nat)(h:m.state=6\/m.state=5)(a:blank b=false):Ref.step m (b:Int)=after m (b:Int):=by
 rw[YQ m _ (by omega),Yk,a,if_neg (by decide),if_pos h]
theorem Ou(m:zh)(b:Nat)(h:m.state=3\/m.state=4)(a:blank b=false)(c:¬(m.state=3/\b=125)):Ref.step m (b:Int)=if (b:Int)≠34 then (2,m) else (0,{ m with state:=8,named:=true,got:=⟨#[]⟩ }):=by
 rw[YQ m _ (by omega),Yk,a,if_neg (by decide),if_neg (by omega),if_neg (by omega),if_pos h]
theorem step_end(m:zh)(b:Nat)(h:(m.state=2/\b=93)\/(m.state=3/\b=125)):Ref.step m (b:Int)=vG m (b:Int):=by
 rw[YQ m _ (by omega),Yk]
 have a:blank b=false:=by
  rcases h with ⟨_,rfl⟩|⟨_,rfl⟩<;>decide
 rw[a,if_neg (by decide),if_neg (by omega),if_pos (by omega)]
theorem cu{a m:zh}{b:List V}(h:qp a m 2 [] b):vG m 93=(0,{ m with opn:=m.opn.dropLast,state:=6 }):=by
 unfold vG;rw[if_neg h.ne,h.kindTop];rfl
theorem cz{a m:zh}{names:List BA}{b:List V}(h:qp a m 1 names b):vG m 125=(0,{ m with opn:=m.opn.dropLast,state:=6 }):=by
 unfold vG;rw[if_neg h.ne,h.kindTop];rfl
theorem Ga(l:List UInt8){g m:zh}{i:List V}(h:qp g m 2 [] i)(k:m.state=6)(p:Nat)(n:p<=l.length) :
  (ze l (skip l p)=44->∃m',m'.state=1/\qp g m' 2 [] i/\skip l p<l.length/\verdict l m p=verdict l m' (skip l (skip l p+1))) /\
  (ze l (skip l p)=93->∃m',ZL g m' (.list i)/\skip l p<l.length/\verdict l m p=verdict l m' (skip l p+1)) /\
  (ze l (skip l p)≠44->ze l (skip l p)≠93->Fails l m p 2 (skip l p)):=by
 have f:=QE l m (by omega) p;have hle:=jO l p n;have a:=Km m (ze l (skip l p)) (.inl k) (ul l p);unfold after at a;rw[if_neg (by omega),if_neg (by rintro (h|j);omega;exact h.ne j)] at a;refine⟨λd=>?_,λd=>?_,λo q=>?_⟩
 ·rw[if_neg (by omega),if_neg (by omega),h.kindTop,if_neg (by decide)] at a;have b:=zW l (skip l p) (by omega);have c:=qZ l m _ (skip l p) b a;refine⟨{ m with state:=1 },rfl,h.like rfl rfl rfl,b,(f.trans c).trans (QE l _ (show (1:Int)<7 by decide) _)⟩
 ·rw[if_pos (by omega),d] at a;have b:=zW l (skip l p) (by omega);have e:vG m ((93:Nat):Int)=_:=cu h;rw[e] at a;have c:=qZ l m _ (skip l p) b (by rw[d];exact a);refine⟨_,?_,b,f.trans c⟩;exact mW h rfl rfl rfl rfl
 ·refine Fails.of_eq (uq l m (skip l p) hle (.inr h.ne) 2 (by decide) ?_ (λ_=>rfl)) f;rw[a]
  by_cases h3:(ze l (skip l p):Int)=125\/(ze l (skip l p):Int)=93
  ·rw[if_pos h3];unfold vG;rw[if_neg h.ne,h.kindTop,if_pos];have e:(ze l (skip l p):Int)=125:=by omega
   rw[e];decide
  ·rw[if_neg h3,if_pos (by omega)]
theorem Hz(l:List UInt8){g m:zh}{ms:List (BA×V)}(h:qp g m 1 (ms.map Prod.fst) (ms.map Prod.snd))(j:m.state=6)(p:Nat)(k:p<=l.length) :
  (ze l (skip l p)=44->∃m',m'.state=4/\qp g m' 1 (ms.map Prod.fst) (ms.map Prod.snd)/\skip l p<l.length/\verdict l m p=verdict l m' (skip l (skip l p+1))) /\
  (ze l (skip l p)=125->∃m',ZL g m' (.obj ms)/\skip l p<l.length/\verdict l m p=verdict l m' (skip l p+1)) /\
  (ze l (skip l p)≠44->ze l (skip l p)≠125->Fails l m p 2 (skip l p)):=by
 have f:=QE l m (by omega) p;have hle:=jO l p k;have a:=Km m (ze l (skip l p)) (.inl j) (ul l p);unfold after at a;rw[if_neg (by omega),if_neg (by rintro (h|i);omega;exact h.ne i)] at a;refine⟨λd=>?_,λd=>?_,λn o=>?_⟩
 ·rw[if_neg (by omega),if_neg (by omega),h.kindTop,if_pos rfl] at a;have b:=zW l (skip l p) (by omega);have c:=qZ l m _ (skip l p) b a;refine⟨{ m with state:=4 },rfl,h.like rfl rfl rfl,b,(f.trans c).trans (QE l _ (show (4:Int)<7 by decide) _)⟩
 ·rw[if_pos (by omega),d] at a;have b:=zW l (skip l p) (by omega);have e:vG m ((125:Nat):Int)=_:=cz h;rw[e] at a;have c:=qZ l m _ (skip l p) b (by rw[d];exact a);refine⟨_,?_,b,f.trans c⟩;exact mX h rfl rfl rfl rfl
 ·refine Fails.of_eq (uq l m (skip l p) hle (.inr h.ne) 2 (by decide) ?_ (λ_=>rfl)) f;rw[a]
  by_cases h3:(ze l (skip l p):Int)=125\/(ze l (skip l p):Int)=93
  ·rw[if_pos h3];unfold vG;rw[if_neg h.ne,h.kindTop,if_pos];have e:(ze l (skip l p):Int)=93:=by omega
   rw[e];decide
  ·rw[if_neg h3,if_pos (by omega)]
def AV(l:List UInt8)(f:Nat):Prop:=∀(m:zh) (d p:Nat),(m.state=1\/m.state=2)->Xp m->m.opn.length+1=d->p<=l.length->blank (ze l p)=false->¬(m.state=2/\ze l p=93)->2*(l.length-p)<f ->
 QO l m m p (zR l f d p)
def AL(l:List UInt8)(f:Nat):Prop:=∀(a m:zh) (d p:Nat) (acc:List V),qp a m 2 [] acc->(m.state=1\/m.state=2)->a.opn.length+1=d->p<=l.length->blank (ze l p)=false->¬(m.state=2/\ze l p=93)->2*(l.length-p)+1<f ->
 QO l a m p (jI l f d p acc)
def AO(l:List UInt8)(f:Nat):Prop:=∀(a m:zh) (d p:Nat) (acc:List (BA×V)),qp a m 1 (acc.map Prod.fst) (acc.map Prod.snd)->(m.state=3\/m.state=4)->a.opn.length+1=d->p<=l.length->blank (ze l p)=false->¬(m.state=3/\ze l p=125)->2*(l.length-p)+1<f ->
 QO l a m p (jJ l f d p acc)
theorem YB(m a:zh)(b:a.opn=m.opn)(c:a.nodes=m.nodes)(d:a.root=m.root)(n:Ref.Node):(lay a n).nodes=(lay m n).nodes/\(lay a n).root=(lay m n).root:=by
 unfold lay;rw[b,c]
 by_cases hE:m.opn=[]
 ·rw[if_pos hE,if_pos hE];exact⟨rfl,rfl⟩
 ·rw[if_neg hE,if_neg hE];exact⟨rfl,d⟩
theorem Gf(l:List UInt8)(f:Nat)(z:AV l f)(y:AL l f):AL l (f+1):=by
 intro E m d p acc o C hd B A j J;have a:m.opn.length+1=d+1:=by rw[o.opn,List.length_append];simp;omega
 have c:=z m (d+1) p C o.opens a B A j (by omega);rw[jI]
 cases hr:zR l f (d+1) p with
 | err e q=>rw[hr] at c;exact c
 | ok v q=>
  rw[hr] at c;obtain⟨I,x,K,w,k⟩:=c;have r:=gD o w;obtain⟨g,h,i⟩:=Ga l r w.state q x;simp only;have D:=xW l q
  by_cases c1:ze l (skip l q)=44
  ·rw[if_pos c1];obtain⟨s,G,F,n,t⟩:=g c1;clear g h i;have u:=xW l (skip l q+1);have b:=jO l (skip l q+1) (by omega)
   have:=y E s d (skip l (skip l q+1)) (acc++[v]) F (.inl G) hd b (ul l _) (by omega) (by omega)
   exact this.of_eq (by omega) (k.trans t)
  rw[if_neg c1]
  by_cases c2:ze l (skip l q)=93
  ·rw[if_pos c2];obtain⟨s,H,n,t⟩:=h c2;clear g h i;exact⟨by omega,by omega,s,H,k.trans t⟩
  rw[if_neg c2];exact Fails.of_eq (i c1 c2) k
theorem Ib(l:List UInt8)(f:Nat)(hV:AV l f)(hO:AO l f):AO l (f+1):=by
 intro J m d p acc X hs hd hp hb B hf;rw[jJ];have n:=Ou m (ze l p) hs hb B
 by_cases c0:ze l p=34
 ·rw[if_neg (by simpa using c0)];rw[if_neg (by omega)] at n;have O:=zW l p (by omega);have S:=qZ l m _ p O n;have g:=Kn l { m with state:=8,named:=true,got:=⟨#[]⟩ } (p+1) (by omega) rfl rfl
  cases hr:jb l (p+1) with
  | err e q=>rw[hr] at g;exact Fails.of_eq g S
  | ok s q=>
   rw[hr] at g;obtain⟨h1,h2,h3,a,⟨k1,k2,k3,k4,k5,k6⟩,W⟩:=g;simp only;have r:qp J a 1 (acc.map Prod.fst) (acc.map Prod.snd):=X.like k2 k3 k5
   have c:Ref.step a (ze l (q-1):Int)=closed a:=by
    rw[Vd a _ k1,h3];unfold plain;rw[if_pos (by decide)]
   have T:a.named=true:=k4
   have C:(acc.map Prod.fst).any (λx=>x.toList==a.got.toList)=acc.any (λx=>x.1.toList==s.toList):=by
    rw[k6,List.any_map];rfl
   have N:closed a=if acc.any (λx=>x.1.toList==s.toList)=true then (4,a) else (0,{ a with nodes:=QP (a.opn.getLastD 0) a.got a.nodes,state:=5 }):=by
    unfold closed;rw[if_neg (by rw[T];decide),r.namesTop,C]
   rw[N] at c
   by_cases c1:acc.any (λx=>x.1.toList==s.toList)=true
   ·rw[if_pos c1];rw[if_pos c1] at c;exact Fails.of_eq (Rw l a (q-1) (by omega) 4 (by decide) (by rw[c])) (S.trans W)
   rw[if_neg c1];rw[if_neg c1] at c;have z:=qZ l a _ (q-1) (by omega) c;rw[show q-1+1=q by omega] at z;obtain⟨j,k⟩:∃j:zh,j={ a with nodes:=QP (a.opn.getLastD 0) a.got a.nodes,state:=5 }:=⟨_,rfl⟩
   rw[<- k] at z
   have P:qp J j 1 (acc.map Prod.fst++[s]) (acc.map Prod.snd):=by
    have:=Hm (s:=a.got) r (m':=j) (by rw[k]) (by rw[k];simp only;rw[r.top]) (by rw[k])
    rw[k6] at this;exact this
   have u:j.state=5:=by rw[k]
   have H:=((S.trans W).trans z).trans (QE l j (by omega) q);have b5:=xW l q;have G:=jO l q h2;have b:=Km j (ze l (skip l q)) (.inr u) (ul l q);unfold after at b
   by_cases c2:ze l (skip l q)=58
   ·rw[if_neg (by simpa using c2)];rw[if_pos ⟨u,by omega⟩] at b;have D:=zW l (skip l q) (by omega);have I:=H.trans ((qZ l j _ (skip l q) D b).trans (QE l _ (show (1:Int)<7 by decide) _));have t:qp J { j with state:=1 } 1 (acc.map Prod.fst++[s]) (acc.map Prod.snd):=P.like rfl rfl rfl
    have Y:=xW l (skip l q+1);have w:=jO l (skip l q+1) (by omega);have F:({ j with state:=1 }:zh).opn.length+1=d+1:=by rw[t.opn,List.length_append];simp;omega
    have i:=hV { j with state:=1 } (d+1) (skip l (skip l q+1)) (.inl rfl) t.opens F w (ul l _) (λh=>absurd h.1 (show ¬(1:Int)=2 by decide)) (by omega)
    cases hr2:zR l f (d+1) (skip l (skip l q+1)) with
    | err e o=>rw[hr2] at i;exact Fails.of_eq i I
    | ok v o=>
     rw[hr2] at i;obtain⟨g1,g2,m4,ht,ge⟩:=i;have Q:=gD t ht;have R:qp J m4 1 ((acc++[(s,v)]).map Prod.fst) ((acc++[(s,v)]).map Prod.snd):=by simpa using Q
     obtain⟨K,L,M⟩:=Hz l R ht.state o g2;simp only;have Z:=xW l o;have A:=I.trans ge
     by_cases c3:ze l (skip l o)=44
     ·rw[if_pos c3];obtain⟨U,s5,n5,E,V⟩:=K c3;clear K L M;have a0:=xW l (skip l o+1);have y:=jO l (skip l o+1) (by omega)
      have:=hO J U d (skip l (skip l o+1)) (acc++[(s,v)]) n5 (.inr s5) hd y (ul l _) (by omega) (by omega)
      exact this.of_eq (by omega) (A.trans V)
     rw[if_neg c3]
     by_cases c4:ze l (skip l o)=125
     ·rw[if_pos c4];obtain⟨U,t5,E,V⟩:=L c4;clear K L M;exact⟨by omega,by omega,U,t5,A.trans V⟩
     rw[if_neg c4];exact Fails.of_eq (M c3 c4) A
   ·rw[if_pos c2];rw[if_neg (by omega),if_pos (.inl u)] at b;exact Fails.of_eq (uq l j (skip l q) G (.inl (by omega)) 2 (by decide) (by rw[b]) (λ_=>rfl)) H
 ·rw[if_pos c0];rw[if_pos (by omega)] at n;exact uq l m p hp (.inr X.ne) 2 (by decide) (by rw[n]) (λ_=>rfl)
theorem Rs(l:List UInt8)(f:Nat)(U:AL l f)(V:AO l f):AV l (f+1):=by
 intro m d p Y F hd J W H hf;rw[zR];have a:=Oj m (ze l p) Y W H;unfold Ja at a;have v:Inc m := .inl (by omega)
 by_cases c1:ze l p=123
 ·rw[if_pos c1];rw[if_pos (by omega)] at a
  by_cases c2:8<d
  ·rw[if_pos c2];rw[if_pos (by omega)] at a;exact uq l m p J v 3 (by decide) (by rw[a]) (λh=>by omega)
  rw[if_neg c2];rw[if_neg (by omega)] at a;simp only at a;rw[if_neg (by omega),if_neg (by omega)] at a;have n:=zW l p (by omega);have B:=qZ l m _ p n a;obtain⟨c,g⟩:∃c:zh,c={ (lay { m with state:=3 } { kind:=1,text:=⟨#[]⟩,names:=[],kids:=[] }) with opn:=m.opn++[m.nodes.length] }:=⟨_,rfl⟩
  rw[<- g] at B;have o:qp m c 1 [] []:=gB m c { kind:=1,text:=⟨#[]⟩,names:=[],kids:=[] } F (by rw[g]) (by rw[g];exact (YB m { m with state:=3 } rfl rfl rfl _).1) (by rw[g];exact (YB m { m with state:=3 } rfl rfl rfl _).2) rfl
  have y:c.state=3:=by rw[g];exact fq _ _
  have k:=B.trans (QE l c (by omega) (p+1));have K:=xW l (p+1);have z:=jO l (p+1) (by omega)
  by_cases c3:ze l (skip l (p+1))=125
  ·rw[if_pos c3];have i:=step_end c (ze l (skip l (p+1))) (.inr ⟨y,c3⟩);rw[c3] at i;have e:vG c ((125:Nat):Int)=_:=cz o;rw[e] at i;have x:=zW l (skip l (p+1)) (by omega);have D:=k.trans (qZ l c _ (skip l (p+1)) x (by rw[c3];exact i));refine⟨by omega,by omega,_,?_,D⟩;exact mX (ms:=[]) o rfl rfl rfl rfl
  rw[if_neg c3]
  have:=V m c d (skip l (p+1)) [] o (.inl y) hd z (ul l _) (by omega) (by omega)
  exact this.of_eq (by omega) k
 rw[if_neg c1]
 by_cases c2:ze l p=91
 ·rw[if_pos c2];rw[if_pos (by omega)] at a
  by_cases c3:8<d
  ·rw[if_pos c3];rw[if_pos (by omega)] at a;exact uq l m p J v 3 (by decide) (by rw[a]) (λh=>by omega)
  rw[if_neg c3];rw[if_neg (by omega)] at a;simp only at a;rw[if_pos (by omega),if_pos (by omega)] at a;have n:=zW l p (by omega);have B:=qZ l m _ p n a;obtain⟨c,g⟩:∃c:zh,c={ (lay { m with state:=2 } { kind:=2,text:=⟨#[]⟩,names:=[],kids:=[] }) with opn:=m.opn++[m.nodes.length] }:=⟨_,rfl⟩
  rw[<- g] at B;have o:qp m c 2 [] []:=gB m c { kind:=2,text:=⟨#[]⟩,names:=[],kids:=[] } F (by rw[g]) (by rw[g];exact (YB m { m with state:=2 } rfl rfl rfl _).1) (by rw[g];exact (YB m { m with state:=2 } rfl rfl rfl _).2) rfl
  have y:c.state=2:=by rw[g];exact fq _ _
  have k:=B.trans (QE l c (by omega) (p+1));have K:=xW l (p+1);have z:=jO l (p+1) (by omega)
  by_cases c4:ze l (skip l (p+1))=93
  ·rw[if_pos c4];have i:=step_end c (ze l (skip l (p+1))) (.inl ⟨y,c4⟩);rw[c4] at i;have e:vG c ((93:Nat):Int)=_:=cu o;rw[e] at i;have x:=zW l (skip l (p+1)) (by omega);have D:=k.trans (qZ l c _ (skip l (p+1)) x (by rw[c4];exact i));refine⟨by omega,by omega,_,?_,D⟩;exact mW o rfl rfl rfl rfl
  rw[if_neg c4]
  have:=U m c d (skip l (p+1)) [] o (.inr y) hd z (ul l _) (by omega) (by omega)
  exact this.of_eq (by omega) k
 rw[if_neg c2];rw[if_neg (by omega)] at a
 by_cases c3:ze l p=34
 ·rw[if_pos c3];rw[if_pos (by omega)] at a;have n:=zW l p (by omega);have B:=qZ l m _ p n a;have t:=Kn l { m with state:=8,named:=false,got:=⟨#[]⟩ } (p+1) (by omega) rfl rfl
  cases G:jb l (p+1) with
  | err e q=>rw[G] at t;exact Fails.of_eq t B
  | ok s q=>
   rw[G] at t;obtain⟨h1,S,T,c,⟨k1,M,k3,k4,k5,k6⟩,X⟩:=t;simp only
   have A:Ref.step c (ze l (q-1):Int)=closed c:=by
    rw[Vd c _ k1,T];unfold plain;rw[if_pos (by decide)]
   unfold closed at A;rw[if_pos (by rw[k4])] at A;have k:=qZ l c _ (q-1) (by omega) A;rw[show q-1+1=q by omega] at k;refine⟨by omega,S,_,?_,(B.trans X).trans k⟩;have I:=YB m c M k3 k5 { kind:=3,text:=c.got,names:=[],kids:=[] };refine mV m _ { kind:=3,text:=c.got,names:=[],kids:=[] } _ F rfl ?_ I.1 I.2 ?_
   ·show (lay c _).opn=_;rw[eZ,M]
   ·show Rep (lay c _).nodes _ _;rw[I.1];exact .str _ _ s (UC m _ F) rfl k6 rfl rfl
 rw[if_neg c3];rw[if_neg (by omega)] at a
 have j:∀(E:Bool) (w:BA) (r:List Nat),r≠[]->w.data.toList.map UInt8.toNat=r->(∀b ∈ r,b≠0)->p<l.length ->
   Ref.step m (ze l p:Int)=(0,{ lay m { kind:=if E then 4 else 5,text:=⟨#[]⟩,names:=[],kids:=[] } with state:=7,word:=w }) ->
   QO l m m p (match zP l r (p+1) with | .ok _ q => .ok (.word E) q | .err e q => .err e q):=by
  intro E w r G Z hz n a;have B:=qZ l m _ p n a;have C:=RI l r { lay m { kind:=if E then 4 else 5,text:=⟨#[]⟩,names:=[],kids:=[] } with state:=7,word:=w } (p+1) (by omega) G rfl Z hz
  cases hr2:zP l r (p+1) with
  | err e q=>rw[hr2] at C;exact Fails.of_eq C B
  | ok u q=>
   rw[hr2] at C;obtain⟨g1,N,c,O,P,L,Q,R⟩:=C;refine⟨by omega,N,c,?_,B.trans R⟩;refine mV m c { kind:=if E then 4 else 5,text:=⟨#[]⟩,names:=[],kids:=[] } _ F O (by rw[P];exact eZ _ _) L Q ?_
   rw[L];exact .word _ _ E (UC m _ F) rfl rfl rfl
 by_cases c4:ze l p=116
 ·rw[if_pos c4];rw[if_pos (by omega)] at a;exact j true ⟨#[114,117,101]⟩ [114,117,101] (by decide) (by decide) (by decide) (zW l p (by omega)) a
 rw[if_neg c4];rw[if_neg (by omega)] at a
 by_cases c5:ze l p=102
 ·rw[if_pos c5];rw[if_pos (by omega)] at a;exact j false ⟨#[97,108,115,101]⟩ [97,108,115,101] (by decide) (by decide) (by decide) (zW l p (by omega)) a
 rw[if_neg c5];rw[if_neg (by omega)] at a;exact uq l m p J v 2 (by decide) (by rw[a]) (λ_=>rfl)
theorem oC(l:List UInt8)(f:Nat):AV l f/\AL l f/\AO l f:=by
 induction f with
 | zero=>exact⟨λm d p _ _ _ _ _ _ h=>by omega,λb m d p acc _ _ _ _ _ _ h=>by omega,λb m d p acc _ _ _ _ _ _ h=>by omega⟩
 | succ f a=>exact⟨Rs l f a.2.1 a.2.2,Gf l f a.1 a.2.1,Ib l f a.1 a.2.2⟩
def xN(l:List UInt8):Res V:=match zR l (2*l.length+1) 1 (skip l 0) with
 | .err e q => .err e q
 | .ok v q=>if skip l q<l.length then .err 2 (skip l q) else .ok v (skip l q)
def jR(t:BA):List Value:=t.data.toList.map λc => .int .u8 (c.toNat:Int)
theorem byte_of(x:Int)(a:0<=x)(b:x<256):((UInt8.ofNat x.toNat).toNat:Int)=x:=by
 rw[UInt8.toNat_ofNat'];omega
theorem MU(n:Int)(a:0<=n)(b:n<=65535)(c:¬(55296<=n/\n<=57343)):Lib.runeCells n=jR (enc n):=by
 unfold Lib.runeCells jR enc
 by_cases c1:n<128
 ·rw[if_pos c1,Lib.encodeRuneZ_one a (by omega)];unfold one;simp only[List.map_cons,List.map_nil];rw[byte_of n a (by omega)]
 by_cases c2:n<2048
 ·rw[if_neg c1,if_pos c2,Lib.encodeRuneZ_two (by omega) (by omega)];simp only[List.map_cons,List.map_nil];rw[byte_of (192+n / 64) (by omega) (by omega),byte_of (128+n % 64) (by omega) (by omega)]
 ·rw[if_neg c1,if_neg c2,Lib.encodeRuneZ_three (by omega)];simp only[List.map_cons,List.map_nil];rw[byte_of (224+n / 4096) (by omega) (by omega),byte_of (128+n / 64 % 64) (by omega) (by omega),byte_of (128+n % 64) (by omega) (by omega)]
theorem VI(a b:BA):jR (a++b)=jR a++jR b:=by
 unfold jR;simp
theorem rW(a:BA):(jR a).length=a.size:=by
 unfold jR;rw[List.length_map,zB]
def vk(k:Nat):Nat:=[194,224,225,237,238,240,241,244].getD k 0
def vM(k:Nat):Nat:=[223,224,236,237,239,240,243,244].getD k 0
def kW(k:Nat):Nat:=[1,2,2,2,2,3,3,3].getD k 0
def Z9(k:Nat):Nat:=[128,160,128,128,128,144,128,128].getD k 0
def Qx(k:Nat):Nat:=[191,191,191,159,191,191,191,143].getD k 0
theorem lt8{k:Nat}(h:k<8):k=0\/k=1\/k=2\/k=3\/k=4\/k=5\/k=6\/k=7:=by omega
theorem J9(k:Nat)(a:k<8):128<=vk k/\vk k<256/\vM k<256/\1<=kW k/\kW k<=3/\0<Z9 k/\Z9 k<256/\Qx k<256:=by
 rcases lt8 a with rfl|rfl|rfl|rfl|rfl|rfl|rfl|rfl<;>decide
theorem UD(b k:Nat)(d:k<8)(a:vk k<=b)(c:b<=vM k):qa (b:Int)=((kW k:Int),(Z9 k:Int),(Qx k:Int)):=by
 unfold qa
 rcases lt8 d with rfl|rfl|rfl|rfl|rfl|rfl|rfl|rfl<;>simp[vk,vM,kW,Z9,Qx] at a c |-<;>(repeat' split)<;>first|rfl|omega
theorem FU(b:Nat)(h:∀k,k<8->b<vk k\/vM k<b):qa (b:Int)=(0,0,0):=by
 have a:=h 0 (by omega);have c:=h 1 (by omega);have d:=h 2 (by omega);have e:=h 3 (by omega);have f:=h 4 (by omega);have g:=h 5 (by omega);have i:=h 6 (by omega);have j:=h 7 (by omega);simp[vk,vM] at a c d e f g i j;unfold qa
 repeat' split
 all_goals first|rfl|omega
def piece(l:List UInt8)(p q:Nat):BA:=⟨((l.drop p).take (q-p)).toArray⟩
theorem Nq(l:List UInt8)(p:Nat)(h:qa (ze l p:Int)=(0,0,0)):yN l p = .err 2 p:=by
 unfold yN;simp only;rw[h];rfl
def Vk(l:List UInt8)(p j:Nat):Prop:=∀i,i<j->within l 128 191 (p+2+i)=true
theorem iJ(l:List UInt8)(p:Nat)(h:p<l.length):one (ze l p:Int)=⟨#[l[p]]⟩:=by
 unfold one;rw[U2 l p h]
 simp
theorem Vp(l:List UInt8)(a b p:Nat)(c:0<a)(h:within l a b p=true):p<l.length:=by
 unfold within at h;simp at h;exact zW l p (by omega)
theorem Lu(l:List UInt8)(p:Nat)(h:p<l.length):piece l p (p+1)=one (ze l p:Int):=by
 rw[iJ l p h]
 have e:(l.drop p).take (p+1-p)=[l[p]]:=by
  rw[List.drop_eq_getElem_cons h,show p+1-p=1 by omega];rfl
 unfold piece;rw[e]
theorem piece_more(l:List UInt8)(p q:Nat)(a:p<=q)(h:q<l.length):piece l p (q+1)=piece l p q++one (ze l q:Int):=by
 rw[iJ l q h];unfold piece;rw[show q+1-p=(q-p)+1 by omega,List.take_add_one]
 have:(l.drop p)[q-p]?=some l[q]:=by
  rw[List.getElem?_drop,show p+(q-p)=q by omega,List.getElem?_eq_getElem h]
 rw[this];apply ByteArray.ext;simp[ByteArray.data_append]
theorem NF(l:List UInt8)(p k:Nat)(a:k<8)(b:vk k<=ze l p)(c:ze l p<=vM k)(d:within l (Z9 k) (Qx k) (p+1)=false):yN l p = .err 2 (p+1):=by
 have e:=J9 k a;unfold yN;simp only;rw[UD _ k a b c,if_neg (by simp;omega)];simp only[Int.toNat_natCast];rw[if_pos d]
theorem NH(l:List UInt8)(p k j:Nat)(b:k<8)(c:vk k<=ze l p)(d:ze l p<=vM k)(h:within l (Z9 k) (Qx k) (p+1)=true)(f:Vk l p j)(g:j+1<kW k)(a:within l 128 191 (p+2+j)=false):yN l p = .err 2 (p+2+j):=by
 have e:=J9 k b;unfold yN;simp only;rw[UD _ k b c d,if_neg (by simp;omega)];simp only[Int.toNat_natCast];rw[if_neg (by rw[h];decide),if_neg (by omega)]
 match j with
 | 0=>rw[if_pos (by simpa using a)]
 | 1=>
  have:=f 0 (by omega)
  rw[if_neg (by rw[show p+2=p+2+0 by omega,this];decide),if_neg (by omega),if_pos (by simpa using a)]
 | j+2=>omega
theorem Np(l:List UInt8)(p k:Nat)(e:k<8)(h:vk k<=ze l p)(i:ze l p<=vM k)(f:within l (Z9 k) (Qx k) (p+1)=true)(c:Vk l p (kW k-1)):yN l p = .ok (piece l p (p+1+kW k)) (p+1+kW k):=by
 have j:=J9 k e;have q:p<l.length:=zW l p (by omega);have r:=Vp l _ _ _ (by omega) f;unfold yN;simp only;rw[UD _ k e h i,if_neg (by simp;omega)];simp only[Int.toNat_natCast];rw[if_neg (by rw[f];decide)]
 have d:piece l p (p+2)=one (ze l p:Int)++one (ze l (p+1):Int):=by
  rw[piece_more l p (p+1) (by omega) r,Lu l p q]
 obtain⟨n,o⟩:=Nm (kW k);rw[o] at c j |-;have m:n=1\/n=2\/n=3:=by omega
 rcases m with rfl|rfl|rfl
 ·rw[if_pos (by simp),d]
 ·have a:=c 0 (by omega);have b:=Vp l _ _ _ (by omega) a;simp only[Nat.add_zero] at a b;rw[if_neg (by simp),if_neg (by rw[a];decide),if_pos (by simp),piece_more l p (p+2) (by omega) b,d]
 ·have a:=c 0 (by omega);have g:=c 1 (by omega);have b:=Vp l _ _ _ (by omega) a;have s:=Vp l _ _ _ (by omega) g;simp only[Nat.add_zero] at a b;rw[if_neg (by simp),if_neg (by rw[a];decide),if_neg (by simp),if_neg (by rw[show p+3=p+2+1 by omega,g];decide),piece_more l p (p+3) (by omega) s,piece_more l p (p+2) (by omega) b,d]
def Res.to{α:Type}:Res α->Nat
 | .ok _ q=>q
 | .err _ q=>q
theorem YH(n:Int):(one n).size=1:=rfl
theorem bY(n:Int):(enc n).size<=3:=by
 unfold enc
 split
 ·rw[YH];omega
 split
 ·exact (by decide:2<=3)
 ·exact (by decide:3<=3)
theorem Ct{l:List UInt8}{p q:Nat}{u:BA}(h:jF l p = .ok u q):q=p+4/\u.size<=3:=by
 unfold jF at h;simp only at h
 repeat' split at h
 all_goals first|(cases h;done)|(injection h with h1 h2;subst h1;exact⟨h2.symm,bY _⟩)
theorem BH{l:List UInt8}{p q:Nat}{u:BA}(h:yX l p = .ok u q):p<q/\u.size<=q-p:=by
 unfold yX at h;simp only at h
 repeat' split at h
 all_goals first
  | (cases h;done)
  | (injection h with h1 h2;subst h1;rw[YH];omega)
  | (have:=Ct h;omega)
theorem Nl{l:List UInt8}{p q:Nat}{u:BA}(h:yN l p = .ok u q):p<q/\u.size<=q-p:=by
 unfold yN at h;simp only at h
 repeat' split at h
 all_goals first
  | (cases h;done)
  | (injection h with h1 h2;subst h1;simp only[ByteArray.size_append,YH];omega)
theorem aY{l:List UInt8}{p q:Nat}{u:BA}(h:xw l p = .ok u q):p<q/\u.size<=q-p:=by
 unfold xw at h;simp only at h
 repeat' split at h
 all_goals first
  | (cases h;done)
  | (injection h with h1 h2;subst h1;rw[YH];omega)
  | (have:=BH h;omega)
  | exact Nl h
theorem Pj{l:List UInt8}{f p q:Nat}{acc u:BA}(a:ze l p≠34)(h:xw l p = .ok u q):qh l (f+1) p acc=qh l f q (acc++u):=by
 rw[qh,if_neg a,h]
theorem Pi{l:List UInt8}{f p q:Nat}{acc:BA}{c:Int}(a:ze l p≠34)(h:xw l p = .err c q):qh l (f+1) p acc = .err c q:=by
 rw[qh,if_neg a,h]
theorem Ph{l:List UInt8}{f p:Nat}{acc:BA}(a:ze l p=34):qh l (f+1) p acc = .ok acc (p+1):=by
 rw[qh,if_pos a]
def xM(l:List UInt8)(p:Nat):Res BA:=if ze l p=34 then jb l (p+1) else .err 2 p
theorem iU(l:List UInt8)(p:Nat):zP l [34] p=if ze l p=34 then .ok () (p+1) else .err 2 p:=by
 simp only[zP]
theorem NI{l:List UInt8}{p q:Nat}{c:Int}(h:yN l p = .err c q):c=2:=by
 unfold yN at h;simp only at h
 repeat' split at h
 all_goals first|(cases h;done)|(injection h with h1 h2;exact h1.symm)
theorem Cy{l:List UInt8}{p q:Nat}{c:Int}(h:jF l p = .err c q):c=2:=by
 unfold jF at h;simp only at h
 repeat' split at h
 all_goals first|(cases h;done)|(injection h with h1 h2;exact h1.symm)
theorem BK{l:List UInt8}{p q:Nat}{c:Int}(h:yX l p = .err c q):c=2:=by
 unfold yX at h;simp only at h
 repeat' split at h
 all_goals first
  | (cases h;done)
  | (injection h with h1 h2;exact h1.symm)
  | exact Cy h
theorem sO{l:List UInt8}{p q:Nat}{c:Int}(h:xw l p = .err c q):c=2:=by
 unfold xw at h;simp only at h
 repeat' split at h
 all_goals first
  | (cases h;done)
  | (injection h with h1 h2;exact h1.symm)
  | exact BK h
  | exact NI h
theorem Vg{l:List UInt8}:∀{f p q:Nat} {acc:BA} {c:Int},qh l f p acc = .err c q->c=2
 | 0,p,q,acc,c,h=>by rw[qh] at h;injection h with h1 h2;exact h1.symm
 | f+1,p,q,acc,c,h=>by
  rw[qh] at h
  split at h
  ·cases h
  cases hc:xw l p with
  | ok u a=>rw[hc] at h;exact Vg h
  | err b a=>rw[hc] at h;injection h with h1 h2;rw[<- h1];exact sO hc
theorem iR{l:List UInt8}{p q:Nat}{c:Int}(h:xM l p = .err c q):c=2:=by
 unfold xM at h
 split at h
 ·exact Vg h
 ·injection h with h1 h2;exact h1.symm
theorem YX{l:List UInt8}:∀{r:List Nat} {p q:Nat} {c:Int},zP l r p = .err c q->c=2
 | [],p,q,c,h=>by rw[zP] at h;cases h
 | b::r,p,q,c,h=>by
  rw[zP] at h
  split at h
  ·exact YX h
  ·injection h with h1 h2;exact h1.symm
def yI{α:Type}(l:List UInt8)(d:Nat->α->Nat->Res α)(e:Nat):Nat->α->Nat->Res α
 | 0,_,p => .err 2 p
 | f+1,a,p=>match d f a p with
  | .err c q => .err c q
  | .ok b q=>
   if ze l (skip l q)=44 then yI l d e f b (skip l (skip l q+1))
   else if ze l (skip l q)=e then .ok b (skip l q+1)
   else .err 2 (skip l q)
def jG{α:Type}(l:List UInt8)(b:Nat->α->Nat->Res α)(e:Nat)(f d:Nat)(a:α)(p:Nat):Res α:=
 if 8<d then .err 3 p
 else if ze l (skip l (p+1))=e then .ok a (skip l (p+1)+1)
 else yI l b e f a (skip l (p+1))
def Res.map{α β:Type}(g:α->β):Res α->Res β
 | .ok a q => .ok (g a) q
 | .err c q => .err c q
def stL(l:List UInt8)(d:Nat)(f:Nat)(acc:List V)(q:Nat):Res (List V):=match zR l f (d+1) q with
 | .ok v a => .ok (acc++[v]) a
 | .err c a => .err c a
def Zo(l:List UInt8)(d:Nat)(f:Nat)(acc:List (BA×V))(q:Nat):Res (BA×V):=match xM l q with
 | .err c b => .err c b
 | .ok s b=>
  if acc.any (λx=>x.1.toList==s.toList) then .err 4 (b-1)
  else if ze l (skip l b)≠58 then .err 2 (skip l b)
  else match zR l f (d+1) (skip l (skip l b+1)) with
  | .err c a => .err c a
  | .ok v a => .ok (s,v) a
def stO(l:List UInt8)(d:Nat)(f:Nat)(acc:List (BA×V))(q:Nat):Res (List (BA×V)):=match Zo l d f acc q with
 | .ok m a => .ok (acc++[m]) a
 | .err c a => .err c a
theorem fE(l:List UInt8)(d:Nat):∀(f p:Nat) (acc:List V),jI l f d p acc=(yI l (stL l d) 93 f acc p).map .list
 | 0,p,acc=>by rw[jI,yI,Res.map]
 | f+1,p,acc=>by
  rw[jI,yI,stL]
  cases hv:zR l f (d+1) p with
  | err c q=>rfl
  | ok v q=>
   simp only
   split
   ·exact fE l d f _ _
   split
   ·rfl
   ·rfl
theorem gP(l:List UInt8)(d:Nat):∀(f p:Nat) (acc:List (BA×V)),jJ l f d p acc=(yI l (stO l d) 125 f acc p).map .obj
 | 0,p,acc=>by rw[jJ,yI,Res.map]
 | f+1,p,acc=>by
  rw[jJ,yI,stO,Zo,xM]
  by_cases h:ze l p=34
  ·rw[if_neg (by simp[h]),if_pos h]
   cases hs:jb l (p+1) with
   | err c q=>rfl
   | ok s q=>
    simp only
    by_cases ht:acc.any (λx=>x.1.toList==s.toList)=true
    ·rw[if_pos ht,if_pos ht];rfl
    rw[if_neg ht,if_neg ht]
    by_cases h58:ze l (skip l q)≠58
    ·rw[if_pos h58,if_pos h58];rfl
    rw[if_neg h58,if_neg h58]
    cases hv:zR l f (d+1) (skip l (skip l q+1)) with
    | err c a=>rfl
    | ok v a=>
     simp only
     split
     ·exact gP l d f _ _
     split
     ·rfl
     ·rfl
  ·rw[if_pos h,if_neg h];rfl
theorem Ro(l:List UInt8)(f d p:Nat)(h:ze l p=91):zR l (f+1) d p=(jG l (stL l d) 93 f d [] p).map .list:=by
 rw[zR,if_neg (by omega),if_pos h];unfold jG
 split
 ·rfl
 split
 ·rfl
 ·exact fE l d f _ _
theorem Rq(l:List UInt8)(f d p:Nat)(h:ze l p=123):zR l (f+1) d p=(jG l (stO l d) 125 f d [] p).map .obj:=by
 rw[zR,if_pos h];unfold jG
 split
 ·rfl
 split
 ·rfl
 ·exact gP l d f _ _
theorem Ru(l:List UInt8)(f d p:Nat)(h:ze l p=34):zR l (f+1) d p=(xM l p).map .str:=by
 rw[zR,if_neg (by omega),if_neg (by omega),if_pos h,xM,if_pos h]
 cases jb l (p+1)<;>rfl
theorem Rv(l:List UInt8)(f d p:Nat)(h:ze l p=116):zR l (f+1) d p=(zP l [116,114,117,101] p).map (λ_ => .word true):=by
 rw[zR,if_neg (by omega),if_neg (by omega),if_neg (by omega),if_pos h]
 conv=>rhs;rw[zP,if_pos h]
 cases zP l [114,117,101] (p+1)<;>rfl
theorem Rn(l:List UInt8)(f d p:Nat)(h:ze l p=102):zR l (f+1) d p=(zP l [102,97,108,115,101] p).map (λ_ => .word false):=by
 rw[zR,if_neg (by omega),if_neg (by omega),if_neg (by omega),if_neg (by omega),if_pos h]
 conv=>rhs;rw[zP,if_pos h]
 cases zP l [97,108,115,101] (p+1)<;>rfl
theorem Rp(l:List UInt8)(f d p:Nat)(a:ze l p≠123)(b:ze l p≠91)(c:ze l p≠34)(e:ze l p≠116)(g:ze l p≠102):zR l (f+1) d p = .err 2 p:=by
 rw[zR,if_neg a,if_neg b,if_neg c,if_neg e,if_neg g]
def V8(d:Nat):zh:={ init with opn:=List.replicate (d-1) 0,nodes:=[⟨2,⟨#[]⟩,[],[]⟩] }
theorem Vo{l:List UInt8}{f d p q:Nat}{v:V}(hd:1<=d)(g:p<=l.length)(b:blank (ze l p)=false)(c:2*(l.length-p)<f)(h:zR l f d p = .ok v q):p<q/\q<=l.length:=by
 have:=(oC l f).1 (V8 d) d p (.inl rfl) (λo e=>by
  have:o=0:=List.eq_of_mem_replicate e
  rw[this];exact Nat.zero_lt_one) (by simp[V8];omega) g b (λh=>by have a:=h.1;simp[V8,init] at a) c
 rw[h] at this;exact⟨this.1,this.2.1⟩
theorem mJ{l:List UInt8}:∀{f p q:Nat} {acc t:BA},qh l f p acc = .ok t q->p<q/\t.size<=acc.size+(q-p)
 | 0,p,q,acc,t,h=>by rw[qh] at h;cases h
 | f+1,p,q,acc,t,h=>by
  rw[qh] at h
  split at h
  ·injection h with a b;subst a;omega
  cases hc:xw l p with
  | ok u c=>
   rw[hc] at h;have a:=aY hc;have b:=mJ (acc:=acc++u) h;rw[ByteArray.size_append] at b;omega
  | err d c=>rw[hc] at h;cases h
theorem JX{l:List UInt8}{p q:Nat}{t:BA}(h:xM l p = .ok t q):p+1<q/\t.size<=q:=by
 unfold xM jb at h
 split at h
 ·have:=mJ h
  have e:(ByteArray.mk #[]).size=0:=rfl;omega
 ·cases h
theorem JY{l:List UInt8}{p q:Nat}{t:BA}(h:xM l p = .ok t q):q<=l.length:=by
 unfold xM at h
 split at h
 ·rename_i a;have b:=zW l p (by omega)
  have:=Kn l { init with state:=8,got:=⟨#[]⟩ } (p+1) (by omega) rfl rfl
  rw[h] at this;exact this.2.1
 ·cases h
end Rd
end Go.Proofs.YtdakgnaojakldabGreatDoor
