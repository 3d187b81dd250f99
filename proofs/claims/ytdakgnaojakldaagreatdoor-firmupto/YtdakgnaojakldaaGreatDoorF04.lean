/- P -/
import Derived.Test.YtdakgnaojakldaaGreatDoorF03
import Derived.Lib.RuneBytes
set_option maxRecDepth 100000
namespace Go.Proofs.YtdakgnaojakldaaGreatDoor
namespace Rd
open Ref
def ze(l:List UInt8)(p:Nat):Nat:=(l.getD p 0).toNat
inductive Res (α:Type) where
 | ok (v:α) (p:Nat)
 | err (e:Int) (p:Nat)
def verdict(l:List UInt8)(m:zg)(p:Nat):Int×Nat×zg:=
 if (Ref.run m (l.drop p) p).1≠0 then Ref.run m (l.drop p) p
 else if (Ref.run m (l.drop p) p).2.2.state≠6\/(Ref.run m (l.drop p) p).2.2.opn≠[] then (2,l.length,(Ref.run m (l.drop p) p).2.2)
 else Ref.run m (l.drop p) p
def Inc(m:zg):Prop:=m.state≠6\/m.opn≠[]
def Fails(l:List UInt8)(m:zg)(p:Nat)(e:Int)(q:Nat):Prop:=(verdict l m p).1=e/\(verdict l m p).2.1=q
theorem KN(l:List UInt8)(p:Nat)(h:p<l.length):ze l p=l[p].toNat:=by
 unfold ze;rw[List.getD_eq_getElem?_getD,List.getElem?_eq_getElem h];rfl
theorem Vv(l:List UInt8)(p:Nat)(h:¬p<l.length):ze l p=0:=by
 unfold ze;rw[List.getD_eq_getElem?_getD,List.getElem?_eq_none (by omega)];rfl
theorem zU(l:List UInt8)(p:Nat)(h:ze l p≠0):p<l.length:=by
 rcases Nat.lt_or_ge p l.length with h1|h1
 ·exact h1
 ·exact absurd (Vv l p (by omega)) h
theorem Ze(l:List UInt8)(p:Nat):ze l p<256:=UInt8.toNat_lt _
theorem K3(l:List UInt8)(m:zg)(p:Nat)(h:p<l.length):Ref.run m (l.drop p) p=if (Ref.step m (ze l p:Int)).1=0 then Ref.run (Ref.step m (ze l p:Int)).2 (l.drop (p+1)) (p+1) else ((Ref.step m (ze l p:Int)).1,p,m):=by
 rw[List.drop_eq_getElem_cons h,Ref.run,KN l p h]
theorem xe(l:List UInt8)(m m':zg)(p:Nat)(h:p<l.length)(a:Ref.step m (ze l p:Int)=(0,m')):verdict l m p=verdict l m' (p+1):=by
 have e:Ref.run m (l.drop p) p=Ref.run m' (l.drop (p+1)) (p+1):=by rw[K3 l m p h,a];rfl
 unfold verdict;rw[e]
theorem uI(l:List UInt8)(m:zg)(p:Nat)(j:p<=l.length)(hi:Inc m)(e:Int)(d:e≠0)(f:(Ref.step m (ze l p:Int)).1=e)(i:ze l p=0->e=2):Fails l m p e p:=by
 by_cases h:p<l.length
 ·have a:Ref.run m (l.drop p) p=(e,p,m):=by
   rw[K3 l m p h,if_neg (by rw[f];exact d),f]
  unfold Fails verdict;rw[a,if_pos d];exact⟨rfl,rfl⟩
 ·have g:=i (Vv l p h);have c:p=l.length:=by omega
  have a:Ref.run m (l.drop p) p=(0,p,m):=by rw[List.drop_of_length_le (by omega),Ref.run]
  unfold Fails verdict;have b:(0,p,m).2.2.state≠6\/(0,p,m).2.2.opn≠[]:=hi;rw[a,if_neg (by simp),if_pos b,g,c];exact⟨rfl,rfl⟩
theorem Fails.of_eq{l:List UInt8}{m m':zg}{p a:Nat}{e:Int}{q:Nat}(h:Fails l m' a e q)(b:verdict l m p=verdict l m' a):Fails l m p e q:=by
 unfold Fails at *;rw[b];exact h
def blank(b:Nat):Bool:=b==32||b==9||b==10||b==13
theorem YI(b:Nat):JH (b:Int)=blank b:=by
 unfold JH blank;rw[Bool.eq_iff_iff]
 simp
 omega
def VF(l:List UInt8):Nat->Nat->Nat
 | 0,p=>p
 | f+1,p=>if blank (ze l p) then VF l f (p+1) else p
def skip(l:List UInt8)(p:Nat):Nat:=VF l (l.length-p) p
theorem XN(l:List UInt8)(p:Nat)(h:blank (ze l p)=true):p<l.length:=by
 apply zU;intro e;rw[e] at h;exact absurd h (by decide)
theorem Zh(l:List UInt8)(p:Nat):skip l p=if blank (ze l p) then skip l (p+1) else p:=by
 unfold skip
 by_cases h:p<l.length
 ·obtain⟨k,a⟩:∃k,l.length-p=k+1:=⟨l.length-p-1,by omega⟩;rw[a,VF,show l.length-(p+1)=k by omega]
 ·have e:l.length-p=0:=by omega
  rw[e,VF,if_neg];intro hb;exact h (XN l p hb)
theorem PH(m:zg)(a:m.state<7)(b:Nat)(hb:blank b=true):Ref.step m (b:Int)=(0,m):=by
 rw[Jj m _ a,YI,hb,if_pos rfl]
theorem QY(l:List UInt8)(m:zg)(a:m.state<7)(p:Nat):verdict l m p=verdict l m (skip l p):=by
 generalize c:l.length-p=n
 induction n generalizing p with
 | zero=>
  rw[Zh,if_neg];intro hb
  have:=XN l p hb
  omega
 | succ n b=>
  rw[Zh]
  by_cases hb:blank (ze l p)=true
  ·rw[if_pos hb,<- b (p+1) (by omega)];exact xe l m m p (by omega) (PH m a _ hb)
  ·rw[if_neg hb]
theorem yf(l:List UInt8)(p:Nat):p<=skip l p:=by
 generalize b:l.length-p=n
 induction n generalizing p with
 | zero=>rw[Zh];split<;>rename_i h<;>first|(have:=XN l p h;omega)|omega
 | succ n a=>
  rw[Zh]
  split
  ·have:=a (p+1) (by omega);omega
  ·omega
theorem jT(l:List UInt8)(p:Nat)(c:p<=l.length):skip l p<=l.length:=by
 generalize b:l.length-p=n
 induction n generalizing p with
 | zero=>rw[Zh];split<;>rename_i h<;>first|(have:=XN l p h;omega)|omega
 | succ n a=>
  rw[Zh]
  split
  ·exact a (p+1) (by omega) (by omega)
  ·omega
theorem uC(l:List UInt8)(p:Nat):blank (ze l (skip l p))=false:=by
 generalize b:l.length-p=n
 induction n generalizing p with
 | zero=>
  rw[Zh]
  split
  ·rename_i h;have:=XN l p h;omega
  ·rename_i h;simpa using h
 | succ n a=>
  rw[Zh]
  split
  ·exact a (p+1) (by omega)
  ·rename_i h;simpa using h
def Within(m m':zg)(g:BA):Prop:=m'.state=8/\m'.opn=m.opn/\m'.nodes=m.nodes/\m'.named=m.named/\m'.root=m.root/\m'.got=m.got++g
def within(l:List UInt8)(lo hi p:Nat):Bool:=decide (lo<=ze l p/\ze l p<=hi)
def yT(l:List UInt8)(p:Nat):Res BA:=
 let r:=zY (ze l p:Int)
 if r.1=0 then .err 2 p
 else if within l r.2.1.toNat r.2.2.toNat (p+1)=false then .err 2 (p+1)
 else if r.1=1 then .ok (one (ze l p)++one (ze l (p+1))) (p+2)
 else if within l 128 191 (p+2)=false then .err 2 (p+2)
 else if r.1=2 then .ok (one (ze l p)++one (ze l (p+1))++one (ze l (p+2))) (p+3)
 else if within l 128 191 (p+3)=false then .err 2 (p+3)
 else .ok (one (ze l p)++one (ze l (p+1))++one (ze l (p+2))++one (ze l (p+3))) (p+4)
def jL(l:List UInt8)(p:Nat):Res BA:=
 let a:=zC (ze l p)
 let b:=zC (ze l (p+1))
 let c:=zC (ze l (p+2))
 let d:=zC (ze l (p+3))
 if a<0 then .err 2 p
 else if b<0\/(a=13/\8<=b) then .err 2 (p+1)
 else if c<0 then .err 2 (p+2)
 else if d<0 then .err 2 (p+3)
 else .ok (enc (((a*16+b)*16+c)*16+d)) (p+4)
def jb(l:List UInt8)(p:Nat):Res BA:=
 let b:=ze l p
 if b=34\/b=92\/b=47 then .ok (one b) (p+1)
 else if b=110 then .ok (one 10) (p+1)
 else if b=116 then .ok (one 9) (p+1)
 else if b=117 then jL l (p+1)
 else .err 2 p
def xy(l:List UInt8)(p:Nat):Res BA:=
 let b:=ze l p
 if b<32 then .err 2 p
 else if b=92 then jb l (p+1)
 else if b<128 then .ok (one b) (p+1)
 else yT l p
def aV(l:List UInt8)(m:zg)(p:Nat)(r:Res BA):Prop:=match r with
 | .ok s q=>p<q/\q<=l.length/\∃m',Within m m' s/\verdict l m p=verdict l m' q
 | .err e q=>Fails l m p e q
theorem Xl(b:Nat):zC (b:Int)<=15:=by
 unfold zC;repeat' split
 all_goals omega
theorem U6(l:List UInt8)(p:Nat)(h:0<=zC (ze l p)):p<l.length:=by
 apply zU;intro e;rw[e] at h;exact absurd h (by decide)
theorem K4(l:List UInt8)(m:zg)(p:Nat)(e:p<=l.length)(d:m.state=9)(lo hi:Nat)(c:m.low=lo)(b:m.high=hi)(f:0<lo) :
  (within l lo hi p=false->Fails l m p 2 p) /\
  (within l lo hi p=true->p<l.length/\verdict l m p=verdict l { m with got:=m.got++one (ze l p),low:=128,high:=191,need:=m.need-1,state:=if m.need-1=0 then 8 else 9 } (p+1)):=by
 constructor
 ·intro h;refine uI l m p e (.inl (by omega)) 2 (by decide) ?_ (λ_=>rfl);rw[K9 m _ d,c,b,if_pos];unfold within at h;simp at h;omega
 ·intro h;unfold within at h;simp at h;have a:p<l.length:=zU l p (by omega);refine⟨a,xe l m _ p a ?_⟩;rw[K9 m _ d,c,b,if_neg (by omega)]
theorem Hl(b:Nat):zY (b:Int)=(0,0,0)\/(128<=b/\∃n lo hi:Nat,zY (b:Int)=((n:Int),(lo:Int),(hi:Int))/\0<lo/\(n=1\/n=2\/n=3)):=by
 unfold zY
 split
 ·exact .inr ⟨by omega,1,128,191,rfl,by omega,by omega⟩
 split
 ·exact .inr ⟨by omega,2,160,191,rfl,by omega,by omega⟩
 split
 ·exact .inr ⟨by omega,2,128,159,rfl,by omega,by omega⟩
 split
 ·exact .inr ⟨by omega,2,128,191,rfl,by omega,by omega⟩
 split
 ·exact .inr ⟨by omega,3,144,191,rfl,by omega,by omega⟩
 split
 ·exact .inr ⟨by omega,3,128,191,rfl,by omega,by omega⟩
 split
 ·exact .inr ⟨by omega,3,128,143,rfl,by omega,by omega⟩
 exact .inl rfl
theorem Ua(a b c:BA):a++b++c=a++(b++c):=by
 apply ByteArray.ext;simp
theorem OA(l:List UInt8)(m:zg)(p:Nat)(q:m.state=8)(hb:128<=ze l p):aV l m p (yT l p):=by
 have o:p<l.length:=zU l p (by omega)
 have d:Ref.step m (ze l p:Int)=if (zY (ze l p:Int)).1=0 then (2,m) else (0,{ m with need:=(zY (ze l p:Int)).1,low:=(zY (ze l p:Int)).2.1,high:=(zY (ze l p:Int)).2.2,got:=m.got++one (ze l p),state:=9 }):=by
  rw[VG m _ q];unfold plain;rw[if_neg (by omega),if_neg (by omega),if_neg (by omega),if_neg (by omega)]
 unfold yT
 rcases Hl (ze l p) with h0|⟨_,n,lo,hi,hr,hlo,hn⟩
 ·rw[h0] at d |-;simp only[if_true];exact uI l m p (by omega) (.inl (by omega)) 2 (by decide) (by rw[d];rfl) (λ_=>rfl)
 ·rw[hr] at d |-;simp only[Int.toNat_natCast];rw[if_neg (by omega)] at d |-;have g:=xe l m _ p o d;obtain⟨e,a⟩:∃e:zg,e={ m with need:=(n:Int),low:=(lo:Int),high:=(hi:Int),got:=m.got++one (ze l p),state:=9 }:=⟨_,rfl⟩
  rw[<- a] at g;have i:=K4 l e (p+1) (by omega) (by rw[a]) lo hi (by rw[a]) (by rw[a]) hlo
  cases w1:within l lo hi (p+1) with
  | false=>rw[if_pos rfl];exact (i.1 w1).of_eq g
  | true=>
   rw[if_neg (by decide)];obtain⟨r,v1⟩:=i.2 w1;have v1:=g.trans v1
   by_cases n1:n=1
   ·rw[if_pos (by omega)];refine⟨by omega,by omega,_,?_,v1⟩;subst n1;rw[a];exact⟨rfl,rfl,rfl,rfl,rfl,by simp only;rw[Ua]⟩
   rw[if_neg (by omega)];obtain⟨f,b⟩:∃f:zg,f={ e with got:=e.got++one (ze l (p+1)),low:=128,high:=191,need:=e.need-1,state:=if e.need-1=0 then 8 else 9 }:=⟨_,rfl⟩
   rw[<- b] at v1;have j:=K4 l f (p+2) (by omega) (by rw[b];simp only;rw[if_neg];rw[a];simp only;omega) 128 191 (by rw[b];rfl) (by rw[b];rfl) (by omega)
   cases w2:within l 128 191 (p+2) with
   | false=>rw[if_pos rfl];exact (j.1 w2).of_eq v1
   | true=>
    rw[if_neg (by decide)];obtain⟨q2,v2⟩:=j.2 w2;have v2:=v1.trans v2
    by_cases n2:n=2
    ·rw[if_pos (by omega)];refine⟨by omega,by omega,_,?_,v2⟩;subst n2;rw[b,a];exact⟨rfl,rfl,rfl,rfl,rfl,by simp only[Ua]⟩
    rw[if_neg (by omega)];obtain rfl:n=3:=by omega
    obtain⟨h,c⟩:∃h:zg,h={ f with got:=f.got++one (ze l (p+2)),low:=128,high:=191,need:=f.need-1,state:=if f.need-1=0 then 8 else 9 }:=⟨_,rfl⟩
    rw[<- c] at v2;have k:=K4 l h (p+3) (by omega) (by rw[c,b,a];rfl) 128 191 (by rw[c];rfl) (by rw[c];rfl) (by omega)
    cases w3:within l 128 191 (p+3) with
    | false=>rw[if_pos rfl];exact (k.1 w3).of_eq v2
    | true=>
     rw[if_neg (by decide)];obtain⟨s,v3⟩:=k.2 w3;refine⟨by omega,by omega,_,?_,v2.trans v3⟩;rw[c,b,a];exact⟨rfl,rfl,rfl,rfl,rfl,by simp only[Ua]⟩
theorem JS(l:List UInt8)(m:zg)(p:Nat)(f:p<=l.length)(g:m.state=11)(N k:Int)(d:m.number=N)(e:m.need=k)(bad:Prop)(hb:bad↔(zC (ze l p)<0\/(k=3/\216<=16*N+zC (ze l p)/\16*N+zC (ze l p)<=223))) :
  (bad->Fails l m p 2 p) /\
  (¬bad->k≠1->p<l.length/\verdict l m p=verdict l { m with number:=16*N+zC (ze l p),need:=k-1 } (p+1)) /\
  (¬bad->k=1->p<l.length/\verdict l m p=verdict l { m with number:=16*N+zC (ze l p),need:=k-1,got:=m.got++enc (16*N+zC (ze l p)),state:=8 } (p+1)):=by
 have b:Ref.step m (ze l p:Int)=digit m (ze l p:Int):=PD m _ g;unfold digit at b;rw[d,e] at b;refine⟨λh=>?_,λh c=>?_,λh c=>?_⟩
 ·refine uI l m p f (.inl (by omega)) 2 (by decide) ?_ (λ_=>rfl);rw[b]
  by_cases h1:zC (ze l p:Int)<0
  ·rw[if_pos h1]
  ·rw[if_neg h1,if_pos (by have:=hb.1 h;omega)]
 ·rw[hb] at h;have a:p<l.length:=U6 l p (by omega);refine⟨a,xe l m _ p a ?_⟩;rw[b,if_neg (by omega),if_neg (by omega),if_neg (by omega)]
 ·rw[hb] at h;have a:p<l.length:=U6 l p (by omega);refine⟨a,xe l m _ p a ?_⟩;rw[b,if_neg (by omega),if_neg (by omega),if_pos (by omega)]
theorem Ea(l:List UInt8)(m:zg)(p:Nat)(y:p<=l.length)(d:m.state=11)(x:m.number=0)(w:m.need=4) :
  match jL l p with
  | .ok s q=>p<q/\q<=l.length/\∃m',Within { m with state:=8 } m' s/\verdict l m p=verdict l m' q
  | .err e q=>Fails l m p e q:=by
 have z:=Xl (ze l p);have hb:=Xl (ze l (p+1));unfold jL;simp only;generalize i:zC (ze l p:Int)=A at *;have o:=JS l m p y d 0 4 x w (A<0) (by rw[i];omega)
 by_cases c1:A<0
 ·rw[if_pos c1];exact o.1 c1
 rw[if_neg c1];obtain⟨E,v1⟩:=o.2.1 c1 (by decide);rw[i] at v1;obtain⟨f,a⟩:∃f:zg,f={ m with number:=16*0+A,need:=4-1 }:=⟨_,rfl⟩
 rw[<- a] at v1;generalize j:zC (ze l (p+1):Int)=B at *;have r:=JS l f (p+1) (by omega) (by rw[a];exact d) A 3 (by rw[a];simp) (by rw[a];rfl) (B<0\/(A=13/\8<=B)) (by rw[j];omega)
 by_cases c2:B<0\/(A=13/\8<=B)
 ·rw[if_pos c2];exact (r.1 c2).of_eq v1
 rw[if_neg c2];obtain⟨q2,v2⟩:=r.2.1 c2 (by decide);rw[j] at v2;have v2:=v1.trans v2;obtain⟨g,b⟩:∃g:zg,g={ f with number:=16*A+B,need:=3-1 }:=⟨_,rfl⟩
 rw[<- b] at v2;generalize k:zC (ze l (p+2):Int)=C at *;have t:=JS l g (p+2) (by omega) (by rw[b,a];exact d) (16*A+B) 2 (by rw[b]) (by rw[b];rfl) (C<0) (by rw[k];omega)
 by_cases c3:C<0
 ·rw[if_pos c3];exact (t.1 c3).of_eq v2
 rw[if_neg c3];obtain⟨F,v3⟩:=t.2.1 c3 (by decide);rw[k] at v3;have v3:=v2.trans v3;obtain⟨h,c⟩:∃h:zg,h={ g with number:=16*(16*A+B)+C,need:=2-1 }:=⟨_,rfl⟩
 rw[<- c] at v3;generalize n:zC (ze l (p+3):Int)=D at *;have u:=JS l h (p+3) (by omega) (by rw[c,b,a];exact d) (16*(16*A+B)+C) 1 (by rw[c]) (by rw[c];rfl) (D<0) (by rw[n];omega)
 by_cases c4:D<0
 ·rw[if_pos c4];exact (u.1 c4).of_eq v3
 rw[if_neg c4];obtain⟨G,v⟩:=u.2.2 c4 rfl;rw[n] at v;refine⟨by omega,by omega,_,?_,v3.trans v⟩;rw[c,b,a];refine⟨rfl,rfl,rfl,rfl,rfl,?_⟩;simp only;have e:16*(16*(16*A+B)+C)+D=((A*16+B)*16+C)*16+D:=by omega
 rw[e]
theorem Di(l:List UInt8)(m:zg)(p:Nat)(i:p<=l.length)(j:m.state=10) :
  match jb l p with
  | .ok s q=>p<q/\q<=l.length/\∃m',Within { m with state:=8 } m' s/\verdict l m p=verdict l m' q
  | .err e q=>Fails l m p e q:=by
 have a:Ref.step m (ze l p:Int)=escape m (ze l p:Int):=Pz m _ j;unfold escape at a;unfold jb;simp only;generalize hb:ze l p=b at *
 by_cases c1:b=34\/b=92\/b=47
 ·rw[if_pos c1];rw[if_pos (by omega)] at a;have c:p<l.length:=zU l p (by rw[hb];omega);have v:=xe l m _ p c (by rw[hb];exact a);refine⟨by omega,by omega,_,?_,v⟩;exact⟨rfl,rfl,rfl,rfl,rfl,rfl⟩
 rw[if_neg c1];rw[if_neg (by omega)] at a
 by_cases c2:b=110
 ·rw[if_pos c2];rw[if_pos (by omega)] at a;have c:p<l.length:=zU l p (by rw[hb];omega);have v:=xe l m _ p c (by rw[hb];exact a);refine⟨by omega,by omega,_,?_,v⟩;exact⟨rfl,rfl,rfl,rfl,rfl,rfl⟩
 rw[if_neg c2];rw[if_neg (by omega)] at a
 by_cases c3:b=116
 ·rw[if_pos c3];rw[if_pos (by omega)] at a;have c:p<l.length:=zU l p (by rw[hb];omega);have v:=xe l m _ p c (by rw[hb];exact a);refine⟨by omega,by omega,_,?_,v⟩;exact⟨rfl,rfl,rfl,rfl,rfl,rfl⟩
 rw[if_neg c3];rw[if_neg (by omega)] at a
 by_cases c4:b=117
 ·rw[if_pos c4];rw[if_pos (by omega)] at a;have c:p<l.length:=zU l p (by rw[hb];omega);have v:=xe l m _ p c (by rw[hb];exact a);have f:=Ea l { m with state:=11,need:=4,number:=0 } (p+1) (by omega) rfl rfl rfl
  cases hf:jL l (p+1) with
  | ok s q=>
   rw[hf] at f;obtain⟨k,d,m',g,h⟩:=f;exact⟨by omega,d,m',g,v.trans h⟩
  | err e q=>
   rw[hf] at f;exact Fails.of_eq f v
 rw[if_neg c4];rw[if_neg (by omega)] at a;exact uI l m p i (.inl (by omega)) 2 (by decide) (by rw[hb,a]) (λ_=>rfl)
theorem wX(l:List UInt8)(m:zg)(p:Nat)(i:p<=l.length)(c:m.state=8)(k:ze l p≠34):aV l m p (xy l p):=by
 have a:Ref.step m (ze l p:Int)=plain m (ze l p:Int):=VG m _ c;unfold plain at a;unfold xy;simp only
 by_cases c1:ze l p<32
 ·rw[if_pos c1];rw[if_neg (by omega),if_neg (by omega),if_pos (by omega)] at a;exact uI l m p i (.inl (by omega)) 2 (by decide) (by rw[a]) (λ_=>rfl)
 rw[if_neg c1];have b:p<l.length:=zU l p (by omega)
 by_cases c2:ze l p=92
 ·rw[if_pos c2];rw[if_neg (by omega),if_pos (by omega)] at a;have v:=xe l m _ p b a;have f:=Di l { m with state:=10 } (p+1) (by omega) rfl
  cases hf:jb l (p+1) with
  | ok s q=>
   rw[hf] at f;obtain⟨j,d,m',g,h⟩:=f;exact⟨by omega,d,m',g,v.trans h⟩
  | err e q=>
   rw[hf] at f;exact Fails.of_eq f v
 rw[if_neg c2]
 by_cases c3:ze l p<128
 ·rw[if_pos c3];rw[if_neg (by omega),if_neg (by omega),if_neg (by omega),if_pos (by omega)] at a;refine⟨by omega,by omega,_,?_,xe l m _ p b a⟩;exact⟨c,rfl,rfl,rfl,rfl,rfl⟩
 rw[if_neg c3];exact OA l m p c (by omega)
theorem SG(l:List UInt8)(m:zg)(p:Nat)(d:p<l.length)(e:Int)(a:e≠0)(b:(Ref.step m (ze l p:Int)).1=e):Fails l m p e p:=by
 have c:Ref.run m (l.drop p) p=(e,p,m):=by
  rw[K3 l m p d,if_neg (by rw[b];exact a),b]
 unfold Fails verdict;rw[c,if_pos a];exact⟨rfl,rfl⟩
def qd(l:List UInt8):Nat->Nat->BA->Res BA
 | 0,p,_ => .err 2 p
 | f+1,p,acc=>if ze l p=34 then .ok acc (p+1) else match xy l p with
  | .ok s q=>qd l f q (acc++s)
  | .err e q => .err e q
def jg(l:List UInt8)(p:Nat):Res BA:=qd l (l.length+1-p) p ⟨#[]⟩
def aY(m m':zg)(s:BA):Prop:=m'.state=8/\m'.opn=m.opn/\m'.nodes=m.nodes/\m'.named=m.named/\m'.root=m.root/\m'.got=s
theorem Rn(l:List UInt8)(f:Nat)(m:zg)(p:Nat)(acc:BA)(n:p<=l.length)(I:l.length<p+f)(c:m.state=8)(b:m.got=acc) :
  match qd l f p acc with
  | .ok s q=>p<q/\q<=l.length/\ze l (q-1)=34/\∃m',aY m m' s/\verdict l m p=verdict l m' (q-1)
  | .err e q=>Fails l m p e q:=by
 induction f generalizing m p acc with
 | zero=>omega
 | succ f o=>
  rw[qd]
  by_cases h34:ze l p=34
  ·rw[if_pos h34];have k:=zU l p (by omega);exact⟨by omega,by omega,by simpa using h34,m,⟨c,rfl,rfl,rfl,rfl,b⟩,by simp⟩
  rw[if_neg h34];have a:=wX l m p n c h34
  cases hm:xy l p with
  | err e q=>rw[hm] at a;exact a
  | ok s q=>
   rw[hm] at a;obtain⟨H,j,y,⟨A,B,C,D,E,F⟩,d⟩:=a;have hi:=o y q (acc++s) j (by omega) A (by rw[F,b]);simp only
   cases hr:qd l f q (acc++s) with
   | err e z=>rw[hr] at hi;exact Fails.of_eq hi d
   | ok J z=>
    rw[hr] at hi;obtain⟨G,g,h,m',⟨r,t,u,v,w,x⟩,i⟩:=hi;exact⟨by omega,g,h,m',⟨r,by rw[t,B],by rw[u,C],by rw[v,D],by rw[w,E],x⟩,d.trans i⟩
theorem af(l:List UInt8)(m:zg)(p:Nat)(b:p<=l.length)(c:m.state=8)(a:m.got=⟨#[]⟩) :
  match jg l p with
  | .ok s q=>p<q/\q<=l.length/\ze l (q-1)=34/\∃m',aY m m' s/\verdict l m p=verdict l m' (q-1)
  | .err e q=>Fails l m p e q:=Rn l _ m p ⟨#[]⟩ b (by omega) c a
inductive V where
 | str (s:BA)
 | word (b:Bool)
 | list (l:List V)
 | obj (l:List (BA×V))
inductive Rep (ns:List Ref.Node):Nat->V->Prop
 | str (i:Nat) (n:Ref.Node) (s:BA):ns[i]?=some n->n.kind=3->n.text=s->n.kids=[]->n.names=[]->Rep ns i (.str s)
 | word (i:Nat) (n:Ref.Node) (b:Bool):ns[i]?=some n->n.kind=(if b then 4 else 5)->n.kids=[]->n.names=[]->Rep ns i (.word b)
 | list (i:Nat) (n:Ref.Node) (vs:List V):ns[i]?=some n->n.kind=2->n.names=[]->n.kids.length=vs.length ->
   (∀k ∈ n.kids,i<k)->(∀(j k:Nat) (v:V),n.kids[j]?=some k->vs[j]?=some v->Rep ns k v)->Rep ns i (.list vs)
 | obj (i:Nat) (n:Ref.Node) (ms:List (BA×V)):ns[i]?=some n->n.kind=1->n.names=ms.map Prod.fst->n.kids.length=ms.length ->
   (∀k ∈ n.kids,i<k)->(∀(j k:Nat) (x:BA×V),n.kids[j]?=some k->ms[j]?=some x->Rep ns k x.2)->Rep ns i (.obj ms)
theorem Rep.more{t o:List Ref.Node}{i:Nat}{v:V}(h:Rep t i v)(l:∀(j:Nat) (n:Ref.Node),i<=j->t[j]?=some n->o[j]?=some n):Rep o i v:=by
 induction h with
 | str i n s a c d e f=>exact .str i n s (l i n (Nat.le_refl _) a) c d e f
 | word i n b a c d e=>exact .word i n b (l i n (Nat.le_refl _) a) c d e
 | list i n z a c d e f _ p=>
  exact .list i n z (l i n (Nat.le_refl _) a) c d e f (λj k v m w=>p j k v m w (λq r u g=>l q r (by have:=f k (List.mem_of_getElem? m);omega) g))
 | obj i n ms a c d e f _ p=>
  exact .obj i n ms (l i n (Nat.le_refl _) a) c d e f (λj k x m y=>p j k x m y (λq r u g=>l q r (by have:=f k (List.mem_of_getElem? m);omega) g))
def base(m:zg):List Ref.Node:=if m.opn=[] then m.nodes else jl (m.opn.getLastD 0) m.nodes.length m.nodes
structure ZZ (m m':zg) (v:V):Prop where
 state:m'.state=6
 opn:m'.opn=m.opn
 old:m'.nodes.take m.nodes.length=base m
 rep:Rep m'.nodes m.nodes.length v
 root:m'.root=if m.opn=[] then (m.nodes.length:Int) else m.root
theorem JF(m:zg):(base m).length=m.nodes.length:=by
 unfold base;split
 ·rfl
 ·simp[jl]
def XI(m:zg):Prop:=∀o ∈ m.opn,o<m.nodes.length
theorem Ha(l:List Nat)(h:l≠[]):l.getLastD 0 ∈ l:=by
 cases l with
 | nil=>exact absurd rfl h
 | cons a r=>rw[List.getLastD_eq_getLast?,List.getLast?_eq_some_getLast (by simp)];exact List.getLast_mem _
theorem Vd(m:zg)(n:Ref.Node)(b:XI m):(lay m n).nodes=base m++[n]:=by
 unfold lay base
 by_cases h:m.opn=[]
 ·rw[if_pos h,if_pos h]
 ·rw[if_neg h,if_neg h];have a:=b _ (Ha m.opn h);generalize m.opn.getLastD 0=t at a |-;unfold jl;simp only;apply List.ext_getElem?;intro i;rw[List.getElem?_modify]
  by_cases hi:i<m.nodes.length
  ·rw[List.getElem?_append_left hi,List.getElem?_append_left (by simpa using hi),List.getElem?_modify]
  ·rw[List.getElem?_append_right (by omega),List.getElem?_append_right (by simp;omega)]
   have:¬t=i:=by omega
   simp[this]
theorem gU(m:zg)(n:Ref.Node):(lay m n).root=if m.opn=[] then (m.nodes.length:Int) else m.root:=by
 unfold lay;split<;>rfl
theorem oV(m m':zg)(n:Ref.Node)(v:V)(d:XI m)(b:m'.state=6)(a:m'.opn=m.opn)(c:m'.nodes=(lay m n).nodes)(e:m'.root=(lay m n).root)(f:Rep m'.nodes m.nodes.length v):ZZ m m' v:=by
 refine⟨b,a,?_,f,by rw[e,gU]⟩;rw[c,Vd m n d,<- JF m,List.take_left]
theorem Kh(m:zg)(n:Ref.Node)(a:XI m):(lay m n).nodes[m.nodes.length]?=some n:=by
 rw[Vd m n a,<- JF m];simp
structure qo (m0 m:zg) (kind:Int) (names:List BA) (vs:List V):Prop where
 opn:m.opn=m0.opn++[m0.nodes.length]
 old:m.nodes.take m0.nodes.length=base m0
 node:∃n:Ref.Node,m.nodes[m0.nodes.length]?=some n/\n.kind=kind/\n.names=names/\n.kids.length=vs.length/\(∀c ∈ n.kids,m0.nodes.length<c)/\∀(j c:Nat) (v:V),n.kids[j]?=some c->vs[j]?=some v->Rep m.nodes c v
 root:m.root=if m0.opn=[] then (m0.nodes.length:Int) else m0.root
 opens:XI m
theorem qo.like{c m m':zg}{kind:Int}{names:List BA}{d:List V}(h:qo c m kind names d)(b:m'.opn=m.opn)(a:m'.nodes=m.nodes)(i:m'.root=m.root):qo c m' kind names d:=by
 refine⟨by rw[b];exact h.opn,by rw[a];exact h.old,?_,by rw[i];exact h.root,λo g=>by rw[a];exact h.opens o (by rw[<- b];exact g)⟩;obtain⟨n,e,f⟩:=h.node;exact⟨n,by rw[a];exact e,by rw[a];exact f⟩
theorem qo.top{a m:zg}{kind:Int}{names:List BA}{b:List V}(h:qo a m kind names b):m.opn.getLastD 0=a.nodes.length:=by
 rw[h.opn,List.getLastD_eq_getLast?];simp
theorem qo.ne{a m:zg}{kind:Int}{names:List BA}{b:List V}(h:qo a m kind names b):m.opn≠[]:=by
 rw[h.opn];simp
theorem qo.kindTop{c m:zg}{kind:Int}{names:List BA}{d:List V}(h:qo c m kind names d):Yr m=kind:=by
 obtain⟨n,a,b,_⟩:=h.node;unfold Yr;rw[h.top,a];exact b
theorem qo.namesTop{c m:zg}{kind:Int}{names:List BA}{d:List V}(h:qo c m kind names d):aK m=names:=by
 obtain⟨n,a,_,b,_⟩:=h.node;unfold aK;rw[h.top,a];exact b
theorem qo.lt{a m:zg}{kind:Int}{names:List BA}{c:List V}(h:qo a m kind names c):a.nodes.length<m.nodes.length:=by
 obtain⟨n,b,_⟩:=h.node;exact (List.getElem?_eq_some_iff.1 b).1
theorem iV(a m:zg)(n:Ref.Node)(d:XI a)(b:m.opn=a.opn++[a.nodes.length])(e:m.nodes=(lay a n).nodes)(i:m.root=(lay a n).root)(f:n.kids=[]):qo a m n.kind n.names []:=by
 refine⟨b,?_,⟨n,by rw[e];exact Kh a n d,rfl,rfl,by rw[f];rfl,by rw[f];simp,λj c v _ k=>by simp at k⟩,by rw[i,gU],?_⟩
 ·rw[e,Vd a n d,<- JF a,List.take_left]
 ·intro o g;rw[e,Vd a n d,List.length_append,JF];rw[b] at g
  rcases List.mem_append.1 g with h|h
  ·have:=d o h;simp;omega
  ·simp at h;subst h;simp
theorem RU{l a:List Ref.Node}{k:Nat}(h:a.take k=l)(i:Nat)(hi:i<k):a[i]?=l[i]?:=by
 rw[<- h,List.getElem?_take,if_pos hi]
theorem ZZ.len{m m':zg}{v:V}(h:ZZ m m' v):m.nodes.length<m'.nodes.length:=by
 have:∃n,m'.nodes[m.nodes.length]?=some n:=by
  cases h.rep with
  | str i n s a=>exact⟨n,a⟩
  | word i n b a=>exact⟨n,a⟩
  | list i n d a=>exact⟨n,a⟩
  | obj i n ms a=>exact⟨n,a⟩
 obtain⟨n,c⟩:=this;exact (List.getElem?_eq_some_iff.1 c).1
theorem iW{d m m':zg}{kind:Int}{names:List BA}{x:List V}{v:V}(h:qo d m kind names x)(l:ZZ m m' v):qo d m' kind names (x++[v]):=by
 have p:=h.lt;have hlen:=l.len;have g:base m=jl d.nodes.length m.nodes.length m.nodes:=by unfold base;rw[if_neg h.ne,h.top]
 have f:∀i,i<m.nodes.length->m'.nodes[i]?=(jl d.nodes.length m.nodes.length m.nodes)[i]?:=λi hi=>by
  rw[<- g];exact RU l.old i hi
 have a:∀i,i<m.nodes.length->i≠d.nodes.length->m'.nodes[i]?=m.nodes[i]?:=λi hi u=>by
  rw[f i hi];unfold jl;rw[List.getElem?_modify]
  have:¬d.nodes.length=i:=λe=>u e.symm
  simp[this]
 obtain⟨n,C,D,E,F,A,G⟩:=h.node
 have H:m'.nodes[d.nodes.length]?=some { n with kids:=n.kids++[m.nodes.length] }:=by
  rw[f _ p];unfold jl;rw[List.getElem?_modify,C]
  simp
 have k:∀c w,d.nodes.length<c->Rep m.nodes c w->Rep m'.nodes c w:=λc w b I=>I.more λj J s q=>by
  have t:=(List.getElem?_eq_some_iff.1 q).1;rw[a j t (by omega)];exact q
 refine⟨by rw[l.opn];exact h.opn,?_,⟨_,H,D,E,by simp[F],?_,?_⟩,by rw[l.root,if_neg h.ne];exact h.root,?_⟩
 ·rw[<- h.old];apply List.ext_getElem?;intro i;rw[List.getElem?_take,List.getElem?_take]
  by_cases hi:i<d.nodes.length
  ·rw[if_pos hi,if_pos hi,a i (by omega) (by omega)]
  ·rw[if_neg hi,if_neg hi]
 ·intro c b
  rcases List.mem_append.1 b with h|h
  ·exact A c h
  ·simp at h;subst h;exact p
 ·intro j c w b r;simp only at b;rw[List.getElem?_append] at b r
  by_cases s:j<x.length
  ·rw[if_pos (by omega)] at b;rw[if_pos s] at r;exact k c w (A c (List.mem_of_getElem? b)) (G j c w b r)
  ·rw[if_neg (by omega)] at b;rw[if_neg s] at r;have y:=List.mem_of_getElem? b;have z:=List.mem_of_getElem? r;simp at y z;subst y;subst z;exact l.rep
 ·intro o B;rw[l.opn] at B
  have:=h.opens o B
  omega
theorem Le{b m m':zg}{names:List BA}{r:List V}{s:BA}(h:qo b m 1 names r)(q:m'.opn=m.opn)(d:m'.nodes=jJ b.nodes.length s m.nodes)(C:m'.root=m.root):qo b m' 1 (names++[s]) r:=by
 have B:=h.lt
 have a:∀i,i≠b.nodes.length->m'.nodes[i]?=m.nodes[i]?:=λi g=>by
  rw[d];unfold jJ;rw[List.getElem?_modify]
  have:¬b.nodes.length=i:=λe=>g e.symm
  simp[this]
 obtain⟨n,t,u,v,x,k,y⟩:=h.node
 have A:m'.nodes[b.nodes.length]?=some { n with names:=n.names++[s] }:=by
  rw[d];unfold jJ;rw[List.getElem?_modify,t]
  simp
 refine⟨by rw[q];exact h.opn,?_,⟨_,A,u,by simp[v],x,k,?_⟩,by rw[C];exact h.root,?_⟩
 ·rw[<- h.old];apply List.ext_getElem?;intro i;rw[List.getElem?_take,List.getElem?_take]
  by_cases hi:i<b.nodes.length
  ·rw[if_pos hi,if_pos hi,a i (by omega)]
  ·rw[if_neg hi,if_neg hi]
 ·intro j c w l D;have z:=k c (List.mem_of_getElem? l);exact (y j c w l D).more λi E hi f=>by rw[a i (by omega)];exact f
 ·intro o p;rw[q] at p
  have:=h.opens o p
  rw[d];simpa [jJ] using this
theorem oW{d m m':zg}{b:List V}(h:qo d m 2 [] b)(k:m'.state=6)(l:m'.opn=m.opn.dropLast)(c:m'.nodes=m.nodes)(o:m'.root=m.root):ZZ d m' (.list b):=by
 obtain⟨n,e,f,g,i,j,a⟩:=h.node;refine⟨k,by rw[l,h.opn];simp,by rw[c];exact h.old,?_,by rw[o];exact h.root⟩;rw[c];exact .list _ n b e f g i j a
theorem oZ{c m m':zg}{ms:List (BA×V)}(h:qo c m 1 (ms.map Prod.fst) (ms.map Prod.snd))(l:m'.state=6)(p:m'.opn=m.opn.dropLast)(b:m'.nodes=m.nodes)(q:m'.root=m.root):ZZ c m' (.obj ms):=by
 obtain⟨n,d,e,f,g,i,a⟩:=h.node;refine⟨l,by rw[p,h.opn];simp,by rw[b];exact h.old,?_,by rw[q];exact h.root⟩;rw[b];refine .obj _ n ms d e f (by rw[g,List.length_map]) i (λj k x o r=>a j k x.2 o ?_);rw[List.getElem?_map,r];rfl
def zM(l:List UInt8):List Nat->Nat->Res Unit
 | [],p => .ok () p
 | b::r,p=>if ze l p=b then zM l r (p+1) else .err 2 p
mutual
def zP(l:List UInt8):Nat->Nat->Nat->Res V
 | 0,_,p => .err 2 p
 | f+1,d,p=>
  if ze l p=123 then (if 8<d then .err 3 p else if ze l (skip l (p+1))=125 then .ok (.obj []) (skip l (p+1)+1) else jP l f d (skip l (p+1)) [])
  else if ze l p=91 then (if 8<d then .err 3 p else if ze l (skip l (p+1))=93 then .ok (.list []) (skip l (p+1)+1) else jO l f d (skip l (p+1)) [])
  else if ze l p=34 then (match jg l (p+1) with
   | .ok s q => .ok (.str s) q
   | .err e q => .err e q)
  else if ze l p=116 then (match zM l [114,117,101] (p+1) with
   | .ok _ q => .ok (.word true) q
   | .err e q => .err e q)
  else if ze l p=102 then (match zM l [97,108,115,101] (p+1) with
   | .ok _ q => .ok (.word false) q
   | .err e q => .err e q)
  else .err 2 p
def jO(l:List UInt8):Nat->Nat->Nat->List V->Res V
 | 0,_,p,_ => .err 2 p
 | f+1,d,p,acc=>match zP l f (d+1) p with
  | .err e q => .err e q
  | .ok v q=>
   if ze l (skip l q)=44 then jO l f d (skip l (skip l q+1)) (acc++[v])
   else if ze l (skip l q)=93 then .ok (.list (acc++[v])) (skip l q+1)
   else .err 2 (skip l q)
def jP(l:List UInt8):Nat->Nat->Nat->List (BA×V)->Res V
 | 0,_,p,_ => .err 2 p
 | f+1,d,p,acc=>
  if ze l p≠34 then .err 2 p else match jg l (p+1) with
  | .err e q => .err e q
  | .ok s q=>
   if acc.any (λx=>x.1.toList==s.toList) then .err 4 (q-1)
   else if ze l (skip l q)≠58 then .err 2 (skip l q)
   else match zP l f (d+1) (skip l (skip l q+1)) with
   | .err e a => .err e a
   | .ok v a=>
    if ze l (skip l a)=44 then jP l f d (skip l (skip l a+1)) (acc++[(s,v)])
    else if ze l (skip l a)=125 then .ok (.obj (acc++[(s,v)])) (skip l a+1)
    else .err 2 (skip l a)
end
def Q9(l:List UInt8)(a m:zg)(p:Nat)(r:Res V):Prop:=match r with
 | .ok v q=>p<q/\q<=l.length/\∃m',ZZ a m' v/\verdict l m p=verdict l m' q
 | .err e q=>Fails l m p e q
theorem Q9.of_eq{l:List UInt8}{c m m':zg}{p a:Nat}{r:Res V}(h:Q9 l c m' a r)(k:p<=a)(b:verdict l m p=verdict l m' a):Q9 l c m p r:=by
 cases r with
 | ok v q=>
  obtain⟨j,d,i,f,g⟩:=h;exact⟨by omega,d,i,f,b.trans g⟩
 | err e q=>exact Fails.of_eq h b
theorem Ta(l:List UInt8)(r:List Nat)(m:zg)(p:Nat)(B:p<=l.length)(C:r≠[])(D:m.state=7)(d:m.word.data.toList.map UInt8.toNat=r)(j:∀b ∈ r,b≠0) :
  match zM l r p with
  | .ok _ q=>p<q/\q<=l.length/\∃m':zg,m'.state=6/\m'.opn=m.opn/\m'.nodes=m.nodes/\m'.root=m.root/\verdict l m p=verdict l m' q
  | .err e q=>Fails l m p e q:=by
 induction r generalizing m p with
 | nil=>exact absurd rfl C
 | cons b r E=>
  have a:=PE m (ze l p:Int) D
  have hlen:m.word.size=r.length+1:=by
   have:=congrArg List.length d
   rw[List.length_map,zy] at this
   simpa using this
  have g:(m.word.data.toList.getD 0 0).toNat=b:=by
   cases hl:m.word.data.toList with
   | nil=>rw[hl] at d;simp at d
   | cons c t=>rw[hl] at d;simp at d;simpa using d.1
  rw[g] at a;rw[zM]
  by_cases hb:ze l p=b
  ·rw[if_pos hb];rw[if_neg (by omega)] at a;have z:=j b (by simp);have h:=zU l p (by omega);have i:=xe l m _ p h a
   by_cases hr0:r=[]
   ·subst hr0;rw[zM];refine⟨by omega,by omega,_,?_,?_,?_,?_,i⟩
    ·simp only;rw[if_pos (by rw[hlen];rfl)]
    ·rfl
    ·rfl
    ·rfl
   ·have A:¬m.word.size=1:=by rw[hlen];cases r with|nil=>exact absurd rfl hr0|cons _ _=>simp
    have hi:=E { m with word:=m.word.extract 1 m.word.size,state:=if m.word.size=1 then 6 else 7 } (p+1) (by omega) hr0 (by simp only;rw[if_neg A])
     (by
       simp only
       have e:(m.word.extract 1 m.word.size).data.toList=m.word.data.toList.drop 1:=by
        have y:m.word.data.toList.length=m.word.size:=zy _;simp only[ByteArray.data_extract,Array.toList_extract,List.extract_eq_take_drop];rw[List.take_of_length_le (by simp[y])]
       rw[e,List.map_drop,d];rfl)
     (λk f=>j k (by simp[f]))
    cases hw2:zM l r (p+1) with
    | ok u q=>
     rw[hw2] at hi;obtain⟨F,n,m',o,s,v,w,x⟩:=hi;exact⟨by omega,n,m',o,s,v,w,i.trans x⟩
    | err e q=>rw[hw2] at hi;exact Fails.of_eq hi i
  ·rw[if_neg hb];rw[if_pos (by omega)] at a;exact uI l m p B (.inl (by omega)) 2 (by decide) (by rw[a]) (λ_=>rfl)
theorem PG(m:zg)(b:Nat)(h:m.state=1\/m.state=2)(hb:blank b=false)(a:¬(m.state=2/\b=93)):Ref.step m (b:Int)=JG m (b:Int):=by
 rw[Jj m _ (by omega),YI,hb,if_neg (by decide),if_neg (by omega),if_neg (by omega),if_neg (by omega)]
theorem aa(m:zg)(b:Nat)(h:m.state=6\/m.state=5)(hb:blank b=false):Ref.step m (b:Int)=after m (b:Int):=by
 rw[Jj m _ (by omega),YI,hb,if_neg (by decide),if_pos h]
theorem PN(m:zg)(b:Nat)(h:m.state=3\/m.state=4)(hb:blank b=false)(a:¬(m.state=3/\b=125)):Ref.step m (b:Int)=if (b:Int)≠34 then (2,m) else (0,{ m with state:=8,named:=true,got:=⟨#[]⟩ }):=by
 rw[Jj m _ (by omega),YI,hb,if_neg (by decide),if_neg (by omega),if_neg (by omega),if_pos h]
theorem step_end(m:zg)(b:Nat)(h:(m.state=2/\b=93)\/(m.state=3/\b=125)):Ref.step m (b:Int)=vU m (b:Int):=by
 rw[Jj m _ (by omega),YI]
 have hb:blank b=false:=by
  rcases h with ⟨_,rfl⟩|⟨_,rfl⟩<;>decide
 rw[hb,if_neg (by decide),if_neg (by omega),if_pos (by omega)]
theorem eU{a m:zg}{b:List V}(h:qo a m 2 [] b):vU m 93=(0,{ m with opn:=m.opn.dropLast,state:=6 }):=by
 unfold vU;rw[if_neg h.ne,h.kindTop];rfl
theorem eX{a m:zg}{names:List BA}{b:List V}(h:qo a m 1 names b):vU m 125=(0,{ m with opn:=m.opn.dropLast,state:=6 }):=by
 unfold vU;rw[if_neg h.ne,h.kindTop];rfl
theorem Hz(l:List UInt8){f m:zg}{g:List V}(h:qo f m 2 [] g)(j:m.state=6)(p:Nat)(k:p<=l.length) :
  (ze l (skip l p)=44->∃m',m'.state=1/\qo f m' 2 [] g/\skip l p<l.length/\verdict l m p=verdict l m' (skip l (skip l p+1))) /\
  (ze l (skip l p)=93->∃m',ZZ f m' (.list g)/\skip l p<l.length/\verdict l m p=verdict l m' (skip l p+1)) /\
  (ze l (skip l p)≠44->ze l (skip l p)≠93->Fails l m p 2 (skip l p)):=by
 have d:=QY l m (by omega) p;have hle:=jT l p k;have a:=aa m (ze l (skip l p)) (.inl j) (uC l p);unfold after at a;rw[if_neg (by omega),if_neg (by rintro (h|i);omega;exact h.ne i)] at a;refine⟨λhb=>?_,λhb=>?_,λn o=>?_⟩
 ·rw[if_neg (by omega),if_neg (by omega),h.kindTop,if_neg (by decide)] at a;have b:=zU l (skip l p) (by omega);have c:=xe l m _ (skip l p) b a;refine⟨{ m with state:=1 },rfl,h.like rfl rfl rfl,b,(d.trans c).trans (QY l _ (show (1:Int)<7 by decide) _)⟩
 ·rw[if_pos (by omega),hb] at a;have b:=zU l (skip l p) (by omega);have e:vU m ((93:Nat):Int)=_:=eU h;rw[e] at a;have c:=xe l m _ (skip l p) b (by rw[hb];exact a);refine⟨_,?_,b,d.trans c⟩;exact oW h rfl rfl rfl rfl
 ·refine Fails.of_eq (uI l m (skip l p) hle (.inr h.ne) 2 (by decide) ?_ (λ_=>rfl)) d;rw[a]
  by_cases h3:(ze l (skip l p):Int)=125\/(ze l (skip l p):Int)=93
  ·rw[if_pos h3];unfold vU;rw[if_neg h.ne,h.kindTop,if_pos];have e:(ze l (skip l p):Int)=125:=by omega
   rw[e];decide
  ·rw[if_neg h3,if_pos (by omega)]
theorem Ls(l:List UInt8){f m:zg}{ms:List (BA×V)}(h:qo f m 1 (ms.map Prod.fst) (ms.map Prod.snd))(i:m.state=6)(p:Nat)(j:p<=l.length) :
  (ze l (skip l p)=44->∃m',m'.state=4/\qo f m' 1 (ms.map Prod.fst) (ms.map Prod.snd)/\skip l p<l.length/\verdict l m p=verdict l m' (skip l (skip l p+1))) /\
  (ze l (skip l p)=125->∃m',ZZ f m' (.obj ms)/\skip l p<l.length/\verdict l m p=verdict l m' (skip l p+1)) /\
  (ze l (skip l p)≠44->ze l (skip l p)≠125->Fails l m p 2 (skip l p)):=by
 have d:=QY l m (by omega) p;have hle:=jT l p j;have a:=aa m (ze l (skip l p)) (.inl i) (uC l p);unfold after at a;rw[if_neg (by omega),if_neg (by rintro (h|g);omega;exact h.ne g)] at a;refine⟨λhb=>?_,λhb=>?_,λk n=>?_⟩
 ·rw[if_neg (by omega),if_neg (by omega),h.kindTop,if_pos rfl] at a;have b:=zU l (skip l p) (by omega);have c:=xe l m _ (skip l p) b a;refine⟨{ m with state:=4 },rfl,h.like rfl rfl rfl,b,(d.trans c).trans (QY l _ (show (4:Int)<7 by decide) _)⟩
 ·rw[if_pos (by omega),hb] at a;have b:=zU l (skip l p) (by omega);have e:vU m ((125:Nat):Int)=_:=eX h;rw[e] at a;have c:=xe l m _ (skip l p) b (by rw[hb];exact a);refine⟨_,?_,b,d.trans c⟩;exact oZ h rfl rfl rfl rfl
 ·refine Fails.of_eq (uI l m (skip l p) hle (.inr h.ne) 2 (by decide) ?_ (λ_=>rfl)) d;rw[a]
  by_cases h3:(ze l (skip l p):Int)=125\/(ze l (skip l p):Int)=93
  ·rw[if_pos h3];unfold vU;rw[if_neg h.ne,h.kindTop,if_pos];have e:(ze l (skip l p):Int)=93:=by omega
   rw[e];decide
  ·rw[if_neg h3,if_pos (by omega)]
def AV(l:List UInt8)(f:Nat):Prop:=∀(m:zg) (d p:Nat),(m.state=1\/m.state=2)->XI m->m.opn.length+1=d->p<=l.length->blank (ze l p)=false->¬(m.state=2/\ze l p=93)->2*(l.length-p)<f ->
 Q9 l m m p (zP l f d p)
def AL(l:List UInt8)(f:Nat):Prop:=∀(a m:zg) (d p:Nat) (acc:List V),qo a m 2 [] acc->(m.state=1\/m.state=2)->a.opn.length+1=d->p<=l.length->blank (ze l p)=false->¬(m.state=2/\ze l p=93)->2*(l.length-p)+1<f ->
 Q9 l a m p (jO l f d p acc)
def AO(l:List UInt8)(f:Nat):Prop:=∀(a m:zg) (d p:Nat) (acc:List (BA×V)),qo a m 1 (acc.map Prod.fst) (acc.map Prod.snd)->(m.state=3\/m.state=4)->a.opn.length+1=d->p<=l.length->blank (ze l p)=false->¬(m.state=3/\ze l p=125)->2*(l.length-p)+1<f ->
 Q9 l a m p (jP l f d p acc)
theorem Y0(m a:zg)(b:a.opn=m.opn)(c:a.nodes=m.nodes)(d:a.root=m.root)(n:Ref.Node):(lay a n).nodes=(lay m n).nodes/\(lay a n).root=(lay m n).root:=by
 unfold lay;rw[b,c]
 by_cases hE:m.opn=[]
 ·rw[if_pos hE,if_pos hE];exact⟨rfl,rfl⟩
 ·rw[if_neg hE,if_neg hE];exact⟨rfl,d⟩
theorem Ic(l:List UInt8)(f:Nat)(y:AV l f)(x:AL l f):AL l (f+1):=by
 intro C m d p acc o A hd z hb j H;have a:m.opn.length+1=d+1:=by rw[o.opn,List.length_append];simp;omega
 have c:=y m (d+1) p A o.opens a z hb j (by omega);rw[jO]
 cases hr:zP l f (d+1) p with
 | err e q=>rw[hr] at c;exact c
 | ok v q=>
  rw[hr] at c;obtain⟨G,w,I,u,k⟩:=c;have r:=iW o u;obtain⟨g,h,i⟩:=Hz l r u.state q w;simp only;have B:=yf l q
  by_cases c1:ze l (skip l q)=44
  ·rw[if_pos c1];obtain⟨s,E,D,n,v2⟩:=g c1;clear g h i;have t:=yf l (skip l q+1);have b:=jT l (skip l q+1) (by omega)
   have:=x C s d (skip l (skip l q+1)) (acc++[v]) D (.inl E) hd b (uC l _) (by omega) (by omega)
   exact this.of_eq (by omega) (k.trans v2)
  rw[if_neg c1]
  by_cases c2:ze l (skip l q)=93
  ·rw[if_pos c2];obtain⟨s,F,n,v2⟩:=h c2;clear g h i;exact⟨by omega,by omega,s,F,k.trans v2⟩
  rw[if_neg c2];exact Fails.of_eq (i c1 c2) k
theorem Lv(l:List UInt8)(f:Nat)(hV:AV l f)(hO:AO l f):AO l (f+1):=by
 intro J m d p acc X hs hd hp hb B hf;rw[jP];have n:=PN m (ze l p) hs hb B
 by_cases c0:ze l p=34
 ·rw[if_neg (by simpa using c0)];rw[if_neg (by omega)] at n;have O:=zU l p (by omega);have S:=xe l m _ p O n;have g:=af l { m with state:=8,named:=true,got:=⟨#[]⟩ } (p+1) (by omega) rfl rfl
  cases hr:jg l (p+1) with
  | err e q=>rw[hr] at g;exact Fails.of_eq g S
  | ok s q=>
   rw[hr] at g;obtain⟨h1,h2,h3,a,⟨k1,k2,k3,k4,k5,k6⟩,W⟩:=g;simp only;have r:qo J a 1 (acc.map Prod.fst) (acc.map Prod.snd):=X.like k2 k3 k5
   have c:Ref.step a (ze l (q-1):Int)=closed a:=by
    rw[VG a _ k1,h3];unfold plain;rw[if_pos (by decide)]
   have T:a.named=true:=k4
   have C:(acc.map Prod.fst).any (λx=>x.toList==a.got.toList)=acc.any (λx=>x.1.toList==s.toList):=by
    rw[k6,List.any_map];rfl
   have N:closed a=if acc.any (λx=>x.1.toList==s.toList)=true then (4,a) else (0,{ a with nodes:=jJ (a.opn.getLastD 0) a.got a.nodes,state:=5 }):=by
    unfold closed;rw[if_neg (by rw[T];decide),r.namesTop,C]
   rw[N] at c
   by_cases c1:acc.any (λx=>x.1.toList==s.toList)=true
   ·rw[if_pos c1];rw[if_pos c1] at c;exact Fails.of_eq (SG l a (q-1) (by omega) 4 (by decide) (by rw[c])) (S.trans W)
   rw[if_neg c1];rw[if_neg c1] at c;have z:=xe l a _ (q-1) (by omega) c;rw[show q-1+1=q by omega] at z;obtain⟨j,k⟩:∃j:zg,j={ a with nodes:=jJ (a.opn.getLastD 0) a.got a.nodes,state:=5 }:=⟨_,rfl⟩
   rw[<- k] at z
   have P:qo J j 1 (acc.map Prod.fst++[s]) (acc.map Prod.snd):=by
    have:=Le (s:=a.got) r (m':=j) (by rw[k]) (by rw[k];simp only;rw[r.top]) (by rw[k])
    rw[k6] at this;exact this
   have u:j.state=5:=by rw[k]
   have H:=((S.trans W).trans z).trans (QY l j (by omega) q);have b4:=yf l q;have G:=jT l q h2;have b:=aa j (ze l (skip l q)) (.inr u) (uC l q);unfold after at b
   by_cases c2:ze l (skip l q)=58
   ·rw[if_neg (by simpa using c2)];rw[if_pos ⟨u,by omega⟩] at b;have D:=zU l (skip l q) (by omega);have I:=H.trans ((xe l j _ (skip l q) D b).trans (QY l _ (show (1:Int)<7 by decide) _));have t:qo J { j with state:=1 } 1 (acc.map Prod.fst++[s]) (acc.map Prod.snd):=P.like rfl rfl rfl
    have Y:=yf l (skip l q+1);have w:=jT l (skip l q+1) (by omega);have F:({ j with state:=1 }:zg).opn.length+1=d+1:=by rw[t.opn,List.length_append];simp;omega
    have i:=hV { j with state:=1 } (d+1) (skip l (skip l q+1)) (.inl rfl) t.opens F w (uC l _) (λh=>absurd h.1 (show ¬(1:Int)=2 by decide)) (by omega)
    cases hr2:zP l f (d+1) (skip l (skip l q+1)) with
    | err e o=>rw[hr2] at i;exact Fails.of_eq i I
    | ok v o=>
     rw[hr2] at i;obtain⟨g1,g2,m4,ht,ge⟩:=i;have Q:=iW t ht;have R:qo J m4 1 ((acc++[(s,v)]).map Prod.fst) ((acc++[(s,v)]).map Prod.snd):=by simpa using Q
     obtain⟨K,L,M⟩:=Ls l R ht.state o g2;simp only;have Z:=yf l o;have A:=I.trans ge
     by_cases c3:ze l (skip l o)=44
     ·rw[if_pos c3];obtain⟨U,s5,n5,E,V⟩:=K c3;clear K L M;have a0:=yf l (skip l o+1);have y:=jT l (skip l o+1) (by omega)
      have:=hO J U d (skip l (skip l o+1)) (acc++[(s,v)]) n5 (.inr s5) hd y (uC l _) (by omega) (by omega)
      exact this.of_eq (by omega) (A.trans V)
     rw[if_neg c3]
     by_cases c4:ze l (skip l o)=125
     ·rw[if_pos c4];obtain⟨U,t5,E,V⟩:=L c4;clear K L M;exact⟨by omega,by omega,U,t5,A.trans V⟩
     rw[if_neg c4];exact Fails.of_eq (M c3 c4) A
   ·rw[if_pos c2];rw[if_neg (by omega),if_pos (.inl u)] at b;exact Fails.of_eq (uI l j (skip l q) G (.inl (by omega)) 2 (by decide) (by rw[b]) (λ_=>rfl)) H
 ·rw[if_pos c0];rw[if_pos (by omega)] at n;exact uI l m p hp (.inr X.ne) 2 (by decide) (by rw[n]) (λ_=>rfl)
theorem SB(l:List UInt8)(f:Nat)(U:AL l f)(V:AO l f):AV l (f+1):=by
 intro m d p X F hd J hb H hf;rw[zP];have a:=PG m (ze l p) X hb H;unfold JG at a;have v:Inc m := .inl (by omega)
 by_cases c1:ze l p=123
 ·rw[if_pos c1];rw[if_pos (by omega)] at a
  by_cases c2:8<d
  ·rw[if_pos c2];rw[if_pos (by omega)] at a;exact uI l m p J v 3 (by decide) (by rw[a]) (λh=>by omega)
  rw[if_neg c2];rw[if_neg (by omega)] at a;simp only at a;rw[if_neg (by omega),if_neg (by omega)] at a;have n:=zU l p (by omega);have B:=xe l m _ p n a;obtain⟨c,g⟩:∃c:zg,c={ (lay { m with state:=3 } { kind:=1,text:=⟨#[]⟩,names:=[],kids:=[] }) with opn:=m.opn++[m.nodes.length] }:=⟨_,rfl⟩
  rw[<- g] at B;have o:qo m c 1 [] []:=iV m c { kind:=1,text:=⟨#[]⟩,names:=[],kids:=[] } F (by rw[g]) (by rw[g];exact (Y0 m { m with state:=3 } rfl rfl rfl _).1) (by rw[g];exact (Y0 m { m with state:=3 } rfl rfl rfl _).2) rfl
  have y:c.state=3:=by rw[g];exact gV _ _
  have k:=B.trans (QY l c (by omega) (p+1));have K:=yf l (p+1);have z:=jT l (p+1) (by omega)
  by_cases c3:ze l (skip l (p+1))=125
  ·rw[if_pos c3];have i:=step_end c (ze l (skip l (p+1))) (.inr ⟨y,c3⟩);rw[c3] at i;have e:vU c ((125:Nat):Int)=_:=eX o;rw[e] at i;have x:=zU l (skip l (p+1)) (by omega);have D:=k.trans (xe l c _ (skip l (p+1)) x (by rw[c3];exact i));refine⟨by omega,by omega,_,?_,D⟩;exact oZ (ms:=[]) o rfl rfl rfl rfl
  rw[if_neg c3]
  have:=V m c d (skip l (p+1)) [] o (.inl y) hd z (uC l _) (by omega) (by omega)
  exact this.of_eq (by omega) k
 rw[if_neg c1]
 by_cases c2:ze l p=91
 ·rw[if_pos c2];rw[if_pos (by omega)] at a
  by_cases c3:8<d
  ·rw[if_pos c3];rw[if_pos (by omega)] at a;exact uI l m p J v 3 (by decide) (by rw[a]) (λh=>by omega)
  rw[if_neg c3];rw[if_neg (by omega)] at a;simp only at a;rw[if_pos (by omega),if_pos (by omega)] at a;have n:=zU l p (by omega);have B:=xe l m _ p n a;obtain⟨c,g⟩:∃c:zg,c={ (lay { m with state:=2 } { kind:=2,text:=⟨#[]⟩,names:=[],kids:=[] }) with opn:=m.opn++[m.nodes.length] }:=⟨_,rfl⟩
  rw[<- g] at B;have o:qo m c 2 [] []:=iV m c { kind:=2,text:=⟨#[]⟩,names:=[],kids:=[] } F (by rw[g]) (by rw[g];exact (Y0 m { m with state:=2 } rfl rfl rfl _).1) (by rw[g];exact (Y0 m { m with state:=2 } rfl rfl rfl _).2) rfl
  have y:c.state=2:=by rw[g];exact gV _ _
  have k:=B.trans (QY l c (by omega) (p+1));have K:=yf l (p+1);have z:=jT l (p+1) (by omega)
  by_cases c4:ze l (skip l (p+1))=93
  ·rw[if_pos c4];have i:=step_end c (ze l (skip l (p+1))) (.inl ⟨y,c4⟩);rw[c4] at i;have e:vU c ((93:Nat):Int)=_:=eU o;rw[e] at i;have x:=zU l (skip l (p+1)) (by omega);have D:=k.trans (xe l c _ (skip l (p+1)) x (by rw[c4];exact i));refine⟨by omega,by omega,_,?_,D⟩;exact oW o rfl rfl rfl rfl
  rw[if_neg c4]
  have:=U m c d (skip l (p+1)) [] o (.inr y) hd z (uC l _) (by omega) (by omega)
  exact this.of_eq (by omega) k
 rw[if_neg c2];rw[if_neg (by omega)] at a
 by_cases c3:ze l p=34
 ·rw[if_pos c3];rw[if_pos (by omega)] at a;have n:=zU l p (by omega);have B:=xe l m _ p n a;have t:=af l { m with state:=8,named:=false,got:=⟨#[]⟩ } (p+1) (by omega) rfl rfl
  cases G:jg l (p+1) with
  | err e q=>rw[G] at t;exact Fails.of_eq t B
  | ok s q=>
   rw[G] at t;obtain⟨h1,S,T,c,⟨k1,M,k3,k4,k5,k6⟩,W⟩:=t;simp only
   have A:Ref.step c (ze l (q-1):Int)=closed c:=by
    rw[VG c _ k1,T];unfold plain;rw[if_pos (by decide)]
   unfold closed at A;rw[if_pos (by rw[k4])] at A;have k:=xe l c _ (q-1) (by omega) A;rw[show q-1+1=q by omega] at k;refine⟨by omega,S,_,?_,(B.trans W).trans k⟩;have I:=Y0 m c M k3 k5 { kind:=3,text:=c.got,names:=[],kids:=[] };refine oV m _ { kind:=3,text:=c.got,names:=[],kids:=[] } _ F rfl ?_ I.1 I.2 ?_
   ·show (lay c _).opn=_;rw[gT,M]
   ·show Rep (lay c _).nodes _ _;rw[I.1];exact .str _ _ s (Kh m _ F) rfl k6 rfl rfl
 rw[if_neg c3];rw[if_neg (by omega)] at a
 have j:∀(E:Bool) (w:BA) (r:List Nat),r≠[]->w.data.toList.map UInt8.toNat=r->(∀b ∈ r,b≠0)->p<l.length ->
   Ref.step m (ze l p:Int)=(0,{ lay m { kind:=if E then 4 else 5,text:=⟨#[]⟩,names:=[],kids:=[] } with state:=7,word:=w }) ->
   Q9 l m m p (match zM l r (p+1) with | .ok _ q => .ok (.word E) q | .err e q => .err e q):=by
  intro E w r G Y Z n a;have B:=xe l m _ p n a;have C:=Ta l r { lay m { kind:=if E then 4 else 5,text:=⟨#[]⟩,names:=[],kids:=[] } with state:=7,word:=w } (p+1) (by omega) G rfl Y Z
  cases hr2:zM l r (p+1) with
  | err e q=>rw[hr2] at C;exact Fails.of_eq C B
  | ok u q=>
   rw[hr2] at C;obtain⟨g1,N,c,O,P,L,Q,R⟩:=C;refine⟨by omega,N,c,?_,B.trans R⟩;refine oV m c { kind:=if E then 4 else 5,text:=⟨#[]⟩,names:=[],kids:=[] } _ F O (by rw[P];exact gT _ _) L Q ?_
   rw[L];exact .word _ _ E (Kh m _ F) rfl rfl rfl
 by_cases c4:ze l p=116
 ·rw[if_pos c4];rw[if_pos (by omega)] at a;exact j true ⟨#[114,117,101]⟩ [114,117,101] (by decide) (by decide) (by decide) (zU l p (by omega)) a
 rw[if_neg c4];rw[if_neg (by omega)] at a
 by_cases c5:ze l p=102
 ·rw[if_pos c5];rw[if_pos (by omega)] at a;exact j false ⟨#[97,108,115,101]⟩ [97,108,115,101] (by decide) (by decide) (by decide) (zU l p (by omega)) a
 rw[if_neg c5];rw[if_neg (by omega)] at a;exact uI l m p J v 2 (by decide) (by rw[a]) (λ_=>rfl)
theorem rQ(l:List UInt8)(f:Nat):AV l f/\AL l f/\AO l f:=by
 induction f with
 | zero=>exact⟨λm d p _ _ _ _ _ _ h=>by omega,λb m d p acc _ _ _ _ _ _ h=>by omega,λb m d p acc _ _ _ _ _ _ h=>by omega⟩
 | succ f a=>exact⟨SB l f a.2.1 a.2.2,Ic l f a.1 a.2.1,Lv l f a.1 a.2.2⟩
def xO(l:List UInt8):Res V:=match zP l (2*l.length+1) 1 (skip l 0) with
 | .err e q => .err e q
 | .ok v q=>if skip l q<l.length then .err 2 (skip l q) else .ok v (skip l q)
def jX(t:BA):List Value:=t.data.toList.map λc => .int .u8 (c.toNat:Int)
theorem byte_of(x:Int)(a:0<=x)(b:x<256):((UInt8.ofNat x.toNat).toNat:Int)=x:=by
 rw[UInt8.toNat_ofNat'];omega
theorem Og(n:Int)(a:0<=n)(b:n<=65535)(c:¬(55296<=n/\n<=57343)):Lib.runeCells n=jX (enc n):=by
 unfold Lib.runeCells jX enc
 by_cases c1:n<128
 ·rw[if_pos c1,Lib.encodeRuneZ_one a (by omega)];unfold one;simp only[List.map_cons,List.map_nil];rw[byte_of n a (by omega)]
 by_cases c2:n<2048
 ·rw[if_neg c1,if_pos c2,Lib.encodeRuneZ_two (by omega) (by omega)];simp only[List.map_cons,List.map_nil];rw[byte_of (192+n / 64) (by omega) (by omega),byte_of (128+n % 64) (by omega) (by omega)]
 ·rw[if_neg c1,if_neg c2,Lib.encodeRuneZ_three (by omega)];simp only[List.map_cons,List.map_nil];rw[byte_of (224+n / 4096) (by omega) (by omega),byte_of (128+n / 64 % 64) (by omega) (by omega),byte_of (128+n % 64) (by omega) (by omega)]
theorem Uf(a b:BA):jX (a++b)=jX a++jX b:=by
 unfold jX;simp
theorem wF(a:BA):(jX a).length=a.size:=by
 unfold jX;rw[List.length_map,zy]
def vG(k:Nat):Nat:=[194,224,225,237,238,240,241,244].getD k 0
def vZ(k:Nat):Nat:=[223,224,236,237,239,240,243,244].getD k 0
def Zg(k:Nat):Nat:=[1,2,2,2,2,3,3,3].getD k 0
def Qo(k:Nat):Nat:=[128,160,128,128,128,144,128,128].getD k 0
def QP(k:Nat):Nat:=[191,191,191,159,191,191,191,143].getD k 0
theorem lt8{k:Nat}(h:k<8):k=0\/k=1\/k=2\/k=3\/k=4\/k=5\/k=6\/k=7:=by omega
theorem VD(k:Nat)(a:k<8):128<=vG k/\vG k<256/\vZ k<256/\1<=Zg k/\Zg k<=3/\0<Qo k/\Qo k<256/\QP k<256:=by
 rcases lt8 a with rfl|rfl|rfl|rfl|rfl|rfl|rfl|rfl<;>decide
theorem Kj(b k:Nat)(d:k<8)(a:vG k<=b)(c:b<=vZ k):zY (b:Int)=((Zg k:Int),(Qo k:Int),(QP k:Int)):=by
 unfold zY
 rcases lt8 d with rfl|rfl|rfl|rfl|rfl|rfl|rfl|rfl<;>simp[vG,vZ,Zg,Qo,QP] at a c |-<;>(repeat' split)<;>first|rfl|omega
theorem Hm(b:Nat)(h:∀k,k<8->b<vG k\/vZ k<b):zY (b:Int)=(0,0,0):=by
 have a:=h 0 (by omega);have c:=h 1 (by omega);have d:=h 2 (by omega);have e:=h 3 (by omega);have f:=h 4 (by omega);have g:=h 5 (by omega);have i:=h 6 (by omega);have j:=h 7 (by omega);simp[vG,vZ] at a c d e f g i j;unfold zY
 repeat' split
 all_goals first|rfl|omega
def piece(l:List UInt8)(p q:Nat):BA:=⟨((l.drop p).take (q-p)).toArray⟩
theorem OC(l:List UInt8)(p:Nat)(h:zY (ze l p:Int)=(0,0,0)):yT l p = .err 2 p:=by
 unfold yT;simp only;rw[h];rfl
def VO(l:List UInt8)(p j:Nat):Prop:=∀i,i<j->within l 128 191 (p+2+i)=true
theorem mH(l:List UInt8)(p:Nat)(h:p<l.length):one (ze l p:Int)=⟨#[l[p]]⟩:=by
 unfold one;rw[KN l p h]
 simp
theorem VS(l:List UInt8)(lo hi p:Nat)(a:0<lo)(h:within l lo hi p=true):p<l.length:=by
 unfold within at h;simp at h;exact zU l p (by omega)
theorem MW(l:List UInt8)(p:Nat)(h:p<l.length):piece l p (p+1)=one (ze l p:Int):=by
 rw[mH l p h]
 have e:(l.drop p).take (p+1-p)=[l[p]]:=by
  rw[List.drop_eq_getElem_cons h,show p+1-p=1 by omega];rfl
 unfold piece;rw[e]
theorem piece_more(l:List UInt8)(p q:Nat)(a:p<=q)(h:q<l.length):piece l p (q+1)=piece l p q++one (ze l q:Int):=by
 rw[mH l q h];unfold piece;rw[show q+1-p=(q-p)+1 by omega,List.take_add_one]
 have:(l.drop p)[q-p]?=some l[q]:=by
  rw[List.getElem?_drop,show p+(q-p)=q by omega,List.getElem?_eq_getElem h]
 rw[this];apply ByteArray.ext;simp[ByteArray.data_append]
theorem OQ(l:List UInt8)(p k:Nat)(a:k<8)(b:vG k<=ze l p)(c:ze l p<=vZ k)(d:within l (Qo k) (QP k) (p+1)=false):yT l p = .err 2 (p+1):=by
 have hb:=VD k a;unfold yT;simp only;rw[Kj _ k a b c,if_neg (by simp;omega)];simp only[Int.toNat_natCast];rw[if_pos d]
theorem OU(l:List UInt8)(p k j:Nat)(a:k<8)(b:vG k<=ze l p)(c:ze l p<=vZ k)(g:within l (Qo k) (QP k) (p+1)=true)(e:VO l p j)(f:j+1<Zg k)(hb:within l 128 191 (p+2+j)=false):yT l p = .err 2 (p+2+j):=by
 have d:=VD k a;unfold yT;simp only;rw[Kj _ k a b c,if_neg (by simp;omega)];simp only[Int.toNat_natCast];rw[if_neg (by rw[g];decide),if_neg (by omega)]
 match j with
 | 0=>rw[if_pos (by simpa using hb)]
 | 1=>
  have:=e 0 (by omega)
  rw[if_neg (by rw[show p+2=p+2+0 by omega,this];decide),if_neg (by omega),if_pos (by simpa using hb)]
 | j+2=>omega
theorem OB(l:List UInt8)(p k:Nat)(e:k<8)(h:vG k<=ze l p)(i:ze l p<=vZ k)(f:within l (Qo k) (QP k) (p+1)=true)(c:VO l p (Zg k-1)):yT l p = .ok (piece l p (p+1+Zg k)) (p+1+Zg k):=by
 have hb:=VD k e;have o:p<l.length:=zU l p (by omega);have q:=VS l _ _ _ (by omega) f;unfold yT;simp only;rw[Kj _ k e h i,if_neg (by simp;omega)];simp only[Int.toNat_natCast];rw[if_neg (by rw[f];decide)]
 have d:piece l p (p+2)=one (ze l p:Int)++one (ze l (p+1):Int):=by
  rw[piece_more l p (p+1) (by omega) q,MW l p o]
 obtain⟨n,m⟩:=Nm (Zg k);rw[m] at c hb |-;have j:n=1\/n=2\/n=3:=by omega
 rcases j with rfl|rfl|rfl
 ·rw[if_pos (by simp),d]
 ·have a:=c 0 (by omega);have b:=VS l _ _ _ (by omega) a;simp only[Nat.add_zero] at a b;rw[if_neg (by simp),if_neg (by rw[a];decide),if_pos (by simp),piece_more l p (p+2) (by omega) b,d]
 ·have a:=c 0 (by omega);have g:=c 1 (by omega);have b:=VS l _ _ _ (by omega) a;have r:=VS l _ _ _ (by omega) g;simp only[Nat.add_zero] at a b;rw[if_neg (by simp),if_neg (by rw[a];decide),if_neg (by simp),if_neg (by rw[show p+3=p+2+1 by omega,g];decide),piece_more l p (p+3) (by omega) r,piece_more l p (p+2) (by omega) b,d]
theorem Y6(n:Int):(one n).size=1:=rfl
theorem eT(n:Int):(enc n).size<=3:=by
 unfold enc
 split
 ·rw[Y6];omega
 split
 ·exact (by decide:2<=3)
 ·exact (by decide:3<=3)
theorem DZ{l:List UInt8}{p q:Nat}{u:BA}(h:jL l p = .ok u q):q=p+4/\u.size<=3:=by
 unfold jL at h;simp only at h
 repeat' split at h
 all_goals first|(cases h;done)|(injection h with h1 h2;subst h1;exact⟨h2.symm,eT _⟩)
theorem Dh{l:List UInt8}{p q:Nat}{u:BA}(h:jb l p = .ok u q):p<q/\u.size<=q-p:=by
 unfold jb at h;simp only at h
 repeat' split at h
 all_goals first
  | (cases h;done)
  | (injection h with h1 h2;subst h1;rw[Y6];omega)
  | (have:=DZ h;omega)
theorem Oz{l:List UInt8}{p q:Nat}{u:BA}(h:yT l p = .ok u q):p<q/\u.size<=q-p:=by
 unfold yT at h;simp only at h
 repeat' split at h
 all_goals first
  | (cases h;done)
  | (injection h with h1 h2;subst h1;simp only[ByteArray.size_append,Y6];omega)
theorem dA{l:List UInt8}{p q:Nat}{u:BA}(h:xy l p = .ok u q):p<q/\u.size<=q-p:=by
 unfold xy at h;simp only at h
 repeat' split at h
 all_goals first
  | (cases h;done)
  | (injection h with h1 h2;subst h1;rw[Y6];omega)
  | (have:=Dh h;omega)
  | exact Oz h
theorem Rs{l:List UInt8}{f p q:Nat}{acc u:BA}(a:ze l p≠34)(h:xy l p = .ok u q):qd l (f+1) p acc=qd l f q (acc++u):=by
 rw[qd,if_neg a,h]
theorem Rp{l:List UInt8}{f p q:Nat}{acc:BA}{c:Int}(a:ze l p≠34)(h:xy l p = .err c q):qd l (f+1) p acc = .err c q:=by
 rw[qd,if_neg a,h]
theorem Ro{l:List UInt8}{f p:Nat}{acc:BA}(a:ze l p=34):qd l (f+1) p acc = .ok acc (p+1):=by
 rw[qd,if_pos a]
def xM(l:List UInt8)(p:Nat):Res BA:=if ze l p=34 then jg l (p+1) else .err 2 p
theorem mZ(l:List UInt8)(p:Nat):zM l [34] p=if ze l p=34 then .ok () (p+1) else .err 2 p:=by
 simp only[zM]
theorem OV{l:List UInt8}{p q:Nat}{c:Int}(h:yT l p = .err c q):c=2:=by
 unfold yT at h;simp only at h
 repeat' split at h
 all_goals first|(cases h;done)|(injection h with h1 h2;exact h1.symm)
theorem Ef{l:List UInt8}{p q:Nat}{c:Int}(h:jL l p = .err c q):c=2:=by
 unfold jL at h;simp only at h
 repeat' split at h
 all_goals first|(cases h;done)|(injection h with h1 h2;exact h1.symm)
theorem Dk{l:List UInt8}{p q:Nat}{c:Int}(h:jb l p = .err c q):c=2:=by
 unfold jb at h;simp only at h
 repeat' split at h
 all_goals first
  | (cases h;done)
  | (injection h with h1 h2;exact h1.symm)
  | exact Ef h
theorem wY{l:List UInt8}{p q:Nat}{c:Int}(h:xy l p = .err c q):c=2:=by
 unfold xy at h;simp only at h
 repeat' split at h
 all_goals first
  | (cases h;done)
  | (injection h with h1 h2;exact h1.symm)
  | exact Dk h
  | exact OV h
theorem VK{l:List UInt8}:∀{f p q:Nat} {acc:BA} {c:Int},qd l f p acc = .err c q->c=2
 | 0,p,q,acc,c,h=>by rw[qd] at h;injection h with h1 h2;exact h1.symm
 | f+1,p,q,acc,c,h=>by
  rw[qd] at h
  split at h
  ·cases h
  cases hc:xy l p with
  | ok u a=>rw[hc] at h;exact VK h
  | err b a=>rw[hc] at h;injection h with h1 h2;rw[<- h1];exact wY hc
theorem mY{l:List UInt8}{p q:Nat}{c:Int}(h:xM l p = .err c q):c=2:=by
 unfold xM at h
 split at h
 ·exact VK h
 ·injection h with h1 h2;exact h1.symm
theorem Jr{l:List UInt8}:∀{r:List Nat} {p q:Nat} {c:Int},zM l r p = .err c q->c=2
 | [],p,q,c,h=>by rw[zM] at h;cases h
 | b::r,p,q,c,h=>by
  rw[zM] at h
  split at h
  ·exact Jr h
  ·injection h with h1 h2;exact h1.symm
def yP{α:Type}(l:List UInt8)(d:Nat->α->Nat->Res α)(e:Nat):Nat->α->Nat->Res α
 | 0,_,p => .err 2 p
 | f+1,a,p=>match d f a p with
  | .err c q => .err c q
  | .ok b q=>
   if ze l (skip l q)=44 then yP l d e f b (skip l (skip l q+1))
   else if ze l (skip l q)=e then .ok b (skip l q+1)
   else .err 2 (skip l q)
def jM{α:Type}(l:List UInt8)(b:Nat->α->Nat->Res α)(e:Nat)(f d:Nat)(a:α)(p:Nat):Res α:=
 if 8<d then .err 3 p
 else if ze l (skip l (p+1))=e then .ok a (skip l (p+1)+1)
 else yP l b e f a (skip l (p+1))
def Res.map{α β:Type}(g:α->β):Res α->Res β
 | .ok a q => .ok (g a) q
 | .err c q => .err c q
def stL(l:List UInt8)(d:Nat)(f:Nat)(acc:List V)(q:Nat):Res (List V):=match zP l f (d+1) q with
 | .ok v a => .ok (acc++[v]) a
 | .err c a => .err c a
def ZF(l:List UInt8)(d:Nat)(f:Nat)(acc:List (BA×V))(q:Nat):Res (BA×V):=match xM l q with
 | .err c b => .err c b
 | .ok s b=>
  if acc.any (λx=>x.1.toList==s.toList) then .err 4 (b-1)
  else if ze l (skip l b)≠58 then .err 2 (skip l b)
  else match zP l f (d+1) (skip l (skip l b+1)) with
  | .err c a => .err c a
  | .ok v a => .ok (s,v) a
def stO(l:List UInt8)(d:Nat)(f:Nat)(acc:List (BA×V))(q:Nat):Res (List (BA×V)):=match ZF l d f acc q with
 | .ok m a => .ok (acc++[m]) a
 | .err c a => .err c a
theorem gZ(l:List UInt8)(d:Nat):∀(f p:Nat) (acc:List V),jO l f d p acc=(yP l (stL l d) 93 f acc p).map .list
 | 0,p,acc=>by rw[jO,yP,Res.map]
 | f+1,p,acc=>by
  rw[jO,yP,stL]
  cases hv:zP l f (d+1) p with
  | err c q=>rfl
  | ok v q=>
   simp only
   split
   ·exact gZ l d f _ _
   split
   ·rfl
   ·rfl
theorem lD(l:List UInt8)(d:Nat):∀(f p:Nat) (acc:List (BA×V)),jP l f d p acc=(yP l (stO l d) 125 f acc p).map .obj
 | 0,p,acc=>by rw[jP,yP,Res.map]
 | f+1,p,acc=>by
  rw[jP,yP,stO,ZF,xM]
  by_cases h:ze l p=34
  ·rw[if_neg (by simp[h]),if_pos h]
   cases hs:jg l (p+1) with
   | err c q=>rfl
   | ok s q=>
    simp only
    by_cases ht:acc.any (λx=>x.1.toList==s.toList)=true
    ·rw[if_pos ht,if_pos ht];rfl
    rw[if_neg ht,if_neg ht]
    by_cases h58:ze l (skip l q)≠58
    ·rw[if_pos h58,if_pos h58];rfl
    rw[if_neg h58,if_neg h58]
    cases hv:zP l f (d+1) (skip l (skip l q+1)) with
    | err c a=>rfl
    | ok v a=>
     simp only
     split
     ·exact lD l d f _ _
     split
     ·rfl
     ·rfl
  ·rw[if_pos h,if_neg h];rfl
theorem Sy(l:List UInt8)(f d p:Nat)(h:ze l p=91):zP l (f+1) d p=(jM l (stL l d) 93 f d [] p).map .list:=by
 rw[zP,if_neg (by omega),if_pos h];unfold jM
 split
 ·rfl
 split
 ·rfl
 ·exact gZ l d f _ _
theorem SA(l:List UInt8)(f d p:Nat)(h:ze l p=123):zP l (f+1) d p=(jM l (stO l d) 125 f d [] p).map .obj:=by
 rw[zP,if_pos h];unfold jM
 split
 ·rfl
 split
 ·rfl
 ·exact lD l d f _ _
theorem SE(l:List UInt8)(f d p:Nat)(h:ze l p=34):zP l (f+1) d p=(xM l p).map .str:=by
 rw[zP,if_neg (by omega),if_neg (by omega),if_pos h,xM,if_pos h]
 cases jg l (p+1)<;>rfl
theorem SF(l:List UInt8)(f d p:Nat)(h:ze l p=116):zP l (f+1) d p=(zM l [116,114,117,101] p).map (λ_ => .word true):=by
 rw[zP,if_neg (by omega),if_neg (by omega),if_neg (by omega),if_pos h]
 conv=>rhs;rw[zM,if_pos h]
 cases zM l [114,117,101] (p+1)<;>rfl
theorem Sw(l:List UInt8)(f d p:Nat)(h:ze l p=102):zP l (f+1) d p=(zM l [102,97,108,115,101] p).map (λ_ => .word false):=by
 rw[zP,if_neg (by omega),if_neg (by omega),if_neg (by omega),if_neg (by omega),if_pos h]
 conv=>rhs;rw[zM,if_pos h]
 cases zM l [97,108,115,101] (p+1)<;>rfl
theorem Sz(l:List UInt8)(f d p:Nat)(a:ze l p≠123)(b:ze l p≠91)(c:ze l p≠34)(e:ze l p≠116)(g:ze l p≠102):zP l (f+1) d p = .err 2 p:=by
 rw[zP,if_neg a,if_neg b,if_neg c,if_neg e,if_neg g]
def UF(d:Nat):zg:={ init with opn:=List.replicate (d-1) 0,nodes:=[⟨2,⟨#[]⟩,[],[]⟩] }
theorem VR{l:List UInt8}{f d p q:Nat}{v:V}(hd:1<=d)(e:p<=l.length)(hb:blank (ze l p)=false)(b:2*(l.length-p)<f)(h:zP l f d p = .ok v q):p<q/\q<=l.length:=by
 have:=(rQ l f).1 (UF d) d p (.inl rfl) (λo c=>by
  have:o=0:=List.eq_of_mem_replicate c
  rw[this];exact Nat.zero_lt_one) (by simp[UF];omega) e hb (λh=>by have a:=h.1;simp[UF,init] at a) b
 rw[h] at this;exact⟨this.1,this.2.1⟩
theorem oK{l:List UInt8}:∀{f p q:Nat} {acc t:BA},qd l f p acc = .ok t q->p<q/\t.size<=acc.size+(q-p)
 | 0,p,q,acc,t,h=>by rw[qd] at h;cases h
 | f+1,p,q,acc,t,h=>by
  rw[qd] at h
  split at h
  ·injection h with a b;subst a;omega
  cases hc:xy l p with
  | ok u c=>
   rw[hc] at h;have a:=dA hc;have b:=oK (acc:=acc++u) h;rw[ByteArray.size_append] at b;omega
  | err d c=>rw[hc] at h;cases h
theorem Vy{l:List UInt8}{p q:Nat}{t:BA}(h:xM l p = .ok t q):p+1<q/\t.size<=q:=by
 unfold xM jg at h
 split at h
 ·have:=oK h
  have e:(ByteArray.mk #[]).size=0:=rfl;omega
 ·cases h
theorem Vz{l:List UInt8}{p q:Nat}{t:BA}(h:xM l p = .ok t q):q<=l.length:=by
 unfold xM at h
 split at h
 ·rename_i a;have b:=zU l p (by omega)
  have:=af l { init with state:=8,got:=⟨#[]⟩ } (p+1) (by omega) rfl rfl
  rw[h] at this;exact this.2.1
 ·cases h
end Rd
end Go.Proofs.YtdakgnaojakldaaGreatDoor
