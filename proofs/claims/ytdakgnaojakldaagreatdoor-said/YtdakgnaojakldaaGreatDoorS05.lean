/- P -/
import Derived.Test.YtdakgnaojakldaaGreatDoorS04
import Derived.Lib.RuneBytes
set_option maxRecDepth 100000
namespace Go.Proofs.YtdakgnaojakldaaGreatDoor
namespace Rd
open Ref
def zf(l:List UInt8)(p:Nat):Nat:=(l.getD p 0).toNat
inductive Res (α:Type) where
 | ok (v:α) (p:Nat)
 | err (e:Int) (p:Nat)
def verdict(l:List UInt8)(m:zi)(p:Nat):Int×Nat×zi:=
 if (Ref.run m (l.drop p) p).1≠0 then Ref.run m (l.drop p) p
 else if (Ref.run m (l.drop p) p).2.2.state≠6\/(Ref.run m (l.drop p) p).2.2.opn≠[] then (2,l.length,(Ref.run m (l.drop p) p).2.2)
 else Ref.run m (l.drop p) p
def Inc(m:zi):Prop:=m.state≠6\/m.opn≠[]
def Fails(l:List UInt8)(m:zi)(p:Nat)(e:Int)(q:Nat):Prop:=(verdict l m p).1=e/\(verdict l m p).2.1=q
theorem VU(l:List UInt8)(p:Nat)(h:p<l.length):zf l p=l[p].toNat:=by
 unfold zf;rw[List.getD_eq_getElem?_getD,List.getElem?_eq_getElem h];rfl
theorem Y5(l:List UInt8)(p:Nat)(h:¬p<l.length):zf l p=0:=by
 unfold zf;rw[List.getD_eq_getElem?_getD,List.getElem?_eq_none (by omega)];rfl
theorem zP(l:List UInt8)(p:Nat)(h:zf l p≠0):p<l.length:=by
 rcases Nat.lt_or_ge p l.length with h1|h1
 ·exact h1
 ·exact absurd (Y5 l p (by omega)) h
theorem uA(l:List UInt8)(p:Nat):zf l p<256:=UInt8.toNat_lt _
theorem V5(l:List UInt8)(m:zi)(p:Nat)(h:p<l.length):Ref.run m (l.drop p) p=if (Ref.step m (zf l p:Int)).1=0 then Ref.run (Ref.step m (zf l p:Int)).2 (l.drop (p+1)) (p+1) else ((Ref.step m (zf l p:Int)).1,p,m):=by
 rw[List.drop_eq_getElem_cons h,Ref.run,VU l p h]
theorem qL(l:List UInt8)(m m':zi)(p:Nat)(h:p<l.length)(a:Ref.step m (zf l p:Int)=(0,m')):verdict l m p=verdict l m' (p+1):=by
 have e:Ref.run m (l.drop p) p=Ref.run m' (l.drop (p+1)) (p+1):=by rw[V5 l m p h,a];rfl
 unfold verdict;rw[e]
theorem vD(l:List UInt8)(m:zi)(p:Nat)(j:p<=l.length)(hi:Inc m)(e:Int)(d:e≠0)(f:(Ref.step m (zf l p:Int)).1=e)(i:zf l p=0->e=2):Fails l m p e p:=by
 by_cases h:p<l.length
 ·have a:Ref.run m (l.drop p) p=(e,p,m):=by
   rw[V5 l m p h,if_neg (by rw[f];exact d),f]
  unfold Fails verdict;rw[a,if_pos d];exact⟨rfl,rfl⟩
 ·have g:=i (Y5 l p h);have c:p=l.length:=by omega
  have a:Ref.run m (l.drop p) p=(0,p,m):=by rw[List.drop_of_length_le (by omega),Ref.run]
  unfold Fails verdict;have b:(0,p,m).2.2.state≠6\/(0,p,m).2.2.opn≠[]:=hi;rw[a,if_neg (by simp),if_pos b,g,c];exact⟨rfl,rfl⟩
theorem Fails.of_eq{l:List UInt8}{m m':zi}{p a:Nat}{e:Int}{q:Nat}(h:Fails l m' a e q)(b:verdict l m p=verdict l m' a):Fails l m p e q:=by
 unfold Fails at *;rw[b];exact h
def blank(b:Nat):Bool:=b==32||b==9||b==10||b==13
theorem XD(b:Nat):YB (b:Int)=blank b:=by
 unfold YB blank;rw[Bool.eq_iff_iff]
 simp
 omega
def Jg(l:List UInt8):Nat->Nat->Nat
 | 0,p=>p
 | f+1,p=>if blank (zf l p) then Jg l f (p+1) else p
def skip(l:List UInt8)(p:Nat):Nat:=Jg l (l.length-p) p
theorem QP(l:List UInt8)(p:Nat)(h:blank (zf l p)=true):p<l.length:=by
 apply zP;intro e;rw[e] at h;exact absurd h (by decide)
theorem uI(l:List UInt8)(p:Nat):skip l p=if blank (zf l p) then skip l (p+1) else p:=by
 unfold skip
 by_cases h:p<l.length
 ·obtain⟨k,a⟩:∃k,l.length-p=k+1:=⟨l.length-p-1,by omega⟩;rw[a,Jg,show l.length-(p+1)=k by omega]
 ·have e:l.length-p=0:=by omega
  rw[e,Jg,if_neg];intro hb;exact h (QP l p hb)
theorem IJ(m:zi)(a:m.state<7)(b:Nat)(hb:blank b=true):Ref.step m (b:Int)=(0,m):=by
 rw[Yf m _ a,XD,hb,if_pos rfl]
theorem Z0(l:List UInt8)(m:zi)(a:m.state<7)(p:Nat):verdict l m p=verdict l m (skip l p):=by
 generalize c:l.length-p=n
 induction n generalizing p with
 | zero=>
  rw[uI,if_neg];intro hb
  have:=QP l p hb
  omega
 | succ n b=>
  rw[uI]
  by_cases hb:blank (zf l p)=true
  ·rw[if_pos hb,<- b (p+1) (by omega)];exact qL l m m p (by omega) (IJ m a _ hb)
  ·rw[if_neg hb]
theorem xJ(l:List UInt8)(p:Nat):p<=skip l p:=by
 generalize b:l.length-p=n
 induction n generalizing p with
 | zero=>rw[uI];split<;>rename_i h<;>first|(have:=QP l p h;omega)|omega
 | succ n a=>
  rw[uI]
  split
  ·have:=a (p+1) (by omega);omega
  ·omega
theorem jc(l:List UInt8)(p:Nat)(c:p<=l.length):skip l p<=l.length:=by
 generalize b:l.length-p=n
 induction n generalizing p with
 | zero=>rw[uI];split<;>rename_i h<;>first|(have:=QP l p h;omega)|omega
 | succ n a=>
  rw[uI]
  split
  ·exact a (p+1) (by omega) (by omega)
  ·omega
theorem vB(l:List UInt8)(p:Nat):blank (zf l (skip l p))=false:=by
 generalize b:l.length-p=n
 induction n generalizing p with
 | zero=>
  rw[uI]
  split
  ·rename_i h;have:=QP l p h;omega
  ·rename_i h;simpa using h
 | succ n a=>
  rw[uI]
  split
  ·exact a (p+1) (by omega)
  ·rename_i h;simpa using h
def Within(m m':zi)(g:BY):Prop:=m'.state=8/\m'.opn=m.opn/\m'.nodes=m.nodes/\m'.named=m.named/\m'.root=m.root/\m'.got=m.got++g
def within(l:List UInt8)(lo hi p:Nat):Bool:=decide (lo<=zf l p/\zf l p<=hi)
def yD(l:List UInt8)(p:Nat):Res BY:=
 let r:=zR (zf l p:Int)
 if r.1=0 then .err 2 p
 else if within l r.2.1.toNat r.2.2.toNat (p+1)=false then .err 2 (p+1)
 else if r.1=1 then .ok (one (zf l p)++one (zf l (p+1))) (p+2)
 else if within l 128 191 (p+2)=false then .err 2 (p+2)
 else if r.1=2 then .ok (one (zf l p)++one (zf l (p+1))++one (zf l (p+2))) (p+3)
 else if within l 128 191 (p+3)=false then .err 2 (p+3)
 else .ok (one (zf l p)++one (zf l (p+1))++one (zf l (p+2))++one (zf l (p+3))) (p+4)
def jK(l:List UInt8)(p:Nat):Res BY:=
 let a:=zC (zf l p)
 let b:=zC (zf l (p+1))
 let c:=zC (zf l (p+2))
 let d:=zC (zf l (p+3))
 if a<0 then .err 2 p
 else if b<0\/(a=13/\8<=b) then .err 2 (p+1)
 else if c<0 then .err 2 (p+2)
 else if d<0 then .err 2 (p+3)
 else .ok (enc (((a*16+b)*16+c)*16+d)) (p+4)
def jh(l:List UInt8)(p:Nat):Res BY:=
 let b:=zf l p
 if b=34\/b=92\/b=47 then .ok (one b) (p+1)
 else if b=110 then .ok (one 10) (p+1)
 else if b=116 then .ok (one 9) (p+1)
 else if b=117 then jK l (p+1)
 else .err 2 p
def xU(l:List UInt8)(p:Nat):Res BY:=
 let b:=zf l p
 if b<32 then .err 2 p
 else if b=92 then jh l (p+1)
 else if b<128 then .ok (one b) (p+1)
 else yD l p
def UH(l:List UInt8)(m:zi)(p:Nat)(r:Res BY):Prop:=match r with
 | .ok s q=>p<q/\q<=l.length/\∃m',Within m m' s/\verdict l m p=verdict l m' q
 | .err e q=>Fails l m p e q
theorem Qr(b:Nat):zC (b:Int)<=15:=by
 unfold zC;repeat' split
 all_goals omega
theorem Vv(l:List UInt8)(p:Nat)(h:0<=zC (zf l p)):p<l.length:=by
 apply zP;intro e;rw[e] at h;exact absurd h (by decide)
theorem V6(l:List UInt8)(m:zi)(p:Nat)(e:p<=l.length)(d:m.state=9)(lo hi:Nat)(c:m.low=lo)(b:m.high=hi)(f:0<lo) :
  (within l lo hi p=false->Fails l m p 2 p) /\
  (within l lo hi p=true->p<l.length/\verdict l m p=verdict l { m with got:=m.got++one (zf l p),low:=128,high:=191,need:=m.need-1,state:=if m.need-1=0 then 8 else 9 } (p+1)):=by
 constructor
 ·intro h;refine vD l m p e (.inl (by omega)) 2 (by decide) ?_ (λ_=>rfl);rw[Ua m _ d,c,b,if_pos];unfold within at h;simp at h;omega
 ·intro h;unfold within at h;simp at h;have a:p<l.length:=zP l p (by omega);refine⟨a,qL l m _ p a ?_⟩;rw[Ua m _ d,c,b,if_neg (by omega)]
theorem Cy(b:Nat):zR (b:Int)=(0,0,0)\/(128<=b/\∃n lo hi:Nat,zR (b:Int)=((n:Int),(lo:Int),(hi:Int))/\0<lo/\(n=1\/n=2\/n=3)):=by
 unfold zR
 split
 ·exact .inr ⟨by omega,1,128,191,rfl,by omega,by omega⟩
 split
 ·exact .inr ⟨by omega,2,160,191,rfl,by omega,by omega⟩
 split
 ·exact .inr ⟨by omega,2,128,159,rfl,by omega,by omega⟩
 split
 ·exact .inr ⟨by omega,2,128,191,rfl,by omega,by omega⟩
 split
 ·exact .inr ⟨by omega,3,144,191,rfl,by omega,by omega⟩
 split
 ·exact .inr ⟨by omega,3,128,191,rfl,by omega,by omega⟩
 split
 ·exact .inr ⟨by omega,3,128,143,rfl,by omega,by omega⟩
 exact .inl rfl
theorem JG(a b c:BY):a++b++c=a++(b++c):=by
 apply ByteArray.ext;simp
theorem Hd(l:List UInt8)(m:zi)(p:Nat)(s:m.state=8)(hb:128<=zf l p):UH l m p (yD l p):=by
 have r:p<l.length:=zP l p (by omega)
 have d:Ref.step m (zf l p:Int)=if (zR (zf l p:Int)).1=0 then (2,m) else (0,{ m with need:=(zR (zf l p:Int)).1,low:=(zR (zf l p:Int)).2.1,high:=(zR (zf l p:Int)).2.2,got:=m.got++one (zf l p),state:=9 }):=by
  rw[Jh m _ s];unfold plain;rw[if_neg (by omega),if_neg (by omega),if_neg (by omega),if_neg (by omega)]
 unfold yD
 rcases Cy (zf l p) with h0|⟨_,n,lo,hi,hr,hlo,hn⟩
 ·rw[h0] at d |-;simp only[if_true];exact vD l m p (by omega) (.inl (by omega)) 2 (by decide) (by rw[d];rfl) (λ_=>rfl)
 ·rw[hr] at d |-;simp only[Int.toNat_natCast];rw[if_neg (by omega)] at d |-;have i:=qL l m _ p r d;obtain⟨e,a⟩:∃e:zi,e={ m with need:=(n:Int),low:=(lo:Int),high:=(hi:Int),got:=m.got++one (zf l p),state:=9 }:=⟨_,rfl⟩
  rw[<- a] at i;have k:=V6 l e (p+1) (by omega) (by rw[a]) lo hi (by rw[a]) (by rw[a]) hlo
  cases w1:within l lo hi (p+1) with
  | false=>rw[if_pos rfl];exact (k.1 w1).of_eq i
  | true=>
   rw[if_neg (by decide)];obtain⟨u,g⟩:=k.2 w1;have g:=i.trans g
   by_cases n1:n=1
   ·rw[if_pos (by omega)];refine⟨by omega,by omega,_,?_,g⟩;subst n1;rw[a];exact⟨rfl,rfl,rfl,rfl,rfl,by simp only;rw[JG]⟩
   rw[if_neg (by omega)];obtain⟨f,b⟩:∃f:zi,f={ e with got:=e.got++one (zf l (p+1)),low:=128,high:=191,need:=e.need-1,state:=if e.need-1=0 then 8 else 9 }:=⟨_,rfl⟩
   rw[<- b] at g;have o:=V6 l f (p+2) (by omega) (by rw[b];simp only;rw[if_neg];rw[a];simp only;omega) 128 191 (by rw[b];rfl) (by rw[b];rfl) (by omega)
   cases w2:within l 128 191 (p+2) with
   | false=>rw[if_pos rfl];exact (o.1 w2).of_eq g
   | true=>
    rw[if_neg (by decide)];obtain⟨q2,h⟩:=o.2 w2;have h:=g.trans h
    by_cases n2:n=2
    ·rw[if_pos (by omega)];refine⟨by omega,by omega,_,?_,h⟩;subst n2;rw[b,a];exact⟨rfl,rfl,rfl,rfl,rfl,by simp only[JG]⟩
    rw[if_neg (by omega)];obtain rfl:n=3:=by omega
    obtain⟨j,c⟩:∃j:zi,j={ f with got:=f.got++one (zf l (p+2)),low:=128,high:=191,need:=f.need-1,state:=if f.need-1=0 then 8 else 9 }:=⟨_,rfl⟩
    rw[<- c] at h;have q:=V6 l j (p+3) (by omega) (by rw[c,b,a];rfl) 128 191 (by rw[c];rfl) (by rw[c];rfl) (by omega)
    cases w3:within l 128 191 (p+3) with
    | false=>rw[if_pos rfl];exact (q.1 w3).of_eq h
    | true=>
     rw[if_neg (by decide)];obtain⟨v,t⟩:=q.2 w3;refine⟨by omega,by omega,_,?_,h.trans t⟩;rw[c,b,a];exact⟨rfl,rfl,rfl,rfl,rfl,by simp only[JG]⟩
theorem YH(l:List UInt8)(m:zi)(p:Nat)(f:p<=l.length)(g:m.state=11)(N k:Int)(d:m.number=N)(e:m.need=k)(bad:Prop)(hb:bad↔(zC (zf l p)<0\/(k=3/\216<=16*N+zC (zf l p)/\16*N+zC (zf l p)<=223))) :
  (bad->Fails l m p 2 p) /\
  (¬bad->k≠1->p<l.length/\verdict l m p=verdict l { m with number:=16*N+zC (zf l p),need:=k-1 } (p+1)) /\
  (¬bad->k=1->p<l.length/\verdict l m p=verdict l { m with number:=16*N+zC (zf l p),need:=k-1,got:=m.got++enc (16*N+zC (zf l p)),state:=8 } (p+1)):=by
 have b:Ref.step m (zf l p:Int)=digit m (zf l p:Int):=IE m _ g;unfold digit at b;rw[d,e] at b;refine⟨λh=>?_,λh c=>?_,λh c=>?_⟩
 ·refine vD l m p f (.inl (by omega)) 2 (by decide) ?_ (λ_=>rfl);rw[b]
  by_cases h1:zC (zf l p:Int)<0
  ·rw[if_pos h1]
  ·rw[if_neg h1,if_pos (by have:=hb.1 h;omega)]
 ·rw[hb] at h;have a:p<l.length:=Vv l p (by omega);refine⟨a,qL l m _ p a ?_⟩;rw[b,if_neg (by omega),if_neg (by omega),if_neg (by omega)]
 ·rw[hb] at h;have a:p<l.length:=Vv l p (by omega);refine⟨a,qL l m _ p a ?_⟩;rw[b,if_neg (by omega),if_neg (by omega),if_pos (by omega)]
theorem tZ(l:List UInt8)(m:zi)(p:Nat)(F:p<=l.length)(g:m.state=11)(E:m.number=0)(z:m.need=4) :
  match jK l p with
  | .ok s q=>p<q/\q<=l.length/\∃m',Within { m with state:=8 } m' s/\verdict l m p=verdict l m' q
  | .err e q=>Fails l m p e q:=by
 have G:=Qr (zf l p);have hb:=Qr (zf l (p+1));unfold jK;simp only;generalize n:zC (zf l p:Int)=A at *;have u:=YH l m p F g 0 4 E z (A<0) (by rw[n];omega)
 by_cases c1:A<0
 ·rw[if_pos c1];exact u.1 c1
 rw[if_neg c1];obtain⟨H,j⟩:=u.2.1 c1 (by decide);rw[n] at j;obtain⟨h,a⟩:∃h:zi,h={ m with number:=16*0+A,need:=4-1 }:=⟨_,rfl⟩
 rw[<- a] at j;generalize o:zC (zf l (p+1):Int)=B at *;have v:=YH l h (p+1) (by omega) (by rw[a];exact g) A 3 (by rw[a];simp) (by rw[a];rfl) (B<0\/(A=13/\8<=B)) (by rw[o];omega)
 by_cases c2:B<0\/(A=13/\8<=B)
 ·rw[if_pos c2];exact (v.1 c2).of_eq j
 rw[if_neg c2];obtain⟨q2,d⟩:=v.2.1 c2 (by decide);rw[o] at d;have d:=j.trans d;obtain⟨i,b⟩:∃i:zi,i={ h with number:=16*A+B,need:=3-1 }:=⟨_,rfl⟩
 rw[<- b] at d;generalize r:zC (zf l (p+2):Int)=C at *;have w:=YH l i (p+2) (by omega) (by rw[b,a];exact g) (16*A+B) 2 (by rw[b]) (by rw[b];rfl) (C<0) (by rw[r];omega)
 by_cases c3:C<0
 ·rw[if_pos c3];exact (w.1 c3).of_eq d
 rw[if_neg c3];obtain⟨I,f⟩:=w.2.1 c3 (by decide);rw[r] at f;have f:=d.trans f;obtain⟨k,c⟩:∃k:zi,k={ i with number:=16*(16*A+B)+C,need:=2-1 }:=⟨_,rfl⟩
 rw[<- c] at f;generalize t:zC (zf l (p+3):Int)=D at *;have x:=YH l k (p+3) (by omega) (by rw[c,b,a];exact g) (16*(16*A+B)+C) 1 (by rw[c]) (by rw[c];rfl) (D<0) (by rw[t];omega)
 by_cases c4:D<0
 ·rw[if_pos c4];exact (x.1 c4).of_eq f
 rw[if_neg c4];obtain⟨J,y⟩:=x.2.2 c4 rfl;rw[t] at y;refine⟨by omega,by omega,_,?_,f.trans y⟩;rw[c,b,a];refine⟨rfl,rfl,rfl,rfl,rfl,?_⟩;simp only;have e:16*(16*(16*A+B)+C)+D=((A*16+B)*16+C)*16+D:=by omega
 rw[e]
theorem sF(l:List UInt8)(m:zi)(p:Nat)(i:p<=l.length)(j:m.state=10) :
  match jh l p with
  | .ok s q=>p<q/\q<=l.length/\∃m',Within { m with state:=8 } m' s/\verdict l m p=verdict l m' q
  | .err e q=>Fails l m p e q:=by
 have a:Ref.step m (zf l p:Int)=escape m (zf l p:Int):=IC m _ j;unfold escape at a;unfold jh;simp only;generalize hb:zf l p=b at *
 by_cases c1:b=34\/b=92\/b=47
 ·rw[if_pos c1];rw[if_pos (by omega)] at a;have c:p<l.length:=zP l p (by rw[hb];omega);have v:=qL l m _ p c (by rw[hb];exact a);refine⟨by omega,by omega,_,?_,v⟩;exact⟨rfl,rfl,rfl,rfl,rfl,rfl⟩
 rw[if_neg c1];rw[if_neg (by omega)] at a
 by_cases c2:b=110
 ·rw[if_pos c2];rw[if_pos (by omega)] at a;have c:p<l.length:=zP l p (by rw[hb];omega);have v:=qL l m _ p c (by rw[hb];exact a);refine⟨by omega,by omega,_,?_,v⟩;exact⟨rfl,rfl,rfl,rfl,rfl,rfl⟩
 rw[if_neg c2];rw[if_neg (by omega)] at a
 by_cases c3:b=116
 ·rw[if_pos c3];rw[if_pos (by omega)] at a;have c:p<l.length:=zP l p (by rw[hb];omega);have v:=qL l m _ p c (by rw[hb];exact a);refine⟨by omega,by omega,_,?_,v⟩;exact⟨rfl,rfl,rfl,rfl,rfl,rfl⟩
 rw[if_neg c3];rw[if_neg (by omega)] at a
 by_cases c4:b=117
 ·rw[if_pos c4];rw[if_pos (by omega)] at a;have c:p<l.length:=zP l p (by rw[hb];omega);have v:=qL l m _ p c (by rw[hb];exact a);have f:=tZ l { m with state:=11,need:=4,number:=0 } (p+1) (by omega) rfl rfl rfl
  cases hf:jK l (p+1) with
  | ok s q=>
   rw[hf] at f;obtain⟨k,d,m',g,h⟩:=f;exact⟨by omega,d,m',g,v.trans h⟩
  | err e q=>
   rw[hf] at f;exact Fails.of_eq f v
 rw[if_neg c4];rw[if_neg (by omega)] at a;exact vD l m p i (.inl (by omega)) 2 (by decide) (by rw[hb,a]) (λ_=>rfl)
theorem nE(l:List UInt8)(m:zi)(p:Nat)(i:p<=l.length)(c:m.state=8)(k:zf l p≠34):UH l m p (xU l p):=by
 have a:Ref.step m (zf l p:Int)=plain m (zf l p:Int):=Jh m _ c;unfold plain at a;unfold xU;simp only
 by_cases c1:zf l p<32
 ·rw[if_pos c1];rw[if_neg (by omega),if_neg (by omega),if_pos (by omega)] at a;exact vD l m p i (.inl (by omega)) 2 (by decide) (by rw[a]) (λ_=>rfl)
 rw[if_neg c1];have b:p<l.length:=zP l p (by omega)
 by_cases c2:zf l p=92
 ·rw[if_pos c2];rw[if_neg (by omega),if_pos (by omega)] at a;have v:=qL l m _ p b a;have f:=sF l { m with state:=10 } (p+1) (by omega) rfl
  cases hf:jh l (p+1) with
  | ok s q=>
   rw[hf] at f;obtain⟨j,d,m',g,h⟩:=f;exact⟨by omega,d,m',g,v.trans h⟩
  | err e q=>
   rw[hf] at f;exact Fails.of_eq f v
 rw[if_neg c2]
 by_cases c3:zf l p<128
 ·rw[if_pos c3];rw[if_neg (by omega),if_neg (by omega),if_neg (by omega),if_pos (by omega)] at a;refine⟨by omega,by omega,_,?_,qL l m _ p b a⟩;exact⟨c,rfl,rfl,rfl,rfl,rfl⟩
 rw[if_neg c3];exact Hd l m p c (by omega)
theorem MC(l:List UInt8)(m:zi)(p:Nat)(d:p<l.length)(e:Int)(a:e≠0)(b:(Ref.step m (zf l p:Int)).1=e):Fails l m p e p:=by
 have c:Ref.run m (l.drop p) p=(e,p,m):=by
  rw[V5 l m p d,if_neg (by rw[b];exact a),b]
 unfold Fails verdict;rw[c,if_pos a];exact⟨rfl,rfl⟩
def qa(l:List UInt8):Nat->Nat->BY->Res BY
 | 0,p,_ => .err 2 p
 | f+1,p,acc=>if zf l p=34 then .ok acc (p+1) else match xU l p with
  | .ok s q=>qa l f q (acc++s)
  | .err e q => .err e q
def yE(l:List UInt8)(p:Nat):Res BY:=qa l (l.length+1-p) p ⟨#[]⟩
def UJ(m m':zi)(s:BY):Prop:=m'.state=8/\m'.opn=m.opn/\m'.nodes=m.nodes/\m'.named=m.named/\m'.root=m.root/\m'.got=s
theorem Lf(l:List UInt8)(f:Nat)(m:zi)(p:Nat)(acc:BY)(n:p<=l.length)(I:l.length<p+f)(c:m.state=8)(b:m.got=acc) :
  match qa l f p acc with
  | .ok s q=>p<q/\q<=l.length/\zf l (q-1)=34/\∃m',UJ m m' s/\verdict l m p=verdict l m' (q-1)
  | .err e q=>Fails l m p e q:=by
 induction f generalizing m p acc with
 | zero=>omega
 | succ f o=>
  rw[qa]
  by_cases h34:zf l p=34
  ·rw[if_pos h34];have k:=zP l p (by omega);exact⟨by omega,by omega,by simpa using h34,m,⟨c,rfl,rfl,rfl,rfl,b⟩,by simp⟩
  rw[if_neg h34];have a:=nE l m p n c h34
  cases hm:xU l p with
  | err e q=>rw[hm] at a;exact a
  | ok s q=>
   rw[hm] at a;obtain⟨H,j,y,⟨A,B,C,D,E,F⟩,d⟩:=a;have hi:=o y q (acc++s) j (by omega) A (by rw[F,b]);simp only
   cases hr:qa l f q (acc++s) with
   | err e z=>rw[hr] at hi;exact Fails.of_eq hi d
   | ok J z=>
    rw[hr] at hi;obtain⟨G,g,h,m',⟨r,t,u,v,w,x⟩,i⟩:=hi;exact⟨by omega,g,h,m',⟨r,by rw[t,B],by rw[u,C],by rw[v,D],by rw[w,E],x⟩,d.trans i⟩
theorem Ud(l:List UInt8)(m:zi)(p:Nat)(b:p<=l.length)(c:m.state=8)(a:m.got=⟨#[]⟩) :
  match yE l p with
  | .ok s q=>p<q/\q<=l.length/\zf l (q-1)=34/\∃m',UJ m m' s/\verdict l m p=verdict l m' (q-1)
  | .err e q=>Fails l m p e q:=Lf l _ m p ⟨#[]⟩ b (by omega) c a
inductive V where
 | str (s:BY)
 | word (b:Bool)
 | list (l:List V)
 | obj (l:List (BY×V))
inductive Rep (ns:List Ref.Node):Nat->V->Prop
 | str (i:Nat) (n:Ref.Node) (s:BY):ns[i]?=some n->n.kind=3->n.text=s->n.kids=[]->n.names=[]->Rep ns i (.str s)
 | word (i:Nat) (n:Ref.Node) (b:Bool):ns[i]?=some n->n.kind=(if b then 4 else 5)->n.kids=[]->n.names=[]->Rep ns i (.word b)
 | list (i:Nat) (n:Ref.Node) (vs:List V):ns[i]?=some n->n.kind=2->n.names=[]->n.kids.length=vs.length ->
   (∀k ∈ n.kids,i<k)->(∀(j k:Nat) (v:V),n.kids[j]?=some k->vs[j]?=some v->Rep ns k v)->Rep ns i (.list vs)
 | obj (i:Nat) (n:Ref.Node) (ms:List (BY×V)):ns[i]?=some n->n.kind=1->n.names=ms.map Prod.fst->n.kids.length=ms.length ->
   (∀k ∈ n.kids,i<k)->(∀(j k:Nat) (x:BY×V),n.kids[j]?=some k->ms[j]?=some x->Rep ns k x.2)->Rep ns i (.obj ms)
theorem Rep.more{t o:List Ref.Node}{i:Nat}{v:V}(h:Rep t i v)(l:∀(j:Nat) (n:Ref.Node),i<=j->t[j]?=some n->o[j]?=some n):Rep o i v:=by
 induction h with
 | str i n s a c d e f=>exact .str i n s (l i n (Nat.le_refl _) a) c d e f
 | word i n b a c d e=>exact .word i n b (l i n (Nat.le_refl _) a) c d e
 | list i n z a c d e f _ p=>
  exact .list i n z (l i n (Nat.le_refl _) a) c d e f (λj k v m w=>p j k v m w (λq r u g=>l q r (by have:=f k (List.mem_of_getElem? m);omega) g))
 | obj i n ms a c d e f _ p=>
  exact .obj i n ms (l i n (Nat.le_refl _) a) c d e f (λj k x m y=>p j k x m y (λq r u g=>l q r (by have:=f k (List.mem_of_getElem? m);omega) g))
def base(m:zi):List Ref.Node:=if m.opn=[] then m.nodes else yK (m.opn.getLastD 0) m.nodes.length m.nodes
structure Za (m m':zi) (v:V):Prop where
 state:m'.state=6
 opn:m'.opn=m.opn
 old:m'.nodes.take m.nodes.length=base m
 rep:Rep m'.nodes m.nodes.length v
 root:m'.root=if m.opn=[] then (m.nodes.length:Int) else m.root
theorem Yy(m:zi):(base m).length=m.nodes.length:=by
 unfold base;split
 ·rfl
 ·simp[yK]
def QJ(m:zi):Prop:=∀o ∈ m.opn,o<m.nodes.length
theorem Cv(l:List Nat)(h:l≠[]):l.getLastD 0 ∈ l:=by
 cases l with
 | nil=>exact absurd rfl h
 | cons a r=>rw[List.getLastD_eq_getLast?,List.getLast?_eq_some_getLast (by simp)];exact List.getLast_mem _
theorem YW(m:zi)(n:Ref.Node)(b:QJ m):(lay m n).nodes=base m++[n]:=by
 unfold lay base
 by_cases h:m.opn=[]
 ·rw[if_pos h,if_pos h]
 ·rw[if_neg h,if_neg h];have a:=b _ (Cv m.opn h);generalize m.opn.getLastD 0=t at a |-;unfold yK;simp only;apply List.ext_getElem?;intro i;rw[List.getElem?_modify]
  by_cases hi:i<m.nodes.length
  ·rw[List.getElem?_append_left hi,List.getElem?_append_left (by simpa using hi),List.getElem?_modify]
  ·rw[List.getElem?_append_right (by omega),List.getElem?_append_right (by simp;omega)]
   have:¬t=i:=by omega
   simp[this]
theorem bq(m:zi)(n:Ref.Node):(lay m n).root=if m.opn=[] then (m.nodes.length:Int) else m.root:=by
 unfold lay;split<;>rfl
theorem ik(m m':zi)(n:Ref.Node)(v:V)(d:QJ m)(b:m'.state=6)(a:m'.opn=m.opn)(c:m'.nodes=(lay m n).nodes)(e:m'.root=(lay m n).root)(f:Rep m'.nodes m.nodes.length v):Za m m' v:=by
 refine⟨b,a,?_,f,by rw[e,bq]⟩;rw[c,YW m n d,<- Yy m,List.take_left]
theorem VC(m:zi)(n:Ref.Node)(a:QJ m):(lay m n).nodes[m.nodes.length]?=some n:=by
 rw[YW m n a,<- Yy m];simp
structure qg (m0 m:zi) (kind:Int) (names:List BY) (vs:List V):Prop where
 opn:m.opn=m0.opn++[m0.nodes.length]
 old:m.nodes.take m0.nodes.length=base m0
 node:∃n:Ref.Node,m.nodes[m0.nodes.length]?=some n/\n.kind=kind/\n.names=names/\n.kids.length=vs.length/\(∀c ∈ n.kids,m0.nodes.length<c)/\∀(j c:Nat) (v:V),n.kids[j]?=some c->vs[j]?=some v->Rep m.nodes c v
 root:m.root=if m0.opn=[] then (m0.nodes.length:Int) else m0.root
 opens:QJ m
theorem qg.like{c m m':zi}{kind:Int}{names:List BY}{d:List V}(h:qg c m kind names d)(b:m'.opn=m.opn)(a:m'.nodes=m.nodes)(i:m'.root=m.root):qg c m' kind names d:=by
 refine⟨by rw[b];exact h.opn,by rw[a];exact h.old,?_,by rw[i];exact h.root,λo g=>by rw[a];exact h.opens o (by rw[<- b];exact g)⟩;obtain⟨n,e,f⟩:=h.node;exact⟨n,by rw[a];exact e,by rw[a];exact f⟩
theorem qg.top{a m:zi}{kind:Int}{names:List BY}{b:List V}(h:qg a m kind names b):m.opn.getLastD 0=a.nodes.length:=by
 rw[h.opn,List.getLastD_eq_getLast?];simp
theorem qg.ne{a m:zi}{kind:Int}{names:List BY}{b:List V}(h:qg a m kind names b):m.opn≠[]:=by
 rw[h.opn];simp
theorem qg.kindTop{c m:zi}{kind:Int}{names:List BY}{d:List V}(h:qg c m kind names d):Xj m=kind:=by
 obtain⟨n,a,b,_⟩:=h.node;unfold Xj;rw[h.top,a];exact b
theorem qg.namesTop{c m:zi}{kind:Int}{names:List BY}{d:List V}(h:qg c m kind names d):Uz m=names:=by
 obtain⟨n,a,_,b,_⟩:=h.node;unfold Uz;rw[h.top,a];exact b
theorem qg.lt{a m:zi}{kind:Int}{names:List BY}{c:List V}(h:qg a m kind names c):a.nodes.length<m.nodes.length:=by
 obtain⟨n,b,_⟩:=h.node;exact (List.getElem?_eq_some_iff.1 b).1
theorem dw(a m:zi)(n:Ref.Node)(d:QJ a)(b:m.opn=a.opn++[a.nodes.length])(e:m.nodes=(lay a n).nodes)(i:m.root=(lay a n).root)(f:n.kids=[]):qg a m n.kind n.names []:=by
 refine⟨b,?_,⟨n,by rw[e];exact VC a n d,rfl,rfl,by rw[f];rfl,by rw[f];simp,λj c v _ k=>by simp at k⟩,by rw[i,bq],?_⟩
 ·rw[e,YW a n d,<- Yy a,List.take_left]
 ·intro o g;rw[e,YW a n d,List.length_append,Yy];rw[b] at g
  rcases List.mem_append.1 g with h|h
  ·have:=d o h;simp;omega
  ·simp at h;subst h;simp
theorem LJ{l a:List Ref.Node}{k:Nat}(h:a.take k=l)(i:Nat)(hi:i<k):a[i]?=l[i]?:=by
 rw[<- h,List.getElem?_take,if_pos hi]
theorem Za.len{m m':zi}{v:V}(h:Za m m' v):m.nodes.length<m'.nodes.length:=by
 have:∃n,m'.nodes[m.nodes.length]?=some n:=by
  cases h.rep with
  | str i n s a=>exact⟨n,a⟩
  | word i n b a=>exact⟨n,a⟩
  | list i n d a=>exact⟨n,a⟩
  | obj i n ms a=>exact⟨n,a⟩
 obtain⟨n,c⟩:=this;exact (List.getElem?_eq_some_iff.1 c).1
theorem dx{d m m':zi}{kind:Int}{names:List BY}{x:List V}{v:V}(h:qg d m kind names x)(l:Za m m' v):qg d m' kind names (x++[v]):=by
 have p:=h.lt;have hlen:=l.len;have g:base m=yK d.nodes.length m.nodes.length m.nodes:=by unfold base;rw[if_neg h.ne,h.top]
 have f:∀i,i<m.nodes.length->m'.nodes[i]?=(yK d.nodes.length m.nodes.length m.nodes)[i]?:=λi hi=>by
  rw[<- g];exact LJ l.old i hi
 have a:∀i,i<m.nodes.length->i≠d.nodes.length->m'.nodes[i]?=m.nodes[i]?:=λi hi u=>by
  rw[f i hi];unfold yK;rw[List.getElem?_modify]
  have:¬d.nodes.length=i:=λe=>u e.symm
  simp[this]
 obtain⟨n,C,D,E,F,A,G⟩:=h.node
 have H:m'.nodes[d.nodes.length]?=some { n with kids:=n.kids++[m.nodes.length] }:=by
  rw[f _ p];unfold yK;rw[List.getElem?_modify,C]
  simp
 have k:∀c w,d.nodes.length<c->Rep m.nodes c w->Rep m'.nodes c w:=λc w b I=>I.more λj J s q=>by
  have t:=(List.getElem?_eq_some_iff.1 q).1;rw[a j t (by omega)];exact q
 refine⟨by rw[l.opn];exact h.opn,?_,⟨_,H,D,E,by simp[F],?_,?_⟩,by rw[l.root,if_neg h.ne];exact h.root,?_⟩
 ·rw[<- h.old];apply List.ext_getElem?;intro i;rw[List.getElem?_take,List.getElem?_take]
  by_cases hi:i<d.nodes.length
  ·rw[if_pos hi,if_pos hi,a i (by omega) (by omega)]
  ·rw[if_neg hi,if_neg hi]
 ·intro c b
  rcases List.mem_append.1 b with h|h
  ·exact A c h
  ·simp at h;subst h;exact p
 ·intro j c w b r;simp only at b;rw[List.getElem?_append] at b r
  by_cases s:j<x.length
  ·rw[if_pos (by omega)] at b;rw[if_pos s] at r;exact k c w (A c (List.mem_of_getElem? b)) (G j c w b r)
  ·rw[if_neg (by omega)] at b;rw[if_neg s] at r;have y:=List.mem_of_getElem? b;have z:=List.mem_of_getElem? r;simp at y z;subst y;subst z;exact l.rep
 ·intro o B;rw[l.opn] at B
  have:=h.opens o B
  omega
theorem DW{b m m':zi}{names:List BY}{r:List V}{s:BY}(h:qg b m 1 names r)(q:m'.opn=m.opn)(d:m'.nodes=yV b.nodes.length s m.nodes)(C:m'.root=m.root):qg b m' 1 (names++[s]) r:=by
 have B:=h.lt
 have a:∀i,i≠b.nodes.length->m'.nodes[i]?=m.nodes[i]?:=λi g=>by
  rw[d];unfold yV;rw[List.getElem?_modify]
  have:¬b.nodes.length=i:=λe=>g e.symm
  simp[this]
 obtain⟨n,t,u,v,x,k,y⟩:=h.node
 have A:m'.nodes[b.nodes.length]?=some { n with names:=n.names++[s] }:=by
  rw[d];unfold yV;rw[List.getElem?_modify,t]
  simp
 refine⟨by rw[q];exact h.opn,?_,⟨_,A,u,by simp[v],x,k,?_⟩,by rw[C];exact h.root,?_⟩
 ·rw[<- h.old];apply List.ext_getElem?;intro i;rw[List.getElem?_take,List.getElem?_take]
  by_cases hi:i<b.nodes.length
  ·rw[if_pos hi,if_pos hi,a i (by omega)]
  ·rw[if_neg hi,if_neg hi]
 ·intro j c w l D;have z:=k c (List.mem_of_getElem? l);exact (y j c w l D).more λi E hi f=>by rw[a i (by omega)];exact f
 ·intro o p;rw[q] at p
  have:=h.opens o p
  rw[d];simpa [yV] using this
theorem il{d m m':zi}{b:List V}(h:qg d m 2 [] b)(k:m'.state=6)(l:m'.opn=m.opn.dropLast)(c:m'.nodes=m.nodes)(o:m'.root=m.root):Za d m' (.list b):=by
 obtain⟨n,e,f,g,i,j,a⟩:=h.node;refine⟨k,by rw[l,h.opn];simp,by rw[c];exact h.old,?_,by rw[o];exact h.root⟩;rw[c];exact .list _ n b e f g i j a
theorem iq{c m m':zi}{ms:List (BY×V)}(h:qg c m 1 (ms.map Prod.fst) (ms.map Prod.snd))(l:m'.state=6)(p:m'.opn=m.opn.dropLast)(b:m'.nodes=m.nodes)(q:m'.root=m.root):Za c m' (.obj ms):=by
 obtain⟨n,d,e,f,g,i,a⟩:=h.node;refine⟨l,by rw[p,h.opn];simp,by rw[b];exact h.old,?_,by rw[q];exact h.root⟩;rw[b];refine .obj _ n ms d e f (by rw[g,List.length_map]) i (λj k x o r=>a j k x.2 o ?_);rw[List.getElem?_map,r];rfl
def zK(l:List UInt8):List Nat->Nat->Res Unit
 | [],p => .ok () p
 | b::r,p=>if zf l p=b then zK l r (p+1) else .err 2 p
mutual
def zL(l:List UInt8):Nat->Nat->Nat->Res V
 | 0,_,p => .err 2 p
 | f+1,d,p=>
  if zf l p=123 then (if 8<d then .err 3 p else if zf l (skip l (p+1))=125 then .ok (.obj []) (skip l (p+1)+1) else y9 l f d (skip l (p+1)) [])
  else if zf l p=91 then (if 8<d then .err 3 p else if zf l (skip l (p+1))=93 then .ok (.list []) (skip l (p+1)+1) else yZ l f d (skip l (p+1)) [])
  else if zf l p=34 then (match yE l (p+1) with
   | .ok s q => .ok (.str s) q
   | .err e q => .err e q)
  else if zf l p=116 then (match zK l [114,117,101] (p+1) with
   | .ok _ q => .ok (.word true) q
   | .err e q => .err e q)
  else if zf l p=102 then (match zK l [97,108,115,101] (p+1) with
   | .ok _ q => .ok (.word false) q
   | .err e q => .err e q)
  else .err 2 p
def yZ(l:List UInt8):Nat->Nat->Nat->List V->Res V
 | 0,_,p,_ => .err 2 p
 | f+1,d,p,acc=>match zL l f (d+1) p with
  | .err e q => .err e q
  | .ok v q=>
   if zf l (skip l q)=44 then yZ l f d (skip l (skip l q+1)) (acc++[v])
   else if zf l (skip l q)=93 then .ok (.list (acc++[v])) (skip l q+1)
   else .err 2 (skip l q)
def y9(l:List UInt8):Nat->Nat->Nat->List (BY×V)->Res V
 | 0,_,p,_ => .err 2 p
 | f+1,d,p,acc=>
  if zf l p≠34 then .err 2 p else match yE l (p+1) with
  | .err e q => .err e q
  | .ok s q=>
   if acc.any (λx=>x.1.toList==s.toList) then .err 4 (q-1)
   else if zf l (skip l q)≠58 then .err 2 (skip l q)
   else match zL l f (d+1) (skip l (skip l q+1)) with
   | .err e a => .err e a
   | .ok v a=>
    if zf l (skip l a)=44 then y9 l f d (skip l (skip l a+1)) (acc++[(s,v)])
    else if zf l (skip l a)=125 then .ok (.obj (acc++[(s,v)])) (skip l a+1)
    else .err 2 (skip l a)
end
def Qf(l:List UInt8)(a m:zi)(p:Nat)(r:Res V):Prop:=match r with
 | .ok v q=>p<q/\q<=l.length/\∃m',Za a m' v/\verdict l m p=verdict l m' q
 | .err e q=>Fails l m p e q
theorem Qf.of_eq{l:List UInt8}{c m m':zi}{p a:Nat}{r:Res V}(h:Qf l c m' a r)(k:p<=a)(b:verdict l m p=verdict l m' a):Qf l c m p r:=by
 cases r with
 | ok v q=>
  obtain⟨j,d,i,f,g⟩:=h;exact⟨by omega,d,i,f,b.trans g⟩
 | err e q=>exact Fails.of_eq h b
theorem MQ(l:List UInt8)(r:List Nat)(m:zi)(p:Nat)(B:p<=l.length)(C:r≠[])(D:m.state=7)(d:m.word.data.toList.map UInt8.toNat=r)(j:∀b ∈ r,b≠0) :
  match zK l r p with
  | .ok _ q=>p<q/\q<=l.length/\∃m':zi,m'.state=6/\m'.opn=m.opn/\m'.nodes=m.nodes/\m'.root=m.root/\verdict l m p=verdict l m' q
  | .err e q=>Fails l m p e q:=by
 induction r generalizing m p with
 | nil=>exact absurd rfl C
 | cons b r E=>
  have a:=IG m (zf l p:Int) D
  have hlen:m.word.size=r.length+1:=by
   have:=congrArg List.length d
   rw[List.length_map,zx] at this
   simpa using this
  have g:(m.word.data.toList.getD 0 0).toNat=b:=by
   cases hl:m.word.data.toList with
   | nil=>rw[hl] at d;simp at d
   | cons c t=>rw[hl] at d;simp at d;simpa using d.1
  rw[g] at a;rw[zK]
  by_cases hb:zf l p=b
  ·rw[if_pos hb];rw[if_neg (by omega)] at a;have z:=j b (by simp);have h:=zP l p (by omega);have i:=qL l m _ p h a
   by_cases hr0:r=[]
   ·subst hr0;rw[zK];refine⟨by omega,by omega,_,?_,?_,?_,?_,i⟩
    ·simp only;rw[if_pos (by rw[hlen];rfl)]
    ·rfl
    ·rfl
    ·rfl
   ·have A:¬m.word.size=1:=by rw[hlen];cases r with|nil=>exact absurd rfl hr0|cons _ _=>simp
    have hi:=E { m with word:=m.word.extract 1 m.word.size,state:=if m.word.size=1 then 6 else 7 } (p+1) (by omega) hr0 (by simp only;rw[if_neg A])
     (by
       simp only
       have e:(m.word.extract 1 m.word.size).data.toList=m.word.data.toList.drop 1:=by
        have y:m.word.data.toList.length=m.word.size:=zx _;simp only[ByteArray.data_extract,Array.toList_extract,List.extract_eq_take_drop];rw[List.take_of_length_le (by simp[y])]
       rw[e,List.map_drop,d];rfl)
     (λk f=>j k (by simp[f]))
    cases hw2:zK l r (p+1) with
    | ok u q=>
     rw[hw2] at hi;obtain⟨F,n,m',o,s,v,w,x⟩:=hi;exact⟨by omega,n,m',o,s,v,w,i.trans x⟩
    | err e q=>rw[hw2] at hi;exact Fails.of_eq hi i
  ·rw[if_neg hb];rw[if_pos (by omega)] at a;exact vD l m p B (.inl (by omega)) 2 (by decide) (by rw[a]) (λ_=>rfl)
theorem II(m:zi)(b:Nat)(h:m.state=1\/m.state=2)(hb:blank b=false)(a:¬(m.state=2/\b=93)):Ref.step m (b:Int)=Yz m (b:Int):=by
 rw[Yf m _ (by omega),XD,hb,if_neg (by decide),if_neg (by omega),if_neg (by omega),if_neg (by omega)]
theorem Ub(m:zi)(b:Nat)(h:m.state=6\/m.state=5)(hb:blank b=false):Ref.step m (b:Int)=after m (b:Int):=by
 rw[Yf m _ (by omega),XD,hb,if_neg (by decide),if_pos h]
theorem IL(m:zi)(b:Nat)(h:m.state=3\/m.state=4)(hb:blank b=false)(a:¬(m.state=3/\b=125)):Ref.step m (b:Int)=if (b:Int)≠34 then (2,m) else (0,{ m with state:=8,named:=true,got:=⟨#[]⟩ }):=by
 rw[Yf m _ (by omega),XD,hb,if_neg (by decide),if_neg (by omega),if_neg (by omega),if_pos h]
theorem step_end(m:zi)(b:Nat)(h:(m.state=2/\b=93)\/(m.state=3/\b=125)):Ref.step m (b:Int)=jJ m (b:Int):=by
 rw[Yf m _ (by omega),XD]
 have hb:blank b=false:=by
  rcases h with ⟨_,rfl⟩|⟨_,rfl⟩<;>decide
 rw[hb,if_neg (by decide),if_neg (by omega),if_pos (by omega)]
theorem K6{a m:zi}{b:List V}(h:qg a m 2 [] b):jJ m 93=(0,{ m with opn:=m.opn.dropLast,state:=6 }):=by
 unfold jJ;rw[if_neg h.ne,h.kindTop];rfl
theorem K7{a m:zi}{names:List BY}{b:List V}(h:qg a m 1 names b):jJ m 125=(0,{ m with opn:=m.opn.dropLast,state:=6 }):=by
 unfold jJ;rw[if_neg h.ne,h.kindTop];rfl
theorem CV(l:List UInt8){f m:zi}{g:List V}(h:qg f m 2 [] g)(j:m.state=6)(p:Nat)(k:p<=l.length) :
  (zf l (skip l p)=44->∃m',m'.state=1/\qg f m' 2 [] g/\skip l p<l.length/\verdict l m p=verdict l m' (skip l (skip l p+1))) /\
  (zf l (skip l p)=93->∃m',Za f m' (.list g)/\skip l p<l.length/\verdict l m p=verdict l m' (skip l p+1)) /\
  (zf l (skip l p)≠44->zf l (skip l p)≠93->Fails l m p 2 (skip l p)):=by
 have d:=Z0 l m (by omega) p;have hle:=jc l p k;have a:=Ub m (zf l (skip l p)) (.inl j) (vB l p);unfold after at a;rw[if_neg (by omega),if_neg (by rintro (h|i);omega;exact h.ne i)] at a;refine⟨λhb=>?_,λhb=>?_,λn o=>?_⟩
 ·rw[if_neg (by omega),if_neg (by omega),h.kindTop,if_neg (by decide)] at a;have b:=zP l (skip l p) (by omega);have c:=qL l m _ (skip l p) b a;refine⟨{ m with state:=1 },rfl,h.like rfl rfl rfl,b,(d.trans c).trans (Z0 l _ (show (1:Int)<7 by decide) _)⟩
 ·rw[if_pos (by omega),hb] at a;have b:=zP l (skip l p) (by omega);have e:jJ m ((93:Nat):Int)=_:=K6 h;rw[e] at a;have c:=qL l m _ (skip l p) b (by rw[hb];exact a);refine⟨_,?_,b,d.trans c⟩;exact il h rfl rfl rfl rfl
 ·refine Fails.of_eq (vD l m (skip l p) hle (.inr h.ne) 2 (by decide) ?_ (λ_=>rfl)) d;rw[a]
  by_cases h3:(zf l (skip l p):Int)=125\/(zf l (skip l p):Int)=93
  ·rw[if_pos h3];unfold jJ;rw[if_neg h.ne,h.kindTop,if_pos];have e:(zf l (skip l p):Int)=125:=by omega
   rw[e];decide
  ·rw[if_neg h3,if_pos (by omega)]
theorem Eh(l:List UInt8){f m:zi}{ms:List (BY×V)}(h:qg f m 1 (ms.map Prod.fst) (ms.map Prod.snd))(i:m.state=6)(p:Nat)(j:p<=l.length) :
  (zf l (skip l p)=44->∃m',m'.state=4/\qg f m' 1 (ms.map Prod.fst) (ms.map Prod.snd)/\skip l p<l.length/\verdict l m p=verdict l m' (skip l (skip l p+1))) /\
  (zf l (skip l p)=125->∃m',Za f m' (.obj ms)/\skip l p<l.length/\verdict l m p=verdict l m' (skip l p+1)) /\
  (zf l (skip l p)≠44->zf l (skip l p)≠125->Fails l m p 2 (skip l p)):=by
 have d:=Z0 l m (by omega) p;have hle:=jc l p j;have a:=Ub m (zf l (skip l p)) (.inl i) (vB l p);unfold after at a;rw[if_neg (by omega),if_neg (by rintro (h|g);omega;exact h.ne g)] at a;refine⟨λhb=>?_,λhb=>?_,λk n=>?_⟩
 ·rw[if_neg (by omega),if_neg (by omega),h.kindTop,if_pos rfl] at a;have b:=zP l (skip l p) (by omega);have c:=qL l m _ (skip l p) b a;refine⟨{ m with state:=4 },rfl,h.like rfl rfl rfl,b,(d.trans c).trans (Z0 l _ (show (4:Int)<7 by decide) _)⟩
 ·rw[if_pos (by omega),hb] at a;have b:=zP l (skip l p) (by omega);have e:jJ m ((125:Nat):Int)=_:=K7 h;rw[e] at a;have c:=qL l m _ (skip l p) b (by rw[hb];exact a);refine⟨_,?_,b,d.trans c⟩;exact iq h rfl rfl rfl rfl
 ·refine Fails.of_eq (vD l m (skip l p) hle (.inr h.ne) 2 (by decide) ?_ (λ_=>rfl)) d;rw[a]
  by_cases h3:(zf l (skip l p):Int)=125\/(zf l (skip l p):Int)=93
  ·rw[if_pos h3];unfold jJ;rw[if_neg h.ne,h.kindTop,if_pos];have e:(zf l (skip l p):Int)=93:=by omega
   rw[e];decide
  ·rw[if_neg h3,if_pos (by omega)]
def AV(l:List UInt8)(f:Nat):Prop:=∀(m:zi) (d p:Nat),(m.state=1\/m.state=2)->QJ m->m.opn.length+1=d->p<=l.length->blank (zf l p)=false->¬(m.state=2/\zf l p=93)->2*(l.length-p)<f ->
 Qf l m m p (zL l f d p)
def AL(l:List UInt8)(f:Nat):Prop:=∀(a m:zi) (d p:Nat) (acc:List V),qg a m 2 [] acc->(m.state=1\/m.state=2)->a.opn.length+1=d->p<=l.length->blank (zf l p)=false->¬(m.state=2/\zf l p=93)->2*(l.length-p)+1<f ->
 Qf l a m p (yZ l f d p acc)
def AO(l:List UInt8)(f:Nat):Prop:=∀(a m:zi) (d p:Nat) (acc:List (BY×V)),qg a m 1 (acc.map Prod.fst) (acc.map Prod.snd)->(m.state=3\/m.state=4)->a.opn.length+1=d->p<=l.length->blank (zf l p)=false->¬(m.state=3/\zf l p=125)->2*(l.length-p)+1<f ->
 Qf l a m p (y9 l f d p acc)
theorem XU(m a:zi)(b:a.opn=m.opn)(c:a.nodes=m.nodes)(d:a.root=m.root)(n:Ref.Node):(lay a n).nodes=(lay m n).nodes/\(lay a n).root=(lay m n).root:=by
 unfold lay;rw[b,c]
 by_cases hE:m.opn=[]
 ·rw[if_pos hE,if_pos hE];exact⟨rfl,rfl⟩
 ·rw[if_neg hE,if_neg hE];exact⟨rfl,d⟩
theorem Db(l:List UInt8)(f:Nat)(z:AV l f)(y:AL l f):AL l (f+1):=by
 intro D m d p acc o B hd A hb j I;have a:m.opn.length+1=d+1:=by rw[o.opn,List.length_append];simp;omega
 have c:=z m (d+1) p B o.opens a A hb j (by omega);rw[yZ]
 cases hr:zL l f (d+1) p with
 | err e q=>rw[hr] at c;exact c
 | ok v q=>
  rw[hr] at c;obtain⟨H,x,J,w,k⟩:=c;have r:=dx o w;obtain⟨g,h,i⟩:=CV l r w.state q x;simp only;have C:=xJ l q
  by_cases c1:zf l (skip l q)=44
  ·rw[if_pos c1];obtain⟨s,F,E,n,t⟩:=g c1;clear g h i;have u:=xJ l (skip l q+1);have b:=jc l (skip l q+1) (by omega)
   have:=y D s d (skip l (skip l q+1)) (acc++[v]) E (.inl F) hd b (vB l _) (by omega) (by omega)
   exact this.of_eq (by omega) (k.trans t)
  rw[if_neg c1]
  by_cases c2:zf l (skip l q)=93
  ·rw[if_pos c2];obtain⟨s,G,n,t⟩:=h c2;clear g h i;exact⟨by omega,by omega,s,G,k.trans t⟩
  rw[if_neg c2];exact Fails.of_eq (i c1 c2) k
theorem El(l:List UInt8)(f:Nat)(hV:AV l f)(hO:AO l f):AO l (f+1):=by
 intro J m d p acc X hs hd hp hb B hf;rw[y9];have n:=IL m (zf l p) hs hb B
 by_cases c0:zf l p=34
 ·rw[if_neg (by simpa using c0)];rw[if_neg (by omega)] at n;have O:=zP l p (by omega);have S:=qL l m _ p O n;have g:=Ud l { m with state:=8,named:=true,got:=⟨#[]⟩ } (p+1) (by omega) rfl rfl
  cases hr:yE l (p+1) with
  | err e q=>rw[hr] at g;exact Fails.of_eq g S
  | ok s q=>
   rw[hr] at g;obtain⟨h1,h2,h3,a,⟨k1,k2,k3,k4,k5,k6⟩,W⟩:=g;simp only;have r:qg J a 1 (acc.map Prod.fst) (acc.map Prod.snd):=X.like k2 k3 k5
   have c:Ref.step a (zf l (q-1):Int)=closed a:=by
    rw[Jh a _ k1,h3];unfold plain;rw[if_pos (by decide)]
   have T:a.named=true:=k4
   have C:(acc.map Prod.fst).any (λx=>x.toList==a.got.toList)=acc.any (λx=>x.1.toList==s.toList):=by
    rw[k6,List.any_map];rfl
   have N:closed a=if acc.any (λx=>x.1.toList==s.toList)=true then (4,a) else (0,{ a with nodes:=yV (a.opn.getLastD 0) a.got a.nodes,state:=5 }):=by
    unfold closed;rw[if_neg (by rw[T];decide),r.namesTop,C]
   rw[N] at c
   by_cases c1:acc.any (λx=>x.1.toList==s.toList)=true
   ·rw[if_pos c1];rw[if_pos c1] at c;exact Fails.of_eq (MC l a (q-1) (by omega) 4 (by decide) (by rw[c])) (S.trans W)
   rw[if_neg c1];rw[if_neg c1] at c;have z:=qL l a _ (q-1) (by omega) c;rw[show q-1+1=q by omega] at z;obtain⟨j,k⟩:∃j:zi,j={ a with nodes:=yV (a.opn.getLastD 0) a.got a.nodes,state:=5 }:=⟨_,rfl⟩
   rw[<- k] at z
   have P:qg J j 1 (acc.map Prod.fst++[s]) (acc.map Prod.snd):=by
    have:=DW (s:=a.got) r (m':=j) (by rw[k]) (by rw[k];simp only;rw[r.top]) (by rw[k])
    rw[k6] at this;exact this
   have u:j.state=5:=by rw[k]
   have H:=((S.trans W).trans z).trans (Z0 l j (by omega) q);have b4:=xJ l q;have G:=jc l q h2;have b:=Ub j (zf l (skip l q)) (.inr u) (vB l q);unfold after at b
   by_cases c2:zf l (skip l q)=58
   ·rw[if_neg (by simpa using c2)];rw[if_pos ⟨u,by omega⟩] at b;have D:=zP l (skip l q) (by omega);have I:=H.trans ((qL l j _ (skip l q) D b).trans (Z0 l _ (show (1:Int)<7 by decide) _));have t:qg J { j with state:=1 } 1 (acc.map Prod.fst++[s]) (acc.map Prod.snd):=P.like rfl rfl rfl
    have Y:=xJ l (skip l q+1);have w:=jc l (skip l q+1) (by omega);have F:({ j with state:=1 }:zi).opn.length+1=d+1:=by rw[t.opn,List.length_append];simp;omega
    have i:=hV { j with state:=1 } (d+1) (skip l (skip l q+1)) (.inl rfl) t.opens F w (vB l _) (λh=>absurd h.1 (show ¬(1:Int)=2 by decide)) (by omega)
    cases hr2:zL l f (d+1) (skip l (skip l q+1)) with
    | err e o=>rw[hr2] at i;exact Fails.of_eq i I
    | ok v o=>
     rw[hr2] at i;obtain⟨g1,g2,m4,ht,ge⟩:=i;have Q:=dx t ht;have R:qg J m4 1 ((acc++[(s,v)]).map Prod.fst) ((acc++[(s,v)]).map Prod.snd):=by simpa using Q
     obtain⟨K,L,M⟩:=Eh l R ht.state o g2;simp only;have Z:=xJ l o;have A:=I.trans ge
     by_cases c3:zf l (skip l o)=44
     ·rw[if_pos c3];obtain⟨U,s5,n5,E,V⟩:=K c3;clear K L M;have a0:=xJ l (skip l o+1);have y:=jc l (skip l o+1) (by omega)
      have:=hO J U d (skip l (skip l o+1)) (acc++[(s,v)]) n5 (.inr s5) hd y (vB l _) (by omega) (by omega)
      exact this.of_eq (by omega) (A.trans V)
     rw[if_neg c3]
     by_cases c4:zf l (skip l o)=125
     ·rw[if_pos c4];obtain⟨U,t5,E,V⟩:=L c4;clear K L M;exact⟨by omega,by omega,U,t5,A.trans V⟩
     rw[if_neg c4];exact Fails.of_eq (M c3 c4) A
   ·rw[if_pos c2];rw[if_neg (by omega),if_pos (.inl u)] at b;exact Fails.of_eq (vD l j (skip l q) G (.inl (by omega)) 2 (by decide) (by rw[b]) (λ_=>rfl)) H
 ·rw[if_pos c0];rw[if_pos (by omega)] at n;exact vD l m p hp (.inr X.ne) 2 (by decide) (by rw[n]) (λ_=>rfl)
theorem Mv(l:List UInt8)(f:Nat)(U:AL l f)(V:AO l f):AV l (f+1):=by
 intro m d p X F hd J hb H hf;rw[zL];have a:=II m (zf l p) X hb H;unfold Yz at a;have v:Inc m := .inl (by omega)
 by_cases c1:zf l p=123
 ·rw[if_pos c1];rw[if_pos (by omega)] at a
  by_cases c2:8<d
  ·rw[if_pos c2];rw[if_pos (by omega)] at a;exact vD l m p J v 3 (by decide) (by rw[a]) (λh=>by omega)
  rw[if_neg c2];rw[if_neg (by omega)] at a;simp only at a;rw[if_neg (by omega),if_neg (by omega)] at a;have n:=zP l p (by omega);have B:=qL l m _ p n a;obtain⟨c,g⟩:∃c:zi,c={ (lay { m with state:=3 } { kind:=1,text:=⟨#[]⟩,names:=[],kids:=[] }) with opn:=m.opn++[m.nodes.length] }:=⟨_,rfl⟩
  rw[<- g] at B;have o:qg m c 1 [] []:=dw m c { kind:=1,text:=⟨#[]⟩,names:=[],kids:=[] } F (by rw[g]) (by rw[g];exact (XU m { m with state:=3 } rfl rfl rfl _).1) (by rw[g];exact (XU m { m with state:=3 } rfl rfl rfl _).2) rfl
  have y:c.state=3:=by rw[g];exact bu _ _
  have k:=B.trans (Z0 l c (by omega) (p+1));have K:=xJ l (p+1);have z:=jc l (p+1) (by omega)
  by_cases c3:zf l (skip l (p+1))=125
  ·rw[if_pos c3];have i:=step_end c (zf l (skip l (p+1))) (.inr ⟨y,c3⟩);rw[c3] at i;have e:jJ c ((125:Nat):Int)=_:=K7 o;rw[e] at i;have x:=zP l (skip l (p+1)) (by omega);have D:=k.trans (qL l c _ (skip l (p+1)) x (by rw[c3];exact i));refine⟨by omega,by omega,_,?_,D⟩;exact iq (ms:=[]) o rfl rfl rfl rfl
  rw[if_neg c3]
  have:=V m c d (skip l (p+1)) [] o (.inl y) hd z (vB l _) (by omega) (by omega)
  exact this.of_eq (by omega) k
 rw[if_neg c1]
 by_cases c2:zf l p=91
 ·rw[if_pos c2];rw[if_pos (by omega)] at a
  by_cases c3:8<d
  ·rw[if_pos c3];rw[if_pos (by omega)] at a;exact vD l m p J v 3 (by decide) (by rw[a]) (λh=>by omega)
  rw[if_neg c3];rw[if_neg (by omega)] at a;simp only at a;rw[if_pos (by omega),if_pos (by omega)] at a;have n:=zP l p (by omega);have B:=qL l m _ p n a;obtain⟨c,g⟩:∃c:zi,c={ (lay { m with state:=2 } { kind:=2,text:=⟨#[]⟩,names:=[],kids:=[] }) with opn:=m.opn++[m.nodes.length] }:=⟨_,rfl⟩
  rw[<- g] at B;have o:qg m c 2 [] []:=dw m c { kind:=2,text:=⟨#[]⟩,names:=[],kids:=[] } F (by rw[g]) (by rw[g];exact (XU m { m with state:=2 } rfl rfl rfl _).1) (by rw[g];exact (XU m { m with state:=2 } rfl rfl rfl _).2) rfl
  have y:c.state=2:=by rw[g];exact bu _ _
  have k:=B.trans (Z0 l c (by omega) (p+1));have K:=xJ l (p+1);have z:=jc l (p+1) (by omega)
  by_cases c4:zf l (skip l (p+1))=93
  ·rw[if_pos c4];have i:=step_end c (zf l (skip l (p+1))) (.inl ⟨y,c4⟩);rw[c4] at i;have e:jJ c ((93:Nat):Int)=_:=K6 o;rw[e] at i;have x:=zP l (skip l (p+1)) (by omega);have D:=k.trans (qL l c _ (skip l (p+1)) x (by rw[c4];exact i));refine⟨by omega,by omega,_,?_,D⟩;exact il o rfl rfl rfl rfl
  rw[if_neg c4]
  have:=U m c d (skip l (p+1)) [] o (.inr y) hd z (vB l _) (by omega) (by omega)
  exact this.of_eq (by omega) k
 rw[if_neg c2];rw[if_neg (by omega)] at a
 by_cases c3:zf l p=34
 ·rw[if_pos c3];rw[if_pos (by omega)] at a;have n:=zP l p (by omega);have B:=qL l m _ p n a;have t:=Ud l { m with state:=8,named:=false,got:=⟨#[]⟩ } (p+1) (by omega) rfl rfl
  cases G:yE l (p+1) with
  | err e q=>rw[G] at t;exact Fails.of_eq t B
  | ok s q=>
   rw[G] at t;obtain⟨h1,S,T,c,⟨k1,M,k3,k4,k5,k6⟩,W⟩:=t;simp only
   have A:Ref.step c (zf l (q-1):Int)=closed c:=by
    rw[Jh c _ k1,T];unfold plain;rw[if_pos (by decide)]
   unfold closed at A;rw[if_pos (by rw[k4])] at A;have k:=qL l c _ (q-1) (by omega) A;rw[show q-1+1=q by omega] at k;refine⟨by omega,S,_,?_,(B.trans W).trans k⟩;have I:=XU m c M k3 k5 { kind:=3,text:=c.got,names:=[],kids:=[] };refine ik m _ { kind:=3,text:=c.got,names:=[],kids:=[] } _ F rfl ?_ I.1 I.2 ?_
   ·show (lay c _).opn=_;rw[bn,M]
   ·show Rep (lay c _).nodes _ _;rw[I.1];exact .str _ _ s (VC m _ F) rfl k6 rfl rfl
 rw[if_neg c3];rw[if_neg (by omega)] at a
 have j:∀(E:Bool) (w:BY) (r:List Nat),r≠[]->w.data.toList.map UInt8.toNat=r->(∀b ∈ r,b≠0)->p<l.length ->
   Ref.step m (zf l p:Int)=(0,{ lay m { kind:=if E then 4 else 5,text:=⟨#[]⟩,names:=[],kids:=[] } with state:=7,word:=w }) ->
   Qf l m m p (match zK l r (p+1) with | .ok _ q => .ok (.word E) q | .err e q => .err e q):=by
  intro E w r G Y Z n a;have B:=qL l m _ p n a;have C:=MQ l r { lay m { kind:=if E then 4 else 5,text:=⟨#[]⟩,names:=[],kids:=[] } with state:=7,word:=w } (p+1) (by omega) G rfl Y Z
  cases hr2:zK l r (p+1) with
  | err e q=>rw[hr2] at C;exact Fails.of_eq C B
  | ok u q=>
   rw[hr2] at C;obtain⟨g1,N,c,O,P,L,Q,R⟩:=C;refine⟨by omega,N,c,?_,B.trans R⟩;refine ik m c { kind:=if E then 4 else 5,text:=⟨#[]⟩,names:=[],kids:=[] } _ F O (by rw[P];exact bn _ _) L Q ?_
   rw[L];exact .word _ _ E (VC m _ F) rfl rfl rfl
 by_cases c4:zf l p=116
 ·rw[if_pos c4];rw[if_pos (by omega)] at a;exact j true ⟨#[114,117,101]⟩ [114,117,101] (by decide) (by decide) (by decide) (zP l p (by omega)) a
 rw[if_neg c4];rw[if_neg (by omega)] at a
 by_cases c5:zf l p=102
 ·rw[if_pos c5];rw[if_pos (by omega)] at a;exact j false ⟨#[97,108,115,101]⟩ [97,108,115,101] (by decide) (by decide) (by decide) (zP l p (by omega)) a
 rw[if_neg c5];rw[if_neg (by omega)] at a;exact vD l m p J v 2 (by decide) (by rw[a]) (λ_=>rfl)
theorem iZ(l:List UInt8)(f:Nat):AV l f/\AL l f/\AO l f:=by
 induction f with
 | zero=>exact⟨λm d p _ _ _ _ _ _ h=>by omega,λb m d p acc _ _ _ _ _ _ h=>by omega,λb m d p acc _ _ _ _ _ _ h=>by omega⟩
 | succ f a=>exact⟨Mv l f a.2.1 a.2.2,Db l f a.1 a.2.1,El l f a.1 a.2.2⟩
def xI(l:List UInt8):Res V:=match zL l (2*l.length+1) 1 (skip l 0) with
 | .err e q => .err e q
 | .ok v q=>if skip l q<l.length then .err 2 (skip l q) else .ok v (skip l q)
def jf(t:BY):List Value:=t.data.toList.map λc => .int .u8 (c.toNat:Int)
theorem byte_of(x:Int)(a:0<=x)(b:x<256):((UInt8.ofNat x.toNat).toNat:Int)=x:=by
 rw[UInt8.toNat_ofNat'];omega
theorem GD(n:Int)(a:0<=n)(b:n<=65535)(c:¬(55296<=n/\n<=57343)):Lib.runeCells n=jf (enc n):=by
 unfold Lib.runeCells jf enc
 by_cases c1:n<128
 ·rw[if_pos c1,Lib.encodeRuneZ_one a (by omega)];unfold one;simp only[List.map_cons,List.map_nil];rw[byte_of n a (by omega)]
 by_cases c2:n<2048
 ·rw[if_neg c1,if_pos c2,Lib.encodeRuneZ_two (by omega) (by omega)];simp only[List.map_cons,List.map_nil];rw[byte_of (192+n / 64) (by omega) (by omega),byte_of (128+n % 64) (by omega) (by omega)]
 ·rw[if_neg c1,if_neg c2,Lib.encodeRuneZ_three (by omega)];simp only[List.map_cons,List.map_nil];rw[byte_of (224+n / 4096) (by omega) (by omega),byte_of (128+n / 64 % 64) (by omega) (by omega),byte_of (128+n % 64) (by omega) (by omega)]
theorem JL(a b:BY):jf (a++b)=jf a++jf b:=by
 unfold jf;simp
theorem mX(a:BY):(jf a).length=a.size:=by
 unfold jf;rw[List.length_map,zx]
def jy(k:Nat):Nat:=[194,224,225,237,238,240,241,244].getD k 0
def jP(k:Nat):Nat:=[223,224,236,237,239,240,243,244].getD k 0
def uH(k:Nat):Nat:=[1,2,2,2,2,3,3,3].getD k 0
def Zt(k:Nat):Nat:=[128,160,128,128,128,144,128,128].getD k 0
def ZT(k:Nat):Nat:=[191,191,191,159,191,191,191,143].getD k 0
theorem lt8{k:Nat}(h:k<8):k=0\/k=1\/k=2\/k=3\/k=4\/k=5\/k=6\/k=7:=by omega
theorem Je(k:Nat)(a:k<8):128<=jy k/\jy k<256/\jP k<256/\1<=uH k/\uH k<=3/\0<Zt k/\Zt k<256/\ZT k<256:=by
 rcases lt8 a with rfl|rfl|rfl|rfl|rfl|rfl|rfl|rfl<;>decide
theorem VD(b k:Nat)(d:k<8)(a:jy k<=b)(c:b<=jP k):zR (b:Int)=((uH k:Int),(Zt k:Int),(ZT k:Int)):=by
 unfold zR
 rcases lt8 d with rfl|rfl|rfl|rfl|rfl|rfl|rfl|rfl<;>simp[jy,jP,uH,Zt,ZT] at a c |-<;>(repeat' split)<;>first|rfl|omega
theorem Cz(b:Nat)(h:∀k,k<8->b<jy k\/jP k<b):zR (b:Int)=(0,0,0):=by
 have a:=h 0 (by omega);have c:=h 1 (by omega);have d:=h 2 (by omega);have e:=h 3 (by omega);have f:=h 4 (by omega);have g:=h 5 (by omega);have i:=h 6 (by omega);have j:=h 7 (by omega);simp[jy,jP] at a c d e f g i j;unfold zR
 repeat' split
 all_goals first|rfl|omega
def piece(l:List UInt8)(p q:Nat):BY:=⟨((l.drop p).take (q-p)).toArray⟩
theorem Hf(l:List UInt8)(p:Nat)(h:zR (zf l p:Int)=(0,0,0)):yD l p = .err 2 p:=by
 unfold yD;simp only;rw[h];rfl
def Jm(l:List UInt8)(p j:Nat):Prop:=∀i,i<j->within l 128 191 (p+2+i)=true
theorem eO(l:List UInt8)(p:Nat)(h:p<l.length):one (zf l p:Int)=⟨#[l[p]]⟩:=by
 unfold one;rw[VU l p h]
 simp
theorem Jp(l:List UInt8)(lo hi p:Nat)(a:0<lo)(h:within l lo hi p=true):p<l.length:=by
 unfold within at h;simp at h;exact zP l p (by omega)
theorem Fy(l:List UInt8)(p:Nat)(h:p<l.length):piece l p (p+1)=one (zf l p:Int):=by
 rw[eO l p h]
 have e:(l.drop p).take (p+1-p)=[l[p]]:=by
  rw[List.drop_eq_getElem_cons h,show p+1-p=1 by omega];rfl
 unfold piece;rw[e]
theorem piece_more(l:List UInt8)(p q:Nat)(a:p<=q)(h:q<l.length):piece l p (q+1)=piece l p q++one (zf l q:Int):=by
 rw[eO l q h];unfold piece;rw[show q+1-p=(q-p)+1 by omega,List.take_add_one]
 have:(l.drop p)[q-p]?=some l[q]:=by
  rw[List.getElem?_drop,show p+(q-p)=q by omega,List.getElem?_eq_getElem h]
 rw[this];apply ByteArray.ext;simp[ByteArray.data_append]
theorem Hz(l:List UInt8)(p k:Nat)(a:k<8)(b:jy k<=zf l p)(c:zf l p<=jP k)(d:within l (Zt k) (ZT k) (p+1)=false):yD l p = .err 2 (p+1):=by
 have hb:=Je k a;unfold yD;simp only;rw[VD _ k a b c,if_neg (by simp;omega)];simp only[Int.toNat_natCast];rw[if_pos d]
theorem Ia(l:List UInt8)(p k j:Nat)(a:k<8)(b:jy k<=zf l p)(c:zf l p<=jP k)(g:within l (Zt k) (ZT k) (p+1)=true)(e:Jm l p j)(f:j+1<uH k)(hb:within l 128 191 (p+2+j)=false):yD l p = .err 2 (p+2+j):=by
 have d:=Je k a;unfold yD;simp only;rw[VD _ k a b c,if_neg (by simp;omega)];simp only[Int.toNat_natCast];rw[if_neg (by rw[g];decide),if_neg (by omega)]
 match j with
 | 0=>rw[if_pos (by simpa using hb)]
 | 1=>
  have:=e 0 (by omega)
  rw[if_neg (by rw[show p+2=p+2+0 by omega,this];decide),if_neg (by omega),if_pos (by simpa using hb)]
 | j+2=>omega
theorem He(l:List UInt8)(p k:Nat)(e:k<8)(h:jy k<=zf l p)(i:zf l p<=jP k)(f:within l (Zt k) (ZT k) (p+1)=true)(c:Jm l p (uH k-1)):yD l p = .ok (piece l p (p+1+uH k)) (p+1+uH k):=by
 have hb:=Je k e;have o:p<l.length:=zP l p (by omega);have q:=Jp l _ _ _ (by omega) f;unfold yD;simp only;rw[VD _ k e h i,if_neg (by simp;omega)];simp only[Int.toNat_natCast];rw[if_neg (by rw[f];decide)]
 have d:piece l p (p+2)=one (zf l p:Int)++one (zf l (p+1):Int):=by
  rw[piece_more l p (p+1) (by omega) q,Fy l p o]
 obtain⟨n,m⟩:=Nm (uH k);rw[m] at c hb |-;have j:n=1\/n=2\/n=3:=by omega
 rcases j with rfl|rfl|rfl
 ·rw[if_pos (by simp),d]
 ·have a:=c 0 (by omega);have b:=Jp l _ _ _ (by omega) a;simp only[Nat.add_zero] at a b;rw[if_neg (by simp),if_neg (by rw[a];decide),if_pos (by simp),piece_more l p (p+2) (by omega) b,d]
 ·have a:=c 0 (by omega);have g:=c 1 (by omega);have b:=Jp l _ _ _ (by omega) a;have r:=Jp l _ _ _ (by omega) g;simp only[Nat.add_zero] at a b;rw[if_neg (by simp),if_neg (by rw[a];decide),if_neg (by simp),if_neg (by rw[show p+3=p+2+1 by omega,g];decide),piece_more l p (p+3) (by omega) r,piece_more l p (p+2) (by omega) b,d]
def Res.to{α:Type}:Res α->Nat
 | .ok _ q=>q
 | .err _ q=>q
theorem XZ(n:Int):(one n).size=1:=rfl
theorem K5(n:Int):(enc n).size<=3:=by
 unfold enc
 split
 ·rw[XZ];omega
 split
 ·exact (by decide:2<=3)
 ·exact (by decide:3<=3)
theorem tY{l:List UInt8}{p q:Nat}{u:BY}(h:jK l p = .ok u q):q=p+4/\u.size<=3:=by
 unfold jK at h;simp only at h
 repeat' split at h
 all_goals first|(cases h;done)|(injection h with h1 h2;subst h1;exact⟨h2.symm,K5 _⟩)
theorem sD{l:List UInt8}{p q:Nat}{u:BY}(h:jh l p = .ok u q):p<q/\u.size<=q-p:=by
 unfold jh at h;simp only at h
 repeat' split at h
 all_goals first
  | (cases h;done)
  | (injection h with h1 h2;subst h1;rw[XZ];omega)
  | (have:=tY h;omega)
theorem Ha{l:List UInt8}{p q:Nat}{u:BY}(h:yD l p = .ok u q):p<q/\u.size<=q-p:=by
 unfold yD at h;simp only at h
 repeat' split at h
 all_goals first
  | (cases h;done)
  | (injection h with h1 h2;subst h1;simp only[ByteArray.size_append,XZ];omega)
theorem Kn{l:List UInt8}{p q:Nat}{u:BY}(h:xU l p = .ok u q):p<q/\u.size<=q-p:=by
 unfold xU at h;simp only at h
 repeat' split at h
 all_goals first
  | (cases h;done)
  | (injection h with h1 h2;subst h1;rw[XZ];omega)
  | (have:=sD h;omega)
  | exact Ha h
theorem Li{l:List UInt8}{f p q:Nat}{acc u:BY}(a:zf l p≠34)(h:xU l p = .ok u q):qa l (f+1) p acc=qa l f q (acc++u):=by
 rw[qa,if_neg a,h]
theorem Lh{l:List UInt8}{f p q:Nat}{acc:BY}{c:Int}(a:zf l p≠34)(h:xU l p = .err c q):qa l (f+1) p acc = .err c q:=by
 rw[qa,if_neg a,h]
theorem Lg{l:List UInt8}{f p:Nat}{acc:BY}(a:zf l p=34):qa l (f+1) p acc = .ok acc (p+1):=by
 rw[qa,if_pos a]
def xw(l:List UInt8)(p:Nat):Res BY:=if zf l p=34 then yE l (p+1) else .err 2 p
theorem fD(l:List UInt8)(p:Nat):zK l [34] p=if zf l p=34 then .ok () (p+1) else .err 2 p:=by
 simp only[zK]
theorem Ib{l:List UInt8}{p q:Nat}{c:Int}(h:yD l p = .err c q):c=2:=by
 unfold yD at h;simp only at h
 repeat' split at h
 all_goals first|(cases h;done)|(injection h with h1 h2;exact h1.symm)
theorem wB{l:List UInt8}{p q:Nat}{c:Int}(h:jK l p = .err c q):c=2:=by
 unfold jK at h;simp only at h
 repeat' split at h
 all_goals first|(cases h;done)|(injection h with h1 h2;exact h1.symm)
theorem sG{l:List UInt8}{p q:Nat}{c:Int}(h:jh l p = .err c q):c=2:=by
 unfold jh at h;simp only at h
 repeat' split at h
 all_goals first
  | (cases h;done)
  | (injection h with h1 h2;exact h1.symm)
  | exact wB h
theorem nG{l:List UInt8}{p q:Nat}{c:Int}(h:xU l p = .err c q):c=2:=by
 unfold xU at h;simp only at h
 repeat' split at h
 all_goals first
  | (cases h;done)
  | (injection h with h1 h2;exact h1.symm)
  | exact sG h
  | exact Ib h
theorem Jj{l:List UInt8}:∀{f p q:Nat} {acc:BY} {c:Int},qa l f p acc = .err c q->c=2
 | 0,p,q,acc,c,h=>by rw[qa] at h;injection h with h1 h2;exact h1.symm
 | f+1,p,q,acc,c,h=>by
  rw[qa] at h
  split at h
  ·cases h
  cases hc:xU l p with
  | ok u a=>rw[hc] at h;exact Jj h
  | err b a=>rw[hc] at h;injection h with h1 h2;rw[<- h1];exact nG hc
theorem fB{l:List UInt8}{p q:Nat}{c:Int}(h:xw l p = .err c q):c=2:=by
 unfold xw at h
 split at h
 ·exact Jj h
 ·injection h with h1 h2;exact h1.symm
theorem Ym{l:List UInt8}:∀{r:List Nat} {p q:Nat} {c:Int},zK l r p = .err c q->c=2
 | [],p,q,c,h=>by rw[zK] at h;cases h
 | b::r,p,q,c,h=>by
  rw[zK] at h
  split at h
  ·exact Ym h
  ·injection h with h1 h2;exact h1.symm
def ym{α:Type}(l:List UInt8)(d:Nat->α->Nat->Res α)(e:Nat):Nat->α->Nat->Res α
 | 0,_,p => .err 2 p
 | f+1,a,p=>match d f a p with
  | .err c q => .err c q
  | .ok b q=>
   if zf l (skip l q)=44 then ym l d e f b (skip l (skip l q+1))
   else if zf l (skip l q)=e then .ok b (skip l q+1)
   else .err 2 (skip l q)
def yY{α:Type}(l:List UInt8)(b:Nat->α->Nat->Res α)(e:Nat)(f d:Nat)(a:α)(p:Nat):Res α:=
 if 8<d then .err 3 p
 else if zf l (skip l (p+1))=e then .ok a (skip l (p+1)+1)
 else ym l b e f a (skip l (p+1))
def Res.map{α β:Type}(g:α->β):Res α->Res β
 | .ok a q => .ok (g a) q
 | .err c q => .err c q
def stL(l:List UInt8)(d:Nat)(f:Nat)(acc:List V)(q:Nat):Res (List V):=match zL l f (d+1) q with
 | .ok v a => .ok (acc++[v]) a
 | .err c a => .err c a
def kC(l:List UInt8)(d:Nat)(f:Nat)(acc:List (BY×V))(q:Nat):Res (BY×V):=match xw l q with
 | .err c b => .err c b
 | .ok s b=>
  if acc.any (λx=>x.1.toList==s.toList) then .err 4 (b-1)
  else if zf l (skip l b)≠58 then .err 2 (skip l b)
  else match zL l f (d+1) (skip l (skip l b+1)) with
  | .err c a => .err c a
  | .ok v a => .ok (s,v) a
def stO(l:List UInt8)(d:Nat)(f:Nat)(acc:List (BY×V))(q:Nat):Res (List (BY×V)):=match kC l d f acc q with
 | .ok m a => .ok (acc++[m]) a
 | .err c a => .err c a
theorem bF(l:List UInt8)(d:Nat):∀(f p:Nat) (acc:List V),yZ l f d p acc=(ym l (stL l d) 93 f acc p).map .list
 | 0,p,acc=>by rw[yZ,ym,Res.map]
 | f+1,p,acc=>by
  rw[yZ,ym,stL]
  cases hv:zL l f (d+1) p with
  | err c q=>rfl
  | ok v q=>
   simp only
   split
   ·exact bF l d f _ _
   split
   ·rfl
   ·rfl
theorem dI(l:List UInt8)(d:Nat):∀(f p:Nat) (acc:List (BY×V)),y9 l f d p acc=(ym l (stO l d) 125 f acc p).map .obj
 | 0,p,acc=>by rw[y9,ym,Res.map]
 | f+1,p,acc=>by
  rw[y9,ym,stO,kC,xw]
  by_cases h:zf l p=34
  ·rw[if_neg (by simp[h]),if_pos h]
   cases hs:yE l (p+1) with
   | err c q=>rfl
   | ok s q=>
    simp only
    by_cases ht:acc.any (λx=>x.1.toList==s.toList)=true
    ·rw[if_pos ht,if_pos ht];rfl
    rw[if_neg ht,if_neg ht]
    by_cases h58:zf l (skip l q)≠58
    ·rw[if_pos h58,if_pos h58];rfl
    rw[if_neg h58,if_neg h58]
    cases hv:zL l f (d+1) (skip l (skip l q+1)) with
    | err c a=>rfl
    | ok v a=>
     simp only
     split
     ·exact dI l d f _ _
     split
     ·rfl
     ·rfl
  ·rw[if_pos h,if_neg h];rfl
theorem Mr(l:List UInt8)(f d p:Nat)(h:zf l p=91):zL l (f+1) d p=(yY l (stL l d) 93 f d [] p).map .list:=by
 rw[zL,if_neg (by omega),if_pos h];unfold yY
 split
 ·rfl
 split
 ·rfl
 ·exact bF l d f _ _
theorem Mt(l:List UInt8)(f d p:Nat)(h:zf l p=123):zL l (f+1) d p=(yY l (stO l d) 125 f d [] p).map .obj:=by
 rw[zL,if_pos h];unfold yY
 split
 ·rfl
 split
 ·rfl
 ·exact dI l d f _ _
theorem Mx(l:List UInt8)(f d p:Nat)(h:zf l p=34):zL l (f+1) d p=(xw l p).map .str:=by
 rw[zL,if_neg (by omega),if_neg (by omega),if_pos h,xw,if_pos h]
 cases yE l (p+1)<;>rfl
theorem MB(l:List UInt8)(f d p:Nat)(h:zf l p=116):zL l (f+1) d p=(zK l [116,114,117,101] p).map (λ_ => .word true):=by
 rw[zL,if_neg (by omega),if_neg (by omega),if_neg (by omega),if_pos h]
 conv=>rhs;rw[zK,if_pos h]
 cases zK l [114,117,101] (p+1)<;>rfl
theorem Mq(l:List UInt8)(f d p:Nat)(h:zf l p=102):zL l (f+1) d p=(zK l [102,97,108,115,101] p).map (λ_ => .word false):=by
 rw[zL,if_neg (by omega),if_neg (by omega),if_neg (by omega),if_neg (by omega),if_pos h]
 conv=>rhs;rw[zK,if_pos h]
 cases zK l [97,108,115,101] (p+1)<;>rfl
theorem Ms(l:List UInt8)(f d p:Nat)(a:zf l p≠123)(b:zf l p≠91)(c:zf l p≠34)(e:zf l p≠116)(g:zf l p≠102):zL l (f+1) d p = .err 2 p:=by
 rw[zL,if_neg a,if_neg b,if_neg c,if_neg e,if_neg g]
def Va(d:Nat):zi:={ init with opn:=List.replicate (d-1) 0,nodes:=[⟨2,⟨#[]⟩,[],[]⟩] }
theorem Jo{l:List UInt8}{f d p q:Nat}{v:V}(hd:1<=d)(e:p<=l.length)(hb:blank (zf l p)=false)(b:2*(l.length-p)<f)(h:zL l f d p = .ok v q):p<q/\q<=l.length:=by
 have:=(iZ l f).1 (Va d) d p (.inl rfl) (λo c=>by
  have:o=0:=List.eq_of_mem_replicate c
  rw[this];exact Nat.zero_lt_one) (by simp[Va];omega) e hb (λh=>by have a:=h.1;simp[Va,init] at a) b
 rw[h] at this;exact⟨this.1,this.2.1⟩
theorem gW{l:List UInt8}:∀{f p q:Nat} {acc t:BY},qa l f p acc = .ok t q->p<q/\t.size<=acc.size+(q-p)
 | 0,p,q,acc,t,h=>by rw[qa] at h;cases h
 | f+1,p,q,acc,t,h=>by
  rw[qa] at h
  split at h
  ·injection h with a b;subst a;omega
  cases hc:xU l p with
  | ok u c=>
   rw[hc] at h;have a:=Kn hc;have b:=gW (acc:=acc++u) h;rw[ByteArray.size_append] at b;omega
  | err d c=>rw[hc] at h;cases h
theorem Y9{l:List UInt8}{p q:Nat}{t:BY}(h:xw l p = .ok t q):p+1<q/\t.size<=q:=by
 unfold xw yE at h
 split at h
 ·have:=gW h
  have e:(ByteArray.mk #[]).size=0:=rfl;omega
 ·cases h
theorem Ja{l:List UInt8}{p q:Nat}{t:BY}(h:xw l p = .ok t q):q<=l.length:=by
 unfold xw at h
 split at h
 ·rename_i a;have b:=zP l p (by omega)
  have:=Ud l { init with state:=8,got:=⟨#[]⟩ } (p+1) (by omega) rfl rfl
  rw[h] at this;exact this.2.1
 ·cases h
end Rd
end Go.Proofs.YtdakgnaojakldaaGreatDoor
