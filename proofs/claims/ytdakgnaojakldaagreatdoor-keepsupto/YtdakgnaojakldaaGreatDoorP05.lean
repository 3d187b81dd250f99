/- P -/
import Derived.Test.YtdakgnaojakldaaGreatDoorP04
import Derived.Lib.RuneBytes
set_option maxRecDepth 100000
namespace Go.Proofs.YtdakgnaojakldaaGreatDoor
namespace Rd
open Ref
def peek (l:List UInt8) (p:Nat):Nat:=(l.getD p 0).toNat
inductive Res (α:Type) where
 | ok (v:α) (p:Nat)
 | err (e:Int) (p:Nat)
def verdict (l:List UInt8) (m:zC) (p:Nat):Int×Nat×zC:=
 if (Ref.run m (l.drop p) p).1≠0 then Ref.run m (l.drop p) p
 else if (Ref.run m (l.drop p) p).2.2.state≠6∨(Ref.run m (l.drop p) p).2.2.opn≠[] then (2,l.length,(Ref.run m (l.drop p) p).2.2)
 else Ref.run m (l.drop p) p
def Inc (m:zC):Prop:=m.state≠6∨m.opn≠[]
def Fails (l:List UInt8) (m:zC) (p:Nat) (e:Int) (q:Nat):Prop:=(verdict l m p).1=e∧(verdict l m p).2.1=q
theorem zcp (l:List UInt8) (p:Nat) (h:p<l.length):peek l p=l[p].toNat:=by
 unfold peek;rw [List.getD_eq_getElem?_getD,List.getElem?_eq_getElem h];rfl
theorem U0 (l:List UInt8) (p:Nat) (h:¬p<l.length):peek l p=0:=by
 unfold peek;rw [List.getD_eq_getElem?_getD,List.getElem?_eq_none (by omega)];rfl
theorem zx (l:List UInt8) (p:Nat) (h:peek l p≠0):p<l.length:=by
 rcases Nat.lt_or_ge p l.length with h1|h1
 ·exact h1
 ·exact absurd (U0 l p (by omega)) h
theorem vS (l:List UInt8) (p:Nat):peek l p<256:=UInt8.toNat_lt _
theorem zg4 (l:List UInt8) (m:zC) (p:Nat) (h:p<l.length):Ref.run m (l.drop p) p=if (Ref.step m (peek l p:Int)).1=0 then Ref.run (Ref.step m (peek l p:Int)).2 (l.drop (p+1)) (p+1) else ((Ref.step m (peek l p:Int)).1,p,m):=by
 rw [List.drop_eq_getElem_cons h,Ref.run,zcp l p h]
theorem zn (l:List UInt8) (m m':zC) (p:Nat) (h:p<l.length) (hs:Ref.step m (peek l p:Int)=(0,m')):verdict l m p=verdict l m' (p+1):=by
 have e:Ref.run m (l.drop p) p=Ref.run m' (l.drop (p+1)) (p+1):=by rw [zg4 l m p h,hs];rfl
 unfold verdict;rw [e]
theorem qw (l:List UInt8) (m:zC) (p:Nat) (hp:p≤l.length) (hi:Inc m) (e:Int) (he:e≠0) (hs:(Ref.step m (peek l p:Int)).1=e) (h0:peek l p=0→e=2):Fails l m p e p:=by
 by_cases h:p<l.length
 ·have e1:Ref.run m (l.drop p) p=(e,p,m):=by
   rw [zg4 l m p h,if_neg (by rw [hs];exact he),hs]
  unfold Fails verdict
  rw [e1,if_pos he]
  exact ⟨rfl,rfl⟩
 ·have e2:=h0 (U0 l p h)
  have hpl:p=l.length:=by omega
  have e1:Ref.run m (l.drop p) p=(0,p,m):=by rw [List.drop_of_length_le (by omega),Ref.run]
  unfold Fails verdict
  have hi':(0,p,m).2.2.state≠6∨(0,p,m).2.2.opn≠[]:=hi
  rw [e1,if_neg (by simp),if_pos hi',e2,hpl]
  exact ⟨rfl,rfl⟩
theorem zaV (l:List UInt8) (m:zC) (hi:m.state=6) (ho:m.opn=[]):verdict l m l.length=(0,l.length,m):=by
 unfold verdict
 rw [List.drop_length,Ref.run]
 simp [hi,ho]
theorem Fails.of_eq {l:List UInt8} {m m':zC} {p p':Nat} {e:Int} {q:Nat} (h:Fails l m' p' e q) (he:verdict l m p=verdict l m' p'):Fails l m p e q:=by
 unfold Fails at *;rw [he];exact h
def blank (b:Nat):Bool:=b==32||b==9||b==10||b==13
theorem Va (b:Nat):Xg (b:Int)=blank b:=by
 unfold Xg blank
 rw [Bool.eq_iff_iff]
 simp
 omega
def zjU (l:List UInt8):Nat→Nat→Nat
 | 0,p=>p
 | f+1,p=>if blank (peek l p) then zjU l f (p+1) else p
def skip (l:List UInt8) (p:Nat):Nat:=zjU l (l.length-p) p
theorem kw (l:List UInt8) (p:Nat) (h:blank (peek l p)=true):p<l.length:=by
 apply zx
 intro e
 rw [e] at h
 exact absurd h (by decide)
theorem jy (l:List UInt8) (p:Nat):skip l p=if blank (peek l p) then skip l (p+1) else p:=by
 unfold skip
 by_cases h:p<l.length
 ·obtain ⟨k,hk⟩:∃k,l.length-p=k+1:=⟨l.length-p-1,by omega⟩
  rw [hk,zjU,show l.length-(p+1)=k by omega]
 ·have e:l.length-p=0:=by omega
  rw [e,zjU,if_neg]
  intro hb
  exact h (kw l p hb)
theorem zfv (m:zC) (h7:m.state<7) (b:Nat) (hb:blank b=true):Ref.step m (b:Int)=(0,m):=by
 rw [step_low m _ h7,Va,hb,if_pos rfl]
theorem qV (l:List UInt8) (m:zC) (h7:m.state<7) (p:Nat):verdict l m p=verdict l m (skip l p):=by
 generalize hn:l.length-p=n
 induction n generalizing p with
 | zero=>
  rw [jy,if_neg]
  intro hb
  have:=kw l p hb
  omega
 | succ n ih=>
  rw [jy]
  by_cases hb:blank (peek l p)=true
  ·rw [if_pos hb,← ih (p+1) (by omega)]
   exact zn l m m p (by omega) (zfv m h7 _ hb)
  ·rw [if_neg hb]
theorem xy (l:List UInt8) (p:Nat):p≤skip l p:=by
 generalize hn:l.length-p=n
 induction n generalizing p with
 | zero=>rw [jy];split<;>rename_i h<;>first|(have:=kw l p h;omega)|omega
 | succ n ih=>
  rw [jy]
  split
  ·have:=ih (p+1) (by omega);omega
  ·omega
theorem yh (l:List UInt8) (p:Nat) (hp:p≤l.length):skip l p≤l.length:=by
 generalize hn:l.length-p=n
 induction n generalizing p with
 | zero=>rw [jy];split<;>rename_i h<;>first|(have:=kw l p h;omega)|omega
 | succ n ih=>
  rw [jy]
  split
  ·exact ih (p+1) (by omega) (by omega)
  ·omega
theorem xX (l:List UInt8) (p:Nat):blank (peek l (skip l p))=false:=by
 generalize hn:l.length-p=n
 induction n generalizing p with
 | zero=>
  rw [jy]
  split
  ·rename_i h;have:=kw l p h;omega
  ·rename_i h;simpa using h
 | succ n ih=>
  rw [jy]
  split
  ·exact ih (p+1) (by omega)
  ·rename_i h;simpa using h
def Within (m m':zC) (g:ByteArray):Prop:=m'.state=8∧m'.opn=m.opn∧m'.nodes=m.nodes∧m'.named=m.named∧m'.root=m.root∧m'.got=m.got++g
def within (l:List UInt8) (lo hi p:Nat):Bool:=decide (lo≤peek l p∧peek l p≤hi)
def zao (l:List UInt8) (p:Nat):Res ByteArray:=
 let r:=qE (peek l p:Int)
 if r.1=0 then .err 2 p
 else if within l r.2.1.toNat r.2.2.toNat (p+1)=false then .err 2 (p+1)
 else if r.1=1 then .ok (one (peek l p)++one (peek l (p+1))) (p+2)
 else if within l 128 191 (p+2)=false then .err 2 (p+2)
 else if r.1=2 then .ok (one (peek l p)++one (peek l (p+1))++one (peek l (p+2))) (p+3)
 else if within l 128 191 (p+3)=false then .err 2 (p+3)
 else .ok (one (peek l p)++one (peek l (p+1))++one (peek l (p+2))++one (peek l (p+3))) (p+4)
def Xp (l:List UInt8) (p:Nat):Res ByteArray:=
 let a:=hexN (peek l p)
 let b:=hexN (peek l (p+1))
 let c:=hexN (peek l (p+2))
 let d:=hexN (peek l (p+3))
 if a<0 then .err 2 p
 else if b<0∨(a=13∧8≤b) then .err 2 (p+1)
 else if c<0 then .err 2 (p+2)
 else if d<0 then .err 2 (p+3)
 else .ok (enc (((a*16+b)*16+c)*16+d)) (p+4)
def zdG (l:List UInt8) (p:Nat):Res ByteArray:=
 let b:=peek l p
 if b=34∨b=92∨b=47 then .ok (one b) (p+1)
 else if b=110 then .ok (one 10) (p+1)
 else if b=116 then .ok (one 9) (p+1)
 else if b=117 then Xp l (p+1)
 else .err 2 p
def Zy (l:List UInt8) (p:Nat):Res ByteArray:=
 let b:=peek l p
 if b<32 then .err 2 p
 else if b=92 then zdG l (p+1)
 else if b<128 then .ok (one b) (p+1)
 else zao l p
def zkF (l:List UInt8) (m:zC) (p:Nat) (r:Res ByteArray):Prop:=match r with
 | .ok s q=>p<q∧q≤l.length∧∃m',Within m m' s∧verdict l m p=verdict l m' q
 | .err e q=>Fails l m p e q
theorem Vf (b:Nat):hexN (b:Int)≤15:=by
 unfold hexN;repeat' split
 all_goals omega
theorem zcj (l:List UInt8) (p:Nat) (h:0≤hexN (peek l p)):p<l.length:=by
 apply zx
 intro e
 rw [e] at h
 exact absurd h (by decide)
theorem zaj (l:List UInt8) (m:zC) (p:Nat) (hp:p≤l.length) (hs:m.state=9) (lo hi:Nat) (hl:m.low=lo) (hh:m.high=hi) (h0:0<lo) :
  (within l lo hi p=false→Fails l m p 2 p) ∧
  (within l lo hi p=true→p<l.length∧verdict l m p=verdict l { m with got:=m.got++one (peek l p),low:=128,high:=191,need:=m.need-1,state:=if m.need-1=0 then 8 else 9 } (p+1)):=by
 constructor
 ·intro h
  refine qw l m p hp (.inl (by omega)) 2 (by decide) ?_ (fun _=>rfl)
  rw [J8 m _ hs,hl,hh,if_pos]
  unfold within at h
  simp at h
  omega
 ·intro h
  unfold within at h
  simp at h
  have hlt:p<l.length:=zx l p (by omega)
  refine ⟨hlt,zn l m _ p hlt ?_⟩
  rw [J8 m _ hs,hl,hh,if_neg (by omega)]
theorem zgt (b:Nat):qE (b:Int)=(0,0,0)∨(128≤b∧∃n lo hi:Nat,qE (b:Int)=((n:Int),(lo:Int),(hi:Int))∧0<lo∧(n=1∨n=2∨n=3)):=by
 unfold qE
 split
 ·exact .inr ⟨by omega,1,128,191,rfl,by omega,by omega⟩
 split
 ·exact .inr ⟨by omega,2,160,191,rfl,by omega,by omega⟩
 split
 ·exact .inr ⟨by omega,2,128,159,rfl,by omega,by omega⟩
 split
 ·exact .inr ⟨by omega,2,128,191,rfl,by omega,by omega⟩
 split
 ·exact .inr ⟨by omega,3,144,191,rfl,by omega,by omega⟩
 split
 ·exact .inr ⟨by omega,3,128,191,rfl,by omega,by omega⟩
 split
 ·exact .inr ⟨by omega,3,128,143,rfl,by omega,by omega⟩
 exact .inl rfl
theorem zmH (a b c:ByteArray):a++b++c=a++(b++c):=by
 apply ByteArray.ext;simp
theorem zfw (l:List UInt8) (m:zC) (p:Nat) (hs:m.state=8) (hb:128≤peek l p):zkF l m p (zao l p):=by
 have hp:p<l.length:=zx l p (by omega)
 have hst:Ref.step m (peek l p:Int)=if (qE (peek l p:Int)).1=0 then (2,m) else (0,{ m with need:=(qE (peek l p:Int)).1,low:=(qE (peek l p:Int)).2.1,high:=(qE (peek l p:Int)).2.2,got:=m.got++one (peek l p),state:=9 }):=by
  rw [Xn m _ hs]
  unfold plain
  rw [if_neg (by omega),if_neg (by omega),if_neg (by omega),if_neg (by omega)]
 unfold zao
 rcases zgt (peek l p) with h0|⟨_,n,lo,hi,hr,hlo,hn⟩
 ·rw [h0] at hst ⊢
  simp only [if_true]
  exact qw l m p (by omega) (.inl (by omega)) 2 (by decide) (by rw [hst];rfl) (fun _=>rfl)
 ·rw [hr] at hst ⊢
  simp only [Int.toNat_natCast]
  rw [if_neg (by omega)] at hst ⊢
  have hv:=zn l m _ p hp hst
  obtain ⟨m1,hm1⟩:∃m1:zC,m1={ m with need:=(n:Int),low:=(lo:Int),high:=(hi:Int),got:=m.got++one (peek l p),state:=9 }:=⟨_,rfl⟩
  rw [← hm1] at hv
  have s1:=zaj l m1 (p+1) (by omega) (by rw [hm1]) lo hi (by rw [hm1]) (by rw [hm1]) hlo
  cases w1:within l lo hi (p+1) with
  | false=>rw [if_pos rfl];exact (s1.1 w1).of_eq hv
  | true=>
   rw [if_neg (by decide)]
   obtain ⟨q1,v1⟩:=s1.2 w1
   have v1:=hv.trans v1
   by_cases n1:n=1
   ·rw [if_pos (by omega)]
    refine ⟨by omega,by omega,_,?_,v1⟩
    subst n1
    rw [hm1]
    exact ⟨rfl,rfl,rfl,rfl,rfl,by simp only;rw [zmH]⟩
   rw [if_neg (by omega)]
   obtain ⟨m2,hm2⟩:∃m2:zC,m2={ m1 with got:=m1.got++one (peek l (p+1)),low:=128,high:=191,need:=m1.need-1,state:=if m1.need-1=0 then 8 else 9 }:=⟨_,rfl⟩
   rw [← hm2] at v1
   have s2:=zaj l m2 (p+2) (by omega) (by rw [hm2];simp only;rw [if_neg];rw [hm1];simp only;omega) 128 191 (by rw [hm2];rfl) (by rw [hm2];rfl) (by omega)
   cases w2:within l 128 191 (p+2) with
   | false=>rw [if_pos rfl];exact (s2.1 w2).of_eq v1
   | true=>
    rw [if_neg (by decide)]
    obtain ⟨q2,v2⟩:=s2.2 w2
    have v2:=v1.trans v2
    by_cases n2:n=2
    ·rw [if_pos (by omega)]
     refine ⟨by omega,by omega,_,?_,v2⟩
     subst n2
     rw [hm2,hm1]
     exact ⟨rfl,rfl,rfl,rfl,rfl,by simp only [zmH]⟩
    rw [if_neg (by omega)]
    obtain rfl:n=3:=by omega
    obtain ⟨m3,hm3⟩:∃m3:zC,m3={ m2 with got:=m2.got++one (peek l (p+2)),low:=128,high:=191,need:=m2.need-1,state:=if m2.need-1=0 then 8 else 9 }:=⟨_,rfl⟩
    rw [← hm3] at v2
    have s3:=zaj l m3 (p+3) (by omega) (by rw [hm3,hm2,hm1];rfl) 128 191 (by rw [hm3];rfl) (by rw [hm3];rfl) (by omega)
    cases w3:within l 128 191 (p+3) with
    | false=>rw [if_pos rfl];exact (s3.1 w3).of_eq v2
    | true=>
     rw [if_neg (by decide)]
     obtain ⟨q3,v3⟩:=s3.2 w3
     refine ⟨by omega,by omega,_,?_,v2.trans v3⟩
     rw [hm3,hm2,hm1]
     exact ⟨rfl,rfl,rfl,rfl,rfl,by simp only [zmH]⟩
theorem Y7 (l:List UInt8) (m:zC) (p:Nat) (hp:p≤l.length) (hs:m.state=11) (N k:Int) (hN:m.number=N) (hk:m.need=k) (bad:Prop) (hb:bad↔(hexN (peek l p)<0∨(k=3∧216≤16*N+hexN (peek l p)∧16*N+hexN (peek l p)≤223))) :
  (bad→Fails l m p 2 p) ∧
  (¬bad→k≠1→p<l.length∧verdict l m p=verdict l { m with number:=16*N+hexN (peek l p),need:=k-1 } (p+1)) ∧
  (¬bad→k=1→p<l.length∧verdict l m p=verdict l { m with number:=16*N+hexN (peek l p),need:=k-1,got:=m.got++enc (16*N+hexN (peek l p)),state:=8 } (p+1)):=by
 have hst:Ref.step m (peek l p:Int)=digit m (peek l p:Int):=X0 m _ hs
 unfold digit at hst
 rw [hN,hk] at hst
 refine ⟨fun h=>?_,fun h hk1=>?_,fun h hk1=>?_⟩
 ·refine qw l m p hp (.inl (by omega)) 2 (by decide) ?_ (fun _=>rfl)
  rw [hst]
  by_cases h1:hexN (peek l p:Int)<0
  ·rw [if_pos h1]
  ·rw [if_neg h1,if_pos (by have:=hb.1 h;omega)]
 ·rw [hb] at h
  have hlt:p<l.length:=zcj l p (by omega)
  refine ⟨hlt,zn l m _ p hlt ?_⟩
  rw [hst,if_neg (by omega),if_neg (by omega),if_neg (by omega)]
 ·rw [hb] at h
  have hlt:p<l.length:=zcj l p (by omega)
  refine ⟨hlt,zn l m _ p hlt ?_⟩
  rw [hst,if_neg (by omega),if_neg (by omega),if_pos (by omega)]
theorem zdJ (l:List UInt8) (m:zC) (p:Nat) (hp:p≤l.length) (hs:m.state=11) (hn:m.number=0) (hk:m.need=4) :
  match Xp l p with
  | .ok s q=>p<q∧q≤l.length∧∃m',Within { m with state:=8 } m' s∧verdict l m p=verdict l m' q
  | .err e q=>Fails l m p e q:=by
 have ha:=Vf (peek l p)
 have hb:=Vf (peek l (p+1))
 unfold Xp
 simp only
 generalize hA:hexN (peek l p:Int)=A at *
 have s1:=Y7 l m p hp hs 0 4 hn hk (A<0) (by rw [hA];omega)
 by_cases c1:A<0
 ·rw [if_pos c1];exact s1.1 c1
 rw [if_neg c1]
 obtain ⟨q1,v1⟩:=s1.2.1 c1 (by decide)
 rw [hA] at v1
 obtain ⟨m1,hm1⟩:∃m1:zC,m1={ m with number:=16*0+A,need:=4-1 }:=⟨_,rfl⟩
 rw [← hm1] at v1
 generalize hB:hexN (peek l (p+1):Int)=B at *
 have s2:=Y7 l m1 (p+1) (by omega) (by rw [hm1];exact hs) A 3 (by rw [hm1];simp) (by rw [hm1];rfl) (B<0∨(A=13∧8≤B)) (by rw [hB];omega)
 by_cases c2:B<0∨(A=13∧8≤B)
 ·rw [if_pos c2];exact (s2.1 c2).of_eq v1
 rw [if_neg c2]
 obtain ⟨q2,v2⟩:=s2.2.1 c2 (by decide)
 rw [hB] at v2
 have v2:=v1.trans v2
 obtain ⟨m2,hm2⟩:∃m2:zC,m2={ m1 with number:=16*A+B,need:=3-1 }:=⟨_,rfl⟩
 rw [← hm2] at v2
 generalize hC:hexN (peek l (p+2):Int)=C at *
 have s3:=Y7 l m2 (p+2) (by omega) (by rw [hm2,hm1];exact hs) (16*A+B) 2 (by rw [hm2]) (by rw [hm2];rfl) (C<0) (by rw [hC];omega)
 by_cases c3:C<0
 ·rw [if_pos c3];exact (s3.1 c3).of_eq v2
 rw [if_neg c3]
 obtain ⟨q3,v3⟩:=s3.2.1 c3 (by decide)
 rw [hC] at v3
 have v3:=v2.trans v3
 obtain ⟨m3,hm3⟩:∃m3:zC,m3={ m2 with number:=16*(16*A+B)+C,need:=2-1 }:=⟨_,rfl⟩
 rw [← hm3] at v3
 generalize hD:hexN (peek l (p+3):Int)=D at *
 have s4:=Y7 l m3 (p+3) (by omega) (by rw [hm3,hm2,hm1];exact hs) (16*(16*A+B)+C) 1 (by rw [hm3]) (by rw [hm3];rfl) (D<0) (by rw [hD];omega)
 by_cases c4:D<0
 ·rw [if_pos c4];exact (s4.1 c4).of_eq v3
 rw [if_neg c4]
 obtain ⟨q4,v4⟩:=s4.2.2 c4 rfl
 rw [hD] at v4
 refine ⟨by omega,by omega,_,?_,v3.trans v4⟩
 rw [hm3,hm2,hm1]
 refine ⟨rfl,rfl,rfl,rfl,rfl,?_⟩
 simp only
 have e:16*(16*(16*A+B)+C)+D=((A*16+B)*16+C)*16+D:=by omega
 rw [e]
theorem ze2 (l:List UInt8) (m:zC) (p:Nat) (hp:p≤l.length) (hs:m.state=10) :
  match zdG l p with
  | .ok s q=>p<q∧q≤l.length∧∃m',Within { m with state:=8 } m' s∧verdict l m p=verdict l m' q
  | .err e q=>Fails l m p e q:=by
 have hst:Ref.step m (peek l p:Int)=escape m (peek l p:Int):=Ym m _ hs
 unfold escape at hst
 unfold zdG
 simp only
 generalize hb:peek l p=b at *
 by_cases c1:b=34∨b=92∨b=47
 ·rw [if_pos c1]
  rw [if_pos (by omega)] at hst
  have hlt:p<l.length:=zx l p (by rw [hb];omega)
  have v:=zn l m _ p hlt (by rw [hb];exact hst)
  refine ⟨by omega,by omega,_,?_,v⟩
  exact ⟨rfl,rfl,rfl,rfl,rfl,rfl⟩
 rw [if_neg c1]
 rw [if_neg (by omega)] at hst
 by_cases c2:b=110
 ·rw [if_pos c2]
  rw [if_pos (by omega)] at hst
  have hlt:p<l.length:=zx l p (by rw [hb];omega)
  have v:=zn l m _ p hlt (by rw [hb];exact hst)
  refine ⟨by omega,by omega,_,?_,v⟩
  exact ⟨rfl,rfl,rfl,rfl,rfl,rfl⟩
 rw [if_neg c2]
 rw [if_neg (by omega)] at hst
 by_cases c3:b=116
 ·rw [if_pos c3]
  rw [if_pos (by omega)] at hst
  have hlt:p<l.length:=zx l p (by rw [hb];omega)
  have v:=zn l m _ p hlt (by rw [hb];exact hst)
  refine ⟨by omega,by omega,_,?_,v⟩
  exact ⟨rfl,rfl,rfl,rfl,rfl,rfl⟩
 rw [if_neg c3]
 rw [if_neg (by omega)] at hst
 by_cases c4:b=117
 ·rw [if_pos c4]
  rw [if_pos (by omega)] at hst
  have hlt:p<l.length:=zx l p (by rw [hb];omega)
  have v:=zn l m _ p hlt (by rw [hb];exact hst)
  have f:=zdJ l { m with state:=11,need:=4,number:=0 } (p+1) (by omega) rfl rfl rfl
  cases hf:Xp l (p+1) with
  | ok s q=>
   rw [hf] at f
   obtain ⟨g1,g2,m',g3,g4⟩:=f
   exact ⟨by omega,g2,m',g3,v.trans g4⟩
  | err e q=>
   rw [hf] at f
   exact Fails.of_eq f v
 rw [if_neg c4]
 rw [if_neg (by omega)] at hst
 exact qw l m p hp (.inl (by omega)) 2 (by decide) (by rw [hb,hst]) (fun _=>rfl)
theorem zcv (l:List UInt8) (m:zC) (p:Nat) (hp:p≤l.length) (hs:m.state=8) (hq:peek l p≠34):zkF l m p (Zy l p):=by
 have hst:Ref.step m (peek l p:Int)=plain m (peek l p:Int):=Xn m _ hs
 unfold plain at hst
 unfold Zy
 simp only
 by_cases c1:peek l p<32
 ·rw [if_pos c1]
  rw [if_neg (by omega),if_neg (by omega),if_pos (by omega)] at hst
  exact qw l m p hp (.inl (by omega)) 2 (by decide) (by rw [hst]) (fun _=>rfl)
 rw [if_neg c1]
 have hlt:p<l.length:=zx l p (by omega)
 by_cases c2:peek l p=92
 ·rw [if_pos c2]
  rw [if_neg (by omega),if_pos (by omega)] at hst
  have v:=zn l m _ p hlt hst
  have f:=ze2 l { m with state:=10 } (p+1) (by omega) rfl
  cases hf:zdG l (p+1) with
  | ok s q=>
   rw [hf] at f
   obtain ⟨g1,g2,m',g3,g4⟩:=f
   exact ⟨by omega,g2,m',g3,v.trans g4⟩
  | err e q=>
   rw [hf] at f
   exact Fails.of_eq f v
 rw [if_neg c2]
 by_cases c3:peek l p<128
 ·rw [if_pos c3]
  rw [if_neg (by omega),if_neg (by omega),if_neg (by omega),if_pos (by omega)] at hst
  refine ⟨by omega,by omega,_,?_,zn l m _ p hlt hst⟩
  exact ⟨hs,rfl,rfl,rfl,rfl,rfl⟩
 rw [if_neg c3]
 exact zfw l m p hs (by omega)
theorem JM (l:List UInt8) (m:zC) (p:Nat) (hp:p<l.length) (e:Int) (he:e≠0) (hs:(Ref.step m (peek l p:Int)).1=e):Fails l m p e p:=by
 have e1:Ref.run m (l.drop p) p=(e,p,m):=by
  rw [zg4 l m p hp,if_neg (by rw [hs];exact he),hs]
 unfold Fails verdict
 rw [e1,if_pos he]
 exact ⟨rfl,rfl⟩
def ZC (l:List UInt8):Nat→Nat→ByteArray→Res ByteArray
 | 0,p,_ => .err 2 p
 | f+1,p,acc=>if peek l p=34 then .ok acc (p+1) else match Zy l p with
  | .ok s q=>ZC l f q (acc++s)
  | .err e q => .err e q
def zca (l:List UInt8) (p:Nat):Res ByteArray:=ZC l (l.length+1-p) p ⟨#[]⟩
def zhC (m m':zC) (s:ByteArray):Prop:=m'.state=8∧m'.opn=m.opn∧m'.nodes=m.nodes∧m'.named=m.named∧m'.root=m.root∧m'.got=s
theorem ze8 (l:List UInt8) (f:Nat) (m:zC) (p:Nat) (acc:ByteArray) (hp:p≤l.length) (hf:l.length<p+f) (hs:m.state=8) (hg:m.got=acc) :
  match ZC l f p acc with
  | .ok s q=>p<q∧q≤l.length∧peek l (q-1)=34∧∃m',zhC m m' s∧verdict l m p=verdict l m' (q-1)
  | .err e q=>Fails l m p e q:=by
 induction f generalizing m p acc with
 | zero=>omega
 | succ f ih=>
  rw [ZC]
  by_cases h34:peek l p=34
  ·rw [if_pos h34]
   have hlt:=zx l p (by omega)
   exact ⟨by omega,by omega,by simpa using h34,m,⟨hs,rfl,rfl,rfl,rfl,hg⟩,by simp⟩
  rw [if_neg h34]
  have hc:=zcv l m p hp hs h34
  cases hm:Zy l p with
  | err e q=>rw [hm] at hc;exact hc
  | ok s q=>
   rw [hm] at hc
   obtain ⟨h1,h2,m1,⟨w1,w2,w3,w4,w5,w6⟩,hv⟩:=hc
   have hi:=ih m1 q (acc++s) h2 (by omega) w1 (by rw [w6,hg])
   simp only
   cases hr:ZC l f q (acc++s) with
   | err e q'=>rw [hr] at hi;exact Fails.of_eq hi hv
   | ok s' q'=>
    rw [hr] at hi
    obtain ⟨g1,g2,g3,m',⟨k1,k2,k3,k4,k5,k6⟩,gv⟩:=hi
    exact ⟨by omega,g2,g3,m',⟨k1,by rw [k2,w2],by rw [k3,w3],by rw [k4,w4],by rw [k5,w5],k6⟩,hv.trans gv⟩
theorem QL (l:List UInt8) (m:zC) (p:Nat) (hp:p≤l.length) (hs:m.state=8) (hg:m.got=⟨#[]⟩) :
  match zca l p with
  | .ok s q=>p<q∧q≤l.length∧peek l (q-1)=34∧∃m',zhC m m' s∧verdict l m p=verdict l m' (q-1)
  | .err e q=>Fails l m p e q:=ze8 l _ m p ⟨#[]⟩ hp (by omega) hs hg
inductive V where
 | str (s:ByteArray)
 | word (b:Bool)
 | list (l:List V)
 | obj (l:List (ByteArray×V))
inductive Rep (ns:List Ref.Node):Nat→V→Prop
 | str (i:Nat) (n:Ref.Node) (s:ByteArray):ns[i]?=some n→n.kind=3→n.text=s→n.kids=[]→n.names=[]→Rep ns i (.str s)
 | word (i:Nat) (n:Ref.Node) (b:Bool):ns[i]?=some n→n.kind=(if b then 4 else 5)→n.kids=[]→n.names=[]→Rep ns i (.word b)
 | list (i:Nat) (n:Ref.Node) (vs:List V):ns[i]?=some n→n.kind=2→n.names=[]→n.kids.length=vs.length →
   (∀k ∈ n.kids,i<k)→(∀(j k:Nat) (v:V),n.kids[j]?=some k→vs[j]?=some v→Rep ns k v)→Rep ns i (.list vs)
 | obj (i:Nat) (n:Ref.Node) (ms:List (ByteArray×V)):ns[i]?=some n→n.kind=1→n.names=ms.map Prod.fst→n.kids.length=ms.length →
   (∀k ∈ n.kids,i<k)→(∀(j k:Nat) (x:ByteArray×V),n.kids[j]?=some k→ms[j]?=some x→Rep ns k x.2)→Rep ns i (.obj ms)
theorem Rep.more {ns ns':List Ref.Node} {i:Nat} {v:V} (h:Rep ns i v) (hn:∀(j:Nat) (n:Ref.Node),i≤j→ns[j]?=some n→ns'[j]?=some n):Rep ns' i v:=by
 induction h with
 | str i n s h1 h2 h3 h4 h5=>exact .str i n s (hn i n (Nat.le_refl _) h1) h2 h3 h4 h5
 | word i n b h1 h2 h3 h4=>exact .word i n b (hn i n (Nat.le_refl _) h1) h2 h3 h4
 | list i n vs h1 h2 h3 h4 h5 _ ih=>
  exact .list i n vs (hn i n (Nat.le_refl _) h1) h2 h3 h4 h5 (fun j k v hk hv=>ih j k v hk hv (fun j' n' hj hn'=>hn j' n' (by have:=h5 k (List.mem_of_getElem? hk);omega) hn'))
 | obj i n ms h1 h2 h3 h4 h5 _ ih=>
  exact .obj i n ms (hn i n (Nat.le_refl _) h1) h2 h3 h4 h5 (fun j k x hk hx=>ih j k x hk hx (fun j' n' hj hn'=>hn j' n' (by have:=h5 k (List.mem_of_getElem? hk);omega) hn'))
def base (m:zC):List Ref.Node:=if m.opn=[] then m.nodes else xN (m.opn.getLastD 0) m.nodes.length m.nodes
structure zjQ (m m':zC) (v:V):Prop where
 state:m'.state=6
 opn:m'.opn=m.opn
 old:m'.nodes.take m.nodes.length=base m
 rep:Rep m'.nodes m.nodes.length v
 root:m'.root=if m.opn=[] then (m.nodes.length:Int) else m.root
theorem Jc (m:zC):(base m).length=m.nodes.length:=by
 unfold base;split
 ·rfl
 ·simp [xN]
def zch (m:zC):Prop:=∀o ∈ m.opn,o<m.nodes.length
theorem zjA (l:List Nat) (h:l≠[]):l.getLastD 0 ∈ l:=by
 cases l with
 | nil=>exact absurd rfl h
 | cons a r=>rw [List.getLastD_eq_getLast?,List.getLast?_eq_some_getLast (by simp)];exact List.getLast_mem _
theorem XN (m:zC) (n:Ref.Node) (ho:zch m):(lay m n).nodes=base m++[n]:=by
 unfold lay base
 by_cases h:m.opn=[]
 ·rw [if_pos h,if_pos h]
 ·rw [if_neg h,if_neg h]
  have hlt:=ho _ (zjA m.opn h)
  generalize m.opn.getLastD 0=t at hlt ⊢
  unfold xN
  simp only
  apply List.ext_getElem?
  intro i
  rw [List.getElem?_modify]
  by_cases hi:i<m.nodes.length
  ·rw [List.getElem?_append_left hi,List.getElem?_append_left (by simpa using hi),List.getElem?_modify]
  ·rw [List.getElem?_append_right (by omega),List.getElem?_append_right (by simp;omega)]
   have:¬t=i:=by omega
   simp [this]
theorem zew (m:zC) (n:Ref.Node):(lay m n).root=if m.opn=[] then (m.nodes.length:Int) else m.root:=by
 unfold lay;split<;>rfl
theorem zbc (m m':zC) (n:Ref.Node) (v:V) (ho:zch m) (h6:m'.state=6) (hop:m'.opn=m.opn) (hn:m'.nodes=(lay m n).nodes) (hr:m'.root=(lay m n).root) (hv:Rep m'.nodes m.nodes.length v):zjQ m m' v:=by
 refine ⟨h6,hop,?_,hv,by rw [hr,zew]⟩
 rw [hn,XN m n ho,← Jc m,List.take_left]
theorem zce (m:zC) (n:Ref.Node) (ho:zch m):(lay m n).nodes[m.nodes.length]?=some n:=by
 rw [XN m n ho,← Jc m];simp
structure Qv (m0 m:zC) (kind:Int) (names:List ByteArray) (vs:List V):Prop where
 opn:m.opn=m0.opn++[m0.nodes.length]
 old:m.nodes.take m0.nodes.length=base m0
 node:∃n:Ref.Node,m.nodes[m0.nodes.length]?=some n∧n.kind=kind∧n.names=names∧n.kids.length=vs.length∧(∀c ∈ n.kids,m0.nodes.length<c)∧∀(j c:Nat) (v:V),n.kids[j]?=some c→vs[j]?=some v→Rep m.nodes c v
 root:m.root=if m0.opn=[] then (m0.nodes.length:Int) else m0.root
 opens:zch m
theorem Qv.like {m0 m m':zC} {kind:Int} {names:List ByteArray} {vs:List V} (h:Qv m0 m kind names vs) (ho:m'.opn=m.opn) (hn:m'.nodes=m.nodes) (hr:m'.root=m.root):Qv m0 m' kind names vs:=by
 refine ⟨by rw [ho];exact h.opn,by rw [hn];exact h.old,?_,by rw [hr];exact h.root,fun o hm=>by rw [hn];exact h.opens o (by rw [← ho];exact hm)⟩
 obtain ⟨n,h1,h2⟩:=h.node
 exact ⟨n,by rw [hn];exact h1,by rw [hn];exact h2⟩
theorem Qv.top {m0 m:zC} {kind:Int} {names:List ByteArray} {vs:List V} (h:Qv m0 m kind names vs):m.opn.getLastD 0=m0.nodes.length:=by
 rw [h.opn,List.getLastD_eq_getLast?];simp
theorem Qv.ne {m0 m:zC} {kind:Int} {names:List ByteArray} {vs:List V} (h:Qv m0 m kind names vs):m.opn≠[]:=by
 rw [h.opn];simp
theorem Qv.kindTop {m0 m:zC} {kind:Int} {names:List ByteArray} {vs:List V} (h:Qv m0 m kind names vs):yD m=kind:=by
 obtain ⟨n,h1,h2,_⟩:=h.node
 unfold yD
 rw [h.top,h1];exact h2
theorem Qv.namesTop {m0 m:zC} {kind:Int} {names:List ByteArray} {vs:List V} (h:Qv m0 m kind names vs):Xd m=names:=by
 obtain ⟨n,h1,_,h2,_⟩:=h.node
 unfold Xd
 rw [h.top,h1];exact h2
theorem Qv.lt {m0 m:zC} {kind:Int} {names:List ByteArray} {vs:List V} (h:Qv m0 m kind names vs):m0.nodes.length<m.nodes.length:=by
 obtain ⟨n,h1,_⟩:=h.node
 exact (List.getElem?_eq_some_iff.1 h1).1
theorem Ui (m0 m:zC) (n:Ref.Node) (ho:zch m0) (hop:m.opn=m0.opn++[m0.nodes.length]) (hn:m.nodes=(lay m0 n).nodes) (hr:m.root=(lay m0 n).root) (hk:n.kids=[]):Qv m0 m n.kind n.names []:=by
 refine ⟨hop,?_,⟨n,by rw [hn];exact zce m0 n ho,rfl,rfl,by rw [hk];rfl,by rw [hk];simp,fun j c v _ hv=>by simp at hv⟩,by rw [hr,zew],?_⟩
 ·rw [hn,XN m0 n ho,← Jc m0,List.take_left]
 ·intro o hm
  rw [hn,XN m0 n ho,List.length_append,Jc]
  rw [hop] at hm
  rcases List.mem_append.1 hm with h|h
  ·have:=ho o h;simp;omega
  ·simp at h;subst h;simp
theorem zja {l l':List Ref.Node} {k:Nat} (h:l'.take k=l) (i:Nat) (hi:i<k):l'[i]?=l[i]?:=by
 rw [← h,List.getElem?_take,if_pos hi]
theorem zjQ.len {m m':zC} {v:V} (h:zjQ m m' v):m.nodes.length<m'.nodes.length:=by
 have:∃n,m'.nodes[m.nodes.length]?=some n:=by
  cases h.rep with
  | str i n s h1=>exact ⟨n,h1⟩
  | word i n b h1=>exact ⟨n,h1⟩
  | list i n vs h1=>exact ⟨n,h1⟩
  | obj i n ms h1=>exact ⟨n,h1⟩
 obtain ⟨n,hn⟩:=this
 exact (List.getElem?_eq_some_iff.1 hn).1
theorem za7 {m0 m m':zC} {kind:Int} {names:List ByteArray} {vs:List V} {v:V} (h:Qv m0 m kind names vs) (ht:zjQ m m' v):Qv m0 m' kind names (vs++[v]):=by
 have hlt:=h.lt
 have hlen:=ht.len
 have hbase:base m=xN m0.nodes.length m.nodes.length m.nodes:=by unfold base;rw [if_neg h.ne,h.top]
 have hget:∀i,i<m.nodes.length→m'.nodes[i]?=(xN m0.nodes.length m.nodes.length m.nodes)[i]?:=fun i hi=>by
  rw [← hbase];exact zja ht.old i hi
 have hother:∀i,i<m.nodes.length→i≠m0.nodes.length→m'.nodes[i]?=m.nodes[i]?:=fun i hi hne=>by
  rw [hget i hi]
  unfold xN
  rw [List.getElem?_modify]
  have:¬m0.nodes.length=i:=fun e=>hne e.symm
  simp [this]
 obtain ⟨n,h1,h2,h3,h4,h5,h6⟩:=h.node
 have hk:m'.nodes[m0.nodes.length]?=some { n with kids:=n.kids++[m.nodes.length] }:=by
  rw [hget _ hlt]
  unfold xN
  rw [List.getElem?_modify,h1]
  simp
 have hmore:∀c w,m0.nodes.length<c→Rep m.nodes c w→Rep m'.nodes c w:=fun c w hc hr=>hr.more fun j n' hj hn'=>by
  have hjl:=(List.getElem?_eq_some_iff.1 hn').1
  rw [hother j hjl (by omega)];exact hn'
 refine ⟨by rw [ht.opn];exact h.opn,?_,⟨_,hk,h2,h3,by simp [h4],?_,?_⟩,by rw [ht.root,if_neg h.ne];exact h.root,?_⟩
 ·rw [← h.old]
  apply List.ext_getElem?
  intro i
  rw [List.getElem?_take,List.getElem?_take]
  by_cases hi:i<m0.nodes.length
  ·rw [if_pos hi,if_pos hi,hother i (by omega) (by omega)]
  ·rw [if_neg hi,if_neg hi]
 ·intro c hc
  rcases List.mem_append.1 hc with h|h
  ·exact h5 c h
  ·simp at h;subst h;exact hlt
 ·intro j c w hc hw
  simp only at hc
  rw [List.getElem?_append] at hc hw
  by_cases hj:j<vs.length
  ·rw [if_pos (by omega)] at hc
   rw [if_pos hj] at hw
   exact hmore c w (h5 c (List.mem_of_getElem? hc)) (h6 j c w hc hw)
  ·rw [if_neg (by omega)] at hc
   rw [if_neg hj] at hw
   have e1:=List.mem_of_getElem? hc
   have e2:=List.mem_of_getElem? hw
   simp at e1 e2
   subst e1;subst e2
   exact ht.rep
 ·intro o ho
  rw [ht.opn] at ho
  have:=h.opens o ho
  omega
theorem zhx {m0 m m':zC} {names:List ByteArray} {vs:List V} {s:ByteArray} (h:Qv m0 m 1 names vs) (ho:m'.opn=m.opn) (hn:m'.nodes=qQ m0.nodes.length s m.nodes) (hr:m'.root=m.root):Qv m0 m' 1 (names++[s]) vs:=by
 have hlt:=h.lt
 have hother:∀i,i≠m0.nodes.length→m'.nodes[i]?=m.nodes[i]?:=fun i hne=>by
  rw [hn]
  unfold qQ
  rw [List.getElem?_modify]
  have:¬m0.nodes.length=i:=fun e=>hne e.symm
  simp [this]
 obtain ⟨n,h1,h2,h3,h4,h5,h6⟩:=h.node
 have hk:m'.nodes[m0.nodes.length]?=some { n with names:=n.names++[s] }:=by
  rw [hn]
  unfold qQ
  rw [List.getElem?_modify,h1]
  simp
 refine ⟨by rw [ho];exact h.opn,?_,⟨_,hk,h2,by simp [h3],h4,h5,?_⟩,by rw [hr];exact h.root,?_⟩
 ·rw [← h.old]
  apply List.ext_getElem?
  intro i
  rw [List.getElem?_take,List.getElem?_take]
  by_cases hi:i<m0.nodes.length
  ·rw [if_pos hi,if_pos hi,hother i (by omega)]
  ·rw [if_neg hi,if_neg hi]
 ·intro j c w hc hw
  have hgt:=h5 c (List.mem_of_getElem? hc)
  exact (h6 j c w hc hw).more fun i n' hi hn'=>by rw [hother i (by omega)];exact hn'
 ·intro o hm
  rw [ho] at hm
  have:=h.opens o hm
  rw [hn];simpa [qQ] using this
theorem za5 {m0 m m':zC} {vs:List V} (h:Qv m0 m 2 [] vs) (h6:m'.state=6) (ho:m'.opn=m.opn.dropLast) (hn:m'.nodes=m.nodes) (hr:m'.root=m.root):zjQ m0 m' (.list vs):=by
 obtain ⟨n,h1,h2,h3,h4,h5,h6'⟩:=h.node
 refine ⟨h6,by rw [ho,h.opn];simp,by rw [hn];exact h.old,?_,by rw [hr];exact h.root⟩
 rw [hn]
 exact .list _ n vs h1 h2 h3 h4 h5 h6'
theorem zeb {m0 m m':zC} {ms:List (ByteArray×V)} (h:Qv m0 m 1 (ms.map Prod.fst) (ms.map Prod.snd)) (h6:m'.state=6) (ho:m'.opn=m.opn.dropLast) (hn:m'.nodes=m.nodes) (hr:m'.root=m.root):zjQ m0 m' (.obj ms):=by
 obtain ⟨n,h1,h2,h3,h4,h5,h6'⟩:=h.node
 refine ⟨h6,by rw [ho,h.opn];simp,by rw [hn];exact h.old,?_,by rw [hr];exact h.root⟩
 rw [hn]
 refine .obj _ n ms h1 h2 h3 (by rw [h4,List.length_map]) h5 (fun j k x hk hx=>h6' j k x.2 hk ?_)
 rw [List.getElem?_map,hx];rfl
def xu (l:List UInt8):List Nat→Nat→Res Unit
 | [],p => .ok () p
 | b::r,p=>if peek l p=b then xu l r (p+1) else .err 2 p
mutual
def qj (l:List UInt8):Nat→Nat→Nat→Res V
 | 0,_,p => .err 2 p
 | f+1,d,p=>
  if peek l p=123 then (if 8<d then .err 3 p else if peek l (skip l (p+1))=125 then .ok (.obj []) (skip l (p+1)+1) else zfK l f d (skip l (p+1)) [])
  else if peek l p=91 then (if 8<d then .err 3 p else if peek l (skip l (p+1))=93 then .ok (.list []) (skip l (p+1)+1) else Yd l f d (skip l (p+1)) [])
  else if peek l p=34 then (match zca l (p+1) with
   | .ok s q => .ok (.str s) q
   | .err e q => .err e q)
  else if peek l p=116 then (match xu l [114,117,101] (p+1) with
   | .ok _ q => .ok (.word true) q
   | .err e q => .err e q)
  else if peek l p=102 then (match xu l [97,108,115,101] (p+1) with
   | .ok _ q => .ok (.word false) q
   | .err e q => .err e q)
  else .err 2 p
def Yd (l:List UInt8):Nat→Nat→Nat→List V→Res V
 | 0,_,p,_ => .err 2 p
 | f+1,d,p,acc=>match qj l f (d+1) p with
  | .err e q => .err e q
  | .ok v q=>
   if peek l (skip l q)=44 then Yd l f d (skip l (skip l q+1)) (acc++[v])
   else if peek l (skip l q)=93 then .ok (.list (acc++[v])) (skip l q+1)
   else .err 2 (skip l q)
def zfK (l:List UInt8):Nat→Nat→Nat→List (ByteArray×V)→Res V
 | 0,_,p,_ => .err 2 p
 | f+1,d,p,acc=>
  if peek l p≠34 then .err 2 p else match zca l (p+1) with
  | .err e q => .err e q
  | .ok s q=>
   if acc.any (fun x=>x.1.toList==s.toList) then .err 4 (q-1)
   else if peek l (skip l q)≠58 then .err 2 (skip l q)
   else match qj l f (d+1) (skip l (skip l q+1)) with
   | .err e q' => .err e q'
   | .ok v q'=>
    if peek l (skip l q')=44 then zfK l f d (skip l (skip l q'+1)) (acc++[(s,v)])
    else if peek l (skip l q')=125 then .ok (.obj (acc++[(s,v)])) (skip l q'+1)
    else .err 2 (skip l q')
end
def Q8 (l:List UInt8) (m0 m:zC) (p:Nat) (r:Res V):Prop:=match r with
 | .ok v q=>p<q∧q≤l.length∧∃m',zjQ m0 m' v∧verdict l m p=verdict l m' q
 | .err e q=>Fails l m p e q
theorem Q8.of_eq {l:List UInt8} {m0 m m':zC} {p p':Nat} {r:Res V} (h:Q8 l m0 m' p' r) (hp:p≤p') (he:verdict l m p=verdict l m' p'):Q8 l m0 m p r:=by
 cases r with
 | ok v q=>
  obtain ⟨h1,h2,m2,h3,h4⟩:=h
  exact ⟨by omega,h2,m2,h3,he.trans h4⟩
 | err e q=>exact Fails.of_eq h he
theorem zcO (l:List UInt8) (r:List Nat) (m:zC) (p:Nat) (hp:p≤l.length) (hr:r≠[]) (hs:m.state=7) (hw:m.word.data.toList.map UInt8.toNat=r) (hz:∀b ∈ r,b≠0) :
  match xu l r p with
  | .ok _ q=>p<q∧q≤l.length∧∃m':zC,m'.state=6∧m'.opn=m.opn∧m'.nodes=m.nodes∧m'.root=m.root∧verdict l m p=verdict l m' q
  | .err e q=>Fails l m p e q:=by
 induction r generalizing m p with
 | nil=>exact absurd rfl hr
 | cons b r ih=>
  have hst:=UB m (peek l p:Int) hs
  have hlen:m.word.size=r.length+1:=by
   have:=congrArg List.length hw
   rw [List.length_map,zg] at this
   simpa using this
  have hb0:(m.word.data.toList.getD 0 0).toNat=b:=by
   cases hl:m.word.data.toList with
   | nil=>rw [hl] at hw;simp at hw
   | cons c t=>rw [hl] at hw;simp at hw;simpa using hw.1
  rw [hb0] at hst
  rw [xu]
  by_cases hb:peek l p=b
  ·rw [if_pos hb]
   rw [if_neg (by omega)] at hst
   have hbz:=hz b (by simp)
   have hlt:=zx l p (by omega)
   have hv:=zn l m _ p hlt hst
   by_cases hr0:r=[]
   ·subst hr0
    rw [xu]
    refine ⟨by omega,by omega,_,?_,?_,?_,?_,hv⟩
    ·simp only;rw [if_pos (by rw [hlen];rfl)]
    ·rfl
    ·rfl
    ·rfl
   ·have hn:¬m.word.size=1:=by rw [hlen];cases r with|nil=>exact absurd rfl hr0|cons _ _=>simp
    have hi:=ih { m with word:=m.word.extract 1 m.word.size,state:=if m.word.size=1 then 6 else 7 } (p+1) (by omega) hr0 (by simp only;rw [if_neg hn])
     (by
      simp only
      have e:(m.word.extract 1 m.word.size).data.toList=m.word.data.toList.drop 1:=by
       have h1:m.word.data.toList.length=m.word.size:=zg _
       simp only [ByteArray.data_extract,Array.toList_extract,List.extract_eq_take_drop]
       rw [List.take_of_length_le (by simp [h1])]
      rw [e,List.map_drop,hw];rfl)
     (fun b' hb'=>hz b' (by simp [hb']))
    cases hw2:xu l r (p+1) with
    | ok u q=>
     rw [hw2] at hi
     obtain ⟨g1,g2,m',g3,g4,g5,g6,g7⟩:=hi
     exact ⟨by omega,g2,m',g3,g4,g5,g6,hv.trans g7⟩
    | err e q=>rw [hw2] at hi;exact Fails.of_eq hi hv
  ·rw [if_neg hb]
   rw [if_pos (by omega)] at hst
   exact qw l m p hp (.inl (by omega)) 2 (by decide) (by rw [hst]) (fun _=>rfl)
theorem zfA (m:zC) (b:Nat) (h:m.state=1∨m.state=2) (hb:blank b=false) (h2:¬(m.state=2∧b=93)):Ref.step m (b:Int)=yH m (b:Int):=by
 rw [step_low m _ (by omega),Va,hb,if_neg (by decide),if_neg (by omega),if_neg (by omega),if_neg (by omega)]
theorem Qw (m:zC) (b:Nat) (h:m.state=6∨m.state=5) (hb:blank b=false):Ref.step m (b:Int)=after m (b:Int):=by
 rw [step_low m _ (by omega),Va,hb,if_neg (by decide),if_pos h]
theorem zco (m:zC) (b:Nat) (h:m.state=3∨m.state=4) (hb:blank b=false) (h2:¬(m.state=3∧b=125)):Ref.step m (b:Int)=if (b:Int)≠34 then (2,m) else (0,{ m with state:=8,named:=true,got:=⟨#[]⟩ }):=by
 rw [step_low m _ (by omega),Va,hb,if_neg (by decide),if_neg (by omega),if_neg (by omega),if_pos h]
theorem step_end (m:zC) (b:Nat) (h:(m.state=2∧b=93)∨(m.state=3∧b=125)):Ref.step m (b:Int)=QM m (b:Int):=by
 rw [step_low m _ (by omega),Va]
 have hb:blank b=false:=by
  rcases h with ⟨_,rfl⟩|⟨_,rfl⟩<;>decide
 rw [hb,if_neg (by decide),if_neg (by omega),if_pos (by omega)]
theorem zee {m0 m:zC} {vs:List V} (h:Qv m0 m 2 [] vs):QM m 93=(0,{ m with opn:=m.opn.dropLast,state:=6 }):=by
 unfold QM;rw [if_neg h.ne,h.kindTop];rfl
theorem zhT {m0 m:zC} {names:List ByteArray} {vs:List V} (h:Qv m0 m 1 names vs):QM m 125=(0,{ m with opn:=m.opn.dropLast,state:=6 }):=by
 unfold QM;rw [if_neg h.ne,h.kindTop];rfl
theorem zgs (l:List UInt8) {m0 m:zC} {vs:List V} (h:Qv m0 m 2 [] vs) (h6:m.state=6) (p:Nat) (hp:p≤l.length) :
  (peek l (skip l p)=44→∃m',m'.state=1∧Qv m0 m' 2 [] vs∧skip l p<l.length∧verdict l m p=verdict l m' (skip l (skip l p+1))) ∧
  (peek l (skip l p)=93→∃m',zjQ m0 m' (.list vs)∧skip l p<l.length∧verdict l m p=verdict l m' (skip l p+1)) ∧
  (peek l (skip l p)≠44→peek l (skip l p)≠93→Fails l m p 2 (skip l p)):=by
 have hv:=qV l m (by omega) p
 have hle:=yh l p hp
 have hst:=Qw m (peek l (skip l p)) (.inl h6) (xX l p)
 unfold after at hst
 rw [if_neg (by omega),if_neg (by rintro (h|h');omega;exact h.ne h')] at hst
 refine ⟨fun hb=>?_,fun hb=>?_,fun h1 h2=>?_⟩
 ·rw [if_neg (by omega),if_neg (by omega),h.kindTop,if_neg (by decide)] at hst
  have hlt:=zx l (skip l p) (by omega)
  have hv2:=zn l m _ (skip l p) hlt hst
  refine ⟨{ m with state:=1 },rfl,h.like rfl rfl rfl,hlt,(hv.trans hv2).trans (qV l _ (show (1:Int)<7 by decide) _)⟩
 ·rw [if_pos (by omega),hb] at hst
  have hlt:=zx l (skip l p) (by omega)
  have e:QM m ((93:Nat):Int)=_:=zee h
  rw [e] at hst
  have hv2:=zn l m _ (skip l p) hlt (by rw [hb];exact hst)
  refine ⟨_,?_,hlt,hv.trans hv2⟩
  exact za5 h rfl rfl rfl rfl
 ·refine Fails.of_eq (qw l m (skip l p) hle (.inr h.ne) 2 (by decide) ?_ (fun _=>rfl)) hv
  rw [hst]
  by_cases h3:(peek l (skip l p):Int)=125∨(peek l (skip l p):Int)=93
  ·rw [if_pos h3]
   unfold QM
   rw [if_neg h.ne,h.kindTop,if_pos]
   have e:(peek l (skip l p):Int)=125:=by omega
   rw [e];decide
  ·rw [if_neg h3,if_pos (by omega)]
theorem zhI (l:List UInt8) {m0 m:zC} {ms:List (ByteArray×V)} (h:Qv m0 m 1 (ms.map Prod.fst) (ms.map Prod.snd)) (h6:m.state=6) (p:Nat) (hp:p≤l.length) :
  (peek l (skip l p)=44→∃m',m'.state=4∧Qv m0 m' 1 (ms.map Prod.fst) (ms.map Prod.snd)∧skip l p<l.length∧verdict l m p=verdict l m' (skip l (skip l p+1))) ∧
  (peek l (skip l p)=125→∃m',zjQ m0 m' (.obj ms)∧skip l p<l.length∧verdict l m p=verdict l m' (skip l p+1)) ∧
  (peek l (skip l p)≠44→peek l (skip l p)≠125→Fails l m p 2 (skip l p)):=by
 have hv:=qV l m (by omega) p
 have hle:=yh l p hp
 have hst:=Qw m (peek l (skip l p)) (.inl h6) (xX l p)
 unfold after at hst
 rw [if_neg (by omega),if_neg (by rintro (h|h');omega;exact h.ne h')] at hst
 refine ⟨fun hb=>?_,fun hb=>?_,fun h1 h2=>?_⟩
 ·rw [if_neg (by omega),if_neg (by omega),h.kindTop,if_pos rfl] at hst
  have hlt:=zx l (skip l p) (by omega)
  have hv2:=zn l m _ (skip l p) hlt hst
  refine ⟨{ m with state:=4 },rfl,h.like rfl rfl rfl,hlt,(hv.trans hv2).trans (qV l _ (show (4:Int)<7 by decide) _)⟩
 ·rw [if_pos (by omega),hb] at hst
  have hlt:=zx l (skip l p) (by omega)
  have e:QM m ((125:Nat):Int)=_:=zhT h
  rw [e] at hst
  have hv2:=zn l m _ (skip l p) hlt (by rw [hb];exact hst)
  refine ⟨_,?_,hlt,hv.trans hv2⟩
  exact zeb h rfl rfl rfl rfl
 ·refine Fails.of_eq (qw l m (skip l p) hle (.inr h.ne) 2 (by decide) ?_ (fun _=>rfl)) hv
  rw [hst]
  by_cases h3:(peek l (skip l p):Int)=125∨(peek l (skip l p):Int)=93
  ·rw [if_pos h3]
   unfold QM
   rw [if_neg h.ne,h.kindTop,if_pos]
   have e:(peek l (skip l p):Int)=93:=by omega
   rw [e];decide
  ·rw [if_neg h3,if_pos (by omega)]
def AV (l:List UInt8) (f:Nat):Prop:=∀(m:zC) (d p:Nat),(m.state=1∨m.state=2)→zch m→m.opn.length+1=d→p≤l.length→blank (peek l p)=false→¬(m.state=2∧peek l p=93)→2*(l.length-p)<f →
 Q8 l m m p (qj l f d p)
def AL (l:List UInt8) (f:Nat):Prop:=∀(m0 m:zC) (d p:Nat) (acc:List V),Qv m0 m 2 [] acc→(m.state=1∨m.state=2)→m0.opn.length+1=d→p≤l.length→blank (peek l p)=false→¬(m.state=2∧peek l p=93)→2*(l.length-p)+1<f →
 Q8 l m0 m p (Yd l f d p acc)
def AO (l:List UInt8) (f:Nat):Prop:=∀(m0 m:zC) (d p:Nat) (acc:List (ByteArray×V)),Qv m0 m 1 (acc.map Prod.fst) (acc.map Prod.snd)→(m.state=3∨m.state=4)→m0.opn.length+1=d→p≤l.length→blank (peek l p)=false→¬(m.state=3∧peek l p=125)→2*(l.length-p)+1<f →
 Q8 l m0 m p (zfK l f d p acc)
theorem XJ (m m1:zC) (h1:m1.opn=m.opn) (h2:m1.nodes=m.nodes) (h3:m1.root=m.root) (n:Ref.Node):(lay m1 n).nodes=(lay m n).nodes∧(lay m1 n).root=(lay m n).root:=by
 unfold lay
 rw [h1,h2]
 by_cases hE:m.opn=[]
 ·rw [if_pos hE,if_pos hE];exact ⟨rfl,rfl⟩
 ·rw [if_neg hE,if_neg hE];exact ⟨rfl,h3⟩
theorem ziQ (l:List UInt8) (f:Nat) (hV:AV l f) (hL:AL l f):AL l (f+1):=by
 intro m0 m d p acc hn hs hd hp hb h93 hf
 have hopl:m.opn.length+1=d+1:=by rw [hn.opn,List.length_append];simp;omega
 have hv:=hV m (d+1) p hs hn.opens hopl hp hb h93 (by omega)
 rw [Yd]
 cases hr:qj l f (d+1) p with
 | err e q=>rw [hr] at hv;exact hv
 | ok v q=>
  rw [hr] at hv
  obtain ⟨h1,h2,m1,ht,he⟩:=hv
  have hn1:=za7 hn ht
  obtain ⟨a1,a2,a3⟩:=zgs l hn1 ht.state q h2
  simp only
  have hsk:=xy l q
  by_cases c1:peek l (skip l q)=44
  ·rw [if_pos c1]
   obtain ⟨m2,s2,n2,hlt,v2⟩:=a1 c1
   clear a1 a2 a3
   have hsk2:=xy l (skip l q+1)
   have hsk3:=yh l (skip l q+1) (by omega)
   have:=hL m0 m2 d (skip l (skip l q+1)) (acc++[v]) n2 (.inl s2) hd hsk3 (xX l _) (by omega) (by omega)
   exact this.of_eq (by omega) (he.trans v2)
  rw [if_neg c1]
  by_cases c2:peek l (skip l q)=93
  ·rw [if_pos c2]
   obtain ⟨m2,t2,hlt,v2⟩:=a2 c2
   clear a1 a2 a3
   exact ⟨by omega,by omega,m2,t2,he.trans v2⟩
  rw [if_neg c2]
  exact Fails.of_eq (a3 c1 c2) he
theorem zj2 (l:List UInt8) (f:Nat) (hV:AV l f) (hO:AO l f):AO l (f+1):=by
 intro m0 m d p acc hn hs hd hp hb h125 hf
 rw [zfK]
 have hst:=zco m (peek l p) hs hb h125
 by_cases c0:peek l p=34
 ·rw [if_neg (by simpa using c0)]
  rw [if_neg (by omega)] at hst
  have hlt:=zx l p (by omega)
  have hv:=zn l m _ p hlt hst
  have hstr:=QL l { m with state:=8,named:=true,got:=⟨#[]⟩ } (p+1) (by omega) rfl rfl
  cases hr:zca l (p+1) with
  | err e q=>rw [hr] at hstr;exact Fails.of_eq hstr hv
  | ok s q=>
   rw [hr] at hstr
   obtain ⟨h1,h2,h3,m1,⟨k1,k2,k3,k4,k5,k6⟩,he⟩:=hstr
   simp only
   have hn1:Qv m0 m1 1 (acc.map Prod.fst) (acc.map Prod.snd):=hn.like k2 k3 k5
   have hstc:Ref.step m1 (peek l (q-1):Int)=closed m1:=by
    rw [Xn m1 _ k1,h3]
    unfold plain;rw [if_pos (by decide)]
   have k4':m1.named=true:=k4
   have hany:(acc.map Prod.fst).any (fun x=>x.toList==m1.got.toList)=acc.any (fun x=>x.1.toList==s.toList):=by
    rw [k6,List.any_map];rfl
   have hcl:closed m1=if acc.any (fun x=>x.1.toList==s.toList)=true then (4,m1) else (0,{ m1 with nodes:=qQ (m1.opn.getLastD 0) m1.got m1.nodes,state:=5 }):=by
    unfold closed
    rw [if_neg (by rw [k4'];decide),hn1.namesTop,hany]
   rw [hcl] at hstc
   by_cases c1:acc.any (fun x=>x.1.toList==s.toList)=true
   ·rw [if_pos c1]
    rw [if_pos c1] at hstc
    exact Fails.of_eq (JM l m1 (q-1) (by omega) 4 (by decide) (by rw [hstc])) (hv.trans he)
   rw [if_neg c1]
   rw [if_neg c1] at hstc
   have hv2:=zn l m1 _ (q-1) (by omega) hstc
   rw [show q-1+1=q by omega] at hv2
   obtain ⟨m2,hm2⟩:∃m2:zC,m2={ m1 with nodes:=qQ (m1.opn.getLastD 0) m1.got m1.nodes,state:=5 }:=⟨_,rfl⟩
   rw [← hm2] at hv2
   have hn2:Qv m0 m2 1 (acc.map Prod.fst++[s]) (acc.map Prod.snd):=by
    have:=zhx (s:=m1.got) hn1 (m':=m2) (by rw [hm2]) (by rw [hm2];simp only;rw [hn1.top]) (by rw [hm2])
    rw [k6] at this
    exact this
   have hs2:m2.state=5:=by rw [hm2]
   have hv3:=((hv.trans he).trans hv2).trans (qV l m2 (by omega) q)
   have hsk:=xy l q
   have hskl:=yh l q h2
   have hst5:=Qw m2 (peek l (skip l q)) (.inr hs2) (xX l q)
   unfold after at hst5
   by_cases c2:peek l (skip l q)=58
   ·rw [if_neg (by simpa using c2)]
    rw [if_pos ⟨hs2,by omega⟩] at hst5
    have hlt2:=zx l (skip l q) (by omega)
    have hv4:=hv3.trans ((zn l m2 _ (skip l q) hlt2 hst5).trans (qV l _ (show (1:Int)<7 by decide) _))
    have hn3:Qv m0 { m2 with state:=1 } 1 (acc.map Prod.fst++[s]) (acc.map Prod.snd):=hn2.like rfl rfl rfl
    have hsk2:=xy l (skip l q+1)
    have hskl2:=yh l (skip l q+1) (by omega)
    have hopl:({ m2 with state:=1 }:zC).opn.length+1=d+1:=by rw [hn3.opn,List.length_append];simp;omega
    have hval:=hV { m2 with state:=1 } (d+1) (skip l (skip l q+1)) (.inl rfl) hn3.opens hopl hskl2 (xX l _) (fun h=>absurd h.1 (show ¬(1:Int)=2 by decide)) (by omega)
    cases hr2:qj l f (d+1) (skip l (skip l q+1)) with
    | err e q'=>rw [hr2] at hval;exact Fails.of_eq hval hv4
    | ok v q'=>
     rw [hr2] at hval
     obtain ⟨g1,g2,m4,ht,ge⟩:=hval
     have hn4:=za7 hn3 ht
     have hn5:Qv m0 m4 1 ((acc++[(s,v)]).map Prod.fst) ((acc++[(s,v)]).map Prod.snd):=by simpa using hn4
     obtain ⟨a1,a2,a3⟩:=zhI l hn5 ht.state q' g2
     simp only
     have hsk3:=xy l q'
     have hv5:=hv4.trans ge
     by_cases c3:peek l (skip l q')=44
     ·rw [if_pos c3]
      obtain ⟨m5,s5,n5,hlt5,v5⟩:=a1 c3
      clear a1 a2 a3
      have hsk4:=xy l (skip l q'+1)
      have hskl4:=yh l (skip l q'+1) (by omega)
      have:=hO m0 m5 d (skip l (skip l q'+1)) (acc++[(s,v)]) n5 (.inr s5) hd hskl4 (xX l _) (by omega) (by omega)
      exact this.of_eq (by omega) (hv5.trans v5)
     rw [if_neg c3]
     by_cases c4:peek l (skip l q')=125
     ·rw [if_pos c4]
      obtain ⟨m5,t5,hlt5,v5⟩:=a2 c4
      clear a1 a2 a3
      exact ⟨by omega,by omega,m5,t5,hv5.trans v5⟩
     rw [if_neg c4]
     exact Fails.of_eq (a3 c3 c4) hv5
   ·rw [if_pos c2]
    rw [if_neg (by omega),if_pos (.inl hs2)] at hst5
    exact Fails.of_eq (qw l m2 (skip l q) hskl (.inl (by omega)) 2 (by decide) (by rw [hst5]) (fun _=>rfl)) hv3
 ·rw [if_pos c0]
  rw [if_pos (by omega)] at hst
  exact qw l m p hp (.inr hn.ne) 2 (by decide) (by rw [hst]) (fun _=>rfl)
theorem zfS (l:List UInt8) (f:Nat) (hL:AL l f) (hO:AO l f):AV l (f+1):=by
 intro m d p hs ho hd hp hb h93 hf
 rw [qj]
 have hst:=zfA m (peek l p) hs hb h93
 unfold yH at hst
 have hinc:Inc m := .inl (by omega)
 by_cases c1:peek l p=123
 ·rw [if_pos c1]
  rw [if_pos (by omega)] at hst
  by_cases c2:8<d
  ·rw [if_pos c2]
   rw [if_pos (by omega)] at hst
   exact qw l m p hp hinc 3 (by decide) (by rw [hst]) (fun h=>by omega)
  rw [if_neg c2]
  rw [if_neg (by omega)] at hst
  simp only at hst
  rw [if_neg (by omega),if_neg (by omega)] at hst
  have hlt:=zx l p (by omega)
  have hv:=zn l m _ p hlt hst
  obtain ⟨m1,hm1⟩:∃m1:zC,m1={ (lay { m with state:=3 } { kind:=1,text:=⟨#[]⟩,names:=[],kids:=[] }) with opn:=m.opn++[m.nodes.length] }:=⟨_,rfl⟩
  rw [← hm1] at hv
  have hn1:Qv m m1 1 [] []:=Ui m m1 { kind:=1,text:=⟨#[]⟩,names:=[],kids:=[] } ho (by rw [hm1]) (by rw [hm1];exact (XJ m { m with state:=3 } rfl rfl rfl _).1) (by rw [hm1];exact (XJ m { m with state:=3 } rfl rfl rfl _).2) rfl
  have hs1:m1.state=3:=by rw [hm1];exact ZR _ _
  have hv2:=hv.trans (qV l m1 (by omega) (p+1))
  have hsk:=xy l (p+1)
  have hskl:=yh l (p+1) (by omega)
  by_cases c3:peek l (skip l (p+1))=125
  ·rw [if_pos c3]
   have hste:=step_end m1 (peek l (skip l (p+1))) (.inr ⟨hs1,c3⟩)
   rw [c3] at hste
   have e:QM m1 ((125:Nat):Int)=_:=zhT hn1
   rw [e] at hste
   have hlt2:=zx l (skip l (p+1)) (by omega)
   have hv3:=hv2.trans (zn l m1 _ (skip l (p+1)) hlt2 (by rw [c3];exact hste))
   refine ⟨by omega,by omega,_,?_,hv3⟩
   exact zeb (ms:=[]) hn1 rfl rfl rfl rfl
  rw [if_neg c3]
  have:=hO m m1 d (skip l (p+1)) [] hn1 (.inl hs1) hd hskl (xX l _) (by omega) (by omega)
  exact this.of_eq (by omega) hv2
 rw [if_neg c1]
 by_cases c2:peek l p=91
 ·rw [if_pos c2]
  rw [if_pos (by omega)] at hst
  by_cases c3:8<d
  ·rw [if_pos c3]
   rw [if_pos (by omega)] at hst
   exact qw l m p hp hinc 3 (by decide) (by rw [hst]) (fun h=>by omega)
  rw [if_neg c3]
  rw [if_neg (by omega)] at hst
  simp only at hst
  rw [if_pos (by omega),if_pos (by omega)] at hst
  have hlt:=zx l p (by omega)
  have hv:=zn l m _ p hlt hst
  obtain ⟨m1,hm1⟩:∃m1:zC,m1={ (lay { m with state:=2 } { kind:=2,text:=⟨#[]⟩,names:=[],kids:=[] }) with opn:=m.opn++[m.nodes.length] }:=⟨_,rfl⟩
  rw [← hm1] at hv
  have hn1:Qv m m1 2 [] []:=Ui m m1 { kind:=2,text:=⟨#[]⟩,names:=[],kids:=[] } ho (by rw [hm1]) (by rw [hm1];exact (XJ m { m with state:=2 } rfl rfl rfl _).1) (by rw [hm1];exact (XJ m { m with state:=2 } rfl rfl rfl _).2) rfl
  have hs1:m1.state=2:=by rw [hm1];exact ZR _ _
  have hv2:=hv.trans (qV l m1 (by omega) (p+1))
  have hsk:=xy l (p+1)
  have hskl:=yh l (p+1) (by omega)
  by_cases c4:peek l (skip l (p+1))=93
  ·rw [if_pos c4]
   have hste:=step_end m1 (peek l (skip l (p+1))) (.inl ⟨hs1,c4⟩)
   rw [c4] at hste
   have e:QM m1 ((93:Nat):Int)=_:=zee hn1
   rw [e] at hste
   have hlt2:=zx l (skip l (p+1)) (by omega)
   have hv3:=hv2.trans (zn l m1 _ (skip l (p+1)) hlt2 (by rw [c4];exact hste))
   refine ⟨by omega,by omega,_,?_,hv3⟩
   exact za5 hn1 rfl rfl rfl rfl
  rw [if_neg c4]
  have:=hL m m1 d (skip l (p+1)) [] hn1 (.inr hs1) hd hskl (xX l _) (by omega) (by omega)
  exact this.of_eq (by omega) hv2
 rw [if_neg c2]
 rw [if_neg (by omega)] at hst
 by_cases c3:peek l p=34
 ·rw [if_pos c3]
  rw [if_pos (by omega)] at hst
  have hlt:=zx l p (by omega)
  have hv:=zn l m _ p hlt hst
  have hstr:=QL l { m with state:=8,named:=false,got:=⟨#[]⟩ } (p+1) (by omega) rfl rfl
  cases hr:zca l (p+1) with
  | err e q=>rw [hr] at hstr;exact Fails.of_eq hstr hv
  | ok s q=>
   rw [hr] at hstr
   obtain ⟨h1,h2,h3,m1,⟨k1,k2,k3,k4,k5,k6⟩,he⟩:=hstr
   simp only
   have hstc:Ref.step m1 (peek l (q-1):Int)=closed m1:=by
    rw [Xn m1 _ k1,h3]
    unfold plain;rw [if_pos (by decide)]
   unfold closed at hstc
   rw [if_pos (by rw [k4])] at hstc
   have hv2:=zn l m1 _ (q-1) (by omega) hstc
   rw [show q-1+1=q by omega] at hv2
   refine ⟨by omega,h2,_,?_,(hv.trans he).trans hv2⟩
   have hl:=XJ m m1 k2 k3 k5 { kind:=3,text:=m1.got,names:=[],kids:=[] }
   refine zbc m _ { kind:=3,text:=m1.got,names:=[],kids:=[] } _ ho rfl ?_ hl.1 hl.2 ?_
   ·show (lay m1 _).opn=_;rw [zeg,k2]
   ·show Rep (lay m1 _).nodes _ _
    rw [hl.1]
    exact .str _ _ s (zce m _ ho) rfl k6 rfl rfl
 rw [if_neg c3]
 rw [if_neg (by omega)] at hst
 have wordCase:∀(bt:Bool) (w:ByteArray) (r:List Nat),r≠[]→w.data.toList.map UInt8.toNat=r→(∀b ∈ r,b≠0)→p<l.length →
   Ref.step m (peek l p:Int)=(0,{ lay m { kind:=if bt then 4 else 5,text:=⟨#[]⟩,names:=[],kids:=[] } with state:=7,word:=w }) →
   Q8 l m m p (match xu l r (p+1) with | .ok _ q => .ok (.word bt) q | .err e q => .err e q):=by
  intro bt w r hr hw hz hlt hst
  have hv:=zn l m _ p hlt hst
  have hwd:=zcO l r { lay m { kind:=if bt then 4 else 5,text:=⟨#[]⟩,names:=[],kids:=[] } with state:=7,word:=w } (p+1) (by omega) hr rfl hw hz
  cases hr2:xu l r (p+1) with
  | err e q=>rw [hr2] at hwd;exact Fails.of_eq hwd hv
  | ok u q=>
   rw [hr2] at hwd
   obtain ⟨g1,g2,m1,g3,g4,g5,g6,g7⟩:=hwd
   refine ⟨by omega,g2,m1,?_,hv.trans g7⟩
   refine zbc m m1 { kind:=if bt then 4 else 5,text:=⟨#[]⟩,names:=[],kids:=[] } _ ho g3 (by rw [g4];exact zeg _ _) g5 g6 ?_
   rw [g5]
   exact .word _ _ bt (zce m _ ho) rfl rfl rfl
 by_cases c4:peek l p=116
 ·rw [if_pos c4]
  rw [if_pos (by omega)] at hst
  exact wordCase true ⟨#[114,117,101]⟩ [114,117,101] (by decide) (by decide) (by decide) (zx l p (by omega)) hst
 rw [if_neg c4]
 rw [if_neg (by omega)] at hst
 by_cases c5:peek l p=102
 ·rw [if_pos c5]
  rw [if_pos (by omega)] at hst
  exact wordCase false ⟨#[97,108,115,101]⟩ [97,108,115,101] (by decide) (by decide) (by decide) (zx l p (by omega)) hst
 rw [if_neg c5]
 rw [if_neg (by omega)] at hst
 exact qw l m p hp hinc 2 (by decide) (by rw [hst]) (fun _=>rfl)
theorem zbJ (l:List UInt8) (f:Nat):AV l f∧AL l f∧AO l f:=by
 induction f with
 | zero=>exact ⟨fun m d p _ _ _ _ _ _ h=>by omega,fun m0 m d p acc _ _ _ _ _ _ h=>by omega,fun m0 m d p acc _ _ _ _ _ _ h=>by omega⟩
 | succ f ih=>exact ⟨zfS l f ih.2.1 ih.2.2,ziQ l f ih.1 ih.2.1,zj2 l f ih.1 ih.2.2⟩
def vK (l:List UInt8):Res V:=match qj l (2*l.length+1) 1 (skip l 0) with
 | .err e q => .err e q
 | .ok v q=>if skip l q<l.length then .err 2 (skip l q) else .ok v (skip l q)
theorem zfM:zch init:=fun o ho=>by simp [init] at ho
theorem VC (l:List UInt8):match vK l with
  | .ok v _=>∃m:zC,verdict l init 0=(0,l.length,m)∧m.state=6∧m.opn=[]∧m.root=0∧Rep m.nodes 0 v
  | .err e q=>Fails l init 0 e q:=by
 have hsk:=yh l 0 (by omega)
 have hv0:=qV l init (by decide) 0
 have h:=(zbJ l (2*l.length+1)).1 init 1 (skip l 0) (.inl rfl) zfM rfl hsk (xX l 0) (fun h=>absurd h.1 (by decide)) (by omega)
 unfold vK
 cases hr:qj l (2*l.length+1) 1 (skip l 0) with
 | err e q=>rw [hr] at h;exact Fails.of_eq h hv0
 | ok v q=>
  rw [hr] at h
  obtain ⟨h1,h2,m,ht,he⟩:=h
  simp only
  have hv:=(hv0.trans he).trans (qV l m (by rw [ht.state];decide) q)
  have hle:=yh l q h2
  have hop:m.opn=[]:=ht.opn
  by_cases c:skip l q<l.length
  ·rw [if_pos c]
   have hst:=Qw m (peek l (skip l q)) (.inl ht.state) (xX l q)
   unfold after at hst
   rw [if_neg (by rw [ht.state];simp),if_pos (.inr hop)] at hst
   exact Fails.of_eq (JM l m (skip l q) c 2 (by decide) (by rw [hst])) hv
  ·rw [if_neg c]
   have e:skip l q=l.length:=by omega
   rw [e,zaV l m ht.state hop] at hv
   refine ⟨m,hv,ht.state,hop,?_,ht.rep⟩
   have:=ht.root
   rw [if_pos (by rfl)] at this
   exact this
def vI (t:ByteArray):List Value:=t.data.toList.map fun c => .int .u8 (c.toNat:Int)
theorem byte_of (x:Int) (h0:0≤x) (h1:x<256):((UInt8.ofNat x.toNat).toNat:Int)=x:=by
 rw [UInt8.toNat_ofNat']
 omega
theorem zgo (n:Int) (h0:0≤n) (h1:n≤65535) (h2:¬(55296≤n∧n≤57343)):Lib.runeCells n=vI (enc n):=by
 unfold Lib.runeCells vI enc
 by_cases c1:n<128
 ·rw [if_pos c1,Lib.encodeRuneZ_one h0 (by omega)]
  unfold one
  simp only [List.map_cons,List.map_nil]
  rw [byte_of n h0 (by omega)]
 by_cases c2:n<2048
 ·rw [if_neg c1,if_pos c2,Lib.encodeRuneZ_two (by omega) (by omega)]
  simp only [List.map_cons,List.map_nil]
  rw [byte_of (192+n / 64) (by omega) (by omega),byte_of (128+n % 64) (by omega) (by omega)]
 ·rw [if_neg c1,if_neg c2,Lib.encodeRuneZ_three (by omega)]
  simp only [List.map_cons,List.map_nil]
  rw [byte_of (224+n / 4096) (by omega) (by omega),byte_of (128+n / 64 % 64) (by omega) (by omega),byte_of (128+n % 64) (by omega) (by omega)]
theorem uw (a b:ByteArray):vI (a++b)=vI a++vI b:=by
 unfold vI;simp
theorem zhQ (a:ByteArray):(vI a).length=a.size:=by
 unfold vI;rw [List.length_map,zg]
def zdE (k:Nat):Nat:=[194,224,225,237,238,240,241,244].getD k 0
def zdZ (k:Nat):Nat:=[223,224,236,237,239,240,243,244].getD k 0
def zhg (k:Nat):Nat:=[1,2,2,2,2,3,3,3].getD k 0
def zab (k:Nat):Nat:=[128,160,128,128,128,144,128,128].getD k 0
def zba (k:Nat):Nat:=[191,191,191,159,191,191,191,143].getD k 0
theorem lt8 {k:Nat} (h:k<8):k=0∨k=1∨k=2∨k=3∨k=4∨k=5∨k=6∨k=7:=by omega
theorem Qu (k:Nat) (hk:k<8):128≤zdE k∧zdE k<256∧zdZ k<256∧1≤zhg k∧zhg k≤3∧0<zab k∧zab k<256∧zba k<256:=by
 rcases lt8 hk with rfl|rfl|rfl|rfl|rfl|rfl|rfl|rfl<;>decide
theorem KR (b k:Nat) (hk:k<8) (h1:zdE k≤b) (h2:b≤zdZ k):qE (b:Int)=((zhg k:Int),(zab k:Int),(zba k:Int)):=by
 unfold qE
 rcases lt8 hk with rfl|rfl|rfl|rfl|rfl|rfl|rfl|rfl<;>simp [zdE,zdZ,zhg,zab,zba] at h1 h2 ⊢<;>(repeat' split)<;>first|rfl|omega
theorem zh9 (b:Nat) (h:∀k,k<8→b<zdE k∨zdZ k<b):qE (b:Int)=(0,0,0):=by
 have h0:=h 0 (by omega)
 have h1:=h 1 (by omega)
 have h2:=h 2 (by omega)
 have h3:=h 3 (by omega)
 have h4:=h 4 (by omega)
 have h5:=h 5 (by omega)
 have h6:=h 6 (by omega)
 have h7:=h 7 (by omega)
 simp [zdE,zdZ] at h0 h1 h2 h3 h4 h5 h6 h7
 unfold qE
 repeat' split
 all_goals first|rfl|omega
def piece (l:List UInt8) (p q:Nat):ByteArray:=⟨((l.drop p).take (q-p)).toArray⟩
theorem zjm (l:List UInt8) (p:Nat) (h:qE (peek l p:Int)=(0,0,0)):zao l p = .err 2 p:=by
 unfold zao;simp only;rw [h];rfl
def zem (l:List UInt8) (p j:Nat):Prop:=∀i,i<j→within l 128 191 (p+2+i)=true
theorem zeo (l:List UInt8) (p:Nat) (h:p<l.length):one (peek l p:Int)=⟨#[l[p]]⟩:=by
 unfold one
 rw [zcp l p h]
 simp
theorem Qe (l:List UInt8) (lo hi p:Nat) (h0:0<lo) (h:within l lo hi p=true):p<l.length:=by
 unfold within at h
 simp at h
 exact zx l p (by omega)
theorem zih (l:List UInt8) (p:Nat) (h:p<l.length):piece l p (p+1)=one (peek l p:Int):=by
 rw [zeo l p h]
 have e:(l.drop p).take (p+1-p)=[l[p]]:=by
  rw [List.drop_eq_getElem_cons h,show p+1-p=1 by omega];rfl
 unfold piece
 rw [e]
theorem piece_more (l:List UInt8) (p q:Nat) (hpq:p≤q) (h:q<l.length):piece l p (q+1)=piece l p q++one (peek l q:Int):=by
 rw [zeo l q h]
 unfold piece
 rw [show q+1-p=(q-p)+1 by omega,List.take_add_one]
 have:(l.drop p)[q-p]?=some l[q]:=by
  rw [List.getElem?_drop,show p+(q-p)=q by omega,List.getElem?_eq_getElem h]
 rw [this]
 apply ByteArray.ext
 simp [ByteArray.data_append]
theorem zfV (l:List UInt8) (p k:Nat) (hk:k<8) (h1:zdE k≤peek l p) (h2:peek l p≤zdZ k) (hw:within l (zab k) (zba k) (p+1)=false):zao l p = .err 2 (p+1):=by
 have hb:=Qu k hk
 unfold zao;simp only
 rw [KR _ k hk h1 h2,if_neg (by simp;omega)]
 simp only [Int.toNat_natCast]
 rw [if_pos hw]
theorem zjo (l:List UInt8) (p k j:Nat) (hk:k<8) (h1:zdE k≤peek l p) (h2:peek l p≤zdZ k) (hw:within l (zab k) (zba k) (p+1)=true) (hj:zem l p j) (hjn:j+1<zhg k) (hb:within l 128 191 (p+2+j)=false):zao l p = .err 2 (p+2+j):=by
 have hb':=Qu k hk
 unfold zao;simp only
 rw [KR _ k hk h1 h2,if_neg (by simp;omega)]
 simp only [Int.toNat_natCast]
 rw [if_neg (by rw [hw];decide),if_neg (by omega)]
 match j with
 | 0=>rw [if_pos (by simpa using hb)]
 | 1=>
  have:=hj 0 (by omega)
  rw [if_neg (by rw [show p+2=p+2+0 by omega,this];decide),if_neg (by omega),if_pos (by simpa using hb)]
 | j+2=>omega
theorem zjc (l:List UInt8) (p k:Nat) (hk:k<8) (h1:zdE k≤peek l p) (h2:peek l p≤zdZ k) (hw:within l (zab k) (zba k) (p+1)=true) (hj:zem l p (zhg k-1)):zao l p = .ok (piece l p (p+1+zhg k)) (p+1+zhg k):=by
 have hb:=Qu k hk
 have l0:p<l.length:=zx l p (by omega)
 have l1:=Qe l _ _ _ (by omega) hw
 unfold zao;simp only
 rw [KR _ k hk h1 h2,if_neg (by simp;omega)]
 simp only [Int.toNat_natCast]
 rw [if_neg (by rw [hw];decide)]
 have e2:piece l p (p+2)=one (peek l p:Int)++one (peek l (p+1):Int):=by
  rw [piece_more l p (p+1) (by omega) l1,zih l p l0]
 obtain ⟨n,hn⟩:∃n,zhg k=n:=⟨_,rfl⟩
 rw [hn] at hj hb ⊢
 have hc:n=1∨n=2∨n=3:=by omega
 rcases hc with rfl|rfl|rfl
 ·rw [if_pos (by simp),e2]
 ·have w2:=hj 0 (by omega)
  have l2:=Qe l _ _ _ (by omega) w2
  simp only [Nat.add_zero] at w2 l2
  rw [if_neg (by simp),if_neg (by rw [w2];decide),if_pos (by simp),piece_more l p (p+2) (by omega) l2,e2]
 ·have w2:=hj 0 (by omega)
  have w3:=hj 1 (by omega)
  have l2:=Qe l _ _ _ (by omega) w2
  have l3:=Qe l _ _ _ (by omega) w3
  simp only [Nat.add_zero] at w2 l2
  rw [if_neg (by simp),if_neg (by rw [w2];decide),if_neg (by simp),if_neg (by rw [show p+3=p+2+1 by omega,w3];decide),piece_more l p (p+3) (by omega) l3,piece_more l p (p+2) (by omega) l2,e2]
def Res.to {α:Type}:Res α→Nat
 | .ok _ q=>q
 | .err _ q=>q
theorem jd (n:Int):(one n).size=1:=rfl
theorem Ko (n:Int):(enc n).size≤3:=by
 unfold enc
 split
 ·rw [jd];omega
 split
 ·exact (by decide:2≤3)
 ·exact (by decide:3≤3)
theorem zi7 {l:List UInt8} {p q:Nat} {u:ByteArray} (h:Xp l p = .ok u q):q=p+4∧u.size≤3:=by
 unfold Xp at h
 simp only at h
 repeat' split at h
 all_goals first|(cases h;done)|(injection h with h1 h2;subst h1;exact ⟨h2.symm,Ko _⟩)
theorem zlP {l:List UInt8} {p q:Nat} {u:ByteArray} (h:zdG l p = .ok u q):p<q∧u.size≤q-p:=by
 unfold zdG at h
 simp only at h
 repeat' split at h
 all_goals first
  | (cases h;done)
  | (injection h with h1 h2;subst h1;rw [jd];omega)
  | (have:=zi7 h;omega)
theorem zk6 {l:List UInt8} {p q:Nat} {u:ByteArray} (h:zao l p = .ok u q):p<q∧u.size≤q-p:=by
 unfold zao at h
 simp only at h
 repeat' split at h
 all_goals first
  | (cases h;done)
  | (injection h with h1 h2;subst h1;simp only [ByteArray.size_append,jd];omega)
theorem zex {l:List UInt8} {p q:Nat} {u:ByteArray} (h:Zy l p = .ok u q):p<q∧u.size≤q-p:=by
 unfold Zy at h
 simp only at h
 repeat' split at h
 all_goals first
  | (cases h;done)
  | (injection h with h1 h2;subst h1;rw [jd];omega)
  | (have:=zlP h;omega)
  | exact zk6 h
theorem zi9 {l:List UInt8} {f p q:Nat} {acc u:ByteArray} (hq:peek l p≠34) (h:Zy l p = .ok u q):ZC l (f+1) p acc=ZC l f q (acc++u):=by
 rw [ZC,if_neg hq,h]
theorem zlp {l:List UInt8} {f p q:Nat} {acc:ByteArray} {c:Int} (hq:peek l p≠34) (h:Zy l p = .err c q):ZC l (f+1) p acc = .err c q:=by
 rw [ZC,if_neg hq,h]
theorem zlM {l:List UInt8} {f p:Nat} {acc:ByteArray} (hq:peek l p=34):ZC l (f+1) p acc = .ok acc (p+1):=by
 rw [ZC,if_pos hq]
def uf (l:List UInt8) (p:Nat):Res ByteArray:=if peek l p=34 then zca l (p+1) else .err 2 p
theorem zbi (l:List UInt8) (p:Nat):xu l [34] p=if peek l p=34 then .ok () (p+1) else .err 2 p:=by
 simp only [xu]
theorem zlK {l:List UInt8} {p q:Nat} {c:Int} (h:zao l p = .err c q):c=2:=by
 unfold zao at h
 simp only at h
 repeat' split at h
 all_goals first|(cases h;done)|(injection h with h1 h2;exact h1.symm)
theorem zjs {l:List UInt8} {p q:Nat} {c:Int} (h:Xp l p = .err c q):c=2:=by
 unfold Xp at h
 simp only at h
 repeat' split at h
 all_goals first|(cases h;done)|(injection h with h1 h2;exact h1.symm)
theorem zk1 {l:List UInt8} {p q:Nat} {c:Int} (h:zdG l p = .err c q):c=2:=by
 unfold zdG at h
 simp only at h
 repeat' split at h
 all_goals first
  | (cases h;done)
  | (injection h with h1 h2;exact h1.symm)
  | exact zjs h
theorem zjt {l:List UInt8} {p q:Nat} {c:Int} (h:Zy l p = .err c q):c=2:=by
 unfold Zy at h
 simp only at h
 repeat' split at h
 all_goals first
  | (cases h;done)
  | (injection h with h1 h2;exact h1.symm)
  | exact zk1 h
  | exact zlK h
theorem U8 {l:List UInt8}:∀{f p q:Nat} {acc:ByteArray} {c:Int},ZC l f p acc = .err c q→c=2
 | 0,p,q,acc,c,h=>by rw [ZC] at h;injection h with h1 h2;exact h1.symm
 | f+1,p,q,acc,c,h=>by
  rw [ZC] at h
  split at h
  ·cases h
  cases hc:Zy l p with
  | ok u q'=>rw [hc] at h;exact U8 h
  | err c' q'=>rw [hc] at h;injection h with h1 h2;rw [← h1];exact zjt hc
theorem zel {l:List UInt8} {p q:Nat} {c:Int} (h:uf l p = .err c q):c=2:=by
 unfold uf at h
 split at h
 ·exact U8 h
 ·injection h with h1 h2;exact h1.symm
theorem Xk {l:List UInt8}:∀{r:List Nat} {p q:Nat} {c:Int},xu l r p = .err c q→c=2
 | [],p,q,c,h=>by rw [xu] at h;cases h
 | b::r,p,q,c,h=>by
  rw [xu] at h
  split at h
  ·exact Xk h
  ·injection h with h1 h2;exact h1.symm
def jm {α:Type} (l:List UInt8) (st:Nat→α→Nat→Res α) (e:Nat):Nat→α→Nat→Res α
 | 0,_,p => .err 2 p
 | f+1,a,p=>match st f a p with
  | .err c q => .err c q
  | .ok a' q=>
   if peek l (skip l q)=44 then jm l st e f a' (skip l (skip l q+1))
   else if peek l (skip l q)=e then .ok a' (skip l q+1)
   else .err 2 (skip l q)
def vw {α:Type} (l:List UInt8) (st:Nat→α→Nat→Res α) (e:Nat) (f d:Nat) (a:α) (p:Nat):Res α:=
 if 8<d then .err 3 p
 else if peek l (skip l (p+1))=e then .ok a (skip l (p+1)+1)
 else jm l st e f a (skip l (p+1))
def Res.map {α β:Type} (g:α→β):Res α→Res β
 | .ok a q => .ok (g a) q
 | .err c q => .err c q
def stL (l:List UInt8) (d:Nat) (f:Nat) (acc:List V) (q:Nat):Res (List V):=match qj l f (d+1) q with
 | .ok v q' => .ok (acc++[v]) q'
 | .err c q' => .err c q'
def ziW (l:List UInt8) (d:Nat) (f:Nat) (acc:List (ByteArray×V)) (q:Nat):Res (ByteArray×V):=match uf l q with
 | .err c q' => .err c q'
 | .ok s q'=>
  if acc.any (fun x=>x.1.toList==s.toList) then .err 4 (q' - 1)
  else if peek l (skip l q')≠58 then .err 2 (skip l q')
  else match qj l f (d+1) (skip l (skip l q'+1)) with
  | .err c q'' => .err c q''
  | .ok v q'' => .ok (s,v) q''
def stO (l:List UInt8) (d:Nat) (f:Nat) (acc:List (ByteArray×V)) (q:Nat):Res (List (ByteArray×V)):=match ziW l d f acc q with
 | .ok m q' => .ok (acc++[m]) q'
 | .err c q' => .err c q'
theorem UC (l:List UInt8) (d:Nat):∀(f p:Nat) (acc:List V),Yd l f d p acc=(jm l (stL l d) 93 f acc p).map .list
 | 0,p,acc=>by rw [Yd,jm,Res.map]
 | f+1,p,acc=>by
  rw [Yd,jm,stL]
  cases hv:qj l f (d+1) p with
  | err c q=>rfl
  | ok v q=>
   simp only
   split
   ·exact UC l d f _ _
   split
   ·rfl
   ·rfl
theorem zbU (l:List UInt8) (d:Nat):∀(f p:Nat) (acc:List (ByteArray×V)),zfK l f d p acc=(jm l (stO l d) 125 f acc p).map .obj
 | 0,p,acc=>by rw [zfK,jm,Res.map]
 | f+1,p,acc=>by
  rw [zfK,jm,stO,ziW,uf]
  by_cases h:peek l p=34
  ·rw [if_neg (by simp [h]),if_pos h]
   cases hs:zca l (p+1) with
   | err c q=>rfl
   | ok s q=>
    simp only
    by_cases ht:acc.any (fun x=>x.1.toList==s.toList)=true
    ·rw [if_pos ht,if_pos ht];rfl
    rw [if_neg ht,if_neg ht]
    by_cases h58:peek l (skip l q)≠58
    ·rw [if_pos h58,if_pos h58];rfl
    rw [if_neg h58,if_neg h58]
    cases hv:qj l f (d+1) (skip l (skip l q+1)) with
    | err c q'=>rfl
    | ok v q'=>
     simp only
     split
     ·exact zbU l d f _ _
     split
     ·rfl
     ·rfl
  ·rw [if_pos h,if_neg h];rfl
theorem zfc (l:List UInt8) (f d p:Nat) (h:peek l p=91):qj l (f+1) d p=(vw l (stL l d) 93 f d [] p).map .list:=by
 rw [qj,if_neg (by omega),if_pos h]
 unfold vw
 split
 ·rfl
 split
 ·rfl
 ·exact UC l d f _ _
theorem zhK (l:List UInt8) (f d p:Nat) (h:peek l p=123):qj l (f+1) d p=(vw l (stO l d) 125 f d [] p).map .obj:=by
 rw [qj,if_pos h]
 unfold vw
 split
 ·rfl
 split
 ·rfl
 ·exact zbU l d f _ _
theorem zgS (l:List UInt8) (f d p:Nat) (h:peek l p=34):qj l (f+1) d p=(uf l p).map .str:=by
 rw [qj,if_neg (by omega),if_neg (by omega),if_pos h,uf,if_pos h]
 cases zca l (p+1)<;>rfl
theorem zfh (l:List UInt8) (f d p:Nat) (h:peek l p=116):qj l (f+1) d p=(xu l [116,114,117,101] p).map (fun _ => .word true):=by
 rw [qj,if_neg (by omega),if_neg (by omega),if_neg (by omega),if_pos h]
 conv=>rhs;rw [xu,if_pos h]
 cases xu l [114,117,101] (p+1)<;>rfl
theorem zdB (l:List UInt8) (f d p:Nat) (h:peek l p=102):qj l (f+1) d p=(xu l [102,97,108,115,101] p).map (fun _ => .word false):=by
 rw [qj,if_neg (by omega),if_neg (by omega),if_neg (by omega),if_neg (by omega),if_pos h]
 conv=>rhs;rw [xu,if_pos h]
 cases xu l [97,108,115,101] (p+1)<;>rfl
theorem zfW (l:List UInt8) (f d p:Nat) (h1:peek l p≠123) (h2:peek l p≠91) (h3:peek l p≠34) (h4:peek l p≠116) (h5:peek l p≠102):qj l (f+1) d p = .err 2 p:=by
 rw [qj,if_neg h1,if_neg h2,if_neg h3,if_neg h4,if_neg h5]
def zkX (d:Nat):zC:={ init with opn:=List.replicate (d-1) 0,nodes:=[⟨2,⟨#[]⟩,[],[]⟩] }
theorem XT {l:List UInt8} {f d p q:Nat} {v:V} (hd:1≤d) (hp:p≤l.length) (hb:blank (peek l p)=false) (hf:2*(l.length-p)<f) (h:qj l f d p = .ok v q):p<q∧q≤l.length:=by
 have:=(zbJ l f).1 (zkX d) d p (.inl rfl) (fun o ho=>by
  have:o=0:=List.eq_of_mem_replicate ho
  rw [this];exact Nat.zero_lt_one) (by simp [zkX];omega) hp hb (fun h=>by have h1:=h.1;simp [zkX,init] at h1) hf
 rw [h] at this
 exact ⟨this.1,this.2.1⟩
theorem ziJ {l:List UInt8}:∀{f p q:Nat} {acc t:ByteArray},ZC l f p acc = .ok t q→p<q∧t.size≤acc.size+(q-p)
 | 0,p,q,acc,t,h=>by rw [ZC] at h;cases h
 | f+1,p,q,acc,t,h=>by
  rw [ZC] at h
  split at h
  ·injection h with h1 h2;subst h1;omega
  cases hc:Zy l p with
  | ok u q'=>
   rw [hc] at h
   have h1:=zex hc
   have h2:=ziJ (acc:=acc++u) h
   rw [ByteArray.size_append] at h2
   omega
  | err c' q'=>rw [hc] at h;cases h
theorem Y9 {l:List UInt8} {p q:Nat} {t:ByteArray} (h:uf l p = .ok t q):p+1<q∧t.size≤q:=by
 unfold uf zca at h
 split at h
 ·have:=ziJ h
  have e:(ByteArray.mk #[]).size=0:=rfl
  omega
 ·cases h
theorem KQ {l:List UInt8} {p q:Nat} {t:ByteArray} (h:uf l p = .ok t q):q≤l.length:=by
 unfold uf at h
 split at h
 ·rename_i h34
  have hp:=zx l p (by omega)
  have:=QL l { init with state:=8,got:=⟨#[]⟩ } (p+1) (by omega) rfl rfl
  rw [h] at this
  exact this.2.1
 ·cases h
end Rd
end Go.Proofs.YtdakgnaojakldaaGreatDoor
