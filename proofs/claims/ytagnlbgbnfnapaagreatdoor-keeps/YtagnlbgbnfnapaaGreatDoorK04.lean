/- P -/
import Derived.Test.YtagnlbgbnfnapaaGreatDoorK01
set_option maxRecDepth 100000
namespace Go.Proofs.YtagnlbgbnfnapaaGreatDoor
namespace Ref
structure Node where
 kind:Int
 text:BY
 names:List BY
 kids:List Nat
structure zl where
 state:Int
 opn:List Nat
 nodes:List Node
 named:Bool
 got:BY
 need:Int
 low:Int
 high:Int
 number:Int
 word:BY
 root:Int
def QM(b:Int):Bool:=decide (b=32\/b=9\/b=10\/b=13)
def zL(b:Int):Int:=
 if 48<=b/\b<=57 then b-48 else if 97<=b/\b<=102 then b-97+10 else if 65<=b/\b<=70 then b-65+10 else -1
def one(b:Int):BY:=⟨#[UInt8.ofNat b.toNat]⟩
def enc(n:Int):BY:=
 if n<128 then one n else if n<2048 then ⟨#[UInt8.ofNat (192+n / 64).toNat,UInt8.ofNat (128+n % 64).toNat]⟩
 else ⟨#[UInt8.ofNat (224+n / 4096).toNat,UInt8.ofNat (128+n / 64 % 64).toNat,UInt8.ofNat (128+n % 64).toNat]⟩
def xV(o k:Nat)(l:List Node):List Node:=l.modify o λn=>{ n with kids:=n.kids++[k] }
def yj(o:Nat)(s:BY)(l:List Node):List Node:=l.modify o λn=>{ n with names:=n.names++[s] }
def lay(m:zl)(n:Node):zl:=
 if m.opn=[] then { m with nodes:=m.nodes++[n],root:=m.nodes.length } else { m with nodes:=xV (m.opn.getLastD 0) m.nodes.length (m.nodes++[n]) }
def uf(m:zl):Int:=((m.nodes[m.opn.getLastD 0]?).map Node.kind).getD 0
def jf(m:zl)(b:Int):Int×zl:=
 if b=123\/b=91 then
  if 8<=m.opn.length then (3,m)
  else
   let m1:=lay { m with state:=if b=91 then 2 else 3 } { kind:=if b=91 then 2 else 1,text:=⟨#[]⟩,names:=[],kids:=[] }
   (0,{ m1 with opn:=m.opn++[m.nodes.length] })
 else if b=34 then (0,{ m with state:=8,named:=false,got:=⟨#[]⟩ })
 else if b=116 then (0,{ lay m { kind:=4,text:=⟨#[]⟩,names:=[],kids:=[] } with state:=7,word:=⟨#[114,117,101]⟩ })
 else if b=102 then (0,{ lay m { kind:=5,text:=⟨#[]⟩,names:=[],kids:=[] } with state:=7,word:=⟨#[97,108,115,101]⟩ })
 else (2,m)
def xx(m:zl)(b:Int):Int×zl:=
 if m.opn=[] then (2,m) else if (uf m==1) != (b==125) then (2,m) else (0,{ m with opn:=m.opn.dropLast,state:=6 })
def after(m:zl)(b:Int):Int×zl:=
 if m.state=5/\b=58 then (0,{ m with state:=1 })
 else if m.state=5\/m.opn=[] then (2,m)
 else if b=125\/b=93 then xx m b
 else if b≠44 then (2,m)
 else (0,{ m with state:=if uf m=1 then 4 else 1 })
def Vo(m:zl):List BY:=((m.nodes[m.opn.getLastD 0]?).map Node.names).getD []
def closed(m:zl):Int×zl:=
 if m.named=false then (0,{ lay m { kind:=3,text:=m.got,names:=[],kids:=[] } with state:=6 })
 else if (Vo m).any (λs=>s.toList==m.got.toList) then (4,m)
 else (0,{ m with nodes:=yj (m.opn.getLastD 0) m.got m.nodes,state:=5 })
def plain(m:zl)(b:Int):Int×zl:=
 if b=34 then closed m
 else if b=92 then (0,{ m with state:=10 })
 else if b<32 then (2,m)
 else if b<128 then (0,{ m with got:=m.got++one b })
 else if (zT b).1=0 then (2,m)
 else (0,{ m with need:=(zT b).1,low:=(zT b).2.1,high:=(zT b).2.2,got:=m.got++one b,state:=9 })
def escape(m:zl)(b:Int):Int×zl:=
 if b=34\/b=92\/b=47 then (0,{ m with state:=8,got:=m.got++one b })
 else if b=110 then (0,{ m with state:=8,got:=m.got++one 10 })
 else if b=116 then (0,{ m with state:=8,got:=m.got++one 9 })
 else if b=117 then (0,{ m with state:=11,need:=4,number:=0 })
 else (2,m)
def digit(m:zl)(b:Int):Int×zl:=
 if zL b<0 then (2,m)
 else if m.need-1=2/\216<=16*m.number+zL b/\16*m.number+zL b<=223 then (2,m)
 else if m.need-1=0 then (0,{ m with number:=16*m.number+zL b,need:=m.need-1,got:=m.got++enc (16*m.number+zL b),state:=8 })
 else (0,{ m with number:=16*m.number+zL b,need:=m.need-1 })
def step(m:zl)(b:Int):Int×zl:=
 if m.state=8 then plain m b
 else if m.state=9 then
  if b<m.low\/m.high<b then (2,m) else (0,{ m with got:=m.got++one b,low:=128,high:=191,need:=m.need-1,state:=if m.need-1=0 then 8 else m.state })
 else if m.state=10 then escape m b
 else if m.state=11 then digit m b
 else if m.state=7 then
  if b≠((m.word.data.toList.getD 0 0).toNat:Int) then (2,m) else (0,{ m with word:=m.word.extract 1 m.word.size,state:=if m.word.size=1 then 6 else m.state })
 else if QM b then (0,m)
 else if m.state=6\/m.state=5 then after m b
 else if (m.state=2/\b=93)\/(m.state=3/\b=125) then xx m b
 else if m.state=3\/m.state=4 then (if b≠34 then (2,m) else (0,{ m with state:=8,named:=true,got:=⟨#[]⟩ }))
 else jf m b
theorem XD(l:List BY)(j:Nat)(h:j<l.length):(strCells l)[j]?=some (.string l[j]):=by
 simp[strCells,h]
theorem Q6(m:zl)(x:Int)(h:m.state=8):step m x=plain m x:=by unfold step;rw[zb h]
theorem Yl(m:zl)(x:Int)(h:m.state=9):step m x=if x<m.low\/m.high<x then (2,m) else (0,{ m with got:=m.got++one x,low:=128,high:=191,need:=m.need-1,state:=if m.need-1=0 then 8 else 9 }):=by
 unfold step;rw[za (by omega),zb h,h]
theorem Y9(m:zl)(x:Int)(h:m.state=10):step m x=escape m x:=by unfold step;rw[za (by omega),za (by omega),zb h]
theorem Ja(m:zl)(x:Int)(h:m.state=11):step m x=digit m x:=by unfold step;rw[za (by omega),za (by omega),za (by omega),zb h]
theorem Jb(m:zl)(x:Int)(h:m.state=7):step m x=if x≠((m.word.data.toList.getD 0 0).toNat:Int) then (2,m) else (0,{ m with word:=m.word.extract 1 m.word.size,state:=if m.word.size=1 then 6 else 7 }):=by
 unfold step;rw[za (by omega),za (by omega),za (by omega),za (by omega),zb h,h]
theorem Q7(m:zl)(x:Int)(h:m.state<7):step m x=if QM x then (0,m)
 else if m.state=6\/m.state=5 then after m x
 else if (m.state=2/\x=93)\/(m.state=3/\x=125) then xx m x
 else if m.state=3\/m.state=4 then (if x≠34 then (2,m) else (0,{ m with state:=8,named:=true,got:=⟨#[]⟩ }))
 else jf m x:=by
 unfold step;rw[za (by omega),za (by omega),za (by omega),za (by omega),za (by omega)]
structure Wf (m:zl):Prop where
 lo:1<=m.state
 hi:m.state<=11
 named:8<=m.state->m.named=true->m.opn≠[]
 word:m.state=7->1<=m.word.size
 need9:m.state=9->1<=m.need/\m.need<=3/\0<=m.low/\m.low<=255/\0<=m.high/\m.high<=255
 need11:m.state=11->1<=m.need/\m.need<=4/\0<=m.number/\m.number<=4095/\(m.need=4->m.number=0)/\(m.need=3->m.number<=15)/\(m.need=2->m.number<=255)
 opens:3<=m.state->m.state<=5->m.opn≠[]
 small:m.word.size<=10
structure Bnd (n:Nat) (m:zl):Prop where
 nodes:m.nodes.length<=n
 opn:m.opn.length<=n
 kids:∀(i:Nat) (d:Node),m.nodes[i]?=some d->d.kids.length<=n/\d.names.length<=n
 got:m.got.size<=3*n
 top:∀o ∈ m.opn,o<m.nodes.length
theorem Bnd.like{n:Nat}{m m':zl}(h:Bnd n m)(b:m'.opn=m.opn)(a:m'.nodes=m.nodes)(c:m'.got.size<=3*n):Bnd n m':=
 ⟨by rw[a];exact h.nodes,by rw[b];exact h.opn,by rw[a];exact h.kids,c,by rw[b,a];exact h.top⟩
theorem Bnd.succ{n:Nat}{m m':zl}(h:Bnd n m)(b:m'.opn=m.opn)(a:m'.nodes=m.nodes)(j:m'.got.size<=m.got.size+3):Bnd (n+1) m':=by
 have e:=h.nodes;have f:=h.opn;have g:=h.got;exact⟨by rw[a];omega,by rw[b];omega,by rw[a];intro i d c;have:=h.kids i d c;omega,by omega,by rw[b,a];exact h.top⟩
theorem bF{α:Type}(l:List α)(f:α->α)(o i:Nat)(d:α)(h:(l.modify o f)[i]?=some d):l[i]?=some d\/∃c,l[i]?=some c/\d=f c:=by
 rw[Zz] at h
 by_cases e:o=i
 ·subst e;simp only[xy] at h
  cases hc:l[o]? with
  | none=>rw[hc] at h;simp at h
  | some c=>rw[hc] at h;simp at h;exact .inr ⟨c,rfl,h.symm⟩
 ·simp[e] at h;exact .inl h
theorem Ui{n:Nat}{m:zl}(h:Bnd n m)(d:Node)(f:d.names=[])(g:d.kids=[]):Bnd (n+1) (lay m d):=by
 have j:=h.nodes;have k:=h.opn;have l:=h.got
 have base:∀(i:Nat) (e:Node),(m.nodes++[d])[i]?=some e->e.kids.length<=n/\e.names.length<=n:=by
  intro i e a;rw[Z9] at a
  split at a
  ·exact h.kids i e a
  ·have:=qL a
   simp only[xL] at this;subst this;rw[f,g];simp
 unfold lay
 split
 ·refine⟨by simp;omega,by simp only;omega,?_,by simp only;omega,?_⟩
  ·intro i e a
   have:=base i e a
   omega
  ·intro o b
   have:=h.top o b
   simp;omega
 ·refine⟨by simp[xV];omega,by simp only;omega,?_,by simp only;omega,?_⟩
  ·intro i e a
   rcases bF _ _ _ _ _ a with hc|⟨c,hc,rfl⟩
   ·have:=base i e hc;omega
   ·have:=base i c hc;simp;omega
  ·intro o b
   have:=h.top o b
   simp[xV];omega
theorem mZ(m:zl)(d:Node):(lay m d).opn=m.opn:=by unfold lay;split<;>rfl
theorem II(m:zl)(d:Node):(lay m d).nodes.length=m.nodes.length+1:=by unfold lay;split<;>simp[xV]
theorem IJ(m:zl)(d:Node):(lay m d).named=m.named:=by unfold lay;split<;>rfl
theorem J2(m:zl)(d:Node):(lay m d).state=m.state:=by unfold lay;split<;>rfl
theorem ni(m:zl)(d:Node):(lay m d).word=m.word:=by unfold lay;split<;>rfl
theorem lh{n:Nat}{m:zl}(h:Bnd n m)(x:Int)(c:(xx m x).1=0):Bnd (n+1) (xx m x).2:=by
 have g:=h.nodes;have j:=h.opn;have k:=h.got;unfold xx at c |-
 split at c
 ·simp at c
 split at c
 ·simp at c
 rename_i a b;rw[za a,za b];refine⟨by simp only;omega,by simp only[List.length_dropLast];omega,λi d e=>by have:=h.kids i d e;omega,by simp only;omega,λo f=>h.top o (List.dropLast_subset _ f)⟩
theorem ZT(x:Int):(one x).size=1:=rfl
theorem ai(x:Int):(enc x).size<=3:=by unfold enc one;split<;>(try split)<;>simp[ByteArray.size]
theorem wJ{n:Nat}{m:zl}(h:Bnd n m)(x:Int)(e:(after m x).1=0):Bnd (n+1) (after m x).2:=by
 unfold after at e |-
 split at e
 ·rename_i a;rw[zb a];exact h.succ rfl rfl (by simp)
 split at e
 ·simp at e
 split at e
 ·rename_i a b c;rw[za a,za b,zb c];exact lh h x e
 split at e
 ·simp at e
 ·rename_i a b c d;rw[za a,za b,za c,za d];exact h.succ rfl rfl (by simp)
theorem Ay{n:Nat}{m:zl}(h:Bnd n m)(x:Int)(f:(jf m x).1=0):Bnd (n+1) (jf m x).2:=by
 have i:=h.opn;unfold jf at f |-
 split at f
 ·rename_i a;rw[zb a]
  split at f
  ·simp at f
  rename_i b;rw[za b];have e:=Ui (m:={ m with state:=if x=91 then 2 else 3 }) (h.like rfl rfl h.got) { kind:=if x=91 then 2 else 1,text:=⟨#[]⟩,names:=[],kids:=[] } rfl rfl
  refine⟨e.nodes,by simp;omega,e.kids,e.got,?_⟩;intro o g;simp only[jy,xL] at g;rw[II]
  rcases g with g|rfl
  ·have:=h.top o g;simp only;omega
  ·simp
 rename_i a;rw[za a]
 split at f
 ·rename_i b;rw[zb b];exact h.succ rfl rfl (zG _)
 rename_i b;rw[za b]
 split at f
 ·rename_i c;rw[zb c];have e:=Ui h { kind:=4,text:=⟨#[]⟩,names:=[],kids:=[] } rfl rfl;exact e.like rfl rfl e.got
 rename_i c;rw[za c]
 split at f
 ·rename_i d;rw[zb d];have e:=Ui h { kind:=5,text:=⟨#[]⟩,names:=[],kids:=[] } rfl rfl;exact e.like rfl rfl e.got
 ·simp at f
theorem BI{n:Nat}{m:zl}(h:Bnd n m)(d:(closed m).1=0):Bnd (n+1) (closed m).2:=by
 unfold closed at d |-
 split at d
 ·rename_i a;rw[zb a];have f:=Ui h { kind:=3,text:=m.got,names:=[],kids:=[] } rfl rfl;exact f.like rfl rfl f.got
 split at d
 ·simp at d
 rename_i a b;rw[za a,za b];have k:=h.nodes;have l:=h.opn;have p:=h.got;refine⟨by simp[yj];omega,by simp only;omega,?_,by simp only;omega,?_⟩
 ·intro i e g
  rcases bF _ _ _ _ _ g with hc|⟨c,hc,rfl⟩
  ·have:=h.kids i e hc;omega
  ·have:=h.kids i c hc;simp;omega
 ·intro o j
  have:=h.top o j
  simp[yj];omega
theorem ND{n:Nat}{m:zl}(h:Bnd n m)(x:Int)(f:(plain m x).1=0):Bnd (n+1) (plain m x).2:=by
 unfold plain at f |-
 split at f
 ·rename_i a;rw[zb a];exact BI h f
 rename_i a;rw[za a]
 split at f
 ·rename_i b;rw[zb b];exact h.succ rfl rfl (by simp)
 rename_i b;rw[za b]
 split at f
 ·simp at f
 rename_i c;rw[za c]
 split at f
 ·rename_i d;rw[zb d];exact h.succ rfl rfl (by simp[ByteArray.size_append,ZT])
 rename_i d;rw[za d]
 split at f
 ·simp at f
 ·rename_i e;rw[za e];exact h.succ rfl rfl (by simp[ByteArray.size_append,ZT])
theorem EE{n:Nat}{m:zl}(h:Bnd n m)(x:Int)(e:(escape m x).1=0):Bnd (n+1) (escape m x).2:=by
 unfold escape at e |-
 split at e
 ·rename_i a;rw[zb a];exact h.succ rfl rfl (by simp[ByteArray.size_append,ZT])
 rename_i a;rw[za a]
 split at e
 ·rename_i b;rw[zb b];exact h.succ rfl rfl (by simp[ByteArray.size_append,ZT])
 rename_i b;rw[za b]
 split at e
 ·rename_i c;rw[zb c];exact h.succ rfl rfl (by simp[ByteArray.size_append,ZT])
 rename_i c;rw[za c]
 split at e
 ·rename_i d;rw[zb d];exact h.succ rfl rfl (by simp)
 ·simp at e
theorem Dc{n:Nat}{m:zl}(h:Bnd n m)(x:Int)(d:(digit m x).1=0):Bnd (n+1) (digit m x).2:=by
 unfold digit at d |-
 split at d
 ·simp at d
 rename_i a;rw[za a]
 split at d
 ·simp at d
 rename_i b;rw[za b]
 split at d
 ·rename_i c;rw[zb c];exact h.succ rfl rfl (by have:=ai (16*m.number+zL x);simp[ByteArray.size_append];omega)
 ·rename_i c;rw[za c];exact h.succ rfl rfl (by simp)
theorem dG{n:Nat}{m:zl}(h:Bnd n m)(x:Int)(f:(step m x).1=0):Bnd (n+1) (step m x).2:=by
 by_cases h8:m.state=8
 ·rw[Q6 m x h8] at f |-;exact ND h x f
 by_cases h9:m.state=9
 ·rw[Yl m x h9] at f |-
  split at f
  ·simp at f
  ·rename_i a;rw[za a];exact h.succ rfl rfl (by simp[ByteArray.size_append,ZT])
 by_cases h10:m.state=10
 ·rw[Y9 m x h10] at f |-;exact EE h x f
 by_cases h11:m.state=11
 ·rw[Ja m x h11] at f |-;exact Dc h x f
 by_cases h7:m.state=7
 ·rw[Jb m x h7] at f |-
  split at f
  ·simp at f
  ·rename_i a;rw[za a];exact h.succ rfl rfl (by simp)
 unfold step at f |-;rw[za h8,za h9,za h10,za h11,za h7] at f |-
 split at f
 ·rename_i a;rw[zb a];exact h.succ rfl rfl (by simp)
 rename_i a;rw[za a]
 split at f
 ·rename_i b;rw[zb b];exact wJ h x f
 rename_i b;rw[za b]
 split at f
 ·rename_i c;rw[zb c];exact lh h x f
 rename_i c;rw[za c]
 split at f
 ·rename_i d;rw[zb d]
  split at f
  ·simp at f
  ·rename_i e;rw[za e];exact h.succ rfl rfl (zG _)
 ·rename_i d;rw[za d];exact Ay h x f
def init:zl:={ state:=1,opn:=[],nodes:=[],named:=false,got:=⟨#[]⟩,need:=0,low:=0,high:=0,number:=0,word:=⟨#[]⟩,root:=0 }
theorem lC{m:zl}(h:Wf m)(x:Int)(c:(xx m x).1=0):Wf (xx m x).2:=by
 unfold xx at c |-
 split at c
 ·simp at c
 split at c
 ·simp at c
 rename_i a b;rw[za a,za b];exact⟨by simp,by simp,by simp,by simp,by simp,by simp,by simp,h.small⟩
theorem wQ{m:zl}(h:Wf m)(x:Int)(f:(after m x).1=0):Wf (after m x).2:=by
 unfold after at f |-
 split at f
 ·rename_i a;rw[zb a];exact⟨by simp,by simp,by simp,by simp,by simp,by simp,by simp,h.small⟩
 split at f
 ·simp at f
 split at f
 ·rename_i a b c;rw[za a,za b,zb c];exact lC h x f
 split at f
 ·simp at f
 ·rename_i a b c d;rw[za a,za b,za c,za d];have g:m.opn≠[]:=λe=>b (.inr e)
  by_cases hk:uf m=1
  ·rw[zb hk];exact⟨by simp,by simp,by simp,by simp,by simp,by simp,λ_ _=>g,h.small⟩
  ·rw[za hk];exact⟨by simp,by simp,by simp,by simp,by simp,by simp,by simp,h.small⟩
theorem AJ{m:zl}(h:Wf m)(x:Int)(f:(jf m x).1=0):Wf (jf m x).2:=by
 unfold jf at f |-
 split at f
 ·rename_i a;rw[zb a]
  split at f
  ·simp at f
  rename_i b;rw[za b];have e:∀(d:Node),(lay { m with state:=if x=91 then 2 else 3 } d).state=if x=91 then 2 else 3:=λd=>J2 _ d
  have i:(if x=91 then (2:Int) else 3)=2\/(if x=91 then (2:Int) else 3)=3:=by split<;>simp
  refine⟨?_,?_,?_,?_,?_,?_,?_,?_⟩
  ·simp only[e];omega
  ·simp only[e];omega
  ·simp only[e];intro k;omega
  ·simp only[e];intro j;omega
  ·simp only[e];intro l;omega
  ·simp only[e];intro g;omega
  ·intro _ _;simp
  ·simp only[ni];exact h.small
 rename_i a;rw[za a]
 split at f
 ·rename_i b;rw[zb b];exact⟨by simp,by simp,by simp,by simp,by simp,by simp,by simp,h.small⟩
 rename_i b;rw[za b]
 split at f
 ·rename_i c;rw[zb c];exact⟨by simp,by simp,by simp,λ_=>by show 1<=3;omega,by simp,by simp,by simp,by show 3<=10;omega⟩
 rename_i c;rw[za c]
 split at f
 ·rename_i d;rw[zb d];exact⟨by simp,by simp,by simp,λ_=>by show 1<=4;omega,by simp,by simp,by simp,by show 4<=10;omega⟩
 ·simp at f
theorem BM{m:zl}(h:Wf m)(e:m.state=8)(c:(closed m).1=0):Wf (closed m).2:=by
 unfold closed at c |-
 split at c
 ·rename_i a;rw[zb a];exact⟨by simp,by simp,by simp,by simp,by simp,by simp,by simp,by simp only[ni];exact h.small⟩
 split at c
 ·simp at c
 rename_i a b;rw[za a,za b];have d:=h.named (by omega) (by simpa using a);exact⟨by simp,by simp,by simp,by simp,by simp,by simp,λ_ _=>d,h.small⟩
theorem NJ{m:zl}(h:Wf m)(i:m.state=8)(x:Int)(f:(plain m x).1=0):Wf (plain m x).2:=by
 have g:=h.named (by omega);unfold plain at f |-
 split at f
 ·rename_i a;rw[zb a];exact BM h i f
 rename_i a;rw[za a]
 split at f
 ·rename_i b;rw[zb b];exact⟨by simp,by simp,λ_=>g,by simp,by simp,by simp,by simp,h.small⟩
 rename_i b;rw[za b]
 split at f
 ·simp at f
 rename_i c;rw[za c]
 split at f
 ·rename_i d;rw[zb d];exact⟨h.lo,h.hi,λ_=>g,h.word,h.need9,h.need11,h.opens,h.small⟩
 rename_i d;rw[za d]
 split at f
 ·simp at f
 ·rename_i e;rw[za e];have hb:=bu x;exact⟨by simp,by simp,λ_=>g,by simp,λ_=>by simp only;omega,by simp,by simp,h.small⟩
theorem EJ{m:zl}(h:Wf m)(g:m.state=10)(x:Int)(f:(escape m x).1=0):Wf (escape m x).2:=by
 have e:=h.named (by omega);unfold escape at f |-
 split at f
 ·rename_i a;rw[zb a];exact⟨by simp,by simp,λ_=>e,by simp,by simp,by simp,by simp,h.small⟩
 rename_i a;rw[za a]
 split at f
 ·rename_i b;rw[zb b];exact⟨by simp,by simp,λ_=>e,by simp,by simp,by simp,by simp,h.small⟩
 rename_i b;rw[za b]
 split at f
 ·rename_i c;rw[zb c];exact⟨by simp,by simp,λ_=>e,by simp,by simp,by simp,by simp,h.small⟩
 rename_i c;rw[za c]
 split at f
 ·rename_i d;rw[zb d];exact⟨by simp,by simp,λ_=>e,by simp,by simp,λ_=>by simp,by simp,h.small⟩
 ·simp at f
theorem Di{m:zl}(h:Wf m)(i:m.state=11)(x:Int)(f:(digit m x).1=0):Wf (digit m x).2:=by
 have g:=h.named (by omega);obtain⟨o,p,q,r,j,k,l⟩:=h.need11 i
 have n:-1<=zL x/\zL x<=15:=by
  unfold zL
  split
  ·omega
  split
  ·omega
  split
  ·omega
  ·omega
 unfold digit at f |-
 split at f
 ·simp at f
 rename_i a;rw[za a]
 split at f
 ·simp at f
 rename_i b;rw[za b]
 split at f
 ·rename_i c;rw[zb c];exact⟨by simp,by simp,λ_=>g,by simp,by simp,by simp,by simp,h.small⟩
 ·rename_i c;rw[za c];have d:m.need=2\/m.need=3\/m.need=4:=by omega
  refine⟨h.lo,h.hi,λ_=>g,by simp only;omega,by simp only;omega,?_,by simp only;omega,h.small⟩;intro _;simp only
  rcases d with e|e|e
  ·have:=l e;omega
  ·have:=k e;omega
  ·have:=j e;omega
theorem dI{m:zl}(h:Wf m)(x:Int)(f:(step m x).1=0):Wf (step m x).2:=by
 by_cases h8:m.state=8
 ·rw[Q6 m x h8] at f |-;exact NJ h h8 x f
 by_cases h9:m.state=9
 ·have i:=h.named (by omega);have n:=h.need9 h9;rw[Yl m x h9] at f |-
  split at f
  ·simp at f
  ·rename_i a;rw[za a]
   by_cases hz:m.need-1=0
   ·rw[zb hz];exact⟨by simp,by simp,λ_=>i,by simp,by simp,by simp,by simp,h.small⟩
   ·rw[za hz];exact⟨by simp,by simp,λ_=>i,by simp,λ_=>by simp only;omega,by simp,by simp,h.small⟩
 by_cases h10:m.state=10
 ·rw[Y9 m x h10] at f |-;exact EJ h h10 x f
 by_cases h11:m.state=11
 ·rw[Ja m x h11] at f |-;exact Di h h11 x f
 by_cases h7:m.state=7
 ·have p:=h.word h7;have o:=h.small;rw[Jb m x h7] at f |-
  split at f
  ·simp at f
  ·rename_i a;rw[za a];have g:(m.word.extract 1 m.word.size).size=m.word.size-1:=by rw[jI];omega
   by_cases hz:m.word.size=1
   ·rw[zb hz];exact⟨by simp,by simp,by simp,by simp,by simp,by simp,by simp,by simp only[g];omega⟩
   ·rw[za hz];exact⟨by simp,by simp,by simp,λ_=>by simp only[g];omega,by simp,by simp,by simp,by simp only[g];omega⟩
 have l:=h.lo;have k:=h.hi;rw[Q7 m x (by omega)] at f |-
 split at f
 ·rename_i a;rw[zb a];exact h
 rename_i a;rw[za a]
 split at f
 ·rename_i b;rw[zb b];exact wQ h x f
 rename_i b;rw[za b]
 split at f
 ·rename_i c;rw[zb c];exact lC h x f
 rename_i c;rw[za c]
 split at f
 ·rename_i d;rw[zb d]
  split at f
  ·simp at f
  ·rename_i e;rw[za e];have j:=h.opens (by omega) (by omega);exact⟨by simp,by simp,λ_ _=>j,by simp,by simp,by simp,by simp,h.small⟩
 ·rename_i d;rw[za d];exact AJ h x f
def run:zl->List UInt8->Nat->Int×Nat×zl
 | m,[],p=>(0,p,m)
 | m,c::r,p=>if (step m (c.toNat:Int)).1=0 then run (step m (c.toNat:Int)).2 r (p+1) else ((step m (c.toNat:Int)).1,p,m)
def pend(m:zl):Prop:=m.state=5\/m.state=1\/(8<=m.state/\m.named=false)
def asks(m:zl):Prop:=(2<=m.state/\m.state<=7)\/(8<=m.state/\m.named=true)
def Vp(m:zl):Prop:=∀(i:Nat) (n:Node),m.opn.getLast?=some i->m.nodes[i]?=some n->n.kind≠1
def Ev(ns:List Node):Prop:=∀(i:Nat) (n:Node),ns[i]?=some n->(∀k ∈ n.kids,k<ns.length)/\(n.kind=1->n.names.length=n.kids.length)
structure Tree (m:zl):Prop where
 kids:∀(i:Nat) (n:Node),m.nodes[i]?=some n->∀k ∈ n.kids,k<m.nodes.length
 even:∀(i:Nat) (n:Node),m.nodes[i]?=some n->¬(pend m/\m.opn.getLast?=some i)->n.kind=1->n.names.length=n.kids.length
 odd:∀(i:Nat) (n:Node),m.nodes[i]?=some n->pend m->m.opn.getLast?=some i->n.kind=1->n.names.length=n.kids.length+1
 two:m.state=2->Vp m
 full:asks m->m.nodes≠[]
 root0:0<=m.root
 root:m.nodes≠[]->m.root<(m.nodes.length:Int)
theorem Tree.like{m m':zl}(h:Tree m)(b:m'.opn=m.opn)(a:m'.nodes=m.nodes)(d:m'.root=m.root)(c:pend m'↔pend m)(f:m'.state=2->m.state=2)(g:asks m'->asks m):Tree m':=by
 refine⟨by rw[a];exact h.kids,by rw[a,b,c];exact h.even,by rw[a,b,c];exact h.odd,λe=>?_,λe=>by rw[a];exact h.full (g e),by rw[d];exact h.root0,by rw[a,d];exact h.root⟩
 have:=h.two (f e)
 unfold Vp at this |-;rw[b,a];exact this
theorem Tree.ev{m:zl}(h:Tree m)(a:¬pend m):Ev m.nodes:=λi n hi=>⟨h.kids i n hi,h.even i n hi (λe=>a e.1)⟩
theorem Tree.of{m:zl}(h:Ev m.nodes)(d:¬pend m)(b:m.state=2->Vp m)(c:m.nodes≠[])(a:0<=m.root)(f:m.root<(m.nodes.length:Int)):Tree m:=
 ⟨λi n hi=>(h i n hi).1,λi n hi _=>(h i n hi).2,λ_ _ _ e=>absurd e d,b,λ_=>c,a,λ_=>f⟩
theorem mY{l:List Nat}{o:Nat}(h:l.getLast?=some o):l.getLastD 0=o:=by
 cases l with
 | nil=>simp at h
 | cons a r=>simpa [List.getLastD,List.getLast?] using h
theorem bg{l:List Nat}(h:l≠[]):l.getLast?=some (l.getLastD 0):=by
 cases l with
 | nil=>exact absurd rfl h
 | cons a r=>simp[List.getLastD,List.getLast?]
theorem Ye{α:Type}(l:List α)(f:α->α)(o i:Nat)(d:α)(h:(l.modify o f)[i]?=some d):∃c,l[i]?=some c/\d=if o=i then f c else c:=by
 rw[Zz] at h
 cases hc:l[i]? with
 | none=>rw[hc] at h;simp at h
 | some c=>rw[hc] at h;simp at h;exact⟨c,rfl,h.symm⟩
theorem Uj{m:zl}(h:Tree m)(v:∀o ∈ m.opn,o<m.nodes.length)(r:pend m\/Vp m)(d:Node)(s:d.names=[])(t:d.kids=[]) :
  Ev (lay m d).nodes/\(lay m d).nodes≠[]/\0<=(lay m d).root/\(lay m d).root<((lay m d).nodes.length:Int):=by
 have base:∀(i:Nat) (e:Node),(m.nodes++[d])[i]?=some e->m.nodes[i]?=some e\/(i=m.nodes.length/\e=d):=by
  intro i e b;rw[Z9] at b
  split at b
  ·exact .inl b
  ·rename_i x;have u:=qL b;simp only[xL] at u
   have:=zR.1 b
   obtain⟨hi,_⟩:=this;simp only[vQ] at hi;exact .inr ⟨by omega,u⟩
 have g:=h.root0;have n:=h.root;unfold lay
 by_cases hop:m.opn=[]
 ·rw[zb hop];refine⟨?_,by simp,by simp,by simp;omega⟩;intro i e b
  rcases base i e b with p|⟨_,rfl⟩
  ·refine⟨λk f=>?_,h.even i e p (by rw[hop];simp)⟩
   have:=h.kids i e p k f
   simp;omega
  ·rw[s,t];simp
 ·rw[za hop];refine⟨?_,by simp[xV],g,?_⟩
  ·have a:=bg hop;have j:=v _ (List.mem_of_getLast? a);obtain⟨o,w⟩:=Nm (m.opn.getLastD 0);simp only[w] at a j |-;intro i e b;unfold xV at b |-;obtain⟨c,p,q⟩:=Ye _ _ _ _ _ b;clear b;have b:=q;clear q;simp only[Km,qA,vQ]
   ·by_cases hoi:o=i
    ·rw[zb hoi] at b;subst b;simp only[jy,xL,qA,vQ]
     rcases base i c p with hb|⟨hb,rfl⟩
     ·refine⟨λk f=>?_,λl=>?_⟩
      ·rcases f with f|rfl
       ·have:=h.kids i c hb k f;omega
       ·omega
      ·rcases r with r|r
       ·exact h.odd i c hb r (by rw[a,hoi]) l
       ·exact absurd l (r i c (by rw[a,hoi]) hb)
     ·omega
    ·rw[za hoi] at b;subst b
     rcases base i e p with hb|⟨hb,rfl⟩
     ·refine⟨λk f=>?_,h.even i e hb (λe=>hoi ?_)⟩
      ·have:=h.kids i e hb k f;omega
      ·have:=e.2;rw[a] at this;simpa using this
     ·rw[s,t];simp
  ·simp[xV];have j:=v _ (List.mem_of_getLast? (bg hop))
   have:=n (λe=>by rw[e] at j;simp at j)
   omega
theorem lu{m:zl}(h:Tree m)(e:¬pend m)(d:asks m)(x:Int)(c:(xx m x).1=0):Tree (xx m x).2:=by
 unfold xx at c |-
 split at c
 ·simp at c
 split at c
 ·simp at c
 rename_i a b;rw[za a,za b];exact Tree.of (h.ev e) (by unfold pend;simp) (by simp) (h.full d) h.root0 (h.root (h.full d))
theorem wM{m:zl}(h:Tree m)(p:m.state=6\/m.state=5)(x:Int)(f:(after m x).1=0):Tree (after m x).2:=by
 unfold after at f |-
 split at f
 ·rename_i a;rw[zb a];exact h.like rfl rfl rfl (by unfold pend;simp[a.1]) (by simp) (by unfold asks;simp)
 split at f
 ·simp at f
 rename_i a b;have q:m.state=6:=by omega
 split at f
 ·rename_i c;rw[za a,za b,zb c];exact lu h (by unfold pend;omega) (by unfold asks;omega) x f
 split at f
 ·simp at f
 ·rename_i c d;rw[za a,za b,za c,za d];have g:=h.ev (by unfold pend;omega);have k:=h.full (by unfold asks;omega);have o:m.opn≠[]:=λe=>b (.inr e)
  by_cases hk:uf m=1
  ·rw[zb hk];exact Tree.of g (by unfold pend;simp) (by simp) k h.root0 (h.root k)
  ·rw[za hk];refine⟨λi n hi=>(g i n hi).1,λi n hi _=>(g i n hi).2,?_,by simp,by unfold asks;simp,h.root0,h.root⟩;intro i n hi _ l j;unfold uf at hk;rw[mY l,hi] at hk;exact absurd j hk
theorem AA{m:zl}(h:Tree m)(v:∀o ∈ m.opn,o<m.nodes.length)(p:m.state=1\/m.state=2)(x:Int)(g:(jf m x).1=0):Tree (jf m x).2:=by
 have j:pend m\/Vp m:=by
  rcases p with e|e
  ·exact .inl (.inr (.inl e))
  ·exact .inr (h.two e)
 unfold jf at g |-
 split at g
 ·rename_i a;rw[zb a]
  split at g
  ·simp at g
  rename_i b;rw[za b];have t:∀d,(lay { m with state:=if x=91 then 2 else 3 } d).nodes=(lay m d).nodes:=λd=>by unfold lay;simp only;split<;>rfl
  have w:∀d,(lay { m with state:=if x=91 then 2 else 3 } d).root=(lay m d).root:=λd=>by unfold lay;simp only;split<;>rfl
  have y:∀d,(lay { m with state:=if x=91 then 2 else 3 } d).state=if x=91 then 2 else 3:=λd=>J2 _ d
  obtain⟨q,q2,r,s⟩:=Uj h v j { kind:=if x=91 then 2 else 1,text:=⟨#[]⟩,names:=[],kids:=[] } rfl rfl
  refine Tree.of (by simp only[t];exact q) ?_ ?_ (by simp only[t];exact q2) (by simp only[w];exact r) (by simp only[t,w];exact s)
  ·unfold pend;simp only[y]
   split<;>omega
  ·simp only[y];intro A i n hi f;simp only[List.getLast?_append,List.getLast?_singleton,Option.some_or,Option.some.injEq] at hi;subst hi;simp only[t] at f;have u:x=91:=by by_cases e:x=91;exact e;rw[za e] at A;omega
   subst u;simp only[xy] at f;unfold lay at f
   split at f
   ·simp at f;rw[<- f];simp
   ·unfold xV at f;rw[Zz] at f;simp at f;rw[<- f]
    split<;>simp
 rename_i a;rw[za a]
 split at g
 ·rename_i b;rw[zb b]
  rcases p with e|e
  ·exact h.like rfl rfl rfl (by unfold pend;simp[e]) (by simp) (by unfold asks;simp)
  ·have k:=h.ev (by unfold pend;omega);refine⟨λi n hi=>(k i n hi).1,λi n hi _=>(k i n hi).2,?_,by simp,by unfold asks;simp,h.root0,h.root⟩;intro i n hi _ z l;exact absurd l (h.two e i n z hi)
 rename_i b;rw[za b]
 split at g
 ·rename_i c;rw[zb c];obtain⟨q,q2,r,s⟩:=Uj h v j { kind:=4,text:=⟨#[]⟩,names:=[],kids:=[] } rfl rfl;exact Tree.of q (by unfold pend;simp) (by simp) q2 r s
 rename_i c;rw[za c]
 split at g
 ·rename_i d;rw[zb d];obtain⟨q,q2,r,s⟩:=Uj h v j { kind:=5,text:=⟨#[]⟩,names:=[],kids:=[] } rfl rfl;exact Tree.of q (by unfold pend;simp) (by simp) q2 r s
 ·simp at g
theorem BK{m:zl}(h:Tree m)(w:∀o ∈ m.opn,o<m.nodes.length)(A:m.state=8)(r:m.named=true->m.opn≠[])(q:(closed m).1=0):Tree (closed m).2:=by
 unfold closed at q |-
 split at q
 ·rename_i a;rw[zb a];obtain⟨x,q2,y,z⟩:=Uj h w (.inl (.inr (.inr ⟨by omega,a⟩))) { kind:=3,text:=m.got,names:=[],kids:=[] } rfl rfl;exact Tree.of x (by unfold pend;simp) (by simp) q2 y z
 split at q
 ·simp at q
 rename_i a b;rw[za a,za b];have l:m.named=true:=by simpa using a
 have f:=h.ev (by unfold pend;simp[l];omega);have u:=h.full (.inr ⟨by omega,l⟩);have j:=bg (r l);refine⟨?_,?_,?_,by simp,λ_=>by simpa [yj] using u,h.root0,λ_=>by simpa [yj] using h.root u⟩
 ·intro i n hi k t;simp only[yj,Km]
  rcases bF _ _ _ _ _ hi with g|⟨c,g,rfl⟩
  ·exact (f i n g).1 k t
  ·exact (f i c g).1 k t
 ·intro i n hi s e;obtain⟨c,g,d⟩:=Ye _ _ _ _ _ hi
  by_cases hoi:m.opn.getLastD 0=i
  ·exact absurd ⟨.inl rfl,by simp only;rw[j,hoi]⟩ s
  ·rw[za hoi] at d;subst d;exact (f i _ g).2 e
 ·intro i n hi _ v e;obtain⟨c,g,d⟩:=Ye _ _ _ _ _ hi;have p:=mY v;simp only at p;rw[zb p] at d;subst d
  have:=(f i c g).2 e
  simp;omega
theorem NH{m:zl}(h:Tree m)(j:∀o ∈ m.opn,o<m.nodes.length)(g:m.state=8)(i:m.named=true->m.opn≠[])(x:Int)(f:(plain m x).1=0):Tree (plain m x).2:=by
 unfold plain at f |-
 split at f
 ·rename_i a;rw[zb a];exact BK h j g i f
 rename_i a;rw[za a]
 split at f
 ·rename_i b;rw[zb b];exact h.like rfl rfl rfl (by unfold pend;simp[g]) (by simp) (by unfold asks;simp[g])
 rename_i b;rw[za b]
 split at f
 ·simp at f
 rename_i c;rw[za c]
 split at f
 ·rename_i d;rw[zb d];exact h.like rfl rfl rfl (by unfold pend;simp) (by simp) (by unfold asks;simp)
 rename_i d;rw[za d]
 split at f
 ·simp at f
 ·rename_i e;rw[za e];exact h.like rfl rfl rfl (by unfold pend;simp[g]) (by simp) (by unfold asks;simp[g])
theorem EH{m:zl}(h:Tree m)(e:m.state=10)(x:Int)(f:(escape m x).1=0):Tree (escape m x).2:=by
 unfold escape at f |-
 split at f
 ·rename_i a;rw[zb a];exact h.like rfl rfl rfl (by unfold pend;simp[e]) (by simp) (by unfold asks;simp[e])
 rename_i a;rw[za a]
 split at f
 ·rename_i b;rw[zb b];exact h.like rfl rfl rfl (by unfold pend;simp[e]) (by simp) (by unfold asks;simp[e])
 rename_i b;rw[za b]
 split at f
 ·rename_i c;rw[zb c];exact h.like rfl rfl rfl (by unfold pend;simp[e]) (by simp) (by unfold asks;simp[e])
 rename_i c;rw[za c]
 split at f
 ·rename_i d;rw[zb d];exact h.like rfl rfl rfl (by unfold pend;simp[e]) (by simp) (by unfold asks;simp[e])
 ·simp at f
theorem Df{m:zl}(h:Tree m)(e:m.state=11)(x:Int)(d:(digit m x).1=0):Tree (digit m x).2:=by
 unfold digit at d |-
 split at d
 ·simp at d
 rename_i a;rw[za a]
 split at d
 ·simp at d
 rename_i b;rw[za b]
 split at d
 ·rename_i c;rw[zb c];exact h.like rfl rfl rfl (by unfold pend;simp[e]) (by simp) (by unfold asks;simp[e])
 ·rename_i c;rw[za c];exact h.like rfl rfl rfl (by unfold pend;simp) (by simp) (by unfold asks;simp)
theorem PY{m:zl}(h:Tree m)(i:Wf m)(k:∀o ∈ m.opn,o<m.nodes.length)(x:Int)(f:(step m x).1=0):Tree (step m x).2:=by
 have g:=i.named
 by_cases h8:m.state=8
 ·rw[Q6 m x h8] at f |-;exact NH h k h8 (g (by omega)) x f
 by_cases h9:m.state=9
 ·rw[Yl m x h9] at f |-
  split at f
  ·simp at f
  ·rename_i a;rw[za a]
   by_cases hz:m.need-1=0
   ·rw[zb hz];exact h.like rfl rfl rfl (by unfold pend;simp[h9]) (by simp) (by unfold asks;simp[h9])
   ·rw[za hz];exact h.like rfl rfl rfl (by unfold pend;simp[h9]) (by simp) (by unfold asks;simp[h9])
 by_cases h10:m.state=10
 ·rw[Y9 m x h10] at f |-;exact EH h h10 x f
 by_cases h11:m.state=11
 ·rw[Ja m x h11] at f |-;exact Df h h11 x f
 by_cases h7:m.state=7
 ·rw[Jb m x h7] at f |-
  split at f
  ·simp at f
  ·rename_i a;rw[za a]
   by_cases hz:m.word.size=1
   ·rw[zb hz];exact h.like rfl rfl rfl (by unfold pend;simp[h7]) (by simp) (by unfold asks;simp[h7])
   ·rw[za hz];exact h.like rfl rfl rfl (by unfold pend;simp[h7]) (by simp) (by unfold asks;simp[h7])
 have n:=i.lo;have l:=i.hi;rw[Q7 m x (by omega)] at f |-
 split at f
 ·rename_i a;rw[zb a];exact h
 rename_i a;rw[za a]
 split at f
 ·rename_i b;rw[zb b];exact wM h b x f
 rename_i b;rw[za b]
 split at f
 ·rename_i c;rw[zb c];exact lu h (by unfold pend;omega) (by unfold asks;omega) x f
 rename_i c;rw[za c]
 split at f
 ·rename_i d;rw[zb d]
  split at f
  ·simp at f
  ·rename_i e;rw[za e];have j:=h.full (by unfold asks;omega);exact Tree.of (h.ev (by unfold pend;omega)) (by unfold pend;simp) (by simp) j h.root0 (h.root j)
 ·rename_i d;rw[za d];exact AA h k (by omega) x f
theorem Gt:Tree init:=
 ⟨λi n hi=>by simp[init] at hi,λi n hi=>by simp[init] at hi,λi n hi=>by simp[init] at hi,by simp[init],by unfold asks;simp[init],by simp[init],λe=>absurd rfl e⟩
theorem rQ:∀(l:List UInt8) (m:zl) (p k:Nat),Tree m->Wf m->Bnd k m->(run m l p).1=0->Tree (run m l p).2.2/\Wf (run m l p).2.2
 | [],m,p,k,h,hw,hb,_=>⟨h,hw⟩
 | c::r,m,p,k,h,hw,hb,he=>by
  unfold run at he |-
  by_cases hs:(step m (c.toNat:Int)).1=0
  ·rw[zb hs] at he |-;exact rQ r _ _ (k+1) (PY h hw hb.top _ hs) (dI hw _ hs) (dG hb _ hs) he
  ·rw[za hs] at he;exact absurd he hs
def jB:List BY->List Nat->BY->Int
 | s::ss,k::ks,name=>if s.toList==name.toList then (k:Int) else jB ss ks name
 | _,_,_=>-1
def zq(n:Node)(name:BY):Int:=jB n.names n.kids name
def yB(n:Node)(names:List BY):Bool:=n.names.all (λs=>names.any λt=>t.toList==s.toList)&&n.kind==1
theorem FQ(a:List BY)(ks:List Nat)(name:BY)(i:Nat)(hi:i<a.length)(b:i<ks.length)(h:(a[i].toList==name.toList)=true):jB (a.drop i) (ks.drop i) name=(ks[i]:Int):=by
 rw[vw hi,vw b,jB,zb h]
theorem FR(a:List BY)(ks:List Nat)(name:BY)(i:Nat)(hi:i<a.length)(b:i<ks.length)(h:(a[i].toList==name.toList)=false):jB (a.drop i) (ks.drop i) name=jB (a.drop (i+1)) (ks.drop (i+1)) name:=by
 rw[vw hi,vw b,jB,za (by simp[h])]
theorem FP(a:List BY)(ks:List Nat)(name:BY)(i:Nat)(hi:¬i<a.length):jB (a.drop i) (ks.drop i) name = -1:=by
 rw[Vy (by omega),jB]
 simp
theorem gy(ts:List BY)(s:BY)(k:Nat)(a:k<ts.length)(x:Bool)(c:x=(ts.take k).any λt=>t.toList==s.toList)(b:Bool)(hb:(ts[k].toList==s.toList)=b):(x||b)=(ts.take (k+1)).any λt=>t.toList==s.toList:=by
 rw[Js a,List.any_append,<- c];simp[hb]
theorem wX(ts:List BY)(s:BY)(k:Nat)(b:¬k<ts.length)(x:Bool)(a:x=(ts.take k).any λt=>t.toList==s.toList):(ts.any λt=>t.toList==s.toList)=x:=by
 rw[Zd (by omega)] at a;exact a.symm
theorem gp{α:Type}(l:List α)(f:α->Bool)(k:Nat)(b:k<l.length)(h:(l.take k).all f=true)(a:f l[k]=true):(l.take (k+1)).all f=true:=by
 rw[Js b,Vx,h];simp[a]
theorem gq{α:Type}(l:List α)(f:α->Bool)(k:Nat)(b:k<l.length)(a:f l[k]=false):l.all f=false:=by
 rw[List.all_eq_false];exact⟨l[k],xB b,by simp[a]⟩
theorem gm{α:Type}(l:List α)(f:α->Bool)(k:Nat)(a:¬k<l.length)(h:(l.take k).all f=true):l.all f=true:=by
 rw[Zd (by omega)] at h;exact h
theorem J5(l:List Nat)(j:Nat)(h:j<l.length):(l.map λ(n:Nat)=>Value.int .i64 (n:Int))[j]?=some (.int .i64 (l[j]:Int)):=by
 simp[h]
def vD(K:Nat)(ns:List Node):Prop:=∀(i:Nat) (n:Node),ns[i]?=some n->n.text.size<=K
theorem Um{K:Nat}{m:zl}(h:vD K m.nodes)(d:Node)(f:d.text.size<=K):vD K (lay m d).nodes:=by
 have base:vD K (m.nodes++[d]):=by
  intro i e a;rw[Z9] at a
  split at a
  ·exact h i e a
  ·have:=qL a
   simp only[xL] at this;subst this;exact f
 unfold lay
 split
 ·exact base
 ·intro i e a;obtain⟨c,b,rfl⟩:=Ye _ _ _ _ _ a
  have:=base i c b
  split<;>exact this
theorem lm(m:zl)(x:Int):(xx m x).2.nodes=m.nodes:=by unfold xx;split<;>(try split)<;>rfl
theorem wL(m:zl)(x:Int):(after m x).2.nodes=m.nodes:=by
 unfold after
 split
 ·rfl
 split
 ·rfl
 split
 ·exact lm m x
 split<;>rfl
theorem EG(m:zl)(x:Int):(escape m x).2.nodes=m.nodes:=by unfold escape;repeat' (split<;>try rfl)
theorem De(m:zl)(x:Int):(digit m x).2.nodes=m.nodes:=by unfold digit;repeat' (split<;>try rfl)
theorem Az{K:Nat}{m:zl}(h:vD K m.nodes)(x:Int):vD K (jf m x).2.nodes:=by
 unfold jf
 split
 ·split
  ·exact h
  ·exact Um (m:={ m with state:=if x=91 then 2 else 3 }) h _ (zG _)
 split
 ·exact h
 split
 ·exact Um h _ (zG _)
 split
 ·exact Um h _ (zG _)
 ·exact h
theorem BJ{K:Nat}{m:zl}(h:vD K m.nodes)(d:m.got.size<=K):vD K (closed m).2.nodes:=by
 unfold closed
 split
 ·exact Um h _ d
 split
 ·exact h
 ·intro i e b;obtain⟨c,a,rfl⟩:=Ye _ _ _ _ _ b
  have:=h i c a
  split<;>exact this
theorem NG{K:Nat}{m:zl}(h:vD K m.nodes)(a:m.got.size<=K)(x:Int):vD K (plain m x).2.nodes:=by
 unfold plain
 split
 ·exact BJ h a
 repeat' (split<;>try exact h)
theorem PX{K:Nat}{m:zl}(h:vD K m.nodes)(a:m.got.size<=K)(x:Int):vD K (step m x).2.nodes:=by
 unfold step
 split
 ·exact NG h a x
 split
 ·split<;>exact h
 split
 ·rw[EG];exact h
 split
 ·rw[De];exact h
 split
 ·split<;>exact h
 split
 ·exact h
 split
 ·rw[wL];exact h
 split
 ·rw[lm];exact h
 split
 ·split<;>exact h
 ·exact Az h x
theorem rP:∀(l:List UInt8) (m:zl) (p k K:Nat),vD (3*K) m.nodes->Bnd k m->k+l.length<=K->vD (3*K) (run m l p).2.2.nodes
 | [],_,_,_,_,h,_,_=>h
 | c::r,m,p,k,K,h,hb,hK=>by
  unfold run;simp only[ZB] at hK;have b:=hb.got
  split
  ·rename_i a;exact rP r _ _ (k+1) K (PX h (by omega) _) (dG hb _ a) (by omega)
  ·exact h
def vg(ns:List Node):List Nat->Option (List BY)
 | []=>some []
 | k::ks=>match ns[k]? with
  | some x=>if x.kind=3 then (vg ns ks).map λl=>x.text::l else none
  | none=>none
def qK(ns:List Node)(k:Int):Option (List BY):=
 if k<0 then none
 else match ns[k.toNat]? with
  | none=>none
  | some n=>if n.kind=3 then some [n.text] else if n.kind≠2\/n.kids.length<1\/10<n.kids.length then none else vg ns n.kids
theorem RI(ns:List Node)(ks:List Nat)(i:Nat)(hi:i<ks.length)(x:Node)(c:ns[ks[i]]?=some x)(a:x.kind=3)(done:List BY)(P:Option (List BY))
  (h:P=(vg ns (ks.drop i)).map λb=>done++b):P=(vg ns (ks.drop (i+1))).map λb=>(done++[x.text])++b:=by
 rw[h,vw hi,vg,c];simp[a,Option.map_map,Function.comp_def]
theorem RJ(ns:List Node)(ks:List Nat)(i:Nat)(hi:i<ks.length)(x:Node)(c:ns[ks[i]]?=some x)(a:x.kind≠3)(done:List BY)(P:Option (List BY))
  (h:P=(vg ns (ks.drop i)).map λb=>done++b):P=none:=by
 rw[h,vw hi,vg,c];simp[a]
theorem RH(ns:List Node)(ks:List Nat)(i:Nat)(hi:¬i<ks.length)(done:List BY)(P:Option (List BY))
  (h:P=(vg ns (ks.drop i)).map λb=>done++b):P=some done:=by
 rw[h,Vy (by omega),vg];simp
def qF(s:BY):Bool:=(parts s).isSome
theorem sO(ns:List Node)(K:Nat)(h:vD K ns):∀(ks:List Nat) (l:List BY),vg ns ks=some l->∀s ∈ l,s.size<=K
 | [],l,e=>by simp[vg] at e;subst e;simp
 | k::ks,l,e=>by
  rw[vg] at e
  split at e
  ·rename_i x c
   split at e
   ·obtain⟨r,b,rfl⟩:=Qg.1 e;intro s a
    rcases Qc.1 a with rfl|a
    ·exact h k x c
    ·exact sO ns K h ks r b s a
   ·simp at e
  ·simp at e
theorem sQ(ns:List Node)(K:Nat)(h:vD K ns)(k:Int)(l:List BY)(e:qK ns k=some l):∀s ∈ l,s.size<=K:=by
 unfold qK at e
 split at e
 ·simp at e
 split at e
 ·simp at e
 rename_i n b
 split at e
 ·simp only[Option.some.injEq] at e;subst e;intro s a;simp only[xL] at a;subst a;exact h _ n b
 split at e
 ·simp at e
 ·exact sO ns K h _ l e
theorem sM(ns:List Node):∀(ks:List Nat) (l:List BY),vg ns ks=some l->l.length=ks.length
 | [],l,e=>by simp[vg] at e;subst e;rfl
 | k::ks,l,e=>by
  rw[vg] at e
  split at e
  ·split at e
   ·obtain⟨r,a,rfl⟩:=Qg.1 e;simp[sM ns ks r a]
   ·simp at e
  ·simp at e
theorem sP(ns:List Node)(k:Int)(l:List BY)(e:qK ns k=some l):l.length<=10:=by
 unfold qK at e
 split at e
 ·simp at e
 split at e
 ·simp at e
 split at e
 ·simp only[Option.some.injEq] at e;subst e
  simp
 split at e
 ·simp at e
 ·rename_i h;have:=sM ns _ l e;omega
theorem pI(l:List BY)(pt:Bool)(j:Nat)(a:j<l.length):(pt || !((l.take (j+1)).all qF))=((pt || !((l.take j).all qF)) || !(qF l[j])):=by
 rw[Js a,Vx];simp[Bool.not_and,Bool.or_assoc]
theorem pG(l:List BY)(pt:Bool)(j:Nat)(a:¬j<l.length):(pt || !((l.take j).all qF))=(pt || !(l.all qF)):=by
 rw[Zd (by omega)]
def qM:BY:=⟨#[110,111,116]⟩
def yG(ns:List Node)(k:Int):Bool×Option (List BY):=
 if k<0 then (false,none)
 else match ns[k.toNat]? with
  | none=>(false,none)
  | some n=>if n.kind=1 then (if yB n [qM]=true/\n.names.length=1 then (true,qK ns (n.kids.getD 0 0:Nat)) else (false,none)) else (false,qK ns k)
theorem Bw(ns:List Node)(k:Int)(h:k<0):yG ns k=(false,qK ns k):=by
 unfold yG qK;rw[zb h,zb h]
def digits(l:List UInt8):Bool:=l.all λc=>decide (48<=c.toNat/\c.toNat<=57)
theorem iU(l:List UInt8)(c:UInt8):digits (l++[c])=(digits l&&decide (48<=c.toNat/\c.toNat<=57)):=by simp[digits]
def kS(t:BY):Bool:=decide (1<=t.size/\t.size<=18)&&((t.data.toList.getD 0 0).toNat != 48)&&digits t.data.toList
def jY(s:BY):Bool:=
 (s.toList==[48])||kS (if 0<s.size/\(s.data.toList.getD 0 0).toNat=45 then s.extract 1 s.size else s)
theorem oo(s:BY)(k:Nat)(h:k<s.size)(hb:(s[k].toNat:Int)<48\/57<(s[k].toNat:Int)):kS s=false:=by
 have e:digits (s.data.toList.take (k+1))=false:=by rw[Vl s k h,iU];simp;omega
 have a:digits s.data.toList=false:=by
  have:=VH (k+1) s.data.toList
  rw[<- this];unfold digits at *;rw[Vx,e];rfl
 unfold kS;rw[a];simp
theorem iR(s:BY)(k:Nat)(h:k<s.size)(a:digits (s.data.toList.take k)=true)(b:48<=(s[k].toNat:Int))(hb:(s[k].toNat:Int)<=57) :
  digits (s.data.toList.take (k+1))=true:=by
 rw[Vl s k h,iU,a];simp;omega
theorem X6(s:BY)(h:0<s.size):s.data.toList.getD 0 0=s[0]:=by
 have e:=Vl s 0 h;rw[List.take_zero] at e
 cases hl:s.data.toList with
 | nil=>rw[hl] at e;simp at e
 | cons a r=>rw[hl] at e;simp at e;simpa using e
theorem bJ(s:BY)(h:0<s.size)(a:(s[0].toNat:Int)=48):kS s=false:=by
 unfold kS;rw[X6 s h];simp;omega
theorem J8(s:BY)(h:¬(1<=s.size/\s.size<=18)):kS s=false:=by unfold kS;simp[h]
theorem oq(s:BY)(k:Nat)(h:¬k<s.size)(e:k<=s.size)(b:1<=s.size)(d:s.size<=18)(c:(s[0].toNat:Int)≠48)(a:digits (s.data.toList.take k)=true):kS s=true:=by
 unfold kS;rw[Zd (by simp;omega)] at a;rw[a,X6 s b];simp;omega
def ug(op s:BY):Bool:=
 if op.toList==[115,97,109,101] then decide (s.size<=60)
 else if op.toList==[117,110,100,101,114] then decide (s.size<=60) && !s.toList.isEmpty
 else if op.toList==[98,101,108,111,119] then jY s
 else true
def uP(op:BY):Bool:=(op.toList==[115,97,109,101])||(op.toList==[117,110,100,101,114])||(op.toList==[98,101,108,111,119])||(op.toList==[108,105,107,101])
def Zn(op:BY)(l:List BY):Bool:=l.all (ug op)&&uP op
def bOp:BY:=⟨#[111,112]⟩
def zD:BY:=⟨#[107,101,121]⟩
def bNo:BY:=⟨#[110,111]⟩
def zB:BY:=⟨#[118,97,108,117,101]⟩
structure qg where
 op:BY
 key:BY
 vals:List BY
 no:Bool
 sh:Bool
 pt:Bool
def kindOf(ns:List Node)(k:Int):Int:=match ns[k.toNat]? with
 | some x=>x.kind
 | none=>0
def textOf(ns:List Node)(k:Int):BY:=match ns[k.toNat]? with
 | some x=>x.text
 | none=>⟨#[]⟩
def xO(op:BY):Bool:=op.toList==[97,98,115,101,110,116]
def yc(op:BY):Bool:=op.toList==[108,105,107,101]
def noT(ns:List Node)(no:Int):Bool:=decide (0<=no)&&(kindOf ns no==4)
def vW(ns:List Node)(no:Int):Bool:=decide (0<=no)&&(!(kindOf ns no==4) && !(kindOf ns no==5))
def yf:qg:=⟨⟨#[]⟩,⟨#[]⟩,[],false,true,false⟩
def kI(ns:List Node)(n:Node):qg:=
 if zq n bOp<0\/zq n zD<0\/kindOf ns (zq n bOp)≠3\/kindOf ns (zq n zD)≠3 then yf
 else if xO (textOf ns (zq n bOp)) then
  ⟨textOf ns (zq n bOp),textOf ns (zq n zD),[],noT ns (zq n bNo),vW ns (zq n bNo) || !qh (textOf ns (zq n zD)) || !yB n [bOp,zD,bNo],false⟩
 else
  ⟨textOf ns (zq n bOp),textOf ns (zq n zD),(qK ns (zq n zB)).getD [],noT ns (zq n bNo),
   vW ns (zq n bNo)||(!(qK ns (zq n zB)).isSome || !Zn (textOf ns (zq n bOp)) ((qK ns (zq n zB)).getD [])) || !qh (textOf ns (zq n zD)) || !yB n [bOp,zD,bNo,zB],
   yc (textOf ns (zq n bOp)) && !((qK ns (zq n zB)).getD []).all qF⟩
structure Vv where
 cs:List qg
 sh:Bool
 pt:Bool
def ym(ns:List Node)(ks:List Nat):List qg:=ks.map λk=>match ns[k]? with
 | some n=>kI ns n
 | none=>yf
def Ql(ns:List Node)(k:Int):Vv:=
 if k<0 then ⟨[],false,false⟩
 else match ns[k.toNat]? with
  | none=>⟨[],true,false⟩
  | some n=>if n.kind≠2\/5<n.kids.length then ⟨[],true,false⟩ else ⟨ym ns n.kids,(ym ns n.kids).any qg.sh,(ym ns n.kids).any qg.pt⟩
theorem mD(N:Nat):∀(a:List BY) (ks:List Nat) (name:BY),(∀k ∈ ks,k<N) -> -1<=jB a ks name/\jB a ks name<(N:Int)
 | [],ks,name,_=>by simp[jB];omega
 | s::a,[],name,_=>by simp[jB];omega
 | s::a,k::ks,name,h=>by
  unfold jB
  split
  ·have:=h k (by simp);omega
  ·exact mD N a ks name (λj b=>h j (by simp[b]))
theorem jC{ns:List Node}(a:Ev ns){i:Nat}{n:Node}(hi:ns[i]?=some n)(name:BY):-1<=zq n name/\zq n name<(ns.length:Int):=
 mD ns.length n.names n.kids name (a i n hi).1
theorem oh{ns:List Node}{k:Int}(b:0<=k)(c:k<(ns.length:Int)):∃(j:Nat) (x:Node),k=(j:Int)/\ns[j]?=some x/\kindOf ns k=x.kind/\textOf ns k=x.text:=by
 obtain⟨j,rfl⟩:∃j:Nat,k=(j:Int):=⟨k.toNat,by omega⟩;have a:j<ns.length:=by omega
 refine⟨j,ns[j],rfl,zn a,?_,?_⟩
 ·unfold kindOf;rw[show ((j:Int)).toNat=j by simp,zn a]
 ·unfold textOf;rw[show ((j:Int)).toNat=j by simp,zn a]
def naming(m:zl):Prop:=m.state=3\/m.state=4\/(8<=m.state/\m.named=true)
def NoN(ns:List Node):Prop:=∀(i:Nat) (n:Node),ns[i]?=some n->n.kind≠1->n.names=[]
structure yR (m:zl):Prop where
 non:NoN m.nodes
 top:naming m->uf m=1
theorem yR.like{m m':zl}(h:yR m)(b:m'.opn=m.opn)(a:m'.nodes=m.nodes)(c:naming m'->naming m):yR m':=
 ⟨by rw[a];exact h.non,λe=>by have:=h.top (c e);unfold uf at this |-;rw[a,b];exact this⟩
theorem Ul{m:zl}(h:NoN m.nodes)(d:Node)(g:d.names=[]):NoN (lay m d).nodes:=by
 have base:NoN (m.nodes++[d]):=by
  intro i e a b;rw[Z9] at a
  split at a
  ·exact h i e a b
  ·have:=qL a
   simp only[xL] at this;subst this;exact g
 unfold lay
 split
 ·exact base
 ·intro i e a b;obtain⟨c,f,rfl⟩:=Ye _ _ _ _ _ a
  by_cases e:m.opn.getLastD 0=i
  ·rw[zb e] at b |-;exact base i c f b
  ·rw[za e] at b |-;exact base i c f b
theorem lw{m:zl}(h:yR m)(x:Int)(c:(xx m x).1=0):yR (xx m x).2:=by
 unfold xx at c |-
 split at c
 ·simp at c
 split at c
 ·simp at c
 rename_i a b;rw[za a,za b];exact⟨h.non,λe=>by unfold naming at e;simp at e⟩
theorem wO{m:zl}(h:yR m)(x:Int)(f:(after m x).1=0):yR (after m x).2:=by
 unfold after at f |-
 split at f
 ·rename_i a;rw[zb a];exact⟨h.non,λe=>by unfold naming at e;simp at e⟩
 split at f
 ·simp at f
 rename_i a b
 split at f
 ·rename_i c;rw[za a,za b,zb c];exact lw h x f
 split at f
 ·simp at f
 ·rename_i c d;rw[za a,za b,za c,za d]
  by_cases hk:uf m=1
  ·rw[zb hk];exact⟨h.non,λ_=>hk⟩
  ·rw[za hk];exact⟨h.non,λe=>by unfold naming at e;simp at e⟩
theorem IK{m:zl}(d:Node):∃c,(lay m d).nodes[m.nodes.length]?=some c/\c.kind=d.kind:=by
 unfold lay
 split
 ·exact⟨d,by simp,rfl⟩
 ·unfold xV;rw[Zz];simp only[List.getElem?_concat_length];exact⟨_,rfl,by split<;>rfl⟩
theorem AC{m:zl}(h:yR m)(x:Int)(f:(jf m x).1=0):yR (jf m x).2:=by
 unfold jf at f |-
 split at f
 ·rename_i a;rw[zb a]
  split at f
  ·simp at f
  rename_i b;rw[za b];refine⟨Ul (m:={ m with state:=if x=91 then 2 else 3 }) h.non _ rfl,λe=>?_⟩
  unfold naming at e;simp only[J2,IJ] at e
  have g:¬x=91:=by
   intro i;rw[zb i] at e;omega
  obtain⟨c,j,k⟩:=IK (m:={ m with state:=if x=91 then 2 else 3 }) { kind:=if x=91 then 2 else 1,text:=⟨#[]⟩,names:=[],kids:=[] }
  unfold uf;simp only at j;have l:(m.opn++[m.nodes.length]).getLastD 0=m.nodes.length:=by simp
  simp only[l,j,Xg,QD,k];rw[za g]
 rename_i a;rw[za a]
 split at f
 ·rename_i b;rw[zb b];exact⟨h.non,λe=>by unfold naming at e;simp at e⟩
 rename_i b;rw[za b]
 split at f
 ·rename_i c;rw[zb c];exact⟨Ul h.non _ rfl,λe=>by unfold naming at e;simp at e⟩
 rename_i c;rw[za c]
 split at f
 ·rename_i d;rw[zb d];exact⟨Ul h.non _ rfl,λe=>by unfold naming at e;simp at e⟩
 ·simp at f
theorem BL{m:zl}(h:yR m)(l:m.state=8)(f:(closed m).1=0):yR (closed m).2:=by
 unfold closed at f |-
 split at f
 ·rename_i a;rw[zb a];exact⟨Ul h.non _ rfl,λe=>by unfold naming at e;simp at e⟩
 split at f
 ·simp at f
 rename_i a b;rw[za a,za b];have j:m.named=true:=by simpa using a
 have d:=h.top (.inr (.inr ⟨by omega,j⟩));refine⟨?_,λe=>by unfold naming at e;simp at e⟩;intro i e hi g;obtain⟨c,k,rfl⟩:=Ye _ _ _ _ _ hi
 by_cases hoi:m.opn.getLastD 0=i
 ·rw[zb hoi] at g;unfold uf at d;rw[hoi,k] at d;exact absurd d g
 ·rw[za hoi] at g |-;exact h.non i c k g
theorem NI{m:zl}(h:yR m)(g:m.state=8)(x:Int)(f:(plain m x).1=0):yR (plain m x).2:=by
 unfold plain at f |-
 split at f
 ·rename_i a;rw[zb a];exact BL h g f
 rename_i a;rw[za a]
 split at f
 ·rename_i b;rw[zb b];exact h.like rfl rfl (by unfold naming;simp[g])
 rename_i b;rw[za b]
 split at f
 ·simp at f
 rename_i c;rw[za c]
 split at f
 ·rename_i d;rw[zb d];exact h.like rfl rfl (by unfold naming;simp)
 rename_i d;rw[za d]
 split at f
 ·simp at f
 ·rename_i e;rw[za e];exact h.like rfl rfl (by unfold naming;simp[g])
theorem EI{m:zl}(h:yR m)(e:m.state=10)(x:Int)(f:(escape m x).1=0):yR (escape m x).2:=by
 unfold escape at f |-
 split at f
 ·rename_i a;rw[zb a];exact h.like rfl rfl (by unfold naming;simp[e])
 rename_i a;rw[za a]
 split at f
 ·rename_i b;rw[zb b];exact h.like rfl rfl (by unfold naming;simp[e])
 rename_i b;rw[za b]
 split at f
 ·rename_i c;rw[zb c];exact h.like rfl rfl (by unfold naming;simp[e])
 rename_i c;rw[za c]
 split at f
 ·rename_i d;rw[zb d];exact h.like rfl rfl (by unfold naming;simp[e])
 ·simp at f
theorem Dh{m:zl}(h:yR m)(e:m.state=11)(x:Int)(d:(digit m x).1=0):yR (digit m x).2:=by
 unfold digit at d |-
 split at d
 ·simp at d
 rename_i a;rw[za a]
 split at d
 ·simp at d
 rename_i b;rw[za b]
 split at d
 ·rename_i c;rw[zb c];exact h.like rfl rfl (by unfold naming;simp[e])
 ·rename_i c;rw[za c];exact h.like rfl rfl (by unfold naming;simp)
theorem PZ{m:zl}(h:yR m)(g:Wf m)(x:Int)(f:(step m x).1=0):yR (step m x).2:=by
 by_cases h8:m.state=8
 ·rw[Q6 m x h8] at f |-;exact NI h h8 x f
 by_cases h9:m.state=9
 ·rw[Yl m x h9] at f |-
  split at f
  ·simp at f
  ·rename_i a;rw[za a]
   by_cases hz:m.need-1=0
   ·rw[zb hz];exact h.like rfl rfl (by unfold naming;simp[h9])
   ·rw[za hz];exact h.like rfl rfl (by unfold naming;simp[h9])
 by_cases h10:m.state=10
 ·rw[Y9 m x h10] at f |-;exact EI h h10 x f
 by_cases h11:m.state=11
 ·rw[Ja m x h11] at f |-;exact Dh h h11 x f
 by_cases h7:m.state=7
 ·rw[Jb m x h7] at f |-
  split at f
  ·simp at f
  ·rename_i a;rw[za a]
   by_cases hz:m.word.size=1
   ·rw[zb hz];exact⟨h.non,λe=>by unfold naming at e;simp at e⟩
   ·rw[za hz];exact⟨h.non,λe=>by unfold naming at e;simp at e⟩
 have j:=g.lo;have i:=g.hi;rw[Q7 m x (by omega)] at f |-
 split at f
 ·rename_i a;rw[zb a];exact h
 rename_i a;rw[za a]
 split at f
 ·rename_i b;rw[zb b];exact wO h x f
 rename_i b;rw[za b]
 split at f
 ·rename_i c;rw[zb c];exact lw h x f
 rename_i c;rw[za c]
 split at f
 ·rename_i d;rw[zb d]
  split at f
  ·simp at f
  ·rename_i e;rw[za e];exact h.like rfl rfl (λ_=>by unfold naming;omega)
 ·rename_i d;rw[za d];exact AC h x f
theorem Gu:yR init:=⟨λi n hi=>by simp[init] at hi,λe=>by unfold naming at e;simp[init] at e⟩
theorem rR:∀(l:List UInt8) (m:zl) (p:Nat),yR m->Wf m->(run m l p).1=0->yR (run m l p).2.2
 | [],_,_,h,_,_=>h
 | c::r,m,p,h,hw,he=>by
  unfold run at he |-
  by_cases hs:(step m (c.toNat:Int)).1=0
  ·rw[zb hs] at he |-;exact rR r _ _ (PZ h hw _ hs) (dI hw _ hs) he
  ·rw[za hs] at he;exact absurd he hs
end Ref
end Go.Proofs.YtagnlbgbnfnapaaGreatDoor
