/- P -/
import Derived.Test.YtdakgnaojakldaaGreatDoorK01
set_option maxRecDepth 100000
namespace Go.Proofs.YtdakgnaojakldaaGreatDoor
namespace Ref
structure Node where
 kind:Int
 text:BY
 names:List BY
 kids:List Nat
structure zk where
 state:Int
 opn:List Nat
 nodes:List Node
 named:Bool
 got:BY
 need:Int
 low:Int
 high:Int
 number:Int
 word:BY
 root:Int
def QJ(b:Int):Bool:=decide (b=32\/b=9\/b=10\/b=13)
def zJ(b:Int):Int:=
 if 48<=b/\b<=57 then b-48 else if 97<=b/\b<=102 then b-97+10 else if 65<=b/\b<=70 then b-65+10 else -1
def one(b:Int):BY:=⟨#[UInt8.ofNat b.toNat]⟩
def enc(n:Int):BY:=
 if n<128 then one n else if n<2048 then ⟨#[UInt8.ofNat (192+n / 64).toNat,UInt8.ofNat (128+n % 64).toNat]⟩
 else ⟨#[UInt8.ofNat (224+n / 4096).toNat,UInt8.ofNat (128+n / 64 % 64).toNat,UInt8.ofNat (128+n % 64).toNat]⟩
def xU(o k:Nat)(l:List Node):List Node:=l.modify o λn=>{ n with kids:=n.kids++[k] }
def yg(o:Nat)(s:BY)(l:List Node):List Node:=l.modify o λn=>{ n with names:=n.names++[s] }
def lay(m:zk)(n:Node):zk:=
 if m.opn=[] then { m with nodes:=m.nodes++[n],root:=m.nodes.length } else { m with nodes:=xU (m.opn.getLastD 0) m.nodes.length (m.nodes++[n]) }
def vY(m:zk):Int:=((m.nodes[m.opn.getLastD 0]?).map Node.kind).getD 0
def ja(m:zk)(b:Int):Int×zk:=
 if b=123\/b=91 then
  if 8<=m.opn.length then (3,m)
  else
   let m1:=lay { m with state:=if b=91 then 2 else 3 } { kind:=if b=91 then 2 else 1,text:=⟨#[]⟩,names:=[],kids:=[] }
   (0,{ m1 with opn:=m.opn++[m.nodes.length] })
 else if b=34 then (0,{ m with state:=8,named:=false,got:=⟨#[]⟩ })
 else if b=116 then (0,{ lay m { kind:=4,text:=⟨#[]⟩,names:=[],kids:=[] } with state:=7,word:=⟨#[114,117,101]⟩ })
 else if b=102 then (0,{ lay m { kind:=5,text:=⟨#[]⟩,names:=[],kids:=[] } with state:=7,word:=⟨#[97,108,115,101]⟩ })
 else (2,m)
def xq(m:zk)(b:Int):Int×zk:=
 if m.opn=[] then (2,m) else if (vY m==1) != (b==125) then (2,m) else (0,{ m with opn:=m.opn.dropLast,state:=6 })
def after(m:zk)(b:Int):Int×zk:=
 if m.state=5/\b=58 then (0,{ m with state:=1 })
 else if m.state=5\/m.opn=[] then (2,m)
 else if b=125\/b=93 then xq m b
 else if b≠44 then (2,m)
 else (0,{ m with state:=if vY m=1 then 4 else 1 })
def Vg(m:zk):List BY:=((m.nodes[m.opn.getLastD 0]?).map Node.names).getD []
def closed(m:zk):Int×zk:=
 if m.named=false then (0,{ lay m { kind:=3,text:=m.got,names:=[],kids:=[] } with state:=6 })
 else if (Vg m).any (λs=>s.toList==m.got.toList) then (4,m)
 else (0,{ m with nodes:=yg (m.opn.getLastD 0) m.got m.nodes,state:=5 })
def plain(m:zk)(b:Int):Int×zk:=
 if b=34 then closed m
 else if b=92 then (0,{ m with state:=10 })
 else if b<32 then (2,m)
 else if b<128 then (0,{ m with got:=m.got++one b })
 else if (zT b).1=0 then (2,m)
 else (0,{ m with need:=(zT b).1,low:=(zT b).2.1,high:=(zT b).2.2,got:=m.got++one b,state:=9 })
def escape(m:zk)(b:Int):Int×zk:=
 if b=34\/b=92\/b=47 then (0,{ m with state:=8,got:=m.got++one b })
 else if b=110 then (0,{ m with state:=8,got:=m.got++one 10 })
 else if b=116 then (0,{ m with state:=8,got:=m.got++one 9 })
 else if b=117 then (0,{ m with state:=11,need:=4,number:=0 })
 else (2,m)
def digit(m:zk)(b:Int):Int×zk:=
 if zJ b<0 then (2,m)
 else if m.need-1=2/\216<=16*m.number+zJ b/\16*m.number+zJ b<=223 then (2,m)
 else if m.need-1=0 then (0,{ m with number:=16*m.number+zJ b,need:=m.need-1,got:=m.got++enc (16*m.number+zJ b),state:=8 })
 else (0,{ m with number:=16*m.number+zJ b,need:=m.need-1 })
def step(m:zk)(b:Int):Int×zk:=
 if m.state=8 then plain m b
 else if m.state=9 then
  if b<m.low\/m.high<b then (2,m) else (0,{ m with got:=m.got++one b,low:=128,high:=191,need:=m.need-1,state:=if m.need-1=0 then 8 else m.state })
 else if m.state=10 then escape m b
 else if m.state=11 then digit m b
 else if m.state=7 then
  if b≠((m.word.data.toList.getD 0 0).toNat:Int) then (2,m) else (0,{ m with word:=m.word.extract 1 m.word.size,state:=if m.word.size=1 then 6 else m.state })
 else if QJ b then (0,m)
 else if m.state=6\/m.state=5 then after m b
 else if (m.state=2/\b=93)\/(m.state=3/\b=125) then xq m b
 else if m.state=3\/m.state=4 then (if b≠34 then (2,m) else (0,{ m with state:=8,named:=true,got:=⟨#[]⟩ }))
 else ja m b
theorem Xx(l:List BY)(j:Nat)(h:j<l.length):(strCells l)[j]?=some (.string l[j]):=by
 simp[strCells,h]
theorem QZ(m:zk)(x:Int)(h:m.state=8):step m x=plain m x:=by unfold step;rw[zb h]
theorem Yh(m:zk)(x:Int)(h:m.state=9):step m x=if x<m.low\/m.high<x then (2,m) else (0,{ m with got:=m.got++one x,low:=128,high:=191,need:=m.need-1,state:=if m.need-1=0 then 8 else 9 }):=by
 unfold step;rw[za (by omega),zb h,h]
theorem Y4(m:zk)(x:Int)(h:m.state=10):step m x=escape m x:=by unfold step;rw[za (by omega),za (by omega),zb h]
theorem Y5(m:zk)(x:Int)(h:m.state=11):step m x=digit m x:=by unfold step;rw[za (by omega),za (by omega),za (by omega),zb h]
theorem Y6(m:zk)(x:Int)(h:m.state=7):step m x=if x≠((m.word.data.toList.getD 0 0).toNat:Int) then (2,m) else (0,{ m with word:=m.word.extract 1 m.word.size,state:=if m.word.size=1 then 6 else 7 }):=by
 unfold step;rw[za (by omega),za (by omega),za (by omega),za (by omega),zb h,h]
theorem Q0(m:zk)(x:Int)(h:m.state<7):step m x=if QJ x then (0,m)
 else if m.state=6\/m.state=5 then after m x
 else if (m.state=2/\x=93)\/(m.state=3/\x=125) then xq m x
 else if m.state=3\/m.state=4 then (if x≠34 then (2,m) else (0,{ m with state:=8,named:=true,got:=⟨#[]⟩ }))
 else ja m x:=by
 unfold step;rw[za (by omega),za (by omega),za (by omega),za (by omega),za (by omega)]
structure Wf (m:zk):Prop where
 lo:1<=m.state
 hi:m.state<=11
 named:8<=m.state->m.named=true->m.opn≠[]
 word:m.state=7->1<=m.word.size
 need9:m.state=9->1<=m.need/\m.need<=3/\0<=m.low/\m.low<=255/\0<=m.high/\m.high<=255
 need11:m.state=11->1<=m.need/\m.need<=4/\0<=m.number/\m.number<=4095/\(m.need=4->m.number=0)/\(m.need=3->m.number<=15)/\(m.need=2->m.number<=255)
 opens:3<=m.state->m.state<=5->m.opn≠[]
 small:m.word.size<=10
structure Bnd (n:Nat) (m:zk):Prop where
 nodes:m.nodes.length<=n
 opn:m.opn.length<=n
 kids:∀(i:Nat) (d:Node),m.nodes[i]?=some d->d.kids.length<=n/\d.names.length<=n
 got:m.got.size<=3*n
 top:∀o ∈ m.opn,o<m.nodes.length
theorem Bnd.like{n:Nat}{m m':zk}(h:Bnd n m)(b:m'.opn=m.opn)(a:m'.nodes=m.nodes)(c:m'.got.size<=3*n):Bnd n m':=
 ⟨by rw[a];exact h.nodes,by rw[b];exact h.opn,by rw[a];exact h.kids,c,by rw[b,a];exact h.top⟩
theorem Bnd.succ{n:Nat}{m m':zk}(h:Bnd n m)(b:m'.opn=m.opn)(a:m'.nodes=m.nodes)(j:m'.got.size<=m.got.size+3):Bnd (n+1) m':=by
 have e:=h.nodes;have f:=h.opn;have g:=h.got;exact⟨by rw[a];omega,by rw[b];omega,by rw[a];intro i d c;have:=h.kids i d c;omega,by omega,by rw[b,a];exact h.top⟩
theorem aX{α:Type}(l:List α)(f:α->α)(o i:Nat)(d:α)(h:(l.modify o f)[i]?=some d):l[i]?=some d\/∃c,l[i]?=some c/\d=f c:=by
 rw[Zx] at h
 by_cases e:o=i
 ·subst e;simp only[xu] at h
  cases hc:l[o]? with
  | none=>rw[hc] at h;simp at h
  | some c=>rw[hc] at h;simp at h;exact .inr ⟨c,rfl,h.symm⟩
 ·simp[e] at h;exact .inl h
theorem Ua{n:Nat}{m:zk}(h:Bnd n m)(d:Node)(f:d.names=[])(g:d.kids=[]):Bnd (n+1) (lay m d):=by
 have j:=h.nodes;have k:=h.opn;have l:=h.got
 have base:∀(i:Nat) (e:Node),(m.nodes++[d])[i]?=some e->e.kids.length<=n/\e.names.length<=n:=by
  intro i e a;rw[Z5] at a
  split at a
  ·exact h.kids i e a
  ·have:=qJ a
   simp only[xK] at this;subst this;rw[f,g];simp
 unfold lay
 split
 ·refine⟨by simp;omega,by simp only;omega,?_,by simp only;omega,?_⟩
  ·intro i e a
   have:=base i e a
   omega
  ·intro o b
   have:=h.top o b
   simp;omega
 ·refine⟨by simp[xU];omega,by simp only;omega,?_,by simp only;omega,?_⟩
  ·intro i e a
   rcases aX _ _ _ _ _ a with hc|⟨c,hc,rfl⟩
   ·have:=base i e hc;omega
   ·have:=base i c hc;simp;omega
  ·intro o b
   have:=h.top o b
   simp[xU];omega
theorem mo(m:zk)(d:Node):(lay m d).opn=m.opn:=by unfold lay;split<;>rfl
theorem Ii(m:zk)(d:Node):(lay m d).nodes.length=m.nodes.length+1:=by unfold lay;split<;>simp[xU]
theorem Ij(m:zk)(d:Node):(lay m d).named=m.named:=by unfold lay;split<;>rfl
theorem JS(m:zk)(d:Node):(lay m d).state=m.state:=by unfold lay;split<;>rfl
theorem mr(m:zk)(d:Node):(lay m d).word=m.word:=by unfold lay;split<;>rfl
theorem iH{n:Nat}{m:zk}(h:Bnd n m)(x:Int)(c:(xq m x).1=0):Bnd (n+1) (xq m x).2:=by
 have g:=h.nodes;have j:=h.opn;have k:=h.got;unfold xq at c |-
 split at c
 ·simp at c
 split at c
 ·simp at c
 rename_i a b;rw[za a,za b];refine⟨by simp only;omega,by simp only[List.length_dropLast];omega,λi d e=>by have:=h.kids i d e;omega,by simp only;omega,λo f=>h.top o (List.dropLast_subset _ f)⟩
theorem ZQ(x:Int):(one x).size=1:=rfl
theorem KZ(x:Int):(enc x).size<=3:=by unfold enc one;split<;>(try split)<;>simp[ByteArray.size]
theorem tF{n:Nat}{m:zk}(h:Bnd n m)(x:Int)(e:(after m x).1=0):Bnd (n+1) (after m x).2:=by
 unfold after at e |-
 split at e
 ·rename_i a;rw[zb a];exact h.succ rfl rfl (by simp)
 split at e
 ·simp at e
 split at e
 ·rename_i a b c;rw[za a,za b,zb c];exact iH h x e
 split at e
 ·simp at e
 ·rename_i a b c d;rw[za a,za b,za c,za d];exact h.succ rfl rfl (by simp)
theorem Ac{n:Nat}{m:zk}(h:Bnd n m)(x:Int)(f:(ja m x).1=0):Bnd (n+1) (ja m x).2:=by
 have i:=h.opn;unfold ja at f |-
 split at f
 ·rename_i a;rw[zb a]
  split at f
  ·simp at f
  rename_i b;rw[za b];have e:=Ua (m:={ m with state:=if x=91 then 2 else 3 }) (h.like rfl rfl h.got) { kind:=if x=91 then 2 else 1,text:=⟨#[]⟩,names:=[],kids:=[] } rfl rfl
  refine⟨e.nodes,by simp;omega,e.kids,e.got,?_⟩;intro o g;simp only[jq,xK] at g;rw[Ii]
  rcases g with g|rfl
  ·have:=h.top o g;simp only;omega
  ·simp
 rename_i a;rw[za a]
 split at f
 ·rename_i b;rw[zb b];exact h.succ rfl rfl (zD _)
 rename_i b;rw[za b]
 split at f
 ·rename_i c;rw[zb c];have e:=Ua h { kind:=4,text:=⟨#[]⟩,names:=[],kids:=[] } rfl rfl;exact e.like rfl rfl e.got
 rename_i c;rw[za c]
 split at f
 ·rename_i d;rw[zb d];have e:=Ua h { kind:=5,text:=⟨#[]⟩,names:=[],kids:=[] } rfl rfl;exact e.like rfl rfl e.got
 ·simp at f
theorem Bj{n:Nat}{m:zk}(h:Bnd n m)(d:(closed m).1=0):Bnd (n+1) (closed m).2:=by
 unfold closed at d |-
 split at d
 ·rename_i a;rw[zb a];have f:=Ua h { kind:=3,text:=m.got,names:=[],kids:=[] } rfl rfl;exact f.like rfl rfl f.got
 split at d
 ·simp at d
 rename_i a b;rw[za a,za b];have k:=h.nodes;have l:=h.opn;have p:=h.got;refine⟨by simp[yg];omega,by simp only;omega,?_,by simp only;omega,?_⟩
 ·intro i e g
  rcases aX _ _ _ _ _ g with hc|⟨c,hc,rfl⟩
  ·have:=h.kids i e hc;omega
  ·have:=h.kids i c hc;simp;omega
 ·intro o j
  have:=h.top o j
  simp[yg];omega
theorem Nh{n:Nat}{m:zk}(h:Bnd n m)(x:Int)(f:(plain m x).1=0):Bnd (n+1) (plain m x).2:=by
 unfold plain at f |-
 split at f
 ·rename_i a;rw[zb a];exact Bj h f
 rename_i a;rw[za a]
 split at f
 ·rename_i b;rw[zb b];exact h.succ rfl rfl (by simp)
 rename_i b;rw[za b]
 split at f
 ·simp at f
 rename_i c;rw[za c]
 split at f
 ·rename_i d;rw[zb d];exact h.succ rfl rfl (by simp[ByteArray.size_append,ZQ])
 rename_i d;rw[za d]
 split at f
 ·simp at f
 ·rename_i e;rw[za e];exact h.succ rfl rfl (by simp[ByteArray.size_append,ZQ])
theorem Eh{n:Nat}{m:zk}(h:Bnd n m)(x:Int)(e:(escape m x).1=0):Bnd (n+1) (escape m x).2:=by
 unfold escape at e |-
 split at e
 ·rename_i a;rw[zb a];exact h.succ rfl rfl (by simp[ByteArray.size_append,ZQ])
 rename_i a;rw[za a]
 split at e
 ·rename_i b;rw[zb b];exact h.succ rfl rfl (by simp[ByteArray.size_append,ZQ])
 rename_i b;rw[za b]
 split at e
 ·rename_i c;rw[zb c];exact h.succ rfl rfl (by simp[ByteArray.size_append,ZQ])
 rename_i c;rw[za c]
 split at e
 ·rename_i d;rw[zb d];exact h.succ rfl rfl (by simp)
 ·simp at e
theorem Cq{n:Nat}{m:zk}(h:Bnd n m)(x:Int)(d:(digit m x).1=0):Bnd (n+1) (digit m x).2:=by
 unfold digit at d |-
 split at d
 ·simp at d
 rename_i a;rw[za a]
 split at d
 ·simp at d
 rename_i b;rw[za b]
 split at d
 ·rename_i c;rw[zb c];exact h.succ rfl rfl (by have:=KZ (16*m.number+zJ x);simp[ByteArray.size_append];omega)
 ·rename_i c;rw[za c];exact h.succ rfl rfl (by simp)
theorem dh{n:Nat}{m:zk}(h:Bnd n m)(x:Int)(f:(step m x).1=0):Bnd (n+1) (step m x).2:=by
 by_cases h8:m.state=8
 ·rw[QZ m x h8] at f |-;exact Nh h x f
 by_cases h9:m.state=9
 ·rw[Yh m x h9] at f |-
  split at f
  ·simp at f
  ·rename_i a;rw[za a];exact h.succ rfl rfl (by simp[ByteArray.size_append,ZQ])
 by_cases h10:m.state=10
 ·rw[Y4 m x h10] at f |-;exact Eh h x f
 by_cases h11:m.state=11
 ·rw[Y5 m x h11] at f |-;exact Cq h x f
 by_cases h7:m.state=7
 ·rw[Y6 m x h7] at f |-
  split at f
  ·simp at f
  ·rename_i a;rw[za a];exact h.succ rfl rfl (by simp)
 unfold step at f |-;rw[za h8,za h9,za h10,za h11,za h7] at f |-
 split at f
 ·rename_i a;rw[zb a];exact h.succ rfl rfl (by simp)
 rename_i a;rw[za a]
 split at f
 ·rename_i b;rw[zb b];exact tF h x f
 rename_i b;rw[za b]
 split at f
 ·rename_i c;rw[zb c];exact iH h x f
 rename_i c;rw[za c]
 split at f
 ·rename_i d;rw[zb d]
  split at f
  ·simp at f
  ·rename_i e;rw[za e];exact h.succ rfl rfl (zD _)
 ·rename_i d;rw[za d];exact Ac h x f
def init:zk:={ state:=1,opn:=[],nodes:=[],named:=false,got:=⟨#[]⟩,need:=0,low:=0,high:=0,number:=0,word:=⟨#[]⟩,root:=0 }
theorem iN{m:zk}(h:Wf m)(x:Int)(c:(xq m x).1=0):Wf (xq m x).2:=by
 unfold xq at c |-
 split at c
 ·simp at c
 split at c
 ·simp at c
 rename_i a b;rw[za a,za b];exact⟨by simp,by simp,by simp,by simp,by simp,by simp,by simp,h.small⟩
theorem tN{m:zk}(h:Wf m)(x:Int)(f:(after m x).1=0):Wf (after m x).2:=by
 unfold after at f |-
 split at f
 ·rename_i a;rw[zb a];exact⟨by simp,by simp,by simp,by simp,by simp,by simp,by simp,h.small⟩
 split at f
 ·simp at f
 split at f
 ·rename_i a b c;rw[za a,za b,zb c];exact iN h x f
 split at f
 ·simp at f
 ·rename_i a b c d;rw[za a,za b,za c,za d];have g:m.opn≠[]:=λe=>b (.inr e)
  by_cases hk:vY m=1
  ·rw[zb hk];exact⟨by simp,by simp,by simp,by simp,by simp,by simp,λ_ _=>g,h.small⟩
  ·rw[za hk];exact⟨by simp,by simp,by simp,by simp,by simp,by simp,by simp,h.small⟩
theorem Ag{m:zk}(h:Wf m)(x:Int)(f:(ja m x).1=0):Wf (ja m x).2:=by
 unfold ja at f |-
 split at f
 ·rename_i a;rw[zb a]
  split at f
  ·simp at f
  rename_i b;rw[za b];have e:∀(d:Node),(lay { m with state:=if x=91 then 2 else 3 } d).state=if x=91 then 2 else 3:=λd=>JS _ d
  have i:(if x=91 then (2:Int) else 3)=2\/(if x=91 then (2:Int) else 3)=3:=by split<;>simp
  refine⟨?_,?_,?_,?_,?_,?_,?_,?_⟩
  ·simp only[e];omega
  ·simp only[e];omega
  ·simp only[e];intro k;omega
  ·simp only[e];intro j;omega
  ·simp only[e];intro l;omega
  ·simp only[e];intro g;omega
  ·intro _ _;simp
  ·simp only[mr];exact h.small
 rename_i a;rw[za a]
 split at f
 ·rename_i b;rw[zb b];exact⟨by simp,by simp,by simp,by simp,by simp,by simp,by simp,h.small⟩
 rename_i b;rw[za b]
 split at f
 ·rename_i c;rw[zb c];exact⟨by simp,by simp,by simp,λ_=>by show 1<=3;omega,by simp,by simp,by simp,by show 3<=10;omega⟩
 rename_i c;rw[za c]
 split at f
 ·rename_i d;rw[zb d];exact⟨by simp,by simp,by simp,λ_=>by show 1<=4;omega,by simp,by simp,by simp,by show 4<=10;omega⟩
 ·simp at f
theorem Bp{m:zk}(h:Wf m)(e:m.state=8)(c:(closed m).1=0):Wf (closed m).2:=by
 unfold closed at c |-
 split at c
 ·rename_i a;rw[zb a];exact⟨by simp,by simp,by simp,by simp,by simp,by simp,by simp,by simp only[mr];exact h.small⟩
 split at c
 ·simp at c
 rename_i a b;rw[za a,za b];have d:=h.named (by omega) (by simpa using a);exact⟨by simp,by simp,by simp,by simp,by simp,by simp,λ_ _=>d,h.small⟩
theorem Nn{m:zk}(h:Wf m)(i:m.state=8)(x:Int)(f:(plain m x).1=0):Wf (plain m x).2:=by
 have g:=h.named (by omega);unfold plain at f |-
 split at f
 ·rename_i a;rw[zb a];exact Bp h i f
 rename_i a;rw[za a]
 split at f
 ·rename_i b;rw[zb b];exact⟨by simp,by simp,λ_=>g,by simp,by simp,by simp,by simp,h.small⟩
 rename_i b;rw[za b]
 split at f
 ·simp at f
 rename_i c;rw[za c]
 split at f
 ·rename_i d;rw[zb d];exact⟨h.lo,h.hi,λ_=>g,h.word,h.need9,h.need11,h.opens,h.small⟩
 rename_i d;rw[za d]
 split at f
 ·simp at f
 ·rename_i e;rw[za e];have hb:=aR x;exact⟨by simp,by simp,λ_=>g,by simp,λ_=>by simp only;omega,by simp,by simp,h.small⟩
theorem Em{m:zk}(h:Wf m)(g:m.state=10)(x:Int)(f:(escape m x).1=0):Wf (escape m x).2:=by
 have e:=h.named (by omega);unfold escape at f |-
 split at f
 ·rename_i a;rw[zb a];exact⟨by simp,by simp,λ_=>e,by simp,by simp,by simp,by simp,h.small⟩
 rename_i a;rw[za a]
 split at f
 ·rename_i b;rw[zb b];exact⟨by simp,by simp,λ_=>e,by simp,by simp,by simp,by simp,h.small⟩
 rename_i b;rw[za b]
 split at f
 ·rename_i c;rw[zb c];exact⟨by simp,by simp,λ_=>e,by simp,by simp,by simp,by simp,h.small⟩
 rename_i c;rw[za c]
 split at f
 ·rename_i d;rw[zb d];exact⟨by simp,by simp,λ_=>e,by simp,by simp,λ_=>by simp,by simp,h.small⟩
 ·simp at f
theorem Cu{m:zk}(h:Wf m)(i:m.state=11)(x:Int)(f:(digit m x).1=0):Wf (digit m x).2:=by
 have g:=h.named (by omega);obtain⟨o,p,q,r,j,k,l⟩:=h.need11 i
 have n:-1<=zJ x/\zJ x<=15:=by
  unfold zJ
  split
  ·omega
  split
  ·omega
  split
  ·omega
  ·omega
 unfold digit at f |-
 split at f
 ·simp at f
 rename_i a;rw[za a]
 split at f
 ·simp at f
 rename_i b;rw[za b]
 split at f
 ·rename_i c;rw[zb c];exact⟨by simp,by simp,λ_=>g,by simp,by simp,by simp,by simp,h.small⟩
 ·rename_i c;rw[za c];have d:m.need=2\/m.need=3\/m.need=4:=by omega
  refine⟨h.lo,h.hi,λ_=>g,by simp only;omega,by simp only;omega,?_,by simp only;omega,h.small⟩;intro _;simp only
  rcases d with e|e|e
  ·have:=l e;omega
  ·have:=k e;omega
  ·have:=j e;omega
theorem dm{m:zk}(h:Wf m)(x:Int)(f:(step m x).1=0):Wf (step m x).2:=by
 by_cases h8:m.state=8
 ·rw[QZ m x h8] at f |-;exact Nn h h8 x f
 by_cases h9:m.state=9
 ·have i:=h.named (by omega);have n:=h.need9 h9;rw[Yh m x h9] at f |-
  split at f
  ·simp at f
  ·rename_i a;rw[za a]
   by_cases hz:m.need-1=0
   ·rw[zb hz];exact⟨by simp,by simp,λ_=>i,by simp,by simp,by simp,by simp,h.small⟩
   ·rw[za hz];exact⟨by simp,by simp,λ_=>i,by simp,λ_=>by simp only;omega,by simp,by simp,h.small⟩
 by_cases h10:m.state=10
 ·rw[Y4 m x h10] at f |-;exact Em h h10 x f
 by_cases h11:m.state=11
 ·rw[Y5 m x h11] at f |-;exact Cu h h11 x f
 by_cases h7:m.state=7
 ·have p:=h.word h7;have o:=h.small;rw[Y6 m x h7] at f |-
  split at f
  ·simp at f
  ·rename_i a;rw[za a];have g:(m.word.extract 1 m.word.size).size=m.word.size-1:=by rw[jF];omega
   by_cases hz:m.word.size=1
   ·rw[zb hz];exact⟨by simp,by simp,by simp,by simp,by simp,by simp,by simp,by simp only[g];omega⟩
   ·rw[za hz];exact⟨by simp,by simp,by simp,λ_=>by simp only[g];omega,by simp,by simp,by simp,by simp only[g];omega⟩
 have l:=h.lo;have k:=h.hi;rw[Q0 m x (by omega)] at f |-
 split at f
 ·rename_i a;rw[zb a];exact h
 rename_i a;rw[za a]
 split at f
 ·rename_i b;rw[zb b];exact tN h x f
 rename_i b;rw[za b]
 split at f
 ·rename_i c;rw[zb c];exact iN h x f
 rename_i c;rw[za c]
 split at f
 ·rename_i d;rw[zb d]
  split at f
  ·simp at f
  ·rename_i e;rw[za e];have j:=h.opens (by omega) (by omega);exact⟨by simp,by simp,λ_ _=>j,by simp,by simp,by simp,by simp,h.small⟩
 ·rename_i d;rw[za d];exact Ag h x f
def run:zk->List UInt8->Nat->Int×Nat×zk
 | m,[],p=>(0,p,m)
 | m,c::r,p=>if (step m (c.toNat:Int)).1=0 then run (step m (c.toNat:Int)).2 r (p+1) else ((step m (c.toNat:Int)).1,p,m)
def pend(m:zk):Prop:=m.state=5\/m.state=1\/(8<=m.state/\m.named=false)
def asks(m:zk):Prop:=(2<=m.state/\m.state<=7)\/(8<=m.state/\m.named=true)
def Vh(m:zk):Prop:=∀(i:Nat) (n:Node),m.opn.getLast?=some i->m.nodes[i]?=some n->n.kind≠1
def Ev(ns:List Node):Prop:=∀(i:Nat) (n:Node),ns[i]?=some n->(∀k ∈ n.kids,k<ns.length)/\(n.kind=1->n.names.length=n.kids.length)
structure Tree (m:zk):Prop where
 kids:∀(i:Nat) (n:Node),m.nodes[i]?=some n->∀k ∈ n.kids,k<m.nodes.length
 even:∀(i:Nat) (n:Node),m.nodes[i]?=some n->¬(pend m/\m.opn.getLast?=some i)->n.kind=1->n.names.length=n.kids.length
 odd:∀(i:Nat) (n:Node),m.nodes[i]?=some n->pend m->m.opn.getLast?=some i->n.kind=1->n.names.length=n.kids.length+1
 two:m.state=2->Vh m
 full:asks m->m.nodes≠[]
 root0:0<=m.root
 root:m.nodes≠[]->m.root<(m.nodes.length:Int)
theorem Tree.like{m m':zk}(h:Tree m)(b:m'.opn=m.opn)(a:m'.nodes=m.nodes)(d:m'.root=m.root)(c:pend m'↔pend m)(f:m'.state=2->m.state=2)(g:asks m'->asks m):Tree m':=by
 refine⟨by rw[a];exact h.kids,by rw[a,b,c];exact h.even,by rw[a,b,c];exact h.odd,λe=>?_,λe=>by rw[a];exact h.full (g e),by rw[d];exact h.root0,by rw[a,d];exact h.root⟩
 have:=h.two (f e)
 unfold Vh at this |-;rw[b,a];exact this
theorem Tree.ev{m:zk}(h:Tree m)(a:¬pend m):Ev m.nodes:=λi n hi=>⟨h.kids i n hi,h.even i n hi (λe=>a e.1)⟩
theorem Tree.of{m:zk}(h:Ev m.nodes)(d:¬pend m)(b:m.state=2->Vh m)(c:m.nodes≠[])(a:0<=m.root)(f:m.root<(m.nodes.length:Int)):Tree m:=
 ⟨λi n hi=>(h i n hi).1,λi n hi _=>(h i n hi).2,λ_ _ _ e=>absurd e d,b,λ_=>c,a,λ_=>f⟩
theorem mi{l:List Nat}{o:Nat}(h:l.getLast?=some o):l.getLastD 0=o:=by
 cases l with
 | nil=>simp at h
 | cons a r=>simpa [List.getLastD,List.getLast?] using h
theorem aN{l:List Nat}(h:l≠[]):l.getLast?=some (l.getLastD 0):=by
 cases l with
 | nil=>exact absurd rfl h
 | cons a r=>simp[List.getLastD,List.getLast?]
theorem Ya{α:Type}(l:List α)(f:α->α)(o i:Nat)(d:α)(h:(l.modify o f)[i]?=some d):∃c,l[i]?=some c/\d=if o=i then f c else c:=by
 rw[Zx] at h
 cases hc:l[i]? with
 | none=>rw[hc] at h;simp at h
 | some c=>rw[hc] at h;simp at h;exact⟨c,rfl,h.symm⟩
theorem Ub{m:zk}(h:Tree m)(v:∀o ∈ m.opn,o<m.nodes.length)(r:pend m\/Vh m)(d:Node)(s:d.names=[])(t:d.kids=[]) :
  Ev (lay m d).nodes/\(lay m d).nodes≠[]/\0<=(lay m d).root/\(lay m d).root<((lay m d).nodes.length:Int):=by
 have base:∀(i:Nat) (e:Node),(m.nodes++[d])[i]?=some e->m.nodes[i]?=some e\/(i=m.nodes.length/\e=d):=by
  intro i e b;rw[Z5] at b
  split at b
  ·exact .inl b
  ·rename_i x;have u:=qJ b;simp only[xK] at u
   have:=zP.1 b
   obtain⟨hi,_⟩:=this;simp only[vO] at hi;exact .inr ⟨by omega,u⟩
 have g:=h.root0;have n:=h.root;unfold lay
 by_cases hop:m.opn=[]
 ·rw[zb hop];refine⟨?_,by simp,by simp,by simp;omega⟩;intro i e b
  rcases base i e b with p|⟨_,rfl⟩
  ·refine⟨λk f=>?_,h.even i e p (by rw[hop];simp)⟩
   have:=h.kids i e p k f
   simp;omega
  ·rw[s,t];simp
 ·rw[za hop];refine⟨?_,by simp[xU],g,?_⟩
  ·have a:=aN hop;have j:=v _ (List.mem_of_getLast? a);obtain⟨o,w⟩:=Nm (m.opn.getLastD 0);simp only[w] at a j |-;intro i e b;unfold xU at b |-;obtain⟨c,p,q⟩:=Ya _ _ _ _ _ b;clear b;have b:=q;clear q;simp only[U8,qz,vO]
   ·by_cases hoi:o=i
    ·rw[zb hoi] at b;subst b;simp only[jq,xK,qz,vO]
     rcases base i c p with hb|⟨hb,rfl⟩
     ·refine⟨λk f=>?_,λl=>?_⟩
      ·rcases f with f|rfl
       ·have:=h.kids i c hb k f;omega
       ·omega
      ·rcases r with r|r
       ·exact h.odd i c hb r (by rw[a,hoi]) l
       ·exact absurd l (r i c (by rw[a,hoi]) hb)
     ·omega
    ·rw[za hoi] at b;subst b
     rcases base i e p with hb|⟨hb,rfl⟩
     ·refine⟨λk f=>?_,h.even i e hb (λe=>hoi ?_)⟩
      ·have:=h.kids i e hb k f;omega
      ·have:=e.2;rw[a] at this;simpa using this
     ·rw[s,t];simp
  ·simp[xU];have j:=v _ (List.mem_of_getLast? (aN hop))
   have:=n (λe=>by rw[e] at j;simp at j)
   omega
theorem iL{m:zk}(h:Tree m)(e:¬pend m)(d:asks m)(x:Int)(c:(xq m x).1=0):Tree (xq m x).2:=by
 unfold xq at c |-
 split at c
 ·simp at c
 split at c
 ·simp at c
 rename_i a b;rw[za a,za b];exact Tree.of (h.ev e) (by unfold pend;simp) (by simp) (h.full d) h.root0 (h.root (h.full d))
theorem tJ{m:zk}(h:Tree m)(p:m.state=6\/m.state=5)(x:Int)(f:(after m x).1=0):Tree (after m x).2:=by
 unfold after at f |-
 split at f
 ·rename_i a;rw[zb a];exact h.like rfl rfl rfl (by unfold pend;simp[a.1]) (by simp) (by unfold asks;simp)
 split at f
 ·simp at f
 rename_i a b;have q:m.state=6:=by omega
 split at f
 ·rename_i c;rw[za a,za b,zb c];exact iL h (by unfold pend;omega) (by unfold asks;omega) x f
 split at f
 ·simp at f
 ·rename_i c d;rw[za a,za b,za c,za d];have g:=h.ev (by unfold pend;omega);have k:=h.full (by unfold asks;omega);have o:m.opn≠[]:=λe=>b (.inr e)
  by_cases hk:vY m=1
  ·rw[zb hk];exact Tree.of g (by unfold pend;simp) (by simp) k h.root0 (h.root k)
  ·rw[za hk];refine⟨λi n hi=>(g i n hi).1,λi n hi _=>(g i n hi).2,?_,by simp,by unfold asks;simp,h.root0,h.root⟩;intro i n hi _ l j;unfold vY at hk;rw[mi l,hi] at hk;exact absurd j hk
theorem Ae{m:zk}(h:Tree m)(v:∀o ∈ m.opn,o<m.nodes.length)(p:m.state=1\/m.state=2)(x:Int)(g:(ja m x).1=0):Tree (ja m x).2:=by
 have j:pend m\/Vh m:=by
  rcases p with e|e
  ·exact .inl (.inr (.inl e))
  ·exact .inr (h.two e)
 unfold ja at g |-
 split at g
 ·rename_i a;rw[zb a]
  split at g
  ·simp at g
  rename_i b;rw[za b];have t:∀d,(lay { m with state:=if x=91 then 2 else 3 } d).nodes=(lay m d).nodes:=λd=>by unfold lay;simp only;split<;>rfl
  have w:∀d,(lay { m with state:=if x=91 then 2 else 3 } d).root=(lay m d).root:=λd=>by unfold lay;simp only;split<;>rfl
  have y:∀d,(lay { m with state:=if x=91 then 2 else 3 } d).state=if x=91 then 2 else 3:=λd=>JS _ d
  obtain⟨q,q2,r,s⟩:=Ub h v j { kind:=if x=91 then 2 else 1,text:=⟨#[]⟩,names:=[],kids:=[] } rfl rfl
  refine Tree.of (by simp only[t];exact q) ?_ ?_ (by simp only[t];exact q2) (by simp only[w];exact r) (by simp only[t,w];exact s)
  ·unfold pend;simp only[y]
   split<;>omega
  ·simp only[y];intro A i n hi f;simp only[List.getLast?_append,List.getLast?_singleton,Option.some_or,Option.some.injEq] at hi;subst hi;simp only[t] at f;have u:x=91:=by by_cases e:x=91;exact e;rw[za e] at A;omega
   subst u;simp only[xu] at f;unfold lay at f
   split at f
   ·simp at f;rw[<- f];simp
   ·unfold xU at f;rw[Zx] at f;simp at f;rw[<- f]
    split<;>simp
 rename_i a;rw[za a]
 split at g
 ·rename_i b;rw[zb b]
  rcases p with e|e
  ·exact h.like rfl rfl rfl (by unfold pend;simp[e]) (by simp) (by unfold asks;simp)
  ·have k:=h.ev (by unfold pend;omega);refine⟨λi n hi=>(k i n hi).1,λi n hi _=>(k i n hi).2,?_,by simp,by unfold asks;simp,h.root0,h.root⟩;intro i n hi _ z l;exact absurd l (h.two e i n z hi)
 rename_i b;rw[za b]
 split at g
 ·rename_i c;rw[zb c];obtain⟨q,q2,r,s⟩:=Ub h v j { kind:=4,text:=⟨#[]⟩,names:=[],kids:=[] } rfl rfl;exact Tree.of q (by unfold pend;simp) (by simp) q2 r s
 rename_i c;rw[za c]
 split at g
 ·rename_i d;rw[zb d];obtain⟨q,q2,r,s⟩:=Ub h v j { kind:=5,text:=⟨#[]⟩,names:=[],kids:=[] } rfl rfl;exact Tree.of q (by unfold pend;simp) (by simp) q2 r s
 ·simp at g
theorem Bn{m:zk}(h:Tree m)(w:∀o ∈ m.opn,o<m.nodes.length)(A:m.state=8)(r:m.named=true->m.opn≠[])(q:(closed m).1=0):Tree (closed m).2:=by
 unfold closed at q |-
 split at q
 ·rename_i a;rw[zb a];obtain⟨x,q2,y,z⟩:=Ub h w (.inl (.inr (.inr ⟨by omega,a⟩))) { kind:=3,text:=m.got,names:=[],kids:=[] } rfl rfl;exact Tree.of x (by unfold pend;simp) (by simp) q2 y z
 split at q
 ·simp at q
 rename_i a b;rw[za a,za b];have l:m.named=true:=by simpa using a
 have f:=h.ev (by unfold pend;simp[l];omega);have u:=h.full (.inr ⟨by omega,l⟩);have j:=aN (r l);refine⟨?_,?_,?_,by simp,λ_=>by simpa [yg] using u,h.root0,λ_=>by simpa [yg] using h.root u⟩
 ·intro i n hi k t;simp only[yg,U8]
  rcases aX _ _ _ _ _ hi with g|⟨c,g,rfl⟩
  ·exact (f i n g).1 k t
  ·exact (f i c g).1 k t
 ·intro i n hi s e;obtain⟨c,g,d⟩:=Ya _ _ _ _ _ hi
  by_cases hoi:m.opn.getLastD 0=i
  ·exact absurd ⟨.inl rfl,by simp only;rw[j,hoi]⟩ s
  ·rw[za hoi] at d;subst d;exact (f i _ g).2 e
 ·intro i n hi _ v e;obtain⟨c,g,d⟩:=Ya _ _ _ _ _ hi;have p:=mi v;simp only at p;rw[zb p] at d;subst d
  have:=(f i c g).2 e
  simp;omega
theorem Nk{m:zk}(h:Tree m)(j:∀o ∈ m.opn,o<m.nodes.length)(g:m.state=8)(i:m.named=true->m.opn≠[])(x:Int)(f:(plain m x).1=0):Tree (plain m x).2:=by
 unfold plain at f |-
 split at f
 ·rename_i a;rw[zb a];exact Bn h j g i f
 rename_i a;rw[za a]
 split at f
 ·rename_i b;rw[zb b];exact h.like rfl rfl rfl (by unfold pend;simp[g]) (by simp) (by unfold asks;simp[g])
 rename_i b;rw[za b]
 split at f
 ·simp at f
 rename_i c;rw[za c]
 split at f
 ·rename_i d;rw[zb d];exact h.like rfl rfl rfl (by unfold pend;simp) (by simp) (by unfold asks;simp)
 rename_i d;rw[za d]
 split at f
 ·simp at f
 ·rename_i e;rw[za e];exact h.like rfl rfl rfl (by unfold pend;simp[g]) (by simp) (by unfold asks;simp[g])
theorem Ej{m:zk}(h:Tree m)(e:m.state=10)(x:Int)(f:(escape m x).1=0):Tree (escape m x).2:=by
 unfold escape at f |-
 split at f
 ·rename_i a;rw[zb a];exact h.like rfl rfl rfl (by unfold pend;simp[e]) (by simp) (by unfold asks;simp[e])
 rename_i a;rw[za a]
 split at f
 ·rename_i b;rw[zb b];exact h.like rfl rfl rfl (by unfold pend;simp[e]) (by simp) (by unfold asks;simp[e])
 rename_i b;rw[za b]
 split at f
 ·rename_i c;rw[zb c];exact h.like rfl rfl rfl (by unfold pend;simp[e]) (by simp) (by unfold asks;simp[e])
 rename_i c;rw[za c]
 split at f
 ·rename_i d;rw[zb d];exact h.like rfl rfl rfl (by unfold pend;simp[e]) (by simp) (by unfold asks;simp[e])
 ·simp at f
theorem Cs{m:zk}(h:Tree m)(e:m.state=11)(x:Int)(d:(digit m x).1=0):Tree (digit m x).2:=by
 unfold digit at d |-
 split at d
 ·simp at d
 rename_i a;rw[za a]
 split at d
 ·simp at d
 rename_i b;rw[za b]
 split at d
 ·rename_i c;rw[zb c];exact h.like rfl rfl rfl (by unfold pend;simp[e]) (by simp) (by unfold asks;simp[e])
 ·rename_i c;rw[za c];exact h.like rfl rfl rfl (by unfold pend;simp) (by simp) (by unfold asks;simp)
theorem PD{m:zk}(h:Tree m)(i:Wf m)(k:∀o ∈ m.opn,o<m.nodes.length)(x:Int)(f:(step m x).1=0):Tree (step m x).2:=by
 have g:=i.named
 by_cases h8:m.state=8
 ·rw[QZ m x h8] at f |-;exact Nk h k h8 (g (by omega)) x f
 by_cases h9:m.state=9
 ·rw[Yh m x h9] at f |-
  split at f
  ·simp at f
  ·rename_i a;rw[za a]
   by_cases hz:m.need-1=0
   ·rw[zb hz];exact h.like rfl rfl rfl (by unfold pend;simp[h9]) (by simp) (by unfold asks;simp[h9])
   ·rw[za hz];exact h.like rfl rfl rfl (by unfold pend;simp[h9]) (by simp) (by unfold asks;simp[h9])
 by_cases h10:m.state=10
 ·rw[Y4 m x h10] at f |-;exact Ej h h10 x f
 by_cases h11:m.state=11
 ·rw[Y5 m x h11] at f |-;exact Cs h h11 x f
 by_cases h7:m.state=7
 ·rw[Y6 m x h7] at f |-
  split at f
  ·simp at f
  ·rename_i a;rw[za a]
   by_cases hz:m.word.size=1
   ·rw[zb hz];exact h.like rfl rfl rfl (by unfold pend;simp[h7]) (by simp) (by unfold asks;simp[h7])
   ·rw[za hz];exact h.like rfl rfl rfl (by unfold pend;simp[h7]) (by simp) (by unfold asks;simp[h7])
 have n:=i.lo;have l:=i.hi;rw[Q0 m x (by omega)] at f |-
 split at f
 ·rename_i a;rw[zb a];exact h
 rename_i a;rw[za a]
 split at f
 ·rename_i b;rw[zb b];exact tJ h b x f
 rename_i b;rw[za b]
 split at f
 ·rename_i c;rw[zb c];exact iL h (by unfold pend;omega) (by unfold asks;omega) x f
 rename_i c;rw[za c]
 split at f
 ·rename_i d;rw[zb d]
  split at f
  ·simp at f
  ·rename_i e;rw[za e];have j:=h.full (by unfold asks;omega);exact Tree.of (h.ev (by unfold pend;omega)) (by unfold pend;simp) (by simp) j h.root0 (h.root j)
 ·rename_i d;rw[za d];exact Ae h k (by omega) x f
theorem FX:Tree init:=
 ⟨λi n hi=>by simp[init] at hi,λi n hi=>by simp[init] at hi,λi n hi=>by simp[init] at hi,by simp[init],by unfold asks;simp[init],by simp[init],λe=>absurd rfl e⟩
theorem pU:∀(l:List UInt8) (m:zk) (p k:Nat),Tree m->Wf m->Bnd k m->(run m l p).1=0->Tree (run m l p).2.2/\Wf (run m l p).2.2
 | [],m,p,k,h,hw,hb,_=>⟨h,hw⟩
 | c::r,m,p,k,h,hw,hb,he=>by
  unfold run at he |-
  by_cases hs:(step m (c.toNat:Int)).1=0
  ·rw[zb hs] at he |-;exact pU r _ _ (k+1) (PD h hw hb.top _ hs) (dm hw _ hs) (dh hb _ hs) he
  ·rw[za hs] at he;exact absurd he hs
def jw:List BY->List Nat->BY->Int
 | s::ss,k::ks,name=>if s.toList==name.toList then (k:Int) else jw ss ks name
 | _,_,_=>-1
def zn(n:Node)(name:BY):Int:=jw n.names n.kids name
def yz(n:Node)(names:List BY):Bool:=n.names.all (λs=>names.any λt=>t.toList==s.toList)&&n.kind==1
theorem Fq(a:List BY)(ks:List Nat)(name:BY)(i:Nat)(hi:i<a.length)(b:i<ks.length)(h:(a[i].toList==name.toList)=true):jw (a.drop i) (ks.drop i) name=(ks[i]:Int):=by
 rw[vo hi,vo b,jw,zb h]
theorem Fs(a:List BY)(ks:List Nat)(name:BY)(i:Nat)(hi:i<a.length)(b:i<ks.length)(h:(a[i].toList==name.toList)=false):jw (a.drop i) (ks.drop i) name=jw (a.drop (i+1)) (ks.drop (i+1)) name:=by
 rw[vo hi,vo b,jw,za (by simp[h])]
theorem Fp(a:List BY)(ks:List Nat)(name:BY)(i:Nat)(hi:¬i<a.length):jw (a.drop i) (ks.drop i) name = -1:=by
 rw[Vq (by omega),jw]
 simp
theorem fF(ts:List BY)(s:BY)(k:Nat)(a:k<ts.length)(x:Bool)(c:x=(ts.take k).any λt=>t.toList==s.toList)(b:Bool)(hb:(ts[k].toList==s.toList)=b):(x||b)=(ts.take (k+1)).any λt=>t.toList==s.toList:=by
 rw[Jo a,List.any_append,<- c];simp[hb]
theorem tY(ts:List BY)(s:BY)(k:Nat)(b:¬k<ts.length)(x:Bool)(a:x=(ts.take k).any λt=>t.toList==s.toList):(ts.any λt=>t.toList==s.toList)=x:=by
 rw[Zb (by omega)] at a;exact a.symm
theorem fA{α:Type}(l:List α)(f:α->Bool)(k:Nat)(b:k<l.length)(h:(l.take k).all f=true)(a:f l[k]=true):(l.take (k+1)).all f=true:=by
 rw[Jo b,Vp,h];simp[a]
theorem fD{α:Type}(l:List α)(f:α->Bool)(k:Nat)(b:k<l.length)(a:f l[k]=false):l.all f=false:=by
 rw[List.all_eq_false];exact⟨l[k],xy b,by simp[a]⟩
theorem fw{α:Type}(l:List α)(f:α->Bool)(k:Nat)(a:¬k<l.length)(h:(l.take k).all f=true):l.all f=true:=by
 rw[Zb (by omega)] at h;exact h
theorem JW(l:List Nat)(j:Nat)(h:j<l.length):(l.map λ(n:Nat)=>Value.int .i64 (n:Int))[j]?=some (.int .i64 (l[j]:Int)):=by
 simp[h]
def vz(K:Nat)(ns:List Node):Prop:=∀(i:Nat) (n:Node),ns[i]?=some n->n.text.size<=K
theorem Ue{K:Nat}{m:zk}(h:vz K m.nodes)(d:Node)(f:d.text.size<=K):vz K (lay m d).nodes:=by
 have base:vz K (m.nodes++[d]):=by
  intro i e a;rw[Z5] at a
  split at a
  ·exact h i e a
  ·have:=qJ a
   simp only[xK] at this;subst this;exact f
 unfold lay
 split
 ·exact base
 ·intro i e a;obtain⟨c,b,rfl⟩:=Ya _ _ _ _ _ a
  have:=base i c b
  split<;>exact this
theorem iJ(m:zk)(x:Int):(xq m x).2.nodes=m.nodes:=by unfold xq;split<;>(try split)<;>rfl
theorem tH(m:zk)(x:Int):(after m x).2.nodes=m.nodes:=by
 unfold after
 split
 ·rfl
 split
 ·rfl
 split
 ·exact iJ m x
 split<;>rfl
theorem Ei(m:zk)(x:Int):(escape m x).2.nodes=m.nodes:=by unfold escape;repeat' (split<;>try rfl)
theorem Cr(m:zk)(x:Int):(digit m x).2.nodes=m.nodes:=by unfold digit;repeat' (split<;>try rfl)
theorem Ad{K:Nat}{m:zk}(h:vz K m.nodes)(x:Int):vz K (ja m x).2.nodes:=by
 unfold ja
 split
 ·split
  ·exact h
  ·exact Ue (m:={ m with state:=if x=91 then 2 else 3 }) h _ (zD _)
 split
 ·exact h
 split
 ·exact Ue h _ (zD _)
 split
 ·exact Ue h _ (zD _)
 ·exact h
theorem Bl{K:Nat}{m:zk}(h:vz K m.nodes)(d:m.got.size<=K):vz K (closed m).2.nodes:=by
 unfold closed
 split
 ·exact Ue h _ d
 split
 ·exact h
 ·intro i e b;obtain⟨c,a,rfl⟩:=Ya _ _ _ _ _ b
  have:=h i c a
  split<;>exact this
theorem Nj{K:Nat}{m:zk}(h:vz K m.nodes)(a:m.got.size<=K)(x:Int):vz K (plain m x).2.nodes:=by
 unfold plain
 split
 ·exact Bl h a
 repeat' (split<;>try exact h)
theorem Pz{K:Nat}{m:zk}(h:vz K m.nodes)(a:m.got.size<=K)(x:Int):vz K (step m x).2.nodes:=by
 unfold step
 split
 ·exact Nj h a x
 split
 ·split<;>exact h
 split
 ·rw[Ei];exact h
 split
 ·rw[Cr];exact h
 split
 ·split<;>exact h
 split
 ·exact h
 split
 ·rw[tH];exact h
 split
 ·rw[iJ];exact h
 split
 ·split<;>exact h
 ·exact Ad h x
theorem pR:∀(l:List UInt8) (m:zk) (p k K:Nat),vz (3*K) m.nodes->Bnd k m->k+l.length<=K->vz (3*K) (run m l p).2.2.nodes
 | [],_,_,_,_,h,_,_=>h
 | c::r,m,p,k,K,h,hb,hK=>by
  unfold run;simp only[Zz] at hK;have b:=hb.got
  split
  ·rename_i a;exact pR r _ _ (k+1) K (Pz h (by omega) _) (dh hb _ a) (by omega)
  ·exact h
def j6(ns:List Node):List Nat->Option (List BY)
 | []=>some []
 | k::ks=>match ns[k]? with
  | some x=>if x.kind=3 then (j6 ns ks).map λl=>x.text::l else none
  | none=>none
def qI(ns:List Node)(k:Int):Option (List BY):=
 if k<0 then none
 else match ns[k.toNat]? with
  | none=>none
  | some n=>if n.kind=3 then some [n.text] else if n.kind≠2\/n.kids.length<1\/10<n.kids.length then none else j6 ns n.kids
theorem Rk(ns:List Node)(ks:List Nat)(i:Nat)(hi:i<ks.length)(x:Node)(c:ns[ks[i]]?=some x)(a:x.kind=3)(done:List BY)(P:Option (List BY))
  (h:P=(j6 ns (ks.drop i)).map λb=>done++b):P=(j6 ns (ks.drop (i+1))).map λb=>(done++[x.text])++b:=by
 rw[h,vo hi,j6,c];simp[a,Option.map_map,Function.comp_def]
theorem Rl(ns:List Node)(ks:List Nat)(i:Nat)(hi:i<ks.length)(x:Node)(c:ns[ks[i]]?=some x)(a:x.kind≠3)(done:List BY)(P:Option (List BY))
  (h:P=(j6 ns (ks.drop i)).map λb=>done++b):P=none:=by
 rw[h,vo hi,j6,c];simp[a]
theorem Rj(ns:List Node)(ks:List Nat)(i:Nat)(hi:¬i<ks.length)(done:List BY)(P:Option (List BY))
  (h:P=(j6 ns (ks.drop i)).map λb=>done++b):P=some done:=by
 rw[h,Vq (by omega),j6];simp
def qE(s:BY):Bool:=(parts s).isSome
theorem rU(ns:List Node)(K:Nat)(h:vz K ns):∀(ks:List Nat) (l:List BY),j6 ns ks=some l->∀s ∈ l,s.size<=K
 | [],l,e=>by simp[j6] at e;subst e;simp
 | k::ks,l,e=>by
  rw[j6] at e
  split at e
  ·rename_i x c
   split at e
   ·obtain⟨r,b,rfl⟩:=Qb.1 e;intro s a
    rcases Z7.1 a with rfl|a
    ·exact h k x c
    ·exact rU ns K h ks r b s a
   ·simp at e
  ·simp at e
theorem rW(ns:List Node)(K:Nat)(h:vz K ns)(k:Int)(l:List BY)(e:qI ns k=some l):∀s ∈ l,s.size<=K:=by
 unfold qI at e
 split at e
 ·simp at e
 split at e
 ·simp at e
 rename_i n b
 split at e
 ·simp only[Option.some.injEq] at e;subst e;intro s a;simp only[xK] at a;subst a;exact h _ n b
 split at e
 ·simp at e
 ·exact rU ns K h _ l e
theorem rR(ns:List Node):∀(ks:List Nat) (l:List BY),j6 ns ks=some l->l.length=ks.length
 | [],l,e=>by simp[j6] at e;subst e;rfl
 | k::ks,l,e=>by
  rw[j6] at e
  split at e
  ·split at e
   ·obtain⟨r,a,rfl⟩:=Qb.1 e;simp[rR ns ks r a]
   ·simp at e
  ·simp at e
theorem rV(ns:List Node)(k:Int)(l:List BY)(e:qI ns k=some l):l.length<=10:=by
 unfold qI at e
 split at e
 ·simp at e
 split at e
 ·simp at e
 split at e
 ·simp only[Option.some.injEq] at e;subst e
  simp
 split at e
 ·simp at e
 ·rename_i h;have:=rR ns _ l e;omega
theorem oI(l:List BY)(pt:Bool)(j:Nat)(a:j<l.length):(pt || !((l.take (j+1)).all qE))=((pt || !((l.take j).all qE)) || !(qE l[j])):=by
 rw[Jo a,Vp];simp[Bool.not_and,Bool.or_assoc]
theorem oH(l:List BY)(pt:Bool)(j:Nat)(a:¬j<l.length):(pt || !((l.take j).all qE))=(pt || !(l.all qE)):=by
 rw[Zb (by omega)]
def qL:BY:=⟨#[110,111,116]⟩
def yD(ns:List Node)(k:Int):Bool×Option (List BY):=
 if k<0 then (false,none)
 else match ns[k.toNat]? with
  | none=>(false,none)
  | some n=>if n.kind=1 then (if yz n [qL]=true/\n.names.length=1 then (true,qI ns (n.kids.getD 0 0:Nat)) else (false,none)) else (false,qI ns k)
theorem Bb(ns:List Node)(k:Int)(h:k<0):yD ns k=(false,qI ns k):=by
 unfold yD qI;rw[zb h,zb h]
def digits(l:List UInt8):Bool:=l.all λc=>decide (48<=c.toNat/\c.toNat<=57)
theorem iA(l:List UInt8)(c:UInt8):digits (l++[c])=(digits l&&decide (48<=c.toNat/\c.toNat<=57)):=by simp[digits]
def kM(t:BY):Bool:=decide (1<=t.size/\t.size<=18)&&((t.data.toList.getD 0 0).toNat != 48)&&digits t.data.toList
def jW(s:BY):Bool:=
 (s.toList==[48])||kM (if 0<s.size/\(s.data.toList.getD 0 0).toNat=45 then s.extract 1 s.size else s)
theorem nL(s:BY)(k:Nat)(h:k<s.size)(hb:(s[k].toNat:Int)<48\/57<(s[k].toNat:Int)):kM s=false:=by
 have e:digits (s.data.toList.take (k+1))=false:=by rw[Ve s k h,iA];simp;omega
 have a:digits s.data.toList=false:=by
  have:=Vy (k+1) s.data.toList
  rw[<- this];unfold digits at *;rw[Vp,e];rfl
 unfold kM;rw[a];simp
theorem iy(s:BY)(k:Nat)(h:k<s.size)(a:digits (s.data.toList.take k)=true)(b:48<=(s[k].toNat:Int))(hb:(s[k].toNat:Int)<=57) :
  digits (s.data.toList.take (k+1))=true:=by
 rw[Ve s k h,iA,a];simp;omega
theorem X0(s:BY)(h:0<s.size):s.data.toList.getD 0 0=s[0]:=by
 have e:=Ve s 0 h;rw[List.take_zero] at e
 cases hl:s.data.toList with
 | nil=>rw[hl] at e;simp at e
 | cons a r=>rw[hl] at e;simp at e;simpa using e
theorem bi(s:BY)(h:0<s.size)(a:(s[0].toNat:Int)=48):kM s=false:=by
 unfold kM;rw[X0 s h];simp;omega
theorem JZ(s:BY)(h:¬(1<=s.size/\s.size<=18)):kM s=false:=by unfold kM;simp[h]
theorem nM(s:BY)(k:Nat)(h:¬k<s.size)(e:k<=s.size)(b:1<=s.size)(d:s.size<=18)(c:(s[0].toNat:Int)≠48)(a:digits (s.data.toList.take k)=true):kM s=true:=by
 unfold kM;rw[Zb (by simp;omega)] at a;rw[a,X0 s b];simp;omega
def vZ(op s:BY):Bool:=
 if op.toList==[115,97,109,101] then decide (s.size<=60)
 else if op.toList==[117,110,100,101,114] then decide (s.size<=60) && !s.toList.isEmpty
 else if op.toList==[98,101,108,111,119] then jW s
 else true
def uM(op:BY):Bool:=(op.toList==[115,97,109,101])||(op.toList==[117,110,100,101,114])||(op.toList==[98,101,108,111,119])||(op.toList==[108,105,107,101])
def Zl(op:BY)(l:List BY):Bool:=l.all (vZ op)&&uM op
def bOp:BY:=⟨#[111,112]⟩
def zC:BY:=⟨#[107,101,121]⟩
def bNo:BY:=⟨#[110,111]⟩
def zA:BY:=⟨#[118,97,108,117,101]⟩
structure qf where
 op:BY
 key:BY
 vals:List BY
 no:Bool
 sh:Bool
 pt:Bool
def kindOf(ns:List Node)(k:Int):Int:=match ns[k.toNat]? with
 | some x=>x.kind
 | none=>0
def textOf(ns:List Node)(k:Int):BY:=match ns[k.toNat]? with
 | some x=>x.text
 | none=>⟨#[]⟩
def xN(op:BY):Bool:=op.toList==[97,98,115,101,110,116]
def x8(op:BY):Bool:=op.toList==[108,105,107,101]
def noT(ns:List Node)(no:Int):Bool:=decide (0<=no)&&(kindOf ns no==4)
def vU(ns:List Node)(no:Int):Bool:=decide (0<=no)&&(!(kindOf ns no==4) && !(kindOf ns no==5))
def x9:qf:=⟨⟨#[]⟩,⟨#[]⟩,[],false,true,false⟩
def kw(ns:List Node)(n:Node):qf:=
 if zn n bOp<0\/zn n zC<0\/kindOf ns (zn n bOp)≠3\/kindOf ns (zn n zC)≠3 then x9
 else if xN (textOf ns (zn n bOp)) then
  ⟨textOf ns (zn n bOp),textOf ns (zn n zC),[],noT ns (zn n bNo),vU ns (zn n bNo) || !qg (textOf ns (zn n zC)) || !yz n [bOp,zC,bNo],false⟩
 else
  ⟨textOf ns (zn n bOp),textOf ns (zn n zC),(qI ns (zn n zA)).getD [],noT ns (zn n bNo),
   vU ns (zn n bNo)||(!(qI ns (zn n zA)).isSome || !Zl (textOf ns (zn n bOp)) ((qI ns (zn n zA)).getD [])) || !qg (textOf ns (zn n zC)) || !yz n [bOp,zC,bNo,zA],
   x8 (textOf ns (zn n bOp)) && !((qI ns (zn n zA)).getD []).all qE⟩
structure Vn where
 cs:List qf
 sh:Bool
 pt:Bool
def yh(ns:List Node)(ks:List Nat):List qf:=ks.map λk=>match ns[k]? with
 | some n=>kw ns n
 | none=>x9
def Qg(ns:List Node)(k:Int):Vn:=
 if k<0 then ⟨[],false,false⟩
 else match ns[k.toNat]? with
  | none=>⟨[],true,false⟩
  | some n=>if n.kind≠2\/5<n.kids.length then ⟨[],true,false⟩ else ⟨yh ns n.kids,(yh ns n.kids).any qf.sh,(yh ns n.kids).any qf.pt⟩
theorem lL(N:Nat):∀(a:List BY) (ks:List Nat) (name:BY),(∀k ∈ ks,k<N) -> -1<=jw a ks name/\jw a ks name<(N:Int)
 | [],ks,name,_=>by simp[jw];omega
 | s::a,[],name,_=>by simp[jw];omega
 | s::a,k::ks,name,h=>by
  unfold jw
  split
  ·have:=h k (by simp);omega
  ·exact lL N a ks name (λj b=>h j (by simp[b]))
theorem jy{ns:List Node}(a:Ev ns){i:Nat}{n:Node}(hi:ns[i]?=some n)(name:BY):-1<=zn n name/\zn n name<(ns.length:Int):=
 lL ns.length n.names n.kids name (a i n hi).1
theorem nJ{ns:List Node}{k:Int}(b:0<=k)(c:k<(ns.length:Int)):∃(j:Nat) (x:Node),k=(j:Int)/\ns[j]?=some x/\kindOf ns k=x.kind/\textOf ns k=x.text:=by
 obtain⟨j,rfl⟩:∃j:Nat,k=(j:Int):=⟨k.toNat,by omega⟩;have a:j<ns.length:=by omega
 refine⟨j,ns[j],rfl,zm a,?_,?_⟩
 ·unfold kindOf;rw[show ((j:Int)).toNat=j by simp,zm a]
 ·unfold textOf;rw[show ((j:Int)).toNat=j by simp,zm a]
def naming(m:zk):Prop:=m.state=3\/m.state=4\/(8<=m.state/\m.named=true)
def NoN(ns:List Node):Prop:=∀(i:Nat) (n:Node),ns[i]?=some n->n.kind≠1->n.names=[]
structure yN (m:zk):Prop where
 non:NoN m.nodes
 top:naming m->vY m=1
theorem yN.like{m m':zk}(h:yN m)(b:m'.opn=m.opn)(a:m'.nodes=m.nodes)(c:naming m'->naming m):yN m':=
 ⟨by rw[a];exact h.non,λe=>by have:=h.top (c e);unfold vY at this |-;rw[a,b];exact this⟩
theorem Ud{m:zk}(h:NoN m.nodes)(d:Node)(g:d.names=[]):NoN (lay m d).nodes:=by
 have base:NoN (m.nodes++[d]):=by
  intro i e a b;rw[Z5] at a
  split at a
  ·exact h i e a b
  ·have:=qJ a
   simp only[xK] at this;subst this;exact g
 unfold lay
 split
 ·exact base
 ·intro i e a b;obtain⟨c,f,rfl⟩:=Ya _ _ _ _ _ a
  by_cases e:m.opn.getLastD 0=i
  ·rw[zb e] at b |-;exact base i c f b
  ·rw[za e] at b |-;exact base i c f b
theorem iM{m:zk}(h:yN m)(x:Int)(c:(xq m x).1=0):yN (xq m x).2:=by
 unfold xq at c |-
 split at c
 ·simp at c
 split at c
 ·simp at c
 rename_i a b;rw[za a,za b];exact⟨h.non,λe=>by unfold naming at e;simp at e⟩
theorem tK{m:zk}(h:yN m)(x:Int)(f:(after m x).1=0):yN (after m x).2:=by
 unfold after at f |-
 split at f
 ·rename_i a;rw[zb a];exact⟨h.non,λe=>by unfold naming at e;simp at e⟩
 split at f
 ·simp at f
 rename_i a b
 split at f
 ·rename_i c;rw[za a,za b,zb c];exact iM h x f
 split at f
 ·simp at f
 ·rename_i c d;rw[za a,za b,za c,za d]
  by_cases hk:vY m=1
  ·rw[zb hk];exact⟨h.non,λ_=>hk⟩
  ·rw[za hk];exact⟨h.non,λe=>by unfold naming at e;simp at e⟩
theorem Ik{m:zk}(d:Node):∃c,(lay m d).nodes[m.nodes.length]?=some c/\c.kind=d.kind:=by
 unfold lay
 split
 ·exact⟨d,by simp,rfl⟩
 ·unfold xU;rw[Zx];simp only[List.getElem?_concat_length];exact⟨_,rfl,by split<;>rfl⟩
theorem Af{m:zk}(h:yN m)(x:Int)(f:(ja m x).1=0):yN (ja m x).2:=by
 unfold ja at f |-
 split at f
 ·rename_i a;rw[zb a]
  split at f
  ·simp at f
  rename_i b;rw[za b];refine⟨Ud (m:={ m with state:=if x=91 then 2 else 3 }) h.non _ rfl,λe=>?_⟩
  unfold naming at e;simp only[JS,Ij] at e
  have g:¬x=91:=by
   intro i;rw[zb i] at e;omega
  obtain⟨c,j,k⟩:=Ik (m:={ m with state:=if x=91 then 2 else 3 }) { kind:=if x=91 then 2 else 1,text:=⟨#[]⟩,names:=[],kids:=[] }
  unfold vY;simp only at j;have l:(m.opn++[m.nodes.length]).getLastD 0=m.nodes.length:=by simp
  simp only[l,j,Xc,QA,k];rw[za g]
 rename_i a;rw[za a]
 split at f
 ·rename_i b;rw[zb b];exact⟨h.non,λe=>by unfold naming at e;simp at e⟩
 rename_i b;rw[za b]
 split at f
 ·rename_i c;rw[zb c];exact⟨Ud h.non _ rfl,λe=>by unfold naming at e;simp at e⟩
 rename_i c;rw[za c]
 split at f
 ·rename_i d;rw[zb d];exact⟨Ud h.non _ rfl,λe=>by unfold naming at e;simp at e⟩
 ·simp at f
theorem Bo{m:zk}(h:yN m)(l:m.state=8)(f:(closed m).1=0):yN (closed m).2:=by
 unfold closed at f |-
 split at f
 ·rename_i a;rw[zb a];exact⟨Ud h.non _ rfl,λe=>by unfold naming at e;simp at e⟩
 split at f
 ·simp at f
 rename_i a b;rw[za a,za b];have j:m.named=true:=by simpa using a
 have d:=h.top (.inr (.inr ⟨by omega,j⟩));refine⟨?_,λe=>by unfold naming at e;simp at e⟩;intro i e hi g;obtain⟨c,k,rfl⟩:=Ya _ _ _ _ _ hi
 by_cases hoi:m.opn.getLastD 0=i
 ·rw[zb hoi] at g;unfold vY at d;rw[hoi,k] at d;exact absurd d g
 ·rw[za hoi] at g |-;exact h.non i c k g
theorem Nl{m:zk}(h:yN m)(g:m.state=8)(x:Int)(f:(plain m x).1=0):yN (plain m x).2:=by
 unfold plain at f |-
 split at f
 ·rename_i a;rw[zb a];exact Bo h g f
 rename_i a;rw[za a]
 split at f
 ·rename_i b;rw[zb b];exact h.like rfl rfl (by unfold naming;simp[g])
 rename_i b;rw[za b]
 split at f
 ·simp at f
 rename_i c;rw[za c]
 split at f
 ·rename_i d;rw[zb d];exact h.like rfl rfl (by unfold naming;simp)
 rename_i d;rw[za d]
 split at f
 ·simp at f
 ·rename_i e;rw[za e];exact h.like rfl rfl (by unfold naming;simp[g])
theorem El{m:zk}(h:yN m)(e:m.state=10)(x:Int)(f:(escape m x).1=0):yN (escape m x).2:=by
 unfold escape at f |-
 split at f
 ·rename_i a;rw[zb a];exact h.like rfl rfl (by unfold naming;simp[e])
 rename_i a;rw[za a]
 split at f
 ·rename_i b;rw[zb b];exact h.like rfl rfl (by unfold naming;simp[e])
 rename_i b;rw[za b]
 split at f
 ·rename_i c;rw[zb c];exact h.like rfl rfl (by unfold naming;simp[e])
 rename_i c;rw[za c]
 split at f
 ·rename_i d;rw[zb d];exact h.like rfl rfl (by unfold naming;simp[e])
 ·simp at f
theorem Ct{m:zk}(h:yN m)(e:m.state=11)(x:Int)(d:(digit m x).1=0):yN (digit m x).2:=by
 unfold digit at d |-
 split at d
 ·simp at d
 rename_i a;rw[za a]
 split at d
 ·simp at d
 rename_i b;rw[za b]
 split at d
 ·rename_i c;rw[zb c];exact h.like rfl rfl (by unfold naming;simp[e])
 ·rename_i c;rw[za c];exact h.like rfl rfl (by unfold naming;simp)
theorem PE{m:zk}(h:yN m)(g:Wf m)(x:Int)(f:(step m x).1=0):yN (step m x).2:=by
 by_cases h8:m.state=8
 ·rw[QZ m x h8] at f |-;exact Nl h h8 x f
 by_cases h9:m.state=9
 ·rw[Yh m x h9] at f |-
  split at f
  ·simp at f
  ·rename_i a;rw[za a]
   by_cases hz:m.need-1=0
   ·rw[zb hz];exact h.like rfl rfl (by unfold naming;simp[h9])
   ·rw[za hz];exact h.like rfl rfl (by unfold naming;simp[h9])
 by_cases h10:m.state=10
 ·rw[Y4 m x h10] at f |-;exact El h h10 x f
 by_cases h11:m.state=11
 ·rw[Y5 m x h11] at f |-;exact Ct h h11 x f
 by_cases h7:m.state=7
 ·rw[Y6 m x h7] at f |-
  split at f
  ·simp at f
  ·rename_i a;rw[za a]
   by_cases hz:m.word.size=1
   ·rw[zb hz];exact⟨h.non,λe=>by unfold naming at e;simp at e⟩
   ·rw[za hz];exact⟨h.non,λe=>by unfold naming at e;simp at e⟩
 have j:=g.lo;have i:=g.hi;rw[Q0 m x (by omega)] at f |-
 split at f
 ·rename_i a;rw[zb a];exact h
 rename_i a;rw[za a]
 split at f
 ·rename_i b;rw[zb b];exact tK h x f
 rename_i b;rw[za b]
 split at f
 ·rename_i c;rw[zb c];exact iM h x f
 rename_i c;rw[za c]
 split at f
 ·rename_i d;rw[zb d]
  split at f
  ·simp at f
  ·rename_i e;rw[za e];exact h.like rfl rfl (λ_=>by unfold naming;omega)
 ·rename_i d;rw[za d];exact Af h x f
theorem FY:yN init:=⟨λi n hi=>by simp[init] at hi,λe=>by unfold naming at e;simp[init] at e⟩
theorem pV:∀(l:List UInt8) (m:zk) (p:Nat),yN m->Wf m->(run m l p).1=0->yN (run m l p).2.2
 | [],_,_,h,_,_=>h
 | c::r,m,p,h,hw,he=>by
  unfold run at he |-
  by_cases hs:(step m (c.toNat:Int)).1=0
  ·rw[zb hs] at he |-;exact pV r _ _ (PE h hw _ hs) (dm hw _ hs) he
  ·rw[za hs] at he;exact absurd he hs
end Ref
end Go.Proofs.YtdakgnaojakldaaGreatDoor
