/- P -/
import Derived.Test.YtfjpcldndaiifaaGreatDoorA01
set_option maxRecDepth 100000
namespace Go.Proofs.YtfjpcldndaiifaaGreatDoor
namespace U
structure Node where
 kind:Int
 text:BY
 names:List BY
 kids:List Nat
structure zl where
 state:Int
 opn:List Nat
 nodes:List Node
 named:Bool
 got:BY
 need:Int
 low:Int
 high:Int
 number:Int
 word:BY
 root:Int
def YG(b:Int):Bool:=decide (b=32\/b=9\/b=10\/b=13)
def zP(b:Int):Int:=
 if 48<=b/\b<=57 then b-48 else if 97<=b/\b<=102 then b-97+10 else if 65<=b/\b<=70 then b-65+10 else -1
def one(b:Int):BY:=⟨#[UInt8.ofNat b.toNat]⟩
def enc(n:Int):BY:=
 if n<128 then one n else if n<2048 then ⟨#[UInt8.ofNat (192+n / 64).toNat,UInt8.ofNat (128+n % 64).toNat]⟩
 else ⟨#[UInt8.ofNat (224+n / 4096).toNat,UInt8.ofNat (128+n / 64 % 64).toNat,UInt8.ofNat (128+n % 64).toNat]⟩
def yH(o k:Nat)(l:List Node):List Node:=l.modify o λn=>{ n with kids:=n.kids++[k] }
def yU(o:Nat)(s:BY)(l:List Node):List Node:=l.modify o λn=>{ n with names:=n.names++[s] }
def lay(m:zl)(n:Node):zl:=
 if m.opn=[] then { m with nodes:=m.nodes++[n],root:=m.nodes.length } else { m with nodes:=yH (m.opn.getLastD 0) m.nodes.length (m.nodes++[n]) }
def Zm(m:zl):Int:=((m.nodes[m.opn.getLastD 0]?).map Node.kind).getD 0
def vz(m:zl)(b:Int):Int×zl:=
 if b=123\/b=91 then
  if 8<=m.opn.length then (3,m)
  else
   let m1:=lay { m with state:=if b=91 then 2 else 3 } { kind:=if b=91 then 2 else 1,text:=⟨#[]⟩,names:=[],kids:=[] }
   (0,{ m1 with opn:=m.opn++[m.nodes.length] })
 else if b=34 then (0,{ m with state:=8,named:=false,got:=⟨#[]⟩ })
 else if b=116 then (0,{ lay m { kind:=4,text:=⟨#[]⟩,names:=[],kids:=[] } with state:=7,word:=⟨#[114,117,101]⟩ })
 else if b=102 then (0,{ lay m { kind:=5,text:=⟨#[]⟩,names:=[],kids:=[] } with state:=7,word:=⟨#[97,108,115,101]⟩ })
 else (2,m)
def yc(m:zl)(b:Int):Int×zl:=
 if m.opn=[] then (2,m) else if (Zm m==1) != (b==125) then (2,m) else (0,{ m with opn:=m.opn.dropLast,state:=6 })
def after(m:zl)(b:Int):Int×zl:=
 if m.state=5/\b=58 then (0,{ m with state:=1 })
 else if m.state=5\/m.opn=[] then (2,m)
 else if b=125\/b=93 then yc m b
 else if b≠44 then (2,m)
 else (0,{ m with state:=if Zm m=1 then 4 else 1 })
def ah(m:zl):List BY:=((m.nodes[m.opn.getLastD 0]?).map Node.names).getD []
def closed(m:zl):Int×zl:=
 if m.named=false then (0,{ lay m { kind:=3,text:=m.got,names:=[],kids:=[] } with state:=6 })
 else if (ah m).any (λs=>s.toList==m.got.toList) then (4,m)
 else (0,{ m with nodes:=yU (m.opn.getLastD 0) m.got m.nodes,state:=5 })
def plain(m:zl)(b:Int):Int×zl:=
 if b=34 then closed m
 else if b=92 then (0,{ m with state:=10 })
 else if b<32 then (2,m)
 else if b<128 then (0,{ m with got:=m.got++one b })
 else if (zZ b).1=0 then (2,m)
 else (0,{ m with need:=(zZ b).1,low:=(zZ b).2.1,high:=(zZ b).2.2,got:=m.got++one b,state:=9 })
def escape(m:zl)(b:Int):Int×zl:=
 if b=34\/b=92\/b=47 then (0,{ m with state:=8,got:=m.got++one b })
 else if b=110 then (0,{ m with state:=8,got:=m.got++one 10 })
 else if b=116 then (0,{ m with state:=8,got:=m.got++one 9 })
 else if b=117 then (0,{ m with state:=11,need:=4,number:=0 })
 else (2,m)
def digit(m:zl)(b:Int):Int×zl:=
 if zP b<0 then (2,m)
 else if m.need-1=2/\216<=16*m.number+zP b/\16*m.number+zP b<=223 then (2,m)
 else if m.need-1=0 then (0,{ m with number:=16*m.number+zP b,need:=m.need-1,got:=m.got++enc (16*m.number+zP b),state:=8 })
 else (0,{ m with number:=16*m.number+zP b,need:=m.need-1 })
def step(m:zl)(b:Int):Int×zl:=
 if m.state=8 then plain m b
 else if m.state=9 then
  if b<m.low\/m.high<b then (2,m) else (0,{ m with got:=m.got++one b,low:=128,high:=191,need:=m.need-1,state:=if m.need-1=0 then 8 else m.state })
 else if m.state=10 then escape m b
 else if m.state=11 then digit m b
 else if m.state=7 then
  if b≠((m.word.data.toList.getD 0 0).toNat:Int) then (2,m) else (0,{ m with word:=m.word.extract 1 m.word.size,state:=if m.word.size=1 then 6 else m.state })
 else if YG b then (0,m)
 else if m.state=6\/m.state=5 then after m b
 else if (m.state=2/\b=93)\/(m.state=3/\b=125) then yc m b
 else if m.state=3\/m.state=4 then (if b≠34 then (2,m) else (0,{ m with state:=8,named:=true,got:=⟨#[]⟩ }))
 else vz m b
theorem JE(l:List BY)(j:Nat)(h:j<l.length):(strCells l)[j]?=some (S9 l[j]):=by
 simp[strCells,h]
theorem YZ(m:zl)(x:Int)(h:m.state=8):step m x=plain m x:=by unfold step;rw[zb h]
theorem Vs(m:zl)(x:Int)(h:m.state=9):step m x=if x<m.low\/m.high<x then (2,m) else (0,{ m with got:=m.got++one x,low:=128,high:=191,need:=m.need-1,state:=if m.need-1=0 then 8 else 9 }):=by
 unfold step;rw[N8,zb h,h]
theorem UA(m:zl)(x:Int)(h:m.state=10):step m x=escape m x:=by unfold step;rw[N8,N8,zb h]
theorem UB(m:zl)(x:Int)(h:m.state=11):step m x=digit m x:=by unfold step;rw[N8,N8,N8,zb h]
theorem UC(m:zl)(x:Int)(h:m.state=7):step m x=if x≠((m.word.data.toList.getD 0 0).toNat:Int) then (2,m) else (0,{ m with word:=m.word.extract 1 m.word.size,state:=if m.word.size=1 then 6 else 7 }):=by
 unfold step;rw[N8,N8,N8,N8,zb h,h]
theorem Y0(m:zl)(x:Int)(h:m.state<7):step m x=if YG x then (0,m)
 else if m.state=6\/m.state=5 then after m x
 else if (m.state=2/\x=93)\/(m.state=3/\x=125) then yc m x
 else if m.state=3\/m.state=4 then (if x≠34 then (2,m) else (0,{ m with state:=8,named:=true,got:=⟨#[]⟩ }))
 else vz m x:=by
 unfold step;rw[N8,N8,N8,N8,N8]
structure Wf (m:zl):Prop where
 lo:1<=m.state
 hi:m.state<=11
 named:8<=m.state->m.named=true->m.opn≠[]
 word:m.state=7->1<=m.word.size
 need9:m.state=9->1<=m.need/\m.need<=3/\0<=m.low/\m.low<=255/\0<=m.high/\m.high<=255
 need11:m.state=11->1<=m.need/\m.need<=4/\0<=m.number/\m.number<=4095/\(m.need=4->m.number=0)/\(m.need=3->m.number<=15)/\(m.need=2->m.number<=255)
 opens:3<=m.state->m.state<=5->m.opn≠[]
 small:m.word.size<=10
structure Bnd (n:Nat) (m:zl):Prop where
 nodes:m.nodes.length<=n
 opn:m.opn.length<=n
 kids:∀(i:Nat) (d:Node),m.nodes[i]?=some d->d.kids.length<=n/\d.names.length<=n
 got:m.got.size<=3*n
 top:∀o ∈ m.opn,o<m.nodes.length
theorem Bnd.like{n:Nat}{m m':zl}(h:Bnd n m)(b:m'.opn=m.opn)(a:m'.nodes=m.nodes)(c:m'.got.size<=3*n):Bnd n m':=
 ⟨by rw[a];exact h.nodes,by rw[b];exact h.opn,by rw[a];exact h.kids,c,by rw[b,a];exact h.top⟩
theorem Bnd.succ{n:Nat}{m m':zl}(h:Bnd n m)(b:m'.opn=m.opn)(a:m'.nodes=m.nodes)(j:m'.got.size<=m.got.size+3):Bnd (n+1) m':=by
 have e:=h.nodes;have f:=h.opn;have g:=h.got;exact⟨by rw[a];omega,by rw[b];omega,by rw[a];intro i d c;have:=h.kids i d c;omega,by omega,by rw[b,a];exact h.top⟩
theorem mO{α:Type}(l:List α)(f:α->α)(o i:Nat)(d:α)(h:(l.modify o f)[i]?=some d):l[i]?=some d\/∃c,l[i]?=some c/\d=f c:=by
 rw[Q7]at h
 by_cases e:o=i
 ·subst e;simp only[qJ]at h
  cases hc:l[o]? with
  | none=>rw[hc]at h;simp at h
  | some c=>rw[hc]at h;simp at h;exact .inr ⟨c,rfl,h.symm⟩
 simp[e]at h;exact .inl h
theorem dE{n:Nat}{m:zl}(h:Bnd n m)(d:Node)(f:d.names=[])(g:d.kids=[]):Bnd (n+1) (lay m d):=by
 have j:=h.nodes;have k:=h.opn;have l:=h.got
 have base:∀(i:Nat) (e:Node),(m.nodes++[d])[i]?=some e->e.kids.length<=n/\e.names.length<=n:=by
  intro i e a;rw[XQ]at a;split at a
  ·exact h.kids i e a
  have:=xC a
  simp only[yx]at this;subst this;rw[f,g];simp
 unfold lay;split
 ·refine⟨by simp;omega,by simp only;omega,?_,by simp only;omega,?_⟩
  ·intro i e a
   have:=base i e a
   omega
  intro o b
  have:=h.top o b
  simp;omega
 refine⟨by simp[yH];omega,by simp only;omega,?_,by simp only;omega,?_⟩
 ·intro i e a
  rcases mO _ _ _ _ _ a with hc|⟨c,hc,rfl⟩
  ·have:=base i e hc;omega
  have:=base i c hc;simp;omega
 intro o b
 have:=h.top o b
 simp[yH];omega
theorem BZ(m:zl)(d:Node):(lay m d).opn=m.opn:=by unfold lay;split<;>rfl
theorem WV(m:zl)(d:Node):(lay m d).nodes.length=m.nodes.length+1:=by unfold lay;split<;>simp[yH]
theorem WW(m:zl)(d:Node):(lay m d).named=m.named:=by unfold lay;split<;>rfl
theorem KD(m:zl)(d:Node):(lay m d).state=m.state:=by unfold lay;split<;>rfl
theorem Cb(m:zl)(d:Node):(lay m d).word=m.word:=by unfold lay;split<;>rfl
theorem Aq{n:Nat}{m:zl}(h:Bnd n m)(x:Int)(c:(yc m x).1=0):Bnd (n+1) (yc m x).2:=by
 have g:=h.nodes;have j:=h.opn;have k:=h.got;unfold yc at c |-;split at c
 ·simp at c
 split at c
 ·simp at c
 rename_i a b;rw[za a,za b];refine⟨by simp only;omega,by simp only[List.length_dropLast];omega,λi d e=>by have:=h.kids i d e;omega,by simp only;omega,λo f=>h.top o (List.dropLast_subset _ f)⟩
theorem one_size(x:Int):(one x).size=1:=rfl
theorem iZ(x:Int):(enc x).size<=3:=by unfold enc one;split<;>(try split)<;>simp[ByteArray.size]
theorem Ha{n:Nat}{m:zl}(h:Bnd n m)(x:Int)(e:(after m x).1=0):Bnd (n+1) (after m x).2:=by
 unfold after at e |-;split at e
 ·rename_i a;rw[zb a];exact h.succ rfl rfl (by simp)
 split at e
 ·simp at e
 split at e
 ·rename_i a b c;rw[za a,za b,zb c];exact Aq h x e
 split at e
 ·simp at e
 rename_i a b c d;rw[za a,za b,za c,za d];exact h.succ rfl rfl (by simp)
theorem Li{n:Nat}{m:zl}(h:Bnd n m)(x:Int)(f:(vz m x).1=0):Bnd (n+1) (vz m x).2:=by
 have i:=h.opn;unfold vz at f |-;split at f
 ·rename_i a;rw[zb a];split at f
  ·simp at f
  rename_i b;rw[za b];have e:=dE (m:={ m with state:=if x=91 then 2 else 3 }) (h.like rfl rfl h.got) { kind:=if x=91 then 2 else 1,text:=⟨#[]⟩,names:=[],kids:=[] } rfl rfl
  refine⟨e.nodes,by simp;omega,e.kids,e.got,?_⟩;intro o g;simp only[vg,yx]at g;rw[WV]
  rcases g with g|rfl
  ·have:=h.top o g;simp only;omega
  simp
 rename_i a;rw[za a];split at f
 ·rename_i b;rw[zb b];exact h.succ rfl rfl I4
 rename_i b;rw[za b];split at f
 ·rename_i c;rw[zb c];have e:=dE h { kind:=4,text:=⟨#[]⟩,names:=[],kids:=[] } rfl rfl;exact e.like rfl rfl e.got
 rename_i c;rw[za c];split at f
 ·rename_i d;rw[zb d];have e:=dE h { kind:=5,text:=⟨#[]⟩,names:=[],kids:=[] } rfl rfl;exact e.like rfl rfl e.got
 simp at f
theorem MG{n:Nat}{m:zl}(h:Bnd n m)(d:(closed m).1=0):Bnd (n+1) (closed m).2:=by
 unfold closed at d |-;split at d
 ·rename_i a;rw[zb a];have f:=dE h { kind:=3,text:=m.got,names:=[],kids:=[] } rfl rfl;exact f.like rfl rfl f.got
 split at d
 ·simp at d
 rename_i a b;rw[za a,za b];have k:=h.nodes;have l:=h.opn;have p:=h.got;refine⟨by simp[yU];omega,by simp only;omega,?_,by simp only;omega,?_⟩
 ·intro i e g
  rcases mO _ _ _ _ _ g with hc|⟨c,hc,rfl⟩
  ·have:=h.kids i e hc;omega
  have:=h.kids i c hc;simp;omega
 intro o j
 have:=h.top o j
 simp[yU];omega
theorem zcj{n:Nat}{m:zl}(h:Bnd n m)(x:Int)(f:(plain m x).1=0):Bnd (n+1) (plain m x).2:=by
 unfold plain at f |-;split at f
 ·rename_i a;rw[zb a];exact MG h f
 rename_i a;rw[za a];split at f
 ·rename_i b;rw[zb b];exact h.succ rfl rfl (by simp)
 rename_i b;rw[za b];split at f
 ·simp at f
 rename_i c;rw[za c];split at f
 ·rename_i d;rw[zb d];exact h.succ rfl rfl (by simp[ByteArray.size_append,one_size])
 rename_i d;rw[za d];split at f
 ·simp at f
 rename_i e;rw[za e];exact h.succ rfl rfl (by simp[ByteArray.size_append,one_size])
theorem PI{n:Nat}{m:zl}(h:Bnd n m)(x:Int)(e:(escape m x).1=0):Bnd (n+1) (escape m x).2:=by
 unfold escape at e |-;split at e
 ·rename_i a;rw[zb a];exact h.succ rfl rfl (by simp[ByteArray.size_append,one_size])
 rename_i a;rw[za a];split at e
 ·rename_i b;rw[zb b];exact h.succ rfl rfl (by simp[ByteArray.size_append,one_size])
 rename_i b;rw[za b];split at e
 ·rename_i c;rw[zb c];exact h.succ rfl rfl (by simp[ByteArray.size_append,one_size])
 rename_i c;rw[za c];split at e
 ·rename_i d;rw[zb d];exact h.succ rfl rfl (by simp)
 simp at e
theorem Ob{n:Nat}{m:zl}(h:Bnd n m)(x:Int)(d:(digit m x).1=0):Bnd (n+1) (digit m x).2:=by
 unfold digit at d |-;split at d
 ·simp at d
 rename_i a;rw[za a];split at d
 ·simp at d
 rename_i b;rw[za b];split at d
 ·rename_i c;rw[zb c];exact h.succ rfl rfl (by have:=iZ (16*m.number+zP x);simp[ByteArray.size_append];omega)
 rename_i c;rw[za c];exact h.succ rfl rfl (by simp)
theorem oz{n:Nat}{m:zl}(h:Bnd n m)(x:Int)(f:(step m x).1=0):Bnd (n+1) (step m x).2:=by
 by_cases h8:m.state=8
 ·rw[YZ m x h8]at f |-;exact zcj h x f
 by_cases h9:m.state=9
 ·rw[Vs m x h9]at f |-;split at f
  ·simp at f
  rename_i a;rw[za a];exact h.succ rfl rfl (by simp[ByteArray.size_append,one_size])
 by_cases h10:m.state=10
 ·rw[UA m x h10]at f |-;exact PI h x f
 by_cases h11:m.state=11
 ·rw[UB m x h11]at f |-;exact Ob h x f
 by_cases h7:m.state=7
 ·rw[UC m x h7]at f |-;split at f
  ·simp at f
  rename_i a;rw[za a];exact h.succ rfl rfl (by simp)
 unfold step at f |-;rw[za h8,za h9,za h10,za h11,za h7]at f |-;split at f
 ·rename_i a;rw[zb a];exact h.succ rfl rfl (by simp)
 rename_i a;rw[za a];split at f
 ·rename_i b;rw[zb b];exact Ha h x f
 rename_i b;rw[za b];split at f
 ·rename_i c;rw[zb c];exact Aq h x f
 rename_i c;rw[za c];split at f
 ·rename_i d;rw[zb d];split at f
  ·simp at f
  rename_i e;rw[za e];exact h.succ rfl rfl I4
 rename_i d;rw[za d];exact Li h x f
def init:zl:={ state:=1,opn:=[],nodes:=[],named:=false,got:=⟨#[]⟩,need:=0,low:=0,high:=0,number:=0,word:=⟨#[]⟩,root:=0 }
theorem Az{m:zl}(h:Wf m)(x:Int)(c:(yc m x).1=0):Wf (yc m x).2:=by
 unfold yc at c |-;split at c
 ·simp at c
 split at c
 ·simp at c
 rename_i a b;rw[za a,za b];exact⟨by simp,by simp,by simp,by simp,by simp,by simp,by simp,h.small⟩
theorem Hl{m:zl}(h:Wf m)(x:Int)(f:(after m x).1=0):Wf (after m x).2:=by
 unfold after at f |-;split at f
 ·rename_i a;rw[zb a];exact⟨by simp,by simp,by simp,by simp,by simp,by simp,by simp,h.small⟩
 split at f
 ·simp at f
 split at f
 ·rename_i a b c;rw[za a,za b,zb c];exact Az h x f
 split at f
 ·simp at f
 rename_i a b c d;rw[za a,za b,za c,za d];have g:m.opn≠[]:=λe=>b (.inr e)
 by_cases hk:Zm m=1
 ·rw[zb hk];exact⟨by simp,by simp,by simp,by simp,by simp,by simp,λ_ _=>g,h.small⟩
 rw[za hk];exact⟨by simp,by simp,by simp,by simp,by simp,by simp,by simp,h.small⟩
theorem Lr{m:zl}(h:Wf m)(x:Int)(f:(vz m x).1=0):Wf (vz m x).2:=by
 unfold vz at f |-;split at f
 ·rename_i a;rw[zb a];split at f
  ·simp at f
  rename_i b;rw[za b];have e:∀(d:Node),(lay { m with state:=if x=91 then 2 else 3 } d).state=if x=91 then 2 else 3:=λd=>KD _ d
  have i:(if x=91 then (2:Int) else 3)=2\/(if x=91 then (2:Int) else 3)=3:=by split<;>simp
  refine⟨?_,?_,?_,?_,?_,?_,?_,?_⟩
  ·simp only[e];omega
  ·simp only[e];omega
  ·simp only[e];intro k;omega
  ·simp only[e];intro j;omega
  ·simp only[e];intro l;omega
  ·simp only[e];intro g;omega
  ·intro _ _;simp
  simp only[Cb];exact h.small
 rename_i a;rw[za a];split at f
 ·rename_i b;rw[zb b];exact⟨by simp,by simp,by simp,by simp,by simp,by simp,by simp,h.small⟩
 rename_i b;rw[za b];split at f
 ·rename_i c;rw[zb c];exact⟨by simp,by simp,by simp,λ_=>by show 1<=3;omega,by simp,by simp,by simp,by show 3<=10;omega⟩
 rename_i c;rw[za c];split at f
 ·rename_i d;rw[zb d];exact⟨by simp,by simp,by simp,λ_=>by show 1<=4;omega,by simp,by simp,by simp,by show 4<=10;omega⟩
 simp at f
theorem MK{m:zl}(h:Wf m)(e:m.state=8)(c:(closed m).1=0):Wf (closed m).2:=by
 unfold closed at c |-;split at c
 ·rename_i a;rw[zb a];exact⟨by simp,by simp,by simp,by simp,by simp,by simp,by simp,by simp only[Cb];exact h.small⟩
 split at c
 ·simp at c
 rename_i a b;rw[za a,za b];have d:=h.named (by omega) (by simpa using a);exact⟨by simp,by simp,by simp,by simp,by simp,by simp,λ_ _=>d,h.small⟩
theorem zcn{m:zl}(h:Wf m)(i:m.state=8)(x:Int)(f:(plain m x).1=0):Wf (plain m x).2:=by
 have g:=h.named (by omega);unfold plain at f |-;split at f
 ·rename_i a;rw[zb a];exact MK h i f
 rename_i a;rw[za a];split at f
 ·rename_i b;rw[zb b];exact⟨by simp,by simp,λ_=>g,by simp,by simp,by simp,by simp,h.small⟩
 rename_i b;rw[za b];split at f
 ·simp at f
 rename_i c;rw[za c];split at f
 ·rename_i d;rw[zb d];exact⟨h.lo,h.hi,λ_=>g,h.word,h.need9,h.need11,h.opens,h.small⟩
 rename_i d;rw[za d];split at f
 ·simp at f
 rename_i e;rw[za e];have j:=mF x;exact⟨by simp,by simp,λ_=>g,by simp,λ_=>by simp only;omega,by simp,by simp,h.small⟩
theorem PN{m:zl}(h:Wf m)(g:m.state=10)(x:Int)(f:(escape m x).1=0):Wf (escape m x).2:=by
 have e:=h.named (by omega);unfold escape at f |-;split at f
 ·rename_i a;rw[zb a];exact⟨by simp,by simp,λ_=>e,by simp,by simp,by simp,by simp,h.small⟩
 rename_i a;rw[za a];split at f
 ·rename_i b;rw[zb b];exact⟨by simp,by simp,λ_=>e,by simp,by simp,by simp,by simp,h.small⟩
 rename_i b;rw[za b];split at f
 ·rename_i c;rw[zb c];exact⟨by simp,by simp,λ_=>e,by simp,by simp,by simp,by simp,h.small⟩
 rename_i c;rw[za c];split at f
 ·rename_i d;rw[zb d];exact⟨by simp,by simp,λ_=>e,by simp,by simp,λ_=>by simp,by simp,h.small⟩
 simp at f
theorem Og{m:zl}(h:Wf m)(i:m.state=11)(x:Int)(f:(digit m x).1=0):Wf (digit m x).2:=by
 have g:=h.named (by omega);obtain⟨o,p,q,r,j,k,l⟩:=h.need11 i
 have n:-1<=zP x/\zP x<=15:=by
  unfold zP;split
  ·omega
  split
  ·omega
  split
  ·omega
  omega
 unfold digit at f |-;split at f
 ·simp at f
 rename_i a;rw[za a];split at f
 ·simp at f
 rename_i b;rw[za b];split at f
 ·rename_i c;rw[zb c];exact⟨by simp,by simp,λ_=>g,by simp,by simp,by simp,by simp,h.small⟩
 rename_i c;rw[za c];have d:m.need=2\/m.need=3\/m.need=4:=by omega
 refine⟨h.lo,h.hi,λ_=>g,by simp only;omega,by simp only;omega,?_,by simp only;omega,h.small⟩;intro _;simp only
 rcases d with e|e|e
 ·have:=l e;omega
 ·have:=k e;omega
 have:=j e;omega
theorem oH{m:zl}(h:Wf m)(x:Int)(f:(step m x).1=0):Wf (step m x).2:=by
 by_cases h8:m.state=8
 ·rw[YZ m x h8]at f |-;exact zcn h h8 x f
 by_cases h9:m.state=9
 ·have i:=h.named (by omega);have n:=h.need9 h9;rw[Vs m x h9]at f |-;split at f
  ·simp at f
  rename_i a;rw[za a]
  by_cases hz:m.need-1=0
  ·rw[zb hz];exact⟨by simp,by simp,λ_=>i,by simp,by simp,by simp,by simp,h.small⟩
  rw[za hz];exact⟨by simp,by simp,λ_=>i,by simp,λ_=>by simp only;omega,by simp,by simp,h.small⟩
 by_cases h10:m.state=10
 ·rw[UA m x h10]at f |-;exact PN h h10 x f
 by_cases h11:m.state=11
 ·rw[UB m x h11]at f |-;exact Og h h11 x f
 by_cases h7:m.state=7
 ·have p:=h.word h7;have o:=h.small;rw[UC m x h7]at f |-;split at f
  ·simp at f
  rename_i a;rw[za a];have g:(m.word.extract 1 m.word.size).size=m.word.size-1:=by rw[yM];omega
  by_cases hz:m.word.size=1
  ·rw[zb hz];exact⟨by simp,by simp,by simp,by simp,by simp,by simp,by simp,by simp only[g];omega⟩
  rw[za hz];exact⟨by simp,by simp,by simp,λ_=>by simp only[g];omega,by simp,by simp,by simp,by simp only[g];omega⟩
 have l:=h.lo;have k:=h.hi;rw[Y0 m x (by omega)]at f |-;split at f
 ·rename_i a;rw[zb a];exact h
 rename_i a;rw[za a];split at f
 ·rename_i b;rw[zb b];exact Hl h x f
 rename_i b;rw[za b];split at f
 ·rename_i c;rw[zb c];exact Az h x f
 rename_i c;rw[za c];split at f
 ·rename_i d;rw[zb d];split at f
  ·simp at f
  rename_i e;rw[za e];have j:=h.opens (by omega) (by omega);exact⟨by simp,by simp,λ_ _=>j,by simp,by simp,by simp,by simp,h.small⟩
 rename_i d;rw[za d];exact Lr h x f
def run:zl->List UInt8->Nat->Int×Nat×zl
 | m,[],p=>(0,p,m)
 | m,c::r,p=>if (step m (c.toNat:Int)).1=0 then run (step m (c.toNat:Int)).2 r (p+1) else ((step m (c.toNat:Int)).1,p,m)
def pend(m:zl):Prop:=m.state=5\/m.state=1\/(8<=m.state/\m.named=false)
def asks(m:zl):Prop:=(2<=m.state/\m.state<=7)\/(8<=m.state/\m.named=true)
def ai(m:zl):Prop:=∀(i:Nat) (n:Node),m.opn.getLast?=some i->m.nodes[i]?=some n->n.kind≠1
def Ev(ns:List Node):Prop:=∀(i:Nat) (n:Node),ns[i]?=some n->(∀k ∈ n.kids,k<ns.length)/\(n.kind=1->n.names.length=n.kids.length)
structure Tree (m:zl):Prop where
 kids:∀(i:Nat) (n:Node),m.nodes[i]?=some n->∀k ∈ n.kids,k<m.nodes.length
 even:∀(i:Nat) (n:Node),m.nodes[i]?=some n->¬(pend m/\m.opn.getLast?=some i)->n.kind=1->n.names.length=n.kids.length
 odd:∀(i:Nat) (n:Node),m.nodes[i]?=some n->pend m->m.opn.getLast?=some i->n.kind=1->n.names.length=n.kids.length+1
 two:m.state=2->ai m
 full:asks m->m.nodes≠[]
 root0:0<=m.root
 root:m.nodes≠[]->m.root<(m.nodes.length:Int)
theorem Tree.like{m m':zl}(h:Tree m)(b:m'.opn=m.opn)(a:m'.nodes=m.nodes)(d:m'.root=m.root)(c:pend m'↔pend m)(f:m'.state=2->m.state=2)(g:asks m'->asks m):Tree m':=by
 refine⟨by rw[a];exact h.kids,by rw[a,b,c];exact h.even,by rw[a,b,c];exact h.odd,λe=>?_,λe=>by rw[a];exact h.full (g e),by rw[d];exact h.root0,by rw[a,d];exact h.root⟩
 have:=h.two (f e)
 unfold ai at this |-;rw[b,a];exact this
theorem Tree.ev{m:zl}(h:Tree m)(b:¬pend m):Ev m.nodes:=λi n a=>⟨h.kids i n a,h.even i n a (λe=>b e.1)⟩
theorem Tree.of{m:zl}(h:Ev m.nodes)(f:¬pend m)(c:m.state=2->ai m)(d:m.nodes≠[])(b:0<=m.root)(g:m.root<(m.nodes.length:Int)):Tree m:=
 ⟨λi n a=>(h i n a).1,λi n a _=>(h i n a).2,λ_ _ _ e=>absurd e f,c,λ_=>d,b,λ_=>g⟩
theorem BV{l:List Nat}{o:Nat}(h:l.getLast?=some o):l.getLastD 0=o:=by
 cases l with
 | nil=>simp at h
 | cons a r=>simpa [List.getLastD,List.getLast?] using h
theorem mo{l:List Nat}(h:l≠[]):l.getLast?=some (l.getLastD 0):=by
 cases l with
 | nil=>exact absurd rfl h
 | cons a r=>simp[List.getLastD,List.getLast?]
theorem Vl{α:Type}(l:List α)(f:α->α)(o i:Nat)(d:α)(h:(l.modify o f)[i]?=some d):∃c,l[i]?=some c/\d=if o=i then f c else c:=by
 rw[Q7]at h
 cases hc:l[i]? with
 | none=>rw[hc]at h;simp at h
 | some c=>rw[hc]at h;simp at h;exact⟨c,rfl,h.symm⟩
theorem dF{m:zl}(h:Tree m)(v:∀o ∈ m.opn,o<m.nodes.length)(r:pend m\/ai m)(d:Node)(s:d.names=[])(t:d.kids=[]):Ev (lay m d).nodes/\(lay m d).nodes≠[]/\0<=(lay m d).root/\(lay m d).root<((lay m d).nodes.length:Int):=by
 have base:∀(i:Nat) (e:Node),(m.nodes++[d])[i]?=some e->m.nodes[i]?=some e\/(i=m.nodes.length/\e=d):=by
  intro i e b;rw[XQ]at b;split at b
  ·exact .inl b
  rename_i y;have u:=xC b;simp only[yx]at u
  have:=zU.1 b
  obtain⟨w,_⟩:=this;simp only[kX]at w;exact .inr ⟨by omega,u⟩
 have g:=h.root0;have n:=h.root;unfold lay
 by_cases hop:m.opn=[]
 ·rw[zb hop];refine⟨?_,by simp,by simp,by simp;omega⟩;intro i e b
  rcases base i e b with p|⟨_,rfl⟩
  ·refine⟨λk f=>?_,h.even i e p (by rw[hop];simp)⟩
   have:=h.kids i e p k f
   simp;omega
  rw[s,t];simp
 rw[za hop];refine⟨?_,by simp[yH],g,?_⟩
 ·have a:=mo hop;have j:=v _ (List.mem_of_getLast? a);obtain⟨o,x⟩:=Nm (m.opn.getLastD 0);simp only[x]at a j |-;intro i e b;unfold yH at b |-;obtain⟨c,p,q⟩:=Vl _ _ _ _ _ b;clear b;have b:=q;clear q;simp only[gB,qE,kX]
  ·by_cases hoi:o=i
   ·rw[zb hoi]at b;subst b;simp only[vg,yx,qE,kX]
    rcases base i c p with hb|⟨hb,rfl⟩
    ·refine⟨λk f=>?_,λl=>?_⟩
     ·rcases f with f|rfl
      ·have:=h.kids i c hb k f;omega
      omega
     rcases r with r|r
     ·exact h.odd i c hb r (by rw[a,hoi]) l
     exact absurd l (r i c (by rw[a,hoi]) hb)
    omega
   rw[za hoi]at b;subst b
   rcases base i e p with hb|⟨hb,rfl⟩
   ·refine⟨λk f=>?_,h.even i e hb (λe=>hoi ?_)⟩
    ·have:=h.kids i e hb k f;omega
    have:=e.2;rw[a]at this;simpa using this
   rw[s,t];simp
 simp[yH];have j:=v _ (List.mem_of_getLast? (mo hop))
 have:=n (λe=>by rw[e]at j;simp at j)
 omega
theorem Aw{m:zl}(h:Tree m)(e:¬pend m)(d:asks m)(x:Int)(c:(yc m x).1=0):Tree (yc m x).2:=by
 unfold yc at c |-;split at c
 ·simp at c
 split at c
 ·simp at c
 rename_i a b;rw[za a,za b];exact Tree.of (h.ev e) (by unfold pend;simp) (by simp) (h.full d) h.root0 (h.root (h.full d))
theorem Hf{m:zl}(h:Tree m)(q:m.state=6\/m.state=5)(x:Int)(f:(after m x).1=0):Tree (after m x).2:=by
 unfold after at f |-;split at f
 ·rename_i a;rw[zb a];exact h.like rfl rfl rfl (by unfold pend;simp[a.1]) (by simp) (by unfold asks;simp)
 split at f
 ·simp at f
 rename_i a b;have r:m.state=6:=by omega
 split at f
 ·rename_i c;rw[za a,za b,zb c];exact Aw h (by unfold pend;omega) (by unfold asks;omega) x f
 split at f
 ·simp at f
 rename_i c d;rw[za a,za b,za c,za d];have g:=h.ev (by unfold pend;omega);have l:=h.full (by unfold asks;omega);have p:m.opn≠[]:=λe=>b (.inr e)
 by_cases hk:Zm m=1
 ·rw[zb hk];exact Tree.of g (by unfold pend;simp) (by simp) l h.root0 (h.root l)
 rw[za hk];refine⟨λi n j=>(g i n j).1,λi n j _=>(g i n j).2,?_,by simp,by unfold asks;simp,h.root0,h.root⟩;intro i n j _ o k;unfold Zm at hk;rw[BV o,j]at hk;exact absurd k hk
theorem Ll{m:zl}(h:Tree m)(y:∀o ∈ m.opn,o<m.nodes.length)(q:m.state=1\/m.state=2)(x:Int)(g:(vz m x).1=0):Tree (vz m x).2:=by
 have k:pend m\/ai m:=by
  rcases q with e|e
  ·exact .inl (.inr (.inl e))
  exact .inr (h.two e)
 unfold vz at g |-;split at g
 ·rename_i a;rw[zb a];split at g
  ·simp at g
  rename_i b;rw[za b];have v:∀d,(lay { m with state:=if x=91 then 2 else 3 } d).nodes=(lay m d).nodes:=λd=>by unfold lay;simp only;split<;>rfl
  have z:∀d,(lay { m with state:=if x=91 then 2 else 3 } d).root=(lay m d).root:=λd=>by unfold lay;simp only;split<;>rfl
  have A:∀d,(lay { m with state:=if x=91 then 2 else 3 } d).state=if x=91 then 2 else 3:=λd=>KD _ d
  obtain⟨r,s,t,u⟩:=dF h y k { kind:=if x=91 then 2 else 1,text:=⟨#[]⟩,names:=[],kids:=[] } rfl rfl
  refine Tree.of (by simp only[v];exact r) ?_ ?_ (by simp only[v];exact s) (by simp only[z];exact t) (by simp only[v,z];exact u)
  ·unfold pend;simp only[A];split<;>omega
  simp only[A];intro C i n j f;simp only[List.getLast?_append,List.getLast?_singleton,Option.some_or,Option.some.injEq]at j;subst j;simp only[v]at f;have w:x=91:=by by_cases e:x=91;exact e;rw[za e]at C;omega
  subst w;simp only[qJ]at f;unfold lay at f;split at f
  ·simp at f;rw[<- f];simp
  unfold yH at f;rw[Q7]at f;simp at f;rw[<- f];split<;>simp
 rename_i a;rw[za a];split at g
 ·rename_i b;rw[zb b]
  rcases q with e|e
  ·exact h.like rfl rfl rfl (by unfold pend;simp[e]) (by simp) (by unfold asks;simp)
  have l:=h.ev (by unfold pend;omega);refine⟨λi n j=>(l i n j).1,λi n j _=>(l i n j).2,?_,by simp,by unfold asks;simp,h.root0,h.root⟩;intro i n j _ B p;exact absurd p (h.two e i n B j)
 rename_i b;rw[za b];split at g
 ·rename_i c;rw[zb c];obtain⟨r,s,t,u⟩:=dF h y k { kind:=4,text:=⟨#[]⟩,names:=[],kids:=[] } rfl rfl;exact Tree.of r (by unfold pend;simp) (by simp) s t u
 rename_i c;rw[za c];split at g
 ·rename_i d;rw[zb d];obtain⟨r,s,t,u⟩:=dF h y k { kind:=5,text:=⟨#[]⟩,names:=[],kids:=[] } rfl rfl;exact Tree.of r (by unfold pend;simp) (by simp) s t u
 simp at g
theorem MI{m:zl}(h:Tree m)(x:∀o ∈ m.opn,o<m.nodes.length)(C:m.state=8)(s:m.named=true->m.opn≠[])(r:(closed m).1=0):Tree (closed m).2:=by
 unfold closed at r |-;split at r
 ·rename_i a;rw[zb a];obtain⟨y,z,A,B⟩:=dF h x (.inl (.inr (.inr ⟨by omega,a⟩))) { kind:=3,text:=m.got,names:=[],kids:=[] } rfl rfl;exact Tree.of y (by unfold pend;simp) (by simp) z A B
 split at r
 ·simp at r
 rename_i a b;rw[za a,za b];have l:m.named=true:=by simpa using a
 have f:=h.ev (by unfold pend;simp[l];omega);have v:=h.full (.inr ⟨by omega,l⟩);have j:=mo (s l);refine⟨?_,?_,?_,by simp,λ_=>by simpa [yU] using v,h.root0,λ_=>by simpa [yU] using h.root v⟩
 ·intro i n p k u;simp only[yU,gB]
  rcases mO _ _ _ _ _ p with g|⟨c,g,rfl⟩
  ·exact(f i n g).1 k u
  exact(f i c g).1 k u
 ·intro i n p t e;obtain⟨c,g,d⟩:=Vl _ _ _ _ _ p
  by_cases hoi:m.opn.getLastD 0=i
  ·exact absurd ⟨.inl rfl,by simp only;rw[j,hoi]⟩ t
  rw[za hoi]at d;subst d;exact(f i _ g).2 e
 intro i n p _ w e;obtain⟨c,g,d⟩:=Vl _ _ _ _ _ p;have q:=BV w;simp only at q;rw[zb q]at d;subst d
 have:=(f i c g).2 e
 simp;omega
theorem zcl{m:zl}(h:Tree m)(j:∀o ∈ m.opn,o<m.nodes.length)(g:m.state=8)(i:m.named=true->m.opn≠[])(x:Int)(f:(plain m x).1=0):Tree (plain m x).2:=by
 unfold plain at f |-;split at f
 ·rename_i a;rw[zb a];exact MI h j g i f
 rename_i a;rw[za a];split at f
 ·rename_i b;rw[zb b];exact h.like rfl rfl rfl (by unfold pend;simp[g]) (by simp) (by unfold asks;simp[g])
 rename_i b;rw[za b];split at f
 ·simp at f
 rename_i c;rw[za c];split at f
 ·rename_i d;rw[zb d];exact h.like rfl rfl rfl (by unfold pend;simp) (by simp) (by unfold asks;simp)
 rename_i d;rw[za d];split at f
 ·simp at f
 rename_i e;rw[za e];exact h.like rfl rfl rfl (by unfold pend;simp[g]) (by simp) (by unfold asks;simp[g])
theorem PL{m:zl}(h:Tree m)(e:m.state=10)(x:Int)(f:(escape m x).1=0):Tree (escape m x).2:=by
 unfold escape at f |-;split at f
 ·rename_i a;rw[zb a];exact h.like rfl rfl rfl (by unfold pend;simp[e]) (by simp) (by unfold asks;simp[e])
 rename_i a;rw[za a];split at f
 ·rename_i b;rw[zb b];exact h.like rfl rfl rfl (by unfold pend;simp[e]) (by simp) (by unfold asks;simp[e])
 rename_i b;rw[za b];split at f
 ·rename_i c;rw[zb c];exact h.like rfl rfl rfl (by unfold pend;simp[e]) (by simp) (by unfold asks;simp[e])
 rename_i c;rw[za c];split at f
 ·rename_i d;rw[zb d];exact h.like rfl rfl rfl (by unfold pend;simp[e]) (by simp) (by unfold asks;simp[e])
 simp at f
theorem Od{m:zl}(h:Tree m)(e:m.state=11)(x:Int)(d:(digit m x).1=0):Tree (digit m x).2:=by
 unfold digit at d |-;split at d
 ·simp at d
 rename_i a;rw[za a];split at d
 ·simp at d
 rename_i b;rw[za b];split at d
 ·rename_i c;rw[zb c];exact h.like rfl rfl rfl (by unfold pend;simp[e]) (by simp) (by unfold asks;simp[e])
 rename_i c;rw[za c];exact h.like rfl rfl rfl (by unfold pend;simp) (by simp) (by unfold asks;simp)
theorem zen{m:zl}(h:Tree m)(i:Wf m)(k:∀o ∈ m.opn,o<m.nodes.length)(x:Int)(f:(step m x).1=0):Tree (step m x).2:=by
 have g:=i.named
 by_cases h8:m.state=8
 ·rw[YZ m x h8]at f |-;exact zcl h k h8 (g (by omega)) x f
 by_cases h9:m.state=9
 ·rw[Vs m x h9]at f |-;split at f
  ·simp at f
  rename_i a;rw[za a]
  by_cases hz:m.need-1=0
  ·rw[zb hz];exact h.like rfl rfl rfl (by unfold pend;simp[h9]) (by simp) (by unfold asks;simp[h9])
  rw[za hz];exact h.like rfl rfl rfl (by unfold pend;simp[h9]) (by simp) (by unfold asks;simp[h9])
 by_cases h10:m.state=10
 ·rw[UA m x h10]at f |-;exact PL h h10 x f
 by_cases h11:m.state=11
 ·rw[UB m x h11]at f |-;exact Od h h11 x f
 by_cases h7:m.state=7
 ·rw[UC m x h7]at f |-;split at f
  ·simp at f
  rename_i a;rw[za a]
  by_cases hz:m.word.size=1
  ·rw[zb hz];exact h.like rfl rfl rfl (by unfold pend;simp[h7]) (by simp) (by unfold asks;simp[h7])
  rw[za hz];exact h.like rfl rfl rfl (by unfold pend;simp[h7]) (by simp) (by unfold asks;simp[h7])
 have n:=i.lo;have l:=i.hi;rw[Y0 m x (by omega)]at f |-;split at f
 ·rename_i a;rw[zb a];exact h
 rename_i a;rw[za a];split at f
 ·rename_i b;rw[zb b];exact Hf h b x f
 rename_i b;rw[za b];split at f
 ·rename_i c;rw[zb c];exact Aw h (by unfold pend;omega) (by unfold asks;omega) x f
 rename_i c;rw[za c];split at f
 ·rename_i d;rw[zb d];split at f
  ·simp at f
  rename_i e;rw[za e];have j:=h.full (by unfold asks;omega);exact Tree.of (h.ev (by unfold pend;omega)) (by unfold pend;simp) (by simp) j h.root0 (h.root j)
 rename_i d;rw[za d];exact Ll h k (by omega) x f
theorem Tk:Tree init:=
 ⟨λi n a=>by simp[init]at a,λi n a=>by simp[init]at a,λi n a=>by simp[init]at a,by simp[init],by unfold asks;simp[init],by simp[init],λe=>absurd rfl e⟩
theorem Fj:∀(l:List UInt8) (m:zl) (p k:Nat),Tree m->Wf m->Bnd k m->(run m l p).1=0->Tree (run m l p).2.2/\Wf (run m l p).2.2
 | [],m,p,k,h,hw,hb,_=>⟨h,hw⟩
 | c::r,m,p,k,h,hw,hb,he=>by
  unfold run at he |-
  by_cases hs:(step m (c.toNat:Int)).1=0
  ·rw[zb hs]at he |-;exact Fj r _ _ (k+1) (zen h hw hb.top _ hs) (oH hw _ hs) (oz hb _ hs) he
  rw[za hs]at he;exact absurd he hs
def vW:List BY->List Nat->BY->Int
 | s::ss,k::ks,name=>if s.toList==name.toList then (k:Int) else vW ss ks name
 | _,_,_=>-1
def zq(n:Node)(name:BY):Int:=vW n.names n.kids name
def jA(n:Node)(names:List BY):Bool:=n.names.all (λs=>names.any λt=>t.toList==s.toList)&&n.kind==1
theorem Sl(b:List BY)(a:List Nat)(name:BY)(i:Nat)(c:i<b.length)(d:i<a.length)(h:(b[i].toList==name.toList)=true):vW (b.drop i) (a.drop i) name=(a[i]:Int):=by
 rw[jD c,jD d,vW,zb h]
theorem Sm(a:List BY)(b:List Nat)(name:BY)(i:Nat)(c:i<a.length)(d:i<b.length)(h:(a[i].toList==name.toList)=false):vW (a.drop i) (b.drop i) name=vW (a.drop (i+1)) (b.drop (i+1)) name:=by
 rw[jD c,jD d,vW,za (by simp[h])]
theorem Sk(a:List BY)(b:List Nat)(name:BY)(i:Nat)(c:¬i<a.length):vW (a.drop i) (b.drop i) name = -1:=by
 rw[Yw (by omega),vW]
 simp
theorem su(ts:List BY)(s:BY)(k:Nat)(c:k<ts.length)(x:Bool)(d:x=(ts.take k).any λt=>t.toList==s.toList)(b:Bool)(a:(ts[k].toList==s.toList)=b):(x||b)=(ts.take (k+1)).any λt=>t.toList==s.toList:=by
 rw[Q9 c,List.any_append,<- d];simp[a]
theorem Ir(ts:List BY)(s:BY)(k:Nat)(b:¬k<ts.length)(x:Bool)(a:x=(ts.take k).any λt=>t.toList==s.toList):(ts.any λt=>t.toList==s.toList)=x:=by
 rw[uA (by omega)]at a;exact a.symm
theorem rX{α:Type}(l:List α)(f:α->Bool)(k:Nat)(b:k<l.length)(h:(l.take k).all f=true)(a:f l[k]=true):(l.take (k+1)).all f=true:=by
 rw[Q9 b,VE,h];simp[a]
theorem rY{α:Type}(l:List α)(f:α->Bool)(k:Nat)(b:k<l.length)(a:f l[k]=false):l.all f=false:=by
 rw[List.all_eq_false];exact⟨l[k],qm b,by simp[a]⟩
theorem rW{α:Type}(l:List α)(f:α->Bool)(k:Nat)(a:¬k<l.length)(h:(l.take k).all f=true):l.all f=true:=by
 rw[uA (by omega)]at h;exact h
theorem KI(l:List Nat)(j:Nat)(h:j<l.length):(l.map λ(n:Nat)=>Value.int .i64 (n:Int))[j]?=some (R9 (l[j]:Int)):=by
 simp[h]
def kw(K:Nat)(ns:List Node):Prop:=∀(i:Nat) (n:Node),ns[i]?=some n->n.text.size<=K
theorem dI{K:Nat}{m:zl}(h:kw K m.nodes)(d:Node)(f:d.text.size<=K):kw K (lay m d).nodes:=by
 have base:kw K (m.nodes++[d]):=by
  intro i e a;rw[XQ]at a;split at a
  ·exact h i e a
  have:=xC a
  simp only[yx]at this;subst this;exact f
 unfold lay;split
 ·exact base
 intro i e a;obtain⟨c,b,rfl⟩:=Vl _ _ _ _ _ a
 have:=base i c b
 split<;>exact this
theorem Au(m:zl)(x:Int):(yc m x).2.nodes=m.nodes:=by unfold yc;split<;>(try split)<;>rfl
theorem He(m:zl)(x:Int):(after m x).2.nodes=m.nodes:=by
 unfold after;split
 ·rfl
 split
 ·rfl
 split
 ·exact Au m x
 split<;>rfl
theorem PK(m:zl)(x:Int):(escape m x).2.nodes=m.nodes:=by unfold escape;repeat' (split<;>try rfl)
theorem Oc(m:zl)(x:Int):(digit m x).2.nodes=m.nodes:=by unfold digit;repeat' (split<;>try rfl)
theorem Lj{K:Nat}{m:zl}(h:kw K m.nodes)(x:Int):kw K (vz m x).2.nodes:=by
 unfold vz;split
 ·split
  ·exact h
  exact dI (m:={ m with state:=if x=91 then 2 else 3 }) h _ I4
 split
 ·exact h
 split
 ·exact dI h _ I4
 split
 ·exact dI h _ I4
 exact h
theorem MH{K:Nat}{m:zl}(h:kw K m.nodes)(d:m.got.size<=K):kw K (closed m).2.nodes:=by
 unfold closed;split
 ·exact dI h _ d
 split
 ·exact h
 intro i e b;obtain⟨c,a,rfl⟩:=Vl _ _ _ _ _ b
 have:=h i c a
 split<;>exact this
theorem zck{K:Nat}{m:zl}(h:kw K m.nodes)(a:m.got.size<=K)(x:Int):kw K (plain m x).2.nodes:=by
 unfold plain;split
 ·exact MH h a
 repeat' (split<;>try exact h)
theorem zem{K:Nat}{m:zl}(h:kw K m.nodes)(a:m.got.size<=K)(x:Int):kw K (step m x).2.nodes:=by
 unfold step;split
 ·exact zck h a x
 split
 ·split<;>exact h
 split
 ·rw[PK];exact h
 split
 ·rw[Oc];exact h
 split
 ·split<;>exact h
 split
 ·exact h
 split
 ·rw[He];exact h
 split
 ·rw[Au];exact h
 split
 ·split<;>exact h
 exact Lj h x
theorem Fh:∀(l:List UInt8) (m:zl) (p k K:Nat),kw (3*K) m.nodes->Bnd k m->k+l.length<=K->kw (3*K) (run m l p).2.2.nodes
 | [],_,_,_,_,h,_,_=>h
 | c::r,m,p,k,K,h,hb,hK=>by
  unfold run;simp only[Qf]at hK;have b:=hb.got;split
  ·rename_i a;exact Fh r _ _ (k+1) K (zem h (by omega) _) (oz hb _ a) (by omega)
  exact h
def uY(ns:List Node):List Nat->Option (List BY)
 | []=>some []
 | k::ks=>match ns[k]? with
  | some x=>if x.kind=3 then (uY ns ks).map λl=>x.text::l else none
  | none=>none
def xq(ns:List Node)(k:Int):Option (List BY):=
 if k<0 then none
 else match ns[k.toNat]? with
  | none=>none
  | some n=>if n.kind=3 then some [n.text] else if n.kind≠2\/n.kids.length<1\/10<n.kids.length then none else uY ns n.kids
theorem zeR(ns:List Node)(a:List Nat)(i:Nat)(d:i<a.length)(x:Node)(e:ns[a[i]]?=some x)(c:x.kind=3)(done:List BY)(P:Option (List BY))
  (h:P=(uY ns (a.drop i)).map λb=>done++b):P=(uY ns (a.drop (i+1))).map λb=>(done++[x.text])++b:=by
 rw[h,jD d,uY,e];simp[c,Option.map_map,Function.comp_def]
theorem zeS(ns:List Node)(a:List Nat)(i:Nat)(d:i<a.length)(x:Node)(e:ns[a[i]]?=some x)(c:x.kind≠3)(done:List BY)(P:Option (List BY))
  (h:P=(uY ns (a.drop i)).map λb=>done++b):P=none:=by
 rw[h,jD d,uY,e];simp[c]
theorem zeQ(ns:List Node)(a:List Nat)(i:Nat)(c:¬i<a.length)(done:List BY)(P:Option (List BY))
  (h:P=(uY ns (a.drop i)).map λb=>done++b):P=some done:=by
 rw[h,Yw (by omega),uY];simp
def qD(s:BY):Bool:=(parts s).isSome
theorem Gf(ns:List Node)(K:Nat)(h:kw K ns):∀(b:List Nat) (l:List BY),uY ns b=some l->∀s ∈ l,s.size<=K
 | [],l,e=>by simp[uY]at e;subst e;simp
 | k::b,l,e=>by
  rw[uY]at e;split at e
  ·rename_i x d;split at e
   ·obtain⟨r,c,rfl⟩:=vT.1 e;intro s a
    rcases Zt.1 a with rfl|a
    ·exact h k x d
    exact Gf ns K h b r c s a
   simp at e
  simp at e
theorem Gh(ns:List Node)(K:Nat)(h:kw K ns)(k:Int)(l:List BY)(e:xq ns k=some l):∀s ∈ l,s.size<=K:=by
 unfold xq at e;split at e
 ·simp at e
 split at e
 ·simp at e
 rename_i n b;split at e
 ·simp only[Option.some.injEq]at e;subst e;intro s a;simp only[yx]at a;subst a;exact h _ n b
 split at e
 ·simp at e
 exact Gf ns K h _ l e
theorem Gc(ns:List Node):∀(a:List Nat) (l:List BY),uY ns a=some l->l.length=a.length
 | [],l,e=>by simp[uY]at e;subst e;rfl
 | k::a,l,e=>by
  rw[uY]at e;split at e
  ·split at e
   ·obtain⟨r,b,rfl⟩:=vT.1 e;simp[Gc ns a r b]
   simp at e
  simp at e
theorem Gg(ns:List Node)(k:Int)(l:List BY)(e:xq ns k=some l):l.length<=10:=by
 unfold xq at e;split at e
 ·simp at e
 split at e
 ·simp at e
 split at e
 ·simp only[Option.some.injEq]at e;subst e
  simp
 split at e
 ·simp at e
 rename_i h;have:=Gc ns _ l e;omega
theorem Ep(l:List BY)(a:Bool)(j:Nat)(b:j<l.length):(a || !((l.take (j+1)).all qD))=((a || !((l.take j).all qD)) || !(qD l[j])):=by
 rw[Q9 b,VE];simp[Bool.not_and,Bool.or_assoc]
theorem Eo(l:List BY)(a:Bool)(j:Nat)(b:¬j<l.length):(a || !((l.take j).all qD))=(a || !(l.all qD)):=by
 rw[uA (by omega)]
def xx:BY:=⟨#[110,111,116]⟩
def jG(ns:List Node)(k:Int):Bool×Option (List BY):=
 if k<0 then (false,none)
 else match ns[k.toNat]? with
  | none=>(false,none)
  | some n=>if n.kind=1 then (if jA n [xx]=true/\n.names.length=1 then (true,xq ns (n.kids.getD 0 0:Nat)) else (false,none)) else (false,xq ns k)
theorem Mt(ns:List Node)(k:Int)(h:k<0):jG ns k=(false,xq ns k):=by
 unfold jG xq;rw[zb h,zb h]
def digits(l:List UInt8):Bool:=l.all λc=>decide (48<=c.toNat/\c.toNat<=57)
theorem Ah(l:List UInt8)(c:UInt8):digits (l++[c])=(digits l&&decide (48<=c.toNat/\c.toNat<=57)):=by simp[digits]
def uT(t:BY):Bool:=decide (1<=t.size/\t.size<=18)&&((t.data.toList.getD 0 0).toNat != 48)&&digits t.data.toList
def qW(s:BY):Bool:=
 (s.toList==[48])||uT (if 0<s.size/\(s.data.toList.getD 0 0).toNat=45 then s.extract 1 s.size else s)
theorem Dz(s:BY)(k:Nat)(h:k<s.size)(b:(s[k].toNat:Int)<48\/57<(s[k].toNat:Int)):uT s=false:=by
 have e:digits (s.data.toList.take (k+1))=false:=by rw[aa s k h,Ah];simp;omega
 have a:digits s.data.toList=false:=by
  have:=VK (k+1) s.data.toList
  rw[<- this];unfold digits at *;rw[VE,e];rfl
 unfold uT;rw[a];simp
theorem Ag(s:BY)(k:Nat)(h:k<s.size)(a:digits (s.data.toList.take k)=true)(b:48<=(s[k].toNat:Int))(c:(s[k].toNat:Int)<=57):digits (s.data.toList.take (k+1))=true:=by
 rw[aa s k h,Ah,a];simp;omega
theorem YK(s:BY)(h:0<s.size):s.data.toList.getD 0 0=s[0]:=by
 have e:=aa s 0 h;rw[List.take_zero]at e
 cases hl:s.data.toList with
 | nil=>rw[hl]at e;simp at e
 | cons a r=>rw[hl]at e;simp at e;simpa using e
theorem mV(s:BY)(h:0<s.size)(a:(s[0].toNat:Int)=48):uT s=false:=by
 unfold uT;rw[YK s h];simp;omega
theorem KL(s:BY)(h:¬(1<=s.size/\s.size<=18)):uT s=false:=by unfold uT;simp[h]
theorem DC(s:BY)(k:Nat)(h:¬k<s.size)(e:k<=s.size)(b:1<=s.size)(d:s.size<=18)(c:(s[0].toNat:Int)≠48)(a:digits (s.data.toList.take k)=true):uT s=true:=by
 unfold uT;rw[uA (by simp;omega)]at a;rw[a,YK s b];simp;omega
def uZ(op s:BY):Bool:=
 if op.toList==[115,97,109,101] then decide (s.size<=60)
 else if op.toList==[117,110,100,101,114] then decide (s.size<=60) && !s.toList.isEmpty
 else if op.toList==[98,101,108,111,119] then qW s
 else true
def Zz(op:BY):Bool:=(op.toList==[115,97,109,101])||(op.toList==[117,110,100,101,114])||(op.toList==[98,101,108,111,119])||(op.toList==[108,105,107,101])
def ZU(op:BY)(l:List BY):Bool:=l.all (uZ op)&&Zz op
def bOp:BY:=⟨#[111,112]⟩
def zL:BY:=⟨#[107,101,121]⟩
def bNo:BY:=⟨#[110,111]⟩
def zK:BY:=⟨#[118,97,108,117,101]⟩
structure qz where
 op:BY
 key:BY
 vals:List BY
 no:Bool
 sh:Bool
 pt:Bool
def kindOf(ns:List Node)(k:Int):Int:=match ns[k.toNat]? with
 | some x=>x.kind
 | none=>0
def textOf(ns:List Node)(k:Int):BY:=match ns[k.toNat]? with
 | some x=>x.text
 | none=>⟨#[]⟩
def xR(op:BY):Bool:=op.toList==[97,98,115,101,110,116]
def xE(op:BY):Bool:=op.toList==[108,105,107,101]
def noT(ns:List Node)(no:Int):Bool:=decide (0<=no)&&(kindOf ns no==4)
def Zg(ns:List Node)(no:Int):Bool:=decide (0<=no)&&(!(kindOf ns no==4) && !(kindOf ns no==5))
def yR:qz:=⟨⟨#[]⟩,⟨#[]⟩,[],false,true,false⟩
def Qm(ns:List Node)(n:Node):qz:=
 if zq n bOp<0\/zq n zL<0\/kindOf ns (zq n bOp)≠3\/kindOf ns (zq n zL)≠3 then yR
 else if xR (textOf ns (zq n bOp)) then
  ⟨textOf ns (zq n bOp),textOf ns (zq n zL),[],noT ns (zq n bNo),Zg ns (zq n bNo) || !ql (textOf ns (zq n zL)) || !jA n [bOp,zL,bNo],false⟩
 else
  ⟨textOf ns (zq n bOp),textOf ns (zq n zL),(xq ns (zq n zK)).getD [],noT ns (zq n bNo),
   Zg ns (zq n bNo)||(!(xq ns (zq n zK)).isSome || !ZU (textOf ns (zq n bOp)) ((xq ns (zq n zK)).getD [])) || !ql (textOf ns (zq n zL)) || !jA n [bOp,zL,bNo,zK],
   xE (textOf ns (zq n bOp)) && !((xq ns (zq n zK)).getD []).all qD⟩
structure aD where
 cs:List qz
 sh:Bool
 pt:Bool
def yX(ns:List Node)(a:List Nat):List qz:=a.map λk=>match ns[k]? with
 | some n=>Qm ns n
 | none=>yR
def X4(ns:List Node)(k:Int):aD:=
 if k<0 then ⟨[],false,false⟩
 else match ns[k.toNat]? with
  | none=>⟨[],true,false⟩
  | some n=>if n.kind≠2\/5<n.kids.length then ⟨[],true,false⟩ else ⟨yX ns n.kids,(yX ns n.kids).any qz.sh,(yX ns n.kids).any qz.pt⟩
theorem Bu(N:Nat):∀(c:List BY) (b:List Nat) (a:BY),(∀k ∈ b,k<N) -> -1<=vW c b a/\vW c b a<(N:Int)
 | [],b,a,_=>by simp[vW];omega
 | s::c,[],a,_=>by simp[vW];omega
 | s::c,k::b,a,h=>by
  unfold vW;split
  ·have:=h k (by simp);omega
  exact Bu N c b a (λj d=>h j (by simp[d]))
theorem vX{ns:List Node}(a:Ev ns){i:Nat}{n:Node}(b:ns[i]?=some n)(name:BY):-1<=zq n name/\zq n name<(ns.length:Int):=
 Bu ns.length n.names n.kids name (a i n b).1
theorem Dw{ns:List Node}{k:Int}(b:0<=k)(c:k<(ns.length:Int)):∃(j:Nat) (x:Node),k=(j:Int)/\ns[j]?=some x/\kindOf ns k=x.kind/\textOf ns k=x.text:=by
 obtain⟨j,rfl⟩:∃j:Nat,k=(j:Int):=⟨k.toNat,by omega⟩;have a:j<ns.length:=by omega
 refine⟨j,ns[j],rfl,zn a,?_,?_⟩
 ·unfold kindOf;rw[show ((j:Int)).toNat=j by simp,zn a]
 unfold textOf;rw[show ((j:Int)).toNat=j by simp,zn a]
def naming(m:zl):Prop:=m.state=3\/m.state=4\/(8<=m.state/\m.named=true)
def NoN(ns:List Node):Prop:=∀(i:Nat) (n:Node),ns[i]?=some n->n.kind≠1->n.names=[]
structure jN (m:zl):Prop where
 non:NoN m.nodes
 top:naming m->Zm m=1
theorem jN.like{m m':zl}(h:jN m)(b:m'.opn=m.opn)(a:m'.nodes=m.nodes)(c:naming m'->naming m):jN m':=
 ⟨by rw[a];exact h.non,λe=>by have:=h.top (c e);unfold Zm at this |-;rw[a,b];exact this⟩
theorem dH{m:zl}(h:NoN m.nodes)(d:Node)(g:d.names=[]):NoN (lay m d).nodes:=by
 have base:NoN (m.nodes++[d]):=by
  intro i e a b;rw[XQ]at a;split at a
  ·exact h i e a b
  have:=xC a
  simp only[yx]at this;subst this;exact g
 unfold lay;split
 ·exact base
 intro i e a b;obtain⟨c,f,rfl⟩:=Vl _ _ _ _ _ a
 by_cases e:m.opn.getLastD 0=i
 ·rw[zb e]at b |-;exact base i c f b
 rw[za e]at b |-;exact base i c f b
theorem Ay{m:zl}(h:jN m)(x:Int)(c:(yc m x).1=0):jN (yc m x).2:=by
 unfold yc at c |-;split at c
 ·simp at c
 split at c
 ·simp at c
 rename_i a b;rw[za a,za b];exact⟨h.non,λe=>by unfold naming at e;simp at e⟩
theorem Hg{m:zl}(h:jN m)(x:Int)(f:(after m x).1=0):jN (after m x).2:=by
 unfold after at f |-;split at f
 ·rename_i a;rw[zb a];exact⟨h.non,λe=>by unfold naming at e;simp at e⟩
 split at f
 ·simp at f
 rename_i a b;split at f
 ·rename_i c;rw[za a,za b,zb c];exact Ay h x f
 split at f
 ·simp at f
 rename_i c d;rw[za a,za b,za c,za d]
 by_cases hk:Zm m=1
 ·rw[zb hk];exact⟨h.non,λ_=>hk⟩
 rw[za hk];exact⟨h.non,λe=>by unfold naming at e;simp at e⟩
theorem WX{m:zl}(d:Node):∃c,(lay m d).nodes[m.nodes.length]?=some c/\c.kind=d.kind:=by
 unfold lay;split
 ·exact⟨d,by simp,rfl⟩
 unfold yH;rw[Q7];simp only[List.getElem?_concat_length];exact⟨_,rfl,by split<;>rfl⟩
theorem Lp{m:zl}(h:jN m)(x:Int)(f:(vz m x).1=0):jN (vz m x).2:=by
 unfold vz at f |-;split at f
 ·rename_i a;rw[zb a];split at f
  ·simp at f
  rename_i b;rw[za b];refine⟨dH (m:={ m with state:=if x=91 then 2 else 3 }) h.non _ rfl,λe=>?_⟩
  unfold naming at e;simp only[KD,WW]at e
  have g:¬x=91:=by
   intro i;rw[zb i]at e;omega
  obtain⟨c,j,k⟩:=WX (m:={ m with state:=if x=91 then 2 else 3 }) { kind:=if x=91 then 2 else 1,text:=⟨#[]⟩,names:=[],kids:=[] }
  unfold Zm;simp only at j;have l:(m.opn++[m.nodes.length]).getLastD 0=m.nodes.length:=by simp
  simp only[l,j,Ja,yP,k];rw[za g]
 rename_i a;rw[za a];split at f
 ·rename_i b;rw[zb b];exact⟨h.non,λe=>by unfold naming at e;simp at e⟩
 rename_i b;rw[za b];split at f
 ·rename_i c;rw[zb c];exact⟨dH h.non _ rfl,λe=>by unfold naming at e;simp at e⟩
 rename_i c;rw[za c];split at f
 ·rename_i d;rw[zb d];exact⟨dH h.non _ rfl,λe=>by unfold naming at e;simp at e⟩
 simp at f
theorem MJ{m:zl}(h:jN m)(n:m.state=8)(f:(closed m).1=0):jN (closed m).2:=by
 unfold closed at f |-;split at f
 ·rename_i a;rw[zb a];exact⟨dH h.non _ rfl,λe=>by unfold naming at e;simp at e⟩
 split at f
 ·simp at f
 rename_i a b;rw[za a,za b];have j:m.named=true:=by simpa using a
 have d:=h.top (.inr (.inr ⟨by omega,j⟩));refine⟨?_,λe=>by unfold naming at e;simp at e⟩;intro i e l g;obtain⟨c,k,rfl⟩:=Vl _ _ _ _ _ l
 by_cases hoi:m.opn.getLastD 0=i
 ·rw[zb hoi]at g;unfold Zm at d;rw[hoi,k]at d;exact absurd d g
 rw[za hoi]at g |-;exact h.non i c k g
theorem zcm{m:zl}(h:jN m)(g:m.state=8)(x:Int)(f:(plain m x).1=0):jN (plain m x).2:=by
 unfold plain at f |-;split at f
 ·rename_i a;rw[zb a];exact MJ h g f
 rename_i a;rw[za a];split at f
 ·rename_i b;rw[zb b];exact h.like rfl rfl (by unfold naming;simp[g])
 rename_i b;rw[za b];split at f
 ·simp at f
 rename_i c;rw[za c];split at f
 ·rename_i d;rw[zb d];exact h.like rfl rfl (by unfold naming;simp)
 rename_i d;rw[za d];split at f
 ·simp at f
 rename_i e;rw[za e];exact h.like rfl rfl (by unfold naming;simp[g])
theorem PM{m:zl}(h:jN m)(e:m.state=10)(x:Int)(f:(escape m x).1=0):jN (escape m x).2:=by
 unfold escape at f |-;split at f
 ·rename_i a;rw[zb a];exact h.like rfl rfl (by unfold naming;simp[e])
 rename_i a;rw[za a];split at f
 ·rename_i b;rw[zb b];exact h.like rfl rfl (by unfold naming;simp[e])
 rename_i b;rw[za b];split at f
 ·rename_i c;rw[zb c];exact h.like rfl rfl (by unfold naming;simp[e])
 rename_i c;rw[za c];split at f
 ·rename_i d;rw[zb d];exact h.like rfl rfl (by unfold naming;simp[e])
 simp at f
theorem Oe{m:zl}(h:jN m)(e:m.state=11)(x:Int)(d:(digit m x).1=0):jN (digit m x).2:=by
 unfold digit at d |-;split at d
 ·simp at d
 rename_i a;rw[za a];split at d
 ·simp at d
 rename_i b;rw[za b];split at d
 ·rename_i c;rw[zb c];exact h.like rfl rfl (by unfold naming;simp[e])
 rename_i c;rw[za c];exact h.like rfl rfl (by unfold naming;simp)
theorem zeo{m:zl}(h:jN m)(g:Wf m)(x:Int)(f:(step m x).1=0):jN (step m x).2:=by
 by_cases h8:m.state=8
 ·rw[YZ m x h8]at f |-;exact zcm h h8 x f
 by_cases h9:m.state=9
 ·rw[Vs m x h9]at f |-;split at f
  ·simp at f
  rename_i a;rw[za a]
  by_cases hz:m.need-1=0
  ·rw[zb hz];exact h.like rfl rfl (by unfold naming;simp[h9])
  rw[za hz];exact h.like rfl rfl (by unfold naming;simp[h9])
 by_cases h10:m.state=10
 ·rw[UA m x h10]at f |-;exact PM h h10 x f
 by_cases h11:m.state=11
 ·rw[UB m x h11]at f |-;exact Oe h h11 x f
 by_cases h7:m.state=7
 ·rw[UC m x h7]at f |-;split at f
  ·simp at f
  rename_i a;rw[za a]
  by_cases hz:m.word.size=1
  ·rw[zb hz];exact⟨h.non,λe=>by unfold naming at e;simp at e⟩
  rw[za hz];exact⟨h.non,λe=>by unfold naming at e;simp at e⟩
 have j:=g.lo;have i:=g.hi;rw[Y0 m x (by omega)]at f |-;split at f
 ·rename_i a;rw[zb a];exact h
 rename_i a;rw[za a];split at f
 ·rename_i b;rw[zb b];exact Hg h x f
 rename_i b;rw[za b];split at f
 ·rename_i c;rw[zb c];exact Ay h x f
 rename_i c;rw[za c];split at f
 ·rename_i d;rw[zb d];split at f
  ·simp at f
  rename_i e;rw[za e];exact h.like rfl rfl (λ_=>by unfold naming;omega)
 rename_i d;rw[za d];exact Lp h x f
theorem Tm:jN init:=⟨λi n a=>by simp[init]at a,λe=>by unfold naming at e;simp[init]at e⟩
theorem Fp:∀(l:List UInt8) (m:zl) (p:Nat),jN m->Wf m->(run m l p).1=0->jN (run m l p).2.2
 | [],_,_,h,_,_=>h
 | c::r,m,p,h,hw,he=>by
  unfold run at he |-
  by_cases hs:(step m (c.toNat:Int)).1=0
  ·rw[zb hs]at he |-;exact Fp r _ _ (zeo h hw _ hs) (oH hw _ hs) he
  rw[za hs]at he;exact absurd he hs
end U
end Go.Proofs.YtfjpcldndaiifaaGreatDoor
