/- P -/
import Derived.Test.YtdakgnaojakldaaGreatDoorP01
set_option maxRecDepth 100000
namespace Go.Proofs.YtdakgnaojakldaaGreatDoor
namespace Ref
structure Node where
 kind:Int
 text:ByteArray
 names:List ByteArray
 kids:List Nat
structure zC where
 state:Int
 opn:List Nat
 nodes:List Node
 named:Bool
 got:ByteArray
 need:Int
 low:Int
 high:Int
 number:Int
 word:ByteArray
 root:Int
def Xg (b:Int):Bool:=decide (b=32∨b=9∨b=10∨b=13)
def hexN (b:Int):Int:=
 if 48≤b∧b≤57 then b-48 else if 97≤b∧b≤102 then b-97+10 else if 65≤b∧b≤70 then b-65+10 else -1
def one (b:Int):ByteArray:=⟨#[UInt8.ofNat b.toNat]⟩
def enc (n:Int):ByteArray:=
 if n<128 then one n else if n<2048 then ⟨#[UInt8.ofNat (192+n / 64).toNat,UInt8.ofNat (128+n % 64).toNat]⟩
 else ⟨#[UInt8.ofNat (224+n / 4096).toNat,UInt8.ofNat (128+n / 64 % 64).toNat,UInt8.ofNat (128+n % 64).toNat]⟩
def xN (o k:Nat) (l:List Node):List Node:=l.modify o fun n=>{ n with kids:=n.kids++[k] }
def qQ (o:Nat) (s:ByteArray) (l:List Node):List Node:=l.modify o fun n=>{ n with names:=n.names++[s] }
def lay (m:zC) (n:Node):zC:=
 if m.opn=[] then { m with nodes:=m.nodes++[n],root:=m.nodes.length } else { m with nodes:=xN (m.opn.getLastD 0) m.nodes.length (m.nodes++[n]) }
def yD (m:zC):Int:=((m.nodes[m.opn.getLastD 0]?).map Node.kind).getD 0
def yH (m:zC) (b:Int):Int×zC:=
 if b=123∨b=91 then
  if 8≤m.opn.length then (3,m)
  else
   let m1:=lay { m with state:=if b=91 then 2 else 3 } { kind:=if b=91 then 2 else 1,text:=⟨#[]⟩,names:=[],kids:=[] }
   (0,{ m1 with opn:=m.opn++[m.nodes.length] })
 else if b=34 then (0,{ m with state:=8,named:=false,got:=⟨#[]⟩ })
 else if b=116 then (0,{ lay m { kind:=4,text:=⟨#[]⟩,names:=[],kids:=[] } with state:=7,word:=⟨#[114,117,101]⟩ })
 else if b=102 then (0,{ lay m { kind:=5,text:=⟨#[]⟩,names:=[],kids:=[] } with state:=7,word:=⟨#[97,108,115,101]⟩ })
 else (2,m)
def QM (m:zC) (b:Int):Int×zC:=
 if m.opn=[] then (2,m) else if (yD m==1) != (b==125) then (2,m) else (0,{ m with opn:=m.opn.dropLast,state:=6 })
def after (m:zC) (b:Int):Int×zC:=
 if m.state=5∧b=58 then (0,{ m with state:=1 })
 else if m.state=5∨m.opn=[] then (2,m)
 else if b=125∨b=93 then QM m b
 else if b≠44 then (2,m)
 else (0,{ m with state:=if yD m=1 then 4 else 1 })
def Xd (m:zC):List ByteArray:=((m.nodes[m.opn.getLastD 0]?).map Node.names).getD []
def closed (m:zC):Int×zC:=
 if m.named=false then (0,{ lay m { kind:=3,text:=m.got,names:=[],kids:=[] } with state:=6 })
 else if (Xd m).any (fun s=>s.toList==m.got.toList) then (4,m)
 else (0,{ m with nodes:=qQ (m.opn.getLastD 0) m.got m.nodes,state:=5 })
def plain (m:zC) (b:Int):Int×zC:=
 if b=34 then closed m
 else if b=92 then (0,{ m with state:=10 })
 else if b<32 then (2,m)
 else if b<128 then (0,{ m with got:=m.got++one b })
 else if (qE b).1=0 then (2,m)
 else (0,{ m with need:=(qE b).1,low:=(qE b).2.1,high:=(qE b).2.2,got:=m.got++one b,state:=9 })
def escape (m:zC) (b:Int):Int×zC:=
 if b=34∨b=92∨b=47 then (0,{ m with state:=8,got:=m.got++one b })
 else if b=110 then (0,{ m with state:=8,got:=m.got++one 10 })
 else if b=116 then (0,{ m with state:=8,got:=m.got++one 9 })
 else if b=117 then (0,{ m with state:=11,need:=4,number:=0 })
 else (2,m)
def digit (m:zC) (b:Int):Int×zC:=
 if hexN b<0 then (2,m)
 else if m.need-1=2∧216≤16*m.number+hexN b∧16*m.number+hexN b≤223 then (2,m)
 else if m.need-1=0 then (0,{ m with number:=16*m.number+hexN b,need:=m.need-1,got:=m.got++enc (16*m.number+hexN b),state:=8 })
 else (0,{ m with number:=16*m.number+hexN b,need:=m.need-1 })
def step (m:zC) (b:Int):Int×zC:=
 if m.state=8 then plain m b
 else if m.state=9 then
  if b<m.low∨m.high<b then (2,m) else (0,{ m with got:=m.got++one b,low:=128,high:=191,need:=m.need-1,state:=if m.need-1=0 then 8 else m.state })
 else if m.state=10 then escape m b
 else if m.state=11 then digit m b
 else if m.state=7 then
  if b≠((m.word.data.toList.getD 0 0).toNat:Int) then (2,m) else (0,{ m with word:=m.word.extract 1 m.word.size,state:=if m.word.size=1 then 6 else m.state })
 else if Xg b then (0,m)
 else if m.state=6∨m.state=5 then after m b
 else if (m.state=2∧b=93)∨(m.state=3∧b=125) then QM m b
 else if m.state=3∨m.state=4 then (if b≠34 then (2,m) else (0,{ m with state:=8,named:=true,got:=⟨#[]⟩ }))
 else yH m b
theorem xC (l:List ByteArray) (j:Nat) (h:j<l.length):(strCells l)[j]?=some (.string l[j]):=by
 simp [strCells,h]
theorem Xn (m:zC) (x:Int) (h:m.state=8):step m x=plain m x:=by unfold step;rw [if_pos h]
theorem J8 (m:zC) (x:Int) (h:m.state=9):step m x=if x<m.low∨m.high<x then (2,m) else (0,{ m with got:=m.got++one x,low:=128,high:=191,need:=m.need-1,state:=if m.need-1=0 then 8 else 9 }):=by
 unfold step;rw [if_neg (by omega),if_pos h,h]
theorem Ym (m:zC) (x:Int) (h:m.state=10):step m x=escape m x:=by unfold step;rw [if_neg (by omega),if_neg (by omega),if_pos h]
theorem X0 (m:zC) (x:Int) (h:m.state=11):step m x=digit m x:=by unfold step;rw [if_neg (by omega),if_neg (by omega),if_neg (by omega),if_pos h]
theorem UB (m:zC) (x:Int) (h:m.state=7):step m x=if x≠((m.word.data.toList.getD 0 0).toNat:Int) then (2,m) else (0,{ m with word:=m.word.extract 1 m.word.size,state:=if m.word.size=1 then 6 else 7 }):=by
 unfold step;rw [if_neg (by omega),if_neg (by omega),if_neg (by omega),if_neg (by omega),if_pos h,h]
theorem step_low (m:zC) (x:Int) (h:m.state<7):step m x=if Xg x then (0,m)
 else if m.state=6∨m.state=5 then after m x
 else if (m.state=2∧x=93)∨(m.state=3∧x=125) then QM m x
 else if m.state=3∨m.state=4 then (if x≠34 then (2,m) else (0,{ m with state:=8,named:=true,got:=⟨#[]⟩ }))
 else yH m x:=by
 unfold step;rw [if_neg (by omega),if_neg (by omega),if_neg (by omega),if_neg (by omega),if_neg (by omega)]
structure Wf (m:zC):Prop where
 lo:1≤m.state
 hi:m.state≤11
 named:8≤m.state→m.named=true→m.opn≠[]
 word:m.state=7→1≤m.word.size
 need9:m.state=9→1≤m.need∧m.need≤3∧0≤m.low∧m.low≤255∧0≤m.high∧m.high≤255
 need11:m.state=11→1≤m.need∧m.need≤4∧0≤m.number∧m.number≤4095∧(m.need=4→m.number=0)∧(m.need=3→m.number≤15)∧(m.need=2→m.number≤255)
 opens:3≤m.state→m.state≤5→m.opn≠[]
 small:m.word.size≤10
structure Bnd (n:Nat) (m:zC):Prop where
 nodes:m.nodes.length≤n
 opn:m.opn.length≤n
 kids:∀(i:Nat) (d:Node),m.nodes[i]?=some d→d.kids.length≤n∧d.names.length≤n
 got:m.got.size≤3*n
 top:∀o ∈ m.opn,o<m.nodes.length
theorem Bnd.like {n:Nat} {m m':zC} (h:Bnd n m) (ho:m'.opn=m.opn) (hn:m'.nodes=m.nodes) (hg:m'.got.size≤3*n):Bnd n m':=
 ⟨by rw [hn];exact h.nodes,by rw [ho];exact h.opn,by rw [hn];exact h.kids,hg,by rw [ho,hn];exact h.top⟩
theorem Bnd.succ {n:Nat} {m m':zC} (h:Bnd n m) (ho:m'.opn=m.opn) (hn:m'.nodes=m.nodes) (hg:m'.got.size≤m.got.size+3):Bnd (n+1) m':=by
 have h1:=h.nodes
 have h2:=h.opn
 have h3:=h.got
 exact ⟨by rw [hn];omega,by rw [ho];omega,by rw [hn];intro i d hd;have:=h.kids i d hd;omega,by omega,by rw [ho,hn];exact h.top⟩
theorem ZM {α:Type} (l:List α) (f:α→α) (o i:Nat) (d:α) (h:(l.modify o f)[i]?=some d):l[i]?=some d∨∃c,l[i]?=some c∧d=f c:=by
 rw [List.getElem?_modify] at h
 by_cases e:o=i
 ·subst e
  simp only [if_true] at h
  cases hc:l[o]? with
  | none=>rw [hc] at h;simp at h
  | some c=>rw [hc] at h;simp at h;exact .inr ⟨c,rfl,h.symm⟩
 ·simp [e] at h
  exact .inl h
theorem KI {n:Nat} {m:zC} (h:Bnd n m) (d:Node) (hd:d.names=[]) (hk:d.kids=[]):Bnd (n+1) (lay m d):=by
 have h1:=h.nodes
 have h2:=h.opn
 have h3:=h.got
 have base:∀(i:Nat) (e:Node),(m.nodes++[d])[i]?=some e→e.kids.length≤n∧e.names.length≤n:=by
  intro i e he
  rw [List.getElem?_append] at he
  split at he
  ·exact h.kids i e he
  ·have:=List.mem_of_getElem? he
   simp only [List.mem_singleton] at this
   subst this
   rw [hd,hk];simp
 unfold lay
 split
 ·refine ⟨by simp;omega,by simp only;omega,?_,by simp only;omega,?_⟩
  ·intro i e he
   have:=base i e he
   omega
  ·intro o ho
   have:=h.top o ho
   simp;omega
 ·refine ⟨by simp [xN];omega,by simp only;omega,?_,by simp only;omega,?_⟩
  ·intro i e he
   rcases ZM _ _ _ _ _ he with hc|⟨c,hc,rfl⟩
   ·have:=base i e hc;omega
   ·have:=base i c hc;simp;omega
  ·intro o ho
   have:=h.top o ho
   simp [xN];omega
theorem zeg (m:zC) (d:Node):(lay m d).opn=m.opn:=by unfold lay;split<;>rfl
theorem zlB (m:zC) (d:Node):(lay m d).nodes.length=m.nodes.length+1:=by unfold lay;split<;>simp [xN]
theorem zhL (m:zC) (d:Node):(lay m d).named=m.named:=by unfold lay;split<;>rfl
theorem ZR (m:zC) (d:Node):(lay m d).state=m.state:=by unfold lay;split<;>rfl
theorem zeq (m:zC) (d:Node):(lay m d).word=m.word:=by unfold lay;split<;>rfl
theorem ziG {n:Nat} {m:zC} (h:Bnd n m) (x:Int) (he:(QM m x).1=0):Bnd (n+1) (QM m x).2:=by
 have h1:=h.nodes
 have h2:=h.opn
 have h3:=h.got
 unfold QM at he ⊢
 split at he
 ·simp at he
 split at he
 ·simp at he
 rename_i a b
 rw [if_neg a,if_neg b]
 refine ⟨by simp only;omega,by simp only [List.length_dropLast];omega,fun i d hd=>by have:=h.kids i d hd;omega,by simp only;omega,fun o ho=>h.top o (List.dropLast_subset _ ho)⟩
theorem jd (x:Int):(one x).size=1:=rfl
theorem Ko (x:Int):(enc x).size≤3:=by unfold enc one;split<;>(try split)<;>simp [ByteArray.size]
theorem zh4 {n:Nat} {m:zC} (h:Bnd n m) (x:Int) (he:(after m x).1=0):Bnd (n+1) (after m x).2:=by
 unfold after at he ⊢
 split at he
 ·rename_i a;rw [if_pos a];exact h.succ rfl rfl (by simp)
 split at he
 ·simp at he
 split at he
 ·rename_i a b c;rw [if_neg a,if_neg b,if_pos c];exact ziG h x he
 split at he
 ·simp at he
 ·rename_i a b c d;rw [if_neg a,if_neg b,if_neg c,if_neg d];exact h.succ rfl rfl (by simp)
theorem ziM {n:Nat} {m:zC} (h:Bnd n m) (x:Int) (he:(yH m x).1=0):Bnd (n+1) (yH m x).2:=by
 have h2:=h.opn
 unfold yH at he ⊢
 split at he
 ·rename_i a
  rw [if_pos a]
  split at he
  ·simp at he
  rename_i b
  rw [if_neg b]
  have hl:=KI (m:={ m with state:=if x=91 then 2 else 3 }) (h.like rfl rfl h.got) { kind:=if x=91 then 2 else 1,text:=⟨#[]⟩,names:=[],kids:=[] } rfl rfl
  refine ⟨hl.nodes,by simp;omega,hl.kids,hl.got,?_⟩
  intro o ho
  simp only [List.mem_append,List.mem_singleton] at ho
  rw [zlB]
  rcases ho with ho|rfl
  ·have:=h.top o ho;simp only;omega
  ·simp
 rename_i a
 rw [if_neg a]
 split at he
 ·rename_i b;rw [if_pos b];exact h.succ rfl rfl (Nat.zero_le _)
 rename_i b
 rw [if_neg b]
 split at he
 ·rename_i c
  rw [if_pos c]
  have hl:=KI h { kind:=4,text:=⟨#[]⟩,names:=[],kids:=[] } rfl rfl
  exact hl.like rfl rfl hl.got
 rename_i c
 rw [if_neg c]
 split at he
 ·rename_i d
  rw [if_pos d]
  have hl:=KI h { kind:=5,text:=⟨#[]⟩,names:=[],kids:=[] } rfl rfl
  exact hl.like rfl rfl hl.got
 ·simp at he
theorem zfU {n:Nat} {m:zC} (h:Bnd n m) (he:(closed m).1=0):Bnd (n+1) (closed m).2:=by
 unfold closed at he ⊢
 split at he
 ·rename_i a
  rw [if_pos a]
  have hl:=KI h { kind:=3,text:=m.got,names:=[],kids:=[] } rfl rfl
  exact hl.like rfl rfl hl.got
 split at he
 ·simp at he
 rename_i a b
 rw [if_neg a,if_neg b]
 have h1:=h.nodes
 have h2:=h.opn
 have h3:=h.got
 refine ⟨by simp [qQ];omega,by simp only;omega,?_,by simp only;omega,?_⟩
 ·intro i e hd
  rcases ZM _ _ _ _ _ hd with hc|⟨c,hc,rfl⟩
  ·have:=h.kids i e hc;omega
  ·have:=h.kids i c hc;simp;omega
 ·intro o ho
  have:=h.top o ho
  simp [qQ];omega
theorem ziA {n:Nat} {m:zC} (h:Bnd n m) (x:Int) (he:(plain m x).1=0):Bnd (n+1) (plain m x).2:=by
 unfold plain at he ⊢
 split at he
 ·rename_i a;rw [if_pos a];exact zfU h he
 rename_i a
 rw [if_neg a]
 split at he
 ·rename_i b;rw [if_pos b];exact h.succ rfl rfl (by simp)
 rename_i b
 rw [if_neg b]
 split at he
 ·simp at he
 rename_i c
 rw [if_neg c]
 split at he
 ·rename_i d;rw [if_pos d];exact h.succ rfl rfl (by simp [ByteArray.size_append,jd])
 rename_i d
 rw [if_neg d]
 split at he
 ·simp at he
 ·rename_i e;rw [if_neg e];exact h.succ rfl rfl (by simp [ByteArray.size_append,jd])
theorem zfk {n:Nat} {m:zC} (h:Bnd n m) (x:Int) (he:(escape m x).1=0):Bnd (n+1) (escape m x).2:=by
 unfold escape at he ⊢
 split at he
 ·rename_i a;rw [if_pos a];exact h.succ rfl rfl (by simp [ByteArray.size_append,jd])
 rename_i a
 rw [if_neg a]
 split at he
 ·rename_i b;rw [if_pos b];exact h.succ rfl rfl (by simp [ByteArray.size_append,jd])
 rename_i b
 rw [if_neg b]
 split at he
 ·rename_i c;rw [if_pos c];exact h.succ rfl rfl (by simp [ByteArray.size_append,jd])
 rename_i c
 rw [if_neg c]
 split at he
 ·rename_i d;rw [if_pos d];exact h.succ rfl rfl (by simp)
 ·simp at he
theorem zhW {n:Nat} {m:zC} (h:Bnd n m) (x:Int) (he:(digit m x).1=0):Bnd (n+1) (digit m x).2:=by
 unfold digit at he ⊢
 split at he
 ·simp at he
 rename_i a
 rw [if_neg a]
 split at he
 ·simp at he
 rename_i b
 rw [if_neg b]
 split at he
 ·rename_i c;rw [if_pos c];exact h.succ rfl rfl (by have:=Ko (16*m.number+hexN x);simp [ByteArray.size_append];omega)
 ·rename_i c;rw [if_neg c];exact h.succ rfl rfl (by simp)
theorem UJ {n:Nat} {m:zC} (h:Bnd n m) (x:Int) (he:(step m x).1=0):Bnd (n+1) (step m x).2:=by
 by_cases h8:m.state=8
 ·rw [Xn m x h8] at he ⊢;exact ziA h x he
 by_cases h9:m.state=9
 ·rw [J8 m x h9] at he ⊢
  split at he
  ·simp at he
  ·rename_i a;rw [if_neg a];exact h.succ rfl rfl (by simp [ByteArray.size_append,jd])
 by_cases h10:m.state=10
 ·rw [Ym m x h10] at he ⊢;exact zfk h x he
 by_cases h11:m.state=11
 ·rw [X0 m x h11] at he ⊢;exact zhW h x he
 by_cases h7:m.state=7
 ·rw [UB m x h7] at he ⊢
  split at he
  ·simp at he
  ·rename_i a;rw [if_neg a];exact h.succ rfl rfl (by simp)
 unfold step at he ⊢
 rw [if_neg h8,if_neg h9,if_neg h10,if_neg h11,if_neg h7] at he ⊢
 split at he
 ·rename_i a;rw [if_pos a];exact h.succ rfl rfl (by simp)
 rename_i a
 rw [if_neg a]
 split at he
 ·rename_i b;rw [if_pos b];exact zh4 h x he
 rename_i b
 rw [if_neg b]
 split at he
 ·rename_i c;rw [if_pos c];exact ziG h x he
 rename_i c
 rw [if_neg c]
 split at he
 ·rename_i d
  rw [if_pos d]
  split at he
  ·simp at he
  ·rename_i e;rw [if_neg e];exact h.succ rfl rfl (Nat.zero_le _)
 ·rename_i d;rw [if_neg d];exact ziM h x he
def init:zC:={ state:=1,opn:=[],nodes:=[],named:=false,got:=⟨#[]⟩,need:=0,low:=0,high:=0,number:=0,word:=⟨#[]⟩,root:=0 }
theorem zkO {m:zC} (h:Wf m) (x:Int) (he:(QM m x).1=0):Wf (QM m x).2:=by
 unfold QM at he ⊢
 split at he
 ·simp at he
 split at he
 ·simp at he
 rename_i a b
 rw [if_neg a,if_neg b]
 exact ⟨by simp,by simp,by simp,by simp,by simp,by simp,by simp,h.small⟩
theorem after_wf {m:zC} (h:Wf m) (x:Int) (he:(after m x).1=0):Wf (after m x).2:=by
 unfold after at he ⊢
 split at he
 ·rename_i a;rw [if_pos a];exact ⟨by simp,by simp,by simp,by simp,by simp,by simp,by simp,h.small⟩
 split at he
 ·simp at he
 split at he
 ·rename_i a b c;rw [if_neg a,if_neg b,if_pos c];exact zkO h x he
 split at he
 ·simp at he
 ·rename_i a b c d
  rw [if_neg a,if_neg b,if_neg c,if_neg d]
  have hop:m.opn≠[]:=fun e=>b (.inr e)
  by_cases hk:yD m=1
  ·rw [if_pos hk];exact ⟨by simp,by simp,by simp,by simp,by simp,by simp,fun _ _=>hop,h.small⟩
  ·rw [if_neg hk];exact ⟨by simp,by simp,by simp,by simp,by simp,by simp,by simp,h.small⟩
theorem zkt {m:zC} (h:Wf m) (x:Int) (he:(yH m x).1=0):Wf (yH m x).2:=by
 unfold yH at he ⊢
 split at he
 ·rename_i a
  rw [if_pos a]
  split at he
  ·simp at he
  rename_i b
  rw [if_neg b]
  have hst:∀(d:Node),(lay { m with state:=if x=91 then 2 else 3 } d).state=if x=91 then 2 else 3:=fun d=>ZR _ d
  have hs2:(if x=91 then (2:Int) else 3)=2∨(if x=91 then (2:Int) else 3)=3:=by split<;>simp
  refine ⟨?_,?_,?_,?_,?_,?_,?_,?_⟩
  ·simp only [hst];omega
  ·simp only [hst];omega
  ·simp only [hst];intro h8;omega
  ·simp only [hst];intro h7;omega
  ·simp only [hst];intro h9;omega
  ·simp only [hst];intro h11;omega
  ·intro _ _;simp
  ·simp only [zeq];exact h.small
 rename_i a
 rw [if_neg a]
 split at he
 ·rename_i b;rw [if_pos b];exact ⟨by simp,by simp,by simp,by simp,by simp,by simp,by simp,h.small⟩
 rename_i b
 rw [if_neg b]
 split at he
 ·rename_i c
  rw [if_pos c]
  exact ⟨by simp,by simp,by simp,fun _=>by show 1≤3;omega,by simp,by simp,by simp,by show 3≤10;omega⟩
 rename_i c
 rw [if_neg c]
 split at he
 ·rename_i d
  rw [if_pos d]
  exact ⟨by simp,by simp,by simp,fun _=>by show 1≤4;omega,by simp,by simp,by simp,by show 4≤10;omega⟩
 ·simp at he
theorem zgE {m:zC} (h:Wf m) (h8:m.state=8) (he:(closed m).1=0):Wf (closed m).2:=by
 unfold closed at he ⊢
 split at he
 ·rename_i a
  rw [if_pos a]
  exact ⟨by simp,by simp,by simp,by simp,by simp,by simp,by simp,by simp only [zeq];exact h.small⟩
 split at he
 ·simp at he
 rename_i a b
 rw [if_neg a,if_neg b]
 have hop:=h.named (by omega) (by simpa using a)
 exact ⟨by simp,by simp,by simp,by simp,by simp,by simp,fun _ _=>hop,h.small⟩
theorem zjW {m:zC} (h:Wf m) (h8:m.state=8) (x:Int) (he:(plain m x).1=0):Wf (plain m x).2:=by
 have hnm:=h.named (by omega)
 unfold plain at he ⊢
 split at he
 ·rename_i a;rw [if_pos a];exact zgE h h8 he
 rename_i a
 rw [if_neg a]
 split at he
 ·rename_i b;rw [if_pos b];exact ⟨by simp,by simp,fun _=>hnm,by simp,by simp,by simp,by simp,h.small⟩
 rename_i b
 rw [if_neg b]
 split at he
 ·simp at he
 rename_i c
 rw [if_neg c]
 split at he
 ·rename_i d
  rw [if_pos d]
  exact ⟨h.lo,h.hi,fun _=>hnm,h.word,h.need9,h.need11,h.opens,h.small⟩
 rename_i d
 rw [if_neg d]
 split at he
 ·simp at he
 ·rename_i e
  rw [if_neg e]
  have hb:=Z7 x
  exact ⟨by simp,by simp,fun _=>hnm,by simp,fun _=>by simp only;omega,by simp,by simp,h.small⟩
theorem zhS {m:zC} (h:Wf m) (h10:m.state=10) (x:Int) (he:(escape m x).1=0):Wf (escape m x).2:=by
 have hnm:=h.named (by omega)
 unfold escape at he ⊢
 split at he
 ·rename_i a;rw [if_pos a];exact ⟨by simp,by simp,fun _=>hnm,by simp,by simp,by simp,by simp,h.small⟩
 rename_i a
 rw [if_neg a]
 split at he
 ·rename_i b;rw [if_pos b];exact ⟨by simp,by simp,fun _=>hnm,by simp,by simp,by simp,by simp,h.small⟩
 rename_i b
 rw [if_neg b]
 split at he
 ·rename_i c;rw [if_pos c];exact ⟨by simp,by simp,fun _=>hnm,by simp,by simp,by simp,by simp,h.small⟩
 rename_i c
 rw [if_neg c]
 split at he
 ·rename_i d;rw [if_pos d];exact ⟨by simp,by simp,fun _=>hnm,by simp,by simp,fun _=>by simp,by simp,h.small⟩
 ·simp at he
theorem zku {m:zC} (h:Wf m) (h11:m.state=11) (x:Int) (he:(digit m x).1=0):Wf (digit m x).2:=by
 have hnm:=h.named (by omega)
 obtain ⟨n1,n2,n3,n4,n5,n6,n7⟩:=h.need11 h11
 have hv:-1≤hexN x∧hexN x≤15:=by
  unfold hexN
  split
  ·omega
  split
  ·omega
  split
  ·omega
  ·omega
 unfold digit at he ⊢
 split at he
 ·simp at he
 rename_i a
 rw [if_neg a]
 split at he
 ·simp at he
 rename_i b
 rw [if_neg b]
 split at he
 ·rename_i c;rw [if_pos c];exact ⟨by simp,by simp,fun _=>hnm,by simp,by simp,by simp,by simp,h.small⟩
 ·rename_i c
  rw [if_neg c]
  have hneed:m.need=2∨m.need=3∨m.need=4:=by omega
  refine ⟨h.lo,h.hi,fun _=>hnm,by simp only;omega,by simp only;omega,?_,by simp only;omega,h.small⟩
  intro _
  simp only
  rcases hneed with e|e|e
  ·have:=n7 e;omega
  ·have:=n6 e;omega
  ·have:=n5 e;omega
theorem zdu {m:zC} (h:Wf m) (x:Int) (he:(step m x).1=0):Wf (step m x).2:=by
 by_cases h8:m.state=8
 ·rw [Xn m x h8] at he ⊢;exact zjW h h8 x he
 by_cases h9:m.state=9
 ·have hnm:=h.named (by omega)
  have hn:=h.need9 h9
  rw [J8 m x h9] at he ⊢
  split at he
  ·simp at he
  ·rename_i a
   rw [if_neg a]
   by_cases hz:m.need-1=0
   ·rw [if_pos hz];exact ⟨by simp,by simp,fun _=>hnm,by simp,by simp,by simp,by simp,h.small⟩
   ·rw [if_neg hz];exact ⟨by simp,by simp,fun _=>hnm,by simp,fun _=>by simp only;omega,by simp,by simp,h.small⟩
 by_cases h10:m.state=10
 ·rw [Ym m x h10] at he ⊢;exact zhS h h10 x he
 by_cases h11:m.state=11
 ·rw [X0 m x h11] at he ⊢;exact zku h h11 x he
 by_cases h7:m.state=7
 ·have hw:=h.word h7
  have hs:=h.small
  rw [UB m x h7] at he ⊢
  split at he
  ·simp at he
  ·rename_i a
   rw [if_neg a]
   have hsz:(m.word.extract 1 m.word.size).size=m.word.size-1:=by rw [ByteArray.size_extract];omega
   by_cases hz:m.word.size=1
   ·rw [if_pos hz];exact ⟨by simp,by simp,by simp,by simp,by simp,by simp,by simp,by simp only [hsz];omega⟩
   ·rw [if_neg hz];exact ⟨by simp,by simp,by simp,fun _=>by simp only [hsz];omega,by simp,by simp,by simp,by simp only [hsz];omega⟩
 have hlo:=h.lo
 have hhi:=h.hi
 rw [step_low m x (by omega)] at he ⊢
 split at he
 ·rename_i a;rw [if_pos a];exact h
 rename_i a
 rw [if_neg a]
 split at he
 ·rename_i b;rw [if_pos b];exact after_wf h x he
 rename_i b
 rw [if_neg b]
 split at he
 ·rename_i c;rw [if_pos c];exact zkO h x he
 rename_i c
 rw [if_neg c]
 split at he
 ·rename_i d
  rw [if_pos d]
  split at he
  ·simp at he
  ·rename_i e
   rw [if_neg e]
   have hop:=h.opens (by omega) (by omega)
   exact ⟨by simp,by simp,fun _ _=>hop,by simp,by simp,by simp,by simp,h.small⟩
 ·rename_i d;rw [if_neg d];exact zkt h x he
def run:zC→List UInt8→Nat→Int×Nat×zC
 | m,[],p=>(0,p,m)
 | m,c::r,p=>if (step m (c.toNat:Int)).1=0 then run (step m (c.toNat:Int)).2 r (p+1) else ((step m (c.toNat:Int)).1,p,m)
def pend (m:zC):Prop:=m.state=5∨m.state=1∨(8≤m.state∧m.named=false)
def asks (m:zC):Prop:=(2≤m.state∧m.state≤7)∨(8≤m.state∧m.named=true)
def zhy (m:zC):Prop:=∀(i:Nat) (n:Node),m.opn.getLast?=some i→m.nodes[i]?=some n→n.kind≠1
def Ev (ns:List Node):Prop:=∀(i:Nat) (n:Node),ns[i]?=some n→(∀k ∈ n.kids,k<ns.length)∧(n.kind=1→n.names.length=n.kids.length)
structure Tree (m:zC):Prop where
 kids:∀(i:Nat) (n:Node),m.nodes[i]?=some n→∀k ∈ n.kids,k<m.nodes.length
 even:∀(i:Nat) (n:Node),m.nodes[i]?=some n→¬(pend m∧m.opn.getLast?=some i)→n.kind=1→n.names.length=n.kids.length
 odd:∀(i:Nat) (n:Node),m.nodes[i]?=some n→pend m→m.opn.getLast?=some i→n.kind=1→n.names.length=n.kids.length+1
 two:m.state=2→zhy m
 full:asks m→m.nodes≠[]
 root0:0≤m.root
 root:m.nodes≠[]→m.root<(m.nodes.length:Int)
theorem Tree.like {m m':zC} (h:Tree m) (ho:m'.opn=m.opn) (hn:m'.nodes=m.nodes) (hr:m'.root=m.root) (hp:pend m'↔pend m) (h2:m'.state=2→m.state=2) (hf:asks m'→asks m):Tree m':=by
 refine ⟨by rw [hn];exact h.kids,by rw [hn,ho,hp];exact h.even,by rw [hn,ho,hp];exact h.odd,fun e=>?_,fun e=>by rw [hn];exact h.full (hf e),by rw [hr];exact h.root0,by rw [hn,hr];exact h.root⟩
 have:=h.two (h2 e)
 unfold zhy at this ⊢
 rw [ho,hn]
 exact this
theorem Tree.ev {m:zC} (h:Tree m) (hp:¬pend m):Ev m.nodes:=fun i n hi=>⟨h.kids i n hi,h.even i n hi (fun e=>hp e.1)⟩
theorem Tree.of {m:zC} (h:Ev m.nodes) (hp:¬pend m) (h2:m.state=2→zhy m) (hn:m.nodes≠[]) (hr0:0≤m.root) (hr:m.root<(m.nodes.length:Int)):Tree m:=
 ⟨fun i n hi=>(h i n hi).1,fun i n hi _=>(h i n hi).2,fun _ _ _ e=>absurd e hp,h2,fun _=>hn,hr0,fun _=>hr⟩
theorem zl2 {l:List Nat} {o:Nat} (h:l.getLast?=some o):l.getLastD 0=o:=by
 cases l with
 | nil=>simp at h
 | cons a r=>simpa [List.getLastD,List.getLast?] using h
theorem Jo {l:List Nat} (h:l≠[]):l.getLast?=some (l.getLastD 0):=by
 cases l with
 | nil=>exact absurd rfl h
 | cons a r=>simp [List.getLastD,List.getLast?]
theorem jI {α:Type} (l:List α) (f:α→α) (o i:Nat) (d:α) (h:(l.modify o f)[i]?=some d):∃c,l[i]?=some c∧d=if o=i then f c else c:=by
 rw [List.getElem?_modify] at h
 cases hc:l[i]? with
 | none=>rw [hc] at h;simp at h
 | some c=>rw [hc] at h;simp at h;exact ⟨c,rfl,h.symm⟩
theorem zeh {m:zC} (h:Tree m) (ht:∀o ∈ m.opn,o<m.nodes.length) (hp:pend m∨zhy m) (d:Node) (hd:d.names=[]) (hk:d.kids=[]) :
  Ev (lay m d).nodes∧(lay m d).nodes≠[]∧0≤(lay m d).root∧(lay m d).root<((lay m d).nodes.length:Int):=by
 have base:∀(i:Nat) (e:Node),(m.nodes++[d])[i]?=some e→m.nodes[i]?=some e∨(i=m.nodes.length∧e=d):=by
  intro i e he
  rw [List.getElem?_append] at he
  split at he
  ·exact .inl he
  ·rename_i hl
   have hm:=List.mem_of_getElem? he
   simp only [List.mem_singleton] at hm
   have:=List.getElem?_eq_some_iff.1 he
   obtain ⟨hi,_⟩:=this
   simp only [List.length_singleton] at hi
   exact .inr ⟨by omega,hm⟩
 have hroot0:=h.root0
 have hroot:=h.root
 unfold lay
 by_cases hop:m.opn=[]
 ·rw [if_pos hop]
  refine ⟨?_,by simp,by simp,by simp;omega⟩
  intro i e he
  rcases base i e he with hc|⟨_,rfl⟩
  ·refine ⟨fun k hkk=>?_,h.even i e hc (by rw [hop];simp)⟩
   have:=h.kids i e hc k hkk
   simp;omega
  ·rw [hd,hk];simp
 ·rw [if_neg hop]
  refine ⟨?_,by simp [xN],hroot0,?_⟩
  ·have hlast:=Jo hop
   have hto:=ht _ (List.mem_of_getLast? hlast)
   obtain ⟨o,ho⟩:∃o,m.opn.getLastD 0=o:=⟨_,rfl⟩
   simp only [ho] at hlast hto ⊢
   intro i e he
   unfold xN at he ⊢
   obtain ⟨c,hc,hec⟩:=jI _ _ _ _ _ he
   clear he
   have he:=hec
   clear hec
   simp only [List.length_modify,List.length_append,List.length_singleton]
   ·by_cases hoi:o=i
    ·rw [if_pos hoi] at he
     subst he
     simp only [List.mem_append,List.mem_singleton,List.length_append,List.length_singleton]
     rcases base i c hc with hb|⟨hb,rfl⟩
     ·refine ⟨fun k hkk=>?_,fun hone=>?_⟩
      ·rcases hkk with hkk|rfl
       ·have:=h.kids i c hb k hkk;omega
       ·omega
      ·rcases hp with hp|hp
       ·exact h.odd i c hb hp (by rw [hlast,hoi]) hone
       ·exact absurd hone (hp i c (by rw [hlast,hoi]) hb)
     ·omega
    ·rw [if_neg hoi] at he
     subst he
     rcases base i e hc with hb|⟨hb,rfl⟩
     ·refine ⟨fun k hkk=>?_,h.even i e hb (fun e=>hoi ?_)⟩
      ·have:=h.kids i e hb k hkk;omega
      ·have:=e.2;rw [hlast] at this;simpa using this
     ·rw [hd,hk];simp
  ·simp [xN]
   have hto:=ht _ (List.mem_of_getLast? (Jo hop))
   have:=hroot (fun e=>by rw [e] at hto;simp at hto)
   omega
theorem zey {m:zC} (h:Tree m) (hp:¬pend m) (ha:asks m) (x:Int) (he:(QM m x).1=0):Tree (QM m x).2:=by
 unfold QM at he ⊢
 split at he
 ·simp at he
 split at he
 ·simp at he
 rename_i a b
 rw [if_neg a,if_neg b]
 exact Tree.of (h.ev hp) (by unfold pend;simp) (by simp) (h.full ha) h.root0 (h.root (h.full ha))
theorem zfq {m:zC} (h:Tree m) (hst:m.state=6∨m.state=5) (x:Int) (he:(after m x).1=0):Tree (after m x).2:=by
 unfold after at he ⊢
 split at he
 ·rename_i a;rw [if_pos a];exact h.like rfl rfl rfl (by unfold pend;simp [a.1]) (by simp) (by unfold asks;simp)
 split at he
 ·simp at he
 rename_i a b
 have h6:m.state=6:=by omega
 split at he
 ·rename_i c;rw [if_neg a,if_neg b,if_pos c];exact zey h (by unfold pend;omega) (by unfold asks;omega) x he
 split at he
 ·simp at he
 ·rename_i c d
  rw [if_neg a,if_neg b,if_neg c,if_neg d]
  have hev:=h.ev (by unfold pend;omega)
  have hn:=h.full (by unfold asks;omega)
  have hop:m.opn≠[]:=fun e=>b (.inr e)
  by_cases hk:yD m=1
  ·rw [if_pos hk];exact Tree.of hev (by unfold pend;simp) (by simp) hn h.root0 (h.root hn)
  ·rw [if_neg hk]
   refine ⟨fun i n hi=>(hev i n hi).1,fun i n hi _=>(hev i n hi).2,?_,by simp,by unfold asks;simp,h.root0,h.root⟩
   intro i n hi _ hl hone
   unfold yD at hk
   rw [zl2 hl,hi] at hk
   exact absurd hone hk
theorem zft {m:zC} (h:Tree m) (ht:∀o ∈ m.opn,o<m.nodes.length) (hst:m.state=1∨m.state=2) (x:Int) (he:(yH m x).1=0):Tree (yH m x).2:=by
 have hpu:pend m∨zhy m:=by
  rcases hst with e|e
  ·exact .inl (.inr (.inl e))
  ·exact .inr (h.two e)
 unfold yH at he ⊢
 split at he
 ·rename_i a
  rw [if_pos a]
  split at he
  ·simp at he
  rename_i b
  rw [if_neg b]
  have e1:∀d,(lay { m with state:=if x=91 then 2 else 3 } d).nodes=(lay m d).nodes:=fun d=>by unfold lay;simp only;split<;>rfl
  have e2:∀d,(lay { m with state:=if x=91 then 2 else 3 } d).root=(lay m d).root:=fun d=>by unfold lay;simp only;split<;>rfl
  have e3:∀d,(lay { m with state:=if x=91 then 2 else 3 } d).state=if x=91 then 2 else 3:=fun d=>ZR _ d
  obtain ⟨q1,q2,q3,q4⟩:=zeh h ht hpu { kind:=if x=91 then 2 else 1,text:=⟨#[]⟩,names:=[],kids:=[] } rfl rfl
  refine Tree.of (by simp only [e1];exact q1) ?_ ?_ (by simp only [e1];exact q2) (by simp only [e2];exact q3) (by simp only [e1,e2];exact q4)
  ·unfold pend
   simp only [e3]
   split<;>omega
  ·simp only [e3]
   intro hs i n hi hn
   simp only [List.getLast?_append,List.getLast?_singleton,Option.some_or,Option.some.injEq] at hi
   subst hi
   simp only [e1] at hn
   have h91:x=91:=by by_cases e:x=91;exact e;rw [if_neg e] at hs;omega
   subst h91
   simp only [if_true] at hn
   unfold lay at hn
   split at hn
   ·simp at hn;rw [← hn];simp
   ·unfold xN at hn
    rw [List.getElem?_modify] at hn
    simp at hn
    rw [← hn]
    split<;>simp
 rename_i a
 rw [if_neg a]
 split at he
 ·rename_i b
  rw [if_pos b]
  rcases hst with e|e
  ·exact h.like rfl rfl rfl (by unfold pend;simp [e]) (by simp) (by unfold asks;simp)
  ·have hev:=h.ev (by unfold pend;omega)
   refine ⟨fun i n hi=>(hev i n hi).1,fun i n hi _=>(hev i n hi).2,?_,by simp,by unfold asks;simp,h.root0,h.root⟩
   intro i n hi _ hl hone
   exact absurd hone (h.two e i n hl hi)
 rename_i b
 rw [if_neg b]
 split at he
 ·rename_i c
  rw [if_pos c]
  obtain ⟨q1,q2,q3,q4⟩:=zeh h ht hpu { kind:=4,text:=⟨#[]⟩,names:=[],kids:=[] } rfl rfl
  exact Tree.of q1 (by unfold pend;simp) (by simp) q2 q3 q4
 rename_i c
 rw [if_neg c]
 split at he
 ·rename_i d
  rw [if_pos d]
  obtain ⟨q1,q2,q3,q4⟩:=zeh h ht hpu { kind:=5,text:=⟨#[]⟩,names:=[],kids:=[] } rfl rfl
  exact Tree.of q1 (by unfold pend;simp) (by simp) q2 q3 q4
 ·simp at he
theorem zcz {m:zC} (h:Tree m) (ht:∀o ∈ m.opn,o<m.nodes.length) (h8:m.state=8) (hno:m.named=true→m.opn≠[]) (he:(closed m).1=0):Tree (closed m).2:=by
 unfold closed at he ⊢
 split at he
 ·rename_i a
  rw [if_pos a]
  obtain ⟨q1,q2,q3,q4⟩:=zeh h ht (.inl (.inr (.inr ⟨by omega,a⟩))) { kind:=3,text:=m.got,names:=[],kids:=[] } rfl rfl
  exact Tree.of q1 (by unfold pend;simp) (by simp) q2 q3 q4
 split at he
 ·simp at he
 rename_i a b
 rw [if_neg a,if_neg b]
 have hnt:m.named=true:=by simpa using a
 have hev:=h.ev (by unfold pend;simp [hnt];omega)
 have hn:=h.full (.inr ⟨by omega,hnt⟩)
 have hlast:=Jo (hno hnt)
 refine ⟨?_,?_,?_,by simp,fun _=>by simpa [qQ] using hn,h.root0,fun _=>by simpa [qQ] using h.root hn⟩
 ·intro i n hi k hk
  simp only [qQ,List.length_modify]
  rcases ZM _ _ _ _ _ hi with hc|⟨c,hc,rfl⟩
  ·exact (hev i n hc).1 k hk
  ·exact (hev i c hc).1 k hk
 ·intro i n hi hnp hone
  obtain ⟨c,hc,hec⟩:=jI _ _ _ _ _ hi
  by_cases hoi:m.opn.getLastD 0=i
  ·exact absurd ⟨.inl rfl,by simp only;rw [hlast,hoi]⟩ hnp
  ·rw [if_neg hoi] at hec
   subst hec
   exact (hev i _ hc).2 hone
 ·intro i n hi _ hl hone
  obtain ⟨c,hc,hec⟩:=jI _ _ _ _ _ hi
  have hl2:=zl2 hl
  simp only at hl2
  rw [if_pos hl2] at hec
  subst hec
  have:=(hev i c hc).2 hone
  simp;omega
theorem zfm {m:zC} (h:Tree m) (ht:∀o ∈ m.opn,o<m.nodes.length) (h8:m.state=8) (hno:m.named=true→m.opn≠[]) (x:Int) (he:(plain m x).1=0):Tree (plain m x).2:=by
 unfold plain at he ⊢
 split at he
 ·rename_i a;rw [if_pos a];exact zcz h ht h8 hno he
 rename_i a
 rw [if_neg a]
 split at he
 ·rename_i b;rw [if_pos b];exact h.like rfl rfl rfl (by unfold pend;simp [h8]) (by simp) (by unfold asks;simp [h8])
 rename_i b
 rw [if_neg b]
 split at he
 ·simp at he
 rename_i c
 rw [if_neg c]
 split at he
 ·rename_i d;rw [if_pos d];exact h.like rfl rfl rfl (by unfold pend;simp) (by simp) (by unfold asks;simp)
 rename_i d
 rw [if_neg d]
 split at he
 ·simp at he
 ·rename_i e;rw [if_neg e];exact h.like rfl rfl rfl (by unfold pend;simp [h8]) (by simp) (by unfold asks;simp [h8])
theorem zcE {m:zC} (h:Tree m) (h10:m.state=10) (x:Int) (he:(escape m x).1=0):Tree (escape m x).2:=by
 unfold escape at he ⊢
 split at he
 ·rename_i a;rw [if_pos a];exact h.like rfl rfl rfl (by unfold pend;simp [h10]) (by simp) (by unfold asks;simp [h10])
 rename_i a
 rw [if_neg a]
 split at he
 ·rename_i b;rw [if_pos b];exact h.like rfl rfl rfl (by unfold pend;simp [h10]) (by simp) (by unfold asks;simp [h10])
 rename_i b
 rw [if_neg b]
 split at he
 ·rename_i c;rw [if_pos c];exact h.like rfl rfl rfl (by unfold pend;simp [h10]) (by simp) (by unfold asks;simp [h10])
 rename_i c
 rw [if_neg c]
 split at he
 ·rename_i d;rw [if_pos d];exact h.like rfl rfl rfl (by unfold pend;simp [h10]) (by simp) (by unfold asks;simp [h10])
 ·simp at he
theorem zfC {m:zC} (h:Tree m) (h11:m.state=11) (x:Int) (he:(digit m x).1=0):Tree (digit m x).2:=by
 unfold digit at he ⊢
 split at he
 ·simp at he
 rename_i a
 rw [if_neg a]
 split at he
 ·simp at he
 rename_i b
 rw [if_neg b]
 split at he
 ·rename_i c;rw [if_pos c];exact h.like rfl rfl rfl (by unfold pend;simp [h11]) (by simp) (by unfold asks;simp [h11])
 ·rename_i c;rw [if_neg c];exact h.like rfl rfl rfl (by unfold pend;simp) (by simp) (by unfold asks;simp)
theorem zgF {m:zC} (h:Tree m) (hw:Wf m) (ht:∀o ∈ m.opn,o<m.nodes.length) (x:Int) (he:(step m x).1=0):Tree (step m x).2:=by
 have hnm:=hw.named
 by_cases h8:m.state=8
 ·rw [Xn m x h8] at he ⊢;exact zfm h ht h8 (hnm (by omega)) x he
 by_cases h9:m.state=9
 ·rw [J8 m x h9] at he ⊢
  split at he
  ·simp at he
  ·rename_i a
   rw [if_neg a]
   by_cases hz:m.need-1=0
   ·rw [if_pos hz];exact h.like rfl rfl rfl (by unfold pend;simp [h9]) (by simp) (by unfold asks;simp [h9])
   ·rw [if_neg hz];exact h.like rfl rfl rfl (by unfold pend;simp [h9]) (by simp) (by unfold asks;simp [h9])
 by_cases h10:m.state=10
 ·rw [Ym m x h10] at he ⊢;exact zcE h h10 x he
 by_cases h11:m.state=11
 ·rw [X0 m x h11] at he ⊢;exact zfC h h11 x he
 by_cases h7:m.state=7
 ·rw [UB m x h7] at he ⊢
  split at he
  ·simp at he
  ·rename_i a
   rw [if_neg a]
   by_cases hz:m.word.size=1
   ·rw [if_pos hz];exact h.like rfl rfl rfl (by unfold pend;simp [h7]) (by simp) (by unfold asks;simp [h7])
   ·rw [if_neg hz];exact h.like rfl rfl rfl (by unfold pend;simp [h7]) (by simp) (by unfold asks;simp [h7])
 have hlo:=hw.lo
 have hhi:=hw.hi
 rw [step_low m x (by omega)] at he ⊢
 split at he
 ·rename_i a;rw [if_pos a];exact h
 rename_i a
 rw [if_neg a]
 split at he
 ·rename_i b;rw [if_pos b];exact zfq h b x he
 rename_i b
 rw [if_neg b]
 split at he
 ·rename_i c;rw [if_pos c];exact zey h (by unfold pend;omega) (by unfold asks;omega) x he
 rename_i c
 rw [if_neg c]
 split at he
 ·rename_i d
  rw [if_pos d]
  split at he
  ·simp at he
  ·rename_i e
   rw [if_neg e]
   have hn:=h.full (by unfold asks;omega)
   exact Tree.of (h.ev (by unfold pend;omega)) (by unfold pend;simp) (by simp) hn h.root0 (h.root hn)
 ·rename_i d;rw [if_neg d];exact zft h ht (by omega) x he
theorem zg6:Tree init:=
 ⟨fun i n hi=>by simp [init] at hi,fun i n hi=>by simp [init] at hi,fun i n hi=>by simp [init] at hi,by simp [init],by unfold asks;simp [init],by simp [init],fun e=>absurd rfl e⟩
theorem zeG:∀(l:List UInt8) (m:zC) (p k:Nat),Tree m→Wf m→Bnd k m→(run m l p).1=0→Tree (run m l p).2.2∧Wf (run m l p).2.2
 | [],m,p,k,h,hw,hb,_=>⟨h,hw⟩
 | c::r,m,p,k,h,hw,hb,he=>by
  unfold run at he ⊢
  by_cases hs:(step m (c.toNat:Int)).1=0
  ·rw [if_pos hs] at he ⊢
   exact zeG r _ _ (k+1) (zgF h hw hb.top _ hs) (zdu hw _ hs) (UJ hb _ hs) he
  ·rw [if_neg hs] at he
   exact absurd he hs
def Uz:List ByteArray→List Nat→ByteArray→Int
 | s::ss,k::ks,name=>if s.toList==name.toList then (k:Int) else Uz ss ks name
 | _,_,_=>-1
def zX (n:Node) (name:ByteArray):Int:=Uz n.names n.kids name
def vM (n:Node) (names:List ByteArray):Bool:=n.names.all (fun s=>names.any fun t=>t.toList==s.toList)&&n.kind==1
theorem zjH (ss:List ByteArray) (ks:List Nat) (name:ByteArray) (i:Nat) (hi:i<ss.length) (hk:i<ks.length) (h:(ss[i].toList==name.toList)=true):Uz (ss.drop i) (ks.drop i) name=(ks[i]:Int):=by
 rw [List.drop_eq_getElem_cons hi,List.drop_eq_getElem_cons hk,Uz,if_pos h]
theorem zgD (ss:List ByteArray) (ks:List Nat) (name:ByteArray) (i:Nat) (hi:i<ss.length) (hk:i<ks.length) (h:(ss[i].toList==name.toList)=false):Uz (ss.drop i) (ks.drop i) name=Uz (ss.drop (i+1)) (ks.drop (i+1)) name:=by
 rw [List.drop_eq_getElem_cons hi,List.drop_eq_getElem_cons hk,Uz,if_neg (by simp [h])]
theorem zkg (ss:List ByteArray) (ks:List Nat) (name:ByteArray) (i:Nat) (hi:¬i<ss.length):Uz (ss.drop i) (ks.drop i) name = -1:=by
 rw [List.drop_of_length_le (by omega),Uz]
 simp
theorem zd7 (ts:List ByteArray) (s:ByteArray) (k:Nat) (hk:k<ts.length) (x:Bool) (hx:x=(ts.take k).any fun t=>t.toList==s.toList) (b:Bool) (hb:(ts[k].toList==s.toList)=b):(x||b)=(ts.take (k+1)).any fun t=>t.toList==s.toList:=by
 rw [List.take_succ_eq_append_getElem hk,List.any_append,← hx];simp [hb]
theorem zk9 (ts:List ByteArray) (s:ByteArray) (k:Nat) (hk:¬k<ts.length) (x:Bool) (hx:x=(ts.take k).any fun t=>t.toList==s.toList):(ts.any fun t=>t.toList==s.toList)=x:=by
 rw [List.take_of_length_le (by omega)] at hx;exact hx.symm
theorem zez {α:Type} (l:List α) (f:α→Bool) (k:Nat) (hk:k<l.length) (h:(l.take k).all f=true) (hf:f l[k]=true):(l.take (k+1)).all f=true:=by
 rw [List.take_succ_eq_append_getElem hk,List.all_append,h];simp [hf]
theorem zeK {α:Type} (l:List α) (f:α→Bool) (k:Nat) (hk:k<l.length) (hf:f l[k]=false):l.all f=false:=by
 rw [List.all_eq_false];exact ⟨l[k],List.getElem_mem hk,by simp [hf]⟩
theorem zhJ {α:Type} (l:List α) (f:α→Bool) (k:Nat) (hk:¬k<l.length) (h:(l.take k).all f=true):l.all f=true:=by
 rw [List.take_of_length_le (by omega)] at h;exact h
theorem zbj (l:List Nat) (j:Nat) (h:j<l.length):(l.map fun (n:Nat)=>Value.int .i64 (n:Int))[j]?=some (.int .i64 (l[j]:Int)):=by
 simp [h]
def Texts (K:Nat) (ns:List Node):Prop:=∀(i:Nat) (n:Node),ns[i]?=some n→n.text.size≤K
theorem Xj {K:Nat} {m:zC} (h:Texts K m.nodes) (d:Node) (hd:d.text.size≤K):Texts K (lay m d).nodes:=by
 have base:Texts K (m.nodes++[d]):=by
  intro i e he
  rw [List.getElem?_append] at he
  split at he
  ·exact h i e he
  ·have:=List.mem_of_getElem? he
   simp only [List.mem_singleton] at this
   subst this;exact hd
 unfold lay
 split
 ·exact base
 ·intro i e he
  obtain ⟨c,hc,rfl⟩:=jI _ _ _ _ _ he
  have:=base i c hc
  split<;>exact this
theorem zaG (m:zC) (x:Int):(QM m x).2.nodes=m.nodes:=by unfold QM;split<;>(try split)<;>rfl
theorem zdc (m:zC) (x:Int):(after m x).2.nodes=m.nodes:=by
 unfold after
 split
 ·rfl
 split
 ·rfl
 split
 ·exact zaG m x
 split<;>rfl
theorem za1 (m:zC) (x:Int):(escape m x).2.nodes=m.nodes:=by unfold escape;repeat' (split<;>try rfl)
theorem zc2 (m:zC) (x:Int):(digit m x).2.nodes=m.nodes:=by unfold digit;repeat' (split<;>try rfl)
theorem zcq {K:Nat} {m:zC} (h:Texts K m.nodes) (x:Int):Texts K (yH m x).2.nodes:=by
 unfold yH
 split
 ·split
  ·exact h
  ·exact Xj (m:={ m with state:=if x=91 then 2 else 3 }) h _ (Nat.zero_le _)
 split
 ·exact h
 split
 ·exact Xj h _ (Nat.zero_le _)
 split
 ·exact Xj h _ (Nat.zero_le _)
 ·exact h
theorem zbo {K:Nat} {m:zC} (h:Texts K m.nodes) (hg:m.got.size≤K):Texts K (closed m).2.nodes:=by
 unfold closed
 split
 ·exact Xj h _ hg
 split
 ·exact h
 ·intro i e he
  obtain ⟨c,hc,rfl⟩:=jI _ _ _ _ _ he
  have:=h i c hc
  split<;>exact this
theorem zdp {K:Nat} {m:zC} (h:Texts K m.nodes) (hg:m.got.size≤K) (x:Int):Texts K (plain m x).2.nodes:=by
 unfold plain
 split
 ·exact zbo h hg
 repeat' (split<;>try exact h)
theorem zfo {K:Nat} {m:zC} (h:Texts K m.nodes) (hg:m.got.size≤K) (x:Int):Texts K (step m x).2.nodes:=by
 unfold step
 split
 ·exact zdp h hg x
 split
 ·split<;>exact h
 split
 ·rw [za1];exact h
 split
 ·rw [zc2];exact h
 split
 ·split<;>exact h
 split
 ·exact h
 split
 ·rw [zdc];exact h
 split
 ·rw [zaG];exact h
 split
 ·split<;>exact h
 ·exact zcq h x
theorem zav:∀(l:List UInt8) (m:zC) (p k K:Nat),Texts (3*K) m.nodes→Bnd k m→k+l.length≤K→Texts (3*K) (run m l p).2.2.nodes
 | [],_,_,_,_,h,_,_=>h
 | c::r,m,p,k,K,h,hb,hK=>by
  unfold run
  simp only [List.length_cons] at hK
  have hg:=hb.got
  split
  ·rename_i hs
   exact zav r _ _ (k+1) K (zfo h (by omega) _) (UJ hb _ hs) (by omega)
  ·exact h
def xm (ns:List Node):List Nat→Option (List ByteArray)
 | []=>some []
 | k::ks=>match ns[k]? with
  | some x=>if x.kind=3 then (xm ns ks).map fun l=>x.text::l else none
  | none=>none
def zH (ns:List Node) (k:Int):Option (List ByteArray):=
 if k<0 then none
 else match ns[k.toNat]? with
  | none=>none
  | some n=>if n.kind=3 then some [n.text] else if n.kind≠2∨n.kids.length<1∨10<n.kids.length then none else xm ns n.kids
theorem zad (ns:List Node) (ks:List Nat) (i:Nat) (hi:i<ks.length) (x:Node) (hx:ns[ks[i]]?=some x) (h3:x.kind=3) (done:List ByteArray) (P:Option (List ByteArray))
  (h:P=(xm ns (ks.drop i)).map fun b=>done++b):P=(xm ns (ks.drop (i+1))).map fun b=>(done++[x.text])++b:=by
 rw [h,List.drop_eq_getElem_cons hi,xm,hx]
 simp [h3,Option.map_map,Function.comp_def]
theorem U5 (ns:List Node) (ks:List Nat) (i:Nat) (hi:i<ks.length) (x:Node) (hx:ns[ks[i]]?=some x) (h3:x.kind≠3) (done:List ByteArray) (P:Option (List ByteArray))
  (h:P=(xm ns (ks.drop i)).map fun b=>done++b):P=none:=by
 rw [h,List.drop_eq_getElem_cons hi,xm,hx]
 simp [h3]
theorem za0 (ns:List Node) (ks:List Nat) (i:Nat) (hi:¬i<ks.length) (done:List ByteArray) (P:Option (List ByteArray))
  (h:P=(xm ns (ks.drop i)).map fun b=>done++b):P=some done:=by
 rw [h,List.drop_of_length_le (by omega),xm];simp
def xY (s:ByteArray):Bool:=(parts s).isSome
theorem QD (ns:List Node) (K:Nat) (h:Texts K ns):∀(ks:List Nat) (l:List ByteArray),xm ns ks=some l→∀s ∈ l,s.size≤K
 | [],l,e=>by simp [xm] at e;subst e;simp
 | k::ks,l,e=>by
  rw [xm] at e
  split at e
  ·rename_i x hx
   split at e
   ·obtain ⟨r,hr,rfl⟩:=Option.map_eq_some_iff.1 e
    intro s hs
    rcases List.mem_cons.1 hs with rfl|hs
    ·exact h k x hx
    ·exact QD ns K h ks r hr s hs
   ·simp at e
  ·simp at e
theorem QF (ns:List Node) (K:Nat) (h:Texts K ns) (k:Int) (l:List ByteArray) (e:zH ns k=some l):∀s ∈ l,s.size≤K:=by
 unfold zH at e
 split at e
 ·simp at e
 split at e
 ·simp at e
 rename_i n hn
 split at e
 ·simp only [Option.some.injEq] at e
  subst e
  intro s hs
  simp only [List.mem_singleton] at hs
  subst hs
  exact h _ n hn
 split at e
 ·simp at e
 ·exact QD ns K h _ l e
theorem YI (ns:List Node):∀(ks:List Nat) (l:List ByteArray),xm ns ks=some l→l.length=ks.length
 | [],l,e=>by simp [xm] at e;subst e;rfl
 | k::ks,l,e=>by
  rw [xm] at e
  split at e
  ·split at e
   ·obtain ⟨r,hr,rfl⟩:=Option.map_eq_some_iff.1 e
    simp [YI ns ks r hr]
   ·simp at e
  ·simp at e
theorem YV (ns:List Node) (k:Int) (l:List ByteArray) (e:zH ns k=some l):l.length≤10:=by
 unfold zH at e
 split at e
 ·simp at e
 split at e
 ·simp at e
 split at e
 ·simp only [Option.some.injEq] at e
  subst e
  simp
 split at e
 ·simp at e
 ·rename_i h;have:=YI ns _ l e;omega
theorem zeC (l:List ByteArray) (pt:Bool) (j:Nat) (hj:j<l.length):(pt || !((l.take (j+1)).all xY))=((pt || !((l.take j).all xY)) || !(xY l[j])):=by
 rw [List.take_succ_eq_append_getElem hj,List.all_append]
 simp [Bool.not_and,Bool.or_assoc]
theorem zhq (l:List ByteArray) (pt:Bool) (j:Nat) (hj:¬j<l.length):(pt || !((l.take j).all xY))=(pt || !(l.all xY)):=by
 rw [List.take_of_length_le (by omega)]
def ZF:ByteArray:=⟨#[110,111,116]⟩
def qY (ns:List Node) (k:Int):Bool×Option (List ByteArray):=
 if k<0 then (false,none)
 else match ns[k.toNat]? with
  | none=>(false,none)
  | some n=>if n.kind=1 then (if vM n [ZF]=true∧n.names.length=1 then (true,zH ns (n.kids.getD 0 0:Nat)) else (false,none)) else (false,zH ns k)
theorem zcl (ns:List Node) (k:Int) (h:k<0):qY ns k=(false,zH ns k):=by
 unfold qY zH;rw [if_pos h,if_pos h]
def digits (l:List UInt8):Bool:=l.all fun c=>decide (48≤c.toNat∧c.toNat≤57)
theorem Vx (l:List UInt8) (c:UInt8):digits (l++[c])=(digits l&&decide (48≤c.toNat∧c.toNat≤57)):=by simp [digits]
def X4 (t:ByteArray):Bool:=decide (1≤t.size∧t.size≤18)&&((t.data.toList.getD 0 0).toNat != 48)&&digits t.data.toList
def ZA (s:ByteArray):Bool:=
 (s.toList==[48])||X4 (if 0<s.size∧(s.data.toList.getD 0 0).toNat=45 then s.extract 1 s.size else s)
theorem zaU (s:ByteArray) (k:Nat) (h:k<s.size) (hb:(s[k].toNat:Int)<48∨57<(s[k].toNat:Int)):X4 s=false:=by
 have e:digits (s.data.toList.take (k+1))=false:=by rw [take_snoc s k h,Vx];simp;omega
 have h2:digits s.data.toList=false:=by
  have:=List.take_append_drop (k+1) s.data.toList
  rw [← this];unfold digits at *;rw [List.all_append,e];rfl
 unfold X4;rw [h2];simp
theorem Jn (s:ByteArray) (k:Nat) (h:k<s.size) (hl:digits (s.data.toList.take k)=true) (ha:48≤(s[k].toNat:Int)) (hb:(s[k].toNat:Int)≤57) :
  digits (s.data.toList.take (k+1))=true:=by
 rw [take_snoc s k h,Vx,hl];simp;omega
theorem jF (s:ByteArray) (h:0<s.size):s.data.toList.getD 0 0=s[0]:=by
 have e:=take_snoc s 0 h
 rw [List.take_zero] at e
 cases hl:s.data.toList with
 | nil=>rw [hl] at e;simp at e
 | cons a r=>rw [hl] at e;simp at e;simpa using e
theorem X9 (s:ByteArray) (h:0<s.size) (h0:(s[0].toNat:Int)=48):X4 s=false:=by
 unfold X4;rw [jF s h];simp;omega
theorem uQ (s:ByteArray) (h:¬(1≤s.size∧s.size≤18)):X4 s=false:=by unfold X4;simp [h]
theorem Ue (s:ByteArray) (k:Nat) (h:¬k<s.size) (hk:k≤s.size) (h1:1≤s.size) (h2:s.size≤18) (h0:(s[0].toNat:Int)≠48) (hl:digits (s.data.toList.take k)=true):X4 s=true:=by
 unfold X4;rw [List.take_of_length_le (by simp;omega)] at hl;rw [hl,jF s h1];simp;omega
def Qx (op s:ByteArray):Bool:=
 if op.toList==[115,97,109,101] then decide (s.size≤60)
 else if op.toList==[117,110,100,101,114] then decide (s.size≤60) && !s.toList.isEmpty
 else if op.toList==[98,101,108,111,119] then ZA s
 else true
def zec (op:ByteArray):Bool:=(op.toList==[115,97,109,101])||(op.toList==[117,110,100,101,114])||(op.toList==[98,101,108,111,119])||(op.toList==[108,105,107,101])
def zgA (op:ByteArray) (l:List ByteArray):Bool:=l.all (Qx op)&&zec op
def bOp:ByteArray:=⟨#[111,112]⟩
def x9:ByteArray:=⟨#[107,101,121]⟩
def bNo:ByteArray:=⟨#[110,111]⟩
def zt:ByteArray:=⟨#[118,97,108,117,101]⟩
structure xg where
 op:ByteArray
 key:ByteArray
 vals:List ByteArray
 no:Bool
 sh:Bool
 pt:Bool
def kindOf (ns:List Node) (k:Int):Int:=match ns[k.toNat]? with
 | some x=>x.kind
 | none=>0
def textOf (ns:List Node) (k:Int):ByteArray:=match ns[k.toNat]? with
 | some x=>x.text
 | none=>⟨#[]⟩
def zV (op:ByteArray):Bool:=op.toList==[97,98,115,101,110,116]
def xR (op:ByteArray):Bool:=op.toList==[108,105,107,101]
def noT (ns:List Node) (no:Int):Bool:=decide (0≤no)&&(kindOf ns no==4)
def QB (ns:List Node) (no:Int):Bool:=decide (0≤no)&&(!(kindOf ns no==4) && !(kindOf ns no==5))
def xQ:xg:=⟨⟨#[]⟩,⟨#[]⟩,[],false,true,false⟩
def Yy (ns:List Node) (n:Node):xg:=
 if zX n bOp<0∨zX n x9<0∨kindOf ns (zX n bOp)≠3∨kindOf ns (zX n x9)≠3 then xQ
 else if zV (textOf ns (zX n bOp)) then
  ⟨textOf ns (zX n bOp),textOf ns (zX n x9),[],noT ns (zX n bNo),QB ns (zX n bNo) || !zY (textOf ns (zX n x9)) || !vM n [bOp,x9,bNo],false⟩
 else
  ⟨textOf ns (zX n bOp),textOf ns (zX n x9),(zH ns (zX n zt)).getD [],noT ns (zX n bNo),
   QB ns (zX n bNo)||(!(zH ns (zX n zt)).isSome || !zgA (textOf ns (zX n bOp)) ((zH ns (zX n zt)).getD [])) || !zY (textOf ns (zX n x9)) || !vM n [bOp,x9,bNo,zt],
   xR (textOf ns (zX n bOp)) && !((zH ns (zX n zt)).getD []).all xY⟩
structure zeO where
 cs:List xg
 sh:Bool
 pt:Bool
def yf (ns:List Node) (ks:List Nat):List xg:=ks.map fun k=>match ns[k]? with
 | some n=>Yy ns n
 | none=>xQ
def QJ (ns:List Node) (k:Int):zeO:=
 if k<0 then ⟨[],false,false⟩
 else match ns[k.toNat]? with
  | none=>⟨[],true,false⟩
  | some n=>if n.kind≠2∨5<n.kids.length then ⟨[],true,false⟩ else ⟨yf ns n.kids,(yf ns n.kids).any xg.sh,(yf ns n.kids).any xg.pt⟩
theorem zhN (N:Nat):∀(ss:List ByteArray) (ks:List Nat) (name:ByteArray),(∀k ∈ ks,k<N) → -1≤Uz ss ks name∧Uz ss ks name<(N:Int)
 | [],ks,name,_=>by simp [Uz];omega
 | s::ss,[],name,_=>by simp [Uz];omega
 | s::ss,k::ks,name,h=>by
  unfold Uz
  split
  ·have:=h k (by simp);omega
  ·exact zhN N ss ks name (fun j hj=>h j (by simp [hj]))
theorem xM {ns:List Node} (hev:Ev ns) {i:Nat} {n:Node} (hi:ns[i]?=some n) (name:ByteArray):-1≤zX n name∧zX n name<(ns.length:Int):=
 zhN ns.length n.names n.kids name (hev i n hi).1
theorem zgL {ns:List Node} {k:Int} (h0:0≤k) (h1:k<(ns.length:Int)):∃(j:Nat) (x:Node),k=(j:Int)∧ns[j]?=some x∧kindOf ns k=x.kind∧textOf ns k=x.text:=by
 obtain ⟨j,rfl⟩:∃j:Nat,k=(j:Int):=⟨k.toNat,by omega⟩
 have hj:j<ns.length:=by omega
 refine ⟨j,ns[j],rfl,List.getElem?_eq_getElem hj,?_,?_⟩
 ·unfold kindOf;rw [show ((j:Int)).toNat=j by simp,List.getElem?_eq_getElem hj]
 ·unfold textOf;rw [show ((j:Int)).toNat=j by simp,List.getElem?_eq_getElem hj]
def naming (m:zC):Prop:=m.state=3∨m.state=4∨(8≤m.state∧m.named=true)
def NoN (ns:List Node):Prop:=∀(i:Nat) (n:Node),ns[i]?=some n→n.kind≠1→n.names=[]
structure uk (m:zC):Prop where
 non:NoN m.nodes
 top:naming m→yD m=1
theorem uk.like {m m':zC} (h:uk m) (ho:m'.opn=m.opn) (hn:m'.nodes=m.nodes) (ht:naming m'→naming m):uk m':=
 ⟨by rw [hn];exact h.non,fun e=>by have:=h.top (ht e);unfold yD at this ⊢;rw [hn,ho];exact this⟩
theorem zai {m:zC} (h:NoN m.nodes) (d:Node) (hd:d.names=[]):NoN (lay m d).nodes:=by
 have base:NoN (m.nodes++[d]):=by
  intro i e he hk
  rw [List.getElem?_append] at he
  split at he
  ·exact h i e he hk
  ·have:=List.mem_of_getElem? he
   simp only [List.mem_singleton] at this
   subst this;exact hd
 unfold lay
 split
 ·exact base
 ·intro i e he hk
  obtain ⟨c,hc,rfl⟩:=jI _ _ _ _ _ he
  by_cases e:m.opn.getLastD 0=i
  ·rw [if_pos e] at hk ⊢;exact base i c hc hk
  ·rw [if_neg e] at hk ⊢;exact base i c hc hk
theorem zbB {m:zC} (h:uk m) (x:Int) (he:(QM m x).1=0):uk (QM m x).2:=by
 unfold QM at he ⊢
 split at he
 ·simp at he
 split at he
 ·simp at he
 rename_i a b
 rw [if_neg a,if_neg b]
 exact ⟨h.non,fun e=>by unfold naming at e;simp at e⟩
theorem zc7 {m:zC} (h:uk m) (x:Int) (he:(after m x).1=0):uk (after m x).2:=by
 unfold after at he ⊢
 split at he
 ·rename_i a;rw [if_pos a];exact ⟨h.non,fun e=>by unfold naming at e;simp at e⟩
 split at he
 ·simp at he
 rename_i a b
 split at he
 ·rename_i c;rw [if_neg a,if_neg b,if_pos c];exact zbB h x he
 split at he
 ·simp at he
 ·rename_i c d
  rw [if_neg a,if_neg b,if_neg c,if_neg d]
  by_cases hk:yD m=1
  ·rw [if_pos hk];exact ⟨h.non,fun _=>hk⟩
  ·rw [if_neg hk];exact ⟨h.non,fun e=>by unfold naming at e;simp at e⟩
theorem zk7 {m:zC} (d:Node):∃c,(lay m d).nodes[m.nodes.length]?=some c∧c.kind=d.kind:=by
 unfold lay
 split
 ·exact ⟨d,by simp,rfl⟩
 ·unfold xN
  rw [List.getElem?_modify]
  simp only [List.getElem?_concat_length]
  exact ⟨_,rfl,by split<;>rfl⟩
theorem zcQ {m:zC} (h:uk m) (x:Int) (he:(yH m x).1=0):uk (yH m x).2:=by
 unfold yH at he ⊢
 split at he
 ·rename_i a
  rw [if_pos a]
  split at he
  ·simp at he
  rename_i b
  rw [if_neg b]
  refine ⟨zai (m:={ m with state:=if x=91 then 2 else 3 }) h.non _ rfl,fun e=>?_⟩
  unfold naming at e
  simp only [ZR,zhL] at e
  have h123:¬x=91:=by
   intro e91
   rw [if_pos e91] at e
   omega
  obtain ⟨c,hc,hk⟩:=zk7 (m:={ m with state:=if x=91 then 2 else 3 }) { kind:=if x=91 then 2 else 1,text:=⟨#[]⟩,names:=[],kids:=[] }
  unfold yD
  simp only at hc
  have hl:(m.opn++[m.nodes.length]).getLastD 0=m.nodes.length:=by simp
  simp only [hl,hc,Option.map_some,Option.getD_some,hk]
  rw [if_neg h123]
 rename_i a
 rw [if_neg a]
 split at he
 ·rename_i b;rw [if_pos b];exact ⟨h.non,fun e=>by unfold naming at e;simp at e⟩
 rename_i b
 rw [if_neg b]
 split at he
 ·rename_i c;rw [if_pos c];exact ⟨zai h.non _ rfl,fun e=>by unfold naming at e;simp at e⟩
 rename_i c
 rw [if_neg c]
 split at he
 ·rename_i d;rw [if_pos d];exact ⟨zai h.non _ rfl,fun e=>by unfold naming at e;simp at e⟩
 ·simp at he
theorem zaL {m:zC} (h:uk m) (h8:m.state=8) (he:(closed m).1=0):uk (closed m).2:=by
 unfold closed at he ⊢
 split at he
 ·rename_i a;rw [if_pos a];exact ⟨zai h.non _ rfl,fun e=>by unfold naming at e;simp at e⟩
 split at he
 ·simp at he
 rename_i a b
 rw [if_neg a,if_neg b]
 have hnt:m.named=true:=by simpa using a
 have htop:=h.top (.inr (.inr ⟨by omega,hnt⟩))
 refine ⟨?_,fun e=>by unfold naming at e;simp at e⟩
 intro i e hi hk
 obtain ⟨c,hc,rfl⟩:=jI _ _ _ _ _ hi
 by_cases hoi:m.opn.getLastD 0=i
 ·rw [if_pos hoi] at hk
  unfold yD at htop
  rw [hoi,hc] at htop
  exact absurd htop hk
 ·rw [if_neg hoi] at hk ⊢;exact h.non i c hc hk
theorem zcV {m:zC} (h:uk m) (h8:m.state=8) (x:Int) (he:(plain m x).1=0):uk (plain m x).2:=by
 unfold plain at he ⊢
 split at he
 ·rename_i a;rw [if_pos a];exact zaL h h8 he
 rename_i a
 rw [if_neg a]
 split at he
 ·rename_i b;rw [if_pos b];exact h.like rfl rfl (by unfold naming;simp [h8])
 rename_i b
 rw [if_neg b]
 split at he
 ·simp at he
 rename_i c
 rw [if_neg c]
 split at he
 ·rename_i d;rw [if_pos d];exact h.like rfl rfl (by unfold naming;simp)
 rename_i d
 rw [if_neg d]
 split at he
 ·simp at he
 ·rename_i e;rw [if_neg e];exact h.like rfl rfl (by unfold naming;simp [h8])
theorem zbu {m:zC} (h:uk m) (h10:m.state=10) (x:Int) (he:(escape m x).1=0):uk (escape m x).2:=by
 unfold escape at he ⊢
 split at he
 ·rename_i a;rw [if_pos a];exact h.like rfl rfl (by unfold naming;simp [h10])
 rename_i a
 rw [if_neg a]
 split at he
 ·rename_i b;rw [if_pos b];exact h.like rfl rfl (by unfold naming;simp [h10])
 rename_i b
 rw [if_neg b]
 split at he
 ·rename_i c;rw [if_pos c];exact h.like rfl rfl (by unfold naming;simp [h10])
 rename_i c
 rw [if_neg c]
 split at he
 ·rename_i d;rw [if_pos d];exact h.like rfl rfl (by unfold naming;simp [h10])
 ·simp at he
theorem zdi {m:zC} (h:uk m) (h11:m.state=11) (x:Int) (he:(digit m x).1=0):uk (digit m x).2:=by
 unfold digit at he ⊢
 split at he
 ·simp at he
 rename_i a
 rw [if_neg a]
 split at he
 ·simp at he
 rename_i b
 rw [if_neg b]
 split at he
 ·rename_i c;rw [if_pos c];exact h.like rfl rfl (by unfold naming;simp [h11])
 ·rename_i c;rw [if_neg c];exact h.like rfl rfl (by unfold naming;simp)
theorem zfl {m:zC} (h:uk m) (hw:Wf m) (x:Int) (he:(step m x).1=0):uk (step m x).2:=by
 by_cases h8:m.state=8
 ·rw [Xn m x h8] at he ⊢;exact zcV h h8 x he
 by_cases h9:m.state=9
 ·rw [J8 m x h9] at he ⊢
  split at he
  ·simp at he
  ·rename_i a
   rw [if_neg a]
   by_cases hz:m.need-1=0
   ·rw [if_pos hz];exact h.like rfl rfl (by unfold naming;simp [h9])
   ·rw [if_neg hz];exact h.like rfl rfl (by unfold naming;simp [h9])
 by_cases h10:m.state=10
 ·rw [Ym m x h10] at he ⊢;exact zbu h h10 x he
 by_cases h11:m.state=11
 ·rw [X0 m x h11] at he ⊢;exact zdi h h11 x he
 by_cases h7:m.state=7
 ·rw [UB m x h7] at he ⊢
  split at he
  ·simp at he
  ·rename_i a
   rw [if_neg a]
   by_cases hz:m.word.size=1
   ·rw [if_pos hz];exact ⟨h.non,fun e=>by unfold naming at e;simp at e⟩
   ·rw [if_neg hz];exact ⟨h.non,fun e=>by unfold naming at e;simp at e⟩
 have hlo:=hw.lo
 have hhi:=hw.hi
 rw [step_low m x (by omega)] at he ⊢
 split at he
 ·rename_i a;rw [if_pos a];exact h
 rename_i a
 rw [if_neg a]
 split at he
 ·rename_i b;rw [if_pos b];exact zc7 h x he
 rename_i b
 rw [if_neg b]
 split at he
 ·rename_i c;rw [if_pos c];exact zbB h x he
 rename_i c
 rw [if_neg c]
 split at he
 ·rename_i d
  rw [if_pos d]
  split at he
  ·simp at he
  ·rename_i e
   rw [if_neg e]
   exact h.like rfl rfl (fun _=>by unfold naming;omega)
 ·rename_i d;rw [if_neg d];exact zcQ h x he
theorem zgx:uk init:=⟨fun i n hi=>by simp [init] at hi,fun e=>by unfold naming at e;simp [init] at e⟩
theorem zbP:∀(l:List UInt8) (m:zC) (p:Nat),uk m→Wf m→(run m l p).1=0→uk (run m l p).2.2
 | [],_,_,h,_,_=>h
 | c::r,m,p,h,hw,he=>by
  unfold run at he ⊢
  by_cases hs:(step m (c.toNat:Int)).1=0
  ·rw [if_pos hs] at he ⊢
   exact zbP r _ _ (zfl h hw _ hs) (zdu hw _ hs) he
  ·rw [if_neg hs] at he
   exact absurd he hs
end Ref
end Go.Proofs.YtdakgnaojakldaaGreatDoor
