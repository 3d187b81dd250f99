/- P -/
import Derived.Test.YtdakgnaojakldaaGreatDoorP16
set_option maxRecDepth 100000
namespace Go.Proofs.YtdakgnaojakldaaGreatDoor
namespace Kp
def Z5 (c:Int) (n:Nat):Nat:=((if c<0 then -(c+1) else c) % (n:Int)).toNat
theorem zkq (c:Int) (n:Nat) (h:0<n):Z5 c n<n:=by
 unfold Z5
 have h1:=Int.emod_nonneg (if c<0 then -(c+1) else c) (show (n:Int)≠0 by omega)
 have h2:=Int.emod_lt_of_pos (if c<0 then -(c+1) else c) (show (0:Int)<n by omega)
 omega
def bit (st d:Int):Bool:=decide ((st.tdiv d).tmod 2≠0)
def zmX:List ByteArray:=[⟨#[]⟩,⟨#[32]⟩,⟨#[10,9]⟩,⟨#[13,32]⟩]
def esc (st:Int) (b:UInt8):ByteArray:=
 if b.toNat=47∧bit st 1=true then ⟨#[92,47]⟩ else if b.toNat=97∧bit st 2=true then ⟨#[92,117,48,48,54,49]⟩ else if b.toNat=42∧bit st 4=true then ⟨#[92,117,48,48,50,65]⟩ else ⟨#[b]⟩
def U2 (s:ByteArray) (st:Int):Nat→ByteArray
 | 0=>⟨#[34]⟩
 | k+1=>U2 s st k++esc st (s.data.toList.getD k 0)
def zeJ (s:ByteArray) (st:Int):ByteArray:=U2 s st s.size++⟨#[34]⟩
def zmA (st:Int):ByteArray:=zmX.getD (Z5 (st.tdiv 8) 4) ⟨#[]⟩
def qP (l:List ByteArray) (st:Int):Nat→ByteArray
 | 0=>⟨#[91]⟩++zmA st
 | k+1=>(if 0<k then qP l st k++⟨#[44]⟩++zmA st else qP l st k)++zeJ (l.getD k ⟨#[]⟩) st
def xe (l:List ByteArray) (st:Int):ByteArray:=if l.length=1∧bit st 32=true then zeJ (l.getD 0 ⟨#[]⟩) st else qP l st l.length++⟨#[93]⟩++zmA st
theorem zj0 (st:Int) (b:UInt8):(esc st b).size≤6:=by
 unfold esc
 split
 ·exact by decide
 split
 ·exact by decide
 split
 ·exact by decide
 ·show 1≤6;omega
theorem YE (s:ByteArray) (st:Int):∀k,(U2 s st k).size≤6*k+1
 | 0=>by show 1≤1;omega
 | k+1=>by
  have h1:=YE s st k
  have h2:=zj0 st (s.data.toList.getD k 0)
  rw [U2,ByteArray.size_append];omega
theorem Jk (s:ByteArray) (st:Int):(zeJ s st).size≤6*s.size+2:=by
 have h1:=YE s st s.size
 have h2:(⟨#[34]⟩:ByteArray).size=1:=rfl
 rw [zeJ,ByteArray.size_append];omega
theorem zie:∀b ∈ zmX,b.size≤2:=by decide
theorem Kq {P:ByteArray→Prop} {l:List ByteArray} (h:∀b ∈ l,P b) (h0:P ⟨#[]⟩) (k:Nat):P (l.getD k ⟨#[]⟩):=by
 rw [List.getD_eq_getElem?_getD]
 cases e:l[k]? with
 | none=>exact h0
 | some b=>exact h b (List.mem_of_getElem? e)
theorem Js (st:Int):(zmA st).size≤2:=Kq (P:=fun b=>b.size≤2) zie (by decide) _
theorem xW (l:List ByteArray) (st:Int) (h:∀b ∈ l,b.size≤8):∀k,(qP l st k).size≤53*k+3
 | 0=>by
  have h1:=Js st
  have h2:(⟨#[91]⟩:ByteArray).size=1:=rfl
  rw [qP,ByteArray.size_append];omega
 | k+1=>by
  have h1:=xW l st h k
  have h2:=Jk (l.getD k ⟨#[]⟩) st
  have h3:=Kq (P:=fun b=>b.size≤8) h (by decide) k
  have h4:=Js st
  have h5:(⟨#[44]⟩:ByteArray).size=1:=rfl
  rw [qP,ByteArray.size_append]
  split
  ·rw [ByteArray.size_append,ByteArray.size_append];omega
  ·omega
theorem Y2 (l:List ByteArray) (st:Int) (h:∀b ∈ l,b.size≤8):(xe l st).size≤53*l.length+6:=by
 unfold xe
 split
 ·have h2:=Jk (l.getD 0 ⟨#[]⟩) st
  have h3:=Kq (P:=fun b=>b.size≤8) h (by decide) 0
  omega
 ·have h1:=xW l st h l.length
  have h2:=Js st
  have h3:(⟨#[93]⟩:ByteArray).size=1:=rfl
  rw [ByteArray.size_append,ByteArray.size_append];omega
end Kp
end Go.Proofs.YtdakgnaojakldaaGreatDoor
namespace Go.Proofs.YtdakgnaojakldaaGreatDoor
open Go.RowKit
def I64 (x:Int):Prop:=-9223372036854775808≤x∧x≤9223372036854775807
theorem zh3 (c:Int) (n:Nat) (h:c<0):-(c+1).tmod (n:Int)=(Kp.Z5 c n:Int):=by
 unfold Kp.Z5
 rw [if_pos h,← Int.neg_tmod,Int.tmod_eq_emod_of_nonneg (by omega)]
 have h1:=Int.emod_nonneg (-(c+1)) (b:=(n:Int))
 by_cases hn:(n:Int)=0
 ·rw [hn,Int.emod_zero];omega
 ·have:=h1 hn;omega
theorem ziv (c:Int) (n:Nat) (h:0≤c):c % (n:Int)=(Kp.Z5 c n:Int):=by
 unfold Kp.Z5
 rw [if_neg (by omega)]
 have h1:=Int.emod_nonneg c (b:=(n:Int))
 by_cases hn:(n:Int)=0
 ·rw [hn,Int.emod_zero];omega
 ·have:=h1 hn;omega
end Go.Proofs.YtdakgnaojakldaaGreatDoor
