/- P -/
import Derived.Test.YtagnlbgbnfnapaaGreatDoorK16
set_option maxRecDepth 100000
namespace Go.Proofs.YtagnlbgbnfnapaaGreatDoor
namespace Kp
def vM(c:Int)(n:Nat):Nat:=((if c<0 then -(c+1) else c) % (n:Int)).toNat
theorem Nq(c:Int)(n:Nat)(h:0<n):vM c n<n:=by
 unfold vM;have a:=Int.emod_nonneg (if c<0 then -(c+1) else c) (show (n:Int)≠0 by omega)
 have b:=Int.emod_lt_of_pos (if c<0 then -(c+1) else c) (show (0:Int)<n by omega)
 omega
def bit(st d:Int):Bool:=decide ((st.tdiv d).tmod 2≠0)
def oQ:List BY:=[⟨#[]⟩,⟨#[32]⟩,⟨#[10,9]⟩,⟨#[13,32]⟩]
def esc(st:Int)(b:UInt8):BY:=
 if b.toNat=47/\bit st 1=true then ⟨#[92,47]⟩ else if b.toNat=97/\bit st 2=true then ⟨#[92,117,48,48,54,49]⟩ else if b.toNat=42/\bit st 4=true then ⟨#[92,117,48,48,50,65]⟩ else ⟨#[b]⟩
def UF(s:BY)(st:Int):Nat->BY
 | 0=>⟨#[34]⟩
 | k+1=>UF s st k++esc st (s.data.toList.getD k 0)
def UE(s:BY)(st:Int):BY:=UF s st s.size++⟨#[34]⟩
def Uy(st:Int):BY:=oQ.getD (vM (st.tdiv 8) 4) ⟨#[]⟩
def jE(l:List BY)(st:Int):Nat->BY
 | 0=>⟨#[91]⟩++Uy st
 | k+1=>(if 0<k then jE l st k++⟨#[44]⟩++Uy st else jE l st k)++UE (l.getD k ⟨#[]⟩) st
def yI(l:List BY)(st:Int):BY:=if l.length=1/\bit st 32=true then UE (l.getD 0 ⟨#[]⟩) st else jE l st l.length++⟨#[93]⟩++Uy st
theorem EA(st:Int)(b:UInt8):(esc st b).size<=6:=by
 unfold esc
 split
 ·exact by decide
 split
 ·exact by decide
 split
 ·exact by decide
 ·show 1<=6;omega
theorem ru(s:BY)(st:Int):∀k,(UF s st k).size<=6*k+1
 | 0=>by show 1<=1;omega
 | k+1=>by
  have a:=ru s st k;have b:=EA st (s.data.toList.getD k 0);rw[UF,zJ];omega
theorem rq(s:BY)(st:Int):(UE s st).size<=6*s.size+2:=by
 have a:=ru s st s.size;have b:(⟨#[34]⟩:BY).size=1:=rfl;rw[UE,zJ];omega
theorem MZ:∀b ∈ oQ,b.size<=2:=by decide
theorem aD{P:BY->Prop}{l:List BY}(h:∀b ∈ l,P b)(a:P ⟨#[]⟩)(k:Nat):P (l.getD k ⟨#[]⟩):=by
 rw[zY]
 cases e:l[k]? with
 | none=>exact a
 | some b=>exact h b (qL e)
theorem bR(st:Int):(Uy st).size<=2:=aD (P:=λb=>b.size<=2) MZ (by decide) _
theorem Yb(l:List BY)(st:Int)(h:∀b ∈ l,b.size<=8):∀k,(jE l st k).size<=53*k+3
 | 0=>by
  have a:=bR st;have c:(⟨#[91]⟩:BY).size=1:=rfl;rw[jE,zJ];omega
 | k+1=>by
  have a:=Yb l st h k;have c:=rq (l.getD k ⟨#[]⟩) st;have d:=aD (P:=λb=>b.size<=8) h (by decide) k;have e:=bR st;have f:(⟨#[44]⟩:BY).size=1:=rfl;rw[jE,zJ]
  split
  ·rw[zJ,zJ];omega
  ·omega
theorem nI(l:List BY)(st:Int)(h:∀b ∈ l,b.size<=8):(yI l st).size<=53*l.length+6:=by
 unfold yI
 split
 ·have a:=rq (l.getD 0 ⟨#[]⟩) st;have c:=aD (P:=λb=>b.size<=8) h (by decide) 0;omega
 ·have d:=Yb l st h l.length;have a:=bR st;have c:(⟨#[93]⟩:BY).size=1:=rfl;rw[zJ,zJ];omega
end Kp
end Go.Proofs.YtagnlbgbnfnapaaGreatDoor
namespace Go.Proofs.YtagnlbgbnfnapaaGreatDoor
open Go.RowKit
def I64(x:Int):Prop:=-9223372036854775808<=x/\x<=9223372036854775807
theorem Nr(c:Int)(n:Nat)(h:c<0):-(c+1).tmod (n:Int)=(Kp.vM c n:Int):=by
 unfold Kp.vM;rw[zb h,<- Int.neg_tmod,Int.tmod_eq_emod_of_nonneg (by omega)];have a:=Int.emod_nonneg (-(c+1)) (b:=(n:Int))
 by_cases hn:(n:Int)=0
 ·rw[hn,Int.emod_zero];omega
 ·have:=a hn;omega
theorem Ns(c:Int)(n:Nat)(h:0<=c):c % (n:Int)=(Kp.vM c n:Int):=by
 unfold Kp.vM;rw[za (by omega)];have a:=Int.emod_nonneg c (b:=(n:Int))
 by_cases hn:(n:Int)=0
 ·rw[hn,Int.emod_zero];omega
 ·have:=a hn;omega
end Go.Proofs.YtagnlbgbnfnapaaGreatDoor
