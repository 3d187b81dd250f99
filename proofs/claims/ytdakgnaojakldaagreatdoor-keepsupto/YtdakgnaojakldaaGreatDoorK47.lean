/- P -/
import Derived.Test.YtdakgnaojakldaaGreatDoorK16
set_option maxRecDepth 100000
namespace Go.Proofs.YtdakgnaojakldaaGreatDoor
namespace Kp
def vK(c:Int)(n:Nat):Nat:=((if c<0 then -(c+1) else c) % (n:Int)).toNat
theorem MS(c:Int)(n:Nat)(h:0<n):vK c n<n:=by
 unfold vK;have a:=Int.emod_nonneg (if c<0 then -(c+1) else c) (show (n:Int)≠0 by omega)
 have b:=Int.emod_lt_of_pos (if c<0 then -(c+1) else c) (show (0:Int)<n by omega)
 omega
def bit(st d:Int):Bool:=decide ((st.tdiv d).tmod 2≠0)
def keys:List BY:=[⟨#[119,104,111]⟩,⟨#[100,111]⟩,⟨#[111,110]⟩,⟨#[116,97,103]⟩,⟨#[97,103,101]⟩]
def nums:List BY:=[⟨#[48]⟩,⟨#[56]⟩,⟨#[45,52]⟩,⟨#[49,48,48]⟩]
def oo:List BY:=[⟨#[]⟩,⟨#[32]⟩,⟨#[10,9]⟩,⟨#[13,32]⟩]
def esc(st:Int)(b:UInt8):BY:=
 if b.toNat=47/\bit st 1=true then ⟨#[92,47]⟩ else if b.toNat=97/\bit st 2=true then ⟨#[92,117,48,48,54,49]⟩ else if b.toNat=42/\bit st 4=true then ⟨#[92,117,48,48,50,65]⟩ else ⟨#[b]⟩
def Ux(s:BY)(st:Int):Nat->BY
 | 0=>⟨#[34]⟩
 | k+1=>Ux s st k++esc st (s.data.toList.getD k 0)
def Uw(s:BY)(st:Int):BY:=Ux s st s.size++⟨#[34]⟩
def Uq(st:Int):BY:=oo.getD (vK (st.tdiv 8) 4) ⟨#[]⟩
def jB(l:List BY)(st:Int):Nat->BY
 | 0=>⟨#[91]⟩++Uq st
 | k+1=>(if 0<k then jB l st k++⟨#[44]⟩++Uq st else jB l st k)++Uw (l.getD k ⟨#[]⟩) st
def yF(l:List BY)(st:Int):BY:=if l.length=1/\bit st 32=true then Uw (l.getD 0 ⟨#[]⟩) st else jB l st l.length++⟨#[93]⟩++Uq st
theorem Ee(st:Int)(b:UInt8):(esc st b).size<=6:=by
 unfold esc
 split
 ·exact by decide
 split
 ·exact by decide
 split
 ·exact by decide
 ·show 1<=6;omega
theorem pq(s:BY)(st:Int):∀k,(Ux s st k).size<=6*k+1
 | 0=>by show 1<=1;omega
 | k+1=>by
  have a:=pq s st k;have b:=Ee st (s.data.toList.getD k 0);rw[Ux,zH];omega
theorem pg(s:BY)(st:Int):(Uw s st).size<=6*s.size+2:=by
 have a:=pq s st s.size;have b:(⟨#[34]⟩:BY).size=1:=rfl;rw[Uw,zH];omega
theorem MF:∀b ∈ oo,b.size<=2:=by decide
theorem ag{P:BY->Prop}{l:List BY}(h:∀b ∈ l,P b)(a:P ⟨#[]⟩)(k:Nat):P (l.getD k ⟨#[]⟩):=by
 rw[zX]
 cases e:l[k]? with
 | none=>exact a
 | some b=>exact h b (qJ e)
theorem bF(st:Int):(Uq st).size<=2:=ag (P:=λb=>b.size<=2) MF (by decide) _
theorem X7(l:List BY)(st:Int)(h:∀b ∈ l,b.size<=8):∀k,(jB l st k).size<=53*k+3
 | 0=>by
  have a:=bF st;have c:(⟨#[91]⟩:BY).size=1:=rfl;rw[jB,zH];omega
 | k+1=>by
  have a:=X7 l st h k;have c:=pg (l.getD k ⟨#[]⟩) st;have d:=ag (P:=λb=>b.size<=8) h (by decide) k;have e:=bF st;have f:(⟨#[44]⟩:BY).size=1:=rfl;rw[jB,zH]
  split
  ·rw[zH,zH];omega
  ·omega
theorem mQ(l:List BY)(st:Int)(h:∀b ∈ l,b.size<=8):(yF l st).size<=53*l.length+6:=by
 unfold yF
 split
 ·have a:=pg (l.getD 0 ⟨#[]⟩) st;have c:=ag (P:=λb=>b.size<=8) h (by decide) 0;omega
 ·have d:=X7 l st h l.length;have a:=bF st;have c:(⟨#[93]⟩:BY).size=1:=rfl;rw[zH,zH];omega
end Kp
end Go.Proofs.YtdakgnaojakldaaGreatDoor
namespace Go.Proofs.YtdakgnaojakldaaGreatDoor
open Go.RowKit
def I64(x:Int):Prop:=-9223372036854775808<=x/\x<=9223372036854775807
theorem I64.tdiv{x:Int}(h:I64 x)(d:Nat):I64 (x.tdiv d):=by
 obtain⟨b,c⟩:=h;have e:(x.tdiv d).natAbs=x.natAbs / d:=by rw[Int.natAbs_tdiv];rfl
 have hle:x.natAbs / d<=x.natAbs:=Nat.div_le_self _ _
 by_cases h0:0<=x
 ·have:=Int.tdiv_nonneg h0 (show (0:Int)<=(d:Int) by omega)
  unfold I64;omega
 ·have a:=Int.tdiv_nonneg (show (0:Int) <= -x by omega) (show (0:Int)<=(d:Int) by omega);rw[Int.neg_tdiv] at a;unfold I64;omega
theorem MU(c:Int)(n:Nat)(h:c<0):-(c+1).tmod (n:Int)=(Kp.vK c n:Int):=by
 unfold Kp.vK;rw[zb h,<- Int.neg_tmod,Int.tmod_eq_emod_of_nonneg (by omega)];have a:=Int.emod_nonneg (-(c+1)) (b:=(n:Int))
 by_cases hn:(n:Int)=0
 ·rw[hn,Int.emod_zero];omega
 ·have:=a hn;omega
theorem MV(c:Int)(n:Nat)(h:0<=c):c % (n:Int)=(Kp.vK c n:Int):=by
 unfold Kp.vK;rw[za (by omega)];have a:=Int.emod_nonneg c (b:=(n:Int))
 by_cases hn:(n:Int)=0
 ·rw[hn,Int.emod_zero];omega
 ·have:=a hn;omega
end Go.Proofs.YtdakgnaojakldaaGreatDoor
