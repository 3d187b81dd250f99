/- P -/
import Derived.Test.YtdakgnaojakldaaGreatDoorP24
set_option maxRecDepth 100000
namespace Go.Proofs.YtdakgnaojakldaaGreatDoor.keeps
open Go.ChangeShapes Go.WideShapes Go.ChangeAt Go.RowKit Go.Joins Go.Deep
def VD:Array Value:=#[.slice none 0 0]
theorem zl3 (os:Os):((laws.laidWorld os).forCall (fun _ _=>0) ⟨#[],VD,[]⟩).variablesRefB Tryz.prog=true:=by kernel_rfl
theorem zmo (os:Os):(((laws.laidWorld os).forCall (fun _ _=>0) ⟨#[],VD,[]⟩).heap.toList.drop Tryz.prog.globals.size).take ((begin Tryz.prog (fun _ _=>0) default).world.heap.size-Tryz.prog.globals.size) =
   (begin Tryz.prog (fun _ _=>0) default).world.heap.toList.drop Tryz.prog.globals.size:=by kernel_rfl
theorem znD (os:Os):Input.okWideB Tryz.prog ((laws.laidWorld os).forCall (fun _ _=>0) ⟨#[],VD,[]⟩) 5 ⟨#[],VD,[]⟩=true:=by kernel_rfl
theorem zkR (os:Os) {H:Type} (enc:TypeId×Value→H):(Rows.OpenSpec.upto Rows.keepsSpec).bare.sizedB enc Tryz.prog Tryz.f5 false ((laws.laidWorld os).forCall (fun _ _=>0) ⟨#[],VD,[]⟩).memory VD 8=true:=by kernel_rfl
theorem zmn:Tryz.prog.inits.idxOf? 5=none:=by kernel_rfl
theorem reads (os:Os) {H:Type} (enc:TypeId×Value→H):∃places,DataW.whole enc Tryz.prog ((laws.laidWorld os).forCall (fun _ _=>0) ⟨#[],VD,[]⟩).memory Tryz.f5.params.toList Rows.keepsSpec.vars false VD.toList 8
  = some ([.nil],[],places):=by
 have hw:(DataW.whole enc Tryz.prog ((laws.laidWorld os).forCall (fun _ _=>0) ⟨#[],VD,[]⟩).memory Tryz.f5.params.toList Rows.keepsSpec.vars false VD.toList 8).map (fun x=>(x.1,x.2.1)) =
   some ([.nil],[]):=by kernel_rfl
 obtain ⟨⟨x1,x2,x3⟩,hx,hx1⟩:=Option.map_eq_some_iff.1 hw
 simp only [Prod.mk.injEq] at hx1
 obtain ⟨rfl,rfl⟩:=hx1
 exact ⟨x3,hx⟩
end Go.Proofs.YtdakgnaojakldaaGreatDoor.keeps
namespace Go.Proofs.YtdakgnaojakldaaGreatDoor
namespace Ref
def hexDigits:ByteArray:=⟨#[48,49,50,51,52,53,54,55,56,57,97,98,99,100,101,102]⟩
def zaZ (s o:ByteArray) (i:Nat) (c:Int):ByteArray:=
 if c=34∨c=92 then o++⟨#[92]⟩++s.extract i (i+1)
 else if c=10 then o++⟨#[92,110]⟩
 else if c=9 then o++⟨#[92,116]⟩
 else if c<32 then o++⟨#[92,117,48,48]⟩++hexDigits.extract (c / 16).toNat ((c / 16).toNat+1)++hexDigits.extract (c % 16).toNat ((c % 16).toNat+1)
 else o++s.extract i (i+1)
def xh (s:ByteArray):Nat→ByteArray
 | 0=>⟨#[34]⟩
 | k+1=>zaZ s (xh s k) k ((s.data.toList.getD k 0).toNat:Int)
def zy (s:ByteArray):ByteArray:=xh s s.size++⟨#[34]⟩
theorem ext_size (t:ByteArray) (i:Nat):(t.extract i (i+1)).size≤1:=by rw [ByteArray.size_extract];omega
theorem zf8 (s o:ByteArray) (i:Nat) (c:Int):(zaZ s o i c).size≤o.size+6:=by
 have h1:=ext_size s i
 have h2:=ext_size hexDigits (c / 16).toNat
 have h3:=ext_size hexDigits (c % 16).toNat
 have z1:(⟨#[92]⟩:ByteArray).size=1:=rfl
 have z2:(⟨#[92,110]⟩:ByteArray).size=2:=rfl
 have z3:(⟨#[92,116]⟩:ByteArray).size=2:=rfl
 have z4:(⟨#[92,117,48,48]⟩:ByteArray).size=4:=rfl
 unfold zaZ
 split
 ·rw [ByteArray.size_append,ByteArray.size_append];omega
 split
 ·rw [ByteArray.size_append];omega
 split
 ·rw [ByteArray.size_append];omega
 split
 ·rw [ByteArray.size_append,ByteArray.size_append,ByteArray.size_append];omega
 ·rw [ByteArray.size_append];omega
theorem jh (s:ByteArray):∀k,(xh s k).size≤1+6*k
 | 0=>by simp [xh,ByteArray.size]
 | k+1=>by rw [xh];have:=zf8 s (xh s k) k ((s.data.toList.getD k 0).toNat:Int);have:=jh s k;omega
theorem byte_at (s:ByteArray) (k:Nat) (h:k<s.size):s.data.toList.getD k 0=s[k]:=by
 have h2:k<s.data.toList.length:=by rw [zg];exact h
 rw [List.getD_eq_getElem?_getD,List.getElem?_eq_getElem h2]
 rfl
theorem XU (s:ByteArray) (k:Nat) (h:k<s.size):xh s (k+1)=zaZ s (xh s k) k (s[k].toNat:Int):=by rw [xh,byte_at s k h]
def qP (l:List ByteArray):Nat→ByteArray
 | 0=>⟨#[91]⟩
 | k+1=>(if 0<k then qP l k++⟨#[44]⟩ else qP l k)++zy (l.getD k ⟨#[]⟩)
def xe (l:List ByteArray):ByteArray:=qP l l.length++⟨#[93]⟩
theorem zW (s:ByteArray):(zy s).size≤2+6*s.size:=by
 have:=jh s s.size
 have z:(⟨#[34]⟩:ByteArray).size=1:=rfl
 rw [zy,ByteArray.size_append];omega
theorem xW (l:List ByteArray) (h:∀s ∈ l,s.size≤12000):∀k,(qP l k).size≤1+80000*k
 | 0=>by simp [qP,ByteArray.size]
 | k+1=>by
  have hk:=xW l h k
  have hq:=zW (l.getD k ⟨#[]⟩)
  have z:(⟨#[44]⟩:ByteArray).size=1:=rfl
  have hs:(l.getD k ⟨#[]⟩).size≤12000:=by
   rw [List.getD_eq_getElem?_getD]
   cases e:l[k]? with
   | none=>exact Nat.zero_le _
   | some s=>exact h s (List.mem_of_getElem? e)
  rw [qP,ByteArray.size_append]
  split
  ·rw [ByteArray.size_append];omega
  ·omega
theorem UW (l:List ByteArray) (k:Nat) (h:k<l.length):qP l (k+1)=(if 0<k then qP l k++⟨#[44]⟩ else qP l k)++zy l[k]:=by
 rw [qP,List.getD_eq_getElem?_getD,List.getElem?_eq_getElem h];rfl
def yS (c:Bool×List ByteArray):ByteArray:=if c.1 then ⟨#[123,34,110,111,116,34,58]⟩++xe c.2++⟨#[125]⟩ else xe c.2
def jr (o:ByteArray) (c:xg):ByteArray:=o++⟨#[123,34,111,112,34,58]⟩++zy c.op++⟨#[44,34,107,101,121,34,58]⟩++zy c.key
def uu (o:ByteArray) (c:xg):ByteArray:=if zV c.op then o else o++⟨#[44,34,118,97,108,117,101,34,58]⟩++xe c.vals
def Ux (o:ByteArray) (c:xg):ByteArray:=if c.no then o++⟨#[44,34,110,111,34,58,116,114,117,101]⟩ else o
def YL (o:ByteArray) (c:xg):ByteArray:=Ux (uu (jr o c) c) c++⟨#[125]⟩
def comma (o:ByteArray) (k:Nat):ByteArray:=if 0<k then o++⟨#[44]⟩ else o
def vg (l:List xg):Nat→ByteArray
 | 0=>⟨#[]⟩
 | k+1=>YL (comma (vg l k) k) (l.getD k xQ)
def Qd (l:List xg):ByteArray:=vg l l.length
def Ze (o:ByteArray) (s:Rd.qN):ByteArray:=o++⟨#[123,34,101,102,102,101,99,116,34,58]⟩++zy s.eff++⟨#[44,34,119,104,111,34,58]⟩++yS s.who++⟨#[44,34,100,111,34,58]⟩++yS s.act++⟨#[44,34,111,110,34,58]⟩++yS s.on
def V3 (o:ByteArray) (s:Rd.qN):ByteArray:=if 0<s.cs.length then o++⟨#[44,34,105,102,34,58,91]⟩++Qd s.cs++⟨#[93]⟩ else o
def YQ (o:ByteArray) (s:Rd.qN):ByteArray:=V3 (Ze o s) s++⟨#[125]⟩
def jJ (l:List Rd.qN):Nat→ByteArray
 | 0=>⟨#[123,34,115,116,97,116,101,109,101,110,116,34,58,91]⟩
 | k+1=>YQ (comma (jJ l k) k) (l.getD k Rd.yJ)
def XG (l:List Rd.qN):ByteArray:=jJ l l.length++⟨#[93,125]⟩
def YK (c:xg):Prop:=c.op.size≤12000∧c.key.size≤12000∧c.vals.length≤10∧∀s ∈ c.vals,s.size≤12000
def ut (l:List ByteArray):Prop:=l.length≤10∧∀s ∈ l,s.size≤12000
structure uS (s:Rd.qN):Prop where
 eff:s.eff.size≤12000
 who:ut s.who.2
 act:ut s.act.2
 on:ut s.on.2
 len:s.cs.length≤5
 cs:∀c ∈ s.cs,YK c
theorem yA {l:List ByteArray} (h:ut l):(xe l).size≤900000:=by
 have h1:=xW l h.2 l.length
 have hl:=h.1
 have z:(⟨#[93]⟩:ByteArray).size=1:=rfl
 rw [xe,ByteArray.size_append]
 omega
theorem qC {c:Bool×List ByteArray} (h:ut c.2):(yS c).size≤900020:=by
 have h1:=yA h
 have z1:(⟨#[123,34,110,111,116,34,58]⟩:ByteArray).size=7:=rfl
 have z2:(⟨#[125]⟩:ByteArray).size=1:=rfl
 unfold yS
 split
 ·rw [ByteArray.size_append,ByteArray.size_append];omega
 ·omega
theorem J7 (o:ByteArray) {c:xg} (h:YK c):(jr o c).size≤o.size+200000∧(uu (jr o c) c).size≤o.size+1200000∧(Ux (uu (jr o c) c) c).size≤o.size+1200100∧(YL o c).size≤o.size+1200200:=by
 obtain ⟨h1,h2,h3⟩:=h
 have q1:=zW c.op
 have q2:=zW c.key
 have q3:=yA (l:=c.vals) h3
 have a:(jr o c).size≤o.size+200000:=by
  have z1:(⟨#[123,34,111,112,34,58]⟩:ByteArray).size=6:=rfl
  have z2:(⟨#[44,34,107,101,121,34,58]⟩:ByteArray).size=7:=rfl
  unfold jr
  rw [ByteArray.size_append,ByteArray.size_append,ByteArray.size_append,ByteArray.size_append]
  omega
 have b:(uu (jr o c) c).size≤o.size+1200000:=by
  have z1:(⟨#[44,34,118,97,108,117,101,34,58]⟩:ByteArray).size=9:=rfl
  unfold uu
  split
  ·omega
  ·rw [ByteArray.size_append,ByteArray.size_append];omega
 have d:(Ux (uu (jr o c) c) c).size≤o.size+1200100:=by
  have z1:(⟨#[44,34,110,111,34,58,116,114,117,101]⟩:ByteArray).size=10:=rfl
  unfold Ux
  split
  ·rw [ByteArray.size_append];omega
  ·omega
 have z:(⟨#[125]⟩:ByteArray).size=1:=rfl
 refine ⟨a,b,d,?_⟩
 unfold YL
 rw [ByteArray.size_append]
 omega
theorem Qg (o:ByteArray) (k:Nat):(comma o k).size≤o.size+1:=by
 have z:(⟨#[44]⟩:ByteArray).size=1:=rfl
 unfold comma
 split
 ·rw [ByteArray.size_append];omega
 ·omega
theorem um (l:List xg) (h:∀c ∈ l,YK c):∀k,k≤l.length→(vg l k).size≤1300000*k
 | 0,_=>Nat.le_refl 0
 | k+1,hk=>by
  have ih:=um l h k (by omega)
  have hm:YK (l.getD k xQ):=by
   rw [List.getD_eq_getElem?_getD,List.getElem?_eq_getElem (by omega)]
   exact h _ (List.getElem_mem (by omega))
  have h2:=(J7 (comma (vg l k) k) hm).2.2.2
  have h3:=Qg (vg l k) k
  rw [vg]
  omega
theorem UN (o:ByteArray) {s:Rd.qN} (h:uS s):(Ze o s).size≤o.size+3000000:=by
 have q:=zW s.eff
 have e:=h.eff
 have c1:=qC h.who
 have c2:=qC h.act
 have c3:=qC h.on
 have z1:(⟨#[123,34,101,102,102,101,99,116,34,58]⟩:ByteArray).size=10:=rfl
 have z2:(⟨#[44,34,119,104,111,34,58]⟩:ByteArray).size=7:=rfl
 have z3:(⟨#[44,34,100,111,34,58]⟩:ByteArray).size=6:=rfl
 have z4:(⟨#[44,34,111,110,34,58]⟩:ByteArray).size=6:=rfl
 unfold Ze
 rw [ByteArray.size_append,ByteArray.size_append,ByteArray.size_append,ByteArray.size_append,ByteArray.size_append,ByteArray.size_append,ByteArray.size_append,ByteArray.size_append]
 omega
theorem zcF (o:ByteArray) {s:Rd.qN} (h:uS s):(V3 (Ze o s) s).size≤o.size+10000000∧(YQ o s).size≤o.size+10000001∧(Qd s.cs).size≤6500000:=by
 have h1:=UN o h
 have h2:=um s.cs h.cs s.cs.length (Nat.le_refl _)
 have h3:=h.len
 have a:(V3 (Ze o s) s).size≤o.size+10000000:=by
  have z1:(⟨#[44,34,105,102,34,58,91]⟩:ByteArray).size=7:=rfl
  have z2:(⟨#[93]⟩:ByteArray).size=1:=rfl
  unfold V3 Qd
  split
  ·rw [ByteArray.size_append,ByteArray.size_append,ByteArray.size_append];omega
  ·omega
 have z:(⟨#[125]⟩:ByteArray).size=1:=rfl
 refine ⟨a,?_,by unfold Qd;omega⟩
 unfold YQ
 rw [ByteArray.size_append]
 omega
theorem YO (l:List Rd.qN) (h:∀s ∈ l,uS s):∀k,k≤l.length→(jJ l k).size≤11000000*k+20
 | 0,_=>by
  have z:(⟨#[123,34,115,116,97,116,101,109,101,110,116,34,58,91]⟩:ByteArray).size=14:=rfl
  show ByteArray.size _≤_
  rw [jJ,z];omega
 | k+1,hk=>by
  have ih:=YO l h k (by omega)
  have hm:uS (l.getD k Rd.yJ):=by
   rw [List.getD_eq_getElem?_getD,List.getElem?_eq_getElem (by omega)]
   exact h _ (List.getElem_mem (by omega))
  have h2:=(zcF (comma (jJ l k) k) hm).2.1
  have h3:=Qg (jJ l k) k
  rw [jJ]
  omega
end Ref
end Go.Proofs.YtdakgnaojakldaaGreatDoor
