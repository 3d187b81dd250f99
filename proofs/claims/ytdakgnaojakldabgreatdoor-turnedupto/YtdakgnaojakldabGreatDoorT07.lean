/- P -/
import Derived.Test.YtdakgnaojakldabGreatDoorT04
import Derived.Deep.QuietTactic
import Derived.BigQuiet
import Derived.Laws.Rows
import Derived.Laws.AppendOwn
open Go.Proofs.Tryz
set_option maxRecDepth 100000
set_option maxHeartbeats 2000000
namespace Go.Proofs.YtdakgnaojakldabGreatDoor
open Go.RowKit
def zi(w:World)(R:Nat)(s:BA)(p:Nat):Prop:=w.cell? ⟨R,0,none⟩=some (.string s)/\w.cell? ⟨R,1,none⟩=some (.int .i64 (p:Int))/\w.frozen? ⟨R,1,none⟩=false
theorem zi.drewN{w:World}{R:Nat}{s:BA}{p:Nat}(h:zi w R s p)(n:Nat):zi (w.drewN n) R s p:=by
 induction n with
 | zero=>exact h
 | succ n a=>exact a
theorem zi.lt{w:World}{R:Nat}{s:BA}{p:Nat}(h:zi w R s p):R<w.heap.size:=World.block_lt_of_cell? _ _ h.1
theorem zi.move{w:World}{R:Nat}{s:BA}{p:Nat}(h:zi w R s p)(q:Nat):zi (w.setCell ⟨R,1,none⟩ (.int .i64 (q:Int))) R s q:=by
 obtain⟨b,a,d⟩:=h;refine⟨by rw[su _ _ _ _ _ _ (by omega)];exact b,?_,by rw[dI];exact d⟩;unfold World.cell? World.setCell at *;simp only[Array.getElem?_modify,if_true];simp only at a
 cases hb:w.heap[R]? with
 | none=>rw[hb] at a;simp at a
 | some o=>
  rw[hb] at a
  cases o with
  | cells c t f=>
   simp at a |-;have e:=(Array.getElem?_eq_some_iff.1 a).1;simp[e]
  | _=>simp at a
theorem xG(w:World)(r:Option Nat):∀n,w.grownBy (w.drewN n) r
 | 0=>⟨rfl,rfl,rfl,Nat.le_refl _,λ_ _ _=>rfl⟩
 | n+1=>have h:=xG w r n;⟨h.os,h.tape,h.output,h.size,h.block⟩
theorem zH{a b c:World}{r:Option Nat}(h:a.grownBy b r)(k:b.grownBy c r):a.grownBy c r:=
 ⟨k.os.trans h.os,k.tape.trans h.tape,k.output.trans h.output,Nat.le_trans h.size k.size,λi e d=>(k.block i (Nat.lt_of_lt_of_le e h.size) d).trans (h.block i e d)⟩
theorem xS(a:World)(b o:Nat)(u:Value):a.grownBy (a.setCell ⟨b,o,none⟩ u) (some b):=
 ⟨rfl,rfl,rfl,by simp[World.setCell],λi _ c=>Below.heap_setCell a ⟨b,o,none⟩ u i (λe=>c (by simp[e]))⟩
theorem XQ(s:BA)(R p:Nat)(w:World)(a:zi w R s p)(i:p<=s.size) :
  Calls prog 82 #[.pointer (some ⟨R,0,none⟩)] w λe b=>e = .returned (.int .u8 ((Rd.ze s.data.toList p:Nat):Int))/\∃n,b=w.drewN n:=by
 obtain⟨c,f,g⟩:=a
 by_cases hlt:p<s.size
 ·have e:Rd.ze s.data.toList p=s[p].toNat:=by
   rw[Rd.U2 _ _ (by rw[Ref.zB];exact hlt)];rfl
  rw[e];have d:((p:Int)==(s.size:Int))=false:=by rw[beq_eq_false_iff_ne];omega
  have h:(p:Int)<(s.size:Int):=by omega
  go_enter func82,ntmps82;go_wp2_with fail
  go_quiet (fail)
  go_wp2_with fail
  go_quiet (fail)
  go_wp2
  go_ret;exact⟨rfl,_,by first|rfl|rw[World.drewN_drewN]⟩
 ·have e:Rd.ze s.data.toList p=0:=Rd.JU _ _ (by rw[Ref.zB];exact hlt);rw[e];have d:((p:Int)==(s.size:Int))=true:=by rw[beq_iff_eq];omega
  go_enter func82,ntmps82;go_wp2_with fail
  go_quiet (fail)
  go_wp2
  go_ret;exact⟨rfl,_,rfl⟩
theorem Qb(s:BA)(R p:Nat)(w:World)(a:zi w R s p) :
  Calls prog 53 #[.pointer (some ⟨R,0,none⟩)] w λe b=>e = .returned (.iface 112 (.agg #[.int .i64 (p:Int)]))/\b=w:=by
 obtain⟨c,d,f⟩:=a;go_enter func53,ntmps53
 go_wp2
 go_ret;exact⟨rfl,rfl⟩
def Yj(w:World)(R:Nat):Nat:=match w.cell? ⟨R,1,none⟩ with
 | some (.int _ n)=>n.toNat
 | _=>0
theorem zi.at{w:World}{R:Nat}{s:BA}{p:Nat}(h:zi w R s p):Yj w R=p:=by
 unfold Yj;rw[h.2.1];simp
theorem Xd(s:BA)(R p:Nat)(w:World)(o:zi w R s p)(z:p<=s.size)(F:s.size<=4000) :
  Calls prog 51 #[.pointer (some ⟨R,0,none⟩)] w λe t=>e = .returned (.tuple #[])/\w.grownBy t (some R)/\zi t R s (Rd.skip s.data.toList p):=by
 go_enter func51,ntmps51
 go_wp2
 go_loopw [2] (λ_ wr=>∃q:Nat,q<=s.size/\zi wr R s q/\w.grownBy wr (some R)/\Rd.skip s.data.toList q=Rd.skip s.data.toList p) (λ_ wr=>s.size-Yj wr R)
 case atStart=>exact⟨p,z,o,xG w _ 0,rfl⟩
 case round=>
  obtain⟨q,A,c,m,j⟩:=hrel;have d:=hid j;have l:=hid c.at;clear j;have f:=XQ s R q wr c A;have a:=Rd.kX s.data.toList q;obtain⟨b,h⟩:=Nm (Rd.ze s.data.toList q);rw[h] at f a;have r:b<256:=by rw[<- h];exact Rd.kM _ _
  cases hbl:Rd.blank b with
  | true=>
   rw[hbl,if_pos rfl] at a;have k:=hid a
   have y:q<s.size:=by
    have:=Rd.Xt s.data.toList q (by rw[h];exact hbl)
    rwa [Ref.zB] at this
   have i:(b:Int)=32\/(b:Int)=9\/(b:Int)=10\/(b:Int)=13:=by
    unfold Rd.blank at hbl;simp at hbl;omega
   clear hbl a h;have g:=hid c;have u:=hid m;obtain⟨C,D,E⟩:=c;clear o m
   rcases i with i|i|i|i
   all_goals
    go_wp2_with (go_at_call 82;refine f.mono ?_;rintro e B ⟨rfl,n,rfl⟩)
    go_roundw
    case rel=>exact⟨q+1,by omega,by have:=(g.out.drewN n).move (q+1);simpa using this,zH u.out (zH (xG wr _ n) (xS _ _ _ _)),by rw[<- k.out];exact d.out⟩
    case measure=>
     have x:=((g.out.drewN n).move (q+1)).at;rw[l.out,show ((q:Int)+1)=((q+1:Nat):Int) by omega,x];omega
  | false=>
   rw[hbl,if_neg (by decide)] at a;rw[a] at d;have G:((b:Int)==32)=false:=by rw[beq_eq_false_iff_ne];intro e;simp[Rd.blank] at hbl;omega
   have H:((b:Int)==9)=false:=by rw[beq_eq_false_iff_ne];intro e;simp[Rd.blank] at hbl;omega
   have I:((b:Int)==10)=false:=by rw[beq_eq_false_iff_ne];intro e;simp[Rd.blank] at hbl;omega
   have J:((b:Int)==13)=false:=by rw[beq_eq_false_iff_ne];intro e;simp[Rd.blank] at hbl;omega
   clear hbl a h o
   go_wp2_with (go_at_call 82;refine f.mono ?_;rintro e B ⟨rfl,n,rfl⟩)
   exact bodyPost_ret (v := .tuple #[]) (by simp[results,results51,go_sem]) rfl ⟨rfl,zH m (xG wr _ n),by rw[<- d.out];exact c.drewN n⟩
theorem DF(b:Nat)(w:World)(m:b<256) :
  Calls prog 142 #[.int .u8 (b:Int)] w λe l=>e = .returned (.tuple #[.int .i32 (if Ref.zG b<0 then 0 else Ref.zG b),.bool (decide (0<=Ref.zG b))])/\l=w:=by
 have c:(0<=b/\b<=47)\/(48<=b/\b<=57)\/(58<=b/\b<=64)\/(65<=b/\b<=70)\/(71<=b/\b<=96)\/(97<=b/\b<=102)\/(103<=b/\b<=255):=by omega
 rcases c with c|c|c|c|c|c|c
 ·have a:Ref.zG (b:Int) = -1:=by unfold Ref.zG;rw[if_neg (by omega),if_neg (by omega),if_neg (by omega)]
  rw[a];have f:decide ((48:Int)<=(b:Int))=false:=decide_eq_false (by omega);have g:decide ((b:Int)<=57)=true:=decide_eq_true (by omega);have h:decide ((97:Int)<=(b:Int))=false:=decide_eq_false (by omega);have i:decide ((b:Int)<=102)=true:=decide_eq_true (by omega);have j:decide ((65:Int)<=(b:Int))=false:=decide_eq_false (by omega);have k:decide ((b:Int)<=70)=true:=decide_eq_true (by omega);have b0:(0:Int)<=(b:Int):=by omega
  have d:(b:Int)<=47:=by omega
  clear a c;go_enter func142,ntmps142
  go_wp2
  go_ret2;exact⟨by first|rfl|(congr),rfl⟩
 ·have a:Ref.zG (b:Int)=(b:Int)-48:=by unfold Ref.zG;rw[if_pos (by omega)]
  rw[a];have f:decide ((48:Int)<=(b:Int))=true:=decide_eq_true (by omega);have g:decide ((b:Int)<=57)=true:=decide_eq_true (by omega);have h:decide ((97:Int)<=(b:Int))=false:=decide_eq_false (by omega);have i:decide ((b:Int)<=102)=true:=decide_eq_true (by omega);have j:decide ((65:Int)<=(b:Int))=false:=decide_eq_false (by omega);have k:decide ((b:Int)<=70)=true:=decide_eq_true (by omega);have b0:(48:Int)<=(b:Int):=by omega
  have d:(b:Int)<=57:=by omega
  rw[if_neg (show ¬((b:Int)-48<0) by omega),decide_eq_true (show 0<=(b:Int)-48 by omega)];clear a c;go_enter func142,ntmps142
  go_wp2
  go_ret2;exact⟨by first|rfl|(congr),rfl⟩
 ·have a:Ref.zG (b:Int) = -1:=by unfold Ref.zG;rw[if_neg (by omega),if_neg (by omega),if_neg (by omega)]
  rw[a];have f:decide ((48:Int)<=(b:Int))=true:=decide_eq_true (by omega);have g:decide ((b:Int)<=57)=false:=decide_eq_false (by omega);have h:decide ((97:Int)<=(b:Int))=false:=decide_eq_false (by omega);have i:decide ((b:Int)<=102)=true:=decide_eq_true (by omega);have j:decide ((65:Int)<=(b:Int))=false:=decide_eq_false (by omega);have k:decide ((b:Int)<=70)=true:=decide_eq_true (by omega);have b0:(58:Int)<=(b:Int):=by omega
  have d:(b:Int)<=64:=by omega
  clear a c;go_enter func142,ntmps142
  go_wp2
  go_ret2;exact⟨by first|rfl|(congr),rfl⟩
 ·have a:Ref.zG (b:Int)=(b:Int)-65+10:=by unfold Ref.zG;rw[if_neg (by omega),if_neg (by omega),if_pos (by omega)]
  rw[a];have f:decide ((48:Int)<=(b:Int))=true:=decide_eq_true (by omega);have g:decide ((b:Int)<=57)=false:=decide_eq_false (by omega);have h:decide ((97:Int)<=(b:Int))=false:=decide_eq_false (by omega);have i:decide ((b:Int)<=102)=true:=decide_eq_true (by omega);have j:decide ((65:Int)<=(b:Int))=true:=decide_eq_true (by omega);have k:decide ((b:Int)<=70)=true:=decide_eq_true (by omega);have b0:(65:Int)<=(b:Int):=by omega
  have d:(b:Int)<=70:=by omega
  rw[if_neg (show ¬((b:Int)-65+10<0) by omega),decide_eq_true (show 0<=(b:Int)-65+10 by omega)];clear a c;go_enter func142,ntmps142
  go_wp2
  go_ret2;exact⟨by first|rfl|(congr),rfl⟩
 ·have a:Ref.zG (b:Int) = -1:=by unfold Ref.zG;rw[if_neg (by omega),if_neg (by omega),if_neg (by omega)]
  rw[a];have f:decide ((48:Int)<=(b:Int))=true:=decide_eq_true (by omega);have g:decide ((b:Int)<=57)=false:=decide_eq_false (by omega);have h:decide ((97:Int)<=(b:Int))=false:=decide_eq_false (by omega);have i:decide ((b:Int)<=102)=true:=decide_eq_true (by omega);have j:decide ((65:Int)<=(b:Int))=true:=decide_eq_true (by omega);have k:decide ((b:Int)<=70)=false:=decide_eq_false (by omega);have b0:(71:Int)<=(b:Int):=by omega
  have d:(b:Int)<=96:=by omega
  clear a c;go_enter func142,ntmps142
  go_wp2
  go_ret2;exact⟨by first|rfl|(congr),rfl⟩
 ·have a:Ref.zG (b:Int)=(b:Int)-97+10:=by unfold Ref.zG;rw[if_neg (by omega),if_pos (by omega)]
  rw[a];have f:decide ((48:Int)<=(b:Int))=true:=decide_eq_true (by omega);have g:decide ((b:Int)<=57)=false:=decide_eq_false (by omega);have h:decide ((97:Int)<=(b:Int))=true:=decide_eq_true (by omega);have i:decide ((b:Int)<=102)=true:=decide_eq_true (by omega);have j:decide ((65:Int)<=(b:Int))=true:=decide_eq_true (by omega);have k:decide ((b:Int)<=70)=false:=decide_eq_false (by omega);have b0:(97:Int)<=(b:Int):=by omega
  have d:(b:Int)<=102:=by omega
  rw[if_neg (show ¬((b:Int)-97+10<0) by omega),decide_eq_true (show 0<=(b:Int)-97+10 by omega)];clear a c;go_enter func142,ntmps142
  go_wp2
  go_ret2;exact⟨by first|rfl|(congr),rfl⟩
 ·have a:Ref.zG (b:Int) = -1:=by unfold Ref.zG;rw[if_neg (by omega),if_neg (by omega),if_neg (by omega)]
  rw[a];have f:decide ((48:Int)<=(b:Int))=true:=decide_eq_true (by omega);have g:decide ((b:Int)<=57)=false:=decide_eq_false (by omega);have h:decide ((97:Int)<=(b:Int))=true:=decide_eq_true (by omega);have i:decide ((b:Int)<=102)=false:=decide_eq_false (by omega);have j:decide ((65:Int)<=(b:Int))=true:=decide_eq_true (by omega);have k:decide ((b:Int)<=70)=false:=decide_eq_false (by omega);have b0:(103:Int)<=(b:Int):=by omega
  have d:(b:Int)<=255:=by omega
  clear a c;go_enter func142,ntmps142
  go_wp2
  go_ret2;exact⟨by first|rfl|(congr),rfl⟩
theorem nI(s:BA)(R p a d:Nat)(w:World)(m:zi w R s p)(y:p<=s.size)(E:s.size<=4000)(A:0<a)(x:a<256) :
  Calls prog 135 #[.pointer (some ⟨R,0,none⟩),.int .u8 (a:Int),.int .u8 (d:Int)] w λe k=>
   (Rd.within s.data.toList a d p=true->e = .returned .nilIface/\w.grownBy k (some R)/\zi k R s (p+1)/\p<s.size) /\
   (Rd.within s.data.toList a d p=false->e = .returned (.iface 112 (.agg #[.int .i64 (p:Int)]))/\w.grownBy k (some R)/\zi k R s p):=by
 have c:=XQ s R p w m y;obtain⟨b,f⟩:=Nm (Rd.ze s.data.toList p);have o:b<256:=by rw[<- f];exact Rd.kM _ _
 have i:Rd.within s.data.toList a d p=decide (a<=b/\b<=d):=by unfold Rd.within;rw[f]
 rw[f] at c
 have g:0<b->p<s.size:=λh=>by
  have:=Rd.zW s.data.toList p (by rw[f];omega)
  rwa [Ref.zB] at this
 have l:=hid i;have j:=hid m;have t:=hid g;obtain⟨B,C,D⟩:=m;clear f i g;have q:=λn=>Qb s R p (w.drewN n) (j.out.drewN n)
 by_cases c1:b<a
 ·have u:decide ((b:Int)<(a:Int))=true:=decide_eq_true (by omega);go_enter func135,ntmps135
  go_wp2_with (first
   | (go_at_call 82;refine c.mono ?_;rintro e r ⟨rfl,n,rfl⟩)
   | (go_at_call 53;refine (q n).mono ?_;rintro e z ⟨rfl,rfl⟩))
  go_ret;refine⟨λh=>?_,λ_=>⟨rfl,xG w _ n,j.out.drewN n⟩⟩;rw[l.out] at h;simp at h;omega
 have u:decide ((b:Int)<(a:Int))=false:=decide_eq_false (by omega)
 by_cases c2:d<b
 ·have v:decide ((d:Int)<(b:Int))=true:=decide_eq_true (by omega);go_enter func135,ntmps135
  go_wp2_with (first
   | (go_at_call 82;refine c.mono ?_;rintro e r ⟨rfl,n,rfl⟩)
   | (go_at_call 53;refine (q n).mono ?_;rintro e z ⟨rfl,rfl⟩))
  go_ret;refine⟨λh=>?_,λ_=>⟨rfl,xG w _ n,j.out.drewN n⟩⟩;rw[l.out] at h;simp at h;omega
 ·have v:decide ((d:Int)<(b:Int))=false:=decide_eq_false (by omega);go_enter func135,ntmps135
  go_wp2_with (go_at_call 82;refine c.mono ?_;rintro e r ⟨rfl,n,rfl⟩)
  go_ret;refine⟨λ_=>⟨rfl,zH (xG w _ n) (xS _ _ _ _),?_,t.out (by omega)⟩,λh=>?_⟩
  ·have:=(j.out.drewN n).move (p+1)
   simpa using this
  ·rw[l.out] at h;simp at h;omega
def QN(w:World)(R:Nat)(s:BA)(r:Rd.Res Unit)(e:Ending)(a:World):Prop:=match r with
 | .ok _ q=>e = .returned .nilIface/\w.grownBy a (some R)/\zi a R s q/\q<=s.size
 | .err _ q=>e = .returned (.iface 112 (.agg #[.int .i64 (q:Int)]))/\w.grownBy a (some R)/\zi a R s q/\q<=s.size
theorem QN.of{w b:World}{R:Nat}{s:BA}{r a:Rd.Res Unit}{e:Ending}(h:QN w R s r e b)(c:a=r):QN w R s a e b:=c ▸ h
theorem PP(s t:BA)(R p:Nat)(w:World)(B:zi w R s p)(O:p<=s.size)(P:s.size<=4000)(Q:t.size<=100)(D:∀k,k<t.size->(t.data.toList.getD k 0).toNat≠0) :
  Calls prog 86 #[.pointer (some ⟨R,0,none⟩),.string t] w λe J=>QN w R s (Rd.zP s.data.toList (t.data.toList.map UInt8.toNat) p) e J:=by
 have j:=hid B;clear B;go_enter func86,ntmps86
 go_wp2
 go_loopw [8] (λv wr=>∃k:Nat,k<=t.size/\v = .int .i64 k/\p+k<=s.size/\zi wr R s (p+k)/\w.grownBy wr (some R)/\Rd.zP s.data.toList (t.data.toList.map UInt8.toNat) p=Rd.zP s.data.toList ((t.data.toList.map UInt8.toNat).drop k) (p+k)) (λv _=>t.size-(intOf v).toNat)
 case atStart=>exact⟨0,Nat.zero_le _,rfl,by omega,j.out,xG w _ 0,by simp⟩
 case round=>
  obtain⟨k,N,rfl,g,h,z,C⟩:=hrel;have q:=hid C;have o:=hid z;have i:=hid h;clear C z j
  by_cases hlt:k<t.size
  ·have A:(k:Int)<(t.size:Int):=by omega
   have f:=λn=>XQ s R (p+k) (wr.drewN n) (i.out.drewN n) g;obtain⟨b,m⟩:=Nm (Rd.ze s.data.toList (p+k));simp only[m] at f;have x:b<256:=by rw[<- m];exact Rd.kM _ _
   obtain⟨c,y⟩:=Nm (t[k]);have r:=D k hlt;rw[Ref.getD_at t k hlt,y] at r
   have a:Rd.zP s.data.toList ((t.data.toList.map UInt8.toNat).drop k) (p+k)=if b=c.toNat then Rd.zP s.data.toList ((t.data.toList.map UInt8.toNat).drop (k+1)) (p+k+1) else .err 2 (p+k):=by
    have u:k<(t.data.toList.map UInt8.toNat).length:=by rw[List.length_map,Ref.zB];exact hlt
    rw[List.drop_eq_getElem_cons u,Rd.zP,m]
    have:(t.data.toList.map UInt8.toNat)[k]=c.toNat:=by rw[List.getElem_map,<- y];rfl
    rw[this]
   have l:=hid a;have E:=hid m;clear a m D;obtain⟨K,L,M⟩:=h
   by_cases hbc:b=c.toNat
   ·have d:((b:Int) != (c.toNat:Int))=false:=by simp;omega
    have H:p+k<s.size:=by
     have:=Rd.zW s.data.toList (p+k) (by rw[E.out];omega)
     rwa [Ref.zB] at this
    go_wp2_with fail
    go_quiet ((go_at_call 82;exact Calls.quiet_of (f _)))
    go_wp2
    have G:zi ((wr.drewN nq).setCell ⟨R,1,none⟩ (.int .i64 ((p:Int)+(k:Int)+1))) R s (p+(k+1)):=by
     have:=(i.out.drewN nq).move (p+(k+1))
     rw[show ((p:Int)+(k:Int)+1)=((p+(k+1):Nat):Int) by omega];exact this
    exact⟨⟨k+1,by omega,by go_num,by omega,G,zH o.out (zH (xG wr _ nq) (xS _ _ _ _)),by rw[q.out,l.out,if_pos hbc];rfl⟩,by simp[intOf];omega⟩
   ·have d:((b:Int) != (c.toNat:Int))=true:=by simp;omega
    have I:=λn=>Qb s R (p+k) (wr.drewN n) (i.out.drewN n);go_wp2_with fail
    go_quiet ((go_at_call 82;exact Calls.quiet_of (f _)))
    go_wp2_with (go_at_call 53;refine (I nq).mono ?_;rintro e S ⟨rfl,rfl⟩)
    go_ret;refine QN.of ?_ (q.out.trans (l.out.trans (if_neg hbc)));exact⟨rfl,zH o.out (xG wr _ nq),i.out.drewN nq,g⟩
  ·have e:Rd.zP s.data.toList ((t.data.toList.map UInt8.toNat).drop k) (p+k) = .ok () (p+k):=by
    rw[List.drop_of_length_le (by rw[List.length_map,Ref.zB];omega),Rd.zP]
   have F:=hid e;clear e h
   go_wp2
   go_ret;refine QN.of ?_ (q.out.trans F.out);exact⟨rfl,o.out,i.out,g⟩
namespace Rd
open Ref
def xy(l:List UInt8)(p:Nat):Nat->Int
 | 0=>0
 | k+1=>xy l p k*16+zG (ze l (p+k))
def okF(l:List UInt8)(p k:Nat):Prop:=(∀j,j<k->0<=zG (ze l (p+j)))/\(2<=k->¬(zG (ze l p)=13/\8<=zG (ze l (p+1))))
theorem Ht(l:List UInt8)(p k:Nat)(h:okF l p k):0<=xy l p k/\(k=0->xy l p k=0)/\(k=1->xy l p k=zG (ze l p)/\xy l p k<=15)/\(k=2->xy l p k<=255)/\(k=3->xy l p k<=4095)/\(k=4->xy l p k<=65535/\¬(55296<=xy l p k/\xy l p k<=57343)):=by
 obtain⟨a,d⟩:=h;have e:=Q0 (ze l p);have f:=Q0 (ze l (p+1));have i:=Q0 (ze l (p+2));have n:=Q0 (ze l (p+3))
 match k with
 | 0=>simp[xy]
 | 1=>
  have b:=a 0 (by omega);simp only[xy,Nat.add_zero] at *;omega
 | 2=>
  have b:=a 0 (by omega);have c:=a 1 (by omega);simp only[xy,Nat.add_zero] at *;omega
 | 3=>
  have b:=a 0 (by omega);have c:=a 1 (by omega);have o:=a 2 (by omega);simp only[xy,Nat.add_zero] at *;omega
 | 4=>
  have b:=a 0 (by omega);have c:=a 1 (by omega);have o:=a 2 (by omega);have r:=a 3 (by omega);have s:=d (by omega);simp only[xy,Nat.add_zero] at *;omega
 | k+5=>
  refine⟨?_,by omega,by omega,by omega,by omega,by omega⟩;clear d e f i n;generalize k+5=m at *
  induction m with
  | zero=>simp[xy]
  | succ m q=>
   have g:=a m (by omega)
   have:=q (λj t=>a j (by omega))
   simp only[xy];omega
theorem dH(l:List UInt8)(p k:Nat)(h:okF l p k)(i:k<4)(f:zG (ze l (p+k))<0\/(k=1/\zG (ze l p)=13/\8<=zG (ze l (p+1)))):jF l p = .err 2 (p+k):=by
 obtain⟨a,c⟩:=h;unfold jF;simp only
 match k with
 | 0=>rw[if_pos (by simpa using f)];rfl
 | 1=>
  have b:=a 0 (by omega);simp only[Nat.add_zero] at b;rw[if_neg (by omega),if_pos (by omega)]
 | 2=>
  have b:=a 0 (by omega);have d:=a 1 (by omega);have e:=c (by omega);simp only[Nat.add_zero] at b;rw[if_neg (by omega),if_neg (by omega),if_pos (by omega)]
 | 3=>
  have b:=a 0 (by omega);have d:=a 1 (by omega);have g:=a 2 (by omega);have e:=c (by omega);simp only[Nat.add_zero] at b;rw[if_neg (by omega),if_neg (by omega),if_neg (by omega),if_pos (by omega)]
theorem Cw(l:List UInt8)(p:Nat)(h:okF l p 4):jF l p = .ok (enc (xy l p 4)) (p+4):=by
 obtain⟨a,c⟩:=h;have b:=a 0 (by omega);have d:=a 1 (by omega);have e:=a 2 (by omega);have f:=a 3 (by omega);have g:=c (by omega);simp only[Nat.add_zero] at b;unfold jF;simp only;rw[if_neg (by omega),if_neg (by omega),if_neg (by omega),if_neg (by omega)]
 have:xy l p 4=((zG (ze l p)*16+zG (ze l (p+1)))*16+zG (ze l (p+2)))*16+zG (ze l (p+3)):=by
  simp only[xy,Nat.add_zero];omega
 rw[this]
theorem gU(l:List UInt8)(p k:Nat)(h:okF l p k)(a:0<=zG (ze l (p+k)))(d:k=1->¬(zG (ze l p)=13/\8<=zG (ze l (p+1)))):okF l p (k+1):=by
 obtain⟨b,c⟩:=h;refine⟨λj f=>?_,λh=>?_⟩
 ·by_cases e:j=k
  ·subst e;exact a
  ·exact b j (by omega)
 ·by_cases e:k=1
  ·exact d e
  ·exact c (by omega)
end Rd
def jc(w:World)(R:Nat)(s:BA)(r:Rd.Res BA)(e:Ending)(a:World):Prop:=match r with
 | .ok u q=>(∃N:Int,e = .returned (.tuple #[.int .i32 N,.nilIface])/\u=Ref.enc N/\0<=N/\N<=65535/\¬(55296<=N/\N<=57343))/\w.grownBy a (some R)/\zi a R s q/\q<=s.size
 | .err _ q=>(∃N:Int,e = .returned (.tuple #[.int .i32 N,.iface 112 (.agg #[.int .i64 (q:Int)])])/\0<=N/\N<=65535)/\w.grownBy a (some R)/\zi a R s q/\q<=s.size
theorem jc.of{w b:World}{R:Nat}{s:BA}{r a:Rd.Res BA}{e:Ending}(h:jc w R s r e b)(c:a=r):jc w R s a e b:=c ▸ h
theorem Cs(s:BA)(R p:Nat)(w:World)(S:zi w R s p)(hp:p<=s.size)(hs:s.size<=4000) :
  Calls prog 133 #[.pointer (some ⟨R,0,none⟩)] w λe w'=>jc w R s (Rd.jF s.data.toList p) e w':=by
 have C:=hid S;clear S;go_enter func133,ntmps133
 go_wp2
 go_loopw [4,8] (λnv M wr=>∃k:Nat,k<=4/\M = .int .i64 k/\nv = .int .i32 (Rd.xy s.data.toList p k)/\Rd.okF s.data.toList p k/\p+k<=s.size/\zi wr R s (p+k)/\w.grownBy wr (some R)) (λ_ M _=>4-(intOf M).toNat)
 case atStart=>exact⟨0,by omega,rfl,rfl,⟨λj h=>by omega,λh=>by omega⟩,by omega,C.out,xG w _ 0⟩
 case round=>
  obtain⟨k,hk,rfl,rfl,z,v,m,P⟩:=hrel;have d:=Rd.Ht s.data.toList p k z;obtain⟨N,y⟩:=Nm (Rd.xy s.data.toList p k);have i:=hid (show Rd.xy s.data.toList p (k+1)=Rd.xy s.data.toList p k*16+Ref.zG (Rd.ze s.data.toList (p+k)) from rfl)
  rw[y] at d i |-;have t:=hid z;have B:=hid P;have x:=hid m;clear z P C
  by_cases hlt:k<4
  ·have l:=XQ s R (p+k) wr x.out v;obtain⟨b,o⟩:=Nm (Rd.ze s.data.toList (p+k));rw[o] at l i;have E:b<256:=by rw[<- o];exact Rd.kM _ _
   have c:=λW=>DF b W E;have hle:=Rd.Q0 b;obtain⟨h,q⟩:=Nm (Ref.zG (b:Int));rw[q] at i hle;simp only[q] at c;have H:=λn=>Qb s R (p+k) (wr.drewN n) (x.out.drewN n);have D:0<=N/\N<=4095:=by omega
   obtain⟨a0,a1⟩:=D
   by_cases hneg:h<0
   ·have a:=Rd.dH s.data.toList p k t.out hlt (.inl (by rw[o,q];exact hneg));rw[if_pos hneg,decide_eq_false (by omega)] at c;have r:=hid a;clear a o q y d m
    go_wp2_with (first
     | (go_at_call 82;refine l.mono ?_;rintro e I ⟨rfl,n,rfl⟩)
     | (go_at_call 142;refine (c _).mono ?_;rintro e J ⟨rfl,rfl⟩)
     | (go_at_call 53;refine (H n).mono ?_;rintro e K ⟨rfl,rfl⟩))
    go_ret2;refine jc.of ?_ r.out;exact⟨⟨0,rfl,by omega,by omega⟩,zH B.out (xG wr _ n),x.out.drewN n,v⟩
   rw[if_neg hneg,decide_eq_true (by omega)] at c
   have Q:p+k<s.size:=by
    have:=Rd.Uu s.data.toList (p+k) (by rw[o,q];omega)
    rwa [Ref.zB] at this
   have F:0<=h:=by omega
   by_cases hk1:k=1
   ·subst hk1;have g:Ref.zG (Rd.ze s.data.toList p)=N:=(d.2.2.1 rfl).1.symm
    by_cases hbd:N=13/\8<=h
    ·have a:=Rd.dH s.data.toList p 1 t.out hlt (.inr ⟨rfl,by rw[g];exact hbd.1,by rw[o,q];exact hbd.2⟩);have r:=hid a;obtain⟨A,Z⟩:=hbd;have T:decide (8<=h)=true:=decide_eq_true Z;clear a o q y d m g
     go_wp2_with (first
      | (go_at_call 82;refine l.mono ?_;rintro e I ⟨rfl,n,rfl⟩)
      | (go_at_call 142;refine (c _).mono ?_;rintro e J ⟨rfl,rfl⟩)
      | (go_at_call 53;refine (H n).mono ?_;rintro e K ⟨rfl,rfl⟩))
     go_ret2;refine jc.of ?_ r.out;exact⟨⟨0,rfl,by omega,by omega⟩,zH B.out (xG wr _ n),x.out.drewN n,v⟩
    have f:=hid (Rd.gU s.data.toList p 1 t.out (by rw[o,q];exact F) (λ_=>by rw[g,o,q];exact hbd));obtain⟨V,X,Y⟩:=m;clear o q y d g
    by_cases A:N=13
    ·have T:decide (8<=h)=false:=decide_eq_false (by omega);clear hbd
     go_wp2_with (first
      | (go_at_call 82;refine l.mono ?_;rintro e I ⟨rfl,n,rfl⟩)
      | (go_at_call 142;refine (c _).mono ?_;rintro e J ⟨rfl,rfl⟩)
      | (go_at_call 53;refine (H n).mono ?_;rintro e K ⟨rfl,rfl⟩))
     have G:zi ((wr.drewN n).setCell ⟨R,1,none⟩ (.int .i64 ((p:Int)+1+1))) R s (p+(1+1)):=by
      have:=(x.out.drewN n).move (p+(1+1))
      rw[show ((p:Int)+1+1)=((p+(1+1):Nat):Int) by omega];exact this
     exact⟨⟨1+1,by omega,by go_num,by rw[i.out,A];rfl,f.out,by omega,G,zH B.out (zH (xG wr _ n) (xS _ _ _ _))⟩,by simp[intOf]⟩
    ·have d13:(N==13)=false:=by rw[beq_eq_false_iff_ne];exact A
     clear hbd
     go_wp2_with (first
      | (go_at_call 82;refine l.mono ?_;rintro e I ⟨rfl,n,rfl⟩)
      | (go_at_call 142;refine (c _).mono ?_;rintro e J ⟨rfl,rfl⟩)
      | (go_at_call 53;refine (H n).mono ?_;rintro e K ⟨rfl,rfl⟩))
     have G:zi ((wr.drewN n).setCell ⟨R,1,none⟩ (.int .i64 ((p:Int)+1+1))) R s (p+(1+1)):=by
      have:=(x.out.drewN n).move (p+(1+1))
      rw[show ((p:Int)+1+1)=((p+(1+1):Nat):Int) by omega];exact this
     exact⟨⟨1+1,by omega,by go_num,by rw[i.out],f.out,by omega,G,zH B.out (zH (xG wr _ n) (xS _ _ _ _))⟩,by simp[intOf]⟩
   ·have f:=hid (Rd.gU s.data.toList p k t.out (by rw[o,q];exact F) (λe=>absurd e hk1));have U:((k:Int)==1)=false:=by rw[beq_eq_false_iff_ne];omega
    obtain⟨V,X,Y⟩:=m;clear o q y d
    go_wp2_with (first
     | (go_at_call 82;refine l.mono ?_;rintro e I ⟨rfl,n,rfl⟩)
     | (go_at_call 142;refine (c _).mono ?_;rintro e J ⟨rfl,rfl⟩)
     | (go_at_call 53;refine (H n).mono ?_;rintro e K ⟨rfl,rfl⟩))
    have G:zi ((wr.drewN n).setCell ⟨R,1,none⟩ (.int .i64 ((p:Int)+(k:Int)+1))) R s (p+(k+1)):=by
     have:=(x.out.drewN n).move (p+(k+1))
     rw[show ((p:Int)+(k:Int)+1)=((p+(k+1):Nat):Int) by omega];exact this
    exact⟨⟨k+1,by omega,by go_num,by rw[i.out],f.out,by omega,G,zH B.out (zH (xG wr _ n) (xS _ _ _ _))⟩,by simp[intOf];omega⟩
  ·obtain rfl:k=4:=by omega
   have u:=Rd.Cw s.data.toList p t.out;rw[y] at u;have L:=hid u;have O:=d.2.2.2.2.2 rfl;clear u y m
   go_wp2
   go_ret2;refine jc.of ?_ L.out;exact⟨⟨N,rfl,rfl,d.1,O.1,O.2⟩,B.out,x.out,v⟩
theorem V9(n:Int)(h:n<128):Ref.one n=Ref.enc n:=by unfold Ref.enc;rw[if_pos h]
theorem jc.later{w c b:World}{R:Nat}{s:BA}{r:Rd.Res BA}{e:Ending}(a:w.grownBy c (some R))(h:jc c R s r e b):jc w R s r e b:=by
 cases r with
 | ok u q=>exact⟨h.1,zH a h.2.1,h.2.2⟩
 | err x q=>exact⟨h.1,zH a h.2.1,h.2.2⟩
theorem dw(s:BA)(R p:Nat)(w:World)(C:zi w R s p)(E:p<=s.size)(F:s.size<=4000) :
  Calls prog 122 #[.pointer (some ⟨R,0,none⟩)] w λe H=>jc w R s (Rd.yX s.data.toList p) e H:=by
 have d:=XQ s R p w C E;have c:Rd.yX s.data.toList p=Rd.yX s.data.toList p:=rfl
 conv at c=>rhs;unfold Rd.yX
 simp only at c;obtain⟨b,z⟩:=Nm (Rd.ze s.data.toList p);rw[z] at d c;have D:b<256:=by rw[<- z];exact Rd.kM _ _
 have m:b≠0->p<s.size:=λh=>by
  have:=Rd.zW s.data.toList p (by rw[z];exact h)
  rwa [Ref.zB] at this
 have f:=hid m;have A:=hid C;have v:=λn=>(A.out.drewN n).move (p+1);obtain⟨J,K,L⟩:=C;clear z m
 have l:∀n,zi ((w.drewN n).setCell ⟨R,1,none⟩ (.int .i64 ((p:Int)+1))) R s (p+1):=λn=>by
  have:=v n
  rw[show ((p:Int)+1)=((p+1:Nat):Int) by omega];exact this
 have i:=hid l;clear v l
 by_cases c1:b=34\/b=92\/b=47
 ·rw[if_pos c1] at c;have g:=hid c;have o:=f.out (by omega);have k:(b:Int)=34\/(b:Int)=92\/(b:Int)=47:=by omega
  clear c c1
  rcases k with k|k|k
  all_goals
   go_enter func122,ntmps122
   go_wp2_with (go_at_call 82;refine d.mono ?_;rintro e y ⟨rfl,n,rfl⟩)
   go_ret2;refine jc.of ?_ g.out;exact⟨⟨b,by rw[k];rfl,V9 _ (by omega),by omega,by omega,by omega⟩,zH (xG w _ n) (xS _ _ _ _),i.out n,by omega⟩
 rw[if_neg c1] at c;have M:((b:Int)==34)=false:=by rw[beq_eq_false_iff_ne];omega
 have O:((b:Int)==92)=false:=by rw[beq_eq_false_iff_ne];omega
 have P:((b:Int)==47)=false:=by rw[beq_eq_false_iff_ne];omega
 by_cases c4:b=110
 ·rw[if_pos c4] at c;have g:=hid c;have o:=f.out (by omega);have k:(b:Int)=110:=by omega
  clear c c1 c4;go_enter func122,ntmps122
  go_wp2_with (go_at_call 82;refine d.mono ?_;rintro e y ⟨rfl,n,rfl⟩)
  go_ret2;refine jc.of ?_ g.out;exact⟨⟨10,rfl,V9 _ (by omega),by omega,by omega,by omega⟩,zH (xG w _ n) (xS _ _ _ _),i.out n,by omega⟩
 rw[if_neg c4] at c;have Q:((b:Int)==110)=false:=by rw[beq_eq_false_iff_ne];omega
 by_cases c5:b=116
 ·rw[if_pos c5] at c;have g:=hid c;have o:=f.out (by omega);have k:(b:Int)=116:=by omega
  clear c c1 c5;go_enter func122,ntmps122
  go_wp2_with (go_at_call 82;refine d.mono ?_;rintro e y ⟨rfl,n,rfl⟩)
  go_ret2;refine jc.of ?_ g.out;exact⟨⟨9,rfl,V9 _ (by omega),by omega,by omega,by omega⟩,zH (xG w _ n) (xS _ _ _ _),i.out n,by omega⟩
 rw[if_neg c5] at c;have S:((b:Int)==116)=false:=by rw[beq_eq_false_iff_ne];omega
 by_cases c6:b=117
 ·rw[if_pos c6] at c;have g:=hid c;have o:=f.out (by omega);have k:(b:Int)=117:=by omega
  have j:=λn=>Cs s R (p+1) ((w.drewN n).setCell ⟨R,1,none⟩ (.int .i64 ((p:Int)+1))) (i.out n) (by omega) F;have t:=λn=>zH (xG w (some R) n) (xS (w.drewN n) R 1 (.int .i64 ((p:Int)+1)));have r:=hid t;clear c c1 c4 c5 c6 t
  cases hf:Rd.jF s.data.toList (p+1) with
  | ok u q=>
   rw[hf] at g;simp only[hf] at j;clear hf;go_enter func122,ntmps122
   go_wp2_with (first
    | (go_at_call 82;refine d.mono ?_;rintro e y ⟨rfl,n,rfl⟩)
    | (go_at_call 133;refine (j n).mono ?_;rintro e I ⟨⟨N,rfl,B⟩,a⟩))
   go_ret2;refine jc.of ?_ g.out;exact⟨⟨N,rfl,B⟩,zH (r.out n) a.1,a.2⟩
  | err x q=>
   rw[hf] at g;simp only[hf] at j;clear hf;go_enter func122,ntmps122
   go_wp2_with (first
    | (go_at_call 82;refine d.mono ?_;rintro e y ⟨rfl,n,rfl⟩)
    | (go_at_call 133;refine (j n).mono ?_;rintro e I ⟨⟨N,rfl,B⟩,a⟩))
   go_ret2;refine jc.of ?_ g.out;exact⟨⟨N,rfl,B⟩,zH (r.out n) a.1,a.2⟩
 ·rw[if_neg c6] at c;have g:=hid c;have T:((b:Int)==117)=false:=by rw[beq_eq_false_iff_ne];omega
  have G:=λn=>Qb s R p (w.drewN n) (A.out.drewN n);clear c c1 c4 c5 c6;go_enter func122,ntmps122
  go_wp2_with (first
   | (go_at_call 82;refine d.mono ?_;rintro e y ⟨rfl,n,rfl⟩)
   | (go_at_call 53;refine (G n).mono ?_;rintro e U ⟨rfl,rfl⟩))
  go_ret2;refine jc.of ?_ g.out;exact⟨⟨0,rfl,by omega,by omega⟩,xG w _ n,A.out.drewN n,E⟩
def vg:List Value:=[.int .u8 194,.int .u8 223,.int .i64 1,.int .u8 128,.int .u8 191,.int .u8 224,.int .u8 224,.int .i64 2,.int .u8 160,.int .u8 191,.int .u8 225,.int .u8 236,.int .i64 2,.int .u8 128,.int .u8 191,.int .u8 237,.int .u8 237,.int .i64 2,.int .u8 128,.int .u8 159,.int .u8 238,.int .u8 239,.int .i64 2,.int .u8 128,.int .u8 191,.int .u8 240,.int .u8 240,.int .i64 3,.int .u8 144,.int .u8 191,.int .u8 241,.int .u8 243,.int .i64 3,.int .u8 128,.int .u8 191,.int .u8 244,.int .u8 244,.int .i64 3,.int .u8 128,.int .u8 143]
def Vx(w:World):Prop:=∀(j:Nat) (v:Value),vg[j]?=some v->w.cell? ⟨5,j,none⟩=some v
theorem Vx.below{w a:World}(h:Vx w)(b:Below w.heap.size w a):Vx a:=λj v c=>zb b (h j v c)
theorem Nt(W:World):(Instr.index 268 (.agg vg.toArray) (.int .i64 0)).run prog W = .ok (.agg #[.int .u8 194,.int .u8 223,.int .i64 1,.int .u8 128,.int .u8 191]) W:=by kernel_rfl
theorem Nu(W:World):(Instr.index 268 (.agg vg.toArray) (.int .i64 1)).run prog W = .ok (.agg #[.int .u8 224,.int .u8 224,.int .i64 2,.int .u8 160,.int .u8 191]) W:=by kernel_rfl
theorem Nv(W:World):(Instr.index 268 (.agg vg.toArray) (.int .i64 2)).run prog W = .ok (.agg #[.int .u8 225,.int .u8 236,.int .i64 2,.int .u8 128,.int .u8 191]) W:=by kernel_rfl
theorem Nw(W:World):(Instr.index 268 (.agg vg.toArray) (.int .i64 3)).run prog W = .ok (.agg #[.int .u8 237,.int .u8 237,.int .i64 2,.int .u8 128,.int .u8 159]) W:=by kernel_rfl
theorem Ny(W:World):(Instr.index 268 (.agg vg.toArray) (.int .i64 4)).run prog W = .ok (.agg #[.int .u8 238,.int .u8 239,.int .i64 2,.int .u8 128,.int .u8 191]) W:=by kernel_rfl
theorem Nz(W:World):(Instr.index 268 (.agg vg.toArray) (.int .i64 5)).run prog W = .ok (.agg #[.int .u8 240,.int .u8 240,.int .i64 3,.int .u8 144,.int .u8 191]) W:=by kernel_rfl
theorem NA(W:World):(Instr.index 268 (.agg vg.toArray) (.int .i64 6)).run prog W = .ok (.agg #[.int .u8 241,.int .u8 243,.int .i64 3,.int .u8 128,.int .u8 191]) W:=by kernel_rfl
theorem ND(W:World):(Instr.index 268 (.agg vg.toArray) (.int .i64 7)).run prog W = .ok (.agg #[.int .u8 244,.int .u8 244,.int .i64 3,.int .u8 128,.int .u8 143]) W:=by kernel_rfl
theorem zi.same{w b:World}{R:Nat}{s:BA}{p:Nat}(h:zi w R s p)(a:b.heap[R]?=w.heap[R]?):zi b R s p:=by
 obtain⟨c,d,e⟩:=h;refine⟨?_,?_,?_⟩
 ·rw[<- c];simp only[World.cell?,a]
 ·rw[<- d];simp only[World.cell?,a]
 ·rw[<- e];simp only[World.frozen?,a]
theorem zi.alloc{w:World}{R:Nat}{s:BA}{p:Nat}(h:zi w R s p)(O:Obj):zi (w.alloc O) R s p:=h.same ((World.grownBy_alloc w O none).block R h.lt (by simp))
theorem Ns(W:World)(k:Nat)(a:k<8):(Instr.index 268 (.agg vg.toArray) (.int .i64 (k:Int))).run prog W = .ok (.agg #[.int .u8 (Rd.vk k:Int),.int .u8 (Rd.vM k:Int),.int .i64 (Rd.kW k:Int),.int .u8 (Rd.Z9 k:Int),.int .u8 (Rd.Qx k:Int)]) W:=by
 rcases Rd.lt8 a with rfl|rfl|rfl|rfl|rfl|rfl|rfl|rfl
 ·exact Nt W
 ·exact Nu W
 ·exact Nv W
 ·exact Nw W
 ·exact Ny W
 ·exact Nz W
 ·exact NA W
 ·exact ND W
theorem NG:(prog.info? 268).map (·.size)=some vg.toArray.size:=by kernel_rfl
def qb(w:World):Prop:=∃t fr,w.heap[(5:Nat)]?=some (.cells vg.toArray t fr)
theorem qb.same{w a:World}(h:qb w)(b:a.heap[(5:Nat)]?=w.heap[(5:Nat)]?):qb a:=by
 obtain⟨t,fr,h⟩:=h;exact⟨t,fr,b.trans h⟩
theorem qb.lt{w:World}(h:qb w):5<w.heap.size:=by
 obtain⟨t,fr,h⟩:=h;exact (Array.getElem?_eq_some_iff.1 h).1
theorem qb.grown{w a:World}{R:Nat}(h:qb w)(b:w.grownBy a (some R))(c:R≠5):qb a:=h.same (b.block _ h.lt (by simp;omega))
def ZI(w:World)(R:Nat)(s:BA)(p:Nat)(r:Rd.Res BA)(e:Ending)(a:World):Prop:=match r with
 | .ok u q=>e = .returned .nilIface/\u=Rd.piece s.data.toList p q/\w.grownBy a (some R)/\zi a R s q/\q<=s.size/\p<=q
 | .err _ q=>e = .returned (.iface 112 (.agg #[.int .i64 (q:Int)]))/\w.grownBy a (some R)/\zi a R s q/\q<=s.size/\p<=q
theorem ZI.of{w b:World}{R:Nat}{s:BA}{p:Nat}{r a:Rd.Res BA}{e:Ending}(h:ZI w R s p r e b)(c:a=r):ZI w R s p a e b:=c ▸ h
theorem XR(s:BA)(R p:Nat)(w:World)(c:zi w R s p)(d:p<=s.size) :
  Calls prog 82 #[.pointer (some ⟨R,0,none⟩)] w λe a=>e = .returned (.int .u8 ((Rd.ze s.data.toList p:Nat):Int))/\zi a R s p/\w.grownBy a (some R)/\(∀i:Nat,a.heap[i]?=w.heap[i]?)/\a.heap.size=w.heap.size:=by
 refine (XQ s R p w c d).mono ?_;rintro e a ⟨rfl,n,rfl⟩
 have b:∀n,(w.drewN n).heap=w.heap:=λn=>by
  induction n with
  | zero=>rfl
  | succ n f=>exact f
 exact⟨rfl,c.drewN n,xG w _ n,λi=>by rw[b],by rw[b]⟩
theorem NJ(s:BA)(R p:Nat)(w:World)(hr:zi w R s p)(hp:p<=s.size)(hs:s.size<=4000)(hq:qb w) :
  Calls prog 124 #[.pointer (some ⟨R,0,none⟩)] w λe a=>ZI w R s p (Rd.yN s.data.toList p) e a:=by
 obtain⟨tt,fr,hh⟩:=hq;have c:=Ns;have J:=NG;obtain⟨A,hA⟩:=Nm vg.toArray;rw[hA] at hh J;simp only[hA] at c;clear hA;have H:=XR s R p w hr hp;obtain⟨b,hb⟩:=Nm (Rd.ze s.data.toList p);rw[hb] at H;have e4:b<256:=by rw[<- hb];exact Rd.kM _ _
 have v:Calls prog 82 #[.pointer (some ⟨R,0,none⟩)] w λe a=>e = .returned (.int .u8 (b:Int))/\zi a R s p/\w.grownBy a (some R)/\a.heap[(5:Nat)]?=some (.cells A tt fr):=by
  refine H.mono ?_;rintro e a ⟨rfl,h1,f,n,_⟩;exact⟨rfl,h1,f,(n _).trans hh⟩
 have HB:=hid hb;clear H hb hr hh
 have u:128<=b->p<s.size:=λh=>by
  have:=Rd.zW s.data.toList p (by rw[HB.out];omega)
  rwa [Ref.zB] at this
 have d0:=hid u;clear u;go_enter func124,ntmps124
 go_wp2_with (first
  | (go_at_call 82;refine v.mono ?_;rintro e w1 ⟨rfl,a9,a3,a6⟩)
  | (refine wpList_load_row rfl 268 _ rfl 5 rfl tt A fr _ a6 underlying268 rfl J ?_))
 have V:=hid a9;have Q:=hid a3;clear a9 a3 a6 v J
 go_loopw [11] (λK wr=>∃k:Nat,k<=8/\K = .int .i64 k/\zi wr R s p/\w.grownBy wr (some R)/\(∀i,i<k->b<Rd.vk i\/Rd.vM i<b)) (λK _=>8-(intOf K).toNat)
 case atStart=>exact⟨0,by omega,rfl,V.out,Q.out,λi g=>by omega⟩
 case round=>
  obtain⟨k,hk,rfl,c0,hg,a8⟩:=hrel;have T:=hid a8;have m:=hid c0;have HG:=hid hg;clear a8 c0 hg V Q
  by_cases hlt:k<8
  ·have b9:=λW=>c W k hlt;have a1:=Rd.J9 k hlt;have d8:=λ(h1:Rd.vk k<=b) (f:b<=Rd.vM k)=>And.intro h1 f;have d:=Rd.NF s.data.toList p k hlt;have t:=λj=>Rd.NH s.data.toList p k j hlt;have o:=Rd.Np s.data.toList p k hlt;rw[HB.out] at d o;simp only[HB.out] at t
   have G:b<Rd.vk k\/Rd.vM k<b->∀i,i<k+1->b<Rd.vk i\/Rd.vM i<b:=λh i g=>by
    by_cases e:i=k
    ·subst e;exact h
    ·exact T.out i (by omega)
   obtain⟨F,hF⟩:=Nm (Rd.vk k);obtain⟨L,hL⟩:=Nm (Rd.vM k);obtain⟨N,hN⟩:=Nm (Rd.kW k);obtain⟨M,E⟩:∃N,Rd.Z9 k=N:=⟨_,rfl⟩;obtain⟨g,D⟩:∃N,Rd.Qx k=N:=⟨_,rfl⟩;rw[hF,hL,hN,E,D] at a1;rw[hF,hL] at G;simp only[hF,hL,hN,E,D] at b9 d t o;clear d8 hF hL hN E D;have U:=hid G;have Z:=hid d;have d4:=hid t;have c9:=hid o;clear G d t o c;obtain⟨b1,b2,b3,b4,b5,b6,b7,b8⟩:=a1
   by_cases c1:b<F
   ·have d1:decide ((b:Int)<(F:Int))=true:=decide_eq_true (by omega)
    go_wp2
    go_roundw
    case rel=>exact⟨k+1,by omega,by go_num,m.out.alloc _,zH HG.out (World.grownBy_alloc _ _ _),U.out (.inl c1)⟩
    case measure=>simp[intOf];omega
   have d1:decide ((b:Int)<(F:Int))=false:=decide_eq_false (by omega)
   by_cases c2:L<b
   ·have d2:decide ((L:Int)<(b:Int))=true:=decide_eq_true (by omega)
    go_wp2
    go_roundw
    case rel=>exact⟨k+1,by omega,by go_num,m.out.alloc _,zH HG.out (World.grownBy_alloc _ _ _),U.out (.inr c2)⟩
    case measure=>simp[intOf];omega
   have d2:decide ((L:Int)<(b:Int))=false:=decide_eq_false (by omega);have g7:p<s.size:=d0.out (by omega)
   have a7:zi (wr.setCell ⟨R,1,none⟩ (.int .i64 ((p:Int)+1))) R s (p+1):=by
    have:=m.out.move (p+1)
    rw[show ((p:Int)+1)=((p+1:Nat):Int) by omega];exact this
   have e3:=m.out.lt
   have a4:w.grownBy ((wr.setCell ⟨R,1,none⟩ (.int .i64 ((p:Int)+1))).alloc (.cells #[.int .u8 (F:Int),.int .u8 (L:Int),.int .i64 (N:Int),.int .u8 (M:Int),.int .u8 (g:Int)] 267)) (some R):=
    zH HG.out (zH (xS _ _ _ _) (World.grownBy_alloc _ _ _))
   have a2:((wr.setCell ⟨R,1,none⟩ (.int .i64 ((p:Int)+1))).alloc (.cells #[.int .u8 (F:Int),.int .u8 (L:Int),.int .i64 (N:Int),.int .u8 (M:Int),.int .u8 (g:Int)] 267)).cell? ⟨wr.heap.size,2,none⟩=some (.int .i64 (N:Int)):=by
    have e:(wr.setCell ⟨R,1,none⟩ (.int .i64 ((p:Int)+1))).heap.size=wr.heap.size:=by simp[World.setCell]
    have:=heap_alloc_new (wr.setCell ⟨R,1,none⟩ (.int .i64 ((p:Int)+1))) (.cells #[.int .u8 (F:Int),.int .u8 (L:Int),.int .i64 (N:Int),.int .u8 (M:Int),.int .u8 (g:Int)] 267)
    rw[e] at this;simp only[World.cell?,this]
    rfl
   have hw:=nI s R (p+1) M g _ (a7.alloc (.cells #[.int .u8 (F:Int),.int .u8 (L:Int),.int .i64 (N:Int),.int .u8 (M:Int),.int .u8 (g:Int)] 267)) (by omega) hs b6 b7;have g1:=λO=>(m.out.alloc O).1;have g2:=λO=>(m.out.alloc O).2.1;have g3:=λO=>(m.out.alloc O).2.2;have y:=hid a4;have P:=hid a2;clear a4 a2 a7
   cases hwt:Rd.within s.data.toList M g (p+1) with
   | false=>
    have x:=hid (Z.out (by omega) (by omega) hwt)
    have hw1:=hw.mono (R':=λe a=>e = .returned (.iface 112 (.agg #[.int .i64 ((p+1:Nat):Int)]))/\w.grownBy a (some R)/\zi a R s (p+1)) (by
     rintro e a ⟨_,h⟩;obtain⟨rfl,f,n⟩:=h hwt;exact⟨rfl,zH y.out f,n⟩)
    clear hw hwt
    go_wp2_with (go_at_call 135;refine hw1.mono ?_;rintro e w4 ⟨rfl,q,r⟩)
    go_ret;refine ZI.of ?_ x.out;exact⟨rfl,q,r,by omega,by omega⟩
   | true=>
    have a0:=hid hwt
    have hw1:=hw.mono (R':=λe a=>e = .returned .nilIface/\w.grownBy a (some R)/\zi a R s (p+2)/\a.cell? ⟨wr.heap.size,2,none⟩=some (.int .i64 (N:Int))/\p+1<s.size) (by
     rintro e a ⟨h,_⟩;obtain⟨rfl,f,n,h4⟩:=h hwt;exact⟨rfl,zH y.out f,n,f.cell P.out (by simp;omega),h4⟩)
    clear hw hwt;have f3:1<=(N:Int):=by omega
    have f4:(N:Int)<=3:=by omega
    go_wp2_with (go_at_call 135;refine hw1.mono ?_;rintro e w4 ⟨rfl,q,r,g0,g5⟩)
    have S:=hid q;have X:=hid r;clear q r hw1 g1 g2 g3 y P
    go_loopw [43] (λK wi=>∃j:Nat,j+1<=N/\K = .int .i64 j/\zi wi R s (p+2+j)/\w.grownBy wi (some R)/\Rd.Vk s.data.toList p j/\p+2+j<=s.size) (λK _=>N-(intOf K).toNat)
    case atStart=>exact⟨0,by omega,rfl,X.out,S.out,λi g=>by omega,by omega⟩
    case round=>
     obtain⟨j,g4,rfl,b0,a5,c3,e2⟩:=hrel;have Y:=hid b0;have z:=hid a5;have B:=hid c3;clear b0 a5 c3 S X;have l:=nI s R (p+2+j) 128 191 wr Y.out e2 hs (by omega) (by omega)
     by_cases hjl:j+1<N
     ·have e1:(j:Int)<(N:Int)-1:=by omega
      cases hwt:Rd.within s.data.toList 128 191 (p+2+j) with
      | false=>
       have x:=hid (d4.out j (by omega) (by omega) a0.out B.out hjl hwt)
       have hw1:=l.mono (R':=λe a=>e = .returned (.iface 112 (.agg #[.int .i64 ((p+2+j:Nat):Int)]))/\w.grownBy a (some R)/\zi a R s (p+2+j)) (by
        rintro e a ⟨_,h⟩;obtain⟨rfl,f,n⟩:=h hwt;exact⟨rfl,zH z.out f,n⟩)
       clear l hwt
       go_wp2_with (go_at_call 135;refine hw1.mono ?_;rintro e w5 ⟨rfl,C,I⟩)
       go_ret;refine ZI.of ?_ x.out;exact⟨rfl,C,I,by omega,by omega⟩
      | true=>
       have d3:=hid (show Rd.Vk s.data.toList p (j+1) from λi g=>by
        by_cases e:i=j
        ·subst e;exact hwt
        ·exact B.out i (by omega))
       have hw1:=l.mono (R':=λe a=>e = .returned .nilIface/\w.grownBy a (some R)/\zi a R s (p+2+(j+1))/\p+2+j<s.size) (by
        rintro e a ⟨h,_⟩;obtain⟨rfl,f,n,h4⟩:=h hwt;exact⟨rfl,zH z.out f,n,h4⟩)
       clear l hwt
       go_wp2_with (go_at_call 135;refine hw1.mono ?_;rintro e w5 ⟨rfl,C,I,g6⟩)
       go_roundw
       case rel=>exact⟨j+1,by omega,by go_num,I,C,d3.out,by omega⟩
       case measure=>simp[intOf];omega
     ·have e1:¬(j:Int)<(N:Int)-1:=by omega
      obtain rfl:N=j+1:=by omega
      have x:=hid (c9.out (by omega) (by omega) a0.out B.out);clear l
      go_wp2
      go_ret;refine ZI.of ?_ x.out;exact⟨rfl,rfl,z.out,by have:=Y.out;rwa [show p+1+(j+1)=p+2+j by omega],by omega,by omega⟩
  ·have x:=hid (Rd.Nq s.data.toList p (by rw[HB.out];exact Rd.FU b (λi g=>T.out i (by omega))));have sf:=Qb s R p wr m.out
   go_wp2_with (go_at_call 53;refine sf.mono ?_;rintro e w2 ⟨rfl,rfl⟩)
   go_ret;refine ZI.of ?_ x.out;exact⟨rfl,HG.out,m.out,hp,Nat.le_refl _⟩
end Go.Proofs.YtdakgnaojakldabGreatDoor
