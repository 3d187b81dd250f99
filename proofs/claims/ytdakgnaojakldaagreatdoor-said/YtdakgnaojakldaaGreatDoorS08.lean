/- P -/
import Derived.Test.YtdakgnaojakldaaGreatDoorS05
import Derived.Deep.QuietTactic
import Derived.BigQuiet
import Derived.Laws.Rows
import Derived.Laws.AppendOwn
open Go.Proofs.Tryz
set_option maxRecDepth 100000
set_option maxHeartbeats 2000000
namespace Go.Proofs.YtdakgnaojakldaaGreatDoor
open Go.RowKit
def zk(w:World)(R:Nat)(s:BY)(p:Nat):Prop:=w.cell? ⟨R,0,none⟩=some (.string s)/\w.cell? ⟨R,1,none⟩=some (.int .i64 (p:Int))/\w.frozen? ⟨R,1,none⟩=false
theorem zk.drewN{w:World}{R:Nat}{s:BY}{p:Nat}(h:zk w R s p)(n:Nat):zk (w.drewN n) R s p:=by
 induction n with
 | zero=>exact h
 | succ n a=>exact a
theorem zk.lt{w:World}{R:Nat}{s:BY}{p:Nat}(h:zk w R s p):R<w.heap.size:=World.block_lt_of_cell? _ _ h.1
theorem zk.move{w:World}{R:Nat}{s:BY}{p:Nat}(h:zk w R s p)(q:Nat):zk (w.setCell ⟨R,1,none⟩ (.int .i64 (q:Int))) R s q:=by
 obtain⟨b,a,d⟩:=h;refine⟨by rw[ny _ _ _ _ _ _ (by omega)];exact b,?_,by rw[aB];exact d⟩;unfold World.cell? World.setCell at *;simp only[Array.getElem?_modify,if_true];simp only at a
 cases hb:w.heap[R]? with
 | none=>rw[hb] at a;simp at a
 | some o=>
  rw[hb] at a
  cases o with
  | cells c t f=>
   simp at a |-;have e:=(Array.getElem?_eq_some_iff.1 a).1;simp[e]
  | _=>simp at a
theorem xq(w:World)(r:Option Nat):∀n,w.grownBy (w.drewN n) r
 | 0=>⟨rfl,rfl,rfl,Nat.le_refl _,λ_ _ _=>rfl⟩
 | n+1=>have h:=xq w r n;⟨h.os,h.tape,h.output,h.size,h.block⟩
theorem zD{a b c:World}{r:Option Nat}(h:a.grownBy b r)(k:b.grownBy c r):a.grownBy c r:=
 ⟨k.os.trans h.os,k.tape.trans h.tape,k.output.trans h.output,Nat.le_trans h.size k.size,λi hi d=>(k.block i (Nat.lt_of_lt_of_le hi h.size) d).trans (h.block i hi d)⟩
theorem xE(a:World)(b o:Nat)(u:Value):a.grownBy (a.setCell ⟨b,o,none⟩ u) (some b):=
 ⟨rfl,rfl,rfl,by simp[World.setCell],λi _ c=>Below.heap_setCell a ⟨b,o,none⟩ u i (λe=>c (by simp[e]))⟩
theorem Xc(s:BY)(R p:Nat)(w:World)(a:zk w R s p)(h:p<=s.size) :
  Calls prog 143 #[.pointer (some ⟨R,0,none⟩)] w λe b=>e = .returned (.int .u8 ((Rd.zf s.data.toList p:Nat):Int))/\∃n,b=w.drewN n:=by
 obtain⟨c,f,g⟩:=a
 by_cases hlt:p<s.size
 ·have e:Rd.zf s.data.toList p=s[p].toNat:=by
   rw[Rd.VU _ _ (by rw[Ref.zx];exact hlt)];rfl
  rw[e];have d:((p:Int)==(s.size:Int))=false:=by rw[beq_eq_false_iff_ne];omega
  have hi:(p:Int)<(s.size:Int):=by omega
  go_enter func143,ntmps143;go_wp2_with fail
  go_quiet (fail)
  go_wp2_with fail
  go_quiet (fail)
  go_wp2
  go_ret;exact⟨rfl,_,by first|rfl|rw[World.drewN_drewN]⟩
 ·have e:Rd.zf s.data.toList p=0:=Rd.Y5 _ _ (by rw[Ref.zx];exact hlt);rw[e];have d:((p:Int)==(s.size:Int))=true:=by rw[beq_iff_eq];omega
  go_enter func143,ntmps143;go_wp2_with fail
  go_quiet (fail)
  go_wp2
  go_ret;exact⟨rfl,_,rfl⟩
theorem Zx(s:BY)(R p:Nat)(w:World)(a:zk w R s p) :
  Calls prog 94 #[.pointer (some ⟨R,0,none⟩)] w λe b=>e = .returned (.iface 140 (.agg #[.int .i64 (p:Int)]))/\b=w:=by
 obtain⟨c,d,f⟩:=a;go_enter func94,ntmps94
 go_wp2
 go_ret;exact⟨rfl,rfl⟩
def XB(w:World)(R:Nat):Nat:=match w.cell? ⟨R,1,none⟩ with
 | some (.int _ n)=>n.toNat
 | _=>0
theorem zk.at{w:World}{R:Nat}{s:BY}{p:Nat}(h:zk w R s p):XB w R=p:=by
 unfold XB;rw[h.2.1];simp
theorem Qy(s:BY)(R p:Nat)(w:World)(m:zk w R s p)(y:p<=s.size)(E:s.size<=4000) :
  Calls prog 92 #[.pointer (some ⟨R,0,none⟩)] w λe r=>e = .returned (.tuple #[])/\w.grownBy r (some R)/\zk r R s (Rd.skip s.data.toList p):=by
 go_enter func92,ntmps92
 go_wp2
 go_loopw [2] (λ_ wr=>∃q:Nat,q<=s.size/\zk wr R s q/\w.grownBy wr (some R)/\Rd.skip s.data.toList q=Rd.skip s.data.toList p) (λ_ wr=>s.size-XB wr R)
 case atStart=>exact⟨p,y,m,xq w _ 0,rfl⟩
 case round=>
  obtain⟨q,z,c,l,i⟩:=hrel;have d:=hid i;have k:=hid c.at;clear i;have f:=Xc s R q wr c z;have a:=Rd.uI s.data.toList q;obtain⟨b,hb⟩:=Nm (Rd.zf s.data.toList q);rw[hb] at f a;have o:b<256:=by rw[<- hb];exact Rd.uA _ _
  cases hbl:Rd.blank b with
  | true=>
   rw[hbl,if_pos rfl] at a;have j:=hid a
   have x:q<s.size:=by
    have:=Rd.QP s.data.toList q (by rw[hb];exact hbl)
    rwa [Ref.zx] at this
   have h:(b:Int)=32\/(b:Int)=9\/(b:Int)=10\/(b:Int)=13:=by
    unfold Rd.blank at hbl;simp at hbl;omega
   clear hbl a hb;have g:=hid c;have t:=hid l;obtain⟨B,C,D⟩:=c;clear m l
   rcases h with h|h|h|h
   all_goals
    go_wp2_with (go_at_call 143;refine f.mono ?_;rintro e A ⟨rfl,n,rfl⟩)
    go_roundw
    case rel=>exact⟨q+1,by omega,by have:=(g.out.drewN n).move (q+1);simpa using this,zD t.out (zD (xq wr _ n) (xE _ _ _ _)),by rw[<- j.out];exact d.out⟩
    case measure=>
     have u:=((g.out.drewN n).move (q+1)).at;rw[k.out,show ((q:Int)+1)=((q+1:Nat):Int) by omega,u];omega
  | false=>
   rw[hbl,if_neg (by decide)] at a;rw[a] at d;have F:((b:Int)==32)=false:=by rw[beq_eq_false_iff_ne];intro e;simp[Rd.blank] at hbl;omega
   have G:((b:Int)==9)=false:=by rw[beq_eq_false_iff_ne];intro e;simp[Rd.blank] at hbl;omega
   have H:((b:Int)==10)=false:=by rw[beq_eq_false_iff_ne];intro e;simp[Rd.blank] at hbl;omega
   have I:((b:Int)==13)=false:=by rw[beq_eq_false_iff_ne];intro e;simp[Rd.blank] at hbl;omega
   clear hbl a hb m
   go_wp2_with (go_at_call 143;refine f.mono ?_;rintro e A ⟨rfl,n,rfl⟩)
   exact bodyPost_ret (v := .tuple #[]) (by simp[results,results92,go_sem]) rfl ⟨rfl,zD l (xq wr _ n),by rw[<- d.out];exact c.drewN n⟩
theorem Ak(b:Nat)(w:World)(hb:b<256) :
  Calls prog 260 #[.int .u8 (b:Int)] w λe l=>e = .returned (.tuple #[.int .i32 (if Ref.zC b<0 then 0 else Ref.zC b),.bool (decide (0<=Ref.zC b))])/\l=w:=by
 have c:(0<=b/\b<=47)\/(48<=b/\b<=57)\/(58<=b/\b<=64)\/(65<=b/\b<=70)\/(71<=b/\b<=96)\/(97<=b/\b<=102)\/(103<=b/\b<=255):=by omega
 rcases c with c|c|c|c|c|c|c
 ·have a:Ref.zC (b:Int) = -1:=by unfold Ref.zC;rw[if_neg (by omega),if_neg (by omega),if_neg (by omega)]
  rw[a];have f:decide ((48:Int)<=(b:Int))=false:=decide_eq_false (by omega);have g:decide ((b:Int)<=57)=true:=decide_eq_true (by omega);have h:decide ((97:Int)<=(b:Int))=false:=decide_eq_false (by omega);have i:decide ((b:Int)<=102)=true:=decide_eq_true (by omega);have j:decide ((65:Int)<=(b:Int))=false:=decide_eq_false (by omega);have k:decide ((b:Int)<=70)=true:=decide_eq_true (by omega);have b0:(0:Int)<=(b:Int):=by omega
  have d:(b:Int)<=47:=by omega
  clear a c;go_enter func260,ntmps260
  go_wp2
  go_ret2;exact⟨by first|rfl|(congr),rfl⟩
 ·have a:Ref.zC (b:Int)=(b:Int)-48:=by unfold Ref.zC;rw[if_pos (by omega)]
  rw[a];have f:decide ((48:Int)<=(b:Int))=true:=decide_eq_true (by omega);have g:decide ((b:Int)<=57)=true:=decide_eq_true (by omega);have h:decide ((97:Int)<=(b:Int))=false:=decide_eq_false (by omega);have i:decide ((b:Int)<=102)=true:=decide_eq_true (by omega);have j:decide ((65:Int)<=(b:Int))=false:=decide_eq_false (by omega);have k:decide ((b:Int)<=70)=true:=decide_eq_true (by omega);have b0:(48:Int)<=(b:Int):=by omega
  have d:(b:Int)<=57:=by omega
  rw[if_neg (show ¬((b:Int)-48<0) by omega),decide_eq_true (show 0<=(b:Int)-48 by omega)];clear a c;go_enter func260,ntmps260
  go_wp2
  go_ret2;exact⟨by first|rfl|(congr),rfl⟩
 ·have a:Ref.zC (b:Int) = -1:=by unfold Ref.zC;rw[if_neg (by omega),if_neg (by omega),if_neg (by omega)]
  rw[a];have f:decide ((48:Int)<=(b:Int))=true:=decide_eq_true (by omega);have g:decide ((b:Int)<=57)=false:=decide_eq_false (by omega);have h:decide ((97:Int)<=(b:Int))=false:=decide_eq_false (by omega);have i:decide ((b:Int)<=102)=true:=decide_eq_true (by omega);have j:decide ((65:Int)<=(b:Int))=false:=decide_eq_false (by omega);have k:decide ((b:Int)<=70)=true:=decide_eq_true (by omega);have b0:(58:Int)<=(b:Int):=by omega
  have d:(b:Int)<=64:=by omega
  clear a c;go_enter func260,ntmps260
  go_wp2
  go_ret2;exact⟨by first|rfl|(congr),rfl⟩
 ·have a:Ref.zC (b:Int)=(b:Int)-65+10:=by unfold Ref.zC;rw[if_neg (by omega),if_neg (by omega),if_pos (by omega)]
  rw[a];have f:decide ((48:Int)<=(b:Int))=true:=decide_eq_true (by omega);have g:decide ((b:Int)<=57)=false:=decide_eq_false (by omega);have h:decide ((97:Int)<=(b:Int))=false:=decide_eq_false (by omega);have i:decide ((b:Int)<=102)=true:=decide_eq_true (by omega);have j:decide ((65:Int)<=(b:Int))=true:=decide_eq_true (by omega);have k:decide ((b:Int)<=70)=true:=decide_eq_true (by omega);have b0:(65:Int)<=(b:Int):=by omega
  have d:(b:Int)<=70:=by omega
  rw[if_neg (show ¬((b:Int)-65+10<0) by omega),decide_eq_true (show 0<=(b:Int)-65+10 by omega)];clear a c;go_enter func260,ntmps260
  go_wp2
  go_ret2;exact⟨by first|rfl|(congr),rfl⟩
 ·have a:Ref.zC (b:Int) = -1:=by unfold Ref.zC;rw[if_neg (by omega),if_neg (by omega),if_neg (by omega)]
  rw[a];have f:decide ((48:Int)<=(b:Int))=true:=decide_eq_true (by omega);have g:decide ((b:Int)<=57)=false:=decide_eq_false (by omega);have h:decide ((97:Int)<=(b:Int))=false:=decide_eq_false (by omega);have i:decide ((b:Int)<=102)=true:=decide_eq_true (by omega);have j:decide ((65:Int)<=(b:Int))=true:=decide_eq_true (by omega);have k:decide ((b:Int)<=70)=false:=decide_eq_false (by omega);have b0:(71:Int)<=(b:Int):=by omega
  have d:(b:Int)<=96:=by omega
  clear a c;go_enter func260,ntmps260
  go_wp2
  go_ret2;exact⟨by first|rfl|(congr),rfl⟩
 ·have a:Ref.zC (b:Int)=(b:Int)-97+10:=by unfold Ref.zC;rw[if_neg (by omega),if_pos (by omega)]
  rw[a];have f:decide ((48:Int)<=(b:Int))=true:=decide_eq_true (by omega);have g:decide ((b:Int)<=57)=false:=decide_eq_false (by omega);have h:decide ((97:Int)<=(b:Int))=true:=decide_eq_true (by omega);have i:decide ((b:Int)<=102)=true:=decide_eq_true (by omega);have j:decide ((65:Int)<=(b:Int))=true:=decide_eq_true (by omega);have k:decide ((b:Int)<=70)=false:=decide_eq_false (by omega);have b0:(97:Int)<=(b:Int):=by omega
  have d:(b:Int)<=102:=by omega
  rw[if_neg (show ¬((b:Int)-97+10<0) by omega),decide_eq_true (show 0<=(b:Int)-97+10 by omega)];clear a c;go_enter func260,ntmps260
  go_wp2
  go_ret2;exact⟨by first|rfl|(congr),rfl⟩
 ·have a:Ref.zC (b:Int) = -1:=by unfold Ref.zC;rw[if_neg (by omega),if_neg (by omega),if_neg (by omega)]
  rw[a];have f:decide ((48:Int)<=(b:Int))=true:=decide_eq_true (by omega);have g:decide ((b:Int)<=57)=false:=decide_eq_false (by omega);have h:decide ((97:Int)<=(b:Int))=true:=decide_eq_true (by omega);have i:decide ((b:Int)<=102)=false:=decide_eq_false (by omega);have j:decide ((65:Int)<=(b:Int))=true:=decide_eq_true (by omega);have k:decide ((b:Int)<=70)=false:=decide_eq_false (by omega);have b0:(103:Int)<=(b:Int):=by omega
  have d:(b:Int)<=255:=by omega
  clear a c;go_enter func260,ntmps260
  go_wp2
  go_ret2;exact⟨by first|rfl|(congr),rfl⟩
theorem iC(s:BY)(R p lo hi:Nat)(w:World)(j:zk w R s p)(u:p<=s.size)(B:s.size<=4000)(x:0<lo)(t:lo<256) :
  Calls prog 251 #[.pointer (some ⟨R,0,none⟩),.int .u8 (lo:Int),.int .u8 (hi:Int)] w λe g=>
   (Rd.within s.data.toList lo hi p=true->e = .returned .nilIface/\w.grownBy g (some R)/\zk g R s (p+1)/\p<s.size) /\
   (Rd.within s.data.toList lo hi p=false->e = .returned (.iface 140 (.agg #[.int .i64 (p:Int)]))/\w.grownBy g (some R)/\zk g R s p):=by
 have a:=Xc s R p w j u;obtain⟨b,hb⟩:=Nm (Rd.zf s.data.toList p);have k:b<256:=by rw[<- hb];exact Rd.uA _ _
 have d:Rd.within s.data.toList lo hi p=decide (lo<=b/\b<=hi):=by unfold Rd.within;rw[hb]
 rw[hb] at a
 have c:0<b->p<s.size:=λh=>by
  have:=Rd.zP s.data.toList p (by rw[hb];omega)
  rwa [Ref.zx] at this
 have i:=hid d;have f:=hid j;have o:=hid c;obtain⟨y,z,A⟩:=j;clear hb d c;have l:=λn=>Zx s R p (w.drewN n) (f.out.drewN n)
 by_cases c1:b<lo
 ·have q:decide ((b:Int)<(lo:Int))=true:=decide_eq_true (by omega);go_enter func251,ntmps251
  go_wp2_with (first
   | (go_at_call 143;refine a.mono ?_;rintro e m ⟨rfl,n,rfl⟩)
   | (go_at_call 94;refine (l n).mono ?_;rintro e v ⟨rfl,rfl⟩))
  go_ret;refine⟨λh=>?_,λ_=>⟨rfl,xq w _ n,f.out.drewN n⟩⟩;rw[i.out] at h;simp at h;omega
 have q:decide ((b:Int)<(lo:Int))=false:=decide_eq_false (by omega)
 by_cases c2:hi<b
 ·have r:decide ((hi:Int)<(b:Int))=true:=decide_eq_true (by omega);go_enter func251,ntmps251
  go_wp2_with (first
   | (go_at_call 143;refine a.mono ?_;rintro e m ⟨rfl,n,rfl⟩)
   | (go_at_call 94;refine (l n).mono ?_;rintro e v ⟨rfl,rfl⟩))
  go_ret;refine⟨λh=>?_,λ_=>⟨rfl,xq w _ n,f.out.drewN n⟩⟩;rw[i.out] at h;simp at h;omega
 ·have r:decide ((hi:Int)<(b:Int))=false:=decide_eq_false (by omega);go_enter func251,ntmps251
  go_wp2_with (go_at_call 143;refine a.mono ?_;rintro e m ⟨rfl,n,rfl⟩)
  go_ret;refine⟨λ_=>⟨rfl,zD (xq w _ n) (xE _ _ _ _),?_,o.out (by omega)⟩,λh=>?_⟩
  ·have:=(f.out.drewN n).move (p+1)
   simpa using this
  ·rw[i.out] at h;simp at h;omega
def Qe(w:World)(R:Nat)(s:BY)(r:Rd.Res Unit)(e:Ending)(a:World):Prop:=match r with
 | .ok _ q=>e = .returned .nilIface/\w.grownBy a (some R)/\zk a R s q/\q<=s.size
 | .err _ q=>e = .returned (.iface 140 (.agg #[.int .i64 (q:Int)]))/\w.grownBy a (some R)/\zk a R s q/\q<=s.size
theorem Qe.of{w b:World}{R:Nat}{s:BY}{r a:Rd.Res Unit}{e:Ending}(h:Qe w R s r e b)(c:a=r):Qe w R s a e b:=c ▸ h
theorem LP(s t:BY)(R p:Nat)(w:World)(A:zk w R s p)(N:p<=s.size)(O:s.size<=4000)(P:t.size<=100)(C:∀k,k<t.size->(t.data.toList.getD k 0).toNat≠0) :
  Calls prog 147 #[.pointer (some ⟨R,0,none⟩),.string t] w λe I=>Qe w R s (Rd.zK s.data.toList (t.data.toList.map UInt8.toNat) p) e I:=by
 have j:=hid A;clear A;go_enter func147,ntmps147
 go_wp2
 go_loopw [8] (λu wr=>∃k:Nat,k<=t.size/\u = .int .i64 k/\p+k<=s.size/\zk wr R s (p+k)/\w.grownBy wr (some R)/\Rd.zK s.data.toList (t.data.toList.map UInt8.toNat) p=Rd.zK s.data.toList ((t.data.toList.map UInt8.toNat).drop k) (p+k)) (λu _=>t.size-(intOf u).toNat)
 case atStart=>exact⟨0,Nat.zero_le _,rfl,by omega,j.out,xq w _ 0,by simp⟩
 case round=>
  obtain⟨k,M,rfl,g,h,y,B⟩:=hrel;have o:=hid B;have m:=hid y;have i:=hid h;clear B y j
  by_cases hlt:k<t.size
  ·have z:(k:Int)<(t.size:Int):=by omega
   have f:=λn=>Xc s R (p+k) (wr.drewN n) (i.out.drewN n) g;obtain⟨b,hb⟩:=Nm (Rd.zf s.data.toList (p+k));simp only[hb] at f;have v:b<256:=by rw[<- hb];exact Rd.uA _ _
   obtain⟨c,x⟩:=Nm (t[k]);have q:=C k hlt;rw[Ref.getD_at t k hlt,x] at q
   have a:Rd.zK s.data.toList ((t.data.toList.map UInt8.toNat).drop k) (p+k)=if b=c.toNat then Rd.zK s.data.toList ((t.data.toList.map UInt8.toNat).drop (k+1)) (p+k+1) else .err 2 (p+k):=by
    have r:k<(t.data.toList.map UInt8.toNat).length:=by rw[List.length_map,Ref.zx];exact hlt
    rw[List.drop_eq_getElem_cons r,Rd.zK,hb]
    have:(t.data.toList.map UInt8.toNat)[k]=c.toNat:=by rw[List.getElem_map,<- x];rfl
    rw[this]
   have l:=hid a;have D:=hid hb;clear a hb C;obtain⟨J,K,L⟩:=h
   by_cases hbc:b=c.toNat
   ·have d:((b:Int) != (c.toNat:Int))=false:=by simp;omega
    have G:p+k<s.size:=by
     have:=Rd.zP s.data.toList (p+k) (by rw[D.out];omega)
     rwa [Ref.zx] at this
    go_wp2_with fail
    go_quiet ((go_at_call 143;exact Calls.quiet_of (f _)))
    go_wp2
    have F:zk ((wr.drewN nq).setCell ⟨R,1,none⟩ (.int .i64 ((p:Int)+(k:Int)+1))) R s (p+(k+1)):=by
     have:=(i.out.drewN nq).move (p+(k+1))
     rw[show ((p:Int)+(k:Int)+1)=((p+(k+1):Nat):Int) by omega];exact this
    exact⟨⟨k+1,by omega,by go_num,by omega,F,zD m.out (zD (xq wr _ nq) (xE _ _ _ _)),by rw[o.out,l.out,if_pos hbc];rfl⟩,by simp[intOf];omega⟩
   ·have d:((b:Int) != (c.toNat:Int))=true:=by simp;omega
    have H:=λn=>Zx s R (p+k) (wr.drewN n) (i.out.drewN n);go_wp2_with fail
    go_quiet ((go_at_call 143;exact Calls.quiet_of (f _)))
    go_wp2_with (go_at_call 94;refine (H nq).mono ?_;rintro e Q ⟨rfl,rfl⟩)
    go_ret;refine Qe.of ?_ (o.out.trans (l.out.trans (if_neg hbc)));exact⟨rfl,zD m.out (xq wr _ nq),i.out.drewN nq,g⟩
  ·have e:Rd.zK s.data.toList ((t.data.toList.map UInt8.toNat).drop k) (p+k) = .ok () (p+k):=by
    rw[List.drop_of_length_le (by rw[List.length_map,Ref.zx];omega),Rd.zK]
   have E:=hid e;clear e h
   go_wp2
   go_ret;refine Qe.of ?_ (o.out.trans E.out);exact⟨rfl,m.out,i.out,g⟩
namespace Rd
open Ref
def qX(l:List UInt8)(p:Nat):Nat->Int
 | 0=>0
 | k+1=>qX l p k*16+zC (zf l (p+k))
def okF(l:List UInt8)(p k:Nat):Prop:=(∀j,j<k->0<=zC (zf l (p+j)))/\(2<=k->¬(zC (zf l p)=13/\8<=zC (zf l (p+1))))
theorem Eb(l:List UInt8)(p k:Nat)(h:okF l p k):0<=qX l p k/\(k=0->qX l p k=0)/\(k=1->qX l p k=zC (zf l p)/\qX l p k<=15)/\(k=2->qX l p k<=255)/\(k=3->qX l p k<=4095)/\(k=4->qX l p k<=65535/\¬(55296<=qX l p k/\qX l p k<=57343)):=by
 obtain⟨a,d⟩:=h;have e:=Qr (zf l p);have f:=Qr (zf l (p+1));have i:=Qr (zf l (p+2));have n:=Qr (zf l (p+3))
 match k with
 | 0=>simp[qX]
 | 1=>
  have b:=a 0 (by omega);simp only[qX,Nat.add_zero] at *;omega
 | 2=>
  have b:=a 0 (by omega);have c:=a 1 (by omega);simp only[qX,Nat.add_zero] at *;omega
 | 3=>
  have b:=a 0 (by omega);have c:=a 1 (by omega);have o:=a 2 (by omega);simp only[qX,Nat.add_zero] at *;omega
 | 4=>
  have b:=a 0 (by omega);have c:=a 1 (by omega);have o:=a 2 (by omega);have r:=a 3 (by omega);have s:=d (by omega);simp only[qX,Nat.add_zero] at *;omega
 | k+5=>
  refine⟨?_,by omega,by omega,by omega,by omega,by omega⟩;clear d e f i n;generalize k+5=m at *
  induction m with
  | zero=>simp[qX]
  | succ m q=>
   have g:=a m (by omega)
   have:=q (λj t=>a j (by omega))
   simp only[qX];omega
theorem ay(l:List UInt8)(p k:Nat)(h:okF l p k)(g:k<4)(hb:zC (zf l (p+k))<0\/(k=1/\zC (zf l p)=13/\8<=zC (zf l (p+1)))):jK l p = .err 2 (p+k):=by
 obtain⟨a,c⟩:=h;unfold jK;simp only
 match k with
 | 0=>rw[if_pos (by simpa using hb)];rfl
 | 1=>
  have b:=a 0 (by omega);simp only[Nat.add_zero] at b;rw[if_neg (by omega),if_pos (by omega)]
 | 2=>
  have b:=a 0 (by omega);have d:=a 1 (by omega);have e:=c (by omega);simp only[Nat.add_zero] at b;rw[if_neg (by omega),if_neg (by omega),if_pos (by omega)]
 | 3=>
  have b:=a 0 (by omega);have d:=a 1 (by omega);have f:=a 2 (by omega);have e:=c (by omega);simp only[Nat.add_zero] at b;rw[if_neg (by omega),if_neg (by omega),if_neg (by omega),if_pos (by omega)]
theorem ww(l:List UInt8)(p:Nat)(h:okF l p 4):jK l p = .ok (enc (qX l p 4)) (p+4):=by
 obtain⟨a,c⟩:=h;have b:=a 0 (by omega);have d:=a 1 (by omega);have e:=a 2 (by omega);have f:=a 3 (by omega);have g:=c (by omega);simp only[Nat.add_zero] at b;unfold jK;simp only;rw[if_neg (by omega),if_neg (by omega),if_neg (by omega),if_neg (by omega)]
 have:qX l p 4=((zC (zf l p)*16+zC (zf l (p+1)))*16+zC (zf l (p+2)))*16+zC (zf l (p+3)):=by
  simp only[qX,Nat.add_zero];omega
 rw[this]
theorem dL(l:List UInt8)(p k:Nat)(h:okF l p k)(a:0<=zC (zf l (p+k)))(d:k=1->¬(zC (zf l p)=13/\8<=zC (zf l (p+1)))):okF l p (k+1):=by
 obtain⟨b,c⟩:=h;refine⟨λj f=>?_,λh=>?_⟩
 ·by_cases e:j=k
  ·subst e;exact a
  ·exact b j (by omega)
 ·by_cases e:k=1
  ·exact d e
  ·exact c (by omega)
end Rd
def yI(w:World)(R:Nat)(s:BY)(r:Rd.Res BY)(e:Ending)(a:World):Prop:=match r with
 | .ok u q=>(∃N:Int,e = .returned (.tuple #[.int .i32 N,.nilIface])/\u=Ref.enc N/\0<=N/\N<=65535/\¬(55296<=N/\N<=57343))/\w.grownBy a (some R)/\zk a R s q/\q<=s.size
 | .err _ q=>(∃N:Int,e = .returned (.tuple #[.int .i32 N,.iface 140 (.agg #[.int .i64 (q:Int)])])/\0<=N/\N<=65535)/\w.grownBy a (some R)/\zk a R s q/\q<=s.size
theorem yI.of{w b:World}{R:Nat}{s:BY}{r a:Rd.Res BY}{e:Ending}(h:yI w R s r e b)(c:a=r):yI w R s a e b:=c ▸ h
theorem tX(s:BY)(R p:Nat)(w:World)(Q:zk w R s p)(hp:p<=s.size)(hs:s.size<=4000) :
  Calls prog 249 #[.pointer (some ⟨R,0,none⟩)] w λe w'=>yI w R s (Rd.jK s.data.toList p) e w':=by
 have B:=hid Q;clear Q;go_enter func249,ntmps249
 go_wp2
 go_loopw [4,8] (λnv L wr=>∃k:Nat,k<=4/\L = .int .i64 k/\nv = .int .i32 (Rd.qX s.data.toList p k)/\Rd.okF s.data.toList p k/\p+k<=s.size/\zk wr R s (p+k)/\w.grownBy wr (some R)) (λ_ L _=>4-(intOf L).toNat)
 case atStart=>exact⟨0,by omega,rfl,rfl,⟨λj h=>by omega,λh=>by omega⟩,by omega,B.out,xq w _ 0⟩
 case round=>
  obtain⟨k,hk,rfl,rfl,y,u,m,O⟩:=hrel;have d:=Rd.Eb s.data.toList p k y;obtain⟨N,x⟩:=Nm (Rd.qX s.data.toList p k);have i:=hid (show Rd.qX s.data.toList p (k+1)=Rd.qX s.data.toList p k*16+Ref.zC (Rd.zf s.data.toList (p+k)) from rfl)
  rw[x] at d i |-;have r:=hid y;have A:=hid O;have v:=hid m;clear y O B
  by_cases hlt:k<4
  ·have l:=Xc s R (p+k) wr v.out u;obtain⟨b,hb⟩:=Nm (Rd.zf s.data.toList (p+k));rw[hb] at l i;have D:b<256:=by rw[<- hb];exact Rd.uA _ _
   have c:=λW=>Ak b W D;have hle:=Rd.Qr b;obtain⟨h,o⟩:=Nm (Ref.zC (b:Int));rw[o] at i hle;simp only[o] at c;have G:=λn=>Zx s R (p+k) (wr.drewN n) (v.out.drewN n);have C:0<=N/\N<=4095:=by omega
   obtain⟨Z,a0⟩:=C
   by_cases hneg:h<0
   ·have a:=Rd.ay s.data.toList p k r.out hlt (.inl (by rw[hb,o];exact hneg));rw[if_pos hneg,decide_eq_false (by omega)] at c;have q:=hid a;clear a hb o x d m
    go_wp2_with (first
     | (go_at_call 143;refine l.mono ?_;rintro e H ⟨rfl,n,rfl⟩)
     | (go_at_call 260;refine (c _).mono ?_;rintro e I ⟨rfl,rfl⟩)
     | (go_at_call 94;refine (G n).mono ?_;rintro e J ⟨rfl,rfl⟩))
    go_ret2;refine yI.of ?_ q.out;exact⟨⟨0,rfl,by omega,by omega⟩,zD A.out (xq wr _ n),v.out.drewN n,u⟩
   rw[if_neg hneg,decide_eq_true (by omega)] at c
   have P:p+k<s.size:=by
    have:=Rd.Vv s.data.toList (p+k) (by rw[hb,o];omega)
    rwa [Ref.zx] at this
   have E:0<=h:=by omega
   by_cases hk1:k=1
   ·subst hk1;have g:Ref.zC (Rd.zf s.data.toList p)=N:=(d.2.2.1 rfl).1.symm
    by_cases hbd:N=13/\8<=h
    ·have a:=Rd.ay s.data.toList p 1 r.out hlt (.inr ⟨rfl,by rw[g];exact hbd.1,by rw[hb,o];exact hbd.2⟩);have q:=hid a;obtain⟨z,Y⟩:=hbd;have S:decide (8<=h)=true:=decide_eq_true Y;clear a hb o x d m g
     go_wp2_with (first
      | (go_at_call 143;refine l.mono ?_;rintro e H ⟨rfl,n,rfl⟩)
      | (go_at_call 260;refine (c _).mono ?_;rintro e I ⟨rfl,rfl⟩)
      | (go_at_call 94;refine (G n).mono ?_;rintro e J ⟨rfl,rfl⟩))
     go_ret2;refine yI.of ?_ q.out;exact⟨⟨0,rfl,by omega,by omega⟩,zD A.out (xq wr _ n),v.out.drewN n,u⟩
    have f:=hid (Rd.dL s.data.toList p 1 r.out (by rw[hb,o];exact E) (λ_=>by rw[g,hb,o];exact hbd));obtain⟨U,V,X⟩:=m;clear hb o x d g
    by_cases z:N=13
    ·have S:decide (8<=h)=false:=decide_eq_false (by omega);clear hbd
     go_wp2_with (first
      | (go_at_call 143;refine l.mono ?_;rintro e H ⟨rfl,n,rfl⟩)
      | (go_at_call 260;refine (c _).mono ?_;rintro e I ⟨rfl,rfl⟩)
      | (go_at_call 94;refine (G n).mono ?_;rintro e J ⟨rfl,rfl⟩))
     have F:zk ((wr.drewN n).setCell ⟨R,1,none⟩ (.int .i64 ((p:Int)+1+1))) R s (p+(1+1)):=by
      have:=(v.out.drewN n).move (p+(1+1))
      rw[show ((p:Int)+1+1)=((p+(1+1):Nat):Int) by omega];exact this
     exact⟨⟨1+1,by omega,by go_num,by rw[i.out,z];rfl,f.out,by omega,F,zD A.out (zD (xq wr _ n) (xE _ _ _ _))⟩,by simp[intOf]⟩
    ·have d13:(N==13)=false:=by rw[beq_eq_false_iff_ne];exact z
     clear hbd
     go_wp2_with (first
      | (go_at_call 143;refine l.mono ?_;rintro e H ⟨rfl,n,rfl⟩)
      | (go_at_call 260;refine (c _).mono ?_;rintro e I ⟨rfl,rfl⟩)
      | (go_at_call 94;refine (G n).mono ?_;rintro e J ⟨rfl,rfl⟩))
     have F:zk ((wr.drewN n).setCell ⟨R,1,none⟩ (.int .i64 ((p:Int)+1+1))) R s (p+(1+1)):=by
      have:=(v.out.drewN n).move (p+(1+1))
      rw[show ((p:Int)+1+1)=((p+(1+1):Nat):Int) by omega];exact this
     exact⟨⟨1+1,by omega,by go_num,by rw[i.out],f.out,by omega,F,zD A.out (zD (xq wr _ n) (xE _ _ _ _))⟩,by simp[intOf]⟩
   ·have f:=hid (Rd.dL s.data.toList p k r.out (by rw[hb,o];exact E) (λe=>absurd e hk1));have T:((k:Int)==1)=false:=by rw[beq_eq_false_iff_ne];omega
    obtain⟨U,V,X⟩:=m;clear hb o x d
    go_wp2_with (first
     | (go_at_call 143;refine l.mono ?_;rintro e H ⟨rfl,n,rfl⟩)
     | (go_at_call 260;refine (c _).mono ?_;rintro e I ⟨rfl,rfl⟩)
     | (go_at_call 94;refine (G n).mono ?_;rintro e J ⟨rfl,rfl⟩))
    have F:zk ((wr.drewN n).setCell ⟨R,1,none⟩ (.int .i64 ((p:Int)+(k:Int)+1))) R s (p+(k+1)):=by
     have:=(v.out.drewN n).move (p+(k+1))
     rw[show ((p:Int)+(k:Int)+1)=((p+(k+1):Nat):Int) by omega];exact this
    exact⟨⟨k+1,by omega,by go_num,by rw[i.out],f.out,by omega,F,zD A.out (zD (xq wr _ n) (xE _ _ _ _))⟩,by simp[intOf];omega⟩
  ·obtain rfl:k=4:=by omega
   have t:=Rd.ww s.data.toList p r.out;rw[x] at t;have K:=hid t;have M:=d.2.2.2.2.2 rfl;clear t x m
   go_wp2
   go_ret2;refine yI.of ?_ K.out;exact⟨⟨N,rfl,rfl,d.1,M.1,M.2⟩,A.out,v.out,u⟩
theorem Vb(n:Int)(h:n<128):Ref.one n=Ref.enc n:=by unfold Ref.enc;rw[if_pos h]
theorem yI.later{w c b:World}{R:Nat}{s:BY}{r:Rd.Res BY}{e:Ending}(a:w.grownBy c (some R))(h:yI c R s r e b):yI w R s r e b:=by
 cases r with
 | ok u q=>exact⟨h.1,zD a h.2.1,h.2.2⟩
 | err x q=>exact⟨h.1,zD a h.2.1,h.2.2⟩
theorem ag(s:BY)(R p:Nat)(w:World)(B:zk w R s p)(D:p<=s.size)(E:s.size<=4000) :
  Calls prog 228 #[.pointer (some ⟨R,0,none⟩)] w λe G=>yI w R s (Rd.jh s.data.toList p) e G:=by
 have d:=Xc s R p w B D;have c:Rd.jh s.data.toList p=Rd.jh s.data.toList p:=rfl
 conv at c=>rhs;unfold Rd.jh
 simp only at c;obtain⟨b,hb⟩:=Nm (Rd.zf s.data.toList p);rw[hb] at d c;have C:b<256:=by rw[<- hb];exact Rd.uA _ _
 have m:b≠0->p<s.size:=λh=>by
  have:=Rd.zP s.data.toList p (by rw[hb];exact h)
  rwa [Ref.zx] at this
 have f:=hid m;have z:=hid B;have v:=λn=>(z.out.drewN n).move (p+1);obtain⟨I,J,K⟩:=B;clear hb m
 have l:∀n,zk ((w.drewN n).setCell ⟨R,1,none⟩ (.int .i64 ((p:Int)+1))) R s (p+1):=λn=>by
  have:=v n
  rw[show ((p:Int)+1)=((p+1:Nat):Int) by omega];exact this
 have i:=hid l;clear v l
 by_cases c1:b=34\/b=92\/b=47
 ·rw[if_pos c1] at c;have g:=hid c;have o:=f.out (by omega);have k:(b:Int)=34\/(b:Int)=92\/(b:Int)=47:=by omega
  clear c c1
  rcases k with k|k|k
  all_goals
   go_enter func228,ntmps228
   go_wp2_with (go_at_call 143;refine d.mono ?_;rintro e y ⟨rfl,n,rfl⟩)
   go_ret2;refine yI.of ?_ g.out;exact⟨⟨b,by rw[k];rfl,Vb _ (by omega),by omega,by omega,by omega⟩,zD (xq w _ n) (xE _ _ _ _),i.out n,by omega⟩
 rw[if_neg c1] at c;have L:((b:Int)==34)=false:=by rw[beq_eq_false_iff_ne];omega
 have M:((b:Int)==92)=false:=by rw[beq_eq_false_iff_ne];omega
 have O:((b:Int)==47)=false:=by rw[beq_eq_false_iff_ne];omega
 by_cases c4:b=110
 ·rw[if_pos c4] at c;have g:=hid c;have o:=f.out (by omega);have k:(b:Int)=110:=by omega
  clear c c1 c4;go_enter func228,ntmps228
  go_wp2_with (go_at_call 143;refine d.mono ?_;rintro e y ⟨rfl,n,rfl⟩)
  go_ret2;refine yI.of ?_ g.out;exact⟨⟨10,rfl,Vb _ (by omega),by omega,by omega,by omega⟩,zD (xq w _ n) (xE _ _ _ _),i.out n,by omega⟩
 rw[if_neg c4] at c;have P:((b:Int)==110)=false:=by rw[beq_eq_false_iff_ne];omega
 by_cases c5:b=116
 ·rw[if_pos c5] at c;have g:=hid c;have o:=f.out (by omega);have k:(b:Int)=116:=by omega
  clear c c1 c5;go_enter func228,ntmps228
  go_wp2_with (go_at_call 143;refine d.mono ?_;rintro e y ⟨rfl,n,rfl⟩)
  go_ret2;refine yI.of ?_ g.out;exact⟨⟨9,rfl,Vb _ (by omega),by omega,by omega,by omega⟩,zD (xq w _ n) (xE _ _ _ _),i.out n,by omega⟩
 rw[if_neg c5] at c;have Q:((b:Int)==116)=false:=by rw[beq_eq_false_iff_ne];omega
 by_cases c6:b=117
 ·rw[if_pos c6] at c;have g:=hid c;have o:=f.out (by omega);have k:(b:Int)=117:=by omega
  have j:=λn=>tX s R (p+1) ((w.drewN n).setCell ⟨R,1,none⟩ (.int .i64 ((p:Int)+1))) (i.out n) (by omega) E;have t:=λn=>zD (xq w (some R) n) (xE (w.drewN n) R 1 (.int .i64 ((p:Int)+1)));have r:=hid t;clear c c1 c4 c5 c6 t
  cases hf:Rd.jK s.data.toList (p+1) with
  | ok u q=>
   rw[hf] at g;simp only[hf] at j;clear hf;go_enter func228,ntmps228
   go_wp2_with (first
    | (go_at_call 143;refine d.mono ?_;rintro e y ⟨rfl,n,rfl⟩)
    | (go_at_call 249;refine (j n).mono ?_;rintro e H ⟨⟨N,rfl,A⟩,a⟩))
   go_ret2;refine yI.of ?_ g.out;exact⟨⟨N,rfl,A⟩,zD (r.out n) a.1,a.2⟩
  | err x q=>
   rw[hf] at g;simp only[hf] at j;clear hf;go_enter func228,ntmps228
   go_wp2_with (first
    | (go_at_call 143;refine d.mono ?_;rintro e y ⟨rfl,n,rfl⟩)
    | (go_at_call 249;refine (j n).mono ?_;rintro e H ⟨⟨N,rfl,A⟩,a⟩))
   go_ret2;refine yI.of ?_ g.out;exact⟨⟨N,rfl,A⟩,zD (r.out n) a.1,a.2⟩
 ·rw[if_neg c6] at c;have g:=hid c;have S:((b:Int)==117)=false:=by rw[beq_eq_false_iff_ne];omega
  have F:=λn=>Zx s R p (w.drewN n) (z.out.drewN n);clear c c1 c4 c5 c6;go_enter func228,ntmps228
  go_wp2_with (first
   | (go_at_call 143;refine d.mono ?_;rintro e y ⟨rfl,n,rfl⟩)
   | (go_at_call 94;refine (F n).mono ?_;rintro e T ⟨rfl,rfl⟩))
  go_ret2;refine yI.of ?_ g.out;exact⟨⟨0,rfl,by omega,by omega⟩,xq w _ n,z.out.drewN n,D⟩
def jw:List Value:=[.int .u8 194,.int .u8 223,.int .i64 1,.int .u8 128,.int .u8 191,.int .u8 224,.int .u8 224,.int .i64 2,.int .u8 160,.int .u8 191,.int .u8 225,.int .u8 236,.int .i64 2,.int .u8 128,.int .u8 191,.int .u8 237,.int .u8 237,.int .i64 2,.int .u8 128,.int .u8 159,.int .u8 238,.int .u8 239,.int .i64 2,.int .u8 128,.int .u8 191,.int .u8 240,.int .u8 240,.int .i64 3,.int .u8 144,.int .u8 191,.int .u8 241,.int .u8 243,.int .i64 3,.int .u8 128,.int .u8 191,.int .u8 244,.int .u8 244,.int .i64 3,.int .u8 128,.int .u8 143]
def Jz(w:World):Prop:=∀(j:Nat) (v:Value),jw[j]?=some v->w.cell? ⟨5,j,none⟩=some v
theorem Jz.below{w a:World}(h:Jz w)(hb:Below w.heap.size w a):Jz a:=λj v b=>zg hb (h j v b)
theorem Hm(W:World):(Instr.index 400 (.agg jw.toArray) (.int .i64 0)).run prog W = .ok (.agg #[.int .u8 194,.int .u8 223,.int .i64 1,.int .u8 128,.int .u8 191]) W:=by kernel_rfl
theorem Ho(W:World):(Instr.index 400 (.agg jw.toArray) (.int .i64 1)).run prog W = .ok (.agg #[.int .u8 224,.int .u8 224,.int .i64 2,.int .u8 160,.int .u8 191]) W:=by kernel_rfl
theorem Hq(W:World):(Instr.index 400 (.agg jw.toArray) (.int .i64 2)).run prog W = .ok (.agg #[.int .u8 225,.int .u8 236,.int .i64 2,.int .u8 128,.int .u8 191]) W:=by kernel_rfl
theorem Hr(W:World):(Instr.index 400 (.agg jw.toArray) (.int .i64 3)).run prog W = .ok (.agg #[.int .u8 237,.int .u8 237,.int .i64 2,.int .u8 128,.int .u8 159]) W:=by kernel_rfl
theorem Ht(W:World):(Instr.index 400 (.agg jw.toArray) (.int .i64 4)).run prog W = .ok (.agg #[.int .u8 238,.int .u8 239,.int .i64 2,.int .u8 128,.int .u8 191]) W:=by kernel_rfl
theorem Hu(W:World):(Instr.index 400 (.agg jw.toArray) (.int .i64 5)).run prog W = .ok (.agg #[.int .u8 240,.int .u8 240,.int .i64 3,.int .u8 144,.int .u8 191]) W:=by kernel_rfl
theorem Hw(W:World):(Instr.index 400 (.agg jw.toArray) (.int .i64 6)).run prog W = .ok (.agg #[.int .u8 241,.int .u8 243,.int .i64 3,.int .u8 128,.int .u8 191]) W:=by kernel_rfl
theorem Hy(W:World):(Instr.index 400 (.agg jw.toArray) (.int .i64 7)).run prog W = .ok (.agg #[.int .u8 244,.int .u8 244,.int .i64 3,.int .u8 128,.int .u8 143]) W:=by kernel_rfl
theorem zk.same{w b:World}{R:Nat}{s:BY}{p:Nat}(h:zk w R s p)(a:b.heap[R]?=w.heap[R]?):zk b R s p:=by
 obtain⟨c,d,e⟩:=h;refine⟨?_,?_,?_⟩
 ·rw[<- c];simp only[World.cell?,a]
 ·rw[<- d];simp only[World.cell?,a]
 ·rw[<- e];simp only[World.frozen?,a]
theorem zk.alloc{w:World}{R:Nat}{s:BY}{p:Nat}(h:zk w R s p)(O:Obj):zk (w.alloc O) R s p:=h.same ((World.grownBy_alloc w O none).block R h.lt (by simp))
theorem Hl(W:World)(k:Nat)(a:k<8):(Instr.index 400 (.agg jw.toArray) (.int .i64 (k:Int))).run prog W = .ok (.agg #[.int .u8 (Rd.jy k:Int),.int .u8 (Rd.jP k:Int),.int .i64 (Rd.uH k:Int),.int .u8 (Rd.Zt k:Int),.int .u8 (Rd.ZT k:Int)]) W:=by
 rcases Rd.lt8 a with rfl|rfl|rfl|rfl|rfl|rfl|rfl|rfl
 ·exact Hm W
 ·exact Ho W
 ·exact Hq W
 ·exact Hr W
 ·exact Ht W
 ·exact Hu W
 ·exact Hw W
 ·exact Hy W
theorem HY:(prog.info? 400).map (·.size)=some jw.toArray.size:=by kernel_rfl
def zT(w:World):Prop:=∃t a,w.heap[(5:Nat)]?=some (.cells jw.toArray t a)
theorem zT.same{w a:World}(h:zT w)(c:a.heap[(5:Nat)]?=w.heap[(5:Nat)]?):zT a:=by
 obtain⟨t,b,h⟩:=h;exact⟨t,b,c.trans h⟩
theorem zT.lt{w:World}(h:zT w):5<w.heap.size:=by
 obtain⟨t,a,h⟩:=h;exact (Array.getElem?_eq_some_iff.1 h).1
theorem zT.grown{w a:World}{R:Nat}(h:zT w)(b:w.grownBy a (some R))(c:R≠5):zT a:=h.same (b.block _ h.lt (by simp;omega))
def kX(w:World)(R:Nat)(s:BY)(p:Nat)(r:Rd.Res BY)(e:Ending)(a:World):Prop:=match r with
 | .ok u q=>e = .returned .nilIface/\u=Rd.piece s.data.toList p q/\w.grownBy a (some R)/\zk a R s q/\q<=s.size/\p<=q
 | .err _ q=>e = .returned (.iface 140 (.agg #[.int .i64 (q:Int)]))/\w.grownBy a (some R)/\zk a R s q/\q<=s.size/\p<=q
theorem kX.of{w b:World}{R:Nat}{s:BY}{p:Nat}{r a:Rd.Res BY}{e:Ending}(h:kX w R s p r e b)(c:a=r):kX w R s p a e b:=c ▸ h
theorem Xd(s:BY)(R p:Nat)(w:World)(c:zk w R s p)(d:p<=s.size) :
  Calls prog 143 #[.pointer (some ⟨R,0,none⟩)] w λe a=>e = .returned (.int .u8 ((Rd.zf s.data.toList p:Nat):Int))/\zk a R s p/\w.grownBy a (some R)/\(∀i:Nat,a.heap[i]?=w.heap[i]?)/\a.heap.size=w.heap.size:=by
 refine (Xc s R p w c d).mono ?_;rintro e a ⟨rfl,n,rfl⟩
 have b:∀n,(w.drewN n).heap=w.heap:=λn=>by
  induction n with
  | zero=>rfl
  | succ n f=>exact f
 exact⟨rfl,c.drewN n,xq w _ n,λi=>by rw[b],by rw[b]⟩
theorem Ic(s:BY)(R p:Nat)(w:World)(hr:zk w R s p)(hp:p<=s.size)(hs:s.size<=4000)(hq:zT w) :
  Calls prog 230 #[.pointer (some ⟨R,0,none⟩)] w λe a=>kX w R s p (Rd.yD s.data.toList p) e a:=by
 obtain⟨tt,fr,hh⟩:=hq;have d:=Hl;have J:=HY;obtain⟨A,hA⟩:=Nm jw.toArray;rw[hA] at hh J;simp only[hA] at d;clear hA;have H:=Xd s R p w hr hp;obtain⟨b,hb⟩:=Nm (Rd.zf s.data.toList p);rw[hb] at H;have e3:b<256:=by rw[<- hb];exact Rd.uA _ _
 have v:Calls prog 143 #[.pointer (some ⟨R,0,none⟩)] w λe a=>e = .returned (.int .u8 (b:Int))/\zk a R s p/\w.grownBy a (some R)/\a.heap[(5:Nat)]?=some (.cells A tt fr):=by
  refine H.mono ?_;rintro e a ⟨rfl,h1,g,n,_⟩;exact⟨rfl,h1,g,(n _).trans hh⟩
 have HB:=hid hb;clear H hb hr hh
 have u:128<=b->p<s.size:=λh=>by
  have:=Rd.zP s.data.toList p (by rw[HB.out];omega)
  rwa [Ref.zx] at this
 have c8:=hid u;clear u;go_enter func230,ntmps230
 go_wp2_with (first
  | (go_at_call 143;refine v.mono ?_;rintro e w1 ⟨rfl,a8,a2,a5⟩)
  | (refine wpList_load_row rfl 400 _ rfl 5 rfl tt A fr _ a5 underlying400 rfl J ?_))
 have U:=hid a8;have P:=hid a2;clear a8 a2 a5 v J
 go_loopw [11] (λK wr=>∃k:Nat,k<=8/\K = .int .i64 k/\zk wr R s p/\w.grownBy wr (some R)/\(∀i,i<k->b<Rd.jy i\/Rd.jP i<b)) (λK _=>8-(intOf K).toNat)
 case atStart=>exact⟨0,by omega,rfl,U.out,P.out,λi hi=>by omega⟩
 case round=>
  obtain⟨k,hk,rfl,b9,hg,a7⟩:=hrel;have S:=hid a7;have m:=hid b9;have HG:=hid hg;clear a7 b9 hg U P
  by_cases hlt:k<8
  ·have b0:=λW=>d W k hlt;have a0:=Rd.Je k hlt;have d6:=λ(h1:Rd.jy k<=b) (g:b<=Rd.jP k)=>And.intro h1 g;have f:=Rd.Hz s.data.toList p k hlt;have t:=λj=>Rd.Ia s.data.toList p k j hlt;have o:=Rd.He s.data.toList p k hlt;rw[HB.out] at f o;simp only[HB.out] at t
   have G:b<Rd.jy k\/Rd.jP k<b->∀i,i<k+1->b<Rd.jy i\/Rd.jP i<b:=λh i hi=>by
    by_cases e:i=k
    ·subst e;exact h
    ·exact S.out i (by omega)
   obtain⟨F,hF⟩:=Nm (Rd.jy k);obtain⟨L,hL⟩:=Nm (Rd.jP k);obtain⟨N,hN⟩:=Nm (Rd.uH k);obtain⟨lo,E⟩:∃N,Rd.Zt k=N:=⟨_,rfl⟩;obtain⟨hi,D⟩:∃N,Rd.ZT k=N:=⟨_,rfl⟩;rw[hF,hL,hN,E,D] at a0;rw[hF,hL] at G;simp only[hF,hL,hN,E,D] at b0 f t o;clear d6 hF hL hN E D;have T:=hid G;have Y:=hid f;have d0:=hid t;have c7:=hid o;clear G f t o d;obtain⟨b1,b2,b3,b4,b5,b6,b7,b8⟩:=a0
   by_cases c1:b<F
   ·have d1:decide ((b:Int)<(F:Int))=true:=decide_eq_true (by omega)
    go_wp2
    go_roundw
    case rel=>exact⟨k+1,by omega,by go_num,m.out.alloc _,zD HG.out (World.grownBy_alloc _ _ _),T.out (.inl c1)⟩
    case measure=>simp[intOf];omega
   have d1:decide ((b:Int)<(F:Int))=false:=decide_eq_false (by omega)
   by_cases c2:L<b
   ·have d2:decide ((L:Int)<(b:Int))=true:=decide_eq_true (by omega)
    go_wp2
    go_roundw
    case rel=>exact⟨k+1,by omega,by go_num,m.out.alloc _,zD HG.out (World.grownBy_alloc _ _ _),T.out (.inr c2)⟩
    case measure=>simp[intOf];omega
   have d2:decide ((L:Int)<(b:Int))=false:=decide_eq_false (by omega);have g6:p<s.size:=c8.out (by omega)
   have a6:zk (wr.setCell ⟨R,1,none⟩ (.int .i64 ((p:Int)+1))) R s (p+1):=by
    have:=m.out.move (p+1)
    rw[show ((p:Int)+1)=((p+1:Nat):Int) by omega];exact this
   have e2:=m.out.lt
   have a3:w.grownBy ((wr.setCell ⟨R,1,none⟩ (.int .i64 ((p:Int)+1))).alloc (.cells #[.int .u8 (F:Int),.int .u8 (L:Int),.int .i64 (N:Int),.int .u8 (lo:Int),.int .u8 (hi:Int)] 399)) (some R):=
    zD HG.out (zD (xE _ _ _ _) (World.grownBy_alloc _ _ _))
   have a1:((wr.setCell ⟨R,1,none⟩ (.int .i64 ((p:Int)+1))).alloc (.cells #[.int .u8 (F:Int),.int .u8 (L:Int),.int .i64 (N:Int),.int .u8 (lo:Int),.int .u8 (hi:Int)] 399)).cell? ⟨wr.heap.size,2,none⟩=some (.int .i64 (N:Int)):=by
    have e:(wr.setCell ⟨R,1,none⟩ (.int .i64 ((p:Int)+1))).heap.size=wr.heap.size:=by simp[World.setCell]
    have:=heap_alloc_new (wr.setCell ⟨R,1,none⟩ (.int .i64 ((p:Int)+1))) (.cells #[.int .u8 (F:Int),.int .u8 (L:Int),.int .i64 (N:Int),.int .u8 (lo:Int),.int .u8 (hi:Int)] 399)
    rw[e] at this;simp only[World.cell?,this]
    rfl
   have hw:=iC s R (p+1) lo hi _ (a6.alloc (.cells #[.int .u8 (F:Int),.int .u8 (L:Int),.int .i64 (N:Int),.int .u8 (lo:Int),.int .u8 (hi:Int)] 399)) (by omega) hs b6 b7;have g1:=λO=>(m.out.alloc O).1;have g2:=λO=>(m.out.alloc O).2.1;have g3:=λO=>(m.out.alloc O).2.2;have y:=hid a3;have M:=hid a1;clear a3 a1 a6
   cases hwt:Rd.within s.data.toList lo hi (p+1) with
   | false=>
    have x:=hid (Y.out (by omega) (by omega) hwt)
    have c:=hw.mono (R':=λe a=>e = .returned (.iface 140 (.agg #[.int .i64 ((p+1:Nat):Int)]))/\w.grownBy a (some R)/\zk a R s (p+1)) (by
     rintro e a ⟨_,h⟩;obtain⟨rfl,g,n⟩:=h hwt;exact⟨rfl,zD y.out g,n⟩)
    clear hw hwt
    go_wp2_with (go_at_call 251;refine c.mono ?_;rintro e w4 ⟨rfl,q,r⟩)
    go_ret;refine kX.of ?_ x.out;exact⟨rfl,q,r,by omega,by omega⟩
   | true=>
    have Z:=hid hwt
    have c:=hw.mono (R':=λe a=>e = .returned .nilIface/\w.grownBy a (some R)/\zk a R s (p+2)/\a.cell? ⟨wr.heap.size,2,none⟩=some (.int .i64 (N:Int))/\p+1<s.size) (by
     rintro e a ⟨h,_⟩;obtain⟨rfl,g,n,h4⟩:=h hwt;exact⟨rfl,zD y.out g,n,g.cell M.out (by simp;omega),h4⟩)
    clear hw hwt;have f2:1<=(N:Int):=by omega
    have f3:(N:Int)<=3:=by omega
    go_wp2_with (go_at_call 251;refine c.mono ?_;rintro e w4 ⟨rfl,q,r,f9,g4⟩)
    have Q:=hid q;have V:=hid r;clear q r c g1 g2 g3 y M
    go_loopw [43] (λK wi=>∃j:Nat,j+1<=N/\K = .int .i64 j/\zk wi R s (p+2+j)/\w.grownBy wi (some R)/\Rd.Jm s.data.toList p j/\p+2+j<=s.size) (λK _=>N-(intOf K).toNat)
    case atStart=>exact⟨0,by omega,rfl,V.out,Q.out,λi hi=>by omega,by omega⟩
    case round=>
     obtain⟨j,g0,rfl,a9,a4,c0,e0⟩:=hrel;have X:=hid a9;have z:=hid a4;have B:=hid c0;clear a9 a4 c0 Q V;have l:=iC s R (p+2+j) 128 191 wr X.out e0 hs (by omega) (by omega)
     by_cases hjl:j+1<N
     ·have d9:(j:Int)<(N:Int)-1:=by omega
      cases hwt:Rd.within s.data.toList 128 191 (p+2+j) with
      | false=>
       have x:=hid (d0.out j (by omega) (by omega) Z.out B.out hjl hwt)
       have c:=l.mono (R':=λe a=>e = .returned (.iface 140 (.agg #[.int .i64 ((p+2+j:Nat):Int)]))/\w.grownBy a (some R)/\zk a R s (p+2+j)) (by
        rintro e a ⟨_,h⟩;obtain⟨rfl,g,n⟩:=h hwt;exact⟨rfl,zD z.out g,n⟩)
       clear l hwt
       go_wp2_with (go_at_call 251;refine c.mono ?_;rintro e w5 ⟨rfl,C,I⟩)
       go_ret;refine kX.of ?_ x.out;exact⟨rfl,C,I,by omega,by omega⟩
      | true=>
       have c9:=hid (show Rd.Jm s.data.toList p (j+1) from λi hi=>by
        by_cases e:i=j
        ·subst e;exact hwt
        ·exact B.out i (by omega))
       have c:=l.mono (R':=λe a=>e = .returned .nilIface/\w.grownBy a (some R)/\zk a R s (p+2+(j+1))/\p+2+j<s.size) (by
        rintro e a ⟨h,_⟩;obtain⟨rfl,g,n,h4⟩:=h hwt;exact⟨rfl,zD z.out g,n,h4⟩)
       clear l hwt
       go_wp2_with (go_at_call 251;refine c.mono ?_;rintro e w5 ⟨rfl,C,I,g5⟩)
       go_roundw
       case rel=>exact⟨j+1,by omega,by go_num,I,C,c9.out,by omega⟩
       case measure=>simp[intOf];omega
     ·have d9:¬(j:Int)<(N:Int)-1:=by omega
      obtain rfl:N=j+1:=by omega
      have x:=hid (c7.out (by omega) (by omega) Z.out B.out);clear l
      go_wp2
      go_ret;refine kX.of ?_ x.out;exact⟨rfl,rfl,z.out,by have:=X.out;rwa [show p+1+(j+1)=p+2+j by omega],by omega,by omega⟩
  ·have x:=hid (Rd.Hf s.data.toList p (by rw[HB.out];exact Rd.Cz b (λi hi=>S.out i (by omega))));have sf:=Zx s R p wr m.out
   go_wp2_with (go_at_call 94;refine sf.mono ?_;rintro e w2 ⟨rfl,rfl⟩)
   go_ret;refine kX.of ?_ x.out;exact⟨rfl,HG.out,m.out,hp,Nat.le_refl _⟩
end Go.Proofs.YtdakgnaojakldaaGreatDoor
