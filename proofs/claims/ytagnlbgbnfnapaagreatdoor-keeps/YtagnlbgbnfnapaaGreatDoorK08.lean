/- P -/
import Derived.Test.YtagnlbgbnfnapaaGreatDoorK05
open Go.Proofs.Tryz
set_option maxRecDepth 100000
set_option maxHeartbeats 2000000
namespace Go.Proofs.YtagnlbgbnfnapaaGreatDoor
open Go.RowKit
def zu(w:World)(R:Nat)(s:BY)(p:Nat):Prop:=w.cell? ⟨R,0,none⟩=some (.string s)/\w.cell? ⟨R,1,none⟩=some (.int .i64 (p:Int))/\w.frozen? ⟨R,1,none⟩=false
theorem zu.drewN{w:World}{R:Nat}{s:BY}{p:Nat}(h:zu w R s p)(n:Nat):zu (w.drewN n) R s p:=by
 induction n with
 | zero=>exact h
 | succ n a=>exact a
theorem zu.lt{w:World}{R:Nat}{s:BY}{p:Nat}(h:zu w R s p):R<w.heap.size:=XX _ _ h.1
theorem zu.move{w:World}{R:Nat}{s:BY}{p:Nat}(h:zu w R s p)(q:Nat):zu (w.setCell ⟨R,1,none⟩ (.int .i64 (q:Int))) R s q:=by
 obtain⟨b,a,d⟩:=h;refine⟨by rw[Bf _ _ _ _ _ _ (by omega)];exact b,?_,by rw[lW];exact d⟩;unfold World.cell? World.setCell at *;simp only[Vr,xy];simp only at a
 cases hb:w.heap[R]? with
 | none=>rw[hb] at a;simp at a
 | some o=>
  rw[hb] at a
  cases o with
  | cells c t f=>
   simp at a |-;have e:=(XG.1 a).1;simp[e]
  | _=>simp at a
theorem yH(w:World)(r:Option Nat):∀n,w.grownBy (w.drewN n) r
 | 0=>⟨rfl,rfl,rfl,ze _,λ_ _ _=>rfl⟩
 | n+1=>have h:=yH w r n;⟨h.os,h.tape,h.output,h.size,h.block⟩
theorem zW{a b c:World}{r:Option Nat}(h:a.grownBy b r)(k:b.grownBy c r):a.grownBy c r:=
 ⟨k.os.trans h.os,k.tape.trans h.tape,k.output.trans h.output,qZ h.size k.size,λi hi d=>(k.block i (xM hi h.size) d).trans (h.block i hi d)⟩
theorem yS(a:World)(b o:Nat)(u:Value):a.grownBy (a.setCell ⟨b,o,none⟩ u) (some b):=
 ⟨rfl,rfl,rfl,by simp[World.setCell],λi _ c=>qc a ⟨b,o,none⟩ u i (λe=>c (by simp[e]))⟩
theorem Y5(s:BY)(R p:Nat)(w:World)(a:zu w R s p)(g:p<=s.size) :
  Calls prog 140 #[.pointer (some ⟨R,0,none⟩)] w λe w'=>e = .returned (.int .u8 ((Rd.zk s.data.toList p:Nat):Int))/\∃n,w'=w.drewN n:=by
 obtain⟨b,c,f⟩:=a
 by_cases hlt:p<s.size
 ·have e:Rd.zk s.data.toList p=s[p].toNat:=by
   rw[Rd.bT _ _ (by rw[Ref.zA];exact hlt)];rfl
  rw[e];have d:((p:Int)==(s.size:Int))=false:=by rw[qI];omega
  have hi:(p:Int)<(s.size:Int):=by omega
  go_enter func140,ntmps140;go_wp2_with fail
  go_quiet (fail)
  go_wp2_with fail
  go_quiet (fail)
  go_wp2
  go_ret;exact⟨rfl,_,by first|rfl|rw[World.drewN_drewN]⟩
 ·have e:Rd.zk s.data.toList p=0:=Rd.bU _ _ (by rw[Ref.zA];exact hlt);rw[e];have d:((p:Int)==(s.size:Int))=true:=by rw[kH];omega
  go_enter func140,ntmps140;go_wp2_with fail
  go_quiet (fail)
  go_wp2
  go_ret;exact⟨rfl,_,rfl⟩
theorem Q9(s:BY)(R p:Nat)(w:World)(a:zu w R s p) :
  Calls prog 93 #[.pointer (some ⟨R,0,none⟩)] w λe w'=>e = .returned (.iface 145 (.agg #[.int .i64 (p:Int)]))/\w'=w:=by
 obtain⟨b,c,d⟩:=a;go_enter func93,ntmps93
 go_wp2
 go_ret;exact⟨rfl,rfl⟩
def JD(w:World)(R:Nat):Nat:=match w.cell? ⟨R,1,none⟩ with
 | some (.int _ n)=>n.toNat
 | _=>0
theorem zu.at{w:World}{R:Nat}{s:BY}{p:Nat}(h:zu w R s p):JD w R=p:=by
 unfold JD;rw[h.2.1];simp
theorem Yj(s:BY)(R p:Nat)(w:World)(m:zu w R s p)(x:p<=s.size)(C:s.size<=4000) :
  Calls prog 91 #[.pointer (some ⟨R,0,none⟩)] w λe w'=>e = .returned (.tuple #[])/\w.grownBy w' (some R)/\zu w' R s (Rd.skip s.data.toList p):=by
 go_enter func91,ntmps91
 go_wp2
 go_loopw [2] (λ_ wr=>∃q:Nat,q<=s.size/\zu wr R s q/\w.grownBy wr (some R)/\Rd.skip s.data.toList q=Rd.skip s.data.toList p) (λ_ wr=>s.size-JD wr R)
 case atStart=>exact⟨p,x,m,yH w _ 0,rfl⟩
 case round=>
  obtain⟨q,y,c,l,i⟩:=hrel;have d:=hid i;have k:=hid c.at;clear i;have f:=Y5 s R q wr c y;have a:=Rd.Q3 s.data.toList q;obtain⟨b,hb⟩:=Nm (Rd.zk s.data.toList q);rw[hb] at f a;have o:b<256:=by rw[<- hb];exact Rd.ZW _ _
  cases hbl:Rd.blank b with
  | true=>
   rw[hbl,zb rfl] at a;have j:=hid a
   have u:q<s.size:=by
    have:=Rd.YI s.data.toList q (by rw[hb];exact hbl)
    rwa [Ref.zA] at this
   have h:(b:Int)=32\/(b:Int)=9\/(b:Int)=10\/(b:Int)=13:=by
    unfold Rd.blank at hbl;simp at hbl;omega
   clear hbl a hb;have g:=hid c;have r:=hid l;obtain⟨z,A,B⟩:=c;clear m l
   rcases h with h|h|h|h
   all_goals
    go_wp2_with (go_at_call 140;refine f.mono ?_;rintro e w1 ⟨rfl,n,rfl⟩)
    go_roundw
    case rel=>exact⟨q+1,by omega,by have:=(g.out.drewN n).move (q+1);simpa using this,zW r.out (zW (yH wr _ n) (yS _ _ _ _)),by rw[<- j.out];exact d.out⟩
    case measure=>
     have t:=((g.out.drewN n).move (q+1)).at;rw[k.out,show ((q:Int)+1)=((q+1:Nat):Int) by omega,t];omega
  | false=>
   rw[hbl,za (by decide)] at a;rw[a] at d;have D:((b:Int)==32)=false:=by rw[qI];intro e;simp[Rd.blank] at hbl;omega
   have E:((b:Int)==9)=false:=by rw[qI];intro e;simp[Rd.blank] at hbl;omega
   have F:((b:Int)==10)=false:=by rw[qI];intro e;simp[Rd.blank] at hbl;omega
   have G:((b:Int)==13)=false:=by rw[qI];intro e;simp[Rd.blank] at hbl;omega
   clear hbl a hb m
   go_wp2_with (go_at_call 140;refine f.mono ?_;rintro e w1 ⟨rfl,n,rfl⟩)
   exact zN (v := .tuple #[]) (by simp[results,results91,go_sem]) rfl ⟨rfl,zW l (yH wr _ n),by rw[<- d.out];exact c.drewN n⟩
theorem FZ(b:Nat)(w:World)(hb:b<256) :
  Calls prog 259 #[.int .u8 (b:Int)] w λe w'=>e = .returned (.tuple #[.int .i32 (if Ref.zL b<0 then 0 else Ref.zL b),.bool (decide (0<=Ref.zL b))])/\w'=w:=by
 have c:(0<=b/\b<=47)\/(48<=b/\b<=57)\/(58<=b/\b<=64)\/(65<=b/\b<=70)\/(71<=b/\b<=96)\/(97<=b/\b<=102)\/(103<=b/\b<=255):=by omega
 rcases c with c|c|c|c|c|c|c
 ·have a:Ref.zL (b:Int) = -1:=by unfold Ref.zL;rw[za (by omega),za (by omega),za (by omega)]
  rw[a];have f:decide ((48:Int)<=(b:Int))=false:=zO (by omega);have g:decide ((b:Int)<=57)=true:=zC (by omega);have h:decide ((97:Int)<=(b:Int))=false:=zO (by omega);have i:decide ((b:Int)<=102)=true:=zC (by omega);have j:decide ((65:Int)<=(b:Int))=false:=zO (by omega);have k:decide ((b:Int)<=70)=true:=zC (by omega);have b0:(0:Int)<=(b:Int):=by omega
  have d:(b:Int)<=47:=by omega
  clear a c;go_enter func259,ntmps259
  go_wp2
  go_ret2;exact⟨by first|rfl|(congr),rfl⟩
 ·have a:Ref.zL (b:Int)=(b:Int)-48:=by unfold Ref.zL;rw[zb (by omega)]
  rw[a];have f:decide ((48:Int)<=(b:Int))=true:=zC (by omega);have g:decide ((b:Int)<=57)=true:=zC (by omega);have h:decide ((97:Int)<=(b:Int))=false:=zO (by omega);have i:decide ((b:Int)<=102)=true:=zC (by omega);have j:decide ((65:Int)<=(b:Int))=false:=zO (by omega);have k:decide ((b:Int)<=70)=true:=zC (by omega);have b0:(48:Int)<=(b:Int):=by omega
  have d:(b:Int)<=57:=by omega
  rw[za (show ¬((b:Int)-48<0) by omega),zC (show 0<=(b:Int)-48 by omega)];clear a c;go_enter func259,ntmps259
  go_wp2
  go_ret2;exact⟨by first|rfl|(congr),rfl⟩
 ·have a:Ref.zL (b:Int) = -1:=by unfold Ref.zL;rw[za (by omega),za (by omega),za (by omega)]
  rw[a];have f:decide ((48:Int)<=(b:Int))=true:=zC (by omega);have g:decide ((b:Int)<=57)=false:=zO (by omega);have h:decide ((97:Int)<=(b:Int))=false:=zO (by omega);have i:decide ((b:Int)<=102)=true:=zC (by omega);have j:decide ((65:Int)<=(b:Int))=false:=zO (by omega);have k:decide ((b:Int)<=70)=true:=zC (by omega);have b0:(58:Int)<=(b:Int):=by omega
  have d:(b:Int)<=64:=by omega
  clear a c;go_enter func259,ntmps259
  go_wp2
  go_ret2;exact⟨by first|rfl|(congr),rfl⟩
 ·have a:Ref.zL (b:Int)=(b:Int)-65+10:=by unfold Ref.zL;rw[za (by omega),za (by omega),zb (by omega)]
  rw[a];have f:decide ((48:Int)<=(b:Int))=true:=zC (by omega);have g:decide ((b:Int)<=57)=false:=zO (by omega);have h:decide ((97:Int)<=(b:Int))=false:=zO (by omega);have i:decide ((b:Int)<=102)=true:=zC (by omega);have j:decide ((65:Int)<=(b:Int))=true:=zC (by omega);have k:decide ((b:Int)<=70)=true:=zC (by omega);have b0:(65:Int)<=(b:Int):=by omega
  have d:(b:Int)<=70:=by omega
  rw[za (show ¬((b:Int)-65+10<0) by omega),zC (show 0<=(b:Int)-65+10 by omega)];clear a c;go_enter func259,ntmps259
  go_wp2
  go_ret2;exact⟨by first|rfl|(congr),rfl⟩
 ·have a:Ref.zL (b:Int) = -1:=by unfold Ref.zL;rw[za (by omega),za (by omega),za (by omega)]
  rw[a];have f:decide ((48:Int)<=(b:Int))=true:=zC (by omega);have g:decide ((b:Int)<=57)=false:=zO (by omega);have h:decide ((97:Int)<=(b:Int))=false:=zO (by omega);have i:decide ((b:Int)<=102)=true:=zC (by omega);have j:decide ((65:Int)<=(b:Int))=true:=zC (by omega);have k:decide ((b:Int)<=70)=false:=zO (by omega);have b0:(71:Int)<=(b:Int):=by omega
  have d:(b:Int)<=96:=by omega
  clear a c;go_enter func259,ntmps259
  go_wp2
  go_ret2;exact⟨by first|rfl|(congr),rfl⟩
 ·have a:Ref.zL (b:Int)=(b:Int)-97+10:=by unfold Ref.zL;rw[za (by omega),zb (by omega)]
  rw[a];have f:decide ((48:Int)<=(b:Int))=true:=zC (by omega);have g:decide ((b:Int)<=57)=false:=zO (by omega);have h:decide ((97:Int)<=(b:Int))=true:=zC (by omega);have i:decide ((b:Int)<=102)=true:=zC (by omega);have j:decide ((65:Int)<=(b:Int))=true:=zC (by omega);have k:decide ((b:Int)<=70)=false:=zO (by omega);have b0:(97:Int)<=(b:Int):=by omega
  have d:(b:Int)<=102:=by omega
  rw[za (show ¬((b:Int)-97+10<0) by omega),zC (show 0<=(b:Int)-97+10 by omega)];clear a c;go_enter func259,ntmps259
  go_wp2
  go_ret2;exact⟨by first|rfl|(congr),rfl⟩
 ·have a:Ref.zL (b:Int) = -1:=by unfold Ref.zL;rw[za (by omega),za (by omega),za (by omega)]
  rw[a];have f:decide ((48:Int)<=(b:Int))=true:=zC (by omega);have g:decide ((b:Int)<=57)=false:=zO (by omega);have h:decide ((97:Int)<=(b:Int))=true:=zC (by omega);have i:decide ((b:Int)<=102)=false:=zO (by omega);have j:decide ((65:Int)<=(b:Int))=true:=zC (by omega);have k:decide ((b:Int)<=70)=false:=zO (by omega);have b0:(103:Int)<=(b:Int):=by omega
  have d:(b:Int)<=255:=by omega
  clear a c;go_enter func259,ntmps259
  go_wp2
  go_ret2;exact⟨by first|rfl|(congr),rfl⟩
theorem tT(s:BY)(R p lo hi:Nat)(w:World)(i:zu w R s p)(r:p<=s.size)(z:s.size<=4000)(u:0<lo)(q:lo<256) :
  Calls prog 249 #[.pointer (some ⟨R,0,none⟩),.int .u8 (lo:Int),.int .u8 (hi:Int)] w λe w'=>
   (Rd.within s.data.toList lo hi p=true->e = .returned .nilIface/\w.grownBy w' (some R)/\zu w' R s (p+1)/\p<s.size) /\
   (Rd.within s.data.toList lo hi p=false->e = .returned (.iface 145 (.agg #[.int .i64 (p:Int)]))/\w.grownBy w' (some R)/\zu w' R s p):=by
 have a:=Y5 s R p w i r;obtain⟨b,hb⟩:=Nm (Rd.zk s.data.toList p);have j:b<256:=by rw[<- hb];exact Rd.ZW _ _
 have d:Rd.within s.data.toList lo hi p=decide (lo<=b/\b<=hi):=by unfold Rd.within;rw[hb]
 rw[hb] at a
 have c:0<b->p<s.size:=λh=>by
  have:=Rd.qj s.data.toList p (by rw[hb];omega)
  rwa [Ref.zA] at this
 have g:=hid d;have f:=hid i;have l:=hid c;obtain⟨v,x,y⟩:=i;clear hb d c;have k:=λn=>Q9 s R p (w.drewN n) (f.out.drewN n)
 by_cases c1:b<lo
 ·have m:decide ((b:Int)<(lo:Int))=true:=zC (by omega);go_enter func249,ntmps249
  go_wp2_with (first
   | (go_at_call 140;refine a.mono ?_;rintro e w1 ⟨rfl,n,rfl⟩)
   | (go_at_call 93;refine (k n).mono ?_;rintro e t ⟨rfl,rfl⟩))
  go_ret;refine⟨λh=>?_,λ_=>⟨rfl,yH w _ n,f.out.drewN n⟩⟩;rw[g.out] at h;simp at h;omega
 have m:decide ((b:Int)<(lo:Int))=false:=zO (by omega)
 by_cases c2:hi<b
 ·have o:decide ((hi:Int)<(b:Int))=true:=zC (by omega);go_enter func249,ntmps249
  go_wp2_with (first
   | (go_at_call 140;refine a.mono ?_;rintro e w1 ⟨rfl,n,rfl⟩)
   | (go_at_call 93;refine (k n).mono ?_;rintro e t ⟨rfl,rfl⟩))
  go_ret;refine⟨λh=>?_,λ_=>⟨rfl,yH w _ n,f.out.drewN n⟩⟩;rw[g.out] at h;simp at h;omega
 ·have o:decide ((hi:Int)<(b:Int))=false:=zO (by omega);go_enter func249,ntmps249
  go_wp2_with (go_at_call 140;refine a.mono ?_;rintro e w1 ⟨rfl,n,rfl⟩)
  go_ret;refine⟨λ_=>⟨rfl,zW (yH w _ n) (yS _ _ _ _),?_,l.out (by omega)⟩,λh=>?_⟩
  ·have:=(f.out.drewN n).move (p+1)
   simpa using this
  ·rw[g.out] at h;simp at h;omega
def XV(w:World)(R:Nat)(s:BY)(r:Rd.Res Unit)(e:Ending)(w':World):Prop:=match r with
 | .ok _ q=>e = .returned .nilIface/\w.grownBy w' (some R)/\zu w' R s q/\q<=s.size
 | .err _ q=>e = .returned (.iface 145 (.agg #[.int .i64 (q:Int)]))/\w.grownBy w' (some R)/\zu w' R s q/\q<=s.size
theorem XV.of{w w':World}{R:Nat}{s:BY}{r a:Rd.Res Unit}{e:Ending}(h:XV w R s r e w')(b:a=r):XV w R s a e w':=b ▸ h
theorem Sm(s t:BY)(R p:Nat)(w:World)(A:zu w R s p)(M:p<=s.size)(N:s.size<=4000)(O:t.size<=100)(C:∀k,k<t.size->(t.data.toList.getD k 0).toNat≠0) :
  Calls prog 144 #[.pointer (some ⟨R,0,none⟩),.string t] w λe w'=>XV w R s (Rd.qi s.data.toList (t.data.toList.map UInt8.toNat) p) e w':=by
 have j:=hid A;clear A;go_enter func144,ntmps144
 go_wp2
 go_loopw [8] (λu wr=>∃k:Nat,k<=t.size/\u = .int .i64 k/\p+k<=s.size/\zu wr R s (p+k)/\w.grownBy wr (some R)/\Rd.qi s.data.toList (t.data.toList.map UInt8.toNat) p=Rd.qi s.data.toList ((t.data.toList.map UInt8.toNat).drop k) (p+k)) (λu _=>t.size-(intOf u).toNat)
 case atStart=>exact⟨0,zG _,rfl,by omega,j.out,yH w _ 0,by simp⟩
 case round=>
  obtain⟨k,L,rfl,g,h,y,B⟩:=hrel;have o:=hid B;have m:=hid y;have i:=hid h;clear B y j
  by_cases hlt:k<t.size
  ·have z:(k:Int)<(t.size:Int):=by omega
   have f:=λn=>Y5 s R (p+k) (wr.drewN n) (i.out.drewN n) g;obtain⟨b,hb⟩:=Nm (Rd.zk s.data.toList (p+k));simp only[hb] at f;have v:b<256:=by rw[<- hb];exact Rd.ZW _ _
   obtain⟨c,x⟩:=Nm (t[k]);have q:=C k hlt;rw[Ref.getD_at t k hlt,x] at q
   have a:Rd.qi s.data.toList ((t.data.toList.map UInt8.toNat).drop k) (p+k)=if b=c.toNat then Rd.qi s.data.toList ((t.data.toList.map UInt8.toNat).drop (k+1)) (p+k+1) else .err 2 (p+k):=by
    have r:k<(t.data.toList.map UInt8.toNat).length:=by rw[qB,Ref.zA];exact hlt
    rw[vw r,Rd.qi,hb]
    have:(t.data.toList.map UInt8.toNat)[k]=c.toNat:=by rw[Kl,<- x];rfl
    rw[this]
   have l:=hid a;have D:=hid hb;clear a hb C;obtain⟨I,J,K⟩:=h
   by_cases hbc:b=c.toNat
   ·have d:((b:Int) != (c.toNat:Int))=false:=by simp;omega
    have G:p+k<s.size:=by
     have:=Rd.qj s.data.toList (p+k) (by rw[D.out];omega)
     rwa [Ref.zA] at this
    go_wp2_with fail
    go_quiet ((go_at_call 140;exact Calls.quiet_of (f _)))
    go_wp2
    have F:zu ((wr.drewN nq).setCell ⟨R,1,none⟩ (.int .i64 ((p:Int)+(k:Int)+1))) R s (p+(k+1)):=by
     have:=(i.out.drewN nq).move (p+(k+1))
     rw[show ((p:Int)+(k:Int)+1)=((p+(k+1):Nat):Int) by omega];exact this
    exact⟨⟨k+1,by omega,by go_num,by omega,F,zW m.out (zW (yH wr _ nq) (yS _ _ _ _)),by rw[o.out,l.out,zb hbc];rfl⟩,by simp[intOf];omega⟩
   ·have d:((b:Int) != (c.toNat:Int))=true:=by simp;omega
    have H:=λn=>Q9 s R (p+k) (wr.drewN n) (i.out.drewN n);go_wp2_with fail
    go_quiet ((go_at_call 140;exact Calls.quiet_of (f _)))
    go_wp2_with (go_at_call 93;refine (H nq).mono ?_;rintro e P ⟨rfl,rfl⟩)
    go_ret;refine XV.of ?_ (o.out.trans (l.out.trans (za hbc)));exact⟨rfl,zW m.out (yH wr _ nq),i.out.drewN nq,g⟩
  ·have e:Rd.qi s.data.toList ((t.data.toList.map UInt8.toNat).drop k) (p+k) = .ok () (p+k):=by
    rw[Vy (by rw[qB,Ref.zA];omega),Rd.qi]
   have E:=hid e;clear e h
   go_wp2
   go_ret;refine XV.of ?_ (o.out.trans E.out);exact⟨rfl,m.out,i.out,g⟩
namespace Rd
open Ref
def yA(l:List UInt8)(p:Nat):Nat->Int
 | 0=>0
 | k+1=>yA l p k*16+zL (zk l (p+k))
def okF(l:List UInt8)(p k:Nat):Prop:=(∀j,j<k->0<=zL (zk l (p+j)))/\(2<=k->¬(zL (zk l p)=13/\8<=zL (zk l (p+1))))
theorem Mm(l:List UInt8)(p k:Nat)(h:okF l p k):0<=yA l p k/\(k=0->yA l p k=0)/\(k=1->yA l p k=zL (zk l p)/\yA l p k<=15)/\(k=2->yA l p k<=255)/\(k=3->yA l p k<=4095)/\(k=4->yA l p k<=65535/\¬(55296<=yA l p k/\yA l p k<=57343)):=by
 obtain⟨a,d⟩:=h;have e:=X8 (zk l p);have f:=X8 (zk l (p+1));have i:=X8 (zk l (p+2));have n:=X8 (zk l (p+3))
 match k with
 | 0=>simp[yA]
 | 1=>
  have b:=a 0 (by omega);simp only[yA,Ze] at *;omega
 | 2=>
  have b:=a 0 (by omega);have c:=a 1 (by omega);simp only[yA,Ze] at *;omega
 | 3=>
  have b:=a 0 (by omega);have c:=a 1 (by omega);have o:=a 2 (by omega);simp only[yA,Ze] at *;omega
 | 4=>
  have b:=a 0 (by omega);have c:=a 1 (by omega);have o:=a 2 (by omega);have r:=a 3 (by omega);have s:=d (by omega);simp only[yA,Ze] at *;omega
 | k+5=>
  refine⟨?_,by omega,by omega,by omega,by omega,by omega⟩;clear d e f i n;generalize k+5=m at *
  induction m with
  | zero=>simp[yA]
  | succ m q=>
   have g:=a m (by omega)
   have:=q (λj t=>a j (by omega))
   simp only[yA];omega
theorem lV(l:List UInt8)(p k:Nat)(h:okF l p k)(g:k<4)(hb:zL (zk l (p+k))<0\/(k=1/\zL (zk l p)=13/\8<=zL (zk l (p+1)))):uO l p = .err 2 (p+k):=by
 obtain⟨a,c⟩:=h;unfold uO;simp only
 match k with
 | 0=>rw[zb (by simpa using hb)];rfl
 | 1=>
  have b:=a 0 (by omega);simp only[Ze] at b;rw[za (by omega),zb (by omega)]
 | 2=>
  have b:=a 0 (by omega);have d:=a 1 (by omega);have e:=c (by omega);simp only[Ze] at b;rw[za (by omega),za (by omega),zb (by omega)]
 | 3=>
  have b:=a 0 (by omega);have d:=a 1 (by omega);have f:=a 2 (by omega);have e:=c (by omega);simp only[Ze] at b;rw[za (by omega),za (by omega),za (by omega),zb (by omega)]
theorem Fg(l:List UInt8)(p:Nat)(h:okF l p 4):uO l p = .ok (enc (yA l p 4)) (p+4):=by
 obtain⟨a,c⟩:=h;have b:=a 0 (by omega);have d:=a 1 (by omega);have e:=a 2 (by omega);have f:=a 3 (by omega);have g:=c (by omega);simp only[Ze] at b;unfold uO;simp only;rw[za (by omega),za (by omega),za (by omega),za (by omega)]
 have:yA l p 4=((zL (zk l p)*16+zL (zk l (p+1)))*16+zL (zk l (p+2)))*16+zL (zk l (p+3)):=by
  simp only[yA,Ze];omega
 rw[this]
theorem oD(l:List UInt8)(p k:Nat)(h:okF l p k)(a:0<=zL (zk l (p+k)))(d:k=1->¬(zL (zk l p)=13/\8<=zL (zk l (p+1)))):okF l p (k+1):=by
 obtain⟨b,c⟩:=h;refine⟨λj f=>?_,λh=>?_⟩
 ·by_cases e:j=k
  ·subst e;exact a
  ·exact b j (by omega)
 ·by_cases e:k=1
  ·exact d e
  ·exact c (by omega)
end Rd
def uC(w:World)(R:Nat)(s:BY)(r:Rd.Res BY)(e:Ending)(w':World):Prop:=match r with
 | .ok u q=>(∃N:Int,e = .returned (.tuple #[.int .i32 N,.nilIface])/\u=Ref.enc N/\0<=N/\N<=65535/\¬(55296<=N/\N<=57343))/\w.grownBy w' (some R)/\zu w' R s q/\q<=s.size
 | .err _ q=>(∃N:Int,e = .returned (.tuple #[.int .i32 N,.iface 145 (.agg #[.int .i64 (q:Int)])])/\0<=N/\N<=65535)/\w.grownBy w' (some R)/\zu w' R s q/\q<=s.size
theorem uC.of{w w':World}{R:Nat}{s:BY}{r a:Rd.Res BY}{e:Ending}(h:uC w R s r e w')(b:a=r):uC w R s a e w':=b ▸ h
theorem Fb(s:BY)(R p:Nat)(w:World)(P:zu w R s p)(hp:p<=s.size)(hs:s.size<=4000) :
  Calls prog 247 #[.pointer (some ⟨R,0,none⟩)] w λe w'=>uC w R s (Rd.uO s.data.toList p) e w':=by
 have B:=hid P;clear P;go_enter func247,ntmps247
 go_wp2
 go_loopw [4,8] (λnv K wr=>∃k:Nat,k<=4/\K = .int .i64 k/\nv = .int .i32 (Rd.yA s.data.toList p k)/\Rd.okF s.data.toList p k/\p+k<=s.size/\zu wr R s (p+k)/\w.grownBy wr (some R)) (λ_ K _=>4-(intOf K).toNat)
 case atStart=>exact⟨0,by omega,rfl,rfl,⟨λj h=>by omega,λh=>by omega⟩,by omega,B.out,yH w _ 0⟩
 case round=>
  obtain⟨k,hk,rfl,rfl,y,u,m,M⟩:=hrel;have d:=Rd.Mm s.data.toList p k y;obtain⟨N,x⟩:=Nm (Rd.yA s.data.toList p k);have i:=hid (show Rd.yA s.data.toList p (k+1)=Rd.yA s.data.toList p k*16+Ref.zL (Rd.zk s.data.toList (p+k)) from rfl)
  rw[x] at d i |-;have r:=hid y;have A:=hid M;have v:=hid m;clear y M B
  by_cases hlt:k<4
  ·have l:=Y5 s R (p+k) wr v.out u;obtain⟨b,hb⟩:=Nm (Rd.zk s.data.toList (p+k));rw[hb] at l i;have D:b<256:=by rw[<- hb];exact Rd.ZW _ _
   have c:=λW=>FZ b W D;have hle:=Rd.X8 b;obtain⟨h,o⟩:=Nm (Ref.zL (b:Int));rw[o] at i hle;simp only[o] at c;have G:=λn=>Q9 s R (p+k) (wr.drewN n) (v.out.drewN n);have C:0<=N/\N<=4095:=by omega
   obtain⟨Y,Z⟩:=C
   by_cases hneg:h<0
   ·have a:=Rd.lV s.data.toList p k r.out hlt (.inl (by rw[hb,o];exact hneg));rw[zb hneg,zO (by omega)] at c;have q:=hid a;clear a hb o x d m
    go_wp2_with (first
     | (go_at_call 140;refine l.mono ?_;rintro e w1 ⟨rfl,n,rfl⟩)
     | (go_at_call 259;refine (c _).mono ?_;rintro e H ⟨rfl,rfl⟩)
     | (go_at_call 93;refine (G n).mono ?_;rintro e I ⟨rfl,rfl⟩))
    go_ret2;refine uC.of ?_ q.out;exact⟨⟨0,rfl,by omega,by omega⟩,zW A.out (yH wr _ n),v.out.drewN n,u⟩
   rw[za hneg,zC (by omega)] at c
   have O:p+k<s.size:=by
    have:=Rd.aM s.data.toList (p+k) (by rw[hb,o];omega)
    rwa [Ref.zA] at this
   have E:0<=h:=by omega
   by_cases hk1:k=1
   ·subst hk1;have g:Ref.zL (Rd.zk s.data.toList p)=N:=(d.2.2.1 rfl).1.symm
    by_cases hbd:N=13/\8<=h
    ·have a:=Rd.lV s.data.toList p 1 r.out hlt (.inr ⟨rfl,by rw[g];exact hbd.1,by rw[hb,o];exact hbd.2⟩);have q:=hid a;obtain⟨z,X⟩:=hbd;have Q:decide (8<=h)=true:=zC X;clear a hb o x d m g
     go_wp2_with (first
      | (go_at_call 140;refine l.mono ?_;rintro e w1 ⟨rfl,n,rfl⟩)
      | (go_at_call 259;refine (c _).mono ?_;rintro e H ⟨rfl,rfl⟩)
      | (go_at_call 93;refine (G n).mono ?_;rintro e I ⟨rfl,rfl⟩))
     go_ret2;refine uC.of ?_ q.out;exact⟨⟨0,rfl,by omega,by omega⟩,zW A.out (yH wr _ n),v.out.drewN n,u⟩
    have f:=hid (Rd.oD s.data.toList p 1 r.out (by rw[hb,o];exact E) (λ_=>by rw[g,hb,o];exact hbd));obtain⟨T,U,V⟩:=m;clear hb o x d g
    by_cases z:N=13
    ·have Q:decide (8<=h)=false:=zO (by omega);clear hbd
     go_wp2_with (first
      | (go_at_call 140;refine l.mono ?_;rintro e w1 ⟨rfl,n,rfl⟩)
      | (go_at_call 259;refine (c _).mono ?_;rintro e H ⟨rfl,rfl⟩)
      | (go_at_call 93;refine (G n).mono ?_;rintro e I ⟨rfl,rfl⟩))
     have F:zu ((wr.drewN n).setCell ⟨R,1,none⟩ (.int .i64 ((p:Int)+1+1))) R s (p+(1+1)):=by
      have:=(v.out.drewN n).move (p+(1+1))
      rw[show ((p:Int)+1+1)=((p+(1+1):Nat):Int) by omega];exact this
     exact⟨⟨1+1,by omega,by go_num,by rw[i.out,z];rfl,f.out,by omega,F,zW A.out (zW (yH wr _ n) (yS _ _ _ _))⟩,by simp[intOf]⟩
    ·have d13:(N==13)=false:=by rw[qI];exact z
     clear hbd
     go_wp2_with (first
      | (go_at_call 140;refine l.mono ?_;rintro e w1 ⟨rfl,n,rfl⟩)
      | (go_at_call 259;refine (c _).mono ?_;rintro e H ⟨rfl,rfl⟩)
      | (go_at_call 93;refine (G n).mono ?_;rintro e I ⟨rfl,rfl⟩))
     have F:zu ((wr.drewN n).setCell ⟨R,1,none⟩ (.int .i64 ((p:Int)+1+1))) R s (p+(1+1)):=by
      have:=(v.out.drewN n).move (p+(1+1))
      rw[show ((p:Int)+1+1)=((p+(1+1):Nat):Int) by omega];exact this
     exact⟨⟨1+1,by omega,by go_num,by rw[i.out],f.out,by omega,F,zW A.out (zW (yH wr _ n) (yS _ _ _ _))⟩,by simp[intOf]⟩
   ·have f:=hid (Rd.oD s.data.toList p k r.out (by rw[hb,o];exact E) (λe=>absurd e hk1));have S:((k:Int)==1)=false:=by rw[qI];omega
    obtain⟨T,U,V⟩:=m;clear hb o x d
    go_wp2_with (first
     | (go_at_call 140;refine l.mono ?_;rintro e w1 ⟨rfl,n,rfl⟩)
     | (go_at_call 259;refine (c _).mono ?_;rintro e H ⟨rfl,rfl⟩)
     | (go_at_call 93;refine (G n).mono ?_;rintro e I ⟨rfl,rfl⟩))
    have F:zu ((wr.drewN n).setCell ⟨R,1,none⟩ (.int .i64 ((p:Int)+(k:Int)+1))) R s (p+(k+1)):=by
     have:=(v.out.drewN n).move (p+(k+1))
     rw[show ((p:Int)+(k:Int)+1)=((p+(k+1):Nat):Int) by omega];exact this
    exact⟨⟨k+1,by omega,by go_num,by rw[i.out],f.out,by omega,F,zW A.out (zW (yH wr _ n) (yS _ _ _ _))⟩,by simp[intOf];omega⟩
  ·obtain rfl:k=4:=by omega
   have t:=Rd.Fg s.data.toList p r.out;rw[x] at t;have J:=hid t;have L:=d.2.2.2.2.2 rfl;clear t x m
   go_wp2
   go_ret2;refine uC.of ?_ J.out;exact⟨⟨N,rfl,rfl,d.1,L.1,L.2⟩,A.out,v.out,u⟩
theorem ah(n:Int)(h:n<128):Ref.one n=Ref.enc n:=by unfold Ref.enc;rw[zb h]
theorem lJ(s:BY)(R p:Nat)(w:World)(A:zu w R s p)(C:p<=s.size)(D:s.size<=4000) :
  Calls prog 225 #[.pointer (some ⟨R,0,none⟩)] w λe w'=>uC w R s (Rd.uo s.data.toList p) e w':=by
 have d:=Y5 s R p w A C;have c:Rd.uo s.data.toList p=Rd.uo s.data.toList p:=rfl
 conv at c=>rhs;unfold Rd.uo
 simp only at c;obtain⟨b,hb⟩:=Nm (Rd.zk s.data.toList p);rw[hb] at d c;have B:b<256:=by rw[<- hb];exact Rd.ZW _ _
 have m:b≠0->p<s.size:=λh=>by
  have:=Rd.qj s.data.toList p (by rw[hb];exact h)
  rwa [Ref.zA] at this
 have f:=hid m;have y:=hid A;have v:=λn=>(y.out.drewN n).move (p+1);obtain⟨G,H,I⟩:=A;clear hb m
 have l:∀n,zu ((w.drewN n).setCell ⟨R,1,none⟩ (.int .i64 ((p:Int)+1))) R s (p+1):=λn=>by
  have:=v n
  rw[show ((p:Int)+1)=((p+1:Nat):Int) by omega];exact this
 have i:=hid l;clear v l
 by_cases c1:b=34\/b=92\/b=47
 ·rw[zb c1] at c;have g:=hid c;have o:=f.out (by omega);have k:(b:Int)=34\/(b:Int)=92\/(b:Int)=47:=by omega
  clear c c1
  rcases k with k|k|k
  all_goals
   go_enter func225,ntmps225
   go_wp2_with (go_at_call 140;refine d.mono ?_;rintro e w1 ⟨rfl,n,rfl⟩)
   go_ret2;refine uC.of ?_ g.out;exact⟨⟨b,by rw[k];rfl,ah _ (by omega),by omega,by omega,by omega⟩,zW (yH w _ n) (yS _ _ _ _),i.out n,by omega⟩
 rw[za c1] at c;have J:((b:Int)==34)=false:=by rw[qI];omega
 have K:((b:Int)==92)=false:=by rw[qI];omega
 have L:((b:Int)==47)=false:=by rw[qI];omega
 by_cases c4:b=110
 ·rw[zb c4] at c;have g:=hid c;have o:=f.out (by omega);have k:(b:Int)=110:=by omega
  clear c c1 c4;go_enter func225,ntmps225
  go_wp2_with (go_at_call 140;refine d.mono ?_;rintro e w1 ⟨rfl,n,rfl⟩)
  go_ret2;refine uC.of ?_ g.out;exact⟨⟨10,rfl,ah _ (by omega),by omega,by omega,by omega⟩,zW (yH w _ n) (yS _ _ _ _),i.out n,by omega⟩
 rw[za c4] at c;have M:((b:Int)==110)=false:=by rw[qI];omega
 by_cases c5:b=116
 ·rw[zb c5] at c;have g:=hid c;have o:=f.out (by omega);have k:(b:Int)=116:=by omega
  clear c c1 c5;go_enter func225,ntmps225
  go_wp2_with (go_at_call 140;refine d.mono ?_;rintro e w1 ⟨rfl,n,rfl⟩)
  go_ret2;refine uC.of ?_ g.out;exact⟨⟨9,rfl,ah _ (by omega),by omega,by omega,by omega⟩,zW (yH w _ n) (yS _ _ _ _),i.out n,by omega⟩
 rw[za c5] at c;have O:((b:Int)==116)=false:=by rw[qI];omega
 by_cases c6:b=117
 ·rw[zb c6] at c;have g:=hid c;have o:=f.out (by omega);have k:(b:Int)=117:=by omega
  have j:=λn=>Fb s R (p+1) ((w.drewN n).setCell ⟨R,1,none⟩ (.int .i64 ((p:Int)+1))) (i.out n) (by omega) D;have t:=λn=>zW (yH w (some R) n) (yS (w.drewN n) R 1 (.int .i64 ((p:Int)+1)));have r:=hid t;clear c c1 c4 c5 c6 t
  cases hf:Rd.uO s.data.toList (p+1) with
  | ok u q=>
   rw[hf] at g;simp only[hf] at j;clear hf;go_enter func225,ntmps225
   go_wp2_with (first
    | (go_at_call 140;refine d.mono ?_;rintro e w1 ⟨rfl,n,rfl⟩)
    | (go_at_call 247;refine (j n).mono ?_;rintro e F ⟨⟨N,rfl,z⟩,a⟩))
   go_ret2;refine uC.of ?_ g.out;exact⟨⟨N,rfl,z⟩,zW (r.out n) a.1,a.2⟩
  | err x q=>
   rw[hf] at g;simp only[hf] at j;clear hf;go_enter func225,ntmps225
   go_wp2_with (first
    | (go_at_call 140;refine d.mono ?_;rintro e w1 ⟨rfl,n,rfl⟩)
    | (go_at_call 247;refine (j n).mono ?_;rintro e F ⟨⟨N,rfl,z⟩,a⟩))
   go_ret2;refine uC.of ?_ g.out;exact⟨⟨N,rfl,z⟩,zW (r.out n) a.1,a.2⟩
 ·rw[za c6] at c;have g:=hid c;have P:((b:Int)==117)=false:=by rw[qI];omega
  have E:=λn=>Q9 s R p (w.drewN n) (y.out.drewN n);clear c c1 c4 c5 c6;go_enter func225,ntmps225
  go_wp2_with (first
   | (go_at_call 140;refine d.mono ?_;rintro e w1 ⟨rfl,n,rfl⟩)
   | (go_at_call 93;refine (E n).mono ?_;rintro e Q ⟨rfl,rfl⟩))
  go_ret2;refine uC.of ?_ g.out;exact⟨⟨0,rfl,by omega,by omega⟩,yH w _ n,y.out.drewN n,C⟩
def uS:List Value:=[.int .u8 194,.int .u8 223,.int .i64 1,.int .u8 128,.int .u8 191,.int .u8 224,.int .u8 224,.int .i64 2,.int .u8 160,.int .u8 191,.int .u8 225,.int .u8 236,.int .i64 2,.int .u8 128,.int .u8 191,.int .u8 237,.int .u8 237,.int .i64 2,.int .u8 128,.int .u8 159,.int .u8 238,.int .u8 239,.int .i64 2,.int .u8 128,.int .u8 191,.int .u8 240,.int .u8 240,.int .i64 3,.int .u8 144,.int .u8 191,.int .u8 241,.int .u8 243,.int .i64 3,.int .u8 128,.int .u8 191,.int .u8 244,.int .u8 244,.int .i64 3,.int .u8 128,.int .u8 143]
theorem OZ(W:World):(Instr.index 400 (.agg uS.toArray) (.int .i64 0)).run prog W = .ok (.agg #[.int .u8 194,.int .u8 223,.int .i64 1,.int .u8 128,.int .u8 191]) W:=by kernel_rfl
theorem Pb(W:World):(Instr.index 400 (.agg uS.toArray) (.int .i64 1)).run prog W = .ok (.agg #[.int .u8 224,.int .u8 224,.int .i64 2,.int .u8 160,.int .u8 191]) W:=by kernel_rfl
theorem Pd(W:World):(Instr.index 400 (.agg uS.toArray) (.int .i64 2)).run prog W = .ok (.agg #[.int .u8 225,.int .u8 236,.int .i64 2,.int .u8 128,.int .u8 191]) W:=by kernel_rfl
theorem Pe(W:World):(Instr.index 400 (.agg uS.toArray) (.int .i64 3)).run prog W = .ok (.agg #[.int .u8 237,.int .u8 237,.int .i64 2,.int .u8 128,.int .u8 159]) W:=by kernel_rfl
theorem Pf(W:World):(Instr.index 400 (.agg uS.toArray) (.int .i64 4)).run prog W = .ok (.agg #[.int .u8 238,.int .u8 239,.int .i64 2,.int .u8 128,.int .u8 191]) W:=by kernel_rfl
theorem Ph(W:World):(Instr.index 400 (.agg uS.toArray) (.int .i64 5)).run prog W = .ok (.agg #[.int .u8 240,.int .u8 240,.int .i64 3,.int .u8 144,.int .u8 191]) W:=by kernel_rfl
theorem Pi(W:World):(Instr.index 400 (.agg uS.toArray) (.int .i64 6)).run prog W = .ok (.agg #[.int .u8 241,.int .u8 243,.int .i64 3,.int .u8 128,.int .u8 191]) W:=by kernel_rfl
theorem Pj(W:World):(Instr.index 400 (.agg uS.toArray) (.int .i64 7)).run prog W = .ok (.agg #[.int .u8 244,.int .u8 244,.int .i64 3,.int .u8 128,.int .u8 143]) W:=by kernel_rfl
theorem zu.same{w w':World}{R:Nat}{s:BY}{p:Nat}(h:zu w R s p)(a:w'.heap[R]?=w.heap[R]?):zu w' R s p:=by
 obtain⟨b,c,d⟩:=h;refine⟨?_,?_,?_⟩
 ·rw[<- b];simp only[World.cell?,a]
 ·rw[<- c];simp only[World.cell?,a]
 ·rw[<- d];simp only[World.frozen?,a]
theorem zu.alloc{w:World}{R:Nat}{s:BY}{p:Nat}(h:zu w R s p)(O:Obj):zu (w.alloc O) R s p:=h.same ((xU w O none).block R h.lt (by simp))
theorem OY(W:World)(k:Nat)(a:k<8):(Instr.index 400 (.agg uS.toArray) (.int .i64 (k:Int))).run prog W = .ok (.agg #[.int .u8 (Rd.uu k:Int),.int .u8 (Rd.uT k:Int),.int .i64 (Rd.ZY k:Int),.int .u8 (Rd.QY k:Int),.int .u8 (Rd.Xy k:Int)]) W:=by
 rcases Rd.lt8 a with rfl|rfl|rfl|rfl|rfl|rfl|rfl|rfl
 ·exact OZ W
 ·exact Pb W
 ·exact Pd W
 ·exact Pe W
 ·exact Pf W
 ·exact Ph W
 ·exact Pi W
 ·exact Pj W
theorem Pm:(prog.info? 400).map (·.size)=some uS.toArray.size:=by kernel_rfl
def qx(w:World):Prop:=∃t fr,w.heap[(5:Nat)]?=some (.cells uS.toArray t fr)
theorem qx.same{w w':World}(h:qx w)(a:w'.heap[(5:Nat)]?=w.heap[(5:Nat)]?):qx w':=by
 obtain⟨t,fr,h⟩:=h;exact⟨t,fr,a.trans h⟩
theorem qx.lt{w:World}(h:qx w):5<w.heap.size:=by
 obtain⟨t,fr,h⟩:=h;exact (XG.1 h).1
theorem qx.grown{w w':World}{R:Nat}(h:qx w)(a:w.grownBy w' (some R))(b:R≠5):qx w':=h.same (a.block _ h.lt (by simp;omega))
def QG(w:World)(R:Nat)(s:BY)(p:Nat)(r:Rd.Res BY)(e:Ending)(w':World):Prop:=match r with
 | .ok u q=>e = .returned .nilIface/\u=Rd.piece s.data.toList p q/\w.grownBy w' (some R)/\zu w' R s q/\q<=s.size/\p<=q
 | .err _ q=>e = .returned (.iface 145 (.agg #[.int .i64 (q:Int)]))/\w.grownBy w' (some R)/\zu w' R s q/\q<=s.size/\p<=q
theorem QG.of{w w':World}{R:Nat}{s:BY}{p:Nat}{r a:Rd.Res BY}{e:Ending}(h:QG w R s p r e w')(b:a=r):QG w R s p a e w':=b ▸ h
theorem Y6(s:BY)(R p:Nat)(w:World)(b:zu w R s p)(c:p<=s.size) :
  Calls prog 140 #[.pointer (some ⟨R,0,none⟩)] w λe w'=>e = .returned (.int .u8 ((Rd.zk s.data.toList p:Nat):Int))/\zu w' R s p/\w.grownBy w' (some R)/\(∀i:Nat,w'.heap[i]?=w.heap[i]?)/\w'.heap.size=w.heap.size:=by
 refine (Y5 s R p w b c).mono ?_;rintro e w' ⟨rfl,n,rfl⟩
 have a:∀n,(w.drewN n).heap=w.heap:=λn=>by
  induction n with
  | zero=>rfl
  | succ n d=>exact d
 exact⟨rfl,b.drewN n,yH w _ n,λi=>by rw[a],by rw[a]⟩
theorem Pp(s:BY)(R p:Nat)(w:World)(hr:zu w R s p)(hp:p<=s.size)(hs:s.size<=4000)(hq:qx w) :
  Calls prog 227 #[.pointer (some ⟨R,0,none⟩)] w λe w'=>QG w R s p (Rd.j6 s.data.toList p) e w':=by
 obtain⟨tt,fr,hh⟩:=hq;have c:=OY;have I:=Pm;obtain⟨A,hA⟩:=Nm uS.toArray;rw[hA] at hh I;simp only[hA] at c;clear hA;have G:=Y6 s R p w hr hp;obtain⟨b,hb⟩:=Nm (Rd.zk s.data.toList p);rw[hb] at G;have e1:b<256:=by rw[<- hb];exact Rd.ZW _ _
 have u:Calls prog 140 #[.pointer (some ⟨R,0,none⟩)] w λe w'=>e = .returned (.int .u8 (b:Int))/\zu w' R s p/\w.grownBy w' (some R)/\w'.heap[(5:Nat)]?=some (.cells A tt fr):=by
  refine G.mono ?_;rintro e w' ⟨rfl,h1,f,m,_⟩;exact⟨rfl,h1,f,(m _).trans hh⟩
 have HB:=hid hb;clear G hb hr hh
 have t:128<=b->p<s.size:=λh=>by
  have:=Rd.qj s.data.toList p (by rw[HB.out];omega)
  rwa [Ref.zA] at this
 have c7:=hid t;clear t;go_enter func227,ntmps227
 go_wp2_with (first
  | (go_at_call 140;refine u.mono ?_;rintro e w1 ⟨rfl,a7,a1,a4⟩)
  | (refine wpList_load_row rfl 400 _ rfl 5 rfl tt A fr _ a4 underlying400 rfl I ?_))
 have T:=hid a7;have M:=hid a1;clear a7 a1 a4 u I
 go_loopw [11] (λJ wr=>∃k:Nat,k<=8/\J = .int .i64 k/\zu wr R s p/\w.grownBy wr (some R)/\(∀i,i<k->b<Rd.uu i\/Rd.uT i<b)) (λJ _=>8-(intOf J).toNat)
 case atStart=>exact⟨0,by omega,rfl,T.out,M.out,λi hi=>by omega⟩
 case round=>
  obtain⟨k,hk,rfl,b0,hg,a6⟩:=hrel;have Q:=hid a6;have l:=hid b0;have HG:=hid hg;clear a6 b0 hg T M
  by_cases hlt:k<8
  ·have a9:=λW=>c W k hlt;have Z:=Rd.UM k hlt;have d5:=λ(h1:Rd.uu k<=b) (f:b<=Rd.uT k)=>uA h1 f;have d:=Rd.Pk s.data.toList p k hlt;have r:=λj=>Rd.Pn s.data.toList p k j hlt;have n:=Rd.OU s.data.toList p k hlt;rw[HB.out] at d n;simp only[HB.out] at r
   have E:b<Rd.uu k\/Rd.uT k<b->∀i,i<k+1->b<Rd.uu i\/Rd.uT i<b:=λh i hi=>by
    by_cases e:i=k
    ·subst e;exact h
    ·exact Q.out i (by omega)
   obtain⟨F,hF⟩:=Nm (Rd.uu k);obtain⟨L,hL⟩:=Nm (Rd.uT k);obtain⟨N,hN⟩:=Nm (Rd.ZY k);obtain⟨lo,D⟩:∃N,Rd.QY k=N:=⟨_,rfl⟩;obtain⟨hi,C⟩:∃N,Rd.Xy k=N:=⟨_,rfl⟩;rw[hF,hL,hN,D,C] at Z;rw[hF,hL] at E;simp only[hF,hL,hN,D,C] at a9 d r n;clear d5 hF hL hN D C;have S:=hid E;have X:=hid d;have c9:=hid r;have c6:=hid n;clear E d r n c;obtain⟨b1,b2,b3,b4,b5,b6,b7,b8⟩:=Z
   by_cases c1:b<F
   ·have d1:decide ((b:Int)<(F:Int))=true:=zC (by omega)
    go_wp2
    go_roundw
    case rel=>exact⟨k+1,by omega,by go_num,l.out.alloc _,zW HG.out (xU _ _ _),S.out (.inl c1)⟩
    case measure=>simp[intOf];omega
   have d1:decide ((b:Int)<(F:Int))=false:=zO (by omega)
   by_cases c2:L<b
   ·have d2:decide ((L:Int)<(b:Int))=true:=zC (by omega)
    go_wp2
    go_roundw
    case rel=>exact⟨k+1,by omega,by go_num,l.out.alloc _,zW HG.out (xU _ _ _),S.out (.inr c2)⟩
    case measure=>simp[intOf];omega
   have d2:decide ((L:Int)<(b:Int))=false:=zO (by omega);have g4:p<s.size:=c7.out (by omega)
   have a5:zu (wr.setCell ⟨R,1,none⟩ (.int .i64 ((p:Int)+1))) R s (p+1):=by
    have:=l.out.move (p+1)
    rw[show ((p:Int)+1)=((p+1:Nat):Int) by omega];exact this
   have e0:=l.out.lt
   have a2:w.grownBy ((wr.setCell ⟨R,1,none⟩ (.int .i64 ((p:Int)+1))).alloc (.cells #[.int .u8 (F:Int),.int .u8 (L:Int),.int .i64 (N:Int),.int .u8 (lo:Int),.int .u8 (hi:Int)] 399)) (some R):=
    zW HG.out (zW (yS _ _ _ _) (xU _ _ _))
   have a0:((wr.setCell ⟨R,1,none⟩ (.int .i64 ((p:Int)+1))).alloc (.cells #[.int .u8 (F:Int),.int .u8 (L:Int),.int .i64 (N:Int),.int .u8 (lo:Int),.int .u8 (hi:Int)] 399)).cell? ⟨wr.heap.size,2,none⟩=some (.int .i64 (N:Int)):=by
    have e:(wr.setCell ⟨R,1,none⟩ (.int .i64 ((p:Int)+1))).heap.size=wr.heap.size:=by simp[World.setCell]
    have:=zQ (wr.setCell ⟨R,1,none⟩ (.int .i64 ((p:Int)+1))) (.cells #[.int .u8 (F:Int),.int .u8 (L:Int),.int .i64 (N:Int),.int .u8 (lo:Int),.int .u8 (hi:Int)] 399)
    rw[e] at this;simp only[World.cell?,this]
    rfl
   have hw:=tT s R (p+1) lo hi _ (a5.alloc (.cells #[.int .u8 (F:Int),.int .u8 (L:Int),.int .i64 (N:Int),.int .u8 (lo:Int),.int .u8 (hi:Int)] 399)) (by omega) hs b6 b7;have g1:=λO=>(l.out.alloc O).1;have g2:=λO=>(l.out.alloc O).2.1;have g3:=λO=>(l.out.alloc O).2.2;have x:=hid a2;have K:=hid a0;clear a2 a0 a5
   cases hwt:Rd.within s.data.toList lo hi (p+1) with
   | false=>
    have v:=hid (X.out (by omega) (by omega) hwt)
    have a:=hw.mono (R':=λe w'=>e = .returned (.iface 145 (.agg #[.int .i64 ((p+1:Nat):Int)]))/\w.grownBy w' (some R)/\zu w' R s (p+1)) (by
     rintro e w' ⟨_,h⟩;obtain⟨rfl,f,m⟩:=h hwt;exact⟨rfl,zW x.out f,m⟩)
    clear hw hwt
    go_wp2_with (go_at_call 249;refine a.mono ?_;rintro e w4 ⟨rfl,o,q⟩)
    go_ret;refine QG.of ?_ v.out;exact⟨rfl,o,q,by omega,by omega⟩
   | true=>
    have Y:=hid hwt
    have a:=hw.mono (R':=λe w'=>e = .returned .nilIface/\w.grownBy w' (some R)/\zu w' R s (p+2)/\w'.cell? ⟨wr.heap.size,2,none⟩=some (.int .i64 (N:Int))/\p+1<s.size) (by
     rintro e w' ⟨h,_⟩;obtain⟨rfl,f,m,h4⟩:=h hwt;exact⟨rfl,zW x.out f,m,f.cell K.out (by simp;omega),h4⟩)
    clear hw hwt;have f0:1<=(N:Int):=by omega
    have f1:(N:Int)<=3:=by omega
    go_wp2_with (go_at_call 249;refine a.mono ?_;rintro e w4 ⟨rfl,o,q,f7,f9⟩)
    have P:=hid o;have U:=hid q;clear o q a g1 g2 g3 x K
    go_loopw [43] (λJ wi=>∃j:Nat,j+1<=N/\J = .int .i64 j/\zu wi R s (p+2+j)/\w.grownBy wi (some R)/\Rd.UW s.data.toList p j/\p+2+j<=s.size) (λJ _=>N-(intOf J).toNat)
    case atStart=>exact⟨0,by omega,rfl,U.out,P.out,λi hi=>by omega,by omega⟩
    case round=>
     obtain⟨j,f8,rfl,a8,a3,b9,d9⟩:=hrel;have V:=hid a8;have y:=hid a3;have z:=hid b9;clear a8 a3 b9 P U;have g:=tT s R (p+2+j) 128 191 wr V.out d9 hs (by omega) (by omega)
     by_cases hjl:j+1<N
     ·have d8:(j:Int)<(N:Int)-1:=by omega
      cases hwt:Rd.within s.data.toList 128 191 (p+2+j) with
      | false=>
       have v:=hid (c9.out j (by omega) (by omega) Y.out z.out hjl hwt)
       have a:=g.mono (R':=λe w'=>e = .returned (.iface 145 (.agg #[.int .i64 ((p+2+j:Nat):Int)]))/\w.grownBy w' (some R)/\zu w' R s (p+2+j)) (by
        rintro e w' ⟨_,h⟩;obtain⟨rfl,f,m⟩:=h hwt;exact⟨rfl,zW y.out f,m⟩)
       clear g hwt
       go_wp2_with (go_at_call 249;refine a.mono ?_;rintro e w5 ⟨rfl,B,H⟩)
       go_ret;refine QG.of ?_ v.out;exact⟨rfl,B,H,by omega,by omega⟩
      | true=>
       have c8:=hid (show Rd.UW s.data.toList p (j+1) from λi hi=>by
        by_cases e:i=j
        ·subst e;exact hwt
        ·exact z.out i (by omega))
       have a:=g.mono (R':=λe w'=>e = .returned .nilIface/\w.grownBy w' (some R)/\zu w' R s (p+2+(j+1))/\p+2+j<s.size) (by
        rintro e w' ⟨h,_⟩;obtain⟨rfl,f,m,h4⟩:=h hwt;exact⟨rfl,zW y.out f,m,h4⟩)
       clear g hwt
       go_wp2_with (go_at_call 249;refine a.mono ?_;rintro e w5 ⟨rfl,B,H,g0⟩)
       go_roundw
       case rel=>exact⟨j+1,by omega,by go_num,H,B,c8.out,by omega⟩
       case measure=>simp[intOf];omega
     ·have d8:¬(j:Int)<(N:Int)-1:=by omega
      obtain rfl:N=j+1:=by omega
      have v:=hid (c6.out (by omega) (by omega) Y.out z.out);clear g
      go_wp2
      go_ret;refine QG.of ?_ v.out;exact⟨rfl,rfl,y.out,by have:=V.out;rwa [show p+1+(j+1)=p+2+j by omega],by omega,by omega⟩
  ·have v:=hid (Rd.OV s.data.toList p (by rw[HB.out];exact Rd.IR b (λi hi=>Q.out i (by omega))));have sf:=Q9 s R p wr l.out
   go_wp2_with (go_at_call 93;refine sf.mono ?_;rintro e w2 ⟨rfl,rfl⟩)
   go_ret;refine QG.of ?_ v.out;exact⟨rfl,HG.out,l.out,hp,ze _⟩
end Go.Proofs.YtagnlbgbnfnapaaGreatDoor
