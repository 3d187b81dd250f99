/- P -/
import Derived.Test.YtagnlbgbnfnapaaGreatDoorZ04
open Go.Proofs.Tryz
set_option maxRecDepth 100000
set_option maxHeartbeats 2000000
namespace Go.Proofs.YtagnlbgbnfnapaaGreatDoor
open Go.RowKit
def zz(w:World)(R:Nat)(s:BA)(p:Nat):Prop:=w.cell? ⟨R,0,none⟩=some (.string s)/\w.cell? ⟨R,1,none⟩=some (.int .i64 (p:Int))/\w.frozen? ⟨R,1,none⟩=false
theorem zz.drewN{w:World}{R:Nat}{s:BA}{p:Nat}(h:zz w R s p)(n:Nat):zz (w.drewN n) R s p:=by
 induction n with
 | zero=>exact h
 | succ n a=>exact a
theorem zz.lt{w:World}{R:Nat}{s:BA}{p:Nat}(h:zz w R s p):R<w.heap.size:=kX _ _ h.1
theorem zz.move{w:World}{R:Nat}{s:BA}{p:Nat}(h:zz w R s p)(q:Nat):zz (w.setCell ⟨R,1,none⟩ (.int .i64 (q:Int))) R s q:=by
 obtain⟨b,a,d⟩:=h;refine⟨by rw[EK _ _ _ _ _ _ (by omega)];exact b,?_,by rw[pJ];exact d⟩;unfold World.cell? World.setCell at *;simp only[Ut,qO];simp only at a
 cases hb:w.heap[R]? with
 | none=>rw[hb] at a;simp at a
 | some o=>
  rw[hb] at a
  cases o with
  | cells c t f=>
   simp at a |-;have e:=(YI.1 a).1;simp[e]
  | _=>simp at a
theorem yP(w:World)(r:Option Nat):∀n,w.grownBy (w.drewN n) r
 | 0=>⟨rfl,rfl,rfl,ze _,λ_ _ _=>rfl⟩
 | n+1=>have h:=yP w r n;⟨h.os,h.tape,h.output,h.size,h.block⟩
theorem qc{a b c:World}{r:Option Nat}(h:a.grownBy b r)(k:b.grownBy c r):a.grownBy c r:=
 ⟨k.os.trans h.os,k.tape.trans h.tape,k.output.trans h.output,jy h.size k.size,λi hi d=>(k.block i (xx hi h.size) d).trans (h.block i hi d)⟩
theorem y9(a:World)(b o:Nat)(u:Value):a.grownBy (a.setCell ⟨b,o,none⟩ u) (some b):=
 ⟨rfl,rfl,rfl,by simp[World.setCell],λi _ c=>X7 a ⟨b,o,none⟩ u i (λe=>c (by simp[e]))⟩
theorem Vh(s:BA)(R p:Nat)(w:World)(a:zz w R s p)(h:p<=s.size) :
  Calls prog 140 #[.pointer (some ⟨R,0,none⟩)] w λe b=>e = .returned (.int .u8 ((Rd.zk s.data.toList p:Nat):Int))/\∃n,b=w.drewN n:=by
 obtain⟨c,f,g⟩:=a
 by_cases hlt:p<s.size
 ·have e:Rd.zk s.data.toList p=s[p].toNat:=by
   rw[Rd.gM _ _ (by rw[Ref.zP];exact hlt)];rfl
  rw[e];have d:((p:Int)==(s.size:Int))=false:=by rw[xh];omega
  have hi:(p:Int)<(s.size:Int):=by omega
  go_enter func140,ntmps140;go_wp2_with fail
  go_quiet (fail)
  go_wp2_with fail
  go_quiet (fail)
  go_wp2
  go_ret;exact⟨rfl,_,by first|rfl|rw[World.drewN_drewN]⟩
 ·have e:Rd.zk s.data.toList p=0:=Rd.Kz _ _ (by rw[Ref.zP];exact hlt);rw[e];have d:((p:Int)==(s.size:Int))=true:=by rw[Zz];omega
  go_enter func140,ntmps140;go_wp2_with fail
  go_quiet (fail)
  go_wp2
  go_ret;exact⟨rfl,_,rfl⟩
theorem X5(s:BA)(R p:Nat)(w:World)(a:zz w R s p) :
  Calls prog 93 #[.pointer (some ⟨R,0,none⟩)] w λe b=>e = .returned (.iface 145 (.agg #[.int .i64 (p:Int)]))/\b=w:=by
 obtain⟨c,d,f⟩:=a;go_enter func93,ntmps93
 go_wp2
 go_ret;exact⟨rfl,rfl⟩
def VK(w:World)(R:Nat):Nat:=match w.cell? ⟨R,1,none⟩ with
 | some (.int _ n)=>n.toNat
 | _=>0
theorem zz.at{w:World}{R:Nat}{s:BA}{p:Nat}(h:zz w R s p):VK w R=p:=by
 unfold VK;rw[h.2.1];simp
theorem Jg(s:BA)(R p:Nat)(w:World)(m:zz w R s p)(y:p<=s.size)(E:s.size<=4000) :
  Calls prog 91 #[.pointer (some ⟨R,0,none⟩)] w λe r=>e = .returned (.tuple #[])/\w.grownBy r (some R)/\zz r R s (Rd.skip s.data.toList p):=by
 go_enter func91,ntmps91
 go_wp2
 go_loopw [2] (λ_ wr=>∃q:Nat,q<=s.size/\zz wr R s q/\w.grownBy wr (some R)/\Rd.skip s.data.toList q=Rd.skip s.data.toList p) (λ_ wr=>s.size-VK wr R)
 case atStart=>exact⟨p,y,m,yP w _ 0,rfl⟩
 case round=>
  obtain⟨q,z,c,l,i⟩:=hrel;have d:=hid i;have k:=hid c.at;clear i;have f:=Vh s R q wr c z;have a:=Rd.QM s.data.toList q;obtain⟨b,hb⟩:=Nm (Rd.zk s.data.toList q);rw[hb] at f a;have o:b<256:=by rw[<- hb];exact Rd.QI _ _
  cases hbl:Rd.blank b with
  | true=>
   rw[hbl,zb rfl] at a;have j:=hid a
   have x:q<s.size:=by
    have:=Rd.JJ s.data.toList q (by rw[hb];exact hbl)
    rwa [Ref.zP] at this
   have h:(b:Int)=32\/(b:Int)=9\/(b:Int)=10\/(b:Int)=13:=by
    unfold Rd.blank at hbl;simp at hbl;omega
   clear hbl a hb;have g:=hid c;have t:=hid l;obtain⟨B,C,D⟩:=c;clear m l
   rcases h with h|h|h|h
   all_goals
    go_wp2_with (go_at_call 140;refine f.mono ?_;rintro e A ⟨rfl,n,rfl⟩)
    go_roundw
    case rel=>exact⟨q+1,by omega,by have:=(g.out.drewN n).move (q+1);simpa using this,qc t.out (qc (yP wr _ n) (y9 _ _ _ _)),by rw[<- j.out];exact d.out⟩
    case measure=>
     have u:=((g.out.drewN n).move (q+1)).at;rw[k.out,show ((q:Int)+1)=((q+1:Nat):Int) by omega,u];omega
  | false=>
   rw[hbl,za (by decide)] at a;rw[a] at d;have F:((b:Int)==32)=false:=by rw[xh];intro e;simp[Rd.blank] at hbl;omega
   have G:((b:Int)==9)=false:=by rw[xh];intro e;simp[Rd.blank] at hbl;omega
   have H:((b:Int)==10)=false:=by rw[xh];intro e;simp[Rd.blank] at hbl;omega
   have I:((b:Int)==13)=false:=by rw[xh];intro e;simp[Rd.blank] at hbl;omega
   clear hbl a hb m
   go_wp2_with (go_at_call 140;refine f.mono ?_;rintro e A ⟨rfl,n,rfl⟩)
   exact qa (v := .tuple #[]) (by simp[results,results91,go_sem]) rfl ⟨rfl,qc l (yP wr _ n),by rw[<- d.out];exact c.drewN n⟩
theorem Ma(b:Nat)(w:World)(hb:b<256) :
  Calls prog 259 #[.int .u8 (b:Int)] w λe m=>e = .returned (.tuple #[.int .i32 (if Ref.zX b<0 then 0 else Ref.zX b),.bool (decide (0<=Ref.zX b))])/\m=w:=by
 have c:(0<=b/\b<=47)\/(48<=b/\b<=57)\/(58<=b/\b<=64)\/(65<=b/\b<=70)\/(71<=b/\b<=96)\/(97<=b/\b<=102)\/(103<=b/\b<=255):=by omega
 rcases c with c|c|c|c|c|c|c
 ·have a:Ref.zX (b:Int) = -1:=by unfold Ref.zX;rw[za (by omega),za (by omega),za (by omega)]
  rw[a];have g:decide ((48:Int)<=(b:Int))=false:=zH (by omega);have h:decide ((b:Int)<=57)=true:=zF (by omega);have i:decide ((97:Int)<=(b:Int))=false:=zH (by omega);have j:decide ((b:Int)<=102)=true:=zF (by omega);have k:decide ((65:Int)<=(b:Int))=false:=zH (by omega);have l:decide ((b:Int)<=70)=true:=zF (by omega);have d:(0:Int)<=(b:Int):=by omega
  have f:(b:Int)<=47:=by omega
  clear a c;go_enter func259,ntmps259
  go_wp2
  go_ret2;exact⟨by first|rfl|(congr),rfl⟩
 ·have a:Ref.zX (b:Int)=(b:Int)-48:=by unfold Ref.zX;rw[zb (by omega)]
  rw[a];have g:decide ((48:Int)<=(b:Int))=true:=zF (by omega);have h:decide ((b:Int)<=57)=true:=zF (by omega);have i:decide ((97:Int)<=(b:Int))=false:=zH (by omega);have j:decide ((b:Int)<=102)=true:=zF (by omega);have k:decide ((65:Int)<=(b:Int))=false:=zH (by omega);have l:decide ((b:Int)<=70)=true:=zF (by omega);have d:(48:Int)<=(b:Int):=by omega
  have f:(b:Int)<=57:=by omega
  rw[za (show ¬((b:Int)-48<0) by omega),zF (show 0<=(b:Int)-48 by omega)];clear a c;go_enter func259,ntmps259
  go_wp2
  go_ret2;exact⟨by first|rfl|(congr),rfl⟩
 ·have a:Ref.zX (b:Int) = -1:=by unfold Ref.zX;rw[za (by omega),za (by omega),za (by omega)]
  rw[a];have g:decide ((48:Int)<=(b:Int))=true:=zF (by omega);have h:decide ((b:Int)<=57)=false:=zH (by omega);have i:decide ((97:Int)<=(b:Int))=false:=zH (by omega);have j:decide ((b:Int)<=102)=true:=zF (by omega);have k:decide ((65:Int)<=(b:Int))=false:=zH (by omega);have l:decide ((b:Int)<=70)=true:=zF (by omega);have d:(58:Int)<=(b:Int):=by omega
  have f:(b:Int)<=64:=by omega
  clear a c;go_enter func259,ntmps259
  go_wp2
  go_ret2;exact⟨by first|rfl|(congr),rfl⟩
 ·have a:Ref.zX (b:Int)=(b:Int)-65+10:=by unfold Ref.zX;rw[za (by omega),za (by omega),zb (by omega)]
  rw[a];have g:decide ((48:Int)<=(b:Int))=true:=zF (by omega);have h:decide ((b:Int)<=57)=false:=zH (by omega);have i:decide ((97:Int)<=(b:Int))=false:=zH (by omega);have j:decide ((b:Int)<=102)=true:=zF (by omega);have k:decide ((65:Int)<=(b:Int))=true:=zF (by omega);have l:decide ((b:Int)<=70)=true:=zF (by omega);have d:(65:Int)<=(b:Int):=by omega
  have f:(b:Int)<=70:=by omega
  rw[za (show ¬((b:Int)-65+10<0) by omega),zF (show 0<=(b:Int)-65+10 by omega)];clear a c;go_enter func259,ntmps259
  go_wp2
  go_ret2;exact⟨by first|rfl|(congr),rfl⟩
 ·have a:Ref.zX (b:Int) = -1:=by unfold Ref.zX;rw[za (by omega),za (by omega),za (by omega)]
  rw[a];have g:decide ((48:Int)<=(b:Int))=true:=zF (by omega);have h:decide ((b:Int)<=57)=false:=zH (by omega);have i:decide ((97:Int)<=(b:Int))=false:=zH (by omega);have j:decide ((b:Int)<=102)=true:=zF (by omega);have k:decide ((65:Int)<=(b:Int))=true:=zF (by omega);have l:decide ((b:Int)<=70)=false:=zH (by omega);have d:(71:Int)<=(b:Int):=by omega
  have f:(b:Int)<=96:=by omega
  clear a c;go_enter func259,ntmps259
  go_wp2
  go_ret2;exact⟨by first|rfl|(congr),rfl⟩
 ·have a:Ref.zX (b:Int)=(b:Int)-97+10:=by unfold Ref.zX;rw[za (by omega),zb (by omega)]
  rw[a];have g:decide ((48:Int)<=(b:Int))=true:=zF (by omega);have h:decide ((b:Int)<=57)=false:=zH (by omega);have i:decide ((97:Int)<=(b:Int))=true:=zF (by omega);have j:decide ((b:Int)<=102)=true:=zF (by omega);have k:decide ((65:Int)<=(b:Int))=true:=zF (by omega);have l:decide ((b:Int)<=70)=false:=zH (by omega);have d:(97:Int)<=(b:Int):=by omega
  have f:(b:Int)<=102:=by omega
  rw[za (show ¬((b:Int)-97+10<0) by omega),zF (show 0<=(b:Int)-97+10 by omega)];clear a c;go_enter func259,ntmps259
  go_wp2
  go_ret2;exact⟨by first|rfl|(congr),rfl⟩
 ·have a:Ref.zX (b:Int) = -1:=by unfold Ref.zX;rw[za (by omega),za (by omega),za (by omega)]
  rw[a];have g:decide ((48:Int)<=(b:Int))=true:=zF (by omega);have h:decide ((b:Int)<=57)=false:=zH (by omega);have i:decide ((97:Int)<=(b:Int))=true:=zF (by omega);have j:decide ((b:Int)<=102)=false:=zH (by omega);have k:decide ((65:Int)<=(b:Int))=true:=zF (by omega);have l:decide ((b:Int)<=70)=false:=zH (by omega);have d:(103:Int)<=(b:Int):=by omega
  have f:(b:Int)<=255:=by omega
  clear a c;go_enter func259,ntmps259
  go_wp2
  go_ret2;exact⟨by first|rfl|(congr),rfl⟩
theorem Cq(s:BA)(R p lo hi:Nat)(w:World)(j:zz w R s p)(u:p<=s.size)(B:s.size<=4000)(x:0<lo)(t:lo<256) :
  Calls prog 249 #[.pointer (some ⟨R,0,none⟩),.int .u8 (lo:Int),.int .u8 (hi:Int)] w λe g=>
   (Rd.within s.data.toList lo hi p=true->e = .returned .nilIface/\w.grownBy g (some R)/\zz g R s (p+1)/\p<s.size) /\
   (Rd.within s.data.toList lo hi p=false->e = .returned (.iface 145 (.agg #[.int .i64 (p:Int)]))/\w.grownBy g (some R)/\zz g R s p):=by
 have a:=Vh s R p w j u;obtain⟨b,hb⟩:=Nm (Rd.zk s.data.toList p);have k:b<256:=by rw[<- hb];exact Rd.QI _ _
 have d:Rd.within s.data.toList lo hi p=decide (lo<=b/\b<=hi):=by unfold Rd.within;rw[hb]
 rw[hb] at a
 have c:0<b->p<s.size:=λh=>by
  have:=Rd.qC s.data.toList p (by rw[hb];omega)
  rwa [Ref.zP] at this
 have i:=hid d;have f:=hid j;have o:=hid c;obtain⟨y,z,A⟩:=j;clear hb d c;have l:=λn=>X5 s R p (w.drewN n) (f.out.drewN n)
 by_cases c1:b<lo
 ·have q:decide ((b:Int)<(lo:Int))=true:=zF (by omega);go_enter func249,ntmps249
  go_wp2_with (first
   | (go_at_call 140;refine a.mono ?_;rintro e m ⟨rfl,n,rfl⟩)
   | (go_at_call 93;refine (l n).mono ?_;rintro e v ⟨rfl,rfl⟩))
  go_ret;refine⟨λh=>?_,λ_=>⟨rfl,yP w _ n,f.out.drewN n⟩⟩;rw[i.out] at h;simp at h;omega
 have q:decide ((b:Int)<(lo:Int))=false:=zH (by omega)
 by_cases c2:hi<b
 ·have r:decide ((hi:Int)<(b:Int))=true:=zF (by omega);go_enter func249,ntmps249
  go_wp2_with (first
   | (go_at_call 140;refine a.mono ?_;rintro e m ⟨rfl,n,rfl⟩)
   | (go_at_call 93;refine (l n).mono ?_;rintro e v ⟨rfl,rfl⟩))
  go_ret;refine⟨λh=>?_,λ_=>⟨rfl,yP w _ n,f.out.drewN n⟩⟩;rw[i.out] at h;simp at h;omega
 ·have r:decide ((hi:Int)<(b:Int))=false:=zH (by omega);go_enter func249,ntmps249
  go_wp2_with (go_at_call 140;refine a.mono ?_;rintro e m ⟨rfl,n,rfl⟩)
  go_ret;refine⟨λ_=>⟨rfl,qc (yP w _ n) (y9 _ _ _ _),?_,o.out (by omega)⟩,λh=>?_⟩
  ·have:=(f.out.drewN n).move (p+1)
   simpa using this
  ·rw[i.out] at h;simp at h;omega
def YU(w:World)(R:Nat)(s:BA)(r:Rd.Res Unit)(e:Ending)(a:World):Prop:=match r with
 | .ok _ q=>e = .returned .nilIface/\w.grownBy a (some R)/\zz a R s q/\q<=s.size
 | .err _ q=>e = .returned (.iface 145 (.agg #[.int .i64 (q:Int)]))/\w.grownBy a (some R)/\zz a R s q/\q<=s.size
theorem YU.of{w b:World}{R:Nat}{s:BA}{r a:Rd.Res Unit}{e:Ending}(h:YU w R s r e b)(c:a=r):YU w R s a e b:=c ▸ h
theorem zax(s t:BA)(R p:Nat)(w:World)(A:zz w R s p)(N:p<=s.size)(O:s.size<=4000)(P:t.size<=100)(C:∀k,k<t.size->(t.data.toList.getD k 0).toNat≠0) :
  Calls prog 144 #[.pointer (some ⟨R,0,none⟩),.string t] w λe I=>YU w R s (Rd.qj s.data.toList (t.data.toList.map UInt8.toNat) p) e I:=by
 have j:=hid A;clear A;go_enter func144,ntmps144
 go_wp2
 go_loopw [8] (λu wr=>∃k:Nat,k<=t.size/\u = .int .i64 k/\p+k<=s.size/\zz wr R s (p+k)/\w.grownBy wr (some R)/\Rd.qj s.data.toList (t.data.toList.map UInt8.toNat) p=Rd.qj s.data.toList ((t.data.toList.map UInt8.toNat).drop k) (p+k)) (λu _=>t.size-(intOf u).toNat)
 case atStart=>exact⟨0,zU _,rfl,by omega,j.out,yP w _ 0,by simp⟩
 case round=>
  obtain⟨k,M,rfl,g,h,y,B⟩:=hrel;have o:=hid B;have m:=hid y;have i:=hid h;clear B y j
  by_cases hlt:k<t.size
  ·have z:(k:Int)<(t.size:Int):=by omega
   have f:=λn=>Vh s R (p+k) (wr.drewN n) (i.out.drewN n) g;obtain⟨b,hb⟩:=Nm (Rd.zk s.data.toList (p+k));simp only[hb] at f;have v:b<256:=by rw[<- hb];exact Rd.QI _ _
   obtain⟨c,x⟩:=Nm (t[k]);have q:=C k hlt;rw[Ref.getD_at t k hlt,x] at q
   have a:Rd.qj s.data.toList ((t.data.toList.map UInt8.toNat).drop k) (p+k)=if b=c.toNat then Rd.qj s.data.toList ((t.data.toList.map UInt8.toNat).drop (k+1)) (p+k+1) else .err 2 (p+k):=by
    have r:k<(t.data.toList.map UInt8.toNat).length:=by rw[qg,Ref.zP];exact hlt
    rw[ZQ r,Rd.qj,hb]
    have:(t.data.toList.map UInt8.toNat)[k]=c.toNat:=by rw[ak,<- x];rfl
    rw[this]
   have l:=hid a;have D:=hid hb;clear a hb C;obtain⟨J,K,L⟩:=h
   by_cases hbc:b=c.toNat
   ·have d:((b:Int) != (c.toNat:Int))=false:=by simp;omega
    have G:p+k<s.size:=by
     have:=Rd.qC s.data.toList (p+k) (by rw[D.out];omega)
     rwa [Ref.zP] at this
    go_wp2_with fail
    go_quiet ((go_at_call 140;exact Calls.quiet_of (f _)))
    go_wp2
    have F:zz ((wr.drewN nq).setCell ⟨R,1,none⟩ (.int .i64 ((p:Int)+(k:Int)+1))) R s (p+(k+1)):=by
     have:=(i.out.drewN nq).move (p+(k+1))
     rw[show ((p:Int)+(k:Int)+1)=((p+(k+1):Nat):Int) by omega];exact this
    exact⟨⟨k+1,by omega,by go_num,by omega,F,qc m.out (qc (yP wr _ nq) (y9 _ _ _ _)),by rw[o.out,l.out,zb hbc];rfl⟩,by simp[intOf];omega⟩
   ·have d:((b:Int) != (c.toNat:Int))=true:=by simp;omega
    have H:=λn=>X5 s R (p+k) (wr.drewN n) (i.out.drewN n);go_wp2_with fail
    go_quiet ((go_at_call 140;exact Calls.quiet_of (f _)))
    go_wp2_with (go_at_call 93;refine (H nq).mono ?_;rintro e Q ⟨rfl,rfl⟩)
    go_ret;refine YU.of ?_ (o.out.trans (l.out.trans (za hbc)));exact⟨rfl,qc m.out (yP wr _ nq),i.out.drewN nq,g⟩
  ·have e:Rd.qj s.data.toList ((t.data.toList.map UInt8.toNat).drop k) (p+k) = .ok () (p+k):=by
    rw[ag (by rw[qg,Ref.zP];omega),Rd.qj]
   have E:=hid e;clear e h
   go_wp2
   go_ret;refine YU.of ?_ (o.out.trans E.out);exact⟨rfl,m.out,i.out,g⟩
namespace Rd
open Ref
def yI(l:List UInt8)(p:Nat):Nat->Int
 | 0=>0
 | k+1=>yI l p k*16+zX (zk l (p+k))
def okF(l:List UInt8)(p k:Nat):Prop:=(∀j,j<k->0<=zX (zk l (p+j)))/\(2<=k->¬(zX (zk l p)=13/\8<=zX (zk l (p+1))))
theorem OL(l:List UInt8)(p k:Nat)(h:okF l p k):0<=yI l p k/\(k=0->yI l p k=0)/\(k=1->yI l p k=zX (zk l p)/\yI l p k<=15)/\(k=2->yI l p k<=255)/\(k=3->yI l p k<=4095)/\(k=4->yI l p k<=65535/\¬(55296<=yI l p k/\yI l p k<=57343)):=by
 obtain⟨a,d⟩:=h;have e:=Y5 (zk l p);have f:=Y5 (zk l (p+1));have i:=Y5 (zk l (p+2));have n:=Y5 (zk l (p+3))
 match k with
 | 0=>simp[yI]
 | 1=>
  have b:=a 0 (by omega);simp only[yI,ut] at *;omega
 | 2=>
  have b:=a 0 (by omega);have c:=a 1 (by omega);simp only[yI,ut] at *;omega
 | 3=>
  have b:=a 0 (by omega);have c:=a 1 (by omega);have o:=a 2 (by omega);simp only[yI,ut] at *;omega
 | 4=>
  have b:=a 0 (by omega);have c:=a 1 (by omega);have o:=a 2 (by omega);have r:=a 3 (by omega);have s:=d (by omega);simp only[yI,ut] at *;omega
 | k+5=>
  refine⟨?_,by omega,by omega,by omega,by omega,by omega⟩;clear d e f i n;generalize k+5=m at *
  induction m with
  | zero=>simp[yI]
  | succ m q=>
   have g:=a m (by omega)
   have:=q (λj t=>a j (by omega))
   simp only[yI];omega
theorem pI(l:List UInt8)(p k:Nat)(h:okF l p k)(g:k<4)(hb:zX (zk l (p+k))<0\/(k=1/\zX (zk l p)=13/\8<=zX (zk l (p+1)))):uB l p = .err 2 (p+k):=by
 obtain⟨a,c⟩:=h;unfold uB;simp only
 match k with
 | 0=>rw[zb (by simpa using hb)];rfl
 | 1=>
  have b:=a 0 (by omega);simp only[ut] at b;rw[za (by omega),zb (by omega)]
 | 2=>
  have b:=a 0 (by omega);have d:=a 1 (by omega);have e:=c (by omega);simp only[ut] at b;rw[za (by omega),za (by omega),zb (by omega)]
 | 3=>
  have b:=a 0 (by omega);have d:=a 1 (by omega);have f:=a 2 (by omega);have e:=c (by omega);simp only[ut] at b;rw[za (by omega),za (by omega),za (by omega),zb (by omega)]
theorem Lf(l:List UInt8)(p:Nat)(h:okF l p 4):uB l p = .ok (enc (yI l p 4)) (p+4):=by
 obtain⟨a,c⟩:=h;have b:=a 0 (by omega);have d:=a 1 (by omega);have e:=a 2 (by omega);have f:=a 3 (by omega);have g:=c (by omega);simp only[ut] at b;unfold uB;simp only;rw[za (by omega),za (by omega),za (by omega),za (by omega)]
 have:yI l p 4=((zX (zk l p)*16+zX (zk l (p+1)))*16+zX (zk l (p+2)))*16+zX (zk l (p+3)):=by
  simp only[yI,ut];omega
 rw[this]
theorem wK(l:List UInt8)(p k:Nat)(h:okF l p k)(a:0<=zX (zk l (p+k)))(d:k=1->¬(zX (zk l p)=13/\8<=zX (zk l (p+1)))):okF l p (k+1):=by
 obtain⟨b,c⟩:=h;refine⟨λj f=>?_,λh=>?_⟩
 ·by_cases e:j=k
  ·subst e;exact a
  ·exact b j (by omega)
 ·by_cases e:k=1
  ·exact d e
  ·exact c (by omega)
end Rd
def kM(w:World)(R:Nat)(s:BA)(r:Rd.Res BA)(e:Ending)(a:World):Prop:=match r with
 | .ok u q=>(∃N:Int,e = .returned (.tuple #[.int .i32 N,.nilIface])/\u=Ref.enc N/\0<=N/\N<=65535/\¬(55296<=N/\N<=57343))/\w.grownBy a (some R)/\zz a R s q/\q<=s.size
 | .err _ q=>(∃N:Int,e = .returned (.tuple #[.int .i32 N,.iface 145 (.agg #[.int .i64 (q:Int)])])/\0<=N/\N<=65535)/\w.grownBy a (some R)/\zz a R s q/\q<=s.size
theorem kM.of{w b:World}{R:Nat}{s:BA}{r a:Rd.Res BA}{e:Ending}(h:kM w R s r e b)(c:a=r):kM w R s a e b:=c ▸ h
theorem Lb(s:BA)(R p:Nat)(w:World)(Q:zz w R s p)(hp:p<=s.size)(hs:s.size<=4000) :
  Calls prog 247 #[.pointer (some ⟨R,0,none⟩)] w λe w'=>kM w R s (Rd.uB s.data.toList p) e w':=by
 have B:=hid Q;clear Q;go_enter func247,ntmps247
 go_wp2
 go_loopw [4,8] (λnv L wr=>∃k:Nat,k<=4/\L = .int .i64 k/\nv = .int .i32 (Rd.yI s.data.toList p k)/\Rd.okF s.data.toList p k/\p+k<=s.size/\zz wr R s (p+k)/\w.grownBy wr (some R)) (λ_ L _=>4-(intOf L).toNat)
 case atStart=>exact⟨0,by omega,rfl,rfl,⟨λj h=>by omega,λh=>by omega⟩,by omega,B.out,yP w _ 0⟩
 case round=>
  obtain⟨k,hk,rfl,rfl,y,u,m,O⟩:=hrel;have d:=Rd.OL s.data.toList p k y;obtain⟨N,x⟩:=Nm (Rd.yI s.data.toList p k);have i:=hid (show Rd.yI s.data.toList p (k+1)=Rd.yI s.data.toList p k*16+Ref.zX (Rd.zk s.data.toList (p+k)) from rfl)
  rw[x] at d i |-;have r:=hid y;have A:=hid O;have v:=hid m;clear y O B
  by_cases hlt:k<4
  ·have l:=Vh s R (p+k) wr v.out u;obtain⟨b,hb⟩:=Nm (Rd.zk s.data.toList (p+k));rw[hb] at l i;have D:b<256:=by rw[<- hb];exact Rd.QI _ _
   have c:=λW=>Ma b W D;have hle:=Rd.Y5 b;obtain⟨h,o⟩:=Nm (Ref.zX (b:Int));rw[o] at i hle;simp only[o] at c;have G:=λn=>X5 s R (p+k) (wr.drewN n) (v.out.drewN n);have C:0<=N/\N<=4095:=by omega
   obtain⟨Z,a0⟩:=C
   by_cases hneg:h<0
   ·have a:=Rd.pI s.data.toList p k r.out hlt (.inl (by rw[hb,o];exact hneg));rw[zb hneg,zH (by omega)] at c;have q:=hid a;clear a hb o x d m
    go_wp2_with (first
     | (go_at_call 140;refine l.mono ?_;rintro e H ⟨rfl,n,rfl⟩)
     | (go_at_call 259;refine (c _).mono ?_;rintro e I ⟨rfl,rfl⟩)
     | (go_at_call 93;refine (G n).mono ?_;rintro e J ⟨rfl,rfl⟩))
    go_ret2;refine kM.of ?_ q.out;exact⟨⟨0,rfl,by omega,by omega⟩,qc A.out (yP wr _ n),v.out.drewN n,u⟩
   rw[za hneg,zF (by omega)] at c
   have P:p+k<s.size:=by
    have:=Rd.dK s.data.toList (p+k) (by rw[hb,o];omega)
    rwa [Ref.zP] at this
   have E:0<=h:=by omega
   by_cases hk1:k=1
   ·subst hk1;have g:Ref.zX (Rd.zk s.data.toList p)=N:=(d.2.2.1 rfl).1.symm
    by_cases hbd:N=13/\8<=h
    ·have a:=Rd.pI s.data.toList p 1 r.out hlt (.inr ⟨rfl,by rw[g];exact hbd.1,by rw[hb,o];exact hbd.2⟩);have q:=hid a;obtain⟨z,Y⟩:=hbd;have S:decide (8<=h)=true:=zF Y;clear a hb o x d m g
     go_wp2_with (first
      | (go_at_call 140;refine l.mono ?_;rintro e H ⟨rfl,n,rfl⟩)
      | (go_at_call 259;refine (c _).mono ?_;rintro e I ⟨rfl,rfl⟩)
      | (go_at_call 93;refine (G n).mono ?_;rintro e J ⟨rfl,rfl⟩))
     go_ret2;refine kM.of ?_ q.out;exact⟨⟨0,rfl,by omega,by omega⟩,qc A.out (yP wr _ n),v.out.drewN n,u⟩
    have f:=hid (Rd.wK s.data.toList p 1 r.out (by rw[hb,o];exact E) (λ_=>by rw[g,hb,o];exact hbd));obtain⟨U,V,X⟩:=m;clear hb o x d g
    by_cases z:N=13
    ·have S:decide (8<=h)=false:=zH (by omega);clear hbd
     go_wp2_with (first
      | (go_at_call 140;refine l.mono ?_;rintro e H ⟨rfl,n,rfl⟩)
      | (go_at_call 259;refine (c _).mono ?_;rintro e I ⟨rfl,rfl⟩)
      | (go_at_call 93;refine (G n).mono ?_;rintro e J ⟨rfl,rfl⟩))
     have F:zz ((wr.drewN n).setCell ⟨R,1,none⟩ (.int .i64 ((p:Int)+1+1))) R s (p+(1+1)):=by
      have:=(v.out.drewN n).move (p+(1+1))
      rw[show ((p:Int)+1+1)=((p+(1+1):Nat):Int) by omega];exact this
     exact⟨⟨1+1,by omega,by go_num,by rw[i.out,z];rfl,f.out,by omega,F,qc A.out (qc (yP wr _ n) (y9 _ _ _ _))⟩,by simp[intOf]⟩
    ·have d13:(N==13)=false:=by rw[xh];exact z
     clear hbd
     go_wp2_with (first
      | (go_at_call 140;refine l.mono ?_;rintro e H ⟨rfl,n,rfl⟩)
      | (go_at_call 259;refine (c _).mono ?_;rintro e I ⟨rfl,rfl⟩)
      | (go_at_call 93;refine (G n).mono ?_;rintro e J ⟨rfl,rfl⟩))
     have F:zz ((wr.drewN n).setCell ⟨R,1,none⟩ (.int .i64 ((p:Int)+1+1))) R s (p+(1+1)):=by
      have:=(v.out.drewN n).move (p+(1+1))
      rw[show ((p:Int)+1+1)=((p+(1+1):Nat):Int) by omega];exact this
     exact⟨⟨1+1,by omega,by go_num,by rw[i.out],f.out,by omega,F,qc A.out (qc (yP wr _ n) (y9 _ _ _ _))⟩,by simp[intOf]⟩
   ·have f:=hid (Rd.wK s.data.toList p k r.out (by rw[hb,o];exact E) (λe=>absurd e hk1));have T:((k:Int)==1)=false:=by rw[xh];omega
    obtain⟨U,V,X⟩:=m;clear hb o x d
    go_wp2_with (first
     | (go_at_call 140;refine l.mono ?_;rintro e H ⟨rfl,n,rfl⟩)
     | (go_at_call 259;refine (c _).mono ?_;rintro e I ⟨rfl,rfl⟩)
     | (go_at_call 93;refine (G n).mono ?_;rintro e J ⟨rfl,rfl⟩))
    have F:zz ((wr.drewN n).setCell ⟨R,1,none⟩ (.int .i64 ((p:Int)+(k:Int)+1))) R s (p+(k+1)):=by
     have:=(v.out.drewN n).move (p+(k+1))
     rw[show ((p:Int)+(k:Int)+1)=((p+(k+1):Nat):Int) by omega];exact this
    exact⟨⟨k+1,by omega,by go_num,by rw[i.out],f.out,by omega,F,qc A.out (qc (yP wr _ n) (y9 _ _ _ _))⟩,by simp[intOf];omega⟩
  ·obtain rfl:k=4:=by omega
   have t:=Rd.Lf s.data.toList p r.out;rw[x] at t;have K:=hid t;have M:=d.2.2.2.2.2 rfl;clear t x m
   go_wp2
   go_ret2;refine kM.of ?_ K.out;exact⟨⟨N,rfl,rfl,d.1,M.1,M.2⟩,A.out,v.out,u⟩
theorem bT(n:Int)(h:n<128):Ref.one n=Ref.enc n:=by unfold Ref.enc;rw[zb h]
theorem oZ(s:BA)(R p:Nat)(w:World)(B:zz w R s p)(D:p<=s.size)(E:s.size<=4000) :
  Calls prog 225 #[.pointer (some ⟨R,0,none⟩)] w λe G=>kM w R s (Rd.vG s.data.toList p) e G:=by
 have d:=Vh s R p w B D;have c:Rd.vG s.data.toList p=Rd.vG s.data.toList p:=rfl
 conv at c=>rhs;unfold Rd.vG
 simp only at c;obtain⟨b,hb⟩:=Nm (Rd.zk s.data.toList p);rw[hb] at d c;have C:b<256:=by rw[<- hb];exact Rd.QI _ _
 have m:b≠0->p<s.size:=λh=>by
  have:=Rd.qC s.data.toList p (by rw[hb];exact h)
  rwa [Ref.zP] at this
 have f:=hid m;have z:=hid B;have v:=λn=>(z.out.drewN n).move (p+1);obtain⟨I,J,K⟩:=B;clear hb m
 have l:∀n,zz ((w.drewN n).setCell ⟨R,1,none⟩ (.int .i64 ((p:Int)+1))) R s (p+1):=λn=>by
  have:=v n
  rw[show ((p:Int)+1)=((p+1:Nat):Int) by omega];exact this
 have i:=hid l;clear v l
 by_cases c1:b=34\/b=92\/b=47
 ·rw[zb c1] at c;have g:=hid c;have o:=f.out (by omega);have k:(b:Int)=34\/(b:Int)=92\/(b:Int)=47:=by omega
  clear c c1
  rcases k with k|k|k
  all_goals
   go_enter func225,ntmps225
   go_wp2_with (go_at_call 140;refine d.mono ?_;rintro e y ⟨rfl,n,rfl⟩)
   go_ret2;refine kM.of ?_ g.out;exact⟨⟨b,by rw[k];rfl,bT _ (by omega),by omega,by omega,by omega⟩,qc (yP w _ n) (y9 _ _ _ _),i.out n,by omega⟩
 rw[za c1] at c;have L:((b:Int)==34)=false:=by rw[xh];omega
 have M:((b:Int)==92)=false:=by rw[xh];omega
 have O:((b:Int)==47)=false:=by rw[xh];omega
 by_cases c4:b=110
 ·rw[zb c4] at c;have g:=hid c;have o:=f.out (by omega);have k:(b:Int)=110:=by omega
  clear c c1 c4;go_enter func225,ntmps225
  go_wp2_with (go_at_call 140;refine d.mono ?_;rintro e y ⟨rfl,n,rfl⟩)
  go_ret2;refine kM.of ?_ g.out;exact⟨⟨10,rfl,bT _ (by omega),by omega,by omega,by omega⟩,qc (yP w _ n) (y9 _ _ _ _),i.out n,by omega⟩
 rw[za c4] at c;have P:((b:Int)==110)=false:=by rw[xh];omega
 by_cases c5:b=116
 ·rw[zb c5] at c;have g:=hid c;have o:=f.out (by omega);have k:(b:Int)=116:=by omega
  clear c c1 c5;go_enter func225,ntmps225
  go_wp2_with (go_at_call 140;refine d.mono ?_;rintro e y ⟨rfl,n,rfl⟩)
  go_ret2;refine kM.of ?_ g.out;exact⟨⟨9,rfl,bT _ (by omega),by omega,by omega,by omega⟩,qc (yP w _ n) (y9 _ _ _ _),i.out n,by omega⟩
 rw[za c5] at c;have Q:((b:Int)==116)=false:=by rw[xh];omega
 by_cases c6:b=117
 ·rw[zb c6] at c;have g:=hid c;have o:=f.out (by omega);have k:(b:Int)=117:=by omega
  have j:=λn=>Lb s R (p+1) ((w.drewN n).setCell ⟨R,1,none⟩ (.int .i64 ((p:Int)+1))) (i.out n) (by omega) E;have t:=λn=>qc (yP w (some R) n) (y9 (w.drewN n) R 1 (.int .i64 ((p:Int)+1)));have r:=hid t;clear c c1 c4 c5 c6 t
  cases hf:Rd.uB s.data.toList (p+1) with
  | ok u q=>
   rw[hf] at g;simp only[hf] at j;clear hf;go_enter func225,ntmps225
   go_wp2_with (first
    | (go_at_call 140;refine d.mono ?_;rintro e y ⟨rfl,n,rfl⟩)
    | (go_at_call 247;refine (j n).mono ?_;rintro e H ⟨⟨N,rfl,A⟩,a⟩))
   go_ret2;refine kM.of ?_ g.out;exact⟨⟨N,rfl,A⟩,qc (r.out n) a.1,a.2⟩
  | err x q=>
   rw[hf] at g;simp only[hf] at j;clear hf;go_enter func225,ntmps225
   go_wp2_with (first
    | (go_at_call 140;refine d.mono ?_;rintro e y ⟨rfl,n,rfl⟩)
    | (go_at_call 247;refine (j n).mono ?_;rintro e H ⟨⟨N,rfl,A⟩,a⟩))
   go_ret2;refine kM.of ?_ g.out;exact⟨⟨N,rfl,A⟩,qc (r.out n) a.1,a.2⟩
 ·rw[za c6] at c;have g:=hid c;have S:((b:Int)==117)=false:=by rw[xh];omega
  have F:=λn=>X5 s R p (w.drewN n) (z.out.drewN n);clear c c1 c4 c5 c6;go_enter func225,ntmps225
  go_wp2_with (first
   | (go_at_call 140;refine d.mono ?_;rintro e y ⟨rfl,n,rfl⟩)
   | (go_at_call 93;refine (F n).mono ?_;rintro e T ⟨rfl,rfl⟩))
  go_ret2;refine kM.of ?_ g.out;exact⟨⟨0,rfl,by omega,by omega⟩,yP w _ n,z.out.drewN n,D⟩
def Zl:List Value:=[.int .u8 194,.int .u8 223,.int .i64 1,.int .u8 128,.int .u8 191,.int .u8 224,.int .u8 224,.int .i64 2,.int .u8 160,.int .u8 191,.int .u8 225,.int .u8 236,.int .i64 2,.int .u8 128,.int .u8 191,.int .u8 237,.int .u8 237,.int .i64 2,.int .u8 128,.int .u8 159,.int .u8 238,.int .u8 239,.int .i64 2,.int .u8 128,.int .u8 191,.int .u8 240,.int .u8 240,.int .i64 3,.int .u8 144,.int .u8 191,.int .u8 241,.int .u8 243,.int .i64 3,.int .u8 128,.int .u8 191,.int .u8 244,.int .u8 244,.int .i64 3,.int .u8 128,.int .u8 143]
theorem Tw(W:World):(Instr.index 400 (.agg Zl.toArray) (.int .i64 0)).run prog W = .ok (.agg #[.int .u8 194,.int .u8 223,.int .i64 1,.int .u8 128,.int .u8 191]) W:=by kernel_rfl
theorem Tx(W:World):(Instr.index 400 (.agg Zl.toArray) (.int .i64 1)).run prog W = .ok (.agg #[.int .u8 224,.int .u8 224,.int .i64 2,.int .u8 160,.int .u8 191]) W:=by kernel_rfl
theorem Ty(W:World):(Instr.index 400 (.agg Zl.toArray) (.int .i64 2)).run prog W = .ok (.agg #[.int .u8 225,.int .u8 236,.int .i64 2,.int .u8 128,.int .u8 191]) W:=by kernel_rfl
theorem Tz(W:World):(Instr.index 400 (.agg Zl.toArray) (.int .i64 3)).run prog W = .ok (.agg #[.int .u8 237,.int .u8 237,.int .i64 2,.int .u8 128,.int .u8 159]) W:=by kernel_rfl
theorem TA(W:World):(Instr.index 400 (.agg Zl.toArray) (.int .i64 4)).run prog W = .ok (.agg #[.int .u8 238,.int .u8 239,.int .i64 2,.int .u8 128,.int .u8 191]) W:=by kernel_rfl
theorem TB(W:World):(Instr.index 400 (.agg Zl.toArray) (.int .i64 5)).run prog W = .ok (.agg #[.int .u8 240,.int .u8 240,.int .i64 3,.int .u8 144,.int .u8 191]) W:=by kernel_rfl
theorem TC(W:World):(Instr.index 400 (.agg Zl.toArray) (.int .i64 6)).run prog W = .ok (.agg #[.int .u8 241,.int .u8 243,.int .i64 3,.int .u8 128,.int .u8 191]) W:=by kernel_rfl
theorem TD(W:World):(Instr.index 400 (.agg Zl.toArray) (.int .i64 7)).run prog W = .ok (.agg #[.int .u8 244,.int .u8 244,.int .i64 3,.int .u8 128,.int .u8 143]) W:=by kernel_rfl
theorem zz.same{w b:World}{R:Nat}{s:BA}{p:Nat}(h:zz w R s p)(a:b.heap[R]?=w.heap[R]?):zz b R s p:=by
 obtain⟨c,d,e⟩:=h;refine⟨?_,?_,?_⟩
 ·rw[<- c];simp only[World.cell?,a]
 ·rw[<- d];simp only[World.cell?,a]
 ·rw[<- e];simp only[World.frozen?,a]
theorem zz.alloc{w:World}{R:Nat}{s:BA}{p:Nat}(h:zz w R s p)(O:Obj):zz (w.alloc O) R s p:=h.same ((yD w O none).block R h.lt (by simp))
theorem Tv(W:World)(k:Nat)(a:k<8):(Instr.index 400 (.agg Zl.toArray) (.int .i64 (k:Int))).run prog W = .ok (.agg #[.int .u8 (Rd.kH k:Int),.int .u8 (Rd.Zm k:Int),.int .i64 (Rd.QL k:Int),.int .u8 (Rd.X0 k:Int),.int .u8 (Rd.Yx k:Int)]) W:=by
 rcases Rd.lt8 a with rfl|rfl|rfl|rfl|rfl|rfl|rfl|rfl
 ·exact Tw W
 ·exact Tx W
 ·exact Ty W
 ·exact Tz W
 ·exact TA W
 ·exact TB W
 ·exact TC W
 ·exact TD W
theorem TF:(prog.info? 400).map (·.size)=some Zl.toArray.size:=by kernel_rfl
def qG(w:World):Prop:=∃t fr,w.heap[(5:Nat)]?=some (.cells Zl.toArray t fr)
theorem qG.same{w a:World}(h:qG w)(b:a.heap[(5:Nat)]?=w.heap[(5:Nat)]?):qG a:=by
 obtain⟨t,fr,h⟩:=h;exact⟨t,fr,b.trans h⟩
theorem qG.lt{w:World}(h:qG w):5<w.heap.size:=by
 obtain⟨t,fr,h⟩:=h;exact (YI.1 h).1
theorem qG.grown{w a:World}{R:Nat}(h:qG w)(b:w.grownBy a (some R))(c:R≠5):qG a:=h.same (b.block _ h.lt (by simp;omega))
def XC(w:World)(R:Nat)(s:BA)(p:Nat)(r:Rd.Res BA)(e:Ending)(a:World):Prop:=match r with
 | .ok u q=>e = .returned .nilIface/\u=Rd.piece s.data.toList p q/\w.grownBy a (some R)/\zz a R s q/\q<=s.size/\p<=q
 | .err _ q=>e = .returned (.iface 145 (.agg #[.int .i64 (q:Int)]))/\w.grownBy a (some R)/\zz a R s q/\q<=s.size/\p<=q
theorem XC.of{w b:World}{R:Nat}{s:BA}{p:Nat}{r a:Rd.Res BA}{e:Ending}(h:XC w R s p r e b)(c:a=r):XC w R s p a e b:=c ▸ h
theorem Vi(s:BA)(R p:Nat)(w:World)(c:zz w R s p)(d:p<=s.size) :
  Calls prog 140 #[.pointer (some ⟨R,0,none⟩)] w λe a=>e = .returned (.int .u8 ((Rd.zk s.data.toList p:Nat):Int))/\zz a R s p/\w.grownBy a (some R)/\(∀i:Nat,a.heap[i]?=w.heap[i]?)/\a.heap.size=w.heap.size:=by
 refine (Vh s R p w c d).mono ?_;rintro e a ⟨rfl,n,rfl⟩
 have b:∀n,(w.drewN n).heap=w.heap:=λn=>by
  induction n with
  | zero=>rfl
  | succ n f=>exact f
 exact⟨rfl,c.drewN n,yP w _ n,λi=>by rw[b],by rw[b]⟩
theorem TJ(s:BA)(R p:Nat)(w:World)(hr:zz w R s p)(hp:p<=s.size)(hs:s.size<=4000)(hq:qG w) :
  Calls prog 227 #[.pointer (some ⟨R,0,none⟩)] w λe a=>XC w R s p (Rd.jY s.data.toList p) e a:=by
 obtain⟨tt,fr,hh⟩:=hq;have c:=Tv;have I:=TF;obtain⟨A,hA⟩:=Nm Zl.toArray;rw[hA] at hh I;simp only[hA] at c;clear hA;have G:=Vi s R p w hr hp;obtain⟨b,hb⟩:=Nm (Rd.zk s.data.toList p);rw[hb] at G;have e1:b<256:=by rw[<- hb];exact Rd.QI _ _
 have u:Calls prog 140 #[.pointer (some ⟨R,0,none⟩)] w λe a=>e = .returned (.int .u8 (b:Int))/\zz a R s p/\w.grownBy a (some R)/\a.heap[(5:Nat)]?=some (.cells A tt fr):=by
  refine G.mono ?_;rintro e a ⟨rfl,h1,f,m,_⟩;exact⟨rfl,h1,f,(m _).trans hh⟩
 have HB:=hid hb;clear G hb hr hh
 have t:128<=b->p<s.size:=λh=>by
  have:=Rd.qC s.data.toList p (by rw[HB.out];omega)
  rwa [Ref.zP] at this
 have c7:=hid t;clear t;go_enter func227,ntmps227
 go_wp2_with (first
  | (go_at_call 140;refine u.mono ?_;rintro e w1 ⟨rfl,a7,a1,a4⟩)
  | (refine wpList_load_row rfl 400 _ rfl 5 rfl tt A fr _ a4 underlying400 rfl I ?_))
 have T:=hid a7;have M:=hid a1;clear a7 a1 a4 u I
 go_loopw [11] (λJ wr=>∃k:Nat,k<=8/\J = .int .i64 k/\zz wr R s p/\w.grownBy wr (some R)/\(∀i,i<k->b<Rd.kH i\/Rd.Zm i<b)) (λJ _=>8-(intOf J).toNat)
 case atStart=>exact⟨0,by omega,rfl,T.out,M.out,λi hi=>by omega⟩
 case round=>
  obtain⟨k,hk,rfl,b0,hg,a6⟩:=hrel;have Q:=hid a6;have l:=hid b0;have HG:=hid hg;clear a6 b0 hg T M
  by_cases hlt:k<8
  ·have a9:=λW=>c W k hlt;have Z:=Rd.KL k hlt;have d5:=λ(h1:Rd.kH k<=b) (f:b<=Rd.Zm k)=>vN h1 f;have d:=Rd.TE s.data.toList p k hlt;have r:=λj=>Rd.TG s.data.toList p k j hlt;have n:=Rd.Tq s.data.toList p k hlt;rw[HB.out] at d n;simp only[HB.out] at r
   have E:b<Rd.kH k\/Rd.Zm k<b->∀i,i<k+1->b<Rd.kH i\/Rd.Zm i<b:=λh i hi=>by
    by_cases e:i=k
    ·subst e;exact h
    ·exact Q.out i (by omega)
   obtain⟨F,hF⟩:=Nm (Rd.kH k);obtain⟨L,hL⟩:=Nm (Rd.Zm k);obtain⟨N,hN⟩:=Nm (Rd.QL k);obtain⟨lo,D⟩:∃N,Rd.X0 k=N:=⟨_,rfl⟩;obtain⟨hi,C⟩:∃N,Rd.Yx k=N:=⟨_,rfl⟩;rw[hF,hL,hN,D,C] at Z;rw[hF,hL] at E;simp only[hF,hL,hN,D,C] at a9 d r n;clear d5 hF hL hN D C;have S:=hid E;have X:=hid d;have c9:=hid r;have c6:=hid n;clear E d r n c;obtain⟨b1,b2,b3,b4,b5,b6,b7,b8⟩:=Z
   by_cases c1:b<F
   ·have d1:decide ((b:Int)<(F:Int))=true:=zF (by omega)
    go_wp2
    go_roundw
    case rel=>exact⟨k+1,by omega,by go_num,l.out.alloc _,qc HG.out (yD _ _ _),S.out (.inl c1)⟩
    case measure=>simp[intOf];omega
   have d1:decide ((b:Int)<(F:Int))=false:=zH (by omega)
   by_cases c2:L<b
   ·have d2:decide ((L:Int)<(b:Int))=true:=zF (by omega)
    go_wp2
    go_roundw
    case rel=>exact⟨k+1,by omega,by go_num,l.out.alloc _,qc HG.out (yD _ _ _),S.out (.inr c2)⟩
    case measure=>simp[intOf];omega
   have d2:decide ((L:Int)<(b:Int))=false:=zH (by omega);have g4:p<s.size:=c7.out (by omega)
   have a5:zz (wr.setCell ⟨R,1,none⟩ (.int .i64 ((p:Int)+1))) R s (p+1):=by
    have:=l.out.move (p+1)
    rw[show ((p:Int)+1)=((p+1:Nat):Int) by omega];exact this
   have e0:=l.out.lt
   have a2:w.grownBy ((wr.setCell ⟨R,1,none⟩ (.int .i64 ((p:Int)+1))).alloc (.cells #[.int .u8 (F:Int),.int .u8 (L:Int),.int .i64 (N:Int),.int .u8 (lo:Int),.int .u8 (hi:Int)] 399)) (some R):=
    qc HG.out (qc (y9 _ _ _ _) (yD _ _ _))
   have a0:((wr.setCell ⟨R,1,none⟩ (.int .i64 ((p:Int)+1))).alloc (.cells #[.int .u8 (F:Int),.int .u8 (L:Int),.int .i64 (N:Int),.int .u8 (lo:Int),.int .u8 (hi:Int)] 399)).cell? ⟨wr.heap.size,2,none⟩=some (.int .i64 (N:Int)):=by
    have e:(wr.setCell ⟨R,1,none⟩ (.int .i64 ((p:Int)+1))).heap.size=wr.heap.size:=by simp[World.setCell]
    have:=zL (wr.setCell ⟨R,1,none⟩ (.int .i64 ((p:Int)+1))) (.cells #[.int .u8 (F:Int),.int .u8 (L:Int),.int .i64 (N:Int),.int .u8 (lo:Int),.int .u8 (hi:Int)] 399)
    rw[e] at this;simp only[World.cell?,this]
    rfl
   have hw:=Cq s R (p+1) lo hi _ (a5.alloc (.cells #[.int .u8 (F:Int),.int .u8 (L:Int),.int .i64 (N:Int),.int .u8 (lo:Int),.int .u8 (hi:Int)] 399)) (by omega) hs b6 b7;have g1:=λO=>(l.out.alloc O).1;have g2:=λO=>(l.out.alloc O).2.1;have g3:=λO=>(l.out.alloc O).2.2;have x:=hid a2;have K:=hid a0;clear a2 a0 a5
   cases hwt:Rd.within s.data.toList lo hi (p+1) with
   | false=>
    have v:=hid (X.out (by omega) (by omega) hwt)
    have hw1:=hw.mono (R':=λe a=>e = .returned (.iface 145 (.agg #[.int .i64 ((p+1:Nat):Int)]))/\w.grownBy a (some R)/\zz a R s (p+1)) (by
     rintro e a ⟨_,h⟩;obtain⟨rfl,f,m⟩:=h hwt;exact⟨rfl,qc x.out f,m⟩)
    clear hw hwt
    go_wp2_with (go_at_call 249;refine hw1.mono ?_;rintro e w4 ⟨rfl,o,q⟩)
    go_ret;refine XC.of ?_ v.out;exact⟨rfl,o,q,by omega,by omega⟩
   | true=>
    have Y:=hid hwt
    have hw1:=hw.mono (R':=λe a=>e = .returned .nilIface/\w.grownBy a (some R)/\zz a R s (p+2)/\a.cell? ⟨wr.heap.size,2,none⟩=some (.int .i64 (N:Int))/\p+1<s.size) (by
     rintro e a ⟨h,_⟩;obtain⟨rfl,f,m,h4⟩:=h hwt;exact⟨rfl,qc x.out f,m,f.cell K.out (by simp;omega),h4⟩)
    clear hw hwt;have f0:1<=(N:Int):=by omega
    have f1:(N:Int)<=3:=by omega
    go_wp2_with (go_at_call 249;refine hw1.mono ?_;rintro e w4 ⟨rfl,o,q,f7,f9⟩)
    have P:=hid o;have U:=hid q;clear o q hw1 g1 g2 g3 x K
    go_loopw [43] (λJ wi=>∃j:Nat,j+1<=N/\J = .int .i64 j/\zz wi R s (p+2+j)/\w.grownBy wi (some R)/\Rd.KV s.data.toList p j/\p+2+j<=s.size) (λJ _=>N-(intOf J).toNat)
    case atStart=>exact⟨0,by omega,rfl,U.out,P.out,λi hi=>by omega,by omega⟩
    case round=>
     obtain⟨j,f8,rfl,a8,a3,b9,d9⟩:=hrel;have V:=hid a8;have y:=hid a3;have z:=hid b9;clear a8 a3 b9 P U;have g:=Cq s R (p+2+j) 128 191 wr V.out d9 hs (by omega) (by omega)
     by_cases hjl:j+1<N
     ·have d8:(j:Int)<(N:Int)-1:=by omega
      cases hwt:Rd.within s.data.toList 128 191 (p+2+j) with
      | false=>
       have v:=hid (c9.out j (by omega) (by omega) Y.out z.out hjl hwt)
       have hw1:=g.mono (R':=λe a=>e = .returned (.iface 145 (.agg #[.int .i64 ((p+2+j:Nat):Int)]))/\w.grownBy a (some R)/\zz a R s (p+2+j)) (by
        rintro e a ⟨_,h⟩;obtain⟨rfl,f,m⟩:=h hwt;exact⟨rfl,qc y.out f,m⟩)
       clear g hwt
       go_wp2_with (go_at_call 249;refine hw1.mono ?_;rintro e w5 ⟨rfl,B,H⟩)
       go_ret;refine XC.of ?_ v.out;exact⟨rfl,B,H,by omega,by omega⟩
      | true=>
       have c8:=hid (show Rd.KV s.data.toList p (j+1) from λi hi=>by
        by_cases e:i=j
        ·subst e;exact hwt
        ·exact z.out i (by omega))
       have hw1:=g.mono (R':=λe a=>e = .returned .nilIface/\w.grownBy a (some R)/\zz a R s (p+2+(j+1))/\p+2+j<s.size) (by
        rintro e a ⟨h,_⟩;obtain⟨rfl,f,m,h4⟩:=h hwt;exact⟨rfl,qc y.out f,m,h4⟩)
       clear g hwt
       go_wp2_with (go_at_call 249;refine hw1.mono ?_;rintro e w5 ⟨rfl,B,H,g0⟩)
       go_roundw
       case rel=>exact⟨j+1,by omega,by go_num,H,B,c8.out,by omega⟩
       case measure=>simp[intOf];omega
     ·have d8:¬(j:Int)<(N:Int)-1:=by omega
      obtain rfl:N=j+1:=by omega
      have v:=hid (c6.out (by omega) (by omega) Y.out z.out);clear g
      go_wp2
      go_ret;refine XC.of ?_ v.out;exact⟨rfl,rfl,y.out,by have:=V.out;rwa [show p+1+(j+1)=p+2+j by omega],by omega,by omega⟩
  ·have v:=hid (Rd.Tt s.data.toList p (by rw[HB.out];exact Rd.Nn b (λi hi=>Q.out i (by omega))));have sf:=X5 s R p wr l.out
   go_wp2_with (go_at_call 93;refine sf.mono ?_;rintro e w2 ⟨rfl,rfl⟩)
   go_ret;refine XC.of ?_ v.out;exact⟨rfl,HG.out,l.out,hp,ze _⟩
end Go.Proofs.YtagnlbgbnfnapaaGreatDoor
