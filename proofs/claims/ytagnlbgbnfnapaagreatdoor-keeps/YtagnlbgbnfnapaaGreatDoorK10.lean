/- P -/
import Derived.Test.YtagnlbgbnfnapaaGreatDoorK03
import Derived.Test.YtagnlbgbnfnapaaGreatDoorK09
open Go.Proofs.Tryz
set_option maxRecDepth 100000
set_option maxHeartbeats 2000000
namespace Go.Proofs.YtagnlbgbnfnapaaGreatDoor
open Go.RowKit
def QS(w:World)(a:Option Addr)(ms:List (BY×Value)):Prop:=
 ms=[]\/∃b o,a=some ⟨b,o,none⟩/\∀j,(h:j<ms.length)->w.cell? ⟨b,o+j*2,none⟩=some (.string ms[j].1)/\w.cell? ⟨b,o+j*2+1,none⟩=some ms[j].2
theorem Uq{w w':World}{a:Option Addr}{ms:List (BY×Value)}(h:QS w a ms)(hb:Below w.heap.size w w'):QS w' a ms:=by
 rcases h with h|⟨b,o,ha,hc⟩
 ·exact .inl h
 ·exact .inr ⟨b,o,ha,λj c=>⟨zi hb (hc j c).1,zi hb (hc j c).2⟩⟩
def ZP(m:BY×Value):Value := .agg #[.string m.1,m.2]
def vI(ms:List (BY×Value))(j:Nat):BY×Value:=ms.getD j (⟨#[]⟩,.nilIface)
theorem Xv(ms:List (BY×Value))(j:Nat)(h:j<ms.length):vI ms j=ms[j]:=by
 unfold vI;rw[zY,zn h];rfl
theorem lT(ms:List (BY×Value))(v:Option Addr)(cap g:Nat)(y:Array Value)(p:Nat->Bool)(w:World)(E:ms.length<=100000000000)(C:∀args w,(callFunc g args).run prog w = .ok (.enter g args) w)
  (A:QS w v ms)(s:∀m ∈ ms,∃T x,m.2 = .iface T x)(B:ZC g y (λj=>ZP (vI ms j)) ms.length p w) :
  Calls prog 94 #[.slice v ms.length cap,.func (.func g) #[] y] w λe w'=>
   e = .returned (.tuple #[.int .i64 (((zX p ms.length).getD 0:Nat):Int),.bool (zX p ms.length).isSome])/\Below w.heap.size w w':=by
 generalize hF:zX p ms.length=F;have u:=hid hF;clear hF;go_enter func94,ntmps94
 go_wp2
 go_loopw [10] (λi wr=>∃k:Nat,k<=ms.length/\i = .int .i64 k/\(∀j,j<k->p j=false)/\Below w.heap.size w wr) (λi _=>ms.length-(intOf i).toNat)
 case atStart=>exact⟨0,zG _,rfl,λj h=>by omega,zf _ _⟩
 case round=>
  obtain⟨k,D,rfl,hb,q⟩:=hrel;have r:=hid hb;clear hb
  by_cases hlt:k<ms.length
  ·rcases A with rfl|⟨b,o,rfl,hc⟩
   ·simp at hlt
   have a:=λW hb=>B W k hlt hb;simp only[Xv ms k hlt,ZP] at a;obtain⟨t,q2⟩:=hc k hlt;obtain⟨G,f⟩:∃n,ms[k].1=n:=⟨_,rfl⟩;obtain⟨T,J,l⟩:=s ms[k] (xB hlt);rw[f] at t a;rw[l] at q2 a;have H:=zi q t;have I:=zi q q2;clear f l hc t q2;have c:=λO=>q.trans (nbl wr O |>.mono q.size)
   cases hpp:p k with
   | false=>
    rw[hpp] at a;have z:=hid hpp;clear hpp
    go_wp2_with (go_at_fn g;refine (a _ (c _)).mono ?_;rintro e w' ⟨rfl,d⟩)
    refine⟨⟨k+1,by omega,by go_num,λj h=>?_,(c _).trans (d.mono (c _).size)⟩,by simp[intOf];omega⟩
    by_cases hj:j=k
    ·subst hj;exact z.out
    ·exact r.out j (by omega)
   | true=>
    rw[hpp] at a;have e:=JN p ms.length k hlt r.out hpp;rw[u.out] at e;subst e;clear hpp
    go_wp2_with (go_at_fn g;refine (a _ (c _)).mono ?_;rintro e w' ⟨rfl,d⟩)
    go_ret2;exact⟨rfl,(c _).trans (d.mono (c _).size)⟩
  ·have e:=JO p ms.length (λj h=>r.out j (by omega));rw[u.out] at e;subst e
   go_wp2
   go_ret2;exact⟨rfl,q⟩
theorem Aa(ms:List (BY×Value))(a:Option Addr)(cap g:Nat)(f:Array Value)(p:Nat->Bool)(w:World)(k:ms.length<=100000000000)(h:∀args w,(callFunc g args).run prog w = .ok (.enter g args) w)
  (i:QS w a ms)(d:∀m ∈ ms,∃T x,m.2 = .iface T x)(l:ZC g f (λj=>ZP (vI ms j)) ms.length p w) :
  Calls prog 190 #[.slice a ms.length cap,.func (.func g) #[] f] w λe w'=>
   e = .returned (.bool (zX p ms.length).isSome)/\Below w.heap.size w w':=by
 have c:=lT ms a cap g f p w k h i d l;generalize zX p ms.length=F at c;go_enter func190,ntmps190
 go_wp2_with (go_at_call 94;refine c.mono ?_;rintro e w' ⟨rfl,b⟩)
 go_ret;exact⟨rfl,b⟩
theorem wU(g:Nat)(f:Array Value)(m:BY×Value)(B:Nat)(y:Bool)(w:World)(j:∀args w,(callFunc g args).run prog w = .ok (.enter g args) w)
  (h:w.cell? ⟨B,0,none⟩=some (.func (.func g) #[] f))(d:∀W,Below w.heap.size w W->Calls prog g (#[ZP m]++f) W λe w'=>e = .returned (.bool y)/\Below W.heap.size W w') :
  Calls prog 191 #[ZP m,.pointer (some ⟨B,0,none⟩)] w λe w'=>e = .returned (.bool (!y))/\Below w.heap.size w w':=by
 obtain⟨a,v⟩:=m;unfold ZP at d |-;simp only at d |-;have i:=λO:Obj=>zi (nbl w O) h;have b:=λO:Obj=>nbl w O;go_enter func191,ntmps191
 go_wp2_with (go_at_fn g;refine (d _ (b _)).mono ?_;rintro e w' ⟨rfl,c⟩)
 go_ret;exact⟨rfl,(b _).trans (c.mono (b _).size)⟩
theorem wT(ms:List (BY×Value))(b:Option Addr)(cap g:Nat)(a:Array Value)(p:Nat->Bool)(w:World)(q:ms.length<=100000000000)(k:∀args w,(callFunc g args).run prog w = .ok (.enter g args) w)
  (o:QS w b ms)(f:∀m ∈ ms,∃T x,m.2 = .iface T x)(r:ZC g a (λj=>ZP (vI ms j)) ms.length p w) :
  Calls prog 147 #[.slice b ms.length cap,.func (.func g) #[] a] w λe w'=>
   e = .returned (.bool (QK p ms.length))/\Below w.heap.size w w':=by
 have i:∀args w,(callFunc 191 args).run prog w = .ok (.enter 191 args) w:=xg func191 (by kernel_rfl) rfl
 have c:=Aa ms b cap 191 #[.pointer (some ⟨w.heap.size,0,none⟩)] (λj=>!p j) (w.alloc (.cells #[.func (.func g) #[] a] 191)) q i
  (Uq o (nbl w _)) f
  (λW j n hb=>by
    refine wU g a (vI ms j) w.heap.size (p j) W k ?_ (λh l=>r h j n (((nbl w _).trans (hb.mono (by simp))).trans (l.mono (by have:=hb.size;simp at this;omega))));exact zi hb (by simp))
 rw[fT];generalize zX (λj=>!p j) ms.length=F at c;go_enter func147,ntmps147
 go_wp2_with (go_at_call 190;refine c.mono ?_;rintro e w' ⟨rfl,d⟩)
 go_ret;exact⟨rfl,(nbl w _).trans (d.mono (by simp))⟩
theorem Fy(nm:BY)(m:BY×Value)(B:Nat)(w:World)(c:w.cell? ⟨B,0,none⟩=some (.string nm)) :
  Calls prog 95 #[ZP m,.pointer (some ⟨B,0,none⟩)] w λe w'=>e = .returned (.bool (m.1.toList==nm.toList))/\Below w.heap.size w w':=by
 obtain⟨a,v⟩:=m;unfold ZP;simp only;have d:=λO:Obj=>zi (nbl w O) c;have b:=λO:Obj=>nbl w O;go_enter func95,ntmps95
 go_wp2
 go_ret;exact⟨rfl,b _⟩
def xh(ms:List (BY×Value))(nm:BY):Value:=match ms.find? (λm=>m.1.toList==nm.toList) with
 | some m=>m.2
 | none => .nilIface
theorem Fv(ms:List (BY×Value))(nm:BY):xh ms nm=match zX (λj=>(vI ms j).1.toList==nm.toList) ms.length with
  | some k=>(vI ms k).2
  | none => .nilIface:=by
 unfold xh
 cases hF:zX (λj=>(vI ms j).1.toList==nm.toList) ms.length with
 | none=>
  have:ms.find? (λm=>m.1.toList==nm.toList)=none:=by
   rw[Yz];intro m f;obtain⟨j,a,rfl⟩:=Qa f;unfold zX at hF;rw[Yz] at hF
   have:=hF j (ku.2 a)
   rwa [Xv ms j a] at this
  rw[this]
 | some k=>
  unfold zX at hF;rw[Vz] at hF;obtain⟨c,d,e⟩:=hF;have b:k<ms.length:=by simpa using d
  have:ms.find? (λm=>m.1.toList==nm.toList)=some ms[k]:=by
   rw[List.find?_eq_some_iff_getElem];refine⟨by rw[Xv ms k b] at c;exact c,k,b,rfl,λj a=>?_⟩
   have:=e j a
   rw[Xv ms j (by omega)] at this;exact this
  rw[this];simp only;rw[Xv ms k b]
theorem aG(ms:List (BY×Value))(g:Option Addr)(cap:Nat)(nm:BY)(w:World)(s:ms.length<=100000000000)(n:QS w g ms)(i:∀m ∈ ms,∃T x,m.2 = .iface T x) :
  Calls prog 53 #[.slice g ms.length cap,.string nm] w λe w'=>e = .returned (xh ms nm)/\Below w.heap.size w w':=by
 have q:∀args w,(callFunc 95 args).run prog w = .ok (.enter 95 args) w:=xg func95 (by kernel_rfl) rfl
 have c:=lT ms g cap 95 #[.pointer (some ⟨w.heap.size,0,none⟩)] (λj=>(vI ms j).1.toList==nm.toList) (w.alloc (.cells #[.string nm] 9)) s q
  (Uq n (nbl w _)) i
  (λW j v hb=>Fy nm (vI ms j) w.heap.size W (zi hb (by simp)))
 have d:=Fv ms nm
 have hF:∀k,zX (λj=>(vI ms j).1.toList==nm.toList) ms.length=some k->k<ms.length:=λk h=>by
  unfold zX at h;rw[Vz] at h
  simpa using h.2.1
 have f:=λO:Obj=>nbl w O
 cases hf:zX (λj=>(vI ms j).1.toList==nm.toList) ms.length with
 | none=>
  rw[hf] at c d;simp only at d;rw[d];clear d hF hf;go_enter func53,ntmps53
  go_wp2_with (go_at_call 94;refine c.mono ?_;rintro e w' ⟨rfl,a⟩)
  go_ret;exact⟨rfl,(f _).trans (a.mono (by simp))⟩
 | some k=>
  rw[hf] at c d;simp only at d;have l:=hF k hf;rw[d,Xv ms k l]
  rcases n with rfl|⟨b,o,rfl,hc⟩
  ·simp at l
  obtain⟨t,q2⟩:=hc k l;obtain⟨u,p⟩:=Nm (ms[k].2);rw[p] at q2 |-;have r:(k:Int)<(ms.length:Int):=by omega
  clear d hF hf hc t p;go_enter func53,ntmps53
  go_wp2_with (go_at_call 94;refine c.mono ?_;rintro e w' ⟨rfl,a⟩;have y:=zi ((f (.cells #[.string nm] 9)).trans (a.mono (by simp))) q2)
  go_ret;exact⟨rfl,(f _).trans (a.mono (by simp))⟩
def kJ(c:Int)(q:Nat):Value:=
 if c=3 then .iface 146 (.agg #[.int .i64 (q:Int)])
 else if c=4 then .iface 147 (.agg #[.int .i64 (q:Int)])
 else .iface 145 (.agg #[.int .i64 (q:Int)])
theorem EQ(q:Nat):kJ 4 q = .iface 147 (.agg #[.int .i64 (q:Int)]):=rfl
theorem YR(c:Int)(q:Nat):∃T,kJ c q = .iface T (.agg #[.int .i64 (q:Int)]):=by
 unfold kJ;split
 ·exact⟨_,rfl⟩
 split
 ·exact⟨_,rfl⟩
 ·exact⟨_,rfl⟩
def jS{α:Type}(Inv:α->Nat->World->Prop)(b:World->Prop)(r:Rd.Res α)(e:Ending)(w':World):Prop:=match r with
 | .ok a q=>e = .returned .nilIface/\Inv a q w'
 | .err c q=>e = .returned (kJ c q)/\b w'
theorem jS.of{α:Type}{Inv:α->Nat->World->Prop}{a:World->Prop}{r b:Rd.Res α}{e:Ending}{w':World}(h:jS Inv a r e w')(c:b=r):jS Inv a b e w':=c ▸ h
structure Reads {α:Type} (s:BY) (R g:Nat) (lb:Array Value) (st:Nat->α->Nat->Rd.Res α) (F d:Nat) (Inv:α->Nat->World->Prop) (Bad:World->Prop):Prop where
 rd:∀a q w,Inv a q w->zu w R s q
 mv:∀a q q' w w',Inv a q w->q<=q'->w.grownBy w' (some R)->zu w' R s q'->Inv a q' w'
 bad:∀a q w,Inv a q w->Bad w
 adv:∀f a q a' q',q<=s.size->Rd.blank (Rd.zk s.data.toList q)=false->2*(s.size-q)<f->st f a q = .ok a' q'->q<q'/\q'<=s.size
 one:∀f a q w,f<F->d<=8->Inv a q w->q<=s.size->Rd.blank (Rd.zk s.data.toList q)=false->2*(s.size-q)<f->Calls prog g lb w λe w'=>jS Inv Bad (st f a q) e w'
theorem GN{α:Type}{l:List UInt8}{st:Nat->α->Nat->Rd.Res α}{e f q q2:Nat}{a:α}{c:Int}(h:st f a q = .err c q2):Rd.jO l st e (f+1) a q = .err c q2:=by rw[Rd.jO,h]
theorem GQ{α:Type}{l:List UInt8}{st:Nat->α->Nat->Rd.Res α}{e f q q2:Nat}{a b:α}(h:st f a q = .ok b q2)(hb:Rd.zk l (Rd.skip l q2)=44):Rd.jO l st e (f+1) a q=Rd.jO l st e f b (Rd.skip l (Rd.skip l q2+1)):=by
 rw[Rd.jO,h];exact zb hb
theorem GM{α:Type}{l:List UInt8}{st:Nat->α->Nat->Rd.Res α}{e f q q2:Nat}{a b:α}(h:st f a q = .ok b q2)(hb:Rd.zk l (Rd.skip l q2)=e)(c:e≠44):Rd.jO l st e (f+1) a q = .ok b (Rd.skip l q2+1):=by
 rw[Rd.jO,h];exact (za (by omega)).trans (zb hb)
theorem GL{α:Type}{l:List UInt8}{st:Nat->α->Nat->Rd.Res α}{e f q q2:Nat}{a b:α}(h:st f a q = .ok b q2)(hb:Rd.zk l (Rd.skip l q2)≠44)(c:Rd.zk l (Rd.skip l q2)≠e):Rd.jO l st e (f+1) a q = .err 2 (Rd.skip l q2):=by
 rw[Rd.jO,h];exact (za hb).trans (za c)
theorem mQ{α:Type}(s:BY)(R p d e g F:Nat)(lb:Array Value)(st:Nat->α->Nat->Rd.Res α)(Inv:α->Nat->World->Prop)(a6:World->Prop)(a:α)(w:World)
  (eg:∀args w,(callFunc g args).run prog w = .ok (.enter g args) w)(hR:Reads s R g lb st F d Inv a6)
  (hi:Inv a p w)(hp:p<s.size)(hs:s.size<=4000)(hd:d<=100)(g4:e≠0)(d7:e≠44)(hF:2*(s.size-(p+1))+1<F) :
  Calls prog 183 #[.pointer (some ⟨R,0,none⟩),.int .i64 (d:Int),.int .u8 (e:Int),.func (.func g) #[] lb] w λi w'=>jS Inv a6 (Rd.vV s.data.toList st e F d a p) i w':=by
 have hr:=hR.rd a p w hi;have HI:=hid hi;have j:=hid hR;clear hi hR;have A:Rd.vV s.data.toList st e F d a p=Rd.vV s.data.toList st e F d a p:=rfl
 conv at A=>rhs;unfold Rd.vV
 have c0:zu (w.setCell ⟨R,1,none⟩ (.int .i64 ((p:Int)+1))) R s (p+1):=by
  have:=hr.move (p+1)
  rwa [show ((p+1:Nat):Int)=(p:Int)+1 by omega] at this
 have b5:=hid c0;obtain⟨h1,h2,h3⟩:=hr;clear c0
 by_cases c8:8<d
 ·rw[zb c8] at A;have Q:=hid A;have d8:decide (8<(d:Int))=true:=zC (by omega);clear A;go_enter func183,ntmps183
  go_wp2
  go_ret;refine jS.of ?_ Q.out;exact⟨rfl,j.out.bad _ _ _ HI.out⟩
 rw[za c8] at A;have d8:decide (8<(d:Int))=false:=zO (by omega);have a1:=Rd.ve s.data.toList (p+1) (by rw[Ref.zA];omega);rw[Ref.zA] at a1;have e2:=Rd.yX s.data.toList (p+1);have Z:=Rd.uw s.data.toList (p+1);obtain⟨q,hq⟩:=Nm (Rd.skip s.data.toList (p+1));have y:=Yj s R (p+1) _ b5.out (by omega) hs;rw[hq] at A a1 e2 Z y;obtain⟨b,hb⟩:=Nm (Rd.zk s.data.toList q);have e6:b<256:=by rw[<- hb];exact Rd.ZW _ _
 rw[hb] at A
 have z:=y.mono (R':=λi w'=>i = .returned (.tuple #[])/\w.grownBy w' (some R)/\zu w' R s q) (by
  rintro i w' ⟨rfl,O,P⟩;exact⟨rfl,zW (yS _ _ _ _) O,P⟩)
 have v:∀w1,zu w1 R s q->w.grownBy w1 (some R)->Calls prog 140 #[.pointer (some ⟨R,0,none⟩)] w1 λi w'=>i = .returned (.int .u8 (b:Int))/\w.grownBy w' (some R)/\zu w' R s q:=λw1 h6 h7=>by
  refine (Y6 s R q w1 h6 a1).mono ?_;rintro i w' ⟨rfl,O,P,_,_⟩;exact⟨by rw[hb],zW h7 P,O⟩
 clear y
 by_cases ce:b=e
 ·rw[zb ce] at A;have Q:=hid A
  have c3:q<s.size:=by
   have:=Rd.qj s.data.toList q (by rw[hb];omega)
   rwa [Ref.zA] at this
  have de:((b:Int)==(e:Int))=true:=by rw[kH];omega
  clear A hb hq Z;go_enter func183,ntmps183
  go_wp2_with (first
   | (go_at_call 91;refine z.mono ?_;rintro i w1 ⟨rfl,W,a0⟩)
   | (go_at_call 140;refine (v w1 a0 W).mono ?_;rintro i w2 ⟨rfl,X,K⟩;have S:=hid K;obtain⟨g1,g2,g3⟩:=K))
  go_ret;refine jS.of ?_ Q.out;refine⟨rfl,j.out.mv a p _ w _ HI.out (by omega) (zW X (yS _ _ _ _)) ?_⟩
  have:=S.out.move (q+1)
  rwa [show ((q+1:Nat):Int)=(q:Int)+1 by omega] at this
 rw[za ce] at A;have de:((b:Int)==(e:Int))=false:=by rw[qI];omega
 have Q:=hid A;have b6:=hid Z;clear A hb hq Z;go_enter func183,ntmps183
 go_wp2_with (first
  | (go_at_call 91;refine z.mono ?_;rintro i w1 ⟨rfl,W,a0⟩)
  | (go_at_call 140;refine (v w1 a0 W).mono ?_;rintro i w2 ⟨rfl,X,K⟩))
 have S:=hid K;have b4:=hid X;clear a0 W K X v z h1 h2 h3
 go_loopw [38] (λ_ wr=>∃(f:Nat) (a':α) (q':Nat),f<=F/\Inv a' q' wr/\q'<=s.size/\Rd.blank (Rd.zk s.data.toList q')=false/\2*(s.size-q')+1<f/\Rd.jO s.data.toList st e F a q=Rd.jO s.data.toList st e f a' q') (λ_ wr=>s.size-JD wr R)
 case atStart=>exact⟨F,a,q,ze _,j.out.mv a p q w w2 HI.out (by omega) b4.out S.out,a1,b6.out,by omega,rfl⟩
 case round=>
  obtain⟨f,a',q',g6,Y,c1,J,g5,c5⟩:=hrel;obtain⟨f,rfl⟩:∃k,f=k+1:=⟨f-1,by omega⟩;have u:=j.out.one f a' q' wr (by omega) (by omega) Y c1 J (by omega);have d5:=hid (j.out.rd _ _ _ Y).at;have U:=hid c5;have f2:=hid Y;have D:=hid (λC q2=>j.out.adv f a' q' C q2 c1 J (by omega));clear c5 Y S b4 b6 b5 J
  cases hx:st f a' q' with
  | err c q2=>
   rw[hx] at u;have b2:=hid (Q.out.trans (U.out.trans (GN hx)));obtain⟨T,hT⟩:=YR c q2
   have n:=u.mono (R':=λi w'=>i = .returned (.iface T (.agg #[.int .i64 (q2:Int)]))/\a6 w') (by
    rintro i w' ⟨rfl,h⟩;exact⟨by rw[hT],h⟩)
   have HT:=hid hT;clear u hx D hT
   go_wp2_with (go_at_fn g;refine n.mono ?_;rintro i N ⟨rfl,b8⟩)
   go_ret;refine jS.of ?_ b2.out;exact⟨by rw[HT.out];rfl,b8⟩
  | ok C q2=>
   rw[hx] at u;obtain⟨d4,a8⟩:=D.out C q2 hx;have L:=Rd.ve s.data.toList q2 (by rw[Ref.zA];omega);rw[Ref.zA] at L;have a5:=Rd.yX s.data.toList q2;have m:=λh=>hid (Q.out.trans (U.out.trans (GQ (e:=e) (l:=s.data.toList) hx h)));have t:=λh=>hid (Q.out.trans (U.out.trans (GM (e:=e) (l:=s.data.toList) hx h d7)));have B:=λh h'=>hid (Q.out.trans (U.out.trans (GL (e:=e) (l:=s.data.toList) hx h h')));have y:=λw1 (h:Inv C q2 w1)=>Yj s R q2 w1 (j.out.rd _ _ _ h) a8 hs;obtain⟨r,c2⟩:∃q,Rd.skip s.data.toList q2=q:=⟨_,rfl⟩;simp only[c2] at L a5 m t B y;obtain⟨V,E⟩:∃b,Rd.zk s.data.toList r=b:=⟨_,rfl⟩;have d6:V<256:=by rw[<- E];exact Rd.ZW _ _
   have o:V≠0->r<s.size:=λh=>by
    have:=Rd.qj s.data.toList r (by rw[E];exact h)
    rwa [Ref.zA] at this
   simp only[E] at m t B
   have n:=u.mono (R':=λi w'=>i = .returned .nilIface/\Inv C q2 w') (by
    rintro i w' ⟨rfl,h⟩;exact⟨rfl,h⟩)
   have z:∀w1,Inv C q2 w1->Calls prog 91 #[.pointer (some ⟨R,0,none⟩)] w1 λi w'=>i = .returned (.tuple #[])/\Inv C r w':=λw1 h=>by
    refine (y w1 h).mono ?_;rintro i w' ⟨rfl,O,P⟩;exact⟨rfl,j.out.mv _ _ _ _ _ h a5 O P⟩
   have v:∀w1,Inv C r w1->Calls prog 140 #[.pointer (some ⟨R,0,none⟩)] w1 λi w'=>i = .returned (.int .u8 (V:Int))/\Inv C r w'/\zu w' R s r:=λw1 h=>by
    refine (Y6 s R r w1 (j.out.rd _ _ _ h) L).mono ?_;rintro i w' ⟨rfl,O,P,_,_⟩;exact⟨by rw[E],j.out.mv _ _ _ _ _ h (ze _) P O,O⟩
   clear u hx D y E c2
   by_cases c44:V=44
   ·have d44:(V:Int)=44:=by omega
    have HM:=m c44;have c3:=o (by omega);have M:=Rd.ve s.data.toList (r+1) (by rw[Ref.zA];omega);rw[Ref.zA] at M;have c4:=Rd.yX s.data.toList (r+1);have a4:=hid (Rd.uw s.data.toList (r+1));clear m t B o c44;obtain⟨q4,a9⟩:∃q,Rd.skip s.data.toList (r+1)=q:=⟨_,rfl⟩;rw[a9] at M c4 HM a4
    have e1:∀N,Inv C r N->zu N R s r->Calls prog 91 #[.pointer (some ⟨R,0,none⟩)] (N.setCell ⟨R,1,none⟩ (.int .i64 ((r:Int)+1))) λi w'=>i = .returned (.tuple #[])/\Inv C q4 w':=λN h h'=>by
     have hm:=h'.move (r+1);rw[show ((r+1:Nat):Int)=(r:Int)+1 by omega] at hm;refine (Yj s R (r+1) _ hm (by omega) hs).mono ?_;rintro i w' ⟨rfl,O,P⟩;rw[a9] at P;exact⟨rfl,j.out.mv _ _ _ _ _ h (by omega) (zW (yS _ _ _ _) O) P⟩
    clear a9
    go_wp2_with (first
     | (go_at_fn g;refine n.mono ?_;rintro i N ⟨rfl,G⟩)
     | (go_at_call 91;refine (e1 w5 I a7.out).mono ?_;rintro i w6 ⟨rfl,b9⟩)
     | (go_at_call 91;refine (z N G).mono ?_;rintro i w4 ⟨rfl,H⟩)
     | (go_at_call 140;refine (v w4 H).mono ?_;rintro i w5 ⟨rfl,I,x⟩;have a7:=hid x;obtain⟨g1,g2,g3⟩:=x))
    have b7:=(j.out.rd _ _ _ b9).at
    go_roundw
    case rel=>exact⟨f,C,q4,by omega,b9,M,a4.out,by omega,Q.out.symm.trans HM.out⟩
    case measure=>rw[d5.out,b7];omega
   have d44:((V:Int)==44)=false:=by rw[qI];omega
   by_cases ce3:V=e
   ·have d0:((V:Int)==(e:Int))=true:=by rw[kH];omega
    have HM:=t ce3;have c3:=o (by omega);clear m t B o c44 ce3
    go_wp2_with (first
     | (go_at_fn g;refine n.mono ?_;rintro i N ⟨rfl,G⟩)
     | (go_at_call 91;refine (z N G).mono ?_;rintro i w4 ⟨rfl,H⟩)
     | (go_at_call 140;refine (v w4 H).mono ?_;rintro i w5 ⟨rfl,I,x⟩;have a7:=hid x;obtain⟨g1,g2,g3⟩:=x))
    go_ret;refine jS.of ?_ HM.out;refine⟨rfl,j.out.mv _ _ _ _ _ I (by omega) (yS _ _ _ _) ?_⟩
    have:=a7.out.move (r+1)
    rwa [show ((r+1:Nat):Int)=(r:Int)+1 by omega] at this
   ·have d0:((V:Int)==(e:Int))=false:=by rw[qI];omega
    have HM:=B c44 ce3;clear m t B o c44 ce3
    go_wp2_with (first
     | (go_at_fn g;refine n.mono ?_;rintro i N ⟨rfl,G⟩)
     | (go_at_call 91;refine (z N G).mono ?_;rintro i w4 ⟨rfl,H⟩)
     | (go_at_call 140;refine (v w4 H).mono ?_;rintro i w5 ⟨rfl,I,x⟩)
     | (go_at_call 93;refine (Q9 s R r w5 x).mono ?_;rintro i w6 ⟨rfl,rfl⟩))
    go_ret;refine jS.of ?_ HM.out;exact⟨rfl,j.out.bad _ _ _ I⟩
inductive ValAt (w:World) (S:Nat->Prop):Rd.V->Value->Prop
 | str (t:BY):ValAt w S (.str t) (.iface 274 (.string t))
 | word (b:Bool):ValAt w S (.word b) (.iface 275 (.bool b))
 | list (vs:List Rd.V) (us:List Value) (ao:Option Addr) (cap:Nat):us.length=vs.length ->
   (us=[]\/∃b,ao=some ⟨b,0,none⟩/\S b/\∀(j:Nat) (u:Value),us[j]?=some u->w.cell? ⟨b,j,none⟩=some u) ->
   (∀(j:Nat) (v:Rd.V) (u:Value),vs[j]?=some v->us[j]?=some u->ValAt w S v u)->ValAt w S (.list vs) (.iface 125 (.slice ao us.length cap))
 | obj (ms:List (BY×Rd.V)) (us:List (BY×Value)) (ao:Option Addr) (cap:Nat):us.map Prod.fst=ms.map Prod.fst ->
   (us=[]\/∃b,ao=some ⟨b,0,none⟩/\S b/\∀(j:Nat) (x:BY×Value),us[j]?=some x->w.cell? ⟨b,j*2,none⟩=some (.string x.1)/\w.cell? ⟨b,j*2+1,none⟩=some x.2) ->
   (∀(j:Nat) (x:BY×Rd.V) (u:BY×Value),ms[j]?=some x->us[j]?=some u->ValAt w S x.2 u.2)->ValAt w S (.obj ms) (.iface 122 (.slice ao us.length cap))
theorem ValAt.move{w w':World}{S k:Nat->Prop}{v:Rd.V}{u:Value}(h:ValAt w S v u)(l:∀b,S b->k b)(f:∀b,S b->w'.heap[b]?=w.heap[b]?):ValAt w' k v u:=by
 induction h with
 | str t=>exact .str t
 | word b=>exact .word b
 | list o i d cap e c _ g=>
  refine .list o i d cap e ?_ g
  rcases c with c|⟨b,ha,hb,hc⟩
  ·exact .inl c
  ·exact .inr ⟨b,ha,l b hb,λj u n=>by rw[QJ (a:=⟨b,j,none⟩) (f b hb)];exact hc j u n⟩
 | obj ms i d cap e c _ g=>
  refine .obj ms i d cap e ?_ g
  rcases c with c|⟨b,ha,hb,hc⟩
  ·exact .inl c
  ·exact .inr ⟨b,ha,l b hb,λj x m=>⟨by rw[QJ (a:=⟨b,j*2,none⟩) (f b hb)];exact (hc j x m).1,by rw[QJ (a:=⟨b,j*2+1,none⟩) (f b hb)];exact (hc j x m).2⟩⟩
theorem ValAt.iface{w:World}{S:Nat->Prop}{v:Rd.V}{u:Value}(h:ValAt w S v u):∃T x,u = .iface T x:=by
 cases h with
 | str t=>exact⟨_,_,rfl⟩
 | word b=>exact⟨_,_,rfl⟩
 | list=>exact⟨_,_,rfl⟩
 | obj=>exact⟨_,_,rfl⟩
def Blk(w w':World)(b:Nat):Prop:=w.heap.size<=b/\b<w'.heap.size
def starts(s:BY)(p:Nat):Bool:=Rd.zk s.data.toList p==123||Rd.zk s.data.toList p==91||Rd.zk s.data.toList p==34||Rd.zk s.data.toList p==116||Rd.zk s.data.toList p==102
def vT(w:World)(R:Nat)(s:BY)(sb:Bool)(r:Rd.Res Rd.V)(e:Ending)(w':World):Prop:=match r with
 | .ok v q=>∃u,e = .returned (.tuple #[u,.nilIface])/\ValAt w' (Blk w w') v u/\w.grownBy w' (some R)/\zu w' R s q
 | .err c q=>∃u,e = .returned (.tuple #[u,kJ c q])/\((sb=true->∃T x,u = .iface T x)/\(sb=false->u = .nilIface))/\w.grownBy w' (some R)
theorem vT.of{w w':World}{R:Nat}{s:BY}{sb:Bool}{r a:Rd.Res Rd.V}{e:Ending}(h:vT w R s sb r e w')(b:a=r):vT w R s sb a e w':=b ▸ h
def ZE(s:BY)(R F:Nat):Prop:=∀f,f<F->∀(d p:Nat) (w:World),zu w R s p->qx w->p<=s.size->1<=d->d<=9->Rd.blank (Rd.zk s.data.toList p)=false->2*(s.size-p)<f ->
 Calls prog 92 #[.pointer (some ⟨R,0,none⟩),.int .i64 (d:Int)] w λe w'=>vT w R s (starts s p) (Rd.qm s.data.toList f d p) e w'
structure Z8 (w0:World) (R:Nat) (s:BY) (d:Nat) (acc:List Rd.V) (q:Nat) (wr:World):Prop where
 rd:zu wr R s q
 seq:qx wr
 grown:w0.grownBy wr (some R)
 size:w0.heap.size+3<=wr.heap.size
 len:acc.length<=q
 cx:wr.cell? ⟨w0.heap.size,0,none⟩=some (.pointer (some ⟨R,0,none⟩))
 cd:wr.cell? ⟨w0.heap.size+1,0,none⟩=some (.int .i64 (d:Int))
 row:∃lv us,wr.cell? ⟨w0.heap.size+2,0,none⟩=some lv/\wr.frozen? ⟨w0.heap.size+2,0,none⟩=false/\wr.ownsRow (w0.heap.size+3) 118 1 lv acc.length us /\
  ∀(j:Nat) (v:Rd.V) (u:Value),acc[j]?=some v->us[j]?=some u->ValAt wr (λb=>w0.heap.size+3<=b/\b<wr.heap.size/\lv.ownBlock≠some b) v u
def Yw(a:World)(R:Nat)(wr:World):Prop:=a.grownBy wr (some R)/\∃lv,wr.cell? ⟨a.heap.size+2,0,none⟩=some lv
theorem Z8.mv{e:World}{R:Nat}{s:BY}{d:Nat}{acc:List Rd.V}{q g:Nat}{w w':World}(p:R<e.heap.size)(f:R≠5)(h:Z8 e R s d acc q w)(r:q<=g)(c:w.grownBy w' (some R))(k:zu w' R s g):Z8 e R s d acc g w':=by
 obtain⟨lv,o,c1,c2,c3,c4⟩:=h.row;have l:=h.size;have i:=c.size;refine⟨k,h.seq.grown c f,zW h.grown c,by omega,by have:=h.len;omega,c.cell h.cx (by simp;omega),c.cell h.cd (by simp;omega),lv,o,c.cell c1 (by simp;omega),?_,vL c3 c (by omega),λj v u n m=>(c4 j v u n m).move (λb hb=>⟨hb.1,by omega,hb.2.2⟩) (λb hb=>c.block b hb.2.1 (by simp;omega))⟩;rw[jd (w:=w) (a:=⟨e.heap.size+2,0,none⟩) (c.block _ (by show e.heap.size+2<_;omega) (by simp;omega))];exact c2
theorem SE:(prog.info? 118).map (λi=>(i.zero,i.size,i.bytes))=some (some .nilIface,1,16):=by kernel_rfl
theorem rH{α:Type}{xs:List α}{x:α}{j:Nat}{u:α}(h:(xs++[x])[j]?=some u):(j<xs.length/\xs[j]?=some u)\/(j=xs.length/\u=x):=by
 rw[Z9] at h
 split at h
 ·rename_i a;exact .inl ⟨a,h⟩
 ·have a:=(zR.1 h).1;simp at a;have e:j=xs.length:=by omega
  subst e;simp at h;exact .inr ⟨rfl,h.symm⟩
end Go.Proofs.YtagnlbgbnfnapaaGreatDoor
