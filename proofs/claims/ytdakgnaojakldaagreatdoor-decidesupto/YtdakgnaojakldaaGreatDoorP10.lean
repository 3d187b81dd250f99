/- P -/
import Derived.Test.YtdakgnaojakldaaGreatDoorP03
import Derived.Test.YtdakgnaojakldaaGreatDoorP09
open Go.Proofs.Tryz
set_option maxRecDepth 100000
set_option maxHeartbeats 2000000
namespace Go.Proofs.YtdakgnaojakldaaGreatDoor
open Go.RowKit
def Yd(w:World)(ao:Option Addr)(ms:List (BY×Value)):Prop:=
 ms=[]\/∃b o,ao=some ⟨b,o,none⟩/\∀j,(h:j<ms.length)->w.cell? ⟨b,o+j*2,none⟩=some (.string ms[j].1)/\w.cell? ⟨b,o+j*2+1,none⟩=some ms[j].2
theorem ae{w w':World}{ao:Option Addr}{ms:List (BY×Value)}(h:Yd w ao ms)(hb:Below w.heap.size w w'):Yd w' ao ms:=by
 rcases h with h|⟨b,o,ha,hc⟩
 ·exact .inl h
 ·exact .inr ⟨b,o,ha,λj a=>⟨zh hb (hc j a).1,zh hb (hc j a).2⟩⟩
def QV(m:BY×Value):Value := .agg #[.string m.1,m.2]
def uB(ms:List (BY×Value))(j:Nat):BY×Value:=ms.getD j (⟨#[]⟩,.nilIface)
theorem YP(ms:List (BY×Value))(j:Nat)(h:j<ms.length):uB ms j=ms[j]:=by
 unfold uB;rw[zQ,zm h];rfl
theorem rP(ms:List (BY×Value))(ao:Option Addr)(cap g:Nat)(v:Array Value)(p:Nat->Bool)(w:World)(D:ms.length<=100000000000)(B:∀args w,(callFunc g args).run prog w = .ok (.enter g args) w)
  (z:Yd w ao ms)(s:∀m ∈ ms,∃T x,m.2 = .iface T x)(A:vI g v (λj=>QV (uB ms j)) ms.length p w) :
  Calls prog 95 #[.slice ao ms.length cap,.func (.func g) #[] v] w λe w'=>
   e = .returned (.tuple #[.int .i64 (((zx p ms.length).getD 0:Nat):Int),.bool (zx p ms.length).isSome])/\Below w.heap.size w w':=by
 generalize hF:zx p ms.length=F;have u:=hid hF;clear hF;go_enter func95,ntmps95
 go_wp2
 go_loopw [10] (λi wr=>∃k:Nat,k<=ms.length/\i = .int .i64 k/\(∀j,j<k->p j=false)/\Below w.heap.size w wr) (λi _=>ms.length-(intOf i).toNat)
 case atStart=>exact⟨0,zH _,rfl,λj h=>by omega,ze _ _⟩
 case round=>
  obtain⟨k,C,rfl,hb,q⟩:=hrel;have r:=hid hb;clear hb
  by_cases hlt:k<ms.length
  ·rcases z with rfl|⟨b,o,rfl,hc⟩
   ·simp at hlt
   have a:=λW hb=>A W k hlt hb;simp only[YP ms k hlt,QV] at a;obtain⟨t,q2⟩:=hc k hlt;obtain⟨E,f⟩:∃n,ms[k].1=n:=⟨_,rfl⟩;obtain⟨T,I,l⟩:=s ms[k] (qA hlt);rw[f] at t a;rw[l] at q2 a;have G:=zh q t;have H:=zh q q2;clear f l hc t q2;have c:=λO=>q.trans (nbl wr O |>.mono q.size)
   cases hpp:p k with
   | false=>
    rw[hpp] at a;have y:=hid hpp;clear hpp
    go_wp2_with (go_at_fn g;refine (a _ (c _)).mono ?_;rintro e w' ⟨rfl,d⟩)
    refine⟨⟨k+1,by omega,by go_num,λj h=>?_,(c _).trans (d.mono (c _).size)⟩,by simp[intOf];omega⟩
    by_cases hj:j=k
    ·subst hj;exact y.out
    ·exact r.out j (by omega)
   | true=>
    rw[hpp] at a;have e:=QO p ms.length k hlt r.out hpp;rw[u.out] at e;subst e;clear hpp
    go_wp2_with (go_at_fn g;refine (a _ (c _)).mono ?_;rintro e w' ⟨rfl,d⟩)
    go_ret2;exact⟨rfl,(c _).trans (d.mono (c _).size)⟩
  ·have e:=QP p ms.length (λj h=>r.out j (by omega));rw[u.out] at e;subst e
   go_wp2
   go_ret2;exact⟨rfl,q⟩
theorem EK(ms:List (BY×Value))(ao:Option Addr)(cap g:Nat)(d:Array Value)(p:Nat->Bool)(w:World)(i:ms.length<=100000000000)(f:∀args w,(callFunc g args).run prog w = .ok (.enter g args) w)
  (h:Yd w ao ms)(b:∀m ∈ ms,∃T x,m.2 = .iface T x)(k:vI g d (λj=>QV (uB ms j)) ms.length p w) :
  Calls prog 197 #[.slice ao ms.length cap,.func (.func g) #[] d] w λe w'=>
   e = .returned (.bool (zx p ms.length).isSome)/\Below w.heap.size w w':=by
 have c:=rP ms ao cap g d p w i f h b k;generalize zx p ms.length=F at c;go_enter func197,ntmps197
 go_wp2_with (go_at_call 95;refine c.mono ?_;rintro e w' ⟨rfl,a⟩)
 go_ret;exact⟨rfl,a⟩
theorem Et(g:Nat)(f:Array Value)(m:BY×Value)(B:Nat)(y:Bool)(w:World)(j:∀args w,(callFunc g args).run prog w = .ok (.enter g args) w)
  (h:w.cell? ⟨B,0,none⟩=some (.func (.func g) #[] f))(d:∀W,Below w.heap.size w W->Calls prog g (#[QV m]++f) W λe w'=>e = .returned (.bool y)/\Below W.heap.size W w') :
  Calls prog 198 #[QV m,.pointer (some ⟨B,0,none⟩)] w λe w'=>e = .returned (.bool (!y))/\Below w.heap.size w w':=by
 obtain⟨a,v⟩:=m;unfold QV at d |-;simp only at d |-;have i:=λO:Obj=>zh (nbl w O) h;have b:=λO:Obj=>nbl w O;go_enter func198,ntmps198
 go_wp2_with (go_at_fn g;refine (d _ (b _)).mono ?_;rintro e w' ⟨rfl,c⟩)
 go_ret;exact⟨rfl,(b _).trans (c.mono (b _).size)⟩
theorem Es(ms:List (BY×Value))(ao:Option Addr)(cap g:Nat)(a:Array Value)(p:Nat->Bool)(w:World)(o:ms.length<=100000000000)(i:∀args w,(callFunc g args).run prog w = .ok (.enter g args) w)
  (n:Yd w ao ms)(d:∀m ∈ ms,∃T x,m.2 = .iface T x)(q:vI g a (λj=>QV (uB ms j)) ms.length p w) :
  Calls prog 150 #[.slice ao ms.length cap,.func (.func g) #[] a] w λe w'=>
   e = .returned (.bool (uT p ms.length))/\Below w.heap.size w w':=by
 have h:∀args w,(callFunc 198 args).run prog w = .ok (.enter 198 args) w:=enters_of func198 (by kernel_rfl) rfl
 have c:=EK ms ao cap 198 #[.pointer (some ⟨w.heap.size,0,none⟩)] (λj=>!p j) (w.alloc (.cells #[.func (.func g) #[] a] 203)) o h
  (ae n (nbl w _)) d
  (λW j l hb=>by
    refine Et g a (uB ms j) w.heap.size (p j) W i ?_ (λf k=>q f j l (((nbl w _).trans (hb.mono (by simp))).trans (k.mono (by have:=hb.size;simp at this;omega))));exact zh hb (by simp))
 rw[Kq];generalize zx (λj=>!p j) ms.length=F at c;go_enter func150,ntmps150
 go_wp2_with (go_at_call 197;refine c.mono ?_;rintro e w' ⟨rfl,b⟩)
 go_ret;exact⟨rfl,(nbl w _).trans (b.mono (by simp))⟩
theorem Nz(nm:BY)(m:BY×Value)(B:Nat)(w:World)(c:w.cell? ⟨B,0,none⟩=some (.string nm)) :
  Calls prog 96 #[QV m,.pointer (some ⟨B,0,none⟩)] w λe w'=>e = .returned (.bool (m.1.toList==nm.toList))/\Below w.heap.size w w':=by
 obtain⟨a,v⟩:=m;unfold QV;simp only;have d:=λO:Obj=>zh (nbl w O) c;have b:=λO:Obj=>nbl w O;go_enter func96,ntmps96
 go_wp2
 go_ret;exact⟨rfl,b _⟩
def xz(ms:List (BY×Value))(nm:BY):Value:=match ms.find? (λm=>m.1.toList==nm.toList) with
 | some m=>m.2
 | none => .nilIface
theorem Nv(ms:List (BY×Value))(nm:BY):xz ms nm=match zx (λj=>(uB ms j).1.toList==nm.toList) ms.length with
  | some k=>(uB ms k).2
  | none => .nilIface:=by
 unfold xz
 cases hF:zx (λj=>(uB ms j).1.toList==nm.toList) ms.length with
 | none=>
  have:ms.find? (λm=>m.1.toList==nm.toList)=none:=by
   rw[Yv];intro m f;obtain⟨j,a,rfl⟩:=Qb f;unfold zx at hF;rw[Yv] at hF
   have:=hF j (jW.2 a)
   rwa [YP ms j a] at this
  rw[this]
 | some k=>
  unfold zx at hF;rw[VT] at hF;obtain⟨c,d,e⟩:=hF;have b:k<ms.length:=by simpa using d
  have:ms.find? (λm=>m.1.toList==nm.toList)=some ms[k]:=by
   rw[List.find?_eq_some_iff_getElem];refine⟨by rw[YP ms k b] at c;exact c,k,b,rfl,λj a=>?_⟩
   have:=e j a
   rw[YP ms j (by omega)] at this;exact this
  rw[this];simp only;rw[YP ms k b]
theorem fw(ms:List (BY×Value))(ao:Option Addr)(cap:Nat)(nm:BY)(w:World)(r:ms.length<=100000000000)(l:Yd w ao ms)(g:∀m ∈ ms,∃T x,m.2 = .iface T x) :
  Calls prog 51 #[.slice ao ms.length cap,.string nm] w λe w'=>e = .returned (xz ms nm)/\Below w.heap.size w w':=by
 have p:∀args w,(callFunc 96 args).run prog w = .ok (.enter 96 args) w:=enters_of func96 (by kernel_rfl) rfl
 have c:=rP ms ao cap 96 #[.pointer (some ⟨w.heap.size,0,none⟩)] (λj=>(uB ms j).1.toList==nm.toList) (w.alloc (.cells #[.string nm] 9)) r p
  (ae l (nbl w _)) g
  (λW j t hb=>Nz nm (uB ms j) w.heap.size W (zh hb (by simp)))
 have d:=Nv ms nm
 have hF:∀k,zx (λj=>(uB ms j).1.toList==nm.toList) ms.length=some k->k<ms.length:=λk h=>by
  unfold zx at h;rw[VT] at h
  simpa using h.2.1
 have f:=λO:Obj=>nbl w O
 cases hf:zx (λj=>(uB ms j).1.toList==nm.toList) ms.length with
 | none=>
  rw[hf] at c d;simp only at d;rw[d];clear d hF hf;go_enter func51,ntmps51
  go_wp2_with (go_at_call 95;refine c.mono ?_;rintro e w' ⟨rfl,a⟩)
  go_ret;exact⟨rfl,(f _).trans (a.mono (by simp))⟩
 | some k=>
  rw[hf] at c d;simp only at d;have i:=hF k hf;rw[d,YP ms k i]
  rcases l with rfl|⟨b,o,rfl,hc⟩
  ·simp at i
  obtain⟨s,q2⟩:=hc k i;obtain⟨u,n⟩:=Nm (ms[k].2);rw[n] at q2 |-;have q:(k:Int)<(ms.length:Int):=by omega
  clear d hF hf hc s n;go_enter func51,ntmps51
  go_wp2_with (go_at_call 95;refine c.mono ?_;rintro e w' ⟨rfl,a⟩;have v:=zh ((f (.cells #[.string nm] 9)).trans (a.mono (by simp))) q2)
  go_ret;exact⟨rfl,(f _).trans (a.mono (by simp))⟩
def ZU(c:Int)(q:Nat):Value:=
 if c=3 then .iface 141 (.agg #[.int .i64 (q:Int)])
 else if c=4 then .iface 142 (.agg #[.int .i64 (q:Int)])
 else .iface 140 (.agg #[.int .i64 (q:Int)])
theorem MM(q:Nat):ZU 4 q = .iface 142 (.agg #[.int .i64 (q:Int)]):=rfl
theorem Jn(c:Int)(q:Nat):∃T,ZU c q = .iface T (.agg #[.int .i64 (q:Int)]):=by
 unfold ZU;split
 ·exact⟨_,rfl⟩
 split
 ·exact⟨_,rfl⟩
 ·exact⟨_,rfl⟩
def vV{α:Type}(Inv:α->Nat->World->Prop)(Bad:World->Prop)(r:Rd.Res α)(e:Ending)(w':World):Prop:=match r with
 | .ok a q=>e = .returned .nilIface/\Inv a q w'
 | .err c q=>e = .returned (ZU c q)/\Bad w'
theorem vV.of{α:Type}{Inv:α->Nat->World->Prop}{Bad:World->Prop}{r a:Rd.Res α}{e:Ending}{w':World}(h:vV Inv Bad r e w')(b:a=r):vV Inv Bad a e w':=b ▸ h
structure Reads {α:Type} (s:BY) (R g:Nat) (lb:Array Value) (st:Nat->α->Nat->Rd.Res α) (F d:Nat) (Inv:α->Nat->World->Prop) (Bad:World->Prop):Prop where
 rd:∀a q w,Inv a q w->zu w R s q
 mv:∀a q q' w w',Inv a q w->q<=q'->w.grownBy w' (some R)->zu w' R s q'->Inv a q' w'
 bad:∀a q w,Inv a q w->Bad w
 adv:∀f a q a' q',q<=s.size->Rd.blank (Rd.zi s.data.toList q)=false->2*(s.size-q)<f->st f a q = .ok a' q'->q<q'/\q'<=s.size
 one:∀f a q w,f<F->d<=8->Inv a q w->q<=s.size->Rd.blank (Rd.zi s.data.toList q)=false->2*(s.size-q)<f->Calls prog g lb w λe w'=>vV Inv Bad (st f a q) e w'
theorem Pv{α:Type}{l:List UInt8}{st:Nat->α->Nat->Rd.Res α}{e f q q2:Nat}{a:α}{c:Int}(h:st f a q = .err c q2):Rd.vM l st e (f+1) a q = .err c q2:=by rw[Rd.vM,h]
theorem Pw{α:Type}{l:List UInt8}{st:Nat->α->Nat->Rd.Res α}{e f q q2:Nat}{a b:α}(h:st f a q = .ok b q2)(hb:Rd.zi l (Rd.skip l q2)=44):Rd.vM l st e (f+1) a q=Rd.vM l st e f b (Rd.skip l (Rd.skip l q2+1)):=by
 rw[Rd.vM,h];exact zb hb
theorem Pt{α:Type}{l:List UInt8}{st:Nat->α->Nat->Rd.Res α}{e f q q2:Nat}{a b:α}(h:st f a q = .ok b q2)(hb:Rd.zi l (Rd.skip l q2)=e)(c:e≠44):Rd.vM l st e (f+1) a q = .ok b (Rd.skip l q2+1):=by
 rw[Rd.vM,h];exact (za (by omega)).trans (zb hb)
theorem Ps{α:Type}{l:List UInt8}{st:Nat->α->Nat->Rd.Res α}{e f q q2:Nat}{a b:α}(h:st f a q = .ok b q2)(hb:Rd.zi l (Rd.skip l q2)≠44)(c:Rd.zi l (Rd.skip l q2)≠e):Rd.vM l st e (f+1) a q = .err 2 (Rd.skip l q2):=by
 rw[Rd.vM,h];exact (za hb).trans (za c)
theorem sQ{α:Type}(s:BY)(R p d e g F:Nat)(lb:Array Value)(st:Nat->α->Nat->Rd.Res α)(Inv:α->Nat->World->Prop)(Bad:World->Prop)(a:α)(w:World)
  (eg:∀args w,(callFunc g args).run prog w = .ok (.enter g args) w)(hR:Reads s R g lb st F d Inv Bad)
  (hi:Inv a p w)(hp:p<s.size)(hs:s.size<=4000)(hd:d<=100)(g0:e≠0)(d6:e≠44)(hF:2*(s.size-(p+1))+1<F) :
  Calls prog 190 #[.pointer (some ⟨R,0,none⟩),.int .i64 (d:Int),.int .u8 (e:Int),.func (.func g) #[] lb] w λi w'=>vV Inv Bad (Rd.uW s.data.toList st e F d a p) i w':=by
 have hr:=hR.rd a p w hi;have HI:=hid hi;have j:=hid hR;clear hi hR;have A:Rd.uW s.data.toList st e F d a p=Rd.uW s.data.toList st e F d a p:=rfl
 conv at A=>rhs;unfold Rd.uW
 have b9:zu (w.setCell ⟨R,1,none⟩ (.int .i64 ((p:Int)+1))) R s (p+1):=by
  have:=hr.move (p+1)
  rwa [show ((p+1:Nat):Int)=(p:Int)+1 by omega] at this
 have b4:=hid b9;obtain⟨h1,h2,h3⟩:=hr;clear b9
 by_cases c8:8<d
 ·rw[zb c8] at A;have Q:=hid A;have d8:decide (8<(d:Int))=true:=zy (by omega);clear A;go_enter func190,ntmps190
  go_wp2
  go_ret;refine vV.of ?_ Q.out;exact⟨rfl,j.out.bad _ _ _ HI.out⟩
 rw[za c8] at A;have d8:decide (8<(d:Int))=false:=zJ (by omega);have a1:=Rd.um s.data.toList (p+1) (by rw[Ref.zD];omega);rw[Ref.zD] at a1;have e1:=Rd.jB s.data.toList (p+1);have Z:=Rd.Zh s.data.toList (p+1);obtain⟨q,hq⟩:=Nm (Rd.skip s.data.toList (p+1));have y:=JB s R (p+1) _ b4.out (by omega) hs;rw[hq] at A a1 e1 Z y;obtain⟨b,hb⟩:=Nm (Rd.zi s.data.toList q);have e5:b<256:=by rw[<- hb];exact Rd.Q3 _ _
 rw[hb] at A
 have z:=y.mono (R':=λi w'=>i = .returned (.tuple #[])/\w.grownBy w' (some R)/\zu w' R s q) (by
  rintro i w' ⟨rfl,O,P⟩;exact⟨rfl,zT (jr _ _ _ _) O,P⟩)
 have v:∀w1,zu w1 R s q->w.grownBy w1 (some R)->Calls prog 143 #[.pointer (some ⟨R,0,none⟩)] w1 λi w'=>i = .returned (.int .u8 (b:Int))/\w.grownBy w' (some R)/\zu w' R s q:=λw1 h6 h7=>by
  refine (Vy s R q w1 h6 a1).mono ?_;rintro i w' ⟨rfl,O,P,_,_⟩;exact⟨by rw[hb],zT h7 P,O⟩
 clear y
 by_cases ce:b=e
 ·rw[zb ce] at A;have Q:=hid A
  have c2:q<s.size:=by
   have:=Rd.qo s.data.toList q (by rw[hb];omega)
   rwa [Ref.zD] at this
  have de:((b:Int)==(e:Int))=true:=by rw[vJ];omega
  clear A hb hq Z;go_enter func190,ntmps190
  go_wp2_with (first
   | (go_at_call 92;refine z.mono ?_;rintro i w1 ⟨rfl,W,a0⟩)
   | (go_at_call 143;refine (v w1 a0 W).mono ?_;rintro i w2 ⟨rfl,X,K⟩;have S:=hid K;obtain⟨g1,g2,g3⟩:=K))
  go_ret;refine vV.of ?_ Q.out;refine⟨rfl,j.out.mv a p _ w _ HI.out (by omega) (zT X (jr _ _ _ _)) ?_⟩
  have:=S.out.move (q+1)
  rwa [show ((q+1:Nat):Int)=(q:Int)+1 by omega] at this
 rw[za ce] at A;have de:((b:Int)==(e:Int))=false:=by rw[qP];omega
 have Q:=hid A;have b5:=hid Z;clear A hb hq Z;go_enter func190,ntmps190
 go_wp2_with (first
  | (go_at_call 92;refine z.mono ?_;rintro i w1 ⟨rfl,W,a0⟩)
  | (go_at_call 143;refine (v w1 a0 W).mono ?_;rintro i w2 ⟨rfl,X,K⟩))
 have S:=hid K;have b2:=hid X;clear a0 W K X v z h1 h2 h3
 go_loopw [38] (λ_ wr=>∃(f:Nat) (a':α) (q':Nat),f<=F/\Inv a' q' wr/\q'<=s.size/\Rd.blank (Rd.zi s.data.toList q')=false/\2*(s.size-q')+1<f/\Rd.vM s.data.toList st e F a q=Rd.vM s.data.toList st e f a' q') (λ_ wr=>s.size-V9 wr R)
 case atStart=>exact⟨F,a,q,zf _,j.out.mv a p q w w2 HI.out (by omega) b2.out S.out,a1,b5.out,by omega,rfl⟩
 case round=>
  obtain⟨f,a',q',g5,Y,c0,J,g4,c4⟩:=hrel;obtain⟨f,rfl⟩:∃k,f=k+1:=⟨f-1,by omega⟩;have u:=j.out.one f a' q' wr (by omega) (by omega) Y c0 J (by omega);have d4:=hid (j.out.rd _ _ _ Y).at;have U:=hid c4;have f1:=hid Y;have D:=hid (λC q2=>j.out.adv f a' q' C q2 c0 J (by omega));clear c4 Y S b2 b5 b4 J
  cases hx:st f a' q' with
  | err c q2=>
   rw[hx] at u;have b1:=hid (Q.out.trans (U.out.trans (Pv hx)));obtain⟨T,hT⟩:=Jn c q2
   have n:=u.mono (R':=λi w'=>i = .returned (.iface T (.agg #[.int .i64 (q2:Int)]))/\Bad w') (by
    rintro i w' ⟨rfl,h⟩;exact⟨by rw[hT],h⟩)
   have HT:=hid hT;clear u hx D hT
   go_wp2_with (go_at_fn g;refine n.mono ?_;rintro i N ⟨rfl,b7⟩)
   go_ret;refine vV.of ?_ b1.out;exact⟨by rw[HT.out];rfl,b7⟩
  | ok C q2=>
   rw[hx] at u;obtain⟨d3,a7⟩:=D.out C q2 hx;have L:=Rd.um s.data.toList q2 (by rw[Ref.zD];omega);rw[Ref.zD] at L;have a5:=Rd.jB s.data.toList q2;have m:=λh=>hid (Q.out.trans (U.out.trans (Pw (e:=e) (l:=s.data.toList) hx h)));have t:=λh=>hid (Q.out.trans (U.out.trans (Pt (e:=e) (l:=s.data.toList) hx h d6)));have B:=λh h'=>hid (Q.out.trans (U.out.trans (Ps (e:=e) (l:=s.data.toList) hx h h')));have y:=λw1 (h:Inv C q2 w1)=>JB s R q2 w1 (j.out.rd _ _ _ h) a7 hs;obtain⟨r,c1⟩:∃q,Rd.skip s.data.toList q2=q:=⟨_,rfl⟩;simp only[c1] at L a5 m t B y;obtain⟨V,E⟩:∃b,Rd.zi s.data.toList r=b:=⟨_,rfl⟩;have d5:V<256:=by rw[<- E];exact Rd.Q3 _ _
   have o:V≠0->r<s.size:=λh=>by
    have:=Rd.qo s.data.toList r (by rw[E];exact h)
    rwa [Ref.zD] at this
   simp only[E] at m t B
   have n:=u.mono (R':=λi w'=>i = .returned .nilIface/\Inv C q2 w') (by
    rintro i w' ⟨rfl,h⟩;exact⟨rfl,h⟩)
   have z:∀w1,Inv C q2 w1->Calls prog 92 #[.pointer (some ⟨R,0,none⟩)] w1 λi w'=>i = .returned (.tuple #[])/\Inv C r w':=λw1 h=>by
    refine (y w1 h).mono ?_;rintro i w' ⟨rfl,O,P⟩;exact⟨rfl,j.out.mv _ _ _ _ _ h a5 O P⟩
   have v:∀w1,Inv C r w1->Calls prog 143 #[.pointer (some ⟨R,0,none⟩)] w1 λi w'=>i = .returned (.int .u8 (V:Int))/\Inv C r w'/\zu w' R s r:=λw1 h=>by
    refine (Vy s R r w1 (j.out.rd _ _ _ h) L).mono ?_;rintro i w' ⟨rfl,O,P,_,_⟩;exact⟨by rw[E],j.out.mv _ _ _ _ _ h (zf _) P O,O⟩
   clear u hx D y E c1
   by_cases c44:V=44
   ·have d44:(V:Int)=44:=by omega
    have HM:=m c44;have c2:=o (by omega);have M:=Rd.um s.data.toList (r+1) (by rw[Ref.zD];omega);rw[Ref.zD] at M;have c3:=Rd.jB s.data.toList (r+1);have a4:=hid (Rd.Zh s.data.toList (r+1));clear m t B o c44;obtain⟨q4,a8⟩:∃q,Rd.skip s.data.toList (r+1)=q:=⟨_,rfl⟩;rw[a8] at M c3 HM a4
    have e0:∀N,Inv C r N->zu N R s r->Calls prog 92 #[.pointer (some ⟨R,0,none⟩)] (N.setCell ⟨R,1,none⟩ (.int .i64 ((r:Int)+1))) λi w'=>i = .returned (.tuple #[])/\Inv C q4 w':=λN h h'=>by
     have hm:=h'.move (r+1);rw[show ((r+1:Nat):Int)=(r:Int)+1 by omega] at hm;refine (JB s R (r+1) _ hm (by omega) hs).mono ?_;rintro i w' ⟨rfl,O,P⟩;rw[a8] at P;exact⟨rfl,j.out.mv _ _ _ _ _ h (by omega) (zT (jr _ _ _ _) O) P⟩
    clear a8
    go_wp2_with (first
     | (go_at_fn g;refine n.mono ?_;rintro i N ⟨rfl,G⟩)
     | (go_at_call 92;refine (e0 w5 I a6.out).mono ?_;rintro i w6 ⟨rfl,b8⟩)
     | (go_at_call 92;refine (z N G).mono ?_;rintro i w4 ⟨rfl,H⟩)
     | (go_at_call 143;refine (v w4 H).mono ?_;rintro i w5 ⟨rfl,I,x⟩;have a6:=hid x;obtain⟨g1,g2,g3⟩:=x))
    have b6:=(j.out.rd _ _ _ b8).at
    go_roundw
    case rel=>exact⟨f,C,q4,by omega,b8,M,a4.out,by omega,Q.out.symm.trans HM.out⟩
    case measure=>rw[d4.out,b6];omega
   have d44:((V:Int)==44)=false:=by rw[qP];omega
   by_cases ce3:V=e
   ·have c9:((V:Int)==(e:Int))=true:=by rw[vJ];omega
    have HM:=t ce3;have c2:=o (by omega);clear m t B o c44 ce3
    go_wp2_with (first
     | (go_at_fn g;refine n.mono ?_;rintro i N ⟨rfl,G⟩)
     | (go_at_call 92;refine (z N G).mono ?_;rintro i w4 ⟨rfl,H⟩)
     | (go_at_call 143;refine (v w4 H).mono ?_;rintro i w5 ⟨rfl,I,x⟩;have a6:=hid x;obtain⟨g1,g2,g3⟩:=x))
    go_ret;refine vV.of ?_ HM.out;refine⟨rfl,j.out.mv _ _ _ _ _ I (by omega) (jr _ _ _ _) ?_⟩
    have:=a6.out.move (r+1)
    rwa [show ((r+1:Nat):Int)=(r:Int)+1 by omega] at this
   ·have c9:((V:Int)==(e:Int))=false:=by rw[qP];omega
    have HM:=B c44 ce3;clear m t B o c44 ce3
    go_wp2_with (first
     | (go_at_fn g;refine n.mono ?_;rintro i N ⟨rfl,G⟩)
     | (go_at_call 92;refine (z N G).mono ?_;rintro i w4 ⟨rfl,H⟩)
     | (go_at_call 143;refine (v w4 H).mono ?_;rintro i w5 ⟨rfl,I,x⟩)
     | (go_at_call 94;refine (Yq s R r w5 x).mono ?_;rintro i w6 ⟨rfl,rfl⟩))
    go_ret;refine vV.of ?_ HM.out;exact⟨rfl,j.out.bad _ _ _ I⟩
inductive ValAt (w:World) (S:Nat->Prop):Rd.V->Value->Prop
 | str (t:BY):ValAt w S (.str t) (.iface 270 (.string t))
 | word (b:Bool):ValAt w S (.word b) (.iface 271 (.bool b))
 | list (vs:List Rd.V) (us:List Value) (ao:Option Addr) (cap:Nat):us.length=vs.length ->
   (us=[]\/∃b,ao=some ⟨b,0,none⟩/\S b/\∀(j:Nat) (u:Value),us[j]?=some u->w.cell? ⟨b,j,none⟩=some u) ->
   (∀(j:Nat) (v:Rd.V) (u:Value),vs[j]?=some v->us[j]?=some u->ValAt w S v u)->ValAt w S (.list vs) (.iface 121 (.slice ao us.length cap))
 | obj (ms:List (BY×Rd.V)) (us:List (BY×Value)) (ao:Option Addr) (cap:Nat):us.map Prod.fst=ms.map Prod.fst ->
   (us=[]\/∃b,ao=some ⟨b,0,none⟩/\S b/\∀(j:Nat) (x:BY×Value),us[j]?=some x->w.cell? ⟨b,j*2,none⟩=some (.string x.1)/\w.cell? ⟨b,j*2+1,none⟩=some x.2) ->
   (∀(j:Nat) (x:BY×Rd.V) (u:BY×Value),ms[j]?=some x->us[j]?=some u->ValAt w S x.2 u.2)->ValAt w S (.obj ms) (.iface 118 (.slice ao us.length cap))
theorem ValAt.move{w w':World}{S i:Nat->Prop}{v:Rd.V}{u:Value}(h:ValAt w S v u)(k:∀b,S b->i b)(e:∀b,S b->w'.heap[b]?=w.heap[b]?):ValAt w' i v u:=by
 induction h with
 | str t=>exact .str t
 | word b=>exact .word b
 | list n g ao cap d c _ f=>
  refine .list n g ao cap d ?_ f
  rcases c with c|⟨b,ha,hb,hc⟩
  ·exact .inl c
  ·exact .inr ⟨b,ha,k b hb,λj u m=>by rw[QH (a:=⟨b,j,none⟩) (e b hb)];exact hc j u m⟩
 | obj ms g ao cap d c _ f=>
  refine .obj ms g ao cap d ?_ f
  rcases c with c|⟨b,ha,hb,hc⟩
  ·exact .inl c
  ·exact .inr ⟨b,ha,k b hb,λj x l=>⟨by rw[QH (a:=⟨b,j*2,none⟩) (e b hb)];exact (hc j x l).1,by rw[QH (a:=⟨b,j*2+1,none⟩) (e b hb)];exact (hc j x l).2⟩⟩
theorem ValAt.iface{w:World}{S:Nat->Prop}{v:Rd.V}{u:Value}(h:ValAt w S v u):∃T x,u = .iface T x:=by
 cases h with
 | str t=>exact⟨_,_,rfl⟩
 | word b=>exact⟨_,_,rfl⟩
 | list=>exact⟨_,_,rfl⟩
 | obj=>exact⟨_,_,rfl⟩
def Blk(w w':World)(b:Nat):Prop:=w.heap.size<=b/\b<w'.heap.size
def starts(s:BY)(p:Nat):Bool:=Rd.zi s.data.toList p==123||Rd.zi s.data.toList p==91||Rd.zi s.data.toList p==34||Rd.zi s.data.toList p==116||Rd.zi s.data.toList p==102
def uS(w:World)(R:Nat)(s:BY)(sb:Bool)(r:Rd.Res Rd.V)(e:Ending)(w':World):Prop:=match r with
 | .ok v q=>∃u,e = .returned (.tuple #[u,.nilIface])/\ValAt w' (Blk w w') v u/\w.grownBy w' (some R)/\zu w' R s q
 | .err c q=>∃u,e = .returned (.tuple #[u,ZU c q])/\((sb=true->∃T x,u = .iface T x)/\(sb=false->u = .nilIface))/\w.grownBy w' (some R)
theorem uS.of{w w':World}{R:Nat}{s:BY}{sb:Bool}{r a:Rd.Res Rd.V}{e:Ending}(h:uS w R s sb r e w')(b:a=r):uS w R s sb a e w':=b ▸ h
def QG(s:BY)(R F:Nat):Prop:=∀f,f<F->∀(d p:Nat) (w:World),zu w R s p->qE w->p<=s.size->1<=d->d<=9->Rd.blank (Rd.zi s.data.toList p)=false->2*(s.size-p)<f ->
 Calls prog 93 #[.pointer (some ⟨R,0,none⟩),.int .i64 (d:Int)] w λe w'=>uS w R s (starts s p) (Rd.qx s.data.toList f d p) e w'
structure Xb (w0:World) (R:Nat) (s:BY) (d:Nat) (acc:List Rd.V) (q:Nat) (wr:World):Prop where
 rd:zu wr R s q
 seq:qE wr
 grown:w0.grownBy wr (some R)
 size:w0.heap.size+3<=wr.heap.size
 len:acc.length<=q
 cx:wr.cell? ⟨w0.heap.size,0,none⟩=some (.pointer (some ⟨R,0,none⟩))
 cd:wr.cell? ⟨w0.heap.size+1,0,none⟩=some (.int .i64 (d:Int))
 row:∃lv us,wr.cell? ⟨w0.heap.size+2,0,none⟩=some lv/\wr.frozen? ⟨w0.heap.size+2,0,none⟩=false/\wr.ownsRow (w0.heap.size+3) 114 1 lv acc.length us /\
  ∀(j:Nat) (v:Rd.V) (u:Value),acc[j]?=some v->us[j]?=some u->ValAt wr (λb=>w0.heap.size+3<=b/\b<wr.heap.size/\lv.ownBlock≠some b) v u
def JL(a:World)(R:Nat)(wr:World):Prop:=a.grownBy wr (some R)/\∃lv,wr.cell? ⟨a.heap.size+2,0,none⟩=some lv
theorem Xb.mv{e:World}{R:Nat}{s:BY}{d:Nat}{acc:List Rd.V}{q g:Nat}{w w':World}(p:R<e.heap.size)(f:R≠5)(h:Xb e R s d acc q w)(r:q<=g)(c:w.grownBy w' (some R))(k:zu w' R s g):Xb e R s d acc g w':=by
 obtain⟨lv,o,c1,c2,c3,c4⟩:=h.row;have l:=h.size;have i:=c.size;refine⟨k,h.seq.grown c f,zT h.grown c,by omega,by have:=h.len;omega,c.cell h.cx (by simp;omega),c.cell h.cd (by simp;omega),lv,o,c.cell c1 (by simp;omega),?_,uD c3 c (by omega),λj v u n m=>(c4 j v u n m).move (λb hb=>⟨hb.1,by omega,hb.2.2⟩) (λb hb=>c.block b hb.2.1 (by simp;omega))⟩;rw[jI (w:=w) (a:=⟨e.heap.size+2,0,none⟩) (c.block _ (by show e.heap.size+2<_;omega) (by simp;omega))];exact c2
theorem zcP:(prog.info? 114).map (λi=>(i.zero,i.size,i.bytes))=some (some .nilIface,1,16):=by kernel_rfl
theorem BP{α:Type}{xs:List α}{x:α}{j:Nat}{u:α}(h:(xs++[x])[j]?=some u):(j<xs.length/\xs[j]?=some u)\/(j=xs.length/\u=x):=by
 rw[Xd] at h
 split at h
 ·rename_i a;exact .inl ⟨a,h⟩
 ·have a:=(zW.1 h).1;simp at a;have e:j=xs.length:=by omega
  subst e;simp at h;exact .inr ⟨rfl,h.symm⟩
end Go.Proofs.YtdakgnaojakldaaGreatDoor
