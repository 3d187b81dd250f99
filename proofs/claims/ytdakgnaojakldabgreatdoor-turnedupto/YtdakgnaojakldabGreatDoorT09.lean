/- P -/
import Derived.Test.YtdakgnaojakldabGreatDoorT02
import Derived.Test.YtdakgnaojakldabGreatDoorT08
open Go.Proofs.Tryz
set_option maxRecDepth 100000
set_option maxHeartbeats 2000000
namespace Go.Proofs.YtdakgnaojakldabGreatDoor
open Go.RowKit
def Z6(w:World)(ao:Option Addr)(ms:List (BA×Value)):Prop:=
 ms=[]\/∃b o,ao=some ⟨b,o,none⟩/\∀j,(h:j<ms.length)->w.cell? ⟨b,o+j*2,none⟩=some (.string ms[j].1)/\w.cell? ⟨b,o+j*2+1,none⟩=some ms[j].2
theorem JI{w d:World}{ao:Option Addr}{ms:List (BA×Value)}(h:Z6 w ao ms)(a:Below w.heap.size w d):Z6 d ao ms:=by
 rcases h with h|⟨b,o,ha,hc⟩
 ·exact .inl h
 ·exact .inr ⟨b,o,ha,λj c=>⟨zb a (hc j c).1,zb a (hc j c).2⟩⟩
def kH(m:BA×Value):Value := .agg #[.string m.1,m.2]
def jh(ms:List (BA×Value))(j:Nat):BA×Value:=ms.getD j (⟨#[]⟩,.nilIface)
theorem Qs(ms:List (BA×Value))(j:Nat)(h:j<ms.length):jh ms j=ms[j]:=by
 unfold jh;rw[List.getD_eq_getElem?_getD,List.getElem?_eq_getElem h];rfl
theorem dE(ms:List (BA×Value))(ao:Option Addr)(cap g:Nat)(z:Array Value)(p:Nat->Bool)(w:World)(G:ms.length<=100000000000)(D:∀args w,(callFunc g args).run prog w = .ok (.enter g args) w)
  (B:Z6 w ao ms)(t:∀m ∈ ms,∃T x,m.2 = .iface T x)(C:yE g z (λj=>kH (jh ms j)) ms.length p w) :
  Calls prog 54 #[.slice ao ms.length cap,.func (.func g) #[] z] w λe v=>
   e = .returned (.tuple #[.int .i64 (((zm p ms.length).getD 0:Nat):Int),.bool (zm p ms.length).isSome])/\Below w.heap.size w v:=by
 generalize hF:zm p ms.length=F;have y:=hid hF;clear hF;go_enter func54,ntmps54
 go_wp2
 go_loopw [10] (λi wr=>∃k:Nat,k<=ms.length/\i = .int .i64 k/\(∀j,j<k->p j=false)/\Below w.heap.size w wr) (λi _=>ms.length-(intOf i).toNat)
 case atStart=>exact⟨0,Nat.zero_le _,rfl,λj h=>by omega,Below.refl _ _⟩
 case round=>
  obtain⟨k,E,rfl,r,q⟩:=hrel;have s:=hid r;clear r
  by_cases hlt:k<ms.length
  ·rcases B with rfl|⟨b,o,rfl,hc⟩
   ·simp at hlt
   have a:=λW r=>C W k hlt r;simp only[Qs ms k hlt,kH] at a;obtain⟨u,q2⟩:=hc k hlt;obtain⟨H,f⟩:∃n,ms[k].1=n:=⟨_,rfl⟩;obtain⟨T,K,l⟩:=t ms[k] (List.getElem_mem hlt);rw[f] at u a;rw[l] at q2 a;have I:=zb q u;have J:=zb q q2;clear f l hc u q2;have c:=λO=>q.trans (nB wr O |>.mono q.size)
   cases hpp:p k with
   | false=>
    rw[hpp] at a;have A:=hid hpp;clear hpp
    go_wp2_with (go_at_fn g;refine (a _ (c _)).mono ?_;rintro e v ⟨rfl,d⟩)
    refine⟨⟨k+1,by omega,by go_num,λj h=>?_,(c _).trans (d.mono (c _).size)⟩,by simp[intOf];omega⟩
    by_cases hj:j=k
    ·subst hj;exact A.out
    ·exact s.out j (by omega)
   | true=>
    rw[hpp] at a;have e:=kD p ms.length k hlt s.out hpp;rw[y.out] at e;subst e;clear hpp
    go_wp2_with (go_at_fn g;refine (a _ (c _)).mono ?_;rintro e v ⟨rfl,d⟩)
    go_ret2;exact⟨rfl,(c _).trans (d.mono (c _).size)⟩
  ·have e:=kE p ms.length (λj h=>s.out j (by omega));rw[y.out] at e;subst e
   go_wp2
   go_ret2;exact⟨rfl,q⟩
theorem pz(ms:List (BA×Value))(ao:Option Addr)(cap g:Nat)(d:Array Value)(p:Nat->Bool)(w:World)(k:ms.length<=100000000000)(h:∀args w,(callFunc g args).run prog w = .ok (.enter g args) w)
  (i:Z6 w ao ms)(b:∀m ∈ ms,∃T x,m.2 = .iface T x)(l:yE g d (λj=>kH (jh ms j)) ms.length p w) :
  Calls prog 110 #[.slice ao ms.length cap,.func (.func g) #[] d] w λe f=>
   e = .returned (.bool (zm p ms.length).isSome)/\Below w.heap.size w f:=by
 have c:=dE ms ao cap g d p w k h i b l;generalize zm p ms.length=F at c;go_enter func110,ntmps110
 go_wp2_with (go_at_call 54;refine c.mono ?_;rintro e f ⟨rfl,a⟩)
 go_ret;exact⟨rfl,a⟩
theorem oL(g:Nat)(h:Array Value)(m:BA×Value)(B:Nat)(y:Bool)(w:World)(k:∀args w,(callFunc g args).run prog w = .ok (.enter g args) w)
  (i:w.cell? ⟨B,0,none⟩=some (.func (.func g) #[] h))(f:∀W,Below w.heap.size w W->Calls prog g (#[kH m]++h) W λe c=>e = .returned (.bool y)/\Below W.heap.size W c) :
  Calls prog 111 #[kH m,.pointer (some ⟨B,0,none⟩)] w λe c=>e = .returned (.bool (!y))/\Below w.heap.size w c:=by
 obtain⟨a,v⟩:=m;unfold kH at f |-;simp only at f |-;have j:=λO:Obj=>zb (nB w O) i;have b:=λO:Obj=>nB w O;go_enter func111,ntmps111
 go_wp2_with (go_at_fn g;refine (f _ (b _)).mono ?_;rintro e c ⟨rfl,d⟩)
 go_ret;exact⟨rfl,(b _).trans (d.mono (b _).size)⟩
theorem oK(ms:List (BA×Value))(ao:Option Addr)(cap g:Nat)(a:Array Value)(p:Nat->Bool)(w:World)(r:ms.length<=100000000000)(l:∀args w,(callFunc g args).run prog w = .ok (.enter g args) w)
  (q:Z6 w ao ms)(f:∀m ∈ ms,∃T x,m.2 = .iface T x)(s:yE g a (λj=>kH (jh ms j)) ms.length p w) :
  Calls prog 89 #[.slice ao ms.length cap,.func (.func g) #[] a] w λe h=>
   e = .returned (.bool (jD p ms.length))/\Below w.heap.size w h:=by
 have k:∀args w,(callFunc 111 args).run prog w = .ok (.enter 111 args) w:=enters_of func111 (by kernel_rfl) rfl
 have c:=pz ms ao cap 111 #[.pointer (some ⟨w.heap.size,0,none⟩)] (λj=>!p j) (w.alloc (.cells #[.func (.func g) #[] a] 140)) r k
  (JI q (nB w _)) f
  (λW j o b=>by
    refine oL g a (jh ms j) w.heap.size (p j) W l ?_ (λi n=>s i j o (((nB w _).trans (b.mono (by simp))).trans (n.mono (by have:=b.size;simp at this;omega))));exact zb b (by simp))
 rw[Y5];generalize zm (λj=>!p j) ms.length=F at c;go_enter func89,ntmps89
 go_wp2_with (go_at_call 110;refine c.mono ?_;rintro e h ⟨rfl,d⟩)
 go_ret;exact⟨rfl,(nB w _).trans (d.mono (by simp))⟩
theorem Df(nm:BA)(m:BA×Value)(B:Nat)(w:World)(c:w.cell? ⟨B,0,none⟩=some (.string nm)) :
  Calls prog 55 #[kH m,.pointer (some ⟨B,0,none⟩)] w λe f=>e = .returned (.bool (m.1.toList==nm.toList))/\Below w.heap.size w f:=by
 obtain⟨a,v⟩:=m;unfold kH;simp only;have d:=λO:Obj=>zb (nB w O) c;have b:=λO:Obj=>nB w O;go_enter func55,ntmps55
 go_wp2
 go_ret;exact⟨rfl,b _⟩
def qC(ms:List (BA×Value))(nm:BA):Value:=match ms.find? (λm=>m.1.toList==nm.toList) with
 | some m=>m.2
 | none => .nilIface
theorem Da(ms:List (BA×Value))(nm:BA):qC ms nm=match zm (λj=>(jh ms j).1.toList==nm.toList) ms.length with
  | some k=>(jh ms k).2
  | none => .nilIface:=by
 unfold qC
 cases hF:zm (λj=>(jh ms j).1.toList==nm.toList) ms.length with
 | none=>
  have:ms.find? (λm=>m.1.toList==nm.toList)=none:=by
   rw[List.find?_eq_none];intro m f;obtain⟨j,a,rfl⟩:=List.getElem_of_mem f;unfold zm at hF;rw[List.find?_eq_none] at hF
   have:=hF j (List.mem_range.2 a)
   rwa [Qs ms j a] at this
  rw[this]
 | some k=>
  unfold zm at hF;rw[List.find?_range_eq_some] at hF;obtain⟨c,d,e⟩:=hF;have b:k<ms.length:=by simpa using d
  have:ms.find? (λm=>m.1.toList==nm.toList)=some ms[k]:=by
   rw[List.find?_eq_some_iff_getElem];refine⟨by rw[Qs ms k b] at c;exact c,k,b,rfl,λj a=>?_⟩
   have:=e j a
   rw[Qs ms j (by omega)] at this;exact this
  rw[this];simp only;rw[Qs ms k b]
theorem Ul(ms:List (BA×Value))(ao:Option Addr)(cap:Nat)(nm:BA)(w:World)(t:ms.length<=100000000000)(n:Z6 w ao ms)(g:∀m ∈ ms,∃T x,m.2 = .iface T x) :
  Calls prog 31 #[.slice ao ms.length cap,.string nm] w λe l=>e = .returned (qC ms nm)/\Below w.heap.size w l:=by
 have q:∀args w,(callFunc 55 args).run prog w = .ok (.enter 55 args) w:=enters_of func55 (by kernel_rfl) rfl
 have c:=dE ms ao cap 55 #[.pointer (some ⟨w.heap.size,0,none⟩)] (λj=>(jh ms j).1.toList==nm.toList) (w.alloc (.cells #[.string nm] 9)) t q
  (JI n (nB w _)) g
  (λW j y r=>Df nm (jh ms j) w.heap.size W (zb r (by simp)))
 have d:=Da ms nm
 have hF:∀k,zm (λj=>(jh ms j).1.toList==nm.toList) ms.length=some k->k<ms.length:=λk h=>by
  unfold zm at h;rw[List.find?_range_eq_some] at h
  simpa using h.2.1
 have f:=λO:Obj=>nB w O
 cases hf:zm (λj=>(jh ms j).1.toList==nm.toList) ms.length with
 | none=>
  rw[hf] at c d;simp only at d;rw[d];clear d hF hf;go_enter func31,ntmps31
  go_wp2_with (go_at_call 54;refine c.mono ?_;rintro e l ⟨rfl,a⟩)
  go_ret;exact⟨rfl,(f _).trans (a.mono (by simp))⟩
 | some k=>
  rw[hf] at c d;simp only at d;have i:=hF k hf;rw[d,Qs ms k i]
  rcases n with rfl|⟨b,o,rfl,hc⟩
  ·simp at i
  obtain⟨v,q2⟩:=hc k i;obtain⟨u,p⟩:=Nm (ms[k].2);rw[p] at q2 |-;have s:(k:Int)<(ms.length:Int):=by omega
  clear d hF hf hc v p;go_enter func31,ntmps31
  go_wp2_with (go_at_call 54;refine c.mono ?_;rintro e l ⟨rfl,a⟩;have z:=zb ((f (.cells #[.string nm] 9)).trans (a.mono (by simp))) q2)
  go_ret;exact⟨rfl,(f _).trans (a.mono (by simp))⟩
def vY(c:Int)(q:Nat):Value:=
 if c=3 then .iface 113 (.agg #[.int .i64 (q:Int)])
 else if c=4 then .iface 114 (.agg #[.int .i64 (q:Int)])
 else .iface 112 (.agg #[.int .i64 (q:Int)])
theorem BQ(q:Nat):vY 4 q = .iface 114 (.agg #[.int .i64 (q:Int)]):=rfl
theorem QY(c:Int)(q:Nat):∃T,vY c q = .iface T (.agg #[.int .i64 (q:Int)]):=by
 unfold vY;split
 ·exact⟨_,rfl⟩
 split
 ·exact⟨_,rfl⟩
 ·exact⟨_,rfl⟩
def yR{α:Type}(Inv:α->Nat->World->Prop)(Bad:World->Prop)(r:Rd.Res α)(e:Ending)(b:World):Prop:=match r with
 | .ok a q=>e = .returned .nilIface/\Inv a q b
 | .err c q=>e = .returned (vY c q)/\Bad b
theorem yR.of{α:Type}{Inv:α->Nat->World->Prop}{Bad:World->Prop}{r a:Rd.Res α}{e:Ending}{b:World}(h:yR Inv Bad r e b)(c:a=r):yR Inv Bad a e b:=c ▸ h
structure Reads {α:Type} (s:BA) (R g:Nat) (lb:Array Value) (st:Nat->α->Nat->Rd.Res α) (F d:Nat) (Inv:α->Nat->World->Prop) (Bad:World->Prop):Prop where
 rd:∀a q w,Inv a q w->zi w R s q
 mv:∀a q q' w w',Inv a q w->q<=q'->w.grownBy w' (some R)->zi w' R s q'->Inv a q' w'
 bad:∀a q w,Inv a q w->Bad w
 adv:∀f a q a' q',q<=s.size->Rd.blank (Rd.ze s.data.toList q)=false->2*(s.size-q)<f->st f a q = .ok a' q'->q<q'/\q'<=s.size
 one:∀f a q w,f<F->d<=8->Inv a q w->q<=s.size->Rd.blank (Rd.ze s.data.toList q)=false->2*(s.size-q)<f->Calls prog g lb w λe w'=>yR Inv Bad (st f a q) e w'
theorem EA{α:Type}{l:List UInt8}{b:Nat->α->Nat->Rd.Res α}{e f q q2:Nat}{a:α}{c:Int}(h:b f a q = .err c q2):Rd.yI l b e (f+1) a q = .err c q2:=by rw[Rd.yI,h]
theorem EB{α:Type}{l:List UInt8}{b:Nat->α->Nat->Rd.Res α}{e f q q2:Nat}{a c:α}(h:b f a q = .ok c q2)(d:Rd.ze l (Rd.skip l q2)=44):Rd.yI l b e (f+1) a q=Rd.yI l b e f c (Rd.skip l (Rd.skip l q2+1)):=by
 rw[Rd.yI,h];exact if_pos d
theorem Ez{α:Type}{l:List UInt8}{c:Nat->α->Nat->Rd.Res α}{e f q q2:Nat}{a b:α}(h:c f a q = .ok b q2)(d:Rd.ze l (Rd.skip l q2)=e)(g:e≠44):Rd.yI l c e (f+1) a q = .ok b (Rd.skip l q2+1):=by
 rw[Rd.yI,h];exact (if_neg (by omega)).trans (if_pos d)
theorem Ey{α:Type}{l:List UInt8}{b:Nat->α->Nat->Rd.Res α}{e f q q2:Nat}{a c:α}(h:b f a q = .ok c q2)(d:Rd.ze l (Rd.skip l q2)≠44)(g:Rd.ze l (Rd.skip l q2)≠e):Rd.yI l b e (f+1) a q = .err 2 (Rd.skip l q2):=by
 rw[Rd.yI,h];exact (if_neg d).trans (if_neg g)
theorem eH{α:Type}(s:BA)(R p d e g F:Nat)(lb:Array Value)(st:Nat->α->Nat->Rd.Res α)(Inv:α->Nat->World->Prop)(Bad:World->Prop)(a:α)(w:World)
  (eg:∀args w,(callFunc g args).run prog w = .ok (.enter g args) w)(hR:Reads s R g lb st F d Inv Bad)
  (hi:Inv a p w)(hp:p<s.size)(hs:s.size<=4000)(hd:d<=100)(g4:e≠0)(d6:e≠44)(hF:2*(s.size-(p+1))+1<F) :
  Calls prog 103 #[.pointer (some ⟨R,0,none⟩),.int .i64 (d:Int),.int .u8 (e:Int),.func (.func g) #[] lb] w λi n=>yR Inv Bad (Rd.jG s.data.toList st e F d a p) i n:=by
 have hr:=hR.rd a p w hi;have HI:=hid hi;have j:=hid hR;clear hi hR;have C:Rd.jG s.data.toList st e F d a p=Rd.jG s.data.toList st e F d a p:=rfl
 conv at C=>rhs;unfold Rd.jG
 have b9:zi (w.setCell ⟨R,1,none⟩ (.int .i64 ((p:Int)+1))) R s (p+1):=by
  have:=hr.move (p+1)
  rwa [show ((p+1:Nat):Int)=(p:Int)+1 by omega] at this
 have b5:=hid b9;obtain⟨h1,h2,h3⟩:=hr;clear b9
 by_cases c8:8<d
 ·rw[if_pos c8] at C;have P:=hid C;have d8:decide (8<(d:Int))=true:=decide_eq_true (by omega);clear C;go_enter func103,ntmps103
  go_wp2
  go_ret;refine yR.of ?_ P.out;exact⟨rfl,j.out.bad _ _ _ HI.out⟩
 rw[if_neg c8] at C;have d8:decide (8<(d:Int))=false:=decide_eq_false (by omega);have a0:=Rd.jO s.data.toList (p+1) (by rw[Ref.zB];omega);rw[Ref.zB] at a0;have e2:=Rd.xW s.data.toList (p+1);have Y:=Rd.ul s.data.toList (p+1);obtain⟨q,hq⟩:=Nm (Rd.skip s.data.toList (p+1));have A:=Xd s R (p+1) _ b5.out (by omega) hs;rw[hq] at C a0 e2 Y A;obtain⟨b,hb⟩:=Nm (Rd.ze s.data.toList q);have e6:b<256:=by rw[<- hb];exact Rd.kM _ _
 rw[hb] at C
 have B:=A.mono (R':=λi n=>i = .returned (.tuple #[])/\w.grownBy n (some R)/\zi n R s q) (by
  rintro i n ⟨rfl,N,O⟩;exact⟨rfl,zH (xS _ _ _ _) N,O⟩)
 have y:∀u,zi u R s q->w.grownBy u (some R)->Calls prog 82 #[.pointer (some ⟨R,0,none⟩)] u λi n=>i = .returned (.int .u8 (b:Int))/\w.grownBy n (some R)/\zi n R s q:=λu h6 h7=>by
  refine (XR s R q u h6 a0).mono ?_;rintro i n ⟨rfl,N,O,_,_⟩;exact⟨by rw[hb],zH h7 O,N⟩
 clear A
 by_cases ce:b=e
 ·rw[if_pos ce] at C;have P:=hid C
  have c2:q<s.size:=by
   have:=Rd.zW s.data.toList q (by rw[hb];omega)
   rwa [Ref.zB] at this
  have de:((b:Int)==(e:Int))=true:=by rw[beq_iff_eq];omega
  clear C hb hq Y;go_enter func103,ntmps103
  go_wp2_with (first
   | (go_at_call 51;refine B.mono ?_;rintro i u ⟨rfl,V,Z⟩)
   | (go_at_call 82;refine (y u Z V).mono ?_;rintro i w2 ⟨rfl,W,J⟩;have Q:=hid J;obtain⟨g1,g2,g3⟩:=J))
  go_ret;refine yR.of ?_ P.out;refine⟨rfl,j.out.mv a p _ w _ HI.out (by omega) (zH W (xS _ _ _ _)) ?_⟩
  have:=Q.out.move (q+1)
  rwa [show ((q+1:Nat):Int)=(q:Int)+1 by omega] at this
 rw[if_neg ce] at C;have de:((b:Int)==(e:Int))=false:=by rw[beq_eq_false_iff_ne];omega
 have P:=hid C;have b6:=hid Y;clear C hb hq Y;go_enter func103,ntmps103
 go_wp2_with (first
  | (go_at_call 51;refine B.mono ?_;rintro i u ⟨rfl,V,Z⟩)
  | (go_at_call 82;refine (y u Z V).mono ?_;rintro i w2 ⟨rfl,W,J⟩))
 have Q:=hid J;have b4:=hid W;clear Z V J W y B h1 h2 h3
 go_loopw [38] (λ_ wr=>∃(f:Nat) (a':α) (q':Nat),f<=F/\Inv a' q' wr/\q'<=s.size/\Rd.blank (Rd.ze s.data.toList q')=false/\2*(s.size-q')+1<f/\Rd.yI s.data.toList st e F a q=Rd.yI s.data.toList st e f a' q') (λ_ wr=>s.size-Yj wr R)
 case atStart=>exact⟨F,a,q,Nat.le_refl _,j.out.mv a p q w w2 HI.out (by omega) b4.out Q.out,a0,b6.out,by omega,rfl⟩
 case round=>
  obtain⟨f,a',q',g6,X,c0,I,g5,c4⟩:=hrel;obtain⟨f,rfl⟩:∃k,f=k+1:=⟨f-1,by omega⟩;have x:=j.out.one f a' q' wr (by omega) (by omega) X c0 I (by omega);have d4:=hid (j.out.rd _ _ _ X).at;have S:=hid c4;have f2:=hid X;have G:=hid (λE q2=>j.out.adv f a' q' E q2 c0 I (by omega));clear c4 X Q b4 b6 b5 I
  cases hx:st f a' q' with
  | err c q2=>
   rw[hx] at x;have b2:=hid (P.out.trans (S.out.trans (EA hx)));obtain⟨T,hT⟩:=QY c q2
   have o:=x.mono (R':=λi n=>i = .returned (.iface T (.agg #[.int .i64 (q2:Int)]))/\Bad n) (by
    rintro i n ⟨rfl,h⟩;exact⟨by rw[hT],h⟩)
   have HT:=hid hT;clear x hx G hT
   go_wp2_with (go_at_fn g;refine o.mono ?_;rintro i M ⟨rfl,b8⟩)
   go_ret;refine yR.of ?_ b2.out;exact⟨by rw[HT.out];rfl,b8⟩
  | ok E q2=>
   rw[hx] at x;obtain⟨d3,a6⟩:=G.out E q2 hx;have K:=Rd.jO s.data.toList q2 (by rw[Ref.zB];omega);rw[Ref.zB] at K;have a4:=Rd.xW s.data.toList q2;have m:=λh=>hid (P.out.trans (S.out.trans (EB (e:=e) (l:=s.data.toList) hx h)));have v:=λh=>hid (P.out.trans (S.out.trans (Ez (e:=e) (l:=s.data.toList) hx h d6)));have D:=λh h'=>hid (P.out.trans (S.out.trans (Ey (e:=e) (l:=s.data.toList) hx h h')));have A:=λu (h:Inv E q2 u)=>Xd s R q2 u (j.out.rd _ _ _ h) a6 hs;obtain⟨t,c1⟩:∃q,Rd.skip s.data.toList q2=q:=⟨_,rfl⟩;simp only[c1] at K a4 m v D A;obtain⟨U,H⟩:∃b,Rd.ze s.data.toList t=b:=⟨_,rfl⟩;have d5:U<256:=by rw[<- H];exact Rd.kM _ _
   have r:U≠0->t<s.size:=λh=>by
    have:=Rd.zW s.data.toList t (by rw[H];exact h)
    rwa [Ref.zB] at this
   simp only[H] at m v D
   have o:=x.mono (R':=λi n=>i = .returned .nilIface/\Inv E q2 n) (by
    rintro i n ⟨rfl,h⟩;exact⟨rfl,h⟩)
   have B:∀u,Inv E q2 u->Calls prog 51 #[.pointer (some ⟨R,0,none⟩)] u λi n=>i = .returned (.tuple #[])/\Inv E t n:=λu h=>by
    refine (A u h).mono ?_;rintro i n ⟨rfl,N,O⟩;exact⟨rfl,j.out.mv _ _ _ _ _ h a4 N O⟩
   have y:∀u,Inv E t u->Calls prog 82 #[.pointer (some ⟨R,0,none⟩)] u λi n=>i = .returned (.int .u8 (U:Int))/\Inv E t n/\zi n R s t:=λu h=>by
    refine (XR s R t u (j.out.rd _ _ _ h) K).mono ?_;rintro i n ⟨rfl,N,O,_,_⟩;exact⟨by rw[H],j.out.mv _ _ _ _ _ h (Nat.le_refl _) O N,N⟩
   clear x hx G A H c1
   by_cases c44:U=44
   ·have d44:(U:Int)=44:=by omega
    have HM:=m c44;have c2:=r (by omega);have L:=Rd.jO s.data.toList (t+1) (by rw[Ref.zB];omega);rw[Ref.zB] at L;have c3:=Rd.xW s.data.toList (t+1);have a3:=hid (Rd.ul s.data.toList (t+1));clear m v D r c44;obtain⟨q4,a7⟩:∃q,Rd.skip s.data.toList (t+1)=q:=⟨_,rfl⟩;rw[a7] at L c3 HM a3
    have e1:∀M,Inv E t M->zi M R s t->Calls prog 51 #[.pointer (some ⟨R,0,none⟩)] (M.setCell ⟨R,1,none⟩ (.int .i64 ((t:Int)+1))) λi n=>i = .returned (.tuple #[])/\Inv E q4 n:=λM h h'=>by
     have hm:=h'.move (t+1);rw[show ((t+1:Nat):Int)=(t:Int)+1 by omega] at hm;refine (Xd s R (t+1) _ hm (by omega) hs).mono ?_;rintro i n ⟨rfl,N,O⟩;rw[a7] at O;exact⟨rfl,j.out.mv _ _ _ _ _ h (by omega) (zH (xS _ _ _ _) N) O⟩
    clear a7
    go_wp2_with (first
     | (go_at_fn g;refine o.mono ?_;rintro i M ⟨rfl,hi3⟩)
     | (go_at_call 51;refine (e1 w5 hi5 a5.out).mono ?_;rintro i w6 ⟨rfl,hi6⟩)
     | (go_at_call 51;refine (B M hi3).mono ?_;rintro i w4 ⟨rfl,hi4⟩)
     | (go_at_call 82;refine (y w4 hi4).mono ?_;rintro i w5 ⟨rfl,hi5,z⟩;have a5:=hid z;obtain⟨g1,g2,g3⟩:=z))
    have b7:=(j.out.rd _ _ _ hi6).at
    go_roundw
    case rel=>exact⟨f,E,q4,by omega,hi6,L,a3.out,by omega,P.out.symm.trans HM.out⟩
    case measure=>rw[d4.out,b7];omega
   have d44:((U:Int)==44)=false:=by rw[beq_eq_false_iff_ne];omega
   by_cases ce3:U=e
   ·have c9:((U:Int)==(e:Int))=true:=by rw[beq_iff_eq];omega
    have HM:=v ce3;have c2:=r (by omega);clear m v D r c44 ce3
    go_wp2_with (first
     | (go_at_fn g;refine o.mono ?_;rintro i M ⟨rfl,hi3⟩)
     | (go_at_call 51;refine (B M hi3).mono ?_;rintro i w4 ⟨rfl,hi4⟩)
     | (go_at_call 82;refine (y w4 hi4).mono ?_;rintro i w5 ⟨rfl,hi5,z⟩;have a5:=hid z;obtain⟨g1,g2,g3⟩:=z))
    go_ret;refine yR.of ?_ HM.out;refine⟨rfl,j.out.mv _ _ _ _ _ hi5 (by omega) (xS _ _ _ _) ?_⟩
    have:=a5.out.move (t+1)
    rwa [show ((t+1:Nat):Int)=(t:Int)+1 by omega] at this
   ·have c9:((U:Int)==(e:Int))=false:=by rw[beq_eq_false_iff_ne];omega
    have HM:=D c44 ce3;clear m v D r c44 ce3
    go_wp2_with (first
     | (go_at_fn g;refine o.mono ?_;rintro i M ⟨rfl,hi3⟩)
     | (go_at_call 51;refine (B M hi3).mono ?_;rintro i w4 ⟨rfl,hi4⟩)
     | (go_at_call 82;refine (y w4 hi4).mono ?_;rintro i w5 ⟨rfl,hi5,z⟩)
     | (go_at_call 53;refine (Qb s R t w5 z).mono ?_;rintro i w6 ⟨rfl,rfl⟩))
    go_ret;refine yR.of ?_ HM.out;exact⟨rfl,j.out.bad _ _ _ hi5⟩
inductive ValAt (w:World) (S:Nat->Prop):Rd.V->Value->Prop
 | str (t:BA):ValAt w S (.str t) (.iface 188 (.string t))
 | word (b:Bool):ValAt w S (.word b) (.iface 189 (.bool b))
 | list (vs:List Rd.V) (us:List Value) (ao:Option Addr) (cap:Nat):us.length=vs.length ->
   (us=[]\/∃b,ao=some ⟨b,0,none⟩/\S b/\∀(j:Nat) (u:Value),us[j]?=some u->w.cell? ⟨b,j,none⟩=some u) ->
   (∀(j:Nat) (v:Rd.V) (u:Value),vs[j]?=some v->us[j]?=some u->ValAt w S v u)->ValAt w S (.list vs) (.iface 92 (.slice ao us.length cap))
 | obj (ms:List (BA×Rd.V)) (us:List (BA×Value)) (ao:Option Addr) (cap:Nat):us.map Prod.fst=ms.map Prod.fst ->
   (us=[]\/∃b,ao=some ⟨b,0,none⟩/\S b/\∀(j:Nat) (x:BA×Value),us[j]?=some x->w.cell? ⟨b,j*2,none⟩=some (.string x.1)/\w.cell? ⟨b,j*2+1,none⟩=some x.2) ->
   (∀(j:Nat) (x:BA×Rd.V) (u:BA×Value),ms[j]?=some x->us[j]?=some u->ValAt w S x.2 u.2)->ValAt w S (.obj ms) (.iface 89 (.slice ao us.length cap))
theorem ValAt.move{w l:World}{S S':Nat->Prop}{v:Rd.V}{u:Value}(h:ValAt w S v u)(i:∀b,S b->S' b)(e:∀b,S b->l.heap[b]?=w.heap[b]?):ValAt l S' v u:=by
 induction h with
 | str t=>exact .str t
 | word b=>exact .word b
 | list n g ao cap d c _ f=>
  refine .list n g ao cap d ?_ f
  rcases c with c|⟨b,ha,hb,hc⟩
  ·exact .inl c
  ·exact .inr ⟨b,ha,i b hb,λj u m=>by rw[World.cell?_of_block (a:=⟨b,j,none⟩) (e b hb)];exact hc j u m⟩
 | obj ms g ao cap d c _ f=>
  refine .obj ms g ao cap d ?_ f
  rcases c with c|⟨b,ha,hb,hc⟩
  ·exact .inl c
  ·exact .inr ⟨b,ha,i b hb,λj x k=>⟨by rw[World.cell?_of_block (a:=⟨b,j*2,none⟩) (e b hb)];exact (hc j x k).1,by rw[World.cell?_of_block (a:=⟨b,j*2+1,none⟩) (e b hb)];exact (hc j x k).2⟩⟩
theorem ValAt.iface{w:World}{S:Nat->Prop}{v:Rd.V}{u:Value}(h:ValAt w S v u):∃T x,u = .iface T x:=by
 cases h with
 | str t=>exact⟨_,_,rfl⟩
 | word b=>exact⟨_,_,rfl⟩
 | list=>exact⟨_,_,rfl⟩
 | obj=>exact⟨_,_,rfl⟩
def Blk(w a:World)(b:Nat):Prop:=w.heap.size<=b/\b<a.heap.size
def starts(s:BA)(p:Nat):Bool:=Rd.ze s.data.toList p==123||Rd.ze s.data.toList p==91||Rd.ze s.data.toList p==34||Rd.ze s.data.toList p==116||Rd.ze s.data.toList p==102
def jC(w:World)(R:Nat)(s:BA)(sb:Bool)(r:Rd.Res Rd.V)(e:Ending)(a:World):Prop:=match r with
 | .ok v q=>∃u,e = .returned (.tuple #[u,.nilIface])/\ValAt a (Blk w a) v u/\w.grownBy a (some R)/\zi a R s q
 | .err c q=>∃u,e = .returned (.tuple #[u,vY c q])/\((sb=true->∃T x,u = .iface T x)/\(sb=false->u = .nilIface))/\w.grownBy a (some R)
theorem jC.of{w b:World}{R:Nat}{s:BA}{sb:Bool}{r a:Rd.Res Rd.V}{e:Ending}(h:jC w R s sb r e b)(c:a=r):jC w R s sb a e b:=c ▸ h
def kg(s:BA)(R F:Nat):Prop:=∀f,f<F->∀(d p:Nat) (w:World),zi w R s p->qb w->p<=s.size->1<=d->d<=9->Rd.blank (Rd.ze s.data.toList p)=false->2*(s.size-p)<f ->
 Calls prog 52 #[.pointer (some ⟨R,0,none⟩),.int .i64 (d:Int)] w λe a=>jC w R s (starts s p) (Rd.zR s.data.toList f d p) e a
structure Zd (w0:World) (R:Nat) (s:BA) (d:Nat) (acc:List Rd.V) (q:Nat) (wr:World):Prop where
 rd:zi wr R s q
 seq:qb wr
 grown:w0.grownBy wr (some R)
 size:w0.heap.size+3<=wr.heap.size
 len:acc.length<=q
 cx:wr.cell? ⟨w0.heap.size,0,none⟩=some (.pointer (some ⟨R,0,none⟩))
 cd:wr.cell? ⟨w0.heap.size+1,0,none⟩=some (.int .i64 (d:Int))
 row:∃lv us,wr.cell? ⟨w0.heap.size+2,0,none⟩=some lv/\wr.frozen? ⟨w0.heap.size+2,0,none⟩=false/\wr.ownsRow (w0.heap.size+3) 85 1 lv acc.length us /\
  ∀(j:Nat) (v:Rd.V) (u:Value),acc[j]?=some v->us[j]?=some u->ValAt wr (λb=>w0.heap.size+3<=b/\b<wr.heap.size/\lv.ownBlock≠some b) v u
def Xm(a:World)(R:Nat)(wr:World):Prop:=a.grownBy wr (some R)/\∃b,wr.cell? ⟨a.heap.size+2,0,none⟩=some b
theorem Zd.mv{e:World}{R:Nat}{s:BA}{d:Nat}{acc:List Rd.V}{q i:Nat}{w k:World}(x:R<e.heap.size)(g:R≠5)(h:Zd e R s d acc q w)(y:q<=i)(c:w.grownBy k (some R))(m:zi k R s i):Zd e R s d acc i k:=by
 obtain⟨r,t,c1,c2,c3,c4⟩:=h.row;have n:=h.size;have l:=c.size;refine⟨m,h.seq.grown c g,zH h.grown c,by omega,by have:=h.len;omega,c.cell h.cx (by simp;omega),c.cell h.cd (by simp;omega),r,t,c.cell c1 (by simp;omega),?_,jm c3 c (by omega),λj v u p o=>(c4 j v u p o).move (λb f=>⟨f.1,by omega,f.2.2⟩) (λb f=>c.block b f.2.1 (by simp;omega))⟩;rw[World.frozen?_of_block (w:=w) (a:=⟨e.heap.size+2,0,none⟩) (c.block _ (by show e.heap.size+2<_;omega) (by simp;omega))];exact c2
theorem Rk:(prog.info? 85).map (λi=>(i.zero,i.size,i.bytes))=some (some .nilIface,1,16):=by kernel_rfl
theorem lG{α:Type}{xs:List α}{x:α}{j:Nat}{u:α}(h:(xs++[x])[j]?=some u):(j<xs.length/\xs[j]?=some u)\/(j=xs.length/\u=x):=by
 rw[List.getElem?_append] at h
 split at h
 ·rename_i a;exact .inl ⟨a,h⟩
 ·have a:=(List.getElem?_eq_some_iff.1 h).1;simp at a;have e:j=xs.length:=by omega
  subst e;simp at h;exact .inr ⟨rfl,h.symm⟩
end Go.Proofs.YtdakgnaojakldabGreatDoor
