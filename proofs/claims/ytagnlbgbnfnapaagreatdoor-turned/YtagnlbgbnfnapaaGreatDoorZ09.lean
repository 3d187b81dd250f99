/- P -/
import Derived.Test.YtagnlbgbnfnapaaGreatDoorZ08
open Go.Proofs.Tryz
set_option maxRecDepth 100000
set_option maxHeartbeats 2000000
namespace Go.Proofs.YtagnlbgbnfnapaaGreatDoor
open Go.RowKit
def XV(w:World)(ao:Option Addr)(ms:List (BA×Value)):Prop:=
 ms=[]\/∃b o,ao=some ⟨b,o,none⟩/\∀j,(h:j<ms.length)->w.cell? ⟨b,o+j*2,none⟩=some (.string ms[j].1)/\w.cell? ⟨b,o+j*2+1,none⟩=some ms[j].2
theorem Kj{w c:World}{ao:Option Addr}{ms:List (BA×Value)}(h:XV w ao ms)(hb:Below w.heap.size w c):XV c ao ms:=by
 rcases h with h|⟨b,o,ha,hc⟩
 ·exact .inl h
 ·exact .inr ⟨b,o,ha,λj a=>⟨zh hb (hc j a).1,zh hb (hc j a).2⟩⟩
def QE(m:BA×Value):Value := .agg #[.string m.1,m.2]
def vY(ms:List (BA×Value))(j:Nat):BA×Value:=ms.getD j (⟨#[]⟩,.nilIface)
theorem Yq(ms:List (BA×Value))(j:Nat)(h:j<ms.length):vY ms j=ms[j]:=by
 unfold vY;rw[zQ,zt h];rfl
theorem pF(ms:List (BA×Value))(ao:Option Addr)(cap g:Nat)(y:Array Value)(p:Nat->Bool)(w:World)(E:ms.length<=100000000000)(C:∀args w,(callFunc g args).run prog w = .ok (.enter g args) w)
  (A:XV w ao ms)(s:∀m ∈ ms,∃T x,m.2 = .iface T x)(B:jQ g y (λj=>QE (vY ms j)) ms.length p w) :
  Calls prog 94 #[.slice ao ms.length cap,.func (.func g) #[] y] w λe u=>
   e = .returned (.tuple #[.int .i64 (((zD p ms.length).getD 0:Nat):Int),.bool (zD p ms.length).isSome])/\Below w.heap.size w u:=by
 generalize hF:zD p ms.length=F;have v:=hid hF;clear hF;go_enter func94,ntmps94
 go_wp2
 go_loopw [10] (λi wr=>∃k:Nat,k<=ms.length/\i = .int .i64 k/\(∀j,j<k->p j=false)/\Below w.heap.size w wr) (λi _=>ms.length-(intOf i).toNat)
 case atStart=>exact⟨0,zU _,rfl,λj h=>by omega,zi _ _⟩
 case round=>
  obtain⟨k,D,rfl,hb,q⟩:=hrel;have r:=hid hb;clear hb
  by_cases hlt:k<ms.length
  ·rcases A with rfl|⟨b,o,rfl,hc⟩
   ·simp at hlt
   have a:=λW hb=>B W k hlt hb;simp only[Yq ms k hlt,QE] at a;obtain⟨t,q2⟩:=hc k hlt;obtain⟨G,f⟩:∃n,ms[k].1=n:=⟨_,rfl⟩;obtain⟨T,v1,l⟩:=s ms[k] (xg hlt);rw[f] at t a;rw[l] at q2 a;have H:=zh q t;have I:=zh q q2;clear f l hc t q2;have c:=λO=>q.trans (nB wr O |>.mono q.size)
   cases hpp:p k with
   | false=>
    rw[hpp] at a;have z:=hid hpp;clear hpp
    go_wp2_with (go_at_fn g;refine (a _ (c _)).mono ?_;rintro e u ⟨rfl,d⟩)
    refine⟨⟨k+1,by omega,by go_num,λj h=>?_,(c _).trans (d.mono (c _).size)⟩,by simp[intOf];omega⟩
    by_cases hj:j=k
    ·subst hj;exact z.out
    ·exact r.out j (by omega)
   | true=>
    rw[hpp] at a;have e:=QA p ms.length k hlt r.out hpp;rw[v.out] at e;subst e;clear hpp
    go_wp2_with (go_at_fn g;refine (a _ (c _)).mono ?_;rintro e u ⟨rfl,d⟩)
    go_ret2;exact⟨rfl,(c _).trans (d.mono (c _).size)⟩
  ·have e:=QB p ms.length (λj h=>r.out j (by omega));rw[v.out] at e;subst e
   go_wp2
   go_ret2;exact⟨rfl,q⟩
theorem DU(ms:List (BA×Value))(ao:Option Addr)(cap g:Nat)(d:Array Value)(p:Nat->Bool)(w:World)(k:ms.length<=100000000000)(h:∀args w,(callFunc g args).run prog w = .ok (.enter g args) w)
  (i:XV w ao ms)(b:∀m ∈ ms,∃T x,m.2 = .iface T x)(l:jQ g d (λj=>QE (vY ms j)) ms.length p w) :
  Calls prog 190 #[.slice ao ms.length cap,.func (.func g) #[] d] w λe f=>
   e = .returned (.bool (zD p ms.length).isSome)/\Below w.heap.size w f:=by
 have c:=pF ms ao cap g d p w k h i b l;generalize zD p ms.length=F at c;go_enter func190,ntmps190
 go_wp2_with (go_at_call 94;refine c.mono ?_;rintro e f ⟨rfl,a⟩)
 go_ret;exact⟨rfl,a⟩
theorem Dy(g:Nat)(h:Array Value)(m:BA×Value)(B:Nat)(y:Bool)(w:World)(k:∀args w,(callFunc g args).run prog w = .ok (.enter g args) w)
  (i:w.cell? ⟨B,0,none⟩=some (.func (.func g) #[] h))(f:∀W,Below w.heap.size w W->Calls prog g (#[QE m]++h) W λe c=>e = .returned (.bool y)/\Below W.heap.size W c) :
  Calls prog 191 #[QE m,.pointer (some ⟨B,0,none⟩)] w λe c=>e = .returned (.bool (!y))/\Below w.heap.size w c:=by
 obtain⟨a,v⟩:=m;unfold QE at f |-;simp only at f |-;have j:=λO:Obj=>zh (nB w O) i;have b:=λO:Obj=>nB w O;go_enter func191,ntmps191
 go_wp2_with (go_at_fn g;refine (f _ (b _)).mono ?_;rintro e c ⟨rfl,d⟩)
 go_ret;exact⟨rfl,(b _).trans (d.mono (b _).size)⟩
theorem Dx(ms:List (BA×Value))(ao:Option Addr)(cap g:Nat)(a:Array Value)(p:Nat->Bool)(w:World)(q:ms.length<=100000000000)(k:∀args w,(callFunc g args).run prog w = .ok (.enter g args) w)
  (o:XV w ao ms)(d:∀m ∈ ms,∃T x,m.2 = .iface T x)(r:jQ g a (λj=>QE (vY ms j)) ms.length p w) :
  Calls prog 147 #[.slice ao ms.length cap,.func (.func g) #[] a] w λe f=>
   e = .returned (.bool (uz p ms.length))/\Below w.heap.size w f:=by
 have i:∀args w,(callFunc 191 args).run prog w = .ok (.enter 191 args) w:=qx func191 (by kernel_rfl) rfl
 have c:=DU ms ao cap 191 #[.pointer (some ⟨w.heap.size,0,none⟩)] (λj=>!p j) (w.alloc (.cells #[.func (.func g) #[] a] 191)) q i
  (Kj o (nB w _)) d
  (λW j n hb=>by
    refine Dy g a (vY ms j) w.heap.size (p j) W k ?_ (λh l=>r h j n (((nB w _).trans (hb.mono (by simp))).trans (l.mono (by have:=hb.size;simp at this;omega))));exact zh hb (by simp))
 rw[UK];generalize zD (λj=>!p j) ms.length=F at c;go_enter func147,ntmps147
 go_wp2_with (go_at_call 190;refine c.mono ?_;rintro e f ⟨rfl,b⟩)
 go_ret;exact⟨rfl,(nB w _).trans (b.mono (by simp))⟩
theorem Lu(nm:BA)(m:BA×Value)(B:Nat)(w:World)(c:w.cell? ⟨B,0,none⟩=some (.string nm)) :
  Calls prog 95 #[QE m,.pointer (some ⟨B,0,none⟩)] w λe f=>e = .returned (.bool (m.1.toList==nm.toList))/\Below w.heap.size w f:=by
 obtain⟨a,v⟩:=m;unfold QE;simp only;have d:=λO:Obj=>zh (nB w O) c;have b:=λO:Obj=>nB w O;go_enter func95,ntmps95
 go_wp2
 go_ret;exact⟨rfl,b _⟩
def xA(ms:List (BA×Value))(nm:BA):Value:=match ms.find? (λm=>m.1.toList==nm.toList) with
 | some m=>m.2
 | none => .nilIface
theorem Lr(ms:List (BA×Value))(nm:BA):xA ms nm=match zD (λj=>(vY ms j).1.toList==nm.toList) ms.length with
  | some k=>(vY ms k).2
  | none => .nilIface:=by
 unfold xA
 cases hF:zD (λj=>(vY ms j).1.toList==nm.toList) ms.length with
 | none=>
  have:ms.find? (λm=>m.1.toList==nm.toList)=none:=by
   rw[Ya];intro m f;obtain⟨j,a,rfl⟩:=Ql f;unfold zD at hF;rw[Ya] at hF
   have:=hF j (vQ.2 a)
   rwa [Yq ms j a] at this
  rw[this]
 | some k=>
  unfold zD at hF;rw[Vy] at hF;obtain⟨c,d,e⟩:=hF;have b:k<ms.length:=by simpa using d
  have:ms.find? (λm=>m.1.toList==nm.toList)=some ms[k]:=by
   rw[List.find?_eq_some_iff_getElem];refine⟨by rw[Yq ms k b] at c;exact c,k,b,rfl,λj a=>?_⟩
   have:=e j a
   rw[Yq ms j (by omega)] at this;exact this
  rw[this];simp only;rw[Yq ms k b]
theorem dC(ms:List (BA×Value))(ao:Option Addr)(cap:Nat)(nm:BA)(w:World)(s:ms.length<=100000000000)(n:XV w ao ms)(g:∀m ∈ ms,∃T x,m.2 = .iface T x) :
  Calls prog 53 #[.slice ao ms.length cap,.string nm] w λe l=>e = .returned (xA ms nm)/\Below w.heap.size w l:=by
 have q:∀args w,(callFunc 95 args).run prog w = .ok (.enter 95 args) w:=qx func95 (by kernel_rfl) rfl
 have c:=pF ms ao cap 95 #[.pointer (some ⟨w.heap.size,0,none⟩)] (λj=>(vY ms j).1.toList==nm.toList) (w.alloc (.cells #[.string nm] 9)) s q
  (Kj n (nB w _)) g
  (λW j v hb=>Lu nm (vY ms j) w.heap.size W (zh hb (by simp)))
 have d:=Lr ms nm
 have hF:∀k,zD (λj=>(vY ms j).1.toList==nm.toList) ms.length=some k->k<ms.length:=λk h=>by
  unfold zD at h;rw[Vy] at h
  simpa using h.2.1
 have f:=λO:Obj=>nB w O
 cases hf:zD (λj=>(vY ms j).1.toList==nm.toList) ms.length with
 | none=>
  rw[hf] at c d;simp only at d;rw[d];clear d hF hf;go_enter func53,ntmps53
  go_wp2_with (go_at_call 94;refine c.mono ?_;rintro e l ⟨rfl,a⟩)
  go_ret;exact⟨rfl,(f _).trans (a.mono (by simp))⟩
 | some k=>
  rw[hf] at c d;simp only at d;have i:=hF k hf;rw[d,Yq ms k i]
  rcases n with rfl|⟨b,o,rfl,hc⟩
  ·simp at i
  obtain⟨t,q2⟩:=hc k i;obtain⟨u,p⟩:=Nm (ms[k].2);rw[p] at q2 |-;have r:(k:Int)<(ms.length:Int):=by omega
  clear d hF hf hc t p;go_enter func53,ntmps53
  go_wp2_with (go_at_call 94;refine c.mono ?_;rintro e l ⟨rfl,a⟩;have y:=zh ((f (.cells #[.string nm] 9)).trans (a.mono (by simp))) q2)
  go_ret;exact⟨rfl,(f _).trans (a.mono (by simp))⟩
def ZE(c:Int)(q:Nat):Value:=
 if c=3 then .iface 146 (.agg #[.int .i64 (q:Int)])
 else if c=4 then .iface 147 (.agg #[.int .i64 (q:Int)])
 else .iface 145 (.agg #[.int .i64 (q:Int)])
theorem IB(q:Nat):ZE 4 q = .iface 147 (.agg #[.int .i64 (q:Int)]):=rfl
theorem JU(c:Int)(q:Nat):∃T,ZE c q = .iface T (.agg #[.int .i64 (q:Int)]):=by
 unfold ZE;split
 ·exact⟨_,rfl⟩
 split
 ·exact⟨_,rfl⟩
 ·exact⟨_,rfl⟩
def vB{α:Type}(Inv:α->Nat->World->Prop)(Bad:World->Prop)(r:Rd.Res α)(e:Ending)(b:World):Prop:=match r with
 | .ok a q=>e = .returned .nilIface/\Inv a q b
 | .err c q=>e = .returned (ZE c q)/\Bad b
theorem vB.of{α:Type}{Inv:α->Nat->World->Prop}{Bad:World->Prop}{r a:Rd.Res α}{e:Ending}{b:World}(h:vB Inv Bad r e b)(c:a=r):vB Inv Bad a e b:=c ▸ h
structure Reads {α:Type} (s:BA) (R g:Nat) (lb:Array Value) (st:Nat->α->Nat->Rd.Res α) (F d:Nat) (Inv:α->Nat->World->Prop) (Bad:World->Prop):Prop where
 rd:∀a q w,Inv a q w->zz w R s q
 mv:∀a q q' w w',Inv a q w->q<=q'->w.grownBy w' (some R)->zz w' R s q'->Inv a q' w'
 bad:∀a q w,Inv a q w->Bad w
 adv:∀f a q a' q',q<=s.size->Rd.blank (Rd.zk s.data.toList q)=false->2*(s.size-q)<f->st f a q = .ok a' q'->q<q'/\q'<=s.size
 one:∀f a q w,f<F->d<=8->Inv a q w->q<=s.size->Rd.blank (Rd.zk s.data.toList q)=false->2*(s.size-q)<f->Calls prog g lb w λe w'=>vB Inv Bad (st f a q) e w'
theorem MU{α:Type}{l:List UInt8}{b:Nat->α->Nat->Rd.Res α}{e f q q2:Nat}{a:α}{c:Int}(h:b f a q = .err c q2):Rd.jU l b e (f+1) a q = .err c q2:=by rw[Rd.jU,h]
theorem MV{α:Type}{l:List UInt8}{b:Nat->α->Nat->Rd.Res α}{e f q q2:Nat}{a c:α}(h:b f a q = .ok c q2)(hb:Rd.zk l (Rd.skip l q2)=44):Rd.jU l b e (f+1) a q=Rd.jU l b e f c (Rd.skip l (Rd.skip l q2+1)):=by
 rw[Rd.jU,h];exact zb hb
theorem MS{α:Type}{l:List UInt8}{c:Nat->α->Nat->Rd.Res α}{e f q q2:Nat}{a b:α}(h:c f a q = .ok b q2)(hb:Rd.zk l (Rd.skip l q2)=e)(d:e≠44):Rd.jU l c e (f+1) a q = .ok b (Rd.skip l q2+1):=by
 rw[Rd.jU,h];exact (za (by omega)).trans (zb hb)
theorem MR{α:Type}{l:List UInt8}{b:Nat->α->Nat->Rd.Res α}{e f q q2:Nat}{a c:α}(h:b f a q = .ok c q2)(hb:Rd.zk l (Rd.skip l q2)≠44)(d:Rd.zk l (Rd.skip l q2)≠e):Rd.jU l b e (f+1) a q = .err 2 (Rd.skip l q2):=by
 rw[Rd.jU,h];exact (za hb).trans (za d)
theorem rJ{α:Type}(s:BA)(R p d e g F:Nat)(lb:Array Value)(st:Nat->α->Nat->Rd.Res α)(Inv:α->Nat->World->Prop)(Bad:World->Prop)(a:α)(w:World)
  (eg:∀args w,(callFunc g args).run prog w = .ok (.enter g args) w)(hR:Reads s R g lb st F d Inv Bad)
  (hi:Inv a p w)(hp:p<s.size)(hs:s.size<=4000)(hd:d<=100)(f9:e≠0)(d5:e≠44)(hF:2*(s.size-(p+1))+1<F) :
  Calls prog 183 #[.pointer (some ⟨R,0,none⟩),.int .i64 (d:Int),.int .u8 (e:Int),.func (.func g) #[] lb] w λi n=>vB Inv Bad (Rd.uD s.data.toList st e F d a p) i n:=by
 have hr:=hR.rd a p w hi;have HI:=hid hi;have j:=hid hR;clear hi hR;have C:Rd.uD s.data.toList st e F d a p=Rd.uD s.data.toList st e F d a p:=rfl
 conv at C=>rhs;unfold Rd.uD
 have b8:zz (w.setCell ⟨R,1,none⟩ (.int .i64 ((p:Int)+1))) R s (p+1):=by
  have:=hr.move (p+1)
  rwa [show ((p+1:Nat):Int)=(p:Int)+1 by omega] at this
 have b4:=hid b8;obtain⟨h1,h2,h3⟩:=hr;clear b8
 by_cases c8:8<d
 ·rw[zb c8] at C;have P:=hid C;have d8:decide (8<(d:Int))=true:=zF (by omega);clear C;go_enter func183,ntmps183
  go_wp2
  go_ret;refine vB.of ?_ P.out;exact⟨rfl,j.out.bad _ _ _ HI.out⟩
 rw[za c8] at C;have d8:decide (8<(d:Int))=false:=zH (by omega);have a0:=Rd.uQ s.data.toList (p+1) (by rw[Ref.zP];omega);rw[Ref.zP] at a0;have e0:=Rd.je s.data.toList (p+1);have Y:=Rd.ZJ s.data.toList (p+1);obtain⟨q,hq⟩:=Nm (Rd.skip s.data.toList (p+1));have A:=Jg s R (p+1) _ b4.out (by omega) hs;rw[hq] at C a0 e0 Y A;obtain⟨b,hb⟩:=Nm (Rd.zk s.data.toList q);have e4:b<256:=by rw[<- hb];exact Rd.QI _ _
 rw[hb] at C
 have B:=A.mono (R':=λi n=>i = .returned (.tuple #[])/\w.grownBy n (some R)/\zz n R s q) (by
  rintro i n ⟨rfl,N,O⟩;exact⟨rfl,qc (y9 _ _ _ _) N,O⟩)
 have y:∀u,zz u R s q->w.grownBy u (some R)->Calls prog 140 #[.pointer (some ⟨R,0,none⟩)] u λi n=>i = .returned (.int .u8 (b:Int))/\w.grownBy n (some R)/\zz n R s q:=λu h6 h7=>by
  refine (Vi s R q u h6 a0).mono ?_;rintro i n ⟨rfl,N,O,_,_⟩;exact⟨by rw[hb],qc h7 O,N⟩
 clear A
 by_cases ce:b=e
 ·rw[zb ce] at C;have P:=hid C
  have c1:q<s.size:=by
   have:=Rd.qC s.data.toList q (by rw[hb];omega)
   rwa [Ref.zP] at this
  have de:((b:Int)==(e:Int))=true:=by rw[Zz];omega
  clear C hb hq Y;go_enter func183,ntmps183
  go_wp2_with (first
   | (go_at_call 91;refine B.mono ?_;rintro i u ⟨rfl,V,Z⟩)
   | (go_at_call 140;refine (y u Z V).mono ?_;rintro i w2 ⟨rfl,W,J⟩;have Q:=hid J;obtain⟨g1,g2,g3⟩:=J))
  go_ret;refine vB.of ?_ P.out;refine⟨rfl,j.out.mv a p _ w _ HI.out (by omega) (qc W (y9 _ _ _ _)) ?_⟩
  have:=Q.out.move (q+1)
  rwa [show ((q+1:Nat):Int)=(q:Int)+1 by omega] at this
 rw[za ce] at C;have de:((b:Int)==(e:Int))=false:=by rw[xh];omega
 have P:=hid C;have b5:=hid Y;clear C hb hq Y;go_enter func183,ntmps183
 go_wp2_with (first
  | (go_at_call 91;refine B.mono ?_;rintro i u ⟨rfl,V,Z⟩)
  | (go_at_call 140;refine (y u Z V).mono ?_;rintro i w2 ⟨rfl,W,J⟩))
 have Q:=hid J;have b2:=hid W;clear Z V J W y B h1 h2 h3
 go_loopw [38] (λ_ wr=>∃(f:Nat) (a':α) (q':Nat),f<=F/\Inv a' q' wr/\q'<=s.size/\Rd.blank (Rd.zk s.data.toList q')=false/\2*(s.size-q')+1<f/\Rd.jU s.data.toList st e F a q=Rd.jU s.data.toList st e f a' q') (λ_ wr=>s.size-VK wr R)
 case atStart=>exact⟨F,a,q,ze _,j.out.mv a p q w w2 HI.out (by omega) b2.out Q.out,a0,b5.out,by omega,rfl⟩
 case round=>
  obtain⟨f,a',q',g4,X,b9,I,g0,c3⟩:=hrel;obtain⟨f,rfl⟩:∃k,f=k+1:=⟨f-1,by omega⟩;have x:=j.out.one f a' q' wr (by omega) (by omega) X b9 I (by omega);have d3:=hid (j.out.rd _ _ _ X).at;have S:=hid c3;have f0:=hid X;have G:=hid (λE q2=>j.out.adv f a' q' E q2 b9 I (by omega));clear c3 X Q b2 b5 b4 I
  cases hx:st f a' q' with
  | err c q2=>
   rw[hx] at x;have b1:=hid (P.out.trans (S.out.trans (MU hx)));obtain⟨T,hT⟩:=JU c q2
   have o:=x.mono (R':=λi n=>i = .returned (.iface T (.agg #[.int .i64 (q2:Int)]))/\Bad n) (by
    rintro i n ⟨rfl,h⟩;exact⟨by rw[hT],h⟩)
   have HT:=hid hT;clear x hx G hT
   go_wp2_with (go_at_fn g;refine o.mono ?_;rintro i M ⟨rfl,b7⟩)
   go_ret;refine vB.of ?_ b1.out;exact⟨by rw[HT.out];rfl,b7⟩
  | ok E q2=>
   rw[hx] at x;obtain⟨d2,a6⟩:=G.out E q2 hx;have K:=Rd.uQ s.data.toList q2 (by rw[Ref.zP];omega);rw[Ref.zP] at K;have a4:=Rd.je s.data.toList q2;have m:=λh=>hid (P.out.trans (S.out.trans (MV (e:=e) (l:=s.data.toList) hx h)));have v:=λh=>hid (P.out.trans (S.out.trans (MS (e:=e) (l:=s.data.toList) hx h d5)));have D:=λh h'=>hid (P.out.trans (S.out.trans (MR (e:=e) (l:=s.data.toList) hx h h')));have A:=λu (h:Inv E q2 u)=>Jg s R q2 u (j.out.rd _ _ _ h) a6 hs;obtain⟨t,c0⟩:∃q,Rd.skip s.data.toList q2=q:=⟨_,rfl⟩;simp only[c0] at K a4 m v D A;obtain⟨U,H⟩:∃b,Rd.zk s.data.toList t=b:=⟨_,rfl⟩;have d4:U<256:=by rw[<- H];exact Rd.QI _ _
   have r:U≠0->t<s.size:=λh=>by
    have:=Rd.qC s.data.toList t (by rw[H];exact h)
    rwa [Ref.zP] at this
   simp only[H] at m v D
   have o:=x.mono (R':=λi n=>i = .returned .nilIface/\Inv E q2 n) (by
    rintro i n ⟨rfl,h⟩;exact⟨rfl,h⟩)
   have B:∀u,Inv E q2 u->Calls prog 91 #[.pointer (some ⟨R,0,none⟩)] u λi n=>i = .returned (.tuple #[])/\Inv E t n:=λu h=>by
    refine (A u h).mono ?_;rintro i n ⟨rfl,N,O⟩;exact⟨rfl,j.out.mv _ _ _ _ _ h a4 N O⟩
   have y:∀u,Inv E t u->Calls prog 140 #[.pointer (some ⟨R,0,none⟩)] u λi n=>i = .returned (.int .u8 (U:Int))/\Inv E t n/\zz n R s t:=λu h=>by
    refine (Vi s R t u (j.out.rd _ _ _ h) K).mono ?_;rintro i n ⟨rfl,N,O,_,_⟩;exact⟨by rw[H],j.out.mv _ _ _ _ _ h (ze _) O N,N⟩
   clear x hx G A H c0
   by_cases c44:U=44
   ·have d44:(U:Int)=44:=by omega
    have HM:=m c44;have c1:=r (by omega);have L:=Rd.uQ s.data.toList (t+1) (by rw[Ref.zP];omega);rw[Ref.zP] at L;have c2:=Rd.je s.data.toList (t+1);have a3:=hid (Rd.ZJ s.data.toList (t+1));clear m v D r c44;obtain⟨q4,a7⟩:∃q,Rd.skip s.data.toList (t+1)=q:=⟨_,rfl⟩;rw[a7] at L c2 HM a3
    have d9:∀M,Inv E t M->zz M R s t->Calls prog 91 #[.pointer (some ⟨R,0,none⟩)] (M.setCell ⟨R,1,none⟩ (.int .i64 ((t:Int)+1))) λi n=>i = .returned (.tuple #[])/\Inv E q4 n:=λM h h'=>by
     have hm:=h'.move (t+1);rw[show ((t+1:Nat):Int)=(t:Int)+1 by omega] at hm;refine (Jg s R (t+1) _ hm (by omega) hs).mono ?_;rintro i n ⟨rfl,N,O⟩;rw[a7] at O;exact⟨rfl,j.out.mv _ _ _ _ _ h (by omega) (qc (y9 _ _ _ _) N) O⟩
    clear a7
    go_wp2_with (first
     | (go_at_fn g;refine o.mono ?_;rintro i M ⟨rfl,hi3⟩)
     | (go_at_call 91;refine (d9 w5 hi5 a5.out).mono ?_;rintro i w6 ⟨rfl,hi6⟩)
     | (go_at_call 91;refine (B M hi3).mono ?_;rintro i w4 ⟨rfl,hi4⟩)
     | (go_at_call 140;refine (y w4 hi4).mono ?_;rintro i w5 ⟨rfl,hi5,z⟩;have a5:=hid z;obtain⟨g1,g2,g3⟩:=z))
    have b6:=(j.out.rd _ _ _ hi6).at
    go_roundw
    case rel=>exact⟨f,E,q4,by omega,hi6,L,a3.out,by omega,P.out.symm.trans HM.out⟩
    case measure=>rw[d3.out,b6];omega
   have d44:((U:Int)==44)=false:=by rw[xh];omega
   by_cases ce3:U=e
   ·have c7:((U:Int)==(e:Int))=true:=by rw[Zz];omega
    have HM:=v ce3;have c1:=r (by omega);clear m v D r c44 ce3
    go_wp2_with (first
     | (go_at_fn g;refine o.mono ?_;rintro i M ⟨rfl,hi3⟩)
     | (go_at_call 91;refine (B M hi3).mono ?_;rintro i w4 ⟨rfl,hi4⟩)
     | (go_at_call 140;refine (y w4 hi4).mono ?_;rintro i w5 ⟨rfl,hi5,z⟩;have a5:=hid z;obtain⟨g1,g2,g3⟩:=z))
    go_ret;refine vB.of ?_ HM.out;refine⟨rfl,j.out.mv _ _ _ _ _ hi5 (by omega) (y9 _ _ _ _) ?_⟩
    have:=a5.out.move (t+1)
    rwa [show ((t+1:Nat):Int)=(t:Int)+1 by omega] at this
   ·have c7:((U:Int)==(e:Int))=false:=by rw[xh];omega
    have HM:=D c44 ce3;clear m v D r c44 ce3
    go_wp2_with (first
     | (go_at_fn g;refine o.mono ?_;rintro i M ⟨rfl,hi3⟩)
     | (go_at_call 91;refine (B M hi3).mono ?_;rintro i w4 ⟨rfl,hi4⟩)
     | (go_at_call 140;refine (y w4 hi4).mono ?_;rintro i w5 ⟨rfl,hi5,z⟩)
     | (go_at_call 93;refine (X5 s R t w5 z).mono ?_;rintro i w6 ⟨rfl,rfl⟩))
    go_ret;refine vB.of ?_ HM.out;exact⟨rfl,j.out.bad _ _ _ hi5⟩
inductive ValAt (w:World) (S:Nat->Prop):Rd.V->Value->Prop
 | str (t:BA):ValAt w S (.str t) (.iface 274 (.string t))
 | word (b:Bool):ValAt w S (.word b) (.iface 275 (.bool b))
 | list (vs:List Rd.V) (us:List Value) (ao:Option Addr) (cap:Nat):us.length=vs.length ->
   (us=[]\/∃b,ao=some ⟨b,0,none⟩/\S b/\∀(j:Nat) (u:Value),us[j]?=some u->w.cell? ⟨b,j,none⟩=some u) ->
   (∀(j:Nat) (v:Rd.V) (u:Value),vs[j]?=some v->us[j]?=some u->ValAt w S v u)->ValAt w S (.list vs) (.iface 125 (.slice ao us.length cap))
 | obj (ms:List (BA×Rd.V)) (us:List (BA×Value)) (ao:Option Addr) (cap:Nat):us.map Prod.fst=ms.map Prod.fst ->
   (us=[]\/∃b,ao=some ⟨b,0,none⟩/\S b/\∀(j:Nat) (x:BA×Value),us[j]?=some x->w.cell? ⟨b,j*2,none⟩=some (.string x.1)/\w.cell? ⟨b,j*2+1,none⟩=some x.2) ->
   (∀(j:Nat) (x:BA×Rd.V) (u:BA×Value),ms[j]?=some x->us[j]?=some u->ValAt w S x.2 u.2)->ValAt w S (.obj ms) (.iface 122 (.slice ao us.length cap))
theorem ValAt.move{w l:World}{S S':Nat->Prop}{v:Rd.V}{u:Value}(h:ValAt w S v u)(i:∀b,S b->S' b)(e:∀b,S b->l.heap[b]?=w.heap[b]?):ValAt l S' v u:=by
 induction h with
 | str t=>exact .str t
 | word b=>exact .word b
 | list n g ao cap d c _ f=>
  refine .list n g ao cap d ?_ f
  rcases c with c|⟨b,ha,hb,hc⟩
  ·exact .inl c
  ·exact .inr ⟨b,ha,i b hb,λj u m=>by rw[XG (a:=⟨b,j,none⟩) (e b hb)];exact hc j u m⟩
 | obj ms g ao cap d c _ f=>
  refine .obj ms g ao cap d ?_ f
  rcases c with c|⟨b,ha,hb,hc⟩
  ·exact .inl c
  ·exact .inr ⟨b,ha,i b hb,λj x k=>⟨by rw[XG (a:=⟨b,j*2,none⟩) (e b hb)];exact (hc j x k).1,by rw[XG (a:=⟨b,j*2+1,none⟩) (e b hb)];exact (hc j x k).2⟩⟩
theorem ValAt.iface{w:World}{S:Nat->Prop}{v:Rd.V}{u:Value}(h:ValAt w S v u):∃T x,u = .iface T x:=by
 cases h with
 | str t=>exact⟨_,_,rfl⟩
 | word b=>exact⟨_,_,rfl⟩
 | list=>exact⟨_,_,rfl⟩
 | obj=>exact⟨_,_,rfl⟩
def Blk(w a:World)(b:Nat):Prop:=w.heap.size<=b/\b<a.heap.size
def starts(s:BA)(p:Nat):Bool:=Rd.zk s.data.toList p==123||Rd.zk s.data.toList p==91||Rd.zk s.data.toList p==34||Rd.zk s.data.toList p==116||Rd.zk s.data.toList p==102
def uy(w:World)(R:Nat)(s:BA)(sb:Bool)(r:Rd.Res Rd.V)(e:Ending)(a:World):Prop:=match r with
 | .ok v q=>∃u,e = .returned (.tuple #[u,.nilIface])/\ValAt a (Blk w a) v u/\w.grownBy a (some R)/\zz a R s q
 | .err c q=>∃u,e = .returned (.tuple #[u,ZE c q])/\((sb=true->∃T x,u = .iface T x)/\(sb=false->u = .nilIface))/\w.grownBy a (some R)
theorem uy.of{w b:World}{R:Nat}{s:BA}{sb:Bool}{r a:Rd.Res Rd.V}{e:Ending}(h:uy w R s sb r e b)(c:a=r):uy w R s sb a e b:=c ▸ h
def Qr(s:BA)(R F:Nat):Prop:=∀f,f<F->∀(d p:Nat) (w:World),zz w R s p->qG w->p<=s.size->1<=d->d<=9->Rd.blank (Rd.zk s.data.toList p)=false->2*(s.size-p)<f ->
 Calls prog 92 #[.pointer (some ⟨R,0,none⟩),.int .i64 (d:Int)] w λe a=>uy w R s (starts s p) (Rd.qo s.data.toList f d p) e a
structure QT (w0:World) (R:Nat) (s:BA) (d:Nat) (acc:List Rd.V) (q:Nat) (wr:World):Prop where
 rd:zz wr R s q
 seq:qG wr
 grown:w0.grownBy wr (some R)
 size:w0.heap.size+3<=wr.heap.size
 len:acc.length<=q
 cx:wr.cell? ⟨w0.heap.size,0,none⟩=some (.pointer (some ⟨R,0,none⟩))
 cd:wr.cell? ⟨w0.heap.size+1,0,none⟩=some (.int .i64 (d:Int))
 row:∃lv us,wr.cell? ⟨w0.heap.size+2,0,none⟩=some lv/\wr.frozen? ⟨w0.heap.size+2,0,none⟩=false/\wr.ownsRow (w0.heap.size+3) 118 1 lv acc.length us /\
  ∀(j:Nat) (v:Rd.V) (u:Value),acc[j]?=some v->us[j]?=some u->ValAt wr (λb=>w0.heap.size+3<=b/\b<wr.heap.size/\lv.ownBlock≠some b) v u
def Js(a:World)(R:Nat)(wr:World):Prop:=a.grownBy wr (some R)/\∃b,wr.cell? ⟨a.heap.size+2,0,none⟩=some b
theorem QT.mv{e:World}{R:Nat}{s:BA}{d:Nat}{acc:List Rd.V}{q g:Nat}{w i:World}(t:R<e.heap.size)(f:R≠5)(h:QT e R s d acc q w)(x:q<=g)(c:w.grownBy i (some R))(l:zz i R s g):QT e R s d acc g i:=by
 obtain⟨p,r,c1,c2,c3,c4⟩:=h.row;have m:=h.size;have k:=c.size;refine⟨l,h.seq.grown c f,qc h.grown c,by omega,by have:=h.len;omega,c.cell h.cx (by simp;omega),c.cell h.cd (by simp;omega),p,r,c.cell c1 (by simp;omega),?_,ug c3 c (by omega),λj v u o n=>(c4 j v u o n).move (λb hb=>⟨hb.1,by omega,hb.2.2⟩) (λb hb=>c.block b hb.2.1 (by simp;omega))⟩;rw[yZ (w:=w) (a:=⟨e.heap.size+2,0,none⟩) (c.block _ (by show e.heap.size+2<_;omega) (by simp;omega))];exact c2
theorem zaO:(prog.info? 118).map (λi=>(i.zero,i.size,i.bytes))=some (some .nilIface,1,16):=by kernel_rfl
theorem Be{α:Type}{xs:List α}{x:α}{j:Nat}{u:α}(h:(xs++[x])[j]?=some u):(j<xs.length/\xs[j]?=some u)\/(j=xs.length/\u=x):=by
 rw[List.getElem?_append] at h
 split at h
 ·rename_i a;exact .inl ⟨a,h⟩
 ·have a:=(xw.1 h).1;simp at a;have e:j=xs.length:=by omega
  subst e;simp at h;exact .inr ⟨rfl,h.symm⟩
end Go.Proofs.YtagnlbgbnfnapaaGreatDoor
