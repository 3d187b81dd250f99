/- P -/
import Derived.Test.YtdakgnaojakldaaGreatDoorQ09
open Go.Proofs.Tryz
set_option maxRecDepth 100000
set_option maxHeartbeats 2000000
namespace Go.Proofs.YtdakgnaojakldaaGreatDoor
open Go.RowKit
def Xq(w:World)(ao:Option Addr)(ms:List (BA×Value)):Prop:=
 ms=[]\/∃b o,ao=some ⟨b,o,none⟩/\∀j,(h:j<ms.length)->w.cell? ⟨b,o+j*2,none⟩=some (.string ms[j].1)/\w.cell? ⟨b,o+j*2+1,none⟩=some ms[j].2
theorem UY{w c:World}{ao:Option Addr}{ms:List (BA×Value)}(h:Xq w ao ms)(hb:Below w.heap.size w c):Xq c ao ms:=by
 rcases h with h|⟨b,o,ha,hc⟩
 ·exact .inl h
 ·exact .inr ⟨b,o,ha,λj a=>⟨zg hb (hc j a).1,zg hb (hc j a).2⟩⟩
def Z5(m:BA×Value):Value := .agg #[.string m.1,m.2]
def vz(ms:List (BA×Value))(j:Nat):BA×Value:=ms.getD j (⟨#[]⟩,.nilIface)
theorem XX(ms:List (BA×Value))(j:Nat)(h:j<ms.length):vz ms j=ms[j]:=by
 unfold vz;rw[zL,zl h];rfl
theorem nC(ms:List (BA×Value))(ao:Option Addr)(cap g:Nat)(y:Array Value)(p:Nat->Bool)(w:World)(E:ms.length<=100000000000)(C:∀args w,(callFunc g args).run prog w = .ok (.enter g args) w)
  (A:Xq w ao ms)(s:∀m ∈ ms,∃T x,m.2 = .iface T x)(B:jD g y (λj=>Z5 (vz ms j)) ms.length p w) :
  Calls prog 95 #[.slice ao ms.length cap,.func (.func g) #[] y] w λe u=>
   e = .returned (.tuple #[.int .i64 (((zw p ms.length).getD 0:Nat):Int),.bool (zw p ms.length).isSome])/\Below w.heap.size w u:=by
 generalize hF:zw p ms.length=F;have v:=hid hF;clear hF;go_enter func95,ntmps95
 go_wp2
 go_loopw [10] (λi wr=>∃k:Nat,k<=ms.length/\i = .int .i64 k/\(∀j,j<k->p j=false)/\Below w.heap.size w wr) (λi _=>ms.length-(intOf i).toNat)
 case atStart=>exact⟨0,zO _,rfl,λj h=>by omega,zh _ _⟩
 case round=>
  obtain⟨k,D,rfl,hb,q⟩:=hrel;have r:=hid hb;clear hb
  by_cases hlt:k<ms.length
  ·rcases A with rfl|⟨b,o,rfl,hc⟩
   ·simp at hlt
   have a:=λW hb=>B W k hlt hb;simp only[XX ms k hlt,Z5] at a;obtain⟨t,q2⟩:=hc k hlt;obtain⟨G,f⟩:∃n,ms[k].1=n:=⟨_,rfl⟩;obtain⟨T,J,l⟩:=s ms[k] (qH hlt);rw[f] at t a;rw[l] at q2 a;have H:=zg q t;have I:=zg q q2;clear f l hc t q2;have c:=λO=>q.trans (nB wr O |>.mono q.size)
   cases hpp:p k with
   | false=>
    rw[hpp] at a;have z:=hid hpp;clear hpp
    go_wp2_with (go_at_fn g;refine (a _ (c _)).mono ?_;rintro e u ⟨rfl,d⟩)
    refine⟨⟨k+1,by omega,by go_num,λj h=>?_,(c _).trans (d.mono (c _).size)⟩,by simp[intOf];omega⟩
    by_cases hj:j=k
    ·subst hj;exact z.out
    ·exact r.out j (by omega)
   | true=>
    rw[hpp] at a;have e:=ZY p ms.length k hlt r.out hpp;rw[v.out] at e;subst e;clear hpp
    go_wp2_with (go_at_fn g;refine (a _ (c _)).mono ?_;rintro e u ⟨rfl,d⟩)
    go_ret2;exact⟨rfl,(c _).trans (d.mono (c _).size)⟩
  ·have e:=ZZ p ms.length (λj h=>r.out j (by omega));rw[v.out] at e;subst e
   go_wp2
   go_ret2;exact⟨rfl,q⟩
theorem BS(ms:List (BA×Value))(ao:Option Addr)(cap g:Nat)(d:Array Value)(p:Nat->Bool)(w:World)(k:ms.length<=100000000000)(h:∀args w,(callFunc g args).run prog w = .ok (.enter g args) w)
  (i:Xq w ao ms)(b:∀m ∈ ms,∃T x,m.2 = .iface T x)(l:jD g d (λj=>Z5 (vz ms j)) ms.length p w) :
  Calls prog 197 #[.slice ao ms.length cap,.func (.func g) #[] d] w λe f=>
   e = .returned (.bool (zw p ms.length).isSome)/\Below w.heap.size w f:=by
 have c:=nC ms ao cap g d p w k h i b l;generalize zw p ms.length=F at c;go_enter func197,ntmps197
 go_wp2_with (go_at_call 95;refine c.mono ?_;rintro e f ⟨rfl,a⟩)
 go_ret;exact⟨rfl,a⟩
theorem BI(g:Nat)(h:Array Value)(m:BA×Value)(B:Nat)(y:Bool)(w:World)(k:∀args w,(callFunc g args).run prog w = .ok (.enter g args) w)
  (i:w.cell? ⟨B,0,none⟩=some (.func (.func g) #[] h))(f:∀W,Below w.heap.size w W->Calls prog g (#[Z5 m]++h) W λe c=>e = .returned (.bool y)/\Below W.heap.size W c) :
  Calls prog 198 #[Z5 m,.pointer (some ⟨B,0,none⟩)] w λe c=>e = .returned (.bool (!y))/\Below w.heap.size w c:=by
 obtain⟨a,v⟩:=m;unfold Z5 at f |-;simp only at f |-;have j:=λO:Obj=>zg (nB w O) i;have b:=λO:Obj=>nB w O;go_enter func198,ntmps198
 go_wp2_with (go_at_fn g;refine (f _ (b _)).mono ?_;rintro e c ⟨rfl,d⟩)
 go_ret;exact⟨rfl,(b _).trans (d.mono (b _).size)⟩
theorem BH(ms:List (BA×Value))(ao:Option Addr)(cap g:Nat)(a:Array Value)(p:Nat->Bool)(w:World)(q:ms.length<=100000000000)(k:∀args w,(callFunc g args).run prog w = .ok (.enter g args) w)
  (o:Xq w ao ms)(d:∀m ∈ ms,∃T x,m.2 = .iface T x)(r:jD g a (λj=>Z5 (vz ms j)) ms.length p w) :
  Calls prog 150 #[.slice ao ms.length cap,.func (.func g) #[] a] w λe f=>
   e = .returned (.bool (vW p ms.length))/\Below w.heap.size w f:=by
 have i:∀args w,(callFunc 198 args).run prog w = .ok (.enter 198 args) w:=enters_of func198 (by kernel_rfl) rfl
 have c:=BS ms ao cap 198 #[.pointer (some ⟨w.heap.size,0,none⟩)] (λj=>!p j) (w.alloc (.cells #[.func (.func g) #[] a] 203)) q i
  (UY o (nB w _)) d
  (λW j n hb=>by
    refine BI g a (vz ms j) w.heap.size (p j) W k ?_ (λh l=>r h j n (((nB w _).trans (hb.mono (by simp))).trans (l.mono (by have:=hb.size;simp at this;omega))));exact zg hb (by simp))
 rw[Ue];generalize zw (λj=>!p j) ms.length=F at c;go_enter func150,ntmps150
 go_wp2_with (go_at_call 197;refine c.mono ?_;rintro e f ⟨rfl,b⟩)
 go_ret;exact⟨rfl,(nB w _).trans (b.mono (by simp))⟩
theorem Ho(nm:BA)(m:BA×Value)(B:Nat)(w:World)(c:w.cell? ⟨B,0,none⟩=some (.string nm)) :
  Calls prog 96 #[Z5 m,.pointer (some ⟨B,0,none⟩)] w λe f=>e = .returned (.bool (m.1.toList==nm.toList))/\Below w.heap.size w f:=by
 obtain⟨a,v⟩:=m;unfold Z5;simp only;have d:=λO:Obj=>zg (nB w O) c;have b:=λO:Obj=>nB w O;go_enter func96,ntmps96
 go_wp2
 go_ret;exact⟨rfl,b _⟩
def qZ(ms:List (BA×Value))(nm:BA):Value:=match ms.find? (λm=>m.1.toList==nm.toList) with
 | some m=>m.2
 | none => .nilIface
theorem Hg(ms:List (BA×Value))(nm:BA):qZ ms nm=match zw (λj=>(vz ms j).1.toList==nm.toList) ms.length with
  | some k=>(vz ms k).2
  | none => .nilIface:=by
 unfold qZ
 cases hF:zw (λj=>(vz ms j).1.toList==nm.toList) ms.length with
 | none=>
  have:ms.find? (λm=>m.1.toList==nm.toList)=none:=by
   rw[XD];intro m f;obtain⟨j,a,rfl⟩:=ZJ f;unfold zw at hF;rw[XD] at hF
   have:=hF j (vQ.2 a)
   rwa [XX ms j a] at this
  rw[this]
 | some k=>
  unfold zw at hF;rw[J9] at hF;obtain⟨c,d,e⟩:=hF;have b:k<ms.length:=by simpa using d
  have:ms.find? (λm=>m.1.toList==nm.toList)=some ms[k]:=by
   rw[List.find?_eq_some_iff_getElem];refine⟨by rw[XX ms k b] at c;exact c,k,b,rfl,λj a=>?_⟩
   have:=e j a
   rw[XX ms j (by omega)] at this;exact this
  rw[this];simp only;rw[XX ms k b]
theorem bE(ms:List (BA×Value))(ao:Option Addr)(cap:Nat)(nm:BA)(w:World)(s:ms.length<=100000000000)(n:Xq w ao ms)(g:∀m ∈ ms,∃T x,m.2 = .iface T x) :
  Calls prog 51 #[.slice ao ms.length cap,.string nm] w λe l=>e = .returned (qZ ms nm)/\Below w.heap.size w l:=by
 have q:∀args w,(callFunc 96 args).run prog w = .ok (.enter 96 args) w:=enters_of func96 (by kernel_rfl) rfl
 have c:=nC ms ao cap 96 #[.pointer (some ⟨w.heap.size,0,none⟩)] (λj=>(vz ms j).1.toList==nm.toList) (w.alloc (.cells #[.string nm] 9)) s q
  (UY n (nB w _)) g
  (λW j v hb=>Ho nm (vz ms j) w.heap.size W (zg hb (by simp)))
 have d:=Hg ms nm
 have hF:∀k,zw (λj=>(vz ms j).1.toList==nm.toList) ms.length=some k->k<ms.length:=λk h=>by
  unfold zw at h;rw[J9] at h
  simpa using h.2.1
 have f:=λO:Obj=>nB w O
 cases hf:zw (λj=>(vz ms j).1.toList==nm.toList) ms.length with
 | none=>
  rw[hf] at c d;simp only at d;rw[d];clear d hF hf;go_enter func51,ntmps51
  go_wp2_with (go_at_call 95;refine c.mono ?_;rintro e l ⟨rfl,a⟩)
  go_ret;exact⟨rfl,(f _).trans (a.mono (by simp))⟩
 | some k=>
  rw[hf] at c d;simp only at d;have i:=hF k hf;rw[d,XX ms k i]
  rcases n with rfl|⟨b,o,rfl,hc⟩
  ·simp at i
  obtain⟨t,q2⟩:=hc k i;obtain⟨u,p⟩:=Nm (ms[k].2);rw[p] at q2 |-;have r:(k:Int)<(ms.length:Int):=by omega
  clear d hF hf hc t p;go_enter func51,ntmps51
  go_wp2_with (go_at_call 95;refine c.mono ?_;rintro e l ⟨rfl,a⟩;have y:=zg ((f (.cells #[.string nm] 9)).trans (a.mono (by simp))) q2)
  go_ret;exact⟨rfl,(f _).trans (a.mono (by simp))⟩
def Zc(c:Int)(q:Nat):Value:=
 if c=3 then .iface 141 (.agg #[.int .i64 (q:Int)])
 else if c=4 then .iface 142 (.agg #[.int .i64 (q:Int)])
 else .iface 140 (.agg #[.int .i64 (q:Int)])
theorem Gs(q:Nat):Zc 4 q = .iface 142 (.agg #[.int .i64 (q:Int)]):=rfl
theorem Jp(c:Int)(q:Nat):∃T,Zc c q = .iface T (.agg #[.int .i64 (q:Int)]):=by
 unfold Zc;split
 ·exact⟨_,rfl⟩
 split
 ·exact⟨_,rfl⟩
 ·exact⟨_,rfl⟩
def jO{α:Type}(Inv:α->Nat->World->Prop)(Bad:World->Prop)(r:Rd.Res α)(e:Ending)(b:World):Prop:=match r with
 | .ok a q=>e = .returned .nilIface/\Inv a q b
 | .err c q=>e = .returned (Zc c q)/\Bad b
theorem jO.of{α:Type}{Inv:α->Nat->World->Prop}{Bad:World->Prop}{r a:Rd.Res α}{e:Ending}{b:World}(h:jO Inv Bad r e b)(c:a=r):jO Inv Bad a e b:=c ▸ h
structure Reads {α:Type} (s:BA) (R g:Nat) (lb:Array Value) (st:Nat->α->Nat->Rd.Res α) (F d:Nat) (Inv:α->Nat->World->Prop) (Bad:World->Prop):Prop where
 rd:∀a q w,Inv a q w->zm w R s q
 mv:∀a q q' w w',Inv a q w->q<=q'->w.grownBy w' (some R)->zm w' R s q'->Inv a q' w'
 bad:∀a q w,Inv a q w->Bad w
 adv:∀f a q a' q',q<=s.size->Rd.blank (Rd.zi s.data.toList q)=false->2*(s.size-q)<f->st f a q = .ok a' q'->q<q'/\q'<=s.size
 one:∀f a q w,f<F->d<=8->Inv a q w->q<=s.size->Rd.blank (Rd.zi s.data.toList q)=false->2*(s.size-q)<f->Calls prog g lb w λe w'=>jO Inv Bad (st f a q) e w'
theorem Lg{α:Type}{l:List UInt8}{st:Nat->α->Nat->Rd.Res α}{e f q q2:Nat}{a:α}{c:Int}(h:st f a q = .err c q2):Rd.jF l st e (f+1) a q = .err c q2:=by rw[Rd.jF,h]
theorem Lh{α:Type}{l:List UInt8}{st:Nat->α->Nat->Rd.Res α}{e f q q2:Nat}{a b:α}(h:st f a q = .ok b q2)(hb:Rd.zi l (Rd.skip l q2)=44):Rd.jF l st e (f+1) a q=Rd.jF l st e f b (Rd.skip l (Rd.skip l q2+1)):=by
 rw[Rd.jF,h];exact zb hb
theorem Lf{α:Type}{l:List UInt8}{st:Nat->α->Nat->Rd.Res α}{e f q q2:Nat}{a b:α}(h:st f a q = .ok b q2)(hb:Rd.zi l (Rd.skip l q2)=e)(c:e≠44):Rd.jF l st e (f+1) a q = .ok b (Rd.skip l q2+1):=by
 rw[Rd.jF,h];exact (za (by omega)).trans (zb hb)
theorem Le{α:Type}{l:List UInt8}{st:Nat->α->Nat->Rd.Res α}{e f q q2:Nat}{a b:α}(h:st f a q = .ok b q2)(hb:Rd.zi l (Rd.skip l q2)≠44)(c:Rd.zi l (Rd.skip l q2)≠e):Rd.jF l st e (f+1) a q = .err 2 (Rd.skip l q2):=by
 rw[Rd.jF,h];exact (za hb).trans (za c)
theorem oh{α:Type}(s:BA)(R p d e g F:Nat)(lb:Array Value)(st:Nat->α->Nat->Rd.Res α)(Inv:α->Nat->World->Prop)(Bad:World->Prop)(a:α)(w:World)
  (eg:∀args w,(callFunc g args).run prog w = .ok (.enter g args) w)(hR:Reads s R g lb st F d Inv Bad)
  (hi:Inv a p w)(hp:p<s.size)(hs:s.size<=4000)(hd:d<=100)(f8:e≠0)(d4:e≠44)(hF:2*(s.size-(p+1))+1<F) :
  Calls prog 190 #[.pointer (some ⟨R,0,none⟩),.int .i64 (d:Int),.int .u8 (e:Int),.func (.func g) #[] lb] w λi n=>jO Inv Bad (Rd.uf s.data.toList st e F d a p) i n:=by
 have hr:=hR.rd a p w hi;have HI:=hid hi;have j:=hid hR;clear hi hR;have C:Rd.uf s.data.toList st e F d a p=Rd.uf s.data.toList st e F d a p:=rfl
 conv at C=>rhs;unfold Rd.uf
 have b7:zm (w.setCell ⟨R,1,none⟩ (.int .i64 ((p:Int)+1))) R s (p+1):=by
  have:=hr.move (p+1)
  rwa [show ((p+1:Nat):Int)=(p:Int)+1 by omega] at this
 have b2:=hid b7;obtain⟨h1,h2,h3⟩:=hr;clear b7
 by_cases c8:8<d
 ·rw[zb c8] at C;have P:=hid C;have d8:decide (8<(d:Int))=true:=zF (by omega);clear C;go_enter func190,ntmps190
  go_wp2
  go_ret;refine jO.of ?_ P.out;exact⟨rfl,j.out.bad _ _ _ HI.out⟩
 rw[za c8] at C;have d8:decide (8<(d:Int))=false:=zH (by omega);have a0:=Rd.ul s.data.toList (p+1) (by rw[Ref.zG];omega);rw[Ref.zG] at a0;have d9:=Rd.yY s.data.toList (p+1);have Y:=Rd.Zh s.data.toList (p+1);obtain⟨q,hq⟩:=Nm (Rd.skip s.data.toList (p+1));have A:=YO s R (p+1) _ b2.out (by omega) hs;rw[hq] at C a0 d9 Y A;obtain⟨b,hb⟩:=Nm (Rd.zi s.data.toList q);have e3:b<256:=by rw[<- hb];exact Rd.Z9 _ _
 rw[hb] at C
 have B:=A.mono (R':=λi n=>i = .returned (.tuple #[])/\w.grownBy n (some R)/\zm n R s q) (by
  rintro i n ⟨rfl,N,O⟩;exact⟨rfl,zZ (yT _ _ _ _) N,O⟩)
 have y:∀u,zm u R s q->w.grownBy u (some R)->Calls prog 143 #[.pointer (some ⟨R,0,none⟩)] u λi n=>i = .returned (.int .u8 (b:Int))/\w.grownBy n (some R)/\zm n R s q:=λu h6 h7=>by
  refine (JL s R q u h6 a0).mono ?_;rintro i n ⟨rfl,N,O,_,_⟩;exact⟨by rw[hb],zZ h7 O,N⟩
 clear A
 by_cases ce:b=e
 ·rw[zb ce] at C;have P:=hid C
  have c0:q<s.size:=by
   have:=Rd.qy s.data.toList q (by rw[hb];omega)
   rwa [Ref.zG] at this
  have de:((b:Int)==(e:Int))=true:=by rw[kX];omega
  clear C hb hq Y;go_enter func190,ntmps190
  go_wp2_with (first
   | (go_at_call 92;refine B.mono ?_;rintro i u ⟨rfl,V,Z⟩)
   | (go_at_call 143;refine (y u Z V).mono ?_;rintro i w2 ⟨rfl,W,J⟩;have Q:=hid J;obtain⟨g1,g2,g3⟩:=J))
  go_ret;refine jO.of ?_ P.out;refine⟨rfl,j.out.mv a p _ w _ HI.out (by omega) (zZ W (yT _ _ _ _)) ?_⟩
  have:=Q.out.move (q+1)
  rwa [show ((q+1:Nat):Int)=(q:Int)+1 by omega] at this
 rw[za ce] at C;have de:((b:Int)==(e:Int))=false:=by rw[qQ];omega
 have P:=hid C;have b4:=hid Y;clear C hb hq Y;go_enter func190,ntmps190
 go_wp2_with (first
  | (go_at_call 92;refine B.mono ?_;rintro i u ⟨rfl,V,Z⟩)
  | (go_at_call 143;refine (y u Z V).mono ?_;rintro i w2 ⟨rfl,W,J⟩))
 have Q:=hid J;have b1:=hid W;clear Z V J W y B h1 h2 h3
 go_loopw [38] (λ_ wr=>∃(f:Nat) (a':α) (q':Nat),f<=F/\Inv a' q' wr/\q'<=s.size/\Rd.blank (Rd.zi s.data.toList q')=false/\2*(s.size-q')+1<f/\Rd.jF s.data.toList st e F a q=Rd.jF s.data.toList st e f a' q') (λ_ wr=>s.size-Vj wr R)
 case atStart=>exact⟨F,a,q,ze _,j.out.mv a p q w w2 HI.out (by omega) b1.out Q.out,a0,b4.out,by omega,rfl⟩
 case round=>
  obtain⟨f,a',q',g0,X,b8,I,f9,c2⟩:=hrel;obtain⟨f,rfl⟩:∃k,f=k+1:=⟨f-1,by omega⟩;have x:=j.out.one f a' q' wr (by omega) (by omega) X b8 I (by omega);have d2:=hid (j.out.rd _ _ _ X).at;have S:=hid c2;have e9:=hid X;have G:=hid (λE q2=>j.out.adv f a' q' E q2 b8 I (by omega));clear c2 X Q b1 b4 b2 I
  cases hx:st f a' q' with
  | err c q2=>
   rw[hx] at x;have b0:=hid (P.out.trans (S.out.trans (Lg hx)));obtain⟨T,hT⟩:=Jp c q2
   have o:=x.mono (R':=λi n=>i = .returned (.iface T (.agg #[.int .i64 (q2:Int)]))/\Bad n) (by
    rintro i n ⟨rfl,h⟩;exact⟨by rw[hT],h⟩)
   have HT:=hid hT;clear x hx G hT
   go_wp2_with (go_at_fn g;refine o.mono ?_;rintro i M ⟨rfl,b6⟩)
   go_ret;refine jO.of ?_ b0.out;exact⟨by rw[HT.out];rfl,b6⟩
  | ok E q2=>
   rw[hx] at x;obtain⟨d1,a6⟩:=G.out E q2 hx;have K:=Rd.ul s.data.toList q2 (by rw[Ref.zG];omega);rw[Ref.zG] at K;have a4:=Rd.yY s.data.toList q2;have m:=λh=>hid (P.out.trans (S.out.trans (Lh (e:=e) (l:=s.data.toList) hx h)));have v:=λh=>hid (P.out.trans (S.out.trans (Lf (e:=e) (l:=s.data.toList) hx h d4)));have D:=λh h'=>hid (P.out.trans (S.out.trans (Le (e:=e) (l:=s.data.toList) hx h h')));have A:=λu (h:Inv E q2 u)=>YO s R q2 u (j.out.rd _ _ _ h) a6 hs;obtain⟨t,b9⟩:∃q,Rd.skip s.data.toList q2=q:=⟨_,rfl⟩;simp only[b9] at K a4 m v D A;obtain⟨U,H⟩:∃b,Rd.zi s.data.toList t=b:=⟨_,rfl⟩;have d3:U<256:=by rw[<- H];exact Rd.Z9 _ _
   have r:U≠0->t<s.size:=λh=>by
    have:=Rd.qy s.data.toList t (by rw[H];exact h)
    rwa [Ref.zG] at this
   simp only[H] at m v D
   have o:=x.mono (R':=λi n=>i = .returned .nilIface/\Inv E q2 n) (by
    rintro i n ⟨rfl,h⟩;exact⟨rfl,h⟩)
   have B:∀u,Inv E q2 u->Calls prog 92 #[.pointer (some ⟨R,0,none⟩)] u λi n=>i = .returned (.tuple #[])/\Inv E t n:=λu h=>by
    refine (A u h).mono ?_;rintro i n ⟨rfl,N,O⟩;exact⟨rfl,j.out.mv _ _ _ _ _ h a4 N O⟩
   have y:∀u,Inv E t u->Calls prog 143 #[.pointer (some ⟨R,0,none⟩)] u λi n=>i = .returned (.int .u8 (U:Int))/\Inv E t n/\zm n R s t:=λu h=>by
    refine (JL s R t u (j.out.rd _ _ _ h) K).mono ?_;rintro i n ⟨rfl,N,O,_,_⟩;exact⟨by rw[H],j.out.mv _ _ _ _ _ h (ze _) O N,N⟩
   clear x hx G A H b9
   by_cases c44:U=44
   ·have d44:(U:Int)=44:=by omega
    have HM:=m c44;have c0:=r (by omega);have L:=Rd.ul s.data.toList (t+1) (by rw[Ref.zG];omega);rw[Ref.zG] at L;have c1:=Rd.yY s.data.toList (t+1);have a3:=hid (Rd.Zh s.data.toList (t+1));clear m v D r c44;obtain⟨q4,a7⟩:∃q,Rd.skip s.data.toList (t+1)=q:=⟨_,rfl⟩;rw[a7] at L c1 HM a3
    have d7:∀M,Inv E t M->zm M R s t->Calls prog 92 #[.pointer (some ⟨R,0,none⟩)] (M.setCell ⟨R,1,none⟩ (.int .i64 ((t:Int)+1))) λi n=>i = .returned (.tuple #[])/\Inv E q4 n:=λM h h'=>by
     have hm:=h'.move (t+1);rw[show ((t+1:Nat):Int)=(t:Int)+1 by omega] at hm;refine (YO s R (t+1) _ hm (by omega) hs).mono ?_;rintro i n ⟨rfl,N,O⟩;rw[a7] at O;exact⟨rfl,j.out.mv _ _ _ _ _ h (by omega) (zZ (yT _ _ _ _) N) O⟩
    clear a7
    go_wp2_with (first
     | (go_at_fn g;refine o.mono ?_;rintro i M ⟨rfl,hi3⟩)
     | (go_at_call 92;refine (d7 w5 hi5 a5.out).mono ?_;rintro i w6 ⟨rfl,hi6⟩)
     | (go_at_call 92;refine (B M hi3).mono ?_;rintro i w4 ⟨rfl,hi4⟩)
     | (go_at_call 143;refine (y w4 hi4).mono ?_;rintro i w5 ⟨rfl,hi5,z⟩;have a5:=hid z;obtain⟨g1,g2,g3⟩:=z))
    have b5:=(j.out.rd _ _ _ hi6).at
    go_roundw
    case rel=>exact⟨f,E,q4,by omega,hi6,L,a3.out,by omega,P.out.symm.trans HM.out⟩
    case measure=>rw[d2.out,b5];omega
   have d44:((U:Int)==44)=false:=by rw[qQ];omega
   by_cases ce3:U=e
   ·have c6:((U:Int)==(e:Int))=true:=by rw[kX];omega
    have HM:=v ce3;have c0:=r (by omega);clear m v D r c44 ce3
    go_wp2_with (first
     | (go_at_fn g;refine o.mono ?_;rintro i M ⟨rfl,hi3⟩)
     | (go_at_call 92;refine (B M hi3).mono ?_;rintro i w4 ⟨rfl,hi4⟩)
     | (go_at_call 143;refine (y w4 hi4).mono ?_;rintro i w5 ⟨rfl,hi5,z⟩;have a5:=hid z;obtain⟨g1,g2,g3⟩:=z))
    go_ret;refine jO.of ?_ HM.out;refine⟨rfl,j.out.mv _ _ _ _ _ hi5 (by omega) (yT _ _ _ _) ?_⟩
    have:=a5.out.move (t+1)
    rwa [show ((t+1:Nat):Int)=(t:Int)+1 by omega] at this
   ·have c6:((U:Int)==(e:Int))=false:=by rw[qQ];omega
    have HM:=D c44 ce3;clear m v D r c44 ce3
    go_wp2_with (first
     | (go_at_fn g;refine o.mono ?_;rintro i M ⟨rfl,hi3⟩)
     | (go_at_call 92;refine (B M hi3).mono ?_;rintro i w4 ⟨rfl,hi4⟩)
     | (go_at_call 143;refine (y w4 hi4).mono ?_;rintro i w5 ⟨rfl,hi5,z⟩)
     | (go_at_call 94;refine (Xw s R t w5 z).mono ?_;rintro i w6 ⟨rfl,rfl⟩))
    go_ret;refine jO.of ?_ HM.out;exact⟨rfl,j.out.bad _ _ _ hi5⟩
inductive ValAt (w:World) (S:Nat->Prop):Rd.V->Value->Prop
 | str (t:BA):ValAt w S (.str t) (.iface 270 (.string t))
 | word (b:Bool):ValAt w S (.word b) (.iface 271 (.bool b))
 | list (vs:List Rd.V) (us:List Value) (ao:Option Addr) (cap:Nat):us.length=vs.length ->
   (us=[]\/∃b,ao=some ⟨b,0,none⟩/\S b/\∀(j:Nat) (u:Value),us[j]?=some u->w.cell? ⟨b,j,none⟩=some u) ->
   (∀(j:Nat) (v:Rd.V) (u:Value),vs[j]?=some v->us[j]?=some u->ValAt w S v u)->ValAt w S (.list vs) (.iface 121 (.slice ao us.length cap))
 | obj (ms:List (BA×Rd.V)) (us:List (BA×Value)) (ao:Option Addr) (cap:Nat):us.map Prod.fst=ms.map Prod.fst ->
   (us=[]\/∃b,ao=some ⟨b,0,none⟩/\S b/\∀(j:Nat) (x:BA×Value),us[j]?=some x->w.cell? ⟨b,j*2,none⟩=some (.string x.1)/\w.cell? ⟨b,j*2+1,none⟩=some x.2) ->
   (∀(j:Nat) (x:BA×Rd.V) (u:BA×Value),ms[j]?=some x->us[j]?=some u->ValAt w S x.2 u.2)->ValAt w S (.obj ms) (.iface 118 (.slice ao us.length cap))
theorem ValAt.move{w l:World}{S S':Nat->Prop}{v:Rd.V}{u:Value}(h:ValAt w S v u)(i:∀b,S b->S' b)(e:∀b,S b->l.heap[b]?=w.heap[b]?):ValAt l S' v u:=by
 induction h with
 | str t=>exact .str t
 | word b=>exact .word b
 | list n g ao cap d c _ f=>
  refine .list n g ao cap d ?_ f
  rcases c with c|⟨b,ha,hb,hc⟩
  ·exact .inl c
  ·exact .inr ⟨b,ha,i b hb,λj u m=>by rw[Xa (a:=⟨b,j,none⟩) (e b hb)];exact hc j u m⟩
 | obj ms g ao cap d c _ f=>
  refine .obj ms g ao cap d ?_ f
  rcases c with c|⟨b,ha,hb,hc⟩
  ·exact .inl c
  ·exact .inr ⟨b,ha,i b hb,λj x k=>⟨by rw[Xa (a:=⟨b,j*2,none⟩) (e b hb)];exact (hc j x k).1,by rw[Xa (a:=⟨b,j*2+1,none⟩) (e b hb)];exact (hc j x k).2⟩⟩
theorem ValAt.iface{w:World}{S:Nat->Prop}{v:Rd.V}{u:Value}(h:ValAt w S v u):∃T x,u = .iface T x:=by
 cases h with
 | str t=>exact⟨_,_,rfl⟩
 | word b=>exact⟨_,_,rfl⟩
 | list=>exact⟨_,_,rfl⟩
 | obj=>exact⟨_,_,rfl⟩
def Blk(w a:World)(b:Nat):Prop:=w.heap.size<=b/\b<a.heap.size
def starts(s:BA)(p:Nat):Bool:=Rd.zi s.data.toList p==123||Rd.zi s.data.toList p==91||Rd.zi s.data.toList p==34||Rd.zi s.data.toList p==116||Rd.zi s.data.toList p==102
def vV(w:World)(R:Nat)(s:BA)(sb:Bool)(r:Rd.Res Rd.V)(e:Ending)(a:World):Prop:=match r with
 | .ok v q=>∃u,e = .returned (.tuple #[u,.nilIface])/\ValAt a (Blk w a) v u/\w.grownBy a (some R)/\zm a R s q
 | .err c q=>∃u,e = .returned (.tuple #[u,Zc c q])/\((sb=true->∃T x,u = .iface T x)/\(sb=false->u = .nilIface))/\w.grownBy a (some R)
theorem vV.of{w b:World}{R:Nat}{s:BA}{sb:Bool}{r a:Rd.Res Rd.V}{e:Ending}(h:vV w R s sb r e b)(c:a=r):vV w R s sb a e b:=c ▸ h
def ZP(s:BA)(R F:Nat):Prop:=∀f,f<F->∀(d p:Nat) (w:World),zm w R s p->qA w->p<=s.size->1<=d->d<=9->Rd.blank (Rd.zi s.data.toList p)=false->2*(s.size-p)<f ->
 Calls prog 93 #[.pointer (some ⟨R,0,none⟩),.int .i64 (d:Int)] w λe a=>vV w R s (starts s p) (Rd.qi s.data.toList f d p) e a
structure Qn (w0:World) (R:Nat) (s:BA) (d:Nat) (acc:List Rd.V) (q:Nat) (wr:World):Prop where
 rd:zm wr R s q
 seq:qA wr
 grown:w0.grownBy wr (some R)
 size:w0.heap.size+3<=wr.heap.size
 len:acc.length<=q
 cx:wr.cell? ⟨w0.heap.size,0,none⟩=some (.pointer (some ⟨R,0,none⟩))
 cd:wr.cell? ⟨w0.heap.size+1,0,none⟩=some (.int .i64 (d:Int))
 row:∃lv us,wr.cell? ⟨w0.heap.size+2,0,none⟩=some lv/\wr.frozen? ⟨w0.heap.size+2,0,none⟩=false/\wr.ownsRow (w0.heap.size+3) 114 1 lv acc.length us /\
  ∀(j:Nat) (v:Rd.V) (u:Value),acc[j]?=some v->us[j]?=some u->ValAt wr (λb=>w0.heap.size+3<=b/\b<wr.heap.size/\lv.ownBlock≠some b) v u
def YZ(a:World)(R:Nat)(wr:World):Prop:=a.grownBy wr (some R)/\∃b,wr.cell? ⟨a.heap.size+2,0,none⟩=some b
theorem Qn.mv{e:World}{R:Nat}{s:BA}{d:Nat}{acc:List Rd.V}{q g:Nat}{w i:World}(t:R<e.heap.size)(f:R≠5)(h:Qn e R s d acc q w)(x:q<=g)(c:w.grownBy i (some R))(l:zm i R s g):Qn e R s d acc g i:=by
 obtain⟨p,r,c1,c2,c3,c4⟩:=h.row;have m:=h.size;have k:=c.size;refine⟨l,h.seq.grown c f,zZ h.grown c,by omega,by have:=h.len;omega,c.cell h.cx (by simp;omega),c.cell h.cd (by simp;omega),p,r,c.cell c1 (by simp;omega),?_,vD c3 c (by omega),λj v u o n=>(c4 j v u o n).move (λb hb=>⟨hb.1,by omega,hb.2.2⟩) (λb hb=>c.block b hb.2.1 (by simp;omega))⟩;rw[yQ (w:=w) (a:=⟨e.heap.size+2,0,none⟩) (c.block _ (by show e.heap.size+2<_;omega) (by simp;omega))];exact c2
theorem zaf:(prog.info? 114).map (λi=>(i.zero,i.size,i.bytes))=some (some .nilIface,1,16):=by kernel_rfl
theorem wm{α:Type}{xs:List α}{x:α}{j:Nat}{u:α}(h:(xs++[x])[j]?=some u):(j<xs.length/\xs[j]?=some u)\/(j=xs.length/\u=x):=by
 rw[List.getElem?_append] at h
 split at h
 ·rename_i a;exact .inl ⟨a,h⟩
 ·have a:=(qY.1 h).1;simp at a;have e:j=xs.length:=by omega
  subst e;simp at h;exact .inr ⟨rfl,h.symm⟩
end Go.Proofs.YtdakgnaojakldaaGreatDoor
