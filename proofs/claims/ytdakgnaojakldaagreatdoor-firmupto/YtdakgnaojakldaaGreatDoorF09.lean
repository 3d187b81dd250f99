/- P -/
import Derived.Test.YtdakgnaojakldaaGreatDoorF02
import Derived.Test.YtdakgnaojakldaaGreatDoorF08
import Derived.Deep.RegionWith
import Derived.Deep.Light
open Go.Proofs.Tryz hiding parts
set_option maxRecDepth 100000
set_option maxHeartbeats 2000000
namespace Go.Proofs.YtdakgnaojakldaaGreatDoor
open Go.RowKit
def Ql(w:World)(ao:Option Addr)(ms:List (BA×Value)):Prop:=
 ms=[]\/∃b o,ao=some ⟨b,o,none⟩/\∀j,(h:j<ms.length)->w.cell? ⟨b,o+j*2,none⟩=some (.string ms[j].1)/\w.cell? ⟨b,o+j*2+1,none⟩=some ms[j].2
theorem Vh{w c:World}{ao:Option Addr}{ms:List (BA×Value)}(h:Ql w ao ms)(hb:Below w.heap.size w c):Ql c ao ms:=by
 rcases h with h|⟨b,o,ha,hc⟩
 ·exact .inl h
 ·exact .inr ⟨b,o,ha,λj a=>⟨zb hb (hc j a).1,zb hb (hc j a).2⟩⟩
def Za(m:BA×Value):Value := .agg #[.string m.1,m.2]
def jw(ms:List (BA×Value))(j:Nat):BA×Value:=ms.getD j (⟨#[]⟩,.nilIface)
theorem QH(ms:List (BA×Value))(j:Nat)(h:j<ms.length):jw ms j=ms[j]:=by
 unfold jw;rw[List.getD_eq_getElem?_getD,List.getElem?_eq_getElem h];rfl
theorem fG(ms:List (BA×Value))(ao:Option Addr)(cap g:Nat)(y:Array Value)(p:Nat->Bool)(w:World)(E:ms.length<=100000000000)(C:∀args w,(callFunc g args).run prog w = .ok (.enter g args) w)
  (A:Ql w ao ms)(s:∀m ∈ ms,∃T x,m.2 = .iface T x)(B:yK g y (λj=>Za (jw ms j)) ms.length p w) :
  Calls prog 95 #[.slice ao ms.length cap,.func (.func g) #[] y] w λe u=>
   e = .returned (.tuple #[.int .i64 (((zn p ms.length).getD 0:Nat):Int),.bool (zn p ms.length).isSome])/\Below w.heap.size w u:=by
 generalize hF:zn p ms.length=F;have v:=hid hF;clear hF;go_enter func95,ntmps95
 go_wp2
 go_loopw [10] (λi wr=>∃k:Nat,k<=ms.length/\i = .int .i64 k/\(∀j,j<k->p j=false)/\Below w.heap.size w wr) (λi _=>ms.length-(intOf i).toNat)
 case atStart=>exact⟨0,Nat.zero_le _,rfl,λj h=>by omega,Below.refl _ _⟩
 case round=>
  obtain⟨k,D,rfl,hb,q⟩:=hrel;have r:=hid hb;clear hb
  by_cases hlt:k<ms.length
  ·rcases A with rfl|⟨b,o,rfl,hc⟩
   ·simp at hlt
   have a:=λW hb=>B W k hlt hb;simp only[QH ms k hlt,Za] at a;obtain⟨t,q2⟩:=hc k hlt;obtain⟨G,f⟩:∃n,ms[k].1=n:=⟨_,rfl⟩;obtain⟨T,v1,l⟩:=s ms[k] (List.getElem_mem hlt);rw[f] at t a;rw[l] at q2 a;have H:=zb q t;have I:=zb q q2;clear f l hc t q2;have c:=λO=>q.trans (nB wr O |>.mono q.size)
   cases hpp:p k with
   | false=>
    rw[hpp] at a;have z:=hid hpp;clear hpp
    go_wp2_with (go_at_fn g;refine (a _ (c _)).mono ?_;rintro e u ⟨rfl,d⟩)
    refine⟨⟨k+1,by omega,by go_num,λj h=>?_,(c _).trans (d.mono (c _).size)⟩,by simp[intOf];omega⟩
    by_cases hj:j=k
    ·subst hj;exact z.out
    ·exact r.out j (by omega)
   | true=>
    rw[hpp] at a;have e:=kW p ms.length k hlt r.out hpp;rw[v.out] at e;subst e;clear hpp
    go_wp2_with (go_at_fn g;refine (a _ (c _)).mono ?_;rintro e u ⟨rfl,d⟩)
    go_ret2;exact⟨rfl,(c _).trans (d.mono (c _).size)⟩
  ·have e:=kX p ms.length (λj h=>r.out j (by omega));rw[v.out] at e;subst e
   go_wp2
   go_ret2;exact⟨rfl,q⟩
theorem sK(ms:List (BA×Value))(ao:Option Addr)(cap g:Nat)(d:Array Value)(p:Nat->Bool)(w:World)(k:ms.length<=100000000000)(h:∀args w,(callFunc g args).run prog w = .ok (.enter g args) w)
  (i:Ql w ao ms)(b:∀m ∈ ms,∃T x,m.2 = .iface T x)(l:yK g d (λj=>Za (jw ms j)) ms.length p w) :
  Calls prog 197 #[.slice ao ms.length cap,.func (.func g) #[] d] w λe f=>
   e = .returned (.bool (zn p ms.length).isSome)/\Below w.heap.size w f:=by
 have c:=fG ms ao cap g d p w k h i b l;generalize zn p ms.length=F at c;go_enter func197,ntmps197
 go_wp2_with (go_at_call 95;refine c.mono ?_;rintro e f ⟨rfl,a⟩)
 go_ret;exact⟨rfl,a⟩
theorem rZ(g:Nat)(h:Array Value)(m:BA×Value)(B:Nat)(y:Bool)(w:World)(k:∀args w,(callFunc g args).run prog w = .ok (.enter g args) w)
  (i:w.cell? ⟨B,0,none⟩=some (.func (.func g) #[] h))(f:∀W,Below w.heap.size w W->Calls prog g (#[Za m]++h) W λe c=>e = .returned (.bool y)/\Below W.heap.size W c) :
  Calls prog 198 #[Za m,.pointer (some ⟨B,0,none⟩)] w λe c=>e = .returned (.bool (!y))/\Below w.heap.size w c:=by
 obtain⟨a,v⟩:=m;unfold Za at f |-;simp only at f |-;have j:=λO:Obj=>zb (nB w O) i;have b:=λO:Obj=>nB w O;go_enter func198,ntmps198
 go_wp2_with (go_at_fn g;refine (f _ (b _)).mono ?_;rintro e c ⟨rfl,d⟩)
 go_ret;exact⟨rfl,(b _).trans (d.mono (b _).size)⟩
theorem rY(ms:List (BA×Value))(ao:Option Addr)(cap g:Nat)(a:Array Value)(p:Nat->Bool)(w:World)(q:ms.length<=100000000000)(k:∀args w,(callFunc g args).run prog w = .ok (.enter g args) w)
  (o:Ql w ao ms)(d:∀m ∈ ms,∃T x,m.2 = .iface T x)(r:yK g a (λj=>Za (jw ms j)) ms.length p w) :
  Calls prog 150 #[.slice ao ms.length cap,.func (.func g) #[] a] w λe f=>
   e = .returned (.bool (jK p ms.length))/\Below w.heap.size w f:=by
 have i:∀args w,(callFunc 198 args).run prog w = .ok (.enter 198 args) w:=enters_of func198 (by kernel_rfl) rfl
 have c:=sK ms ao cap 198 #[.pointer (some ⟨w.heap.size,0,none⟩)] (λj=>!p j) (w.alloc (.cells #[.func (.func g) #[] a] 203)) q i
  (Vh o (nB w _)) d
  (λW j n hb=>by
    refine rZ g a (jw ms j) w.heap.size (p j) W k ?_ (λh l=>r h j n (((nB w _).trans (hb.mono (by simp))).trans (l.mono (by have:=hb.size;simp at this;omega))));exact zb hb (by simp))
 rw[JA];generalize zn (λj=>!p j) ms.length=F at c;go_enter func150,ntmps150
 go_wp2_with (go_at_call 197;refine c.mono ?_;rintro e f ⟨rfl,b⟩)
 go_ret;exact⟨rfl,(nB w _).trans (b.mono (by simp))⟩
theorem Er(nm:BA)(m:BA×Value)(B:Nat)(w:World)(c:w.cell? ⟨B,0,none⟩=some (.string nm)) :
  Calls prog 96 #[Za m,.pointer (some ⟨B,0,none⟩)] w λe f=>e = .returned (.bool (m.1.toList==nm.toList))/\Below w.heap.size w f:=by
 obtain⟨a,v⟩:=m;unfold Za;simp only;have d:=λO:Obj=>zb (nB w O) c;have b:=λO:Obj=>nB w O;go_enter func96,ntmps96
 go_wp2
 go_ret;exact⟨rfl,b _⟩
def qD(ms:List (BA×Value))(nm:BA):Value:=match ms.find? (λm=>m.1.toList==nm.toList) with
 | some m=>m.2
 | none => .nilIface
theorem En(ms:List (BA×Value))(nm:BA):qD ms nm=match zn (λj=>(jw ms j).1.toList==nm.toList) ms.length with
  | some k=>(jw ms k).2
  | none => .nilIface:=by
 unfold qD
 cases hF:zn (λj=>(jw ms j).1.toList==nm.toList) ms.length with
 | none=>
  have:ms.find? (λm=>m.1.toList==nm.toList)=none:=by
   rw[List.find?_eq_none];intro m f;obtain⟨j,a,rfl⟩:=List.getElem_of_mem f;unfold zn at hF;rw[List.find?_eq_none] at hF
   have:=hF j (List.mem_range.2 a)
   rwa [QH ms j a] at this
  rw[this]
 | some k=>
  unfold zn at hF;rw[List.find?_range_eq_some] at hF;obtain⟨c,d,e⟩:=hF;have b:k<ms.length:=by simpa using d
  have:ms.find? (λm=>m.1.toList==nm.toList)=some ms[k]:=by
   rw[List.find?_eq_some_iff_getElem];refine⟨by rw[QH ms k b] at c;exact c,k,b,rfl,λj a=>?_⟩
   have:=e j a
   rw[QH ms j (by omega)] at this;exact this
  rw[this];simp only;rw[QH ms k b]
theorem UZ(ms:List (BA×Value))(ao:Option Addr)(cap:Nat)(nm:BA)(w:World)(s:ms.length<=100000000000)(n:Ql w ao ms)(g:∀m ∈ ms,∃T x,m.2 = .iface T x) :
  Calls prog 51 #[.slice ao ms.length cap,.string nm] w λe l=>e = .returned (qD ms nm)/\Below w.heap.size w l:=by
 have q:∀args w,(callFunc 96 args).run prog w = .ok (.enter 96 args) w:=enters_of func96 (by kernel_rfl) rfl
 have c:=fG ms ao cap 96 #[.pointer (some ⟨w.heap.size,0,none⟩)] (λj=>(jw ms j).1.toList==nm.toList) (w.alloc (.cells #[.string nm] 9)) s q
  (Vh n (nB w _)) g
  (λW j v hb=>Er nm (jw ms j) w.heap.size W (zb hb (by simp)))
 have d:=En ms nm
 have hF:∀k,zn (λj=>(jw ms j).1.toList==nm.toList) ms.length=some k->k<ms.length:=λk h=>by
  unfold zn at h;rw[List.find?_range_eq_some] at h
  simpa using h.2.1
 have f:=λO:Obj=>nB w O
 cases hf:zn (λj=>(jw ms j).1.toList==nm.toList) ms.length with
 | none=>
  rw[hf] at c d;simp only at d;rw[d];clear d hF hf;go_enter func51,ntmps51
  go_wp2_with (go_at_call 95;refine c.mono ?_;rintro e l ⟨rfl,a⟩)
  go_ret;exact⟨rfl,(f _).trans (a.mono (by simp))⟩
 | some k=>
  rw[hf] at c d;simp only at d;have i:=hF k hf;rw[d,QH ms k i]
  rcases n with rfl|⟨b,o,rfl,hc⟩
  ·simp at i
  obtain⟨t,q2⟩:=hc k i;obtain⟨u,p⟩:=Nm (ms[k].2);rw[p] at q2 |-;have r:(k:Int)<(ms.length:Int):=by omega
  clear d hF hf hc t p;go_enter func51,ntmps51
  go_wp2_with (go_at_call 95;refine c.mono ?_;rintro e l ⟨rfl,a⟩;have y:=zb ((f (.cells #[.string nm] 9)).trans (a.mono (by simp))) q2)
  go_ret;exact⟨rfl,(f _).trans (a.mono (by simp))⟩
def uu(c:Int)(q:Nat):Value:=
 if c=3 then .iface 141 (.agg #[.int .i64 (q:Int)])
 else if c=4 then .iface 142 (.agg #[.int .i64 (q:Int)])
 else .iface 140 (.agg #[.int .i64 (q:Int)])
theorem Dr(q:Nat):uu 4 q = .iface 142 (.agg #[.int .i64 (q:Int)]):=rfl
theorem Xj(c:Int)(q:Nat):∃T,uu c q = .iface T (.agg #[.int .i64 (q:Int)]):=by
 unfold uu;split
 ·exact⟨_,rfl⟩
 split
 ·exact⟨_,rfl⟩
 ·exact⟨_,rfl⟩
def yZ{α:Type}(Inv:α->Nat->World->Prop)(Bad:World->Prop)(r:Rd.Res α)(e:Ending)(b:World):Prop:=match r with
 | .ok a q=>e = .returned .nilIface/\Inv a q b
 | .err c q=>e = .returned (uu c q)/\Bad b
theorem yZ.of{α:Type}{Inv:α->Nat->World->Prop}{Bad:World->Prop}{r a:Rd.Res α}{e:Ending}{b:World}(h:yZ Inv Bad r e b)(c:a=r):yZ Inv Bad a e b:=c ▸ h
structure Reads {α:Type} (s:BA) (R g:Nat) (lb:Array Value) (st:Nat->α->Nat->Rd.Res α) (F d:Nat) (Inv:α->Nat->World->Prop) (Bad:World->Prop):Prop where
 rd:∀a q w,Inv a q w->zh w R s q
 mv:∀a q q' w w',Inv a q w->q<=q'->w.grownBy w' (some R)->zh w' R s q'->Inv a q' w'
 bad:∀a q w,Inv a q w->Bad w
 adv:∀f a q a' q',q<=s.size->Rd.blank (Rd.ze s.data.toList q)=false->2*(s.size-q)<f->st f a q = .ok a' q'->q<q'/\q'<=s.size
 one:∀f a q w,f<F->d<=8->Inv a q w->q<=s.size->Rd.blank (Rd.ze s.data.toList q)=false->2*(s.size-q)<f->Calls prog g lb w λe w'=>yZ Inv Bad (st f a q) e w'
theorem FM{α:Type}{l:List UInt8}{b:Nat->α->Nat->Rd.Res α}{e f q q2:Nat}{a:α}{c:Int}(h:b f a q = .err c q2):Rd.yP l b e (f+1) a q = .err c q2:=by rw[Rd.yP,h]
theorem FO{α:Type}{l:List UInt8}{b:Nat->α->Nat->Rd.Res α}{e f q q2:Nat}{a c:α}(h:b f a q = .ok c q2)(hb:Rd.ze l (Rd.skip l q2)=44):Rd.yP l b e (f+1) a q=Rd.yP l b e f c (Rd.skip l (Rd.skip l q2+1)):=by
 rw[Rd.yP,h];exact if_pos hb
theorem FL{α:Type}{l:List UInt8}{c:Nat->α->Nat->Rd.Res α}{e f q q2:Nat}{a b:α}(h:c f a q = .ok b q2)(hb:Rd.ze l (Rd.skip l q2)=e)(d:e≠44):Rd.yP l c e (f+1) a q = .ok b (Rd.skip l q2+1):=by
 rw[Rd.yP,h];exact (if_neg (by omega)).trans (if_pos hb)
theorem FK{α:Type}{l:List UInt8}{b:Nat->α->Nat->Rd.Res α}{e f q q2:Nat}{a c:α}(h:b f a q = .ok c q2)(hb:Rd.ze l (Rd.skip l q2)≠44)(d:Rd.ze l (Rd.skip l q2)≠e):Rd.yP l b e (f+1) a q = .err 2 (Rd.skip l q2):=by
 rw[Rd.yP,h];exact (if_neg hb).trans (if_neg d)
theorem gJ{α:Type}(s:BA)(R p d e g F:Nat)(lb:Array Value)(st:Nat->α->Nat->Rd.Res α)(Inv:α->Nat->World->Prop)(Bad:World->Prop)(a:α)(w:World)
  (eg:∀args w,(callFunc g args).run prog w = .ok (.enter g args) w)(hR:Reads s R g lb st F d Inv Bad)
  (hi:Inv a p w)(hp:p<s.size)(hs:s.size<=4000)(hd:d<=100)(f9:e≠0)(d5:e≠44)(hF:2*(s.size-(p+1))+1<F) :
  Calls prog 190 #[.pointer (some ⟨R,0,none⟩),.int .i64 (d:Int),.int .u8 (e:Int),.func (.func g) #[] lb] w λi n=>yZ Inv Bad (Rd.jM s.data.toList st e F d a p) i n:=by
 have hr:=hR.rd a p w hi;have HI:=hid hi;have j:=hid hR;clear hi hR;have C:Rd.jM s.data.toList st e F d a p=Rd.jM s.data.toList st e F d a p:=rfl
 conv at C=>rhs;unfold Rd.jM
 have b8:zh (w.setCell ⟨R,1,none⟩ (.int .i64 ((p:Int)+1))) R s (p+1):=by
  have:=hr.move (p+1)
  rwa [show ((p+1:Nat):Int)=(p:Int)+1 by omega] at this
 have b4:=hid b8;obtain⟨h1,h2,h3⟩:=hr;clear b8
 by_cases c8:8<d
 ·rw[if_pos c8] at C;have P:=hid C;have d8:decide (8<(d:Int))=true:=decide_eq_true (by omega);clear C;go_enter func190,ntmps190
  go_wp2
  go_ret;refine yZ.of ?_ P.out;exact⟨rfl,j.out.bad _ _ _ HI.out⟩
 rw[if_neg c8] at C;have d8:decide (8<(d:Int))=false:=decide_eq_false (by omega);have a0:=Rd.jT s.data.toList (p+1) (by rw[Ref.zy];omega);rw[Ref.zy] at a0;have e0:=Rd.yf s.data.toList (p+1);have Y:=Rd.uC s.data.toList (p+1);obtain⟨q,hq⟩:=Nm (Rd.skip s.data.toList (p+1));have A:=Xv s R (p+1) _ b4.out (by omega) hs;rw[hq] at C a0 e0 Y A;obtain⟨b,hb⟩:=Nm (Rd.ze s.data.toList q);have e4:b<256:=by rw[<- hb];exact Rd.Ze _ _
 rw[hb] at C
 have B:=A.mono (R':=λi n=>i = .returned (.tuple #[])/\w.grownBy n (some R)/\zh n R s q) (by
  rintro i n ⟨rfl,N,O⟩;exact⟨rfl,zD (xX _ _ _ _) N,O⟩)
 have y:∀u,zh u R s q->w.grownBy u (some R)->Calls prog 143 #[.pointer (some ⟨R,0,none⟩)] u λi n=>i = .returned (.int .u8 (b:Int))/\w.grownBy n (some R)/\zh n R s q:=λu h6 h7=>by
  refine (Yh s R q u h6 a0).mono ?_;rintro i n ⟨rfl,N,O,_,_⟩;exact⟨by rw[hb],zD h7 O,N⟩
 clear A
 by_cases ce:b=e
 ·rw[if_pos ce] at C;have P:=hid C
  have c1:q<s.size:=by
   have:=Rd.zU s.data.toList q (by rw[hb];omega)
   rwa [Ref.zy] at this
  have de:((b:Int)==(e:Int))=true:=by rw[beq_iff_eq];omega
  clear C hb hq Y;go_enter func190,ntmps190
  go_wp2_with (first
   | (go_at_call 92;refine B.mono ?_;rintro i u ⟨rfl,V,Z⟩)
   | (go_at_call 143;refine (y u Z V).mono ?_;rintro i w2 ⟨rfl,W,J⟩;have Q:=hid J;obtain⟨g1,g2,g3⟩:=J))
  go_ret;refine yZ.of ?_ P.out;refine⟨rfl,j.out.mv a p _ w _ HI.out (by omega) (zD W (xX _ _ _ _)) ?_⟩
  have:=Q.out.move (q+1)
  rwa [show ((q+1:Nat):Int)=(q:Int)+1 by omega] at this
 rw[if_neg ce] at C;have de:((b:Int)==(e:Int))=false:=by rw[beq_eq_false_iff_ne];omega
 have P:=hid C;have b5:=hid Y;clear C hb hq Y;go_enter func190,ntmps190
 go_wp2_with (first
  | (go_at_call 92;refine B.mono ?_;rintro i u ⟨rfl,V,Z⟩)
  | (go_at_call 143;refine (y u Z V).mono ?_;rintro i w2 ⟨rfl,W,J⟩))
 have Q:=hid J;have b2:=hid W;clear Z V J W y B h1 h2 h3
 go_loopw [38] (λ_ wr=>∃(f:Nat) (a':α) (q':Nat),f<=F/\Inv a' q' wr/\q'<=s.size/\Rd.blank (Rd.ze s.data.toList q')=false/\2*(s.size-q')+1<f/\Rd.yP s.data.toList st e F a q=Rd.yP s.data.toList st e f a' q') (λ_ wr=>s.size-YH wr R)
 case atStart=>exact⟨F,a,q,Nat.le_refl _,j.out.mv a p q w w2 HI.out (by omega) b2.out Q.out,a0,b5.out,by omega,rfl⟩
 case round=>
  obtain⟨f,a',q',g4,X,b9,I,g0,c3⟩:=hrel;obtain⟨f,rfl⟩:∃k,f=k+1:=⟨f-1,by omega⟩;have x:=j.out.one f a' q' wr (by omega) (by omega) X b9 I (by omega);have d3:=hid (j.out.rd _ _ _ X).at;have S:=hid c3;have f0:=hid X;have G:=hid (λE q2=>j.out.adv f a' q' E q2 b9 I (by omega));clear c3 X Q b2 b5 b4 I
  cases hx:st f a' q' with
  | err c q2=>
   rw[hx] at x;have b1:=hid (P.out.trans (S.out.trans (FM hx)));obtain⟨T,hT⟩:=Xj c q2
   have o:=x.mono (R':=λi n=>i = .returned (.iface T (.agg #[.int .i64 (q2:Int)]))/\Bad n) (by
    rintro i n ⟨rfl,h⟩;exact⟨by rw[hT],h⟩)
   have HT:=hid hT;clear x hx G hT
   go_wp2_with (go_at_fn g;refine o.mono ?_;rintro i M ⟨rfl,b7⟩)
   go_ret;refine yZ.of ?_ b1.out;exact⟨by rw[HT.out];rfl,b7⟩
  | ok E q2=>
   rw[hx] at x;obtain⟨d2,a6⟩:=G.out E q2 hx;have K:=Rd.jT s.data.toList q2 (by rw[Ref.zy];omega);rw[Ref.zy] at K;have a4:=Rd.yf s.data.toList q2;have m:=λh=>hid (P.out.trans (S.out.trans (FO (e:=e) (l:=s.data.toList) hx h)));have v:=λh=>hid (P.out.trans (S.out.trans (FL (e:=e) (l:=s.data.toList) hx h d5)));have D:=λh h'=>hid (P.out.trans (S.out.trans (FK (e:=e) (l:=s.data.toList) hx h h')));have A:=λu (h:Inv E q2 u)=>Xv s R q2 u (j.out.rd _ _ _ h) a6 hs;obtain⟨t,c0⟩:∃q,Rd.skip s.data.toList q2=q:=⟨_,rfl⟩;simp only[c0] at K a4 m v D A;obtain⟨U,H⟩:∃b,Rd.ze s.data.toList t=b:=⟨_,rfl⟩;have d4:U<256:=by rw[<- H];exact Rd.Ze _ _
   have r:U≠0->t<s.size:=λh=>by
    have:=Rd.zU s.data.toList t (by rw[H];exact h)
    rwa [Ref.zy] at this
   simp only[H] at m v D
   have o:=x.mono (R':=λi n=>i = .returned .nilIface/\Inv E q2 n) (by
    rintro i n ⟨rfl,h⟩;exact⟨rfl,h⟩)
   have B:∀u,Inv E q2 u->Calls prog 92 #[.pointer (some ⟨R,0,none⟩)] u λi n=>i = .returned (.tuple #[])/\Inv E t n:=λu h=>by
    refine (A u h).mono ?_;rintro i n ⟨rfl,N,O⟩;exact⟨rfl,j.out.mv _ _ _ _ _ h a4 N O⟩
   have y:∀u,Inv E t u->Calls prog 143 #[.pointer (some ⟨R,0,none⟩)] u λi n=>i = .returned (.int .u8 (U:Int))/\Inv E t n/\zh n R s t:=λu h=>by
    refine (Yh s R t u (j.out.rd _ _ _ h) K).mono ?_;rintro i n ⟨rfl,N,O,_,_⟩;exact⟨by rw[H],j.out.mv _ _ _ _ _ h (Nat.le_refl _) O N,N⟩
   clear x hx G A H c0
   by_cases c44:U=44
   ·have d44:(U:Int)=44:=by omega
    have HM:=m c44;have c1:=r (by omega);have L:=Rd.jT s.data.toList (t+1) (by rw[Ref.zy];omega);rw[Ref.zy] at L;have c2:=Rd.yf s.data.toList (t+1);have a3:=hid (Rd.uC s.data.toList (t+1));clear m v D r c44;obtain⟨q4,a7⟩:∃q,Rd.skip s.data.toList (t+1)=q:=⟨_,rfl⟩;rw[a7] at L c2 HM a3
    have d9:∀M,Inv E t M->zh M R s t->Calls prog 92 #[.pointer (some ⟨R,0,none⟩)] (M.setCell ⟨R,1,none⟩ (.int .i64 ((t:Int)+1))) λi n=>i = .returned (.tuple #[])/\Inv E q4 n:=λM h h'=>by
     have hm:=h'.move (t+1);rw[show ((t+1:Nat):Int)=(t:Int)+1 by omega] at hm;refine (Xv s R (t+1) _ hm (by omega) hs).mono ?_;rintro i n ⟨rfl,N,O⟩;rw[a7] at O;exact⟨rfl,j.out.mv _ _ _ _ _ h (by omega) (zD (xX _ _ _ _) N) O⟩
    clear a7
    go_wp2_with (first
     | (go_at_fn g;refine o.mono ?_;rintro i M ⟨rfl,hi3⟩)
     | (go_at_call 92;refine (d9 w5 hi5 a5.out).mono ?_;rintro i w6 ⟨rfl,hi6⟩)
     | (go_at_call 92;refine (B M hi3).mono ?_;rintro i w4 ⟨rfl,hi4⟩)
     | (go_at_call 143;refine (y w4 hi4).mono ?_;rintro i w5 ⟨rfl,hi5,z⟩;have a5:=hid z;obtain⟨g1,g2,g3⟩:=z))
    have b6:=(j.out.rd _ _ _ hi6).at
    go_roundw
    case rel=>exact⟨f,E,q4,by omega,hi6,L,a3.out,by omega,P.out.symm.trans HM.out⟩
    case measure=>rw[d3.out,b6];omega
   have d44:((U:Int)==44)=false:=by rw[beq_eq_false_iff_ne];omega
   by_cases ce3:U=e
   ·have c7:((U:Int)==(e:Int))=true:=by rw[beq_iff_eq];omega
    have HM:=v ce3;have c1:=r (by omega);clear m v D r c44 ce3
    go_wp2_with (first
     | (go_at_fn g;refine o.mono ?_;rintro i M ⟨rfl,hi3⟩)
     | (go_at_call 92;refine (B M hi3).mono ?_;rintro i w4 ⟨rfl,hi4⟩)
     | (go_at_call 143;refine (y w4 hi4).mono ?_;rintro i w5 ⟨rfl,hi5,z⟩;have a5:=hid z;obtain⟨g1,g2,g3⟩:=z))
    go_ret;refine yZ.of ?_ HM.out;refine⟨rfl,j.out.mv _ _ _ _ _ hi5 (by omega) (xX _ _ _ _) ?_⟩
    have:=a5.out.move (t+1)
    rwa [show ((t+1:Nat):Int)=(t:Int)+1 by omega] at this
   ·have c7:((U:Int)==(e:Int))=false:=by rw[beq_eq_false_iff_ne];omega
    have HM:=D c44 ce3;clear m v D r c44 ce3
    go_wp2_with (first
     | (go_at_fn g;refine o.mono ?_;rintro i M ⟨rfl,hi3⟩)
     | (go_at_call 92;refine (B M hi3).mono ?_;rintro i w4 ⟨rfl,hi4⟩)
     | (go_at_call 143;refine (y w4 hi4).mono ?_;rintro i w5 ⟨rfl,hi5,z⟩)
     | (go_at_call 94;refine (Qq s R t w5 z).mono ?_;rintro i w6 ⟨rfl,rfl⟩))
    go_ret;refine yZ.of ?_ HM.out;exact⟨rfl,j.out.bad _ _ _ hi5⟩
inductive ValAt (w:World) (S:Nat->Prop):Rd.V->Value->Prop
 | str (t:BA):ValAt w S (.str t) (.iface 270 (.string t))
 | word (b:Bool):ValAt w S (.word b) (.iface 271 (.bool b))
 | list (vs:List Rd.V) (us:List Value) (ao:Option Addr) (cap:Nat):us.length=vs.length ->
   (us=[]\/∃b,ao=some ⟨b,0,none⟩/\S b/\∀(j:Nat) (u:Value),us[j]?=some u->w.cell? ⟨b,j,none⟩=some u) ->
   (∀(j:Nat) (v:Rd.V) (u:Value),vs[j]?=some v->us[j]?=some u->ValAt w S v u)->ValAt w S (.list vs) (.iface 121 (.slice ao us.length cap))
 | obj (ms:List (BA×Rd.V)) (us:List (BA×Value)) (ao:Option Addr) (cap:Nat):us.map Prod.fst=ms.map Prod.fst ->
   (us=[]\/∃b,ao=some ⟨b,0,none⟩/\S b/\∀(j:Nat) (x:BA×Value),us[j]?=some x->w.cell? ⟨b,j*2,none⟩=some (.string x.1)/\w.cell? ⟨b,j*2+1,none⟩=some x.2) ->
   (∀(j:Nat) (x:BA×Rd.V) (u:BA×Value),ms[j]?=some x->us[j]?=some u->ValAt w S x.2 u.2)->ValAt w S (.obj ms) (.iface 118 (.slice ao us.length cap))
theorem ValAt.move{w l:World}{S S':Nat->Prop}{v:Rd.V}{u:Value}(h:ValAt w S v u)(i:∀b,S b->S' b)(e:∀b,S b->l.heap[b]?=w.heap[b]?):ValAt l S' v u:=by
 induction h with
 | str t=>exact .str t
 | word b=>exact .word b
 | list n g ao cap d c _ f=>
  refine .list n g ao cap d ?_ f
  rcases c with c|⟨b,ha,hb,hc⟩
  ·exact .inl c
  ·exact .inr ⟨b,ha,i b hb,λj u m=>by rw[World.cell?_of_block (a:=⟨b,j,none⟩) (e b hb)];exact hc j u m⟩
 | obj ms g ao cap d c _ f=>
  refine .obj ms g ao cap d ?_ f
  rcases c with c|⟨b,ha,hb,hc⟩
  ·exact .inl c
  ·exact .inr ⟨b,ha,i b hb,λj x k=>⟨by rw[World.cell?_of_block (a:=⟨b,j*2,none⟩) (e b hb)];exact (hc j x k).1,by rw[World.cell?_of_block (a:=⟨b,j*2+1,none⟩) (e b hb)];exact (hc j x k).2⟩⟩
theorem ValAt.iface{w:World}{S:Nat->Prop}{v:Rd.V}{u:Value}(h:ValAt w S v u):∃T x,u = .iface T x:=by
 cases h with
 | str t=>exact⟨_,_,rfl⟩
 | word b=>exact⟨_,_,rfl⟩
 | list=>exact⟨_,_,rfl⟩
 | obj=>exact⟨_,_,rfl⟩
def Blk(w a:World)(b:Nat):Prop:=w.heap.size<=b/\b<a.heap.size
def starts(s:BA)(p:Nat):Bool:=Rd.ze s.data.toList p==123||Rd.ze s.data.toList p==91||Rd.ze s.data.toList p==34||Rd.ze s.data.toList p==116||Rd.ze s.data.toList p==102
def jI(w:World)(R:Nat)(s:BA)(sb:Bool)(r:Rd.Res Rd.V)(e:Ending)(a:World):Prop:=match r with
 | .ok v q=>∃u,e = .returned (.tuple #[u,.nilIface])/\ValAt a (Blk w a) v u/\w.grownBy a (some R)/\zh a R s q
 | .err c q=>∃u,e = .returned (.tuple #[u,uu c q])/\((sb=true->∃T x,u = .iface T x)/\(sb=false->u = .nilIface))/\w.grownBy a (some R)
theorem jI.of{w b:World}{R:Nat}{s:BA}{sb:Bool}{r a:Rd.Res Rd.V}{e:Ending}(h:jI w R s sb r e b)(c:a=r):jI w R s sb a e b:=c ▸ h
def kD(s:BA)(R F:Nat):Prop:=∀f,f<F->∀(d p:Nat) (w:World),zh w R s p->zZ w->p<=s.size->1<=d->d<=9->Rd.blank (Rd.ze s.data.toList p)=false->2*(s.size-p)<f ->
 Calls prog 93 #[.pointer (some ⟨R,0,none⟩),.int .i64 (d:Int)] w λe a=>jI w R s (starts s p) (Rd.zP s.data.toList f d p) e a
structure Zp (w0:World) (R:Nat) (s:BA) (d:Nat) (acc:List Rd.V) (q:Nat) (wr:World):Prop where
 rd:zh wr R s q
 seq:zZ wr
 grown:w0.grownBy wr (some R)
 size:w0.heap.size+3<=wr.heap.size
 len:acc.length<=q
 cx:wr.cell? ⟨w0.heap.size,0,none⟩=some (.pointer (some ⟨R,0,none⟩))
 cd:wr.cell? ⟨w0.heap.size+1,0,none⟩=some (.int .i64 (d:Int))
 row:∃lv us,wr.cell? ⟨w0.heap.size+2,0,none⟩=some lv/\wr.frozen? ⟨w0.heap.size+2,0,none⟩=false/\wr.ownsRow (w0.heap.size+3) 114 1 lv acc.length us /\
  ∀(j:Nat) (v:Rd.V) (u:Value),acc[j]?=some v->us[j]?=some u->ValAt wr (λb=>w0.heap.size+3<=b/\b<wr.heap.size/\lv.ownBlock≠some b) v u
def XD(a:World)(R:Nat)(wr:World):Prop:=a.grownBy wr (some R)/\∃b,wr.cell? ⟨a.heap.size+2,0,none⟩=some b
theorem Zp.mv{e:World}{R:Nat}{s:BA}{d:Nat}{acc:List Rd.V}{q g:Nat}{w i:World}(t:R<e.heap.size)(f:R≠5)(h:Zp e R s d acc q w)(x:q<=g)(c:w.grownBy i (some R))(l:zh i R s g):Zp e R s d acc g i:=by
 obtain⟨p,r,c1,c2,c3,c4⟩:=h.row;have m:=h.size;have k:=c.size;refine⟨l,h.seq.grown c f,zD h.grown c,by omega,by have:=h.len;omega,c.cell h.cx (by simp;omega),c.cell h.cd (by simp;omega),p,r,c.cell c1 (by simp;omega),?_,jB c3 c (by omega),λj v u o n=>(c4 j v u o n).move (λb hb=>⟨hb.1,by omega,hb.2.2⟩) (λb hb=>c.block b hb.2.1 (by simp;omega))⟩;rw[World.frozen?_of_block (w:=w) (a:=⟨e.heap.size+2,0,none⟩) (c.block _ (by show e.heap.size+2<_;omega) (by simp;omega))];exact c2
theorem Sr:(prog.info? 114).map (λi=>(i.zero,i.size,i.bytes))=some (some .nilIface,1,16):=by kernel_rfl
theorem nL{α:Type}{xs:List α}{x:α}{j:Nat}{u:α}(h:(xs++[x])[j]?=some u):(j<xs.length/\xs[j]?=some u)\/(j=xs.length/\u=x):=by
 rw[List.getElem?_append] at h
 split at h
 ·rename_i a;exact .inl ⟨a,h⟩
 ·have a:=(List.getElem?_eq_some_iff.1 h).1;simp at a;have e:j=xs.length:=by omega
  subst e;simp at h;exact .inr ⟨rfl,h.symm⟩
namespace Ref
structure Req where
 who:BA
 act:BA
 on:BA
 marks:List (BA×BA)
def qy(r:Req)(ao:Option Addr)(cap:Nat):Value := .agg #[.string r.who,.string r.act,.string r.on,.slice ao r.marks.length cap]
def X5(ms:List (BA×BA))(name:BA):Option BA:=(ms.find? λm=>m.1.toList==name.toList).map Prod.snd
def says(r:Req)(name:BA):Option BA:=
 if name.toList==[119,104,111] then some r.who else if name.toList==[100,111] then some r.act else if name.toList==[111,110] then some r.on else X5 r.marks name
theorem Ip(ms:List (BA×BA))(name:BA)(k:Nat)(b:k<ms.length)(hb:∀j (h:j<k),(ms[j].1.toList==name.toList)=false)(h:(ms[k].1.toList==name.toList)=true) :
  X5 ms name=some ms[k].2:=by
 unfold X5;have e:(ms.find? λm=>m.1.toList==name.toList)=some ms[k]:=List.find?_eq_some_iff_getElem.2 ⟨h,k,b,rfl,λj a=>by simpa using hb j a⟩;rw[e];rfl
theorem Iq(ms:List (BA×BA))(name:BA)(k:Nat)(c:¬k<ms.length)(hb:∀j (_:j<k) (_:j<ms.length),(ms[j].1.toList==name.toList)=false) :
  X5 ms name=none:=by
 unfold X5;rw[Option.map_eq_none_iff,List.find?_eq_none];intro x b;obtain⟨j,a,rfl⟩:=List.getElem_of_mem b
 simpa using hb j (by omega) a
end Ref
def qL(w:World)(ao:Option Addr)(ms:List (BA×BA)):Prop:=
 ms=[]\/∃b o,ao=some ⟨b,o,none⟩/\∀j,(h:j<ms.length)->w.cell? ⟨b,o+j*2,none⟩=some (.string ms[j].1)/\w.cell? ⟨b,o+j*2+1,none⟩=some (.string ms[j].2)
namespace Ref
def kg(m:BA×BA):Bool:=zI m.1&&yX m.2 && !(m.1.toList==[119,104,111]) && !(m.1.toList==[100,111]) && !(m.1.toList==[111,110])
def xP(r:Req):Bool:=yX r.who&&yX r.act&&yX r.on&&decide (r.marks.length<=10)&&r.marks.all kg
end Ref
theorem vw{w c:World}{ao:Option Addr}{ms:List (BA×BA)}(h:qL w ao ms)(hb:Below w.heap.size w c):qL c ao ms:=by
 rcases h with h|⟨b,o,ha,hc⟩
 ·exact .inl h
 ·exact .inr ⟨b,o,ha,λj a=>⟨zb hb (hc j a).1,zb hb (hc j a).2⟩⟩
namespace Ref
def Qh(r:Req)(p:Int×BA):Option (List (Int×BA)):=
 if p.1=4 then (says r p.2).map λv=>((chars v).getD []).map λc=>((1:Int),c) else some [p]
def laid(r:Req):List (Int×BA)->Option (List (Int×BA))
 | []=>some []
 | p::ps=>match Qh r p with
  | none=>none
  | some a=>(laid r ps).map λb=>a++b
theorem Ab(f:Nat)(s:BA)(l:List BA)(h:uo f s=some l):l.length<=s.size:=by
 induction f generalizing s l with
 | zero=>simp[uo] at h
 | succ f b=>
  rw[uo] at h
  split at h
  ·simp at h;subst h;simp
  split at h
  ·simp at h
  ·rename_i d _;obtain⟨r,a,rfl⟩:=Option.map_eq_some_iff.1 h
   have:=b _ _ a
   have c:=YJ s (by omega);rw[ByteArray.size_extract] at this
   simp;omega
theorem Uq(s:BA):((chars s).getD []).length<=s.size:=by
 cases h:chars s with
 | none=>simp
 | some l=>exact Ab _ _ _ h
theorem gQ(r:Req)(c:List (Int×BA))(k:Nat)(e:k<c.length)(done:List (Int×BA))(P:Option (List (Int×BA)))
  (h:P=(laid r (c.drop k)).map λb=>done++b)(a:List (Int×BA))(d:Qh r c[k]=some a):P=(laid r (c.drop (k+1))).map λb=>(done++a)++b:=by
 rw[h,List.drop_eq_getElem_cons e,laid,d];simp[Option.map_map,Function.comp_def]
theorem GZ(r:Req)(a:List (Int×BA))(k:Nat)(d:k<a.length)(done:List (Int×BA))(P:Option (List (Int×BA)))
  (h:P=(laid r (a.drop k)).map λb=>done++b)(c:Qh r a[k]=none):P=none:=by
 rw[h,List.drop_eq_getElem_cons d,laid,c];rfl
theorem GV(r:Req)(a:List (Int×BA))(k:Nat)(c:¬k<a.length)(done:List (Int×BA))(P:Option (List (Int×BA)))
  (h:P=(laid r (a.drop k)).map λb=>done++b):P=some done:=by
 rw[h,List.drop_of_length_le (by omega),laid];simp
theorem mg(a:List (Int×BA))(j:Nat)(h:j<a.length):(xZ a)[j*2]?=some (.int .i64 a[j].1)/\(xZ a)[j*2+1]?=some (.string a[j].2):=by
 induction a generalizing j with
 | nil=>simp at h
 | cons p a b=>
  have e:xZ (p::a) = .int .i64 p.1 :: .string p.2::xZ a:=by simp[xZ]
  rw[e]
  cases j with
  | zero=>simp
  | succ j=>
   have:=b j (by simpa using h)
   rw[show (j+1)*2=(j*2)+1+1 by omega,show (j*2)+1+1+1=(j*2+1)+1+1 by omega]
   simpa using this
theorem Rf(l:List BA)(j:Nat)(h:j<l.length):(strCells l)[j]?=some (.string l[j]):=by
 simp[strCells,h]
def jZ(cs:List BA):List (Int×BA)->Nat->Bool
 | [],k=>k==0
 | p::ps,k=>if p.1=3 then (List.range (k+1)).any (jZ cs ps) else if k=0 then false else if p.1=2 then jZ cs ps (k-1) else jZ cs ps (k-1)&&(p.2.toList==(cs.getD (k-1) ⟨#[]⟩).toList)
def covers(a:List (Int×BA))(cs:List BA):Bool:=jZ cs a.reverse cs.length
theorem Ba(cs:List BA)(p:Int×BA)(a:List (Int×BA))(h:p.1≠3):jZ cs (p::a) 0=false:=by
 simp[jZ,h]
theorem AX(cs:List BA)(p:Int×BA)(a:List (Int×BA))(h:p.1=2)(k:Nat)(b:0<k):jZ cs (p::a) k=jZ cs a (k-1):=by
 simp only[jZ];rw[if_neg (by omega),if_neg (by omega),if_pos h]
theorem AZ(cs:List BA)(p:Int×BA)(a:List (Int×BA))(c:p.1≠3)(b:p.1≠2)(k:Nat)(e:0<k)(d:k-1<cs.length) :
  jZ cs (p::a) k=(jZ cs a (k-1)&&(p.2.toList==cs[k-1].toList)):=by
 simp only[jZ];rw[if_neg c,if_neg (by omega),if_neg b,List.getD_eq_getElem?_getD,List.getElem?_eq_getElem d];rfl
def jr(pattern word:BA)(r:Req):Bool:=
 match laid r ((parts pattern).getD []) with
 | none=>false
 | some q=>covers q ((chars word).getD [])
theorem MK(f:Nat)(s:BA)(l:List (Int×BA))(h:je f s=some l):l.length<=s.size:=by
 induction f generalizing s l with
 | zero=>simp[je] at h
 | succ f c=>
  rw[je] at h
  split at h
  ·simp at h;subst h;simp
  split at h
  ·simp at h
  ·rename_i e k t n b;obtain⟨r,a,rfl⟩:=Option.map_eq_some_iff.1 h
   have:=c _ _ a
   have d:=KM s (by omega) k t n b;rw[ByteArray.size_extract] at this
   simp;omega
theorem MN(s:BA):((parts s).getD []).length<=60:=by
 cases h:parts s with
 | none=>simp
 | some l=>
  unfold parts at h
  split at h
  ·simp at h
  ·have:=MK _ _ _ h
   simp;omega
theorem MQ(s:BA)(h:(parts s).isSome=true):s.size<=60:=by
 unfold parts at h
 split at h
 ·simp at h
 ·omega
end Ref
end Go.Proofs.YtdakgnaojakldaaGreatDoor
