/- P -/
import Derived.Test.YtdakgnaojakldaaGreatDoorS03
import Derived.Test.YtdakgnaojakldaaGreatDoorS09
open Go.Proofs.Tryz
set_option maxRecDepth 100000
set_option maxHeartbeats 2000000
namespace Go.Proofs.YtdakgnaojakldaaGreatDoor
open Go.RowKit
def Zp(w:World)(ao:Option Addr)(ms:List (BY×Value)):Prop:=
 ms=[]\/∃b o,ao=some ⟨b,o,none⟩/\∀j,(h:j<ms.length)->w.cell? ⟨b,o+j*2,none⟩=some (.string ms[j].1)/\w.cell? ⟨b,o+j*2+1,none⟩=some ms[j].2
theorem YY{w c:World}{ao:Option Addr}{ms:List (BY×Value)}(h:Zp w ao ms)(hb:Below w.heap.size w c):Zp c ao ms:=by
 rcases h with h|⟨b,o,ha,hc⟩
 ·exact .inl h
 ·exact .inr ⟨b,o,ha,λj a=>⟨zg hb (hc j a).1,zg hb (hc j a).2⟩⟩
def uw(m:BY×Value):Value := .agg #[.string m.1,m.2]
def yM(ms:List (BY×Value))(j:Nat):BY×Value:=ms.getD j (⟨#[]⟩,.nilIface)
theorem ZP(ms:List (BY×Value))(j:Nat)(h:j<ms.length):yM ms j=ms[j]:=by
 unfold yM;rw[List.getD_eq_getElem?_getD,List.getElem?_eq_getElem h];rfl
theorem ak(ms:List (BY×Value))(ao:Option Addr)(cap g:Nat)(y:Array Value)(p:Nat->Bool)(w:World)(E:ms.length<=100000000000)(C:∀args w,(callFunc g args).run prog w = .ok (.enter g args) w)
  (A:Zp w ao ms)(s:∀m ∈ ms,∃T x,m.2 = .iface T x)(B:yf g y (λj=>uw (yM ms j)) ms.length p w) :
  Calls prog 95 #[.slice ao ms.length cap,.func (.func g) #[] y] w λe u=>
   e = .returned (.tuple #[.int .i64 (((zl p ms.length).getD 0:Nat):Int),.bool (zl p ms.length).isSome])/\Below w.heap.size w u:=by
 generalize hF:zl p ms.length=F;have v:=hid hF;clear hF;go_enter func95,ntmps95
 go_wp2
 go_loopw [10] (λi wr=>∃k:Nat,k<=ms.length/\i = .int .i64 k/\(∀j,j<k->p j=false)/\Below w.heap.size w wr) (λi _=>ms.length-(intOf i).toNat)
 case atStart=>exact⟨0,Nat.zero_le _,rfl,λj h=>by omega,Below.refl _ _⟩
 case round=>
  obtain⟨k,D,rfl,hb,q⟩:=hrel;have r:=hid hb;clear hb
  by_cases hlt:k<ms.length
  ·rcases A with rfl|⟨b,o,rfl,hc⟩
   ·simp at hlt
   have a:=λW hb=>B W k hlt hb;simp only[ZP ms k hlt,uw] at a;obtain⟨t,q2⟩:=hc k hlt;obtain⟨G,f⟩:∃n,ms[k].1=n:=⟨_,rfl⟩;obtain⟨T,J,l⟩:=s ms[k] (List.getElem_mem hlt);rw[f] at t a;rw[l] at q2 a;have H:=zg q t;have I:=zg q q2;clear f l hc t q2;have c:=λO=>q.trans (nb wr O |>.mono q.size)
   cases hpp:p k with
   | false=>
    rw[hpp] at a;have z:=hid hpp;clear hpp
    go_wp2_with (go_at_fn g;refine (a _ (c _)).mono ?_;rintro e u ⟨rfl,d⟩)
    refine⟨⟨k+1,by omega,by go_num,λj h=>?_,(c _).trans (d.mono (c _).size)⟩,by simp[intOf];omega⟩
    by_cases hj:j=k
    ·subst hj;exact z.out
    ·exact r.out j (by omega)
   | true=>
    rw[hpp] at a;have e:=um p ms.length k hlt r.out hpp;rw[v.out] at e;subst e;clear hpp
    go_wp2_with (go_at_fn g;refine (a _ (c _)).mono ?_;rintro e u ⟨rfl,d⟩)
    go_ret2;exact⟨rfl,(c _).trans (d.mono (c _).size)⟩
  ·have e:=uo p ms.length (λj h=>r.out j (by omega));rw[v.out] at e;subst e
   go_wp2
   go_ret2;exact⟨rfl,q⟩
theorem lN(ms:List (BY×Value))(ao:Option Addr)(cap g:Nat)(d:Array Value)(p:Nat->Bool)(w:World)(k:ms.length<=100000000000)(h:∀args w,(callFunc g args).run prog w = .ok (.enter g args) w)
  (i:Zp w ao ms)(b:∀m ∈ ms,∃T x,m.2 = .iface T x)(l:yf g d (λj=>uw (yM ms j)) ms.length p w) :
  Calls prog 197 #[.slice ao ms.length cap,.func (.func g) #[] d] w λe f=>
   e = .returned (.bool (zl p ms.length).isSome)/\Below w.heap.size w f:=by
 have c:=ak ms ao cap g d p w k h i b l;generalize zl p ms.length=F at c;go_enter func197,ntmps197
 go_wp2_with (go_at_call 95;refine c.mono ?_;rintro e f ⟨rfl,a⟩)
 go_ret;exact⟨rfl,a⟩
theorem lC(g:Nat)(h:Array Value)(m:BY×Value)(B:Nat)(y:Bool)(w:World)(k:∀args w,(callFunc g args).run prog w = .ok (.enter g args) w)
  (i:w.cell? ⟨B,0,none⟩=some (.func (.func g) #[] h))(f:∀W,Below w.heap.size w W->Calls prog g (#[uw m]++h) W λe c=>e = .returned (.bool y)/\Below W.heap.size W c) :
  Calls prog 198 #[uw m,.pointer (some ⟨B,0,none⟩)] w λe c=>e = .returned (.bool (!y))/\Below w.heap.size w c:=by
 obtain⟨a,v⟩:=m;unfold uw at f |-;simp only at f |-;have j:=λO:Obj=>zg (nb w O) i;have b:=λO:Obj=>nb w O;go_enter func198,ntmps198
 go_wp2_with (go_at_fn g;refine (f _ (b _)).mono ?_;rintro e c ⟨rfl,d⟩)
 go_ret;exact⟨rfl,(b _).trans (d.mono (b _).size)⟩
theorem lw(ms:List (BY×Value))(ao:Option Addr)(cap g:Nat)(a:Array Value)(p:Nat->Bool)(w:World)(q:ms.length<=100000000000)(k:∀args w,(callFunc g args).run prog w = .ok (.enter g args) w)
  (o:Zp w ao ms)(d:∀m ∈ ms,∃T x,m.2 = .iface T x)(r:yf g a (λj=>uw (yM ms j)) ms.length p w) :
  Calls prog 150 #[.slice ao ms.length cap,.func (.func g) #[] a] w λe f=>
   e = .returned (.bool (yX p ms.length))/\Below w.heap.size w f:=by
 have i:∀args w,(callFunc 198 args).run prog w = .ok (.enter 198 args) w:=enters_of func198 (by kernel_rfl) rfl
 have c:=lN ms ao cap 198 #[.pointer (some ⟨w.heap.size,0,none⟩)] (λj=>!p j) (w.alloc (.cells #[.func (.func g) #[] a] 203)) q i
  (YY o (nb w _)) d
  (λW j n hb=>by
    refine lC g a (yM ms j) w.heap.size (p j) W k ?_ (λh l=>r h j n (((nb w _).trans (hb.mono (by simp))).trans (l.mono (by have:=hb.size;simp at this;omega))));exact zg hb (by simp))
 rw[Yt];generalize zl (λj=>!p j) ms.length=F at c;go_enter func150,ntmps150
 go_wp2_with (go_at_call 197;refine c.mono ?_;rintro e f ⟨rfl,b⟩)
 go_ret;exact⟨rfl,(nb w _).trans (b.mono (by simp))⟩
theorem wN(nm:BY)(m:BY×Value)(B:Nat)(w:World)(c:w.cell? ⟨B,0,none⟩=some (.string nm)) :
  Calls prog 96 #[uw m,.pointer (some ⟨B,0,none⟩)] w λe f=>e = .returned (.bool (m.1.toList==nm.toList))/\Below w.heap.size w f:=by
 obtain⟨a,v⟩:=m;unfold uw;simp only;have d:=λO:Obj=>zg (nb w O) c;have b:=λO:Obj=>nb w O;go_enter func96,ntmps96
 go_wp2
 go_ret;exact⟨rfl,b _⟩
def qo(ms:List (BY×Value))(nm:BY):Value:=match ms.find? (λm=>m.1.toList==nm.toList) with
 | some m=>m.2
 | none => .nilIface
theorem wK(ms:List (BY×Value))(nm:BY):qo ms nm=match zl (λj=>(yM ms j).1.toList==nm.toList) ms.length with
  | some k=>(yM ms k).2
  | none => .nilIface:=by
 unfold qo
 cases hF:zl (λj=>(yM ms j).1.toList==nm.toList) ms.length with
 | none=>
  have:ms.find? (λm=>m.1.toList==nm.toList)=none:=by
   rw[List.find?_eq_none];intro m f;obtain⟨j,a,rfl⟩:=List.getElem_of_mem f;unfold zl at hF;rw[List.find?_eq_none] at hF
   have:=hF j (List.mem_range.2 a)
   rwa [ZP ms j a] at this
  rw[this]
 | some k=>
  unfold zl at hF;rw[List.find?_range_eq_some] at hF;obtain⟨c,d,e⟩:=hF;have b:k<ms.length:=by simpa using d
  have:ms.find? (λm=>m.1.toList==nm.toList)=some ms[k]:=by
   rw[List.find?_eq_some_iff_getElem];refine⟨by rw[ZP ms k b] at c;exact c,k,b,rfl,λj a=>?_⟩
   have:=e j a
   rw[ZP ms j (by omega)] at this;exact this
  rw[this];simp only;rw[ZP ms k b]
theorem Vo(ms:List (BY×Value))(ao:Option Addr)(cap:Nat)(nm:BY)(w:World)(s:ms.length<=100000000000)(n:Zp w ao ms)(g:∀m ∈ ms,∃T x,m.2 = .iface T x) :
  Calls prog 51 #[.slice ao ms.length cap,.string nm] w λe l=>e = .returned (qo ms nm)/\Below w.heap.size w l:=by
 have q:∀args w,(callFunc 96 args).run prog w = .ok (.enter 96 args) w:=enters_of func96 (by kernel_rfl) rfl
 have c:=ak ms ao cap 96 #[.pointer (some ⟨w.heap.size,0,none⟩)] (λj=>(yM ms j).1.toList==nm.toList) (w.alloc (.cells #[.string nm] 9)) s q
  (YY n (nb w _)) g
  (λW j v hb=>wN nm (yM ms j) w.heap.size W (zg hb (by simp)))
 have d:=wK ms nm
 have hF:∀k,zl (λj=>(yM ms j).1.toList==nm.toList) ms.length=some k->k<ms.length:=λk h=>by
  unfold zl at h;rw[List.find?_range_eq_some] at h
  simpa using h.2.1
 have f:=λO:Obj=>nb w O
 cases hf:zl (λj=>(yM ms j).1.toList==nm.toList) ms.length with
 | none=>
  rw[hf] at c d;simp only at d;rw[d];clear d hF hf;go_enter func51,ntmps51
  go_wp2_with (go_at_call 95;refine c.mono ?_;rintro e l ⟨rfl,a⟩)
  go_ret;exact⟨rfl,(f _).trans (a.mono (by simp))⟩
 | some k=>
  rw[hf] at c d;simp only at d;have i:=hF k hf;rw[d,ZP ms k i]
  rcases n with rfl|⟨b,o,rfl,hc⟩
  ·simp at i
  obtain⟨t,q2⟩:=hc k i;obtain⟨u,p⟩:=Nm (ms[k].2);rw[p] at q2 |-;have r:(k:Int)<(ms.length:Int):=by omega
  clear d hF hf hc t p;go_enter func51,ntmps51
  go_wp2_with (go_at_call 95;refine c.mono ?_;rintro e l ⟨rfl,a⟩;have y:=zg ((f (.cells #[.string nm] 9)).trans (a.mono (by simp))) q2)
  go_ret;exact⟨rfl,(f _).trans (a.mono (by simp))⟩
def vk(c:Int)(q:Nat):Value:=
 if c=3 then .iface 141 (.agg #[.int .i64 (q:Int)])
 else if c=4 then .iface 142 (.agg #[.int .i64 (q:Int)])
 else .iface 140 (.agg #[.int .i64 (q:Int)])
theorem sN(q:Nat):vk 4 q = .iface 142 (.agg #[.int .i64 (q:Int)]):=rfl
theorem Qo(c:Int)(q:Nat):∃T,vk c q = .iface T (.agg #[.int .i64 (q:Int)]):=by
 unfold vk;split
 ·exact⟨_,rfl⟩
 split
 ·exact⟨_,rfl⟩
 ·exact⟨_,rfl⟩
def yt{α:Type}(Inv:α->Nat->World->Prop)(Bad:World->Prop)(r:Rd.Res α)(e:Ending)(b:World):Prop:=match r with
 | .ok a q=>e = .returned .nilIface/\Inv a q b
 | .err c q=>e = .returned (vk c q)/\Bad b
theorem yt.of{α:Type}{Inv:α->Nat->World->Prop}{Bad:World->Prop}{r a:Rd.Res α}{e:Ending}{b:World}(h:yt Inv Bad r e b)(c:a=r):yt Inv Bad a e b:=c ▸ h
structure Reads {α:Type} (s:BY) (R g:Nat) (lb:Array Value) (st:Nat->α->Nat->Rd.Res α) (F d:Nat) (Inv:α->Nat->World->Prop) (Bad:World->Prop):Prop where
 rd:∀a q w,Inv a q w->zk w R s q
 mv:∀a q q' w w',Inv a q w->q<=q'->w.grownBy w' (some R)->zk w' R s q'->Inv a q' w'
 bad:∀a q w,Inv a q w->Bad w
 adv:∀f a q a' q',q<=s.size->Rd.blank (Rd.zf s.data.toList q)=false->2*(s.size-q)<f->st f a q = .ok a' q'->q<q'/\q'<=s.size
 one:∀f a q w,f<F->d<=8->Inv a q w->q<=s.size->Rd.blank (Rd.zf s.data.toList q)=false->2*(s.size-q)<f->Calls prog g lb w λe w'=>yt Inv Bad (st f a q) e w'
theorem Bt{α:Type}{l:List UInt8}{b:Nat->α->Nat->Rd.Res α}{e f q q2:Nat}{a:α}{c:Int}(h:b f a q = .err c q2):Rd.ym l b e (f+1) a q = .err c q2:=by rw[Rd.ym,h]
theorem Bu{α:Type}{l:List UInt8}{b:Nat->α->Nat->Rd.Res α}{e f q q2:Nat}{a c:α}(h:b f a q = .ok c q2)(hb:Rd.zf l (Rd.skip l q2)=44):Rd.ym l b e (f+1) a q=Rd.ym l b e f c (Rd.skip l (Rd.skip l q2+1)):=by
 rw[Rd.ym,h];exact if_pos hb
theorem Br{α:Type}{l:List UInt8}{c:Nat->α->Nat->Rd.Res α}{e f q q2:Nat}{a b:α}(h:c f a q = .ok b q2)(hb:Rd.zf l (Rd.skip l q2)=e)(d:e≠44):Rd.ym l c e (f+1) a q = .ok b (Rd.skip l q2+1):=by
 rw[Rd.ym,h];exact (if_neg (by omega)).trans (if_pos hb)
theorem Bq{α:Type}{l:List UInt8}{b:Nat->α->Nat->Rd.Res α}{e f q q2:Nat}{a c:α}(h:b f a q = .ok c q2)(hb:Rd.zf l (Rd.skip l q2)≠44)(d:Rd.zf l (Rd.skip l q2)≠e):Rd.ym l b e (f+1) a q = .err 2 (Rd.skip l q2):=by
 rw[Rd.ym,h];exact (if_neg hb).trans (if_neg d)
theorem aY{α:Type}(s:BY)(R p d e g F:Nat)(lb:Array Value)(st:Nat->α->Nat->Rd.Res α)(Inv:α->Nat->World->Prop)(Bad:World->Prop)(a:α)(w:World)
  (eg:∀args w,(callFunc g args).run prog w = .ok (.enter g args) w)(hR:Reads s R g lb st F d Inv Bad)
  (hi:Inv a p w)(hp:p<s.size)(hs:s.size<=4000)(hd:d<=100)(g6:e≠0)(e0:e≠44)(hF:2*(s.size-(p+1))+1<F) :
  Calls prog 190 #[.pointer (some ⟨R,0,none⟩),.int .i64 (d:Int),.int .u8 (e:Int),.func (.func g) #[] lb] w λi n=>yt Inv Bad (Rd.yY s.data.toList st e F d a p) i n:=by
 have hr:=hR.rd a p w hi;have HI:=hid hi;have j:=hid hR;clear hi hR;have C:Rd.yY s.data.toList st e F d a p=Rd.yY s.data.toList st e F d a p:=rfl
 conv at C=>rhs;unfold Rd.yY
 have c2:zk (w.setCell ⟨R,1,none⟩ (.int .i64 ((p:Int)+1))) R s (p+1):=by
  have:=hr.move (p+1)
  rwa [show ((p+1:Nat):Int)=(p:Int)+1 by omega] at this
 have b7:=hid c2;obtain⟨h1,h2,h3⟩:=hr;clear c2
 by_cases c8:8<d
 ·rw[if_pos c8] at C;have U:=hid C;have d8:decide (8<(d:Int))=true:=decide_eq_true (by omega);clear C;go_enter func190,ntmps190
  go_wp2
  go_ret;refine yt.of ?_ U.out;exact⟨rfl,j.out.bad _ _ _ HI.out⟩
 rw[if_neg c8] at C;have d8:decide (8<(d:Int))=false:=decide_eq_false (by omega);have a4:=Rd.jc s.data.toList (p+1) (by rw[Ref.zx];omega);rw[Ref.zx] at a4;have e4:=Rd.xJ s.data.toList (p+1);have a1:=Rd.vB s.data.toList (p+1);obtain⟨q,hq⟩:=Nm (Rd.skip s.data.toList (p+1));have A:=Qy s R (p+1) _ b7.out (by omega) hs;rw[hq] at C a4 e4 a1 A;obtain⟨b,hb⟩:=Nm (Rd.zf s.data.toList q);have e8:b<256:=by rw[<- hb];exact Rd.uA _ _
 rw[hb] at C
 have B:=A.mono (R':=λi n=>i = .returned (.tuple #[])/\w.grownBy n (some R)/\zk n R s q) (by
  rintro i n ⟨rfl,Q,S⟩;exact⟨rfl,zD (xE _ _ _ _) Q,S⟩)
 have y:∀u,zk u R s q->w.grownBy u (some R)->Calls prog 143 #[.pointer (some ⟨R,0,none⟩)] u λi n=>i = .returned (.int .u8 (b:Int))/\w.grownBy n (some R)/\zk n R s q:=λu h6 h7=>by
  refine (Xd s R q u h6 a4).mono ?_;rintro i n ⟨rfl,Q,S,_,_⟩;exact⟨by rw[hb],zD h7 S,Q⟩
 clear A
 by_cases ce:b=e
 ·rw[if_pos ce] at C;have U:=hid C
  have c5:q<s.size:=by
   have:=Rd.zP s.data.toList q (by rw[hb];omega)
   rwa [Ref.zx] at this
  have de:((b:Int)==(e:Int))=true:=by rw[beq_iff_eq];omega
  clear C hb hq a1;go_enter func190,ntmps190
  go_wp2_with (first
   | (go_at_call 92;refine B.mono ?_;rintro i u ⟨rfl,Y,a3⟩)
   | (go_at_call 143;refine (y u a3 Y).mono ?_;rintro i w2 ⟨rfl,Z,M⟩;have V:=hid M;obtain⟨g1,g2,g3⟩:=M))
  go_ret;refine yt.of ?_ U.out;refine⟨rfl,j.out.mv a p _ w _ HI.out (by omega) (zD Z (xE _ _ _ _)) ?_⟩
  have:=V.out.move (q+1)
  rwa [show ((q+1:Nat):Int)=(q:Int)+1 by omega] at this
 rw[if_neg ce] at C;have de:((b:Int)==(e:Int))=false:=by rw[beq_eq_false_iff_ne];omega
 have U:=hid C;have b8:=hid a1;clear C hb hq a1;go_enter func190,ntmps190
 go_wp2_with (first
  | (go_at_call 92;refine B.mono ?_;rintro i u ⟨rfl,Y,a3⟩)
  | (go_at_call 143;refine (y u a3 Y).mono ?_;rintro i w2 ⟨rfl,Z,M⟩))
 have V:=hid M;have b6:=hid Z;clear a3 Y M Z y B h1 h2 h3
 go_loopw [38] (λ_ wr=>∃(f:Nat) (a':α) (q':Nat),f<=F/\Inv a' q' wr/\q'<=s.size/\Rd.blank (Rd.zf s.data.toList q')=false/\2*(s.size-q')+1<f/\Rd.ym s.data.toList st e F a q=Rd.ym s.data.toList st e f a' q') (λ_ wr=>s.size-XB wr R)
 case atStart=>exact⟨F,a,q,Nat.le_refl _,j.out.mv a p q w w2 HI.out (by omega) b6.out V.out,a4,b8.out,by omega,rfl⟩
 case round=>
  obtain⟨f,a',q',g8,a0,c3,L,g7,c7⟩:=hrel;obtain⟨f,rfl⟩:∃k,f=k+1:=⟨f-1,by omega⟩;have x:=j.out.one f a' q' wr (by omega) (by omega) a0 c3 L (by omega);have d7:=hid (j.out.rd _ _ _ a0).at;have W:=hid c7;have f4:=hid a0;have G:=hid (λE q2=>j.out.adv f a' q' E q2 c3 L (by omega));clear c7 a0 V b6 b8 b7 L
  cases hx:st f a' q' with
  | err c q2=>
   rw[hx] at x;have b5:=hid (U.out.trans (W.out.trans (Bt hx)));obtain⟨T,hT⟩:=Qo c q2
   have o:=x.mono (R':=λi n=>i = .returned (.iface T (.agg #[.int .i64 (q2:Int)]))/\Bad n) (by
    rintro i n ⟨rfl,h⟩;exact⟨by rw[hT],h⟩)
   have HT:=hid hT;clear x hx G hT
   go_wp2_with (go_at_fn g;refine o.mono ?_;rintro i P ⟨rfl,c0⟩)
   go_ret;refine yt.of ?_ b5.out;exact⟨by rw[HT.out];rfl,c0⟩
  | ok E q2=>
   rw[hx] at x;obtain⟨d6,a9⟩:=G.out E q2 hx;have N:=Rd.jc s.data.toList q2 (by rw[Ref.zx];omega);rw[Ref.zx] at N;have a7:=Rd.xJ s.data.toList q2;have m:=λh=>hid (U.out.trans (W.out.trans (Bu (e:=e) (l:=s.data.toList) hx h)));have v:=λh=>hid (U.out.trans (W.out.trans (Br (e:=e) (l:=s.data.toList) hx h e0)));have D:=λh h'=>hid (U.out.trans (W.out.trans (Bq (e:=e) (l:=s.data.toList) hx h h')));have A:=λu (h:Inv E q2 u)=>Qy s R q2 u (j.out.rd _ _ _ h) a9 hs;obtain⟨t,c4⟩:∃q,Rd.skip s.data.toList q2=q:=⟨_,rfl⟩;simp only[c4] at N a7 m v D A;obtain⟨X,H⟩:∃b,Rd.zf s.data.toList t=b:=⟨_,rfl⟩;have d9:X<256:=by rw[<- H];exact Rd.uA _ _
   have r:X≠0->t<s.size:=λh=>by
    have:=Rd.zP s.data.toList t (by rw[H];exact h)
    rwa [Ref.zx] at this
   simp only[H] at m v D
   have o:=x.mono (R':=λi n=>i = .returned .nilIface/\Inv E q2 n) (by
    rintro i n ⟨rfl,h⟩;exact⟨rfl,h⟩)
   have B:∀u,Inv E q2 u->Calls prog 92 #[.pointer (some ⟨R,0,none⟩)] u λi n=>i = .returned (.tuple #[])/\Inv E t n:=λu h=>by
    refine (A u h).mono ?_;rintro i n ⟨rfl,Q,S⟩;exact⟨rfl,j.out.mv _ _ _ _ _ h a7 Q S⟩
   have y:∀u,Inv E t u->Calls prog 143 #[.pointer (some ⟨R,0,none⟩)] u λi n=>i = .returned (.int .u8 (X:Int))/\Inv E t n/\zk n R s t:=λu h=>by
    refine (Xd s R t u (j.out.rd _ _ _ h) N).mono ?_;rintro i n ⟨rfl,Q,S,_,_⟩;exact⟨by rw[H],j.out.mv _ _ _ _ _ h (Nat.le_refl _) S Q,Q⟩
   clear x hx G A H c4
   by_cases c44:X=44
   ·have d44:(X:Int)=44:=by omega
    have HM:=m c44;have c5:=r (by omega);have O:=Rd.jc s.data.toList (t+1) (by rw[Ref.zx];omega);rw[Ref.zx] at O;have c6:=Rd.xJ s.data.toList (t+1);have a6:=hid (Rd.vB s.data.toList (t+1));clear m v D r c44;obtain⟨q4,b0⟩:∃q,Rd.skip s.data.toList (t+1)=q:=⟨_,rfl⟩;rw[b0] at O c6 HM a6
    have e3:∀P,Inv E t P->zk P R s t->Calls prog 92 #[.pointer (some ⟨R,0,none⟩)] (P.setCell ⟨R,1,none⟩ (.int .i64 ((t:Int)+1))) λi n=>i = .returned (.tuple #[])/\Inv E q4 n:=λP h h'=>by
     have hm:=h'.move (t+1);rw[show ((t+1:Nat):Int)=(t:Int)+1 by omega] at hm;refine (Qy s R (t+1) _ hm (by omega) hs).mono ?_;rintro i n ⟨rfl,Q,S⟩;rw[b0] at S;exact⟨rfl,j.out.mv _ _ _ _ _ h (by omega) (zD (xE _ _ _ _) Q) S⟩
    clear b0
    go_wp2_with (first
     | (go_at_fn g;refine o.mono ?_;rintro i P ⟨rfl,I⟩)
     | (go_at_call 92;refine (e3 w5 K a8.out).mono ?_;rintro i w6 ⟨rfl,c1⟩)
     | (go_at_call 92;refine (B P I).mono ?_;rintro i w4 ⟨rfl,J⟩)
     | (go_at_call 143;refine (y w4 J).mono ?_;rintro i w5 ⟨rfl,K,z⟩;have a8:=hid z;obtain⟨g1,g2,g3⟩:=z))
    have b9:=(j.out.rd _ _ _ c1).at
    go_roundw
    case rel=>exact⟨f,E,q4,by omega,c1,O,a6.out,by omega,U.out.symm.trans HM.out⟩
    case measure=>rw[d7.out,b9];omega
   have d44:((X:Int)==44)=false:=by rw[beq_eq_false_iff_ne];omega
   by_cases ce3:X=e
   ·have d2:((X:Int)==(e:Int))=true:=by rw[beq_iff_eq];omega
    have HM:=v ce3;have c5:=r (by omega);clear m v D r c44 ce3
    go_wp2_with (first
     | (go_at_fn g;refine o.mono ?_;rintro i P ⟨rfl,I⟩)
     | (go_at_call 92;refine (B P I).mono ?_;rintro i w4 ⟨rfl,J⟩)
     | (go_at_call 143;refine (y w4 J).mono ?_;rintro i w5 ⟨rfl,K,z⟩;have a8:=hid z;obtain⟨g1,g2,g3⟩:=z))
    go_ret;refine yt.of ?_ HM.out;refine⟨rfl,j.out.mv _ _ _ _ _ K (by omega) (xE _ _ _ _) ?_⟩
    have:=a8.out.move (t+1)
    rwa [show ((t+1:Nat):Int)=(t:Int)+1 by omega] at this
   ·have d2:((X:Int)==(e:Int))=false:=by rw[beq_eq_false_iff_ne];omega
    have HM:=D c44 ce3;clear m v D r c44 ce3
    go_wp2_with (first
     | (go_at_fn g;refine o.mono ?_;rintro i P ⟨rfl,I⟩)
     | (go_at_call 92;refine (B P I).mono ?_;rintro i w4 ⟨rfl,J⟩)
     | (go_at_call 143;refine (y w4 J).mono ?_;rintro i w5 ⟨rfl,K,z⟩)
     | (go_at_call 94;refine (Zx s R t w5 z).mono ?_;rintro i w6 ⟨rfl,rfl⟩))
    go_ret;refine yt.of ?_ HM.out;exact⟨rfl,j.out.bad _ _ _ K⟩
inductive ValAt (w:World) (S:Nat->Prop):Rd.V->Value->Prop
 | str (t:BY):ValAt w S (.str t) (.iface 270 (.string t))
 | word (b:Bool):ValAt w S (.word b) (.iface 271 (.bool b))
 | list (vs:List Rd.V) (us:List Value) (ao:Option Addr) (cap:Nat):us.length=vs.length ->
   (us=[]\/∃b,ao=some ⟨b,0,none⟩/\S b/\∀(j:Nat) (u:Value),us[j]?=some u->w.cell? ⟨b,j,none⟩=some u) ->
   (∀(j:Nat) (v:Rd.V) (u:Value),vs[j]?=some v->us[j]?=some u->ValAt w S v u)->ValAt w S (.list vs) (.iface 121 (.slice ao us.length cap))
 | obj (ms:List (BY×Rd.V)) (us:List (BY×Value)) (ao:Option Addr) (cap:Nat):us.map Prod.fst=ms.map Prod.fst ->
   (us=[]\/∃b,ao=some ⟨b,0,none⟩/\S b/\∀(j:Nat) (x:BY×Value),us[j]?=some x->w.cell? ⟨b,j*2,none⟩=some (.string x.1)/\w.cell? ⟨b,j*2+1,none⟩=some x.2) ->
   (∀(j:Nat) (x:BY×Rd.V) (u:BY×Value),ms[j]?=some x->us[j]?=some u->ValAt w S x.2 u.2)->ValAt w S (.obj ms) (.iface 118 (.slice ao us.length cap))
theorem ValAt.move{w m:World}{S i:Nat->Prop}{v:Rd.V}{u:Value}(h:ValAt w S v u)(k:∀b,S b->i b)(e:∀b,S b->m.heap[b]?=w.heap[b]?):ValAt m i v u:=by
 induction h with
 | str t=>exact .str t
 | word b=>exact .word b
 | list o g ao cap d c _ f=>
  refine .list o g ao cap d ?_ f
  rcases c with c|⟨b,ha,hb,hc⟩
  ·exact .inl c
  ·exact .inr ⟨b,ha,k b hb,λj u n=>by rw[World.cell?_of_block (a:=⟨b,j,none⟩) (e b hb)];exact hc j u n⟩
 | obj ms g ao cap d c _ f=>
  refine .obj ms g ao cap d ?_ f
  rcases c with c|⟨b,ha,hb,hc⟩
  ·exact .inl c
  ·exact .inr ⟨b,ha,k b hb,λj x l=>⟨by rw[World.cell?_of_block (a:=⟨b,j*2,none⟩) (e b hb)];exact (hc j x l).1,by rw[World.cell?_of_block (a:=⟨b,j*2+1,none⟩) (e b hb)];exact (hc j x l).2⟩⟩
theorem ValAt.iface{w:World}{S:Nat->Prop}{v:Rd.V}{u:Value}(h:ValAt w S v u):∃T x,u = .iface T x:=by
 cases h with
 | str t=>exact⟨_,_,rfl⟩
 | word b=>exact⟨_,_,rfl⟩
 | list=>exact⟨_,_,rfl⟩
 | obj=>exact⟨_,_,rfl⟩
def Blk(w a:World)(b:Nat):Prop:=w.heap.size<=b/\b<a.heap.size
def starts(s:BY)(p:Nat):Bool:=Rd.zf s.data.toList p==123||Rd.zf s.data.toList p==91||Rd.zf s.data.toList p==34||Rd.zf s.data.toList p==116||Rd.zf s.data.toList p==102
def yU(w:World)(R:Nat)(s:BY)(sb:Bool)(r:Rd.Res Rd.V)(e:Ending)(a:World):Prop:=match r with
 | .ok v q=>∃u,e = .returned (.tuple #[u,.nilIface])/\ValAt a (Blk w a) v u/\w.grownBy a (some R)/\zk a R s q
 | .err c q=>∃u,e = .returned (.tuple #[u,vk c q])/\((sb=true->∃T x,u = .iface T x)/\(sb=false->u = .nilIface))/\w.grownBy a (some R)
theorem yU.of{w b:World}{R:Nat}{s:BY}{sb:Bool}{r a:Rd.Res Rd.V}{e:Ending}(h:yU w R s sb r e b)(c:a=r):yU w R s sb a e b:=c ▸ h
def vZ(s:BY)(R F:Nat):Prop:=∀f,f<F->∀(d p:Nat) (w:World),zk w R s p->zT w->p<=s.size->1<=d->d<=9->Rd.blank (Rd.zf s.data.toList p)=false->2*(s.size-p)<f ->
 Calls prog 93 #[.pointer (some ⟨R,0,none⟩),.int .i64 (d:Int)] w λe a=>yU w R s (starts s p) (Rd.zL s.data.toList f d p) e a
structure uP (w0:World) (R:Nat) (s:BY) (d:Nat) (acc:List Rd.V) (q:Nat) (wr:World):Prop where
 rd:zk wr R s q
 seq:zT wr
 grown:w0.grownBy wr (some R)
 size:w0.heap.size+3<=wr.heap.size
 len:acc.length<=q
 cx:wr.cell? ⟨w0.heap.size,0,none⟩=some (.pointer (some ⟨R,0,none⟩))
 cd:wr.cell? ⟨w0.heap.size+1,0,none⟩=some (.int .i64 (d:Int))
 row:∃lv us,wr.cell? ⟨w0.heap.size+2,0,none⟩=some lv/\wr.frozen? ⟨w0.heap.size+2,0,none⟩=false/\wr.ownsRow (w0.heap.size+3) 114 1 lv acc.length us /\
  ∀(j:Nat) (v:Rd.V) (u:Value),acc[j]?=some v->us[j]?=some u->ValAt wr (λb=>w0.heap.size+3<=b/\b<wr.heap.size/\lv.ownBlock≠some b) v u
def QH(a:World)(R:Nat)(wr:World):Prop:=a.grownBy wr (some R)/\∃b,wr.cell? ⟨a.heap.size+2,0,none⟩=some b
theorem uP.mv{e:World}{R:Nat}{s:BY}{d:Nat}{acc:List Rd.V}{q g:Nat}{w i:World}(t:R<e.heap.size)(f:R≠5)(h:uP e R s d acc q w)(x:q<=g)(c:w.grownBy i (some R))(l:zk i R s g):uP e R s d acc g i:=by
 obtain⟨p,r,c1,c2,c3,c4⟩:=h.row;have m:=h.size;have k:=c.size;refine⟨l,h.seq.grown c f,zD h.grown c,by omega,by have:=h.len;omega,c.cell h.cx (by simp;omega),c.cell h.cd (by simp;omega),p,r,c.cell c1 (by simp;omega),?_,yN c3 c (by omega),λj v u o n=>(c4 j v u o n).move (λb hb=>⟨hb.1,by omega,hb.2.2⟩) (λb hb=>c.block b hb.2.1 (by simp;omega))⟩;rw[World.frozen?_of_block (w:=w) (a:=⟨e.heap.size+2,0,none⟩) (c.block _ (by show e.heap.size+2<_;omega) (by simp;omega))];exact c2
theorem Ml:(prog.info? 114).map (λi=>(i.zero,i.size,i.bytes))=some (some .nilIface,1,16):=by kernel_rfl
theorem fV{α:Type}{xs:List α}{x:α}{j:Nat}{u:α}(h:(xs++[x])[j]?=some u):(j<xs.length/\xs[j]?=some u)\/(j=xs.length/\u=x):=by
 rw[List.getElem?_append] at h
 split at h
 ·rename_i a;exact .inl ⟨a,h⟩
 ·have a:=(List.getElem?_eq_some_iff.1 h).1;simp at a;have e:j=xs.length:=by omega
  subst e;simp at h;exact .inr ⟨rfl,h.symm⟩
end Go.Proofs.YtdakgnaojakldaaGreatDoor
