/- P -/
import Derived.Test.YtfjpcldndaiifaaGreatDoorA22
open Go.Proofs.Tryz
set_option maxRecDepth 100000
set_option maxHeartbeats 2000000
namespace Go.Proofs.YtfjpcldndaiifaaGreatDoor
open Go.RowKit
attribute [local go_sem ↓] Go.wp_at_zero Go.wp_at_succ
theorem bR(w:J)(x:Int)(t:TypeId)(c:Nat):(convert 210 9 (.slice (some ⟨w.heap.size,0,none⟩) 1 c)).run prog (w.alloc (.cells #[.int .u8 x] t)).drew=.ok (.string ⟨#[UInt8.ofNat x.toNat]⟩) (w.alloc (.cells #[.int .u8 x] t)).drew:=by
 rw[eD _ _ _ _ _ _ _ underlying210 underlying5 underlying9];rw[nY _ _ _ _ [x] (by simp[loadCells,go_sem])]
 rfl
theorem Nu(w:J)(a b d:Addr)(f g i:Y)(x:Int)(t:TypeId)(c:Nat):(convert 210 9 (TL (some (R6 w 0)) 1 c)).run prog ((((w.setCell a f).setCell b g).setCell d i).alloc (L8 #[.int .u8 x] t)).drew =
  .ok (S9 ⟨#[UInt8.ofNat x.toNat]⟩) ((((w.setCell a f).setCell b g).setCell d i).alloc (L8 #[.int .u8 x] t)).drew:=by
 have h:=bR (((w.setCell a f).setCell b g).setCell d i) x t c;have e:(((w.setCell a f).setCell b g).setCell d i).heap.size=w.heap.size:=by simp[World.setCell]
 rw[e]at h;exact h
theorem Nt(w:J)(a:Addr)(b:Y)(x:Int)(t:TypeId)(c:Nat):(convert 210 9 (TL (some (R6 w 0)) 1 c)).run prog ((w.setCell a b).alloc (L8 #[.int .u8 x] t)).drew =
  .ok (S9 ⟨#[UInt8.ofNat x.toNat]⟩) ((w.setCell a b).alloc (L8 #[.int .u8 x] t)).drew:=by
 have h:=bR (w.setCell a b) x t c;have e:(w.setCell a b).heap.size=w.heap.size:=by simp[World.setCell]
 rw[e]at h;exact h
theorem zci(m:U.zl)(x:Int)(base b:Nat)(E D:Y)(F:List (Y×Y))(w:J)(h:zW w base b m E D F)(l:Small m)(c:m.named=true->m.opn≠[])(H:0<=x)(I:x<=255):R8 165 #[RG b 0,.int .u8 x] w (Stepped base b (U.plain m x) w):=by
 obtain⟨R,a⟩:=Nm (U.plain m x);rw[a];unfold U.plain at a;have j:=G7 h.hb;have C:b<w.heap.size:=zt h.blk;have M:w.cell? (G8 b 0)=some (R9 m.state):=(h.cell 0).1;have f0:w.frozen? (G8 b 0)=false:=(h.cell 0).2;have c4:w.cell? (G8 b 4)=some (S9 m.got):=(h.cell 4).1;have f4:w.frozen? (G8 b 4)=false:=(h.cell 4).2;have t:=l.got
 by_cases h34:x=34
 ·rw[zb h34]at a;subst a;have y:(x==34)=true:=by simp[h34]
  have⟨K,L,r⟩:=M4 h l c;clear h l c h34 M f0 c4 f4;go_enter func165,ntmps165;go_wp2_with fail;apply(MF m base b E D F _ K L r).mono;rintro e G⟨rfl,s,o⟩;have q:=G7 o;clear o;go_wp2;go_ret;exact⟨rfl,s,q⟩
 rw[za h34]at a;have y:(x==34)=false:=by simp[h34]
 by_cases h92:x=92
 ·rw[zb h92]at a;subst a;have z:(x==92)=true:=by simp[h92]
  have f:=G7 (h.store 0 (R9 10) (m':={ m with state:=10 }) rfl rfl rfl)
  clear h l c h34 h92;go_enter func165,ntmps165;go_wp2;go_ret;exact⟨rfl,(zf _ w).setCell j.o _,λ_=>⟨_,_,_,f⟩⟩
 rw[za h92]at a;have z:(x==92)=false:=by simp[h92]
 by_cases h32:x<32
 ·rw[zb h32]at a;subst a;clear h l c h34 h92;go_enter func165,ntmps165;go_wp2;go_ret;exact⟨rfl,zf _ w,by simp⟩
 rw[za h32]at a;have V:=bR;have W:=Nu;obtain⟨got,d⟩:=Nm m.got;rw[d]at c4 t a;have N:=λO:Obj=>zi (nbl w O) c4;have P:=λO:Obj=>((nbl w O).frozen (p:=G8 b 4) C).trans f4;have Q:base<=w.heap.size:=xD j (JW C)
 by_cases h128:x<128
 ·rw[zb h128]at a;subst a;have f:=G7 (h.store 4 (S9 (got++U.one x)) (m':={ m with got:=got++U.one x }) rfl rfl rfl)
  clear h l c h34 h92 d;go_enter func165,ntmps165;go_wp2_with fail;go_region
  all_goals
   go_wp2;go_ret;exact⟨rfl,((((zf _ w).setCell j.o _).alloc (by simp[World.setCell];omega) _)).drew,λ_=>⟨_,_,_,(f.below (nbl _ _)).drew⟩⟩
 rw[za h128]at a;obtain⟨n,i,k,u⟩:∃n i k,U.zZ x=(n,i,k):=⟨_,_,_,rfl⟩;rw[u]at a;have A:=G7 u;clear u
 by_cases hn:n=0
 ·rw[zb hn]at a;subst a;have v:(n==0)=true:=by simp[hn]
  clear h l c h34 h92 d hn;go_enter func165,ntmps165;go_wp2_with fail;apply(mG x n i k _ H I A).mono;rintro e G⟨rfl,rfl⟩;go_wp2;go_ret;exact⟨rfl,zf _ _,by simp⟩
 rw[za hn]at a;subst a;have v:(n==0)=false:=by simp[hn]
 have c5:w.cell? (G8 b 5)=some (R9 m.need):=(h.cell 5).1;have f5:w.frozen? (G8 b 5)=false:=(h.cell 5).2;have S:w.cell? (G8 b 6)=some (.int .u8 m.low):=(h.cell 6).1;have f6:w.frozen? (G8 b 6)=false:=(h.cell 6).2;have T:w.cell? (G8 b 7)=some (.int .u8 m.high):=(h.cell 7).1;have f7:w.frozen? (G8 b 7)=false:=(h.cell 7).2;have B:=((h.store 5 (R9 n) (m':={ m with need:=n }) rfl rfl rfl).store 6 (.int .u8 i) (m':={ m with need:=n,low:=i }) rfl rfl rfl).store 7 (.int .u8 k) (m':={ m with need:=n,low:=i,high:=k }) rfl rfl rfl
 have f:=G7 ((B.store 4 (S9 (got++U.one x)) (m':={ m with need:=n,low:=i,high:=k,got:=got++U.one x }) rfl rfl rfl).store 0 (R9 9) (m':={ m with need:=n,low:=i,high:=k,got:=got++U.one x,state:=9 }) rfl rfl rfl)
 clear h l c h34 h92 d hn B;go_enter func165,ntmps165;go_wp2_with fail;apply(mG x n i k _ H I A).mono;rintro e G⟨rfl,rfl⟩;go_wp2_with fail;go_region
 all_goals
  go_wp2;go_ret;exact⟨rfl,(((((((E9).setCell j.o _).setCell j.o _).setCell j.o _).setCell j.o _).setCell j.o _).alloc (by simp[World.setCell];omega) _).drew,λ_=>⟨_,_,_,(f.below (nbl _ _)).drew⟩⟩
attribute [local go_sem ↓] Go.wp_at_zero Go.wp_at_succ
theorem PH(m:U.zl)(x:Int)(base b:Nat)(D C:Y)(E:List (Y×Y))(w:J)(h:zW w base b m D C E)(j:Small m):R8 166 #[RG b 0,.int .u8 x] w (Stepped base b (U.escape m x) w):=by
 obtain⟨R,c⟩:=Nm (U.escape m x);rw[c];unfold U.escape at c;have f:=G7 h.hb;have B:b<w.heap.size:=zt h.blk;have A:base<=w.heap.size:=xD f (JW B);have F:w.cell? (G8 b 0)=some (R9 m.state):=(h.cell 0).1;have f0:w.frozen? (G8 b 0)=false:=(h.cell 0).2;obtain⟨got,a⟩:=Nm m.got;have c4:w.cell? (G8 b 4)=some (S9 got):=by rw[<- a];exact(h.cell 4).1
 have f4:w.frozen? (G8 b 4)=false:=(h.cell 4).2;have l:=j.got;rw[a]at l c;have i:=h.store 0 (R9 8) (m':={ m with state:=8 }) rfl rfl rfl
 have d4:(w.setCell (G8 b 0) (R9 8)).cell? (G8 b 4)=some (S9 got):=by rw[<- a];exact(i.cell 4).1
 have y:(w.setCell (G8 b 0) (R9 8)).frozen? (G8 b 4)=false:=(i.cell 4).2;have o:b<(w.setCell (G8 b 0) (R9 8)).heap.size:=zt i.blk;have v:=λO:Obj=>zi ((zf _ (w.setCell (G8 b 0) (R9 8))).alloc F7 O) d4;have z:=λO:Obj=>(((zf _ (w.setCell (G8 b 0) (R9 8))).alloc F7 O).frozen (p:=G8 b 4) o).trans y;have H:=Nt
 by_cases h1:x=34\/x=92\/x=47
 ·rw[zb h1]at c;subst c;have d:=G7 (i.store 4 (S9 (got++U.one x)) (m':={ m with state:=8,got:=got++U.one x }) rfl rfl rfl)
  have n:(x==34)=true\/(x==34)=false/\(x==92)=true\/(x==34)=false/\(x==92)=false/\(x==47)=true:=by
   rcases h1 with e|e|e
   ·exact .inl (by simp[e])
   ·exact .inr (.inl ⟨by simp[e],by simp[e]⟩)
   exact .inr (.inr ⟨by simp[e],by simp[e],by simp[e]⟩)
  clear h j h1 a i
  rcases n with k|⟨k,q⟩|⟨k,q,r⟩
  all_goals
   go_enter func166,ntmps166;go_wp2_with fail;go_region
  all_goals
   go_wp2;go_ret;exact⟨rfl,((((E9).setCell f.o _).setCell f.o _).alloc (by simp[World.setCell];omega) _).drew,λ_=>⟨_,_,_,(d.below (nbl _ _)).drew⟩⟩
 rw[za h1]at c;have k:(x==34)=false:=by simp;omega
 have q:(x==92)=false:=by simp;omega
 have r:(x==47)=false:=by simp;omega
 by_cases h2:x=110
 ·rw[zb h2]at c;subst c;have s:(x==110)=true:=by simp[h2]
  have d:=G7 (i.store 4 (S9 (got++U.one 10)) (m':={ m with state:=8,got:=got++U.one 10 }) rfl rfl rfl)
  clear h j h1 a i h2;go_enter func166,ntmps166;go_wp2;go_ret;exact⟨rfl,((E9).setCell f.o _).setCell f.o _,λ_=>⟨_,_,_,d⟩⟩
 rw[za h2]at c;have s:(x==110)=false:=by simp[h2]
 by_cases h3:x=116
 ·rw[zb h3]at c;subst c;have t:(x==116)=true:=by simp[h3]
  have d:=G7 (i.store 4 (S9 (got++U.one 9)) (m':={ m with state:=8,got:=got++U.one 9 }) rfl rfl rfl)
  clear h j h1 a i h2 h3;go_enter func166,ntmps166;go_wp2;go_ret;exact⟨rfl,((E9).setCell f.o _).setCell f.o _,λ_=>⟨_,_,_,d⟩⟩
 rw[za h3]at c;have t:(x==116)=false:=by simp[h3]
 by_cases h4:x=117
 ·rw[zb h4]at c;subst c;have u:(x==117)=true:=by simp[h4]
  have c5:w.cell? (G8 b 5)=some (R9 m.need):=(h.cell 5).1;have f5:w.frozen? (G8 b 5)=false:=(h.cell 5).2;have G:w.cell? (G8 b 8)=some (R9 m.number):=(h.cell 8).1;have f8:w.frozen? (G8 b 8)=false:=(h.cell 8).2;have fin:=(((i.store 0 (R9 11) (m':={ m with state:=11 }) rfl rfl rfl).store 5 (R9 4) (m':={ m with state:=11,need:=4 }) rfl rfl rfl).store 8 (R9 0) (m':={ m with state:=11,need:=4,number:=0 }) rfl rfl rfl)
  rw[a]at fin;have d:=G7 fin;clear fin;clear h j h1 a i h2 h3 h4;go_enter func166,ntmps166;go_wp2;go_ret;exact⟨rfl,((((E9).setCell f.o _).setCell f.o _).setCell f.o _).setCell f.o _,λ_=>⟨_,_,_,d⟩⟩
 rw[za h4]at c;subst c;have u:(x==117)=false:=by simp[h4]
 clear h j h1 a i h2 h3 h4;go_enter func166,ntmps166;go_wp2;go_ret;exact⟨rfl,(E9).setCell f.o _,by simp⟩
attribute [local go_sem ↓] Go.wp_at_zero Go.wp_at_succ
theorem Sv(b:Int):-1<=U.zP b/\U.zP b<=15:=by
 unfold U.zP;split
 ·omega
 split
 ·omega
 split
 ·omega
 omega
theorem Ud(b v:Int)(w:J)(a:0<=b)(c:b<=255)(d:U.zP b=v):R8 202 #[.int .u8 b] w λe f=>e=.returned (R9 v)/\f=w:=by
 subst d;exact Sw b w a c
theorem Oa(m:U.zl)(x:Int)(base b:Nat)(X W:Y)(vs:List (Y×Y))(w:J)(h:zW w base b m X W vs)(z:Small m)(r:0<=x)(s:x<=255)
  (T:0<=m.number)(V:m.number<=4095)(d1:1<=m.need)(d2:m.need<=4):R8 167 #[RG b 0,.int .u8 x] w (Stepped base b (U.digit m x) w):=by
 obtain⟨R,d⟩:=Nm (U.digit m x);rw[d];unfold U.digit at d;have j:=G7 h.hb;have S:b<w.heap.size:=zt h.blk;have P:base<=w.heap.size:=xD j (JW S);have I:=Sv x;obtain⟨v,H⟩:=Nm (U.zP x);rw[H]at d I;have q:=G7 H;clear H
 by_cases hneg:v<0
 ·rw[zb hneg]at d;subst d;clear h z;go_enter func167,ntmps167;go_wp2_with fail;apply(Ud x v _ r s q).mono;rintro e A⟨rfl,rfl⟩;go_wp2;go_ret;exact⟨rfl,zf _ _,by simp⟩
 rw[za hneg]at d;obtain⟨a,i⟩:=Nm m.number;obtain⟨need,c⟩:=Nm m.need;rw[i]at d T V;rw[c]at d d1 d2;have c8:w.cell? (G8 b 8)=some (R9 a):=by rw[<- i];exact(h.cell 8).1
 have f8:w.frozen? (G8 b 8)=false:=(h.cell 8).2;have c5:w.cell? (G8 b 5)=some (R9 need):=by rw[<- c];exact(h.cell 5).1
 have f5:w.frozen? (G8 b 5)=false:=(h.cell 5).2;have o:=(h.store 8 (R9 (16*a+v)) (m':={ m with number:=16*a+v }) rfl rfl rfl).store 5 (R9 (need-1)) (m':={ m with number:=16*a+v,need:=need-1 }) rfl rfl rfl
 by_cases hsur:need-1=2/\216<=16*a+v/\16*a+v<=223
 ·rw[zb hsur]at d;subst d;have E:(need-1==2)=true:=by simp;omega
  obtain⟨_,s2,s3⟩:=hsur;clear h z o i c;go_enter func167,ntmps167;go_wp2_with fail;apply(Ud x v _ r s q).mono;rintro e A⟨rfl,rfl⟩;go_wp2;go_ret;exact⟨rfl,((E9).setCell j.o _).setCell j.o _,by simp⟩
 rw[za hsur]at d
 by_cases hz:need-1=0
 ·rw[zb hz]at d;have E:(need-1==2)=false:=by simp;omega
  have N:(need-1==0)=true:=by simp;omega
  have G:=z.got;obtain⟨got,f⟩:=Nm m.got;have K:((w.setCell (G8 b 8) (R9 (16*a+v))).setCell (G8 b 5) (R9 (need-1))).cell? (G8 b 4)=some (S9 got):=by rw[<- f];exact(o.cell 4).1
  have O:((w.setCell (G8 b 8) (R9 (16*a+v))).setCell (G8 b 5) (R9 (need-1))).cell? (G8 b 8)=some (R9 (16*a+v)):=(o.cell 8).1;have F:=G7 o;have y:(U.enc (16*a+v)).size<=3:=by unfold U.enc U.one;split<;>(try split)<;>simp[ByteArray.size]
  obtain⟨t,p⟩:=Nm (U.enc (16*a+v));rw[p]at y d;rw[f]at d;subst d;have⟨D,HG⟩:=D5 p f;rw[f]at G;clear h z o i c hsur hz p f;go_enter func167,ntmps167;go_wp2_with fail;apply(Ud x v _ r s q).mono;rintro e A⟨rfl,rfl⟩;go_wp2_with fail;have L:0<=16*a+v/\16*a+v<65536:=by omega
  go_region_with (go_at_call 203;refine(Pf _ _ L.1 L.2).mono ?_;rw[D.o];rintro e B⟨rfl,u⟩;have C:=Xe u;have l:=F.below C;have q4:B.cell? (G8 b 4)=some (S9 got):=zi C K;have a1:B.frozen? (G8 b 4)=false:=(l.cell 4).2)
  all_goals
   have q0:B.cell? (G8 b 0)=some (R9 m.state):=(l.cell 0).1;have a0:B.frozen? (G8 b 0)=false:=(l.cell 0).2;have k:=G7 ((l.store 4 (S9 (got++t)) (m':={ m with number:=16*a+v,need:=need-1,got:=got++t }) rfl rfl rfl).store 0 (R9 8) (m':={ m with number:=16*a+v,need:=need-1,got:=got++t,state:=8 }) rfl rfl rfl)
   have M:G6 (Below base _ B):=(((zf base _).setCell j.o _).setCell j.o _).trans (C.mono (by simp[World.setCell];omega));clear l C u K O;go_wp2;go_ret;exact⟨rfl,(M.setCell j.o _).setCell j.o _,λ_=>⟨_,_,_,k⟩⟩
 rw[za hz]at d;subst d;have N:(need-1==0)=false:=by simp;omega
 have k:=G7 o;clear h z o i c
 by_cases hd:need-1=2
 ·have E:(need-1==2)=true:=by simp[hd]
  by_cases hlo:216<=16*a+v
  ·have Q:223<16*a+v:=by omega
   clear hsur hz hd;go_enter func167,ntmps167;go_wp2_with fail;apply(Ud x v _ r s q).mono;rintro e A⟨rfl,rfl⟩;go_wp2;go_ret;exact⟨rfl,((E9).setCell j.o _).setCell j.o _,λ_=>⟨_,_,_,k⟩⟩
  clear hsur hz hd;go_enter func167,ntmps167;go_wp2_with fail;apply(Ud x v _ r s q).mono;rintro e A⟨rfl,rfl⟩;go_wp2;go_ret;exact⟨rfl,((E9).setCell j.o _).setCell j.o _,λ_=>⟨_,_,_,k⟩⟩
 have E:(need-1==2)=false:=by simp[hd]
 clear hsur hz hd;go_enter func167,ntmps167;go_wp2_with fail;apply(Ud x v _ r s q).mono;rintro e A⟨rfl,rfl⟩;go_wp2;go_ret;exact⟨rfl,((E9).setCell j.o _).setCell j.o _,λ_=>⟨_,_,_,k⟩⟩
attribute [local go_sem ↓] Go.wp_at_zero Go.wp_at_succ
theorem VT(x:Int)(v:Bool)(w:J)(a:0<=x)(b:x<=255)(c:U.YG x=v):R8 168 #[.int .u8 x] w λe d=>e=.returned (.bool v)/\d=w:=by
 subst c;exact Lx x w a b
theorem zed(m:U.zl)(x:Int)(base b:Nat)(l k:Y)(n:List (Y×Y))(w:J)(h:zW w base b m l k n)(i:Small m)(j:U.Wf m)(t:0<=x)(u:x<=255)(q:m.state=8\/m.state=10\/m.state=11):R8 121 #[RG b 0,.int .u8 x] w (Stepped base b (U.step m x) w):=by
 have⟨o,p⟩:=D5 h i;have g:=G7 j
 rcases q with h8|h8|h8
 ·rw[U.YZ m x h8];have r:w.cell? (G8 b 0)=some (R9 8):=by rw[<- h8];exact(h.cell 0).1
  have f:=G7 h8;clear h i j h8;go_enter func121,ntmps121;go_wp2_with fail;apply(zci m x base b l k n _ o p (g.named (by rw[f.o];decide)) t u).mono;rintro e s⟨rfl,d,a⟩;have c:=G7 a;clear a;go_wp2;go_ret;exact⟨rfl,d,c⟩
 ·rw[U.UA m x h8];have r:w.cell? (G8 b 0)=some (R9 10):=by rw[<- h8];exact(h.cell 0).1
  have f:=G7 h8;clear h i j h8;go_enter func121,ntmps121;go_wp2_with fail;apply(PH m x base b l k n _ o p).mono;rintro e s⟨rfl,d,a⟩;have c:=G7 a;clear a;go_wp2;go_ret;exact⟨rfl,d,c⟩
 rw[U.UB m x h8];have r:w.cell? (G8 b 0)=some (R9 11):=by rw[<- h8];exact(h.cell 0).1
 have f:=G7 h8;clear h i j h8;go_enter func121,ntmps121;go_wp2_with fail;apply(Oa m x base b l k n _ o p t u (g.need11 f).2.2.1 (g.need11 f).2.2.2.1 (g.need11 f).1 (g.need11 f).2.1).mono;rintro e s⟨rfl,d,a⟩;have c:=G7 a;clear a;go_wp2;go_ret;exact⟨rfl,d,c⟩
theorem zep(m:U.zl)(x:Int)(base b:Nat)(t s:Y)(u:List (Y×Y))(w:J)(h:zW w base b m t s u)(l:U.Wf m)(c:m.state=7):R8 121 #[RG b 0,.int .u8 x] w (Stepped base b (U.step m x) w):=by
 obtain⟨R,d⟩:=Nm (U.step m x);rw[d];rw[U.UC m x c]at d;have n:=G7 h.hb;have j:=l.word c;have p:=l.small;obtain⟨a,f⟩:=Nm m.word;rw[f]at d j p;have y:w.cell? (G8 b 0)=some (R9 7):=by rw[<- c];exact(h.cell 0).1
 have f0:w.frozen? (G8 b 0)=false:=(h.cell 0).2;have z:w.cell? (G8 b 9)=some (S9 a):=by rw[<- f];exact(h.cell 9).1
 have f9:w.frozen? (G8 b 9)=false:=(h.cell 9).2;rw[U.getD_at a 0 j]at d;have r:0<a.size:=j
 by_cases hx:x=(a[0].toNat:Int)
 ·rw[za (λe=>e hx)]at d;have q:(x != (a[0].toNat:Int))=false:=by simp[hx]
  have v:=G7 hx;clear hx
  by_cases h1:a.size=1
  ·rw[zb h1]at d;subst d
   have k:(a.extract 1 a.size).toList.isEmpty=true:=by
    have:(a.extract 1 a.size).size=0:=by rw[yM];omega
    rw[List.isEmpty_iff];apply Yx;rw[ko,U.zF];exact this
   have i:=G7 ((h.store 9 (S9 (a.extract 1 a.size)) (m':={ m with word:=a.extract 1 a.size }) rfl rfl rfl).store 0 (R9 6) (m':={ m with word:=a.extract 1 a.size,state:=6 }) rfl rfl rfl)
   clear h l c f h1;go_enter func121,ntmps121;go_wp2;go_ret;exact⟨rfl,((E9).setCell n.o _).setCell n.o _,λ_=>⟨_,_,_,i⟩⟩
  rw[za h1]at d;rw[<- c]at d;subst d
  have k:(a.extract 1 a.size).toList.isEmpty=false:=by
   have o:(a.extract 1 a.size).size≠0:=by rw[yM];omega
   rw[List.isEmpty_eq_false_iff];intro e;apply o;rw[<- U.zF,<- ko,e];rfl
  have i:=G7 (h.store 9 (S9 (a.extract 1 a.size)) (m':={ m with word:=a.extract 1 a.size }) rfl rfl rfl)
  clear h l c f;go_enter func121,ntmps121;go_wp2;go_ret;exact⟨rfl,(E9).setCell n.o _,λ_=>⟨_,_,_,i⟩⟩
 rw[zb hx]at d;subst d;have q:(x != (a[0].toNat:Int))=true:=by simp[hx]
 clear h l c f hx;go_enter func121,ntmps121;go_wp2;go_ret;exact⟨rfl,zf _ _,by simp⟩
theorem oC(m:U.zl)(x:Int)(base b:Nat)(H G:Y)(I:List (Y×Y))(w:J)(h:zW w base b m H G I)(q:Small m)(r:U.Wf m)(c:m.state=9):R8 121 #[RG b 0,.int .u8 x] w (Stepped base b (U.step m x) w):=by
 obtain⟨R,d⟩:=Nm (U.step m x);rw[d];rw[U.Vs m x c]at d;have k:=G7 h.hb;have v:b<w.heap.size:=zt h.blk;have D:base<=w.heap.size:=xD k (JW v);obtain⟨d1,d2,E,F,B,C⟩:=r.need9 c;have t:=q.got;obtain⟨got,a⟩:=Nm m.got;obtain⟨s,i⟩:=Nm m.low;obtain⟨u,f⟩:=Nm m.high;obtain⟨n,j⟩:=Nm m.need;rw[a]at d t;rw[i]at d E F;rw[f]at d B C;rw[j]at d d1 d2;have K:w.cell? (G8 b 0)=some (R9 9):=by rw[<- c];exact(h.cell 0).1
 have f0:w.frozen? (G8 b 0)=false:=(h.cell 0).2;have c4:w.cell? (G8 b 4)=some (S9 got):=by rw[<- a];exact(h.cell 4).1
 have f4:w.frozen? (G8 b 4)=false:=(h.cell 4).2;have c5:w.cell? (G8 b 5)=some (R9 n):=by rw[<- j];exact(h.cell 5).1
 have f5:w.frozen? (G8 b 5)=false:=(h.cell 5).2;have L:w.cell? (G8 b 6)=some (.int .u8 s):=by rw[<- i];exact(h.cell 6).1
 have f6:w.frozen? (G8 b 6)=false:=(h.cell 6).2;have M:w.cell? (G8 b 7)=some (.int .u8 u):=by rw[<- f];exact(h.cell 7).1
 have f7:w.frozen? (G8 b 7)=false:=(h.cell 7).2
 by_cases hbad:x<s\/u<x
 ·rw[zb hbad]at d;subst d;clear h q r c a i f j
  by_cases hl:x<s
  all_goals
   go_enter func121,ntmps121;go_wp2;go_ret;exact⟨rfl,zf _ _,by simp⟩
 rw[za hbad]at d;have N:¬x<s:=λe=>hbad (.inl e);have P:¬u<x:=λe=>hbad (.inr e);have y:=λO:Obj=>zi (nbl w O) c4;have A:=λO:Obj=>((nbl w O).frozen (p:=G8 b 4) v).trans f4;have Q:=bR;have o:=(((h.store 4 (S9 (got++U.one x)) (m':={ m with got:=got++U.one x }) rfl rfl rfl).store 6 (.int .u8 128) (m':={ m with got:=got++U.one x,low:=128 }) rfl rfl rfl).store 7 (.int .u8 191) (m':={ m with got:=got++U.one x,low:=128,high:=191 }) rfl rfl rfl).store 5 (R9 (n-1)) (m':={ m with got:=got++U.one x,low:=128,high:=191,need:=n-1 }) rfl rfl rfl
 by_cases hz:n-1=0
 ·rw[zb hz]at d;subst d;have z:(n-1==0)=true:=by simp[hz]
  have l:=G7 (o.store 0 (R9 8) (m':={ m with got:=got++U.one x,low:=128,high:=191,need:=n-1,state:=8 }) rfl rfl rfl)
  clear h q r c a i f j hbad o hz;go_enter func121,ntmps121;go_wp2_with fail;go_region
  all_goals
   go_wp2;go_ret;exact⟨rfl,(((((((E9).setCell k.o _).setCell k.o _).setCell k.o _).setCell k.o _).setCell k.o _).alloc (by simp[World.setCell];omega) _).drew,λ_=>⟨_,_,_,(l.below (nbl _ _)).drew⟩⟩
 rw[za hz]at d;rw[<- c]at d;subst d;have z:(n-1==0)=false:=by simp[hz]
 have l:=G7 o;clear h q r c a i f j hbad o hz;go_enter func121,ntmps121;go_wp2_with fail;go_region
 all_goals
  go_wp2;go_ret;exact⟨rfl,((((((E9).setCell k.o _).setCell k.o _).setCell k.o _).setCell k.o _).alloc (by simp[World.setCell];omega) _).drew,λ_=>⟨_,_,_,(l.below (nbl _ _)).drew⟩⟩
theorem zee(m:U.zl)(x:Int)(base b:Nat)(t s:Y)(u:List (Y×Y))(w:J)(h:zW w base b m t s u)(n:Small m)(o:0<=x)(p:x<=255)(c:Int)(i:m.state=c)(F:1<=c)(G:c<7):R8 121 #[RG b 0,.int .u8 x] w (Stepped base b (U.step m x) w):=by
 obtain⟨R,d⟩:=Nm (U.step m x);rw[d];rw[U.Y0 m x (by omega),i]at d;have y:=G7 h.hb;have E:w.cell? (G8 b 0)=some (R9 c):=by rw[<- i];exact(h.cell 0).1
 have f0:w.frozen? (G8 b 0)=false:=(h.cell 0).2;have O:(c==8)=false:=by simp;omega
 have P:(c==9)=false:=by simp;omega
 have C:(c==10)=false:=by simp;omega
 have D:(c==11)=false:=by simp;omega
 have N:(c==7)=false:=by simp;omega
 have r:=G7 h;have z:=G7 n
 cases hbl:U.YG x with
 | true=>
  rw[zb hbl]at d;subst d;have g:=G7 hbl;clear h n hbl;go_enter func121,ntmps121;go_wp2_with fail;apply(VT x true _ o p g).mono;rintro e q⟨rfl,rfl⟩;go_wp2;go_ret;exact⟨rfl,zf _ _,λ_=>⟨_,_,_,r⟩⟩
 | false=>
  rw[za (by simp[hbl])]at d;have g:=G7 hbl;clear hbl
  by_cases h65:c=6\/c=5
  ·rw[zb h65]at d;subst d
   have l:(c==6)=true\/(c==6)=false/\(c==5)=true:=by
    rcases h65 with e|e
    ·exact .inl (by simp[e])
    exact .inr ⟨by simp[e],by simp[e]⟩
   clear h n i h65
   rcases l with a|⟨a,a2⟩
   all_goals
    go_enter func121,ntmps121;go_wp2_with fail;apply(VT x false _ o p g).mono;rintro e q⟨rfl,rfl⟩;go_wp2_with fail;apply(GZ m x base b t s u _ r z).mono;rintro e B⟨rfl,k,f⟩;have j:=G7 f;clear f;go_wp2;go_ret;exact⟨rfl,k,j⟩
  rw[za h65]at d;have M:(c==6)=false:=by simp;omega
  have L:(c==5)=false:=by simp;omega
  by_cases hend:(c=2/\x=93)\/(c=3/\x=125)
  ·rw[zb hend]at d;subst d
   have l:((c==2)=true/\(x==93)=true)\/(c==2)=false/\(c==3)=true/\(x==125)=true:=by
    rcases hend with⟨e,e2⟩|⟨e,e2⟩
    ·exact .inl ⟨by simp[e],by simp[e2]⟩
    exact .inr ⟨by simp[e],by simp[e],by simp[e2]⟩
   clear h n i h65 hend
   rcases l with⟨a,a2⟩|⟨a,a2,a3⟩
   all_goals
    go_enter func121,ntmps121;go_wp2_with fail;apply(VT x false _ o p g).mono;rintro e q⟨rfl,rfl⟩;go_wp2_with fail;apply(Ap m x base b t s u _ r z).mono;rintro e B⟨rfl,k,f⟩;have j:=G7 f;clear f;go_wp2;go_ret;exact⟨rfl,k,j⟩
  rw[za hend]at d
  by_cases h34:c=3\/c=4
  ·rw[zb h34]at d;have H:(c==2)=false:=by simp;omega
   have l:((c==3)=true/\(x==125)=false)\/(c==3)=false/\(c==4)=true:=by
    rcases h34 with e|e
    ·exact .inl ⟨by simp[e],by simp;omega⟩
    exact .inr ⟨by simp[e],by simp[e]⟩
   by_cases hx:x=34
   ·rw[za (λe=>e hx)]at d;subst d;have A:(x != 34)=false:=by simp[hx]
    have c3:w.cell? (G8 b 3)=some (.bool m.named):=(h.cell 3).1;have f3:w.frozen? (G8 b 3)=false:=(h.cell 3).2;have c4:w.cell? (G8 b 4)=some (S9 m.got):=(h.cell 4).1;have f4:w.frozen? (G8 b 4)=false:=(h.cell 4).2;have v:=G7 (((h.store 0 (R9 8) (m':={ m with state:=8 }) rfl rfl rfl).store 3 L6 (m':={ m with state:=8,named:=true }) rfl rfl rfl).store 4 R5 (m':={ m with state:=8,named:=true,got:=⟨#[]⟩ }) rfl rfl rfl)
    clear h n i h65 hend h34 hx
    rcases l with⟨a,a2⟩|⟨a,a2⟩
    all_goals
     go_enter func121,ntmps121;go_wp2_with fail;apply(VT x false _ o p g).mono;rintro e q⟨rfl,rfl⟩;go_wp2;go_ret;exact⟨rfl,(((E9).setCell y.o _).setCell y.o _).setCell y.o _,λ_=>⟨_,_,_,v⟩⟩
   rw[zb hx]at d;subst d;have A:(x != 34)=true:=by simp[hx]
   clear h n i h65 hend h34 hx
   rcases l with⟨a,a2⟩|⟨a,a2⟩
   all_goals
    go_enter func121,ntmps121;go_wp2_with fail;apply(VT x false _ o p g).mono;rintro e q⟨rfl,rfl⟩;go_wp2;go_ret;exact⟨rfl,zf _ _,by simp⟩
  rw[za h34]at d;subst d;have I:(c==3)=false:=by simp;omega
  have K:(c==4)=false:=by simp;omega
  have l:(c==2)=false\/(c==2)=true/\(x==93)=false:=by
   by_cases e:c=2
   ·exact .inr ⟨by simp[e],by simp;omega⟩
   exact .inl (by simp[e])
  clear h n i h65 hend h34
  rcases l with a|⟨a,a2⟩
  all_goals
   go_enter func121,ntmps121;go_wp2_with fail;apply(VT x false _ o p g).mono;rintro e q⟨rfl,rfl⟩;go_wp2_with fail;apply(Lh m x base b t s u _ r z).mono;rintro e B⟨rfl,k,f⟩;have j:=G7 f;clear f;go_wp2;go_ret;exact⟨rfl,k,j⟩
theorem zd7(m:U.zl)(x:Int)(base b:Nat)(d c:Y)(e:List (Y×Y))(w:J)(h:zW w base b m d c e)(g:Small m)(a:U.Wf m)(i:0<=x)(j:x<=255):R8 121 #[RG b 0,.int .u8 x] w (Stepped base b (U.step m x) w):=by
 have f:=a.lo;have k:=a.hi
 by_cases h7:m.state<7
 ·exact zee m x base b d c e w h g i j m.state rfl f h7
 by_cases h7':m.state=7
 ·exact zep m x base b d c e w h a h7'
 by_cases h9:m.state=9
 ·exact oC m x base b d c e w h g a h9
 exact zed m x base b d c e w h g a i j (by omega)
theorem Small.of{n:Nat}{m:U.zl}(h:U.Bnd n m)(g:n<=4000):Small m:=by
 have c:=h.nodes;have e:=h.opn;have f:=h.got;refine⟨by omega,by omega,λd a=>?_,λd a=>?_,by omega,h.top⟩
 ·obtain⟨i,b⟩:=Q8 a;have:=h.kids i d b;omega
 obtain⟨i,b⟩:=Q8 a;have:=h.kids i d b;omega
def qX(a:BY):Int×Nat×U.zl:=
 if 4000<a.size then (1,0,U.init)
 else if (U.run U.init a.data.toList 0).1≠0 then U.run U.init a.data.toList 0
 else if (U.run U.init a.data.toList 0).2.2.state≠6\/(U.run U.init a.data.toList 0).2.2.opn≠[] then (2,a.size,U.init)
 else (0,0,(U.run U.init a.data.toList 0).2.2)
theorem lX:U.Wf U.init:=⟨by decide,by decide,by decide,by decide,by decide,by decide,by decide,by decide⟩
theorem lW:U.Bnd 0 U.init:=⟨by decide,by decide,λi d a=>by simp[U.init]at a,by decide,λo b=>by simp[U.init]at b⟩
theorem zc8(a:BY)(k:Nat)(c:k<a.size)(m:U.zl)(b:(U.step m (a[k].toNat:Int)).1=0):U.run m (a.data.toList.drop k) k=U.run (U.step m (a[k].toNat:Int)).2 (a.data.toList.drop (k+1)) (k+1):=by
 rw[jD (by rw[U.zF];exact c),U.run];exact zb b
theorem zc9(a:BY)(k:Nat)(c:k<a.size)(m:U.zl)(b:(U.step m (a[k].toNat:Int)).1≠0):U.run m (a.data.toList.drop k) k=((U.step m (a[k].toNat:Int)).1,k,m):=by
 rw[jD (by rw[U.zF];exact c),U.run];exact za b
theorem run_end(a:BY)(k:Nat)(b:¬k<a.size)(m:U.zl):U.run m (a.data.toList.drop k) k=(0,k,m):=by
 rw[Yw (by rw[U.zF];omega),U.run]
theorem zcS(f:BY)(w:J)(ht:f.size<=maxLen):R8 71 #[S9 f] w λe w'=>∃p,e=.returned (.tuple #[.pointer p,R9 (qX f).1,R9 ((qX f).2.1:Nat)])/\BQ w w' /\
   ((qX f).1=0->∃b T V W,p=some (G8 b 0)/\zW w' w.heap.size b (qX f).2.2 T V W/\U.Bnd 4000 (qX f).2.2):=by
 unfold maxLen at ht;obtain⟨R,E⟩:=Nm (qX f);rw[E];unfold qX at E
 by_cases hlong:4000<f.size
 ·rw[zb hlong]at E;subst E;go_enter func71,ntmps71;go_wp2;go_ret3;exact⟨_,rfl,zf _ _,by simp⟩
 rw[za hlong]at E;have hl:decide (4000<(f.size:Int))=false:=by simp;omega
 obtain⟨Q,hQ⟩:=Nm (U.run U.init f.data.toList 0);rw[hQ]at E;have⟨H,HQ⟩:=D5 E hQ;clear E hQ
 have y:G6 (zW (w.alloc (L8 #[R9 1,R4,R4,T9,R5,R9 0,.int .u8 0,.int .u8 0,R9 0,R5,R9 0] 168)) w.heap.size w.heap.size U.init R4 R4 []):=
  ⟨ze _,zA w _,qF _ _ _ _,qF _ _ _ _,rfl,λi n v hi=>by simp[U.init]at hi,λi n v hi=>by simp[U.init]at hi,λi v g S=>by simp at S,λi j v v' g S=>by simp at S,λi j v v' g S=>by simp at S⟩
 go_enter func71,ntmps71;go_wp2
 go_loopw [6] (λiv wr=>∃(k:Nat) (m:U.zl) (T V:Y) (W:List (Y×Y)),k<=f.size/\iv=R9 k/\Q=U.run m (f.data.toList.drop k) k/\U.Wf m/\U.Bnd k m/\zW wr w.heap.size w.heap.size m T V W/\BQ w wr) (λiv _=>f.size-(intOf iv).toNat)
 case atStart=>exact⟨0,U.init,_,_,_,by omega,rfl,by rw[<- HQ.o];rfl,lX,lW,y,nbl _ _⟩
 case round=>
  obtain⟨k,m,T,V,W,hk,rfl,hq,hw,F,hm,l⟩:=hrel;have⟨s,I,o,z⟩:=M5 hq hw F hm;clear hq hw F hm HQ y
  by_cases hlt:k<f.size
  ·go_wp2_with fail;apply(zd7 m _ _ _ _ _ _ _ z (Small.of o (by omega)) I (U.b0 _) (U.ig _)).mono;rintro e w1⟨rfl,K,M⟩;have C:BQ w w1:=l.trans K
   by_cases he:(U.step m (f[k].toNat:Int)).1=0
   ·have X:=G7 (M he);have h:=s.o;rw[zc8 f k hlt m he]at h;have a0:=G7 h;have a1:=G7 (U.oH I _ he);have G:=G7 (U.oz o _ he);have L:((U.step m (f[k].toNat:Int)).1 != 0)=false:=by simp[he]
    obtain⟨r,x⟩:=Nm ((U.step m (f[k].toNat:Int)).1);rw[x]at L;rw[x];clear M K h he l z s I o x H;go_wp2;go_roundw
    case rel=>
     obtain⟨a8,a7,a9,a2⟩:=X.o;exact⟨k+1,_,a8,a7,a9,by omega,by go_num,a0,a1,G,a2,C⟩
    case measure=>simp[intOf];omega
   have h:=s.o;rw[zc9 f k hlt m he]at h;have x:=H.o;rw[h,zb he]at x;have L:((U.step m (f[k].toNat:Int)).1 != 0)=true:=by simp[he]
   obtain⟨r,N⟩:=Nm ((U.step m (f[k].toNat:Int)).1);rw[N]at L he x;rw[N];have HE:=G7 he;subst x;clear M K h he l z s I o N H;go_wp2;go_ret3;exact⟨_,rfl,C,λe=>absurd e HE⟩
  have h:=s.o;rw[run_end f k hlt m]at h;have x:=H.o;rw[h,za (by simp)]at x;simp only at x;have t:=z.ownO;obtain⟨q,u⟩:=Nm m.opn.length;rw[u]at t
  obtain⟨ao,oc,rfl⟩:∃a c,T=TL a q c:=by
   rcases t.2 with⟨rfl,rfl⟩|⟨g,c,cur,rfl,_⟩
   ·exact⟨_,_,rfl⟩
   exact⟨_,_,rfl⟩
  have c0:wr.cell? (R6 w 0)=some (R9 m.state):=(z.cell 0).1;have c1:wr.cell? (R6 w 1)=some (TL ao q oc):=(z.cell 1).1;have a5:=o.opn;rw[u]at a5;obtain⟨B,A⟩:=Nm m.state;rw[A]at c0 x
  have G:G6 (U.Bnd 4000 m):=by
   have F:=o.o;have h1:=F.nodes;have h2:=F.opn;have h3:=F.got;exact⟨by omega,by omega,λi d hd=>by have:=F.kids i d hd;omega,by omega,F.top⟩
  by_cases hc:B≠6\/m.opn≠[]
  ·rw[zb hc]at x;subst x
   by_cases D:B=6
   ·have O:(B != 6)=false:=by simp[D]
    have P:0<q:=by rw[<- u];exact List.length_pos_iff.2 (hc.resolve_left (λe=>e D))
    have c2:decide (0<(q:Int))=true:=by simp;omega
    clear h z s I o H t u A hc D;go_wp2;go_ret3
    first|exact l|exact⟨⟨_,rfl⟩,l⟩
   have O:(B != 6)=true:=by simp[D]
   clear h z s I o H t u A hc D;go_wp2;go_ret3
   first|exact l|exact⟨⟨_,rfl⟩,l⟩
  rw[za hc]at x;subst x
  have D:B=6:=by
   by_cases e:B=6
   ·exact e
   exact absurd (.inl e) hc
  have P:q=0:=by
   have:m.opn=[]:=by
    by_cases e:m.opn=[]
    ·exact e
    exact absurd (.inr e) hc
   rw[<- u,this];rfl
  have O:(B != 6)=false:=by simp[D]
  clear h s I o H t u A hc D;subst P;go_wp2;go_ret3;exact⟨_,rfl,l,⟨_,rfl,⟨_,_,_,z⟩,G⟩⟩
end Go.Proofs.YtfjpcldndaiifaaGreatDoor
