/- P -/
import Derived.Test.YtagnlbgbnfnapaaGreatDoorK35
open Go.Proofs.Tryz
set_option maxRecDepth 100000
set_option maxHeartbeats 2000000
namespace Go.Proofs.YtagnlbgbnfnapaaGreatDoor
open Go.RowKit
attribute [local go_sem ↓] Go.wp_at_zero Go.wp_at_succ
theorem V5(w:World)(x:Int)(t:TypeId)(c:Nat):(convert 181 9 (.slice (some ⟨w.heap.size,0,none⟩) 1 c)).run prog (w.alloc (.cells #[.int .u8 x] t)).drew = .ok (.string ⟨#[UInt8.ofNat x.toNat]⟩) (w.alloc (.cells #[.int .u8 x] t)).drew:=by
 rw[UK _ _ _ _ _ _ _ underlying181 underlying5 underlying9];rw[dx _ _ _ _ [x] (by simp[loadCells,go_sem])]
 rfl
theorem Cv(w:World)(a b d:Addr)(f g i:Value)(x:Int)(t:TypeId)(c:Nat):(convert 181 9 (.slice (some ⟨w.heap.size,0,none⟩) 1 c)).run prog ((((w.setCell a f).setCell b g).setCell d i).alloc (.cells #[.int .u8 x] t)).drew =
  .ok (.string ⟨#[UInt8.ofNat x.toNat]⟩) ((((w.setCell a f).setCell b g).setCell d i).alloc (.cells #[.int .u8 x] t)).drew:=by
 have h:=V5 (((w.setCell a f).setCell b g).setCell d i) x t c;have e:(((w.setCell a f).setCell b g).setCell d i).heap.size=w.heap.size:=by simp[World.setCell]
 rw[e] at h;exact h
theorem Cu(w:World)(a:Addr)(b:Value)(x:Int)(t:TypeId)(c:Nat):(convert 181 9 (.slice (some ⟨w.heap.size,0,none⟩) 1 c)).run prog ((w.setCell a b).alloc (.cells #[.int .u8 x] t)).drew =
  .ok (.string ⟨#[UInt8.ofNat x.toNat]⟩) ((w.setCell a b).alloc (.cells #[.int .u8 x] t)).drew:=by
 have h:=V5 (w.setCell a b) x t c;have e:(w.setCell a b).heap.size=w.heap.size:=by simp[World.setCell]
 rw[e] at h;exact h
theorem NB(m:Ref.zl)(x:Int)(base b:Nat)(D C:Value)(E:List (Value×Value))(w:World)(h:zP w base b m D C E)(j:Small m)(c:m.named=true->m.opn≠[])(F:0<=x)(G:x<=255) :
  Calls prog 204 #[.pointer (some ⟨b,0,none⟩),.int .u8 x] w (Stepped base b (Ref.plain m x) w):=by
 obtain⟨R,a⟩:=Nm (Ref.plain m x);rw[a];unfold Ref.plain at a;have i:=hid h.hb;have B:b<w.heap.size:=zy h.blk;have J:w.cell? ⟨b,0,none⟩=some (.int .i64 m.state):=(h.cell 0).1;have L:w.frozen? ⟨b,0,none⟩=false:=(h.cell 0).2;have c4:w.cell? ⟨b,4,none⟩=some (.string m.got):=(h.cell 4).1;have z:w.frozen? ⟨b,4,none⟩=false:=(h.cell 4).2;have r:=j.got
 by_cases h34:x=34
 ·rw[zb h34] at a;subst a;have u:(x==34)=true:=by simp[h34]
  have H:=hid h;have I:=hid j;have o:=hid c;clear h j c h34 J L c4 z;go_enter func204,ntmps204;go_wp2_with fail;refine (BH m base b D C E _ H.out I.out o.out).mono ?_;rintro e w1 ⟨rfl,q,k⟩;have l:=hid k;clear k
  go_wp2
  go_ret;exact⟨rfl,q,l.out⟩
 rw[za h34] at a;have u:(x==34)=false:=by simp[h34]
 by_cases h92:x=92
 ·rw[zb h92] at a;subst a;have v:(x==92)=true:=by simp[h92]
  have f:=hid (h.store 0 (.int .i64 10) (m':={ m with state:=10 }) rfl rfl rfl)
  clear h j c h34 h92;go_enter func204,ntmps204
  go_wp2
  go_ret;exact⟨rfl,(zf _ w).setCell i.out _,λ_=>⟨_,_,_,f.out⟩⟩
 rw[za h92] at a;have v:(x==92)=false:=by simp[h92]
 by_cases h32:x<32
 ·rw[zb h32] at a;subst a;clear h j c h34 h92;go_enter func204,ntmps204
  go_wp2
  go_ret;exact⟨rfl,zf _ w,by simp⟩
 rw[za h32] at a;have V:=V5;have W:=Cv;obtain⟨got,d⟩:∃g,m.got=g:=⟨_,rfl⟩;rw[d] at c4 r a;have K:=λO:Obj=>zi (nbl w O) c4;have M:=λO:Obj=>((nbl w O).frozen (p:=⟨b,4,none⟩) B).trans z;have N:base<=w.heap.size:=qZ i.out (XP B)
 by_cases h128:x<128
 ·rw[zb h128] at a;subst a;have f:=hid (h.store 4 (.string (got++Ref.one x)) (m':={ m with got:=got++Ref.one x }) rfl rfl rfl)
  clear h j c h34 h92 d;go_enter func204,ntmps204;go_wp2_with fail
  go_region
  all_goals
   go_wp2
   go_ret;exact⟨rfl,((((zf _ w).setCell i.out _).alloc (by simp[World.setCell];omega) _)).drew,λ_=>⟨_,_,_,(f.out.below (nbl _ _)).drew⟩⟩
 rw[za h128] at a;obtain⟨n,lo,hi,s⟩:∃n lo hi,Ref.zT x=(n,lo,hi):=⟨_,_,_,rfl⟩;rw[s] at a;have y:=hid s;clear s
 by_cases hn:n=0
 ·rw[zb hn] at a;subst a;have t:(n==0)=true:=by simp[hn]
  clear h j c h34 h92 d hn;go_enter func204,ntmps204;go_wp2_with fail;refine (bz x n lo hi _ F G y.out).mono ?_;rintro e w1 ⟨rfl,rfl⟩
  go_wp2
  go_ret;exact⟨rfl,zf _ _,by simp⟩
 rw[za hn] at a;subst a;have t:(n==0)=false:=by simp[hn]
 have c5:w.cell? ⟨b,5,none⟩=some (.int .i64 m.need):=(h.cell 5).1;have S:w.frozen? ⟨b,5,none⟩=false:=(h.cell 5).2;have P:w.cell? ⟨b,6,none⟩=some (.int .u8 m.low):=(h.cell 6).1;have T:w.frozen? ⟨b,6,none⟩=false:=(h.cell 6).2;have Q:w.cell? ⟨b,7,none⟩=some (.int .u8 m.high):=(h.cell 7).1;have U:w.frozen? ⟨b,7,none⟩=false:=(h.cell 7).2;have A:=((h.store 5 (.int .i64 n) (m':={ m with need:=n }) rfl rfl rfl).store 6 (.int .u8 lo) (m':={ m with need:=n,low:=lo }) rfl rfl rfl).store 7 (.int .u8 hi) (m':={ m with need:=n,low:=lo,high:=hi }) rfl rfl rfl
 have f:=hid ((A.store 4 (.string (got++Ref.one x)) (m':={ m with need:=n,low:=lo,high:=hi,got:=got++Ref.one x }) rfl rfl rfl).store 0 (.int .i64 9) (m':={ m with need:=n,low:=lo,high:=hi,got:=got++Ref.one x,state:=9 }) rfl rfl rfl)
 clear h j c h34 h92 d hn A;go_enter func204,ntmps204;go_wp2_with fail;refine (bz x n lo hi _ F G y.out).mono ?_;rintro e w1 ⟨rfl,rfl⟩;go_wp2_with fail
 go_region
 all_goals
  go_wp2
  go_ret;exact⟨rfl,(((((((zf _ _).setCell i.out _).setCell i.out _).setCell i.out _).setCell i.out _).setCell i.out _).alloc (by simp[World.setCell];omega) _).drew,λ_=>⟨_,_,_,(f.out.below (nbl _ _)).drew⟩⟩
attribute [local go_sem ↓] Go.wp_at_zero Go.wp_at_succ
theorem ED(m:Ref.zl)(x:Int)(base b:Nat)(E D:Value)(F:List (Value×Value))(w:World)(h:zP w base b m E D F)(j:Small m) :
  Calls prog 205 #[.pointer (some ⟨b,0,none⟩),.int .u8 x] w (Stepped base b (Ref.escape m x) w):=by
 obtain⟨R,c⟩:=Nm (Ref.escape m x);rw[c];unfold Ref.escape at c;have f:=hid h.hb;have C:b<w.heap.size:=zy h.blk;have B:base<=w.heap.size:=qZ f.out (XP C);have G:w.cell? ⟨b,0,none⟩=some (.int .i64 m.state):=(h.cell 0).1;have I:w.frozen? ⟨b,0,none⟩=false:=(h.cell 0).2;obtain⟨got,a⟩:∃g,m.got=g:=⟨_,rfl⟩;have c4:w.cell? ⟨b,4,none⟩=some (.string got):=by rw[<- a];exact (h.cell 4).1
 have J:w.frozen? ⟨b,4,none⟩=false:=(h.cell 4).2;have l:=j.got;rw[a] at l c;have i:=h.store 0 (.int .i64 8) (m':={ m with state:=8 }) rfl rfl rfl
 have v:(w.setCell ⟨b,0,none⟩ (.int .i64 8)).cell? ⟨b,4,none⟩=some (.string got):=by rw[<- a];exact (i.cell 4).1
 have z:(w.setCell ⟨b,0,none⟩ (.int .i64 8)).frozen? ⟨b,4,none⟩=false:=(i.cell 4).2;have o:b<(w.setCell ⟨b,0,none⟩ (.int .i64 8)).heap.size:=zy i.blk;have y:=λO:Obj=>zi ((zf _ (w.setCell ⟨b,0,none⟩ (.int .i64 8))).alloc (ze _) O) v;have A:=λO:Obj=>(((zf _ (w.setCell ⟨b,0,none⟩ (.int .i64 8))).alloc (ze _) O).frozen (p:=⟨b,4,none⟩) o).trans z;have M:=Cu
 by_cases h1:x=34\/x=92\/x=47
 ·rw[zb h1] at c;subst c;have d:=hid (i.store 4 (.string (got++Ref.one x)) (m':={ m with state:=8,got:=got++Ref.one x }) rfl rfl rfl)
  have n:(x==34)=true\/(x==34)=false/\(x==92)=true\/(x==34)=false/\(x==92)=false/\(x==47)=true:=by
   rcases h1 with e|e|e
   ·exact .inl (by simp[e])
   ·exact .inr (.inl ⟨by simp[e],by simp[e]⟩)
   ·exact .inr (.inr ⟨by simp[e],by simp[e],by simp[e]⟩)
  clear h j h1 a i
  rcases n with k|⟨k,q⟩|⟨k,q,r⟩
  all_goals
   go_enter func205,ntmps205;go_wp2_with fail
   go_region
  all_goals
   go_wp2
   go_ret;exact⟨rfl,((((zf _ _).setCell f.out _).setCell f.out _).alloc (by simp[World.setCell];omega) _).drew,λ_=>⟨_,_,_,(d.out.below (nbl _ _)).drew⟩⟩
 rw[za h1] at c;have k:(x==34)=false:=by simp;omega
 have q:(x==92)=false:=by simp;omega
 have r:(x==47)=false:=by simp;omega
 by_cases h2:x=110
 ·rw[zb h2] at c;subst c;have s:(x==110)=true:=by simp[h2]
  have d:=hid (i.store 4 (.string (got++Ref.one 10)) (m':={ m with state:=8,got:=got++Ref.one 10 }) rfl rfl rfl)
  clear h j h1 a i h2;go_enter func205,ntmps205
  go_wp2
  go_ret;exact⟨rfl,((zf _ _).setCell f.out _).setCell f.out _,λ_=>⟨_,_,_,d.out⟩⟩
 rw[za h2] at c;have s:(x==110)=false:=by simp[h2]
 by_cases h3:x=116
 ·rw[zb h3] at c;subst c;have t:(x==116)=true:=by simp[h3]
  have d:=hid (i.store 4 (.string (got++Ref.one 9)) (m':={ m with state:=8,got:=got++Ref.one 9 }) rfl rfl rfl)
  clear h j h1 a i h2 h3;go_enter func205,ntmps205
  go_wp2
  go_ret;exact⟨rfl,((zf _ _).setCell f.out _).setCell f.out _,λ_=>⟨_,_,_,d.out⟩⟩
 rw[za h3] at c;have t:(x==116)=false:=by simp[h3]
 by_cases h4:x=117
 ·rw[zb h4] at c;subst c;have u:(x==117)=true:=by simp[h4]
  have c5:w.cell? ⟨b,5,none⟩=some (.int .i64 m.need):=(h.cell 5).1;have K:w.frozen? ⟨b,5,none⟩=false:=(h.cell 5).2;have H:w.cell? ⟨b,8,none⟩=some (.int .i64 m.number):=(h.cell 8).1;have L:w.frozen? ⟨b,8,none⟩=false:=(h.cell 8).2;have fin:=(((i.store 0 (.int .i64 11) (m':={ m with state:=11 }) rfl rfl rfl).store 5 (.int .i64 4) (m':={ m with state:=11,need:=4 }) rfl rfl rfl).store 8 (.int .i64 0) (m':={ m with state:=11,need:=4,number:=0 }) rfl rfl rfl)
  rw[a] at fin;have d:=hid fin;clear fin;clear h j h1 a i h2 h3 h4;go_enter func205,ntmps205
  go_wp2
  go_ret;exact⟨rfl,((((zf _ _).setCell f.out _).setCell f.out _).setCell f.out _).setCell f.out _,λ_=>⟨_,_,_,d.out⟩⟩
 rw[za h4] at c;subst c;have u:(x==117)=false:=by simp[h4]
 clear h j h1 a i h2 h3 h4;go_enter func205,ntmps205
 go_wp2
 go_ret;exact⟨rfl,(zf _ _).setCell f.out _,by simp⟩
attribute [local go_sem ↓] Go.wp_at_zero Go.wp_at_succ
theorem Ga(b:Int):-1<=Ref.zL b/\Ref.zL b<=15:=by
 unfold Ref.zL
 split
 ·omega
 split
 ·omega
 split
 ·omega
 ·omega
theorem YW(b v:Int)(w:World)(a:0<=b)(c:b<=255)(d:Ref.zL b=v) :
  Calls prog 235 #[.int .u8 b] w λe w'=>e = .returned (.int .i64 v)/\w'=w:=by
 subst d;exact Gb b w a c
theorem Db(m:Ref.zl)(x:Int)(base b:Nat)(V U:Value)(Y:List (Value×Value))(w:World)(h:zP w base b m V U Y)(y:Small m)(q:0<=x)(r:x<=255)
  (S:0<=m.number)(T:m.number<=4095)(K:1<=m.need)(L:m.need<=4) :
  Calls prog 206 #[.pointer (some ⟨b,0,none⟩),.int .u8 x] w (Stepped base b (Ref.digit m x) w):=by
 obtain⟨R,c⟩:=Nm (Ref.digit m x);rw[c];unfold Ref.digit at c;have i:=hid h.hb;have Q:b<w.heap.size:=zy h.blk;have O:base<=w.heap.size:=qZ i.out (XP Q);have G:=Ga x;obtain⟨v,F⟩:=Nm (Ref.zL x);rw[F] at c G;have p:=hid F;clear F
 by_cases hneg:v<0
 ·rw[zb hneg] at c;subst c;clear h y;go_enter func206,ntmps206;go_wp2_with fail;refine (YW x v _ q r p.out).mono ?_;rintro e w1 ⟨rfl,rfl⟩
  go_wp2
  go_ret;exact⟨rfl,zf _ _,by simp⟩
 rw[za hneg] at c;obtain⟨num,f⟩:∃n,m.number=n:=⟨_,rfl⟩;obtain⟨need,a⟩:∃n,m.need=n:=⟨_,rfl⟩;rw[f] at c S T;rw[a] at c K L;have c8:w.cell? ⟨b,8,none⟩=some (.int .i64 num):=by rw[<- f];exact (h.cell 8).1
 have f8:w.frozen? ⟨b,8,none⟩=false:=(h.cell 8).2;have c5:w.cell? ⟨b,5,none⟩=some (.int .i64 need):=by rw[<- a];exact (h.cell 5).1
 have f5:w.frozen? ⟨b,5,none⟩=false:=(h.cell 5).2;have l:=(h.store 8 (.int .i64 (16*num+v)) (m':={ m with number:=16*num+v }) rfl rfl rfl).store 5 (.int .i64 (need-1)) (m':={ m with number:=16*num+v,need:=need-1 }) rfl rfl rfl
 by_cases hsur:need-1=2/\216<=16*num+v/\16*num+v<=223
 ·rw[zb hsur] at c;subst c;have C:(need-1==2)=true:=by simp;omega
  obtain⟨_,s2,s3⟩:=hsur;clear h y l f a;go_enter func206,ntmps206;go_wp2_with fail;refine (YW x v _ q r p.out).mono ?_;rintro e w1 ⟨rfl,rfl⟩
  go_wp2
  go_ret;exact⟨rfl,((zf _ _).setCell i.out _).setCell i.out _,by simp⟩
 rw[za hsur] at c
 by_cases hz:need-1=0
 ·rw[zb hz] at c;have C:(need-1==2)=false:=by simp;omega
  have M:(need-1==0)=true:=by simp;omega
  have E:=y.got;obtain⟨got,d⟩:∃g,m.got=g:=⟨_,rfl⟩;have H:((w.setCell ⟨b,8,none⟩ (.int .i64 (16*num+v))).setCell ⟨b,5,none⟩ (.int .i64 (need-1))).cell? ⟨b,4,none⟩=some (.string got):=by rw[<- d];exact (l.cell 4).1
  have N:((w.setCell ⟨b,8,none⟩ (.int .i64 (16*num+v))).setCell ⟨b,5,none⟩ (.int .i64 (need-1))).cell? ⟨b,8,none⟩=some (.int .i64 (16*num+v)):=(l.cell 8).1;have D:=hid l;have u:(Ref.enc (16*num+v)).size<=3:=by unfold Ref.enc Ref.one;split<;>(try split)<;>simp[ByteArray.size]
  obtain⟨s,o⟩:=Nm (Ref.enc (16*num+v));rw[o] at u c;rw[d] at c;subst c;have B:=hid o;have Z:=hid d;rw[d] at E;clear h y l f a hsur hz o d;go_enter func206,ntmps206;go_wp2_with fail;refine (YW x v _ q r p.out).mono ?_;rintro e w1 ⟨rfl,rfl⟩;go_wp2_with fail;have I:0<=16*num+v/\16*num+v<65536:=by omega
  go_region_with (go_at_call 236;refine (Ed _ _ I.1 I.2).mono ?_;rw[B.out];rintro e z ⟨rfl,t⟩;have A:=QL t;have k:=D.out.below A;have q4:z.cell? ⟨b,4,none⟩=some (.string got):=zi A H;have X:z.frozen? ⟨b,4,none⟩=false:=(k.cell 4).2)
  all_goals
   have q0:z.cell? ⟨b,0,none⟩=some (.int .i64 m.state):=(k.cell 0).1;have W:z.frozen? ⟨b,0,none⟩=false:=(k.cell 0).2;have j:=hid ((k.store 4 (.string (got++s)) (m':={ m with number:=16*num+v,need:=need-1,got:=got++s }) rfl rfl rfl).store 0 (.int .i64 8) (m':={ m with number:=16*num+v,need:=need-1,got:=got++s,state:=8 }) rfl rfl rfl)
   have J:Hid (Below base _ z):=(((zf base _).setCell i.out _).setCell i.out _).trans (A.mono (by simp[World.setCell];omega));clear k A t H N
   go_wp2
   go_ret;exact⟨rfl,(J.out.setCell i.out _).setCell i.out _,λ_=>⟨_,_,_,j.out⟩⟩
 rw[za hz] at c;subst c;have M:(need-1==0)=false:=by simp;omega
 have j:=hid l;clear h y l f a
 by_cases hd:need-1=2
 ·have C:(need-1==2)=true:=by simp[hd]
  by_cases hlo:216<=16*num+v
  ·have P:223<16*num+v:=by omega
   clear hsur hz hd;go_enter func206,ntmps206;go_wp2_with fail;refine (YW x v _ q r p.out).mono ?_;rintro e w1 ⟨rfl,rfl⟩
   go_wp2
   go_ret;exact⟨rfl,((zf _ _).setCell i.out _).setCell i.out _,λ_=>⟨_,_,_,j.out⟩⟩
  ·clear hsur hz hd;go_enter func206,ntmps206;go_wp2_with fail;refine (YW x v _ q r p.out).mono ?_;rintro e w1 ⟨rfl,rfl⟩
   go_wp2
   go_ret;exact⟨rfl,((zf _ _).setCell i.out _).setCell i.out _,λ_=>⟨_,_,_,j.out⟩⟩
 ·have C:(need-1==2)=false:=by simp[hd]
  clear hsur hz hd;go_enter func206,ntmps206;go_wp2_with fail;refine (YW x v _ q r p.out).mono ?_;rintro e w1 ⟨rfl,rfl⟩
  go_wp2
  go_ret;exact⟨rfl,((zf _ _).setCell i.out _).setCell i.out _,λ_=>⟨_,_,_,j.out⟩⟩
attribute [local go_sem ↓] Go.wp_at_zero Go.wp_at_succ
theorem YH(x:Int)(v:Bool)(w:World)(a:0<=x)(b:x<=255)(c:Ref.QM x=v) :
  Calls prog 207 #[.int .u8 x] w λe w'=>e = .returned (.bool v)/\w'=w:=by
 subst c;exact AR x w a b
theorem PP(m:Ref.zl)(x:Int)(base b:Nat)(l k:Value)(n:List (Value×Value))(w:World)(h:zP w base b m l k n)(i:Small m)(j:Ref.Wf m)(s:0<=x)(t:x<=255)(q:m.state=8\/m.state=10\/m.state=11) :
  Calls prog 167 #[.pointer (some ⟨b,0,none⟩),.int .u8 x] w (Stepped base b (Ref.step m x) w):=by
 have o:=hid h;have p:=hid i;have g:=hid j
 rcases q with h8|h8|h8
 ·rw[Ref.Q6 m x h8];have r:w.cell? ⟨b,0,none⟩=some (.int .i64 8):=by rw[<- h8];exact (h.cell 0).1
  have f:=hid h8;clear h i j h8;go_enter func167,ntmps167;go_wp2_with fail;refine (NB m x base b l k n _ o.out p.out (g.out.named (by rw[f.out];decide)) s t).mono ?_;rintro e w1 ⟨rfl,d,a⟩;have c:=hid a;clear a
  go_wp2
  go_ret;exact⟨rfl,d,c.out⟩
 ·rw[Ref.Y9 m x h8];have r:w.cell? ⟨b,0,none⟩=some (.int .i64 10):=by rw[<- h8];exact (h.cell 0).1
  have f:=hid h8;clear h i j h8;go_enter func167,ntmps167;go_wp2_with fail;refine (ED m x base b l k n _ o.out p.out).mono ?_;rintro e w1 ⟨rfl,d,a⟩;have c:=hid a;clear a
  go_wp2
  go_ret;exact⟨rfl,d,c.out⟩
 ·rw[Ref.Ja m x h8];have r:w.cell? ⟨b,0,none⟩=some (.int .i64 11):=by rw[<- h8];exact (h.cell 0).1
  have f:=hid h8;clear h i j h8;go_enter func167,ntmps167;go_wp2_with fail;refine (Db m x base b l k n _ o.out p.out s t (g.out.need11 f.out).2.2.1 (g.out.need11 f.out).2.2.2.1 (g.out.need11 f.out).1 (g.out.need11 f.out).2.1).mono ?_;rintro e w1 ⟨rfl,d,a⟩;have c:=hid a;clear a
  go_wp2
  go_ret;exact⟨rfl,d,c.out⟩
theorem Ra(m:Ref.zl)(x:Int)(base b:Nat)(t s:Value)(u:List (Value×Value))(w:World)(h:zP w base b m t s u)(l:Ref.Wf m)(c:m.state=7) :
  Calls prog 167 #[.pointer (some ⟨b,0,none⟩),.int .u8 x] w (Stepped base b (Ref.step m x) w):=by
 obtain⟨R,d⟩:=Nm (Ref.step m x);rw[d];rw[Ref.Jb m x c] at d;have n:=hid h.hb;have j:=l.word c;have p:=l.small;obtain⟨a,f⟩:∃g,m.word=g:=⟨_,rfl⟩;rw[f] at d j p;have y:w.cell? ⟨b,0,none⟩=some (.int .i64 7):=by rw[<- c];exact (h.cell 0).1
 have A:w.frozen? ⟨b,0,none⟩=false:=(h.cell 0).2;have z:w.cell? ⟨b,9,none⟩=some (.string a):=by rw[<- f];exact (h.cell 9).1
 have B:w.frozen? ⟨b,9,none⟩=false:=(h.cell 9).2;rw[Ref.getD_at a 0 j] at d;have r:0<a.size:=j
 by_cases hx:x=(a[0].toNat:Int)
 ·rw[za (λe=>e hx)] at d;have q:(x != (a[0].toNat:Int))=false:=by simp[hx]
  have v:=hid hx;clear hx
  by_cases h1:a.size=1
  ·rw[zb h1] at d;subst d
   have k:(a.extract 1 a.size).toList.isEmpty=true:=by
    have:(a.extract 1 a.size).size=0:=by rw[jI];omega
    rw[List.isEmpty_iff];apply Kg;rw[Xc,Ref.zA];exact this
   have i:=hid ((h.store 9 (.string (a.extract 1 a.size)) (m':={ m with word:=a.extract 1 a.size }) rfl rfl rfl).store 0 (.int .i64 6) (m':={ m with word:=a.extract 1 a.size,state:=6 }) rfl rfl rfl)
   clear h l c f h1;go_enter func167,ntmps167
   go_wp2
   go_ret;exact⟨rfl,((zf _ _).setCell n.out _).setCell n.out _,λ_=>⟨_,_,_,i.out⟩⟩
  ·rw[za h1] at d;rw[<- c] at d;subst d
   have k:(a.extract 1 a.size).toList.isEmpty=false:=by
    have o:(a.extract 1 a.size).size≠0:=by rw[jI];omega
    rw[List.isEmpty_eq_false_iff];intro e;apply o;rw[<- Ref.zA,<- Xc,e];rfl
   have i:=hid (h.store 9 (.string (a.extract 1 a.size)) (m':={ m with word:=a.extract 1 a.size }) rfl rfl rfl)
   clear h l c f;go_enter func167,ntmps167
   go_wp2
   go_ret;exact⟨rfl,(zf _ _).setCell n.out _,λ_=>⟨_,_,_,i.out⟩⟩
 ·rw[zb hx] at d;subst d;have q:(x != (a[0].toNat:Int))=true:=by simp[hx]
  clear h l c f hx;go_enter func167,ntmps167
  go_wp2
  go_ret;exact⟨rfl,zf _ _,by simp⟩
theorem dH(m:Ref.zl)(x:Int)(base b:Nat)(I H:Value)(J:List (Value×Value))(w:World)(h:zP w base b m I H J)(q:Small m)(r:Ref.Wf m)(c:m.state=9) :
  Calls prog 167 #[.pointer (some ⟨b,0,none⟩),.int .u8 x] w (Stepped base b (Ref.step m x) w):=by
 obtain⟨R,d⟩:=Nm (Ref.step m x);rw[d];rw[Ref.Yl m x c] at d;have k:=hid h.hb;have t:b<w.heap.size:=zy h.blk;have E:base<=w.heap.size:=qZ k.out (XP t);obtain⟨v,y,F,G,C,D⟩:=r.need9 c;have s:=q.got;obtain⟨got,a⟩:∃g,m.got=g:=⟨_,rfl⟩;obtain⟨lo,i⟩:∃g,m.low=g:=⟨_,rfl⟩;obtain⟨hi,f⟩:∃g,m.high=g:=⟨_,rfl⟩;obtain⟨n,j⟩:∃g,m.need=g:=⟨_,rfl⟩;rw[a] at d s;rw[i] at d F G;rw[f] at d C D;rw[j] at d v y;have K:w.cell? ⟨b,0,none⟩=some (.int .i64 9):=by rw[<- c];exact (h.cell 0).1
 have Q:w.frozen? ⟨b,0,none⟩=false:=(h.cell 0).2;have c4:w.cell? ⟨b,4,none⟩=some (.string got):=by rw[<- a];exact (h.cell 4).1
 have A:w.frozen? ⟨b,4,none⟩=false:=(h.cell 4).2;have c5:w.cell? ⟨b,5,none⟩=some (.int .i64 n):=by rw[<- j];exact (h.cell 5).1
 have S:w.frozen? ⟨b,5,none⟩=false:=(h.cell 5).2;have L:w.cell? ⟨b,6,none⟩=some (.int .u8 lo):=by rw[<- i];exact (h.cell 6).1
 have T:w.frozen? ⟨b,6,none⟩=false:=(h.cell 6).2;have M:w.cell? ⟨b,7,none⟩=some (.int .u8 hi):=by rw[<- f];exact (h.cell 7).1
 have U:w.frozen? ⟨b,7,none⟩=false:=(h.cell 7).2
 by_cases hbad:x<lo\/hi<x
 ·rw[zb hbad] at d;subst d;clear h q r c a i f j
  by_cases hl:x<lo
  all_goals
   go_enter func167,ntmps167
   go_wp2
   go_ret;exact⟨rfl,zf _ _,by simp⟩
 rw[za hbad] at d;have N:¬x<lo:=λe=>hbad (.inl e);have P:¬hi<x:=λe=>hbad (.inr e);have u:=λO:Obj=>zi (nbl w O) c4;have B:=λO:Obj=>((nbl w O).frozen (p:=⟨b,4,none⟩) t).trans A;have V:=V5;have o:=(((h.store 4 (.string (got++Ref.one x)) (m':={ m with got:=got++Ref.one x }) rfl rfl rfl).store 6 (.int .u8 128) (m':={ m with got:=got++Ref.one x,low:=128 }) rfl rfl rfl).store 7 (.int .u8 191) (m':={ m with got:=got++Ref.one x,low:=128,high:=191 }) rfl rfl rfl).store 5 (.int .i64 (n-1)) (m':={ m with got:=got++Ref.one x,low:=128,high:=191,need:=n-1 }) rfl rfl rfl
 by_cases hz:n-1=0
 ·rw[zb hz] at d;subst d;have z:(n-1==0)=true:=by simp[hz]
  have l:=hid (o.store 0 (.int .i64 8) (m':={ m with got:=got++Ref.one x,low:=128,high:=191,need:=n-1,state:=8 }) rfl rfl rfl)
  clear h q r c a i f j hbad o hz;go_enter func167,ntmps167;go_wp2_with fail
  go_region
  all_goals
   go_wp2
   go_ret;exact⟨rfl,(((((((zf _ _).setCell k.out _).setCell k.out _).setCell k.out _).setCell k.out _).setCell k.out _).alloc (by simp[World.setCell];omega) _).drew,λ_=>⟨_,_,_,(l.out.below (nbl _ _)).drew⟩⟩
 ·rw[za hz] at d;rw[<- c] at d;subst d;have z:(n-1==0)=false:=by simp[hz]
  have l:=hid o;clear h q r c a i f j hbad o hz;go_enter func167,ntmps167;go_wp2_with fail
  go_region
  all_goals
   go_wp2
   go_ret;exact⟨rfl,((((((zf _ _).setCell k.out _).setCell k.out _).setCell k.out _).setCell k.out _).alloc (by simp[World.setCell];omega) _).drew,λ_=>⟨_,_,_,(l.out.below (nbl _ _)).drew⟩⟩
theorem PQ(m:Ref.zl)(x:Int)(base b:Nat)(q p:Value)(r:List (Value×Value))(w:World)(h:zP w base b m q p r)(k:Small m)(l:0<=x)(n:x<=255)(st:Int)(g:m.state=st)(F:1<=st)(G:st<7) :
  Calls prog 167 #[.pointer (some ⟨b,0,none⟩),.int .u8 x] w (Stepped base b (Ref.step m x) w):=by
 obtain⟨R,c⟩:=Nm (Ref.step m x);rw[c];rw[Ref.Q7 m x (by omega),g] at c;have t:=hid h.hb;have B:w.cell? ⟨b,0,none⟩=some (.int .i64 st):=by rw[<- g];exact (h.cell 0).1
 have C:w.frozen? ⟨b,0,none⟩=false:=(h.cell 0).2;have N:(st==8)=false:=by simp;omega
 have O:(st==9)=false:=by simp;omega
 have z:(st==10)=false:=by simp;omega
 have A:(st==11)=false:=by simp;omega
 have M:(st==7)=false:=by simp;omega
 have o:=hid h;have u:=hid k
 cases hbl:Ref.QM x with
 | true=>
  rw[zb hbl] at c;subst c;have f:=hid hbl;clear h k hbl;go_enter func167,ntmps167;go_wp2_with fail;refine (YH x true _ l n f.out).mono ?_;rintro e w1 ⟨rfl,rfl⟩
  go_wp2
  go_ret;exact⟨rfl,zf _ _,λ_=>⟨_,_,_,o.out⟩⟩
 | false=>
  rw[za (by simp[hbl])] at c;have f:=hid hbl;clear hbl
  by_cases h65:st=6\/st=5
  ·rw[zb h65] at c;subst c
   have hb:(st==6)=true\/(st==6)=false/\(st==5)=true:=by
    rcases h65 with e|e
    ·exact .inl (by simp[e])
    ·exact .inr ⟨by simp[e],by simp[e]⟩
   clear h k g h65
   rcases hb with a|⟨a,a2⟩
   all_goals
    go_enter func167,ntmps167;go_wp2_with fail;refine (YH x false _ l n f.out).mono ?_;rintro e w1 ⟨rfl,rfl⟩;go_wp2_with fail;refine (wI m x base b q p r _ o.out u.out).mono ?_;rintro e y ⟨rfl,j,d⟩;have i:=hid d;clear d
    go_wp2
    go_ret;exact⟨rfl,j,i.out⟩
  rw[za h65] at c;have L:(st==6)=false:=by simp;omega
  have K:(st==5)=false:=by simp;omega
  by_cases hend:(st=2/\x=93)\/(st=3/\x=125)
  ·rw[zb hend] at c;subst c
   have hb:((st==2)=true/\(x==93)=true)\/(st==2)=false/\(st==3)=true/\(x==125)=true:=by
    rcases hend with ⟨e,e2⟩|⟨e,e2⟩
    ·exact .inl ⟨by simp[e],by simp[e2]⟩
    ·exact .inr ⟨by simp[e],by simp[e],by simp[e2]⟩
   clear h k g h65 hend
   rcases hb with ⟨a,a2⟩|⟨a,a2,a3⟩
   all_goals
    go_enter func167,ntmps167;go_wp2_with fail;refine (YH x false _ l n f.out).mono ?_;rintro e w1 ⟨rfl,rfl⟩;go_wp2_with fail;refine (lg m x base b q p r _ o.out u.out).mono ?_;rintro e y ⟨rfl,j,d⟩;have i:=hid d;clear d
    go_wp2
    go_ret;exact⟨rfl,j,i.out⟩
  rw[za hend] at c
  by_cases h34:st=3\/st=4
  ·rw[zb h34] at c;have H:(st==2)=false:=by simp;omega
   have hb:((st==3)=true/\(x==125)=false)\/(st==3)=false/\(st==4)=true:=by
    rcases h34 with e|e
    ·exact .inl ⟨by simp[e],by simp;omega⟩
    ·exact .inr ⟨by simp[e],by simp[e]⟩
   by_cases hx:x=34
   ·rw[za (λe=>e hx)] at c;subst c;have v:(x != 34)=false:=by simp[hx]
    have c3:w.cell? ⟨b,3,none⟩=some (.bool m.named):=(h.cell 3).1;have D:w.frozen? ⟨b,3,none⟩=false:=(h.cell 3).2;have c4:w.cell? ⟨b,4,none⟩=some (.string m.got):=(h.cell 4).1;have E:w.frozen? ⟨b,4,none⟩=false:=(h.cell 4).2;have s:=hid (((h.store 0 (.int .i64 8) (m':={ m with state:=8 }) rfl rfl rfl).store 3 (.bool true) (m':={ m with state:=8,named:=true }) rfl rfl rfl).store 4 (.string ⟨#[]⟩) (m':={ m with state:=8,named:=true,got:=⟨#[]⟩ }) rfl rfl rfl)
    clear h k g h65 hend h34 hx
    rcases hb with ⟨a,a2⟩|⟨a,a2⟩
    all_goals
     go_enter func167,ntmps167;go_wp2_with fail;refine (YH x false _ l n f.out).mono ?_;rintro e w1 ⟨rfl,rfl⟩
     go_wp2
     go_ret;exact⟨rfl,(((zf _ _).setCell t.out _).setCell t.out _).setCell t.out _,λ_=>⟨_,_,_,s.out⟩⟩
   ·rw[zb hx] at c;subst c;have v:(x != 34)=true:=by simp[hx]
    clear h k g h65 hend h34 hx
    rcases hb with ⟨a,a2⟩|⟨a,a2⟩
    all_goals
     go_enter func167,ntmps167;go_wp2_with fail;refine (YH x false _ l n f.out).mono ?_;rintro e w1 ⟨rfl,rfl⟩
     go_wp2
     go_ret;exact⟨rfl,zf _ _,by simp⟩
  rw[za h34] at c;subst c;have I:(st==3)=false:=by simp;omega
  have J:(st==4)=false:=by simp;omega
  have hb:(st==2)=false\/(st==2)=true/\(x==93)=false:=by
   by_cases e:st=2
   ·exact .inr ⟨by simp[e],by simp;omega⟩
   ·exact .inl (by simp[e])
  clear h k g h65 hend h34
  rcases hb with a|⟨a,a2⟩
  all_goals
   go_enter func167,ntmps167;go_wp2_with fail;refine (YH x false _ l n f.out).mono ?_;rintro e w1 ⟨rfl,rfl⟩;go_wp2_with fail;refine (Aw m x base b q p r _ o.out u.out).mono ?_;rintro e y ⟨rfl,j,d⟩;have i:=hid d;clear d
   go_wp2
   go_ret;exact⟨rfl,j,i.out⟩
theorem PL(m:Ref.zl)(x:Int)(base b:Nat)(d c:Value)(e:List (Value×Value))(w:World)(h:zP w base b m d c e)(g:Small m)(a:Ref.Wf m)(i:0<=x)(j:x<=255) :
  Calls prog 167 #[.pointer (some ⟨b,0,none⟩),.int .u8 x] w (Stepped base b (Ref.step m x) w):=by
 have f:=a.lo;have k:=a.hi
 by_cases h7:m.state<7
 ·exact PQ m x base b d c e w h g i j m.state rfl f h7
 by_cases h7':m.state=7
 ·exact Ra m x base b d c e w h a h7'
 by_cases h9:m.state=9
 ·exact dH m x base b d c e w h g a h9
 exact PP m x base b d c e w h g a i j (by omega)
theorem Small.of{n:Nat}{m:Ref.zl}(h:Ref.Bnd n m)(f:n<=4000):Small m:=by
 have b:=h.nodes;have c:=h.opn;have e:=h.got;refine⟨by omega,by omega,λd a=>?_,λd a=>?_,by omega,h.top⟩
 ·obtain⟨i,hi⟩:=ZA a;have:=h.kids i d hi;omega
 ·obtain⟨i,hi⟩:=ZA a;have:=h.kids i d hi;omega
def qC(text:BY):Int×Nat×Ref.zl:=
 if 4000<text.size then (1,0,Ref.init)
 else if (Ref.run Ref.init text.data.toList 0).1≠0 then Ref.run Ref.init text.data.toList 0
 else if (Ref.run Ref.init text.data.toList 0).2.2.state≠6\/(Ref.run Ref.init text.data.toList 0).2.2.opn≠[] then (2,text.size,Ref.init)
 else (0,0,(Ref.run Ref.init text.data.toList 0).2.2)
theorem aR:Ref.Wf Ref.init:=⟨by decide,by decide,by decide,by decide,by decide,by decide,by decide,by decide⟩
theorem aQ:Ref.Bnd 0 Ref.init:=⟨by decide,by decide,λi d a=>by simp[Ref.init] at a,by decide,λo b=>by simp[Ref.init] at b⟩
theorem OC(text:BY)(k:Nat)(b:k<text.size)(m:Ref.zl)(a:(Ref.step m (text[k].toNat:Int)).1=0):Ref.run m (text.data.toList.drop k) k=Ref.run (Ref.step m (text[k].toNat:Int)).2 (text.data.toList.drop (k+1)) (k+1):=by
 rw[vw (by rw[Ref.zA];exact b),Ref.run];exact zb a
theorem OD(text:BY)(k:Nat)(b:k<text.size)(m:Ref.zl)(a:(Ref.step m (text[k].toNat:Int)).1≠0):Ref.run m (text.data.toList.drop k) k=((Ref.step m (text[k].toNat:Int)).1,k,m):=by
 rw[vw (by rw[Ref.zA];exact b),Ref.run];exact za a
theorem run_end(text:BY)(k:Nat)(a:¬k<text.size)(m:Ref.zl):Ref.run m (text.data.toList.drop k) k=(0,k,m):=by
 rw[Vy (by rw[Ref.zA];omega),Ref.run]
theorem Ov(text:BY)(w:World)(ht:text.size<=maxLen) :
  Calls prog 125 #[.string text] w λe w'=>∃p,e = .returned (.tuple #[.pointer p,.int .i64 (qC text).1,.int .i64 ((qC text).2.1:Nat)])/\Below w.heap.size w w' /\
   ((qC text).1=0->∃b M N O,p=some ⟨b,0,none⟩/\zP w' w.heap.size b (qC text).2.2 M N O/\Ref.Bnd 4000 (qC text).2.2):=by
 unfold maxLen at ht;obtain⟨R,B⟩:=Nm (qC text);rw[B];unfold qC at B
 by_cases hlong:4000<text.size
 ·rw[zb hlong] at B;subst B;go_enter func125,ntmps125
  go_wp2
  go_ret3;exact⟨_,rfl,zf _ _,by simp⟩
 rw[za hlong] at B;have hl:decide (4000<(text.size:Int))=false:=by simp;omega
 obtain⟨Q,V⟩:=Nm (Ref.run Ref.init text.data.toList 0);rw[V] at B;have D:=hid B;have HQ:=hid V;clear B V
 have u:Hid (zP (w.alloc (.cells #[.int .i64 1,.slice none 0 0,.slice none 0 0,.bool false,.string ⟨#[]⟩,.int .i64 0,.int .u8 0,.int .u8 0,.int .i64 0,.string ⟨#[]⟩,.int .i64 0] 244)) w.heap.size w.heap.size Ref.init (.slice none 0 0) (.slice none 0 0) []):=
  ⟨ze _,zQ w _,qD _ _ _ _,qD _ _ _ _,rfl,λi n v hi=>by simp[Ref.init] at hi,λi n v hi=>by simp[Ref.init] at hi,λi v g L=>by simp at L,λi j v v' g L=>by simp at L,λi j v v' g L=>by simp at L⟩
 go_enter func125,ntmps125
 go_wp2
 go_loopw [6] (λX wr=>∃(k:Nat) (m:Ref.zl) (M N:Value) (O:List (Value×Value)),k<=text.size/\X = .int .i64 k/\Q=Ref.run m (text.data.toList.drop k) k/\Ref.Wf m/\Ref.Bnd k m/\zP wr w.heap.size w.heap.size m M N O/\Below w.heap.size w wr) (λX _=>text.size-(intOf X).toNat)
 case atStart=>exact⟨0,Ref.init,_,_,_,by omega,rfl,by rw[<- HQ.out];rfl,aR,aQ,u.out,nbl _ _⟩
 case round=>
  obtain⟨k,m,M,N,O,hk,rfl,hq,hw,hb,hm,h⟩:=hrel;have o:=hid hq;have E:=hid hw;have l:=hid hb;have x:=hid hm;clear hq hw hb hm HQ u
  by_cases hlt:k<text.size
  ·go_wp2_with fail;refine (PL m _ _ _ _ _ _ _ x.out (Small.of l.out (by omega)) E.out (Ref.b0 _) (Ref.KI _)).mono ?_;rintro e w1 ⟨rfl,F,H⟩;have z:Below w.heap.size w w1:=h.trans F
   by_cases he:(Ref.step m (text[k].toNat:Int)).1=0
   ·have P:=hid (H he);have f:=o.out;rw[OC text k hlt m he] at f;have S:=hid f;have T:=hid (Ref.dI E.out _ he);have C:=hid (Ref.dG l.out _ he);have G:((Ref.step m (text[k].toNat:Int)).1 != 0)=false:=by simp[he]
    obtain⟨r,t⟩:=Nm ((Ref.step m (text[k].toNat:Int)).1);rw[t] at G;rw[t];clear H F f he h x o E l t D
    go_wp2
    go_roundw
    case rel=>
     obtain⟨Z,Y,a0,U⟩:=P.out;exact⟨k+1,_,Z,Y,a0,by omega,by go_num,S.out,T.out,C.out,U,z⟩
    case measure=>simp[intOf];omega
   ·have f:=o.out;rw[OD text k hlt m he] at f;have t:=D.out;rw[f,zb he] at t;have G:((Ref.step m (text[k].toNat:Int)).1 != 0)=true:=by simp[he]
    obtain⟨r,I⟩:=Nm ((Ref.step m (text[k].toNat:Int)).1);rw[I] at G he t;rw[I];have HE:=hid he;subst t;clear H F f he h x o E l I D
    go_wp2
    go_ret3;exact⟨_,rfl,z,λe=>absurd e HE.out⟩
  ·have f:=o.out;rw[run_end text k hlt m] at f;have t:=D.out;rw[f,za (by simp)] at t;simp only at t;have ownO:=x.out.ownO;obtain⟨q,s⟩:=Nm m.opn.length;rw[s] at ownO
   obtain⟨ao,oc,rfl⟩:∃a c,M = .slice a q c:=by
    rcases ownO.2 with ⟨rfl,rfl⟩|⟨g,c,cur,rfl,_⟩
    ·exact⟨_,_,rfl⟩
    ·exact⟨_,_,rfl⟩
   have c0:wr.cell? ⟨w.heap.size,0,none⟩=some (.int .i64 m.state):=(x.out.cell 0).1;have c1:wr.cell? ⟨w.heap.size,1,none⟩=some (.slice ao q oc):=(x.out.cell 1).1;have W:=l.out.opn;rw[s] at W;obtain⟨st,y⟩:=Nm m.state;rw[y] at c0 t
   have C:Hid (Ref.Bnd 4000 m):=by
    have hb:=l.out;have h1:=hb.nodes;have h2:=hb.opn;have h3:=hb.got;exact⟨by omega,by omega,λi d hd=>by have:=hb.kids i d hd;omega,by omega,hb.top⟩
   by_cases hc:st≠6\/m.opn≠[]
   ·rw[zb hc] at t;subst t
    by_cases A:st=6
    ·have J:(st != 6)=false:=by simp[A]
     have K:0<q:=by rw[<- s];exact List.length_pos_iff.2 (hc.resolve_left (λe=>e A))
     have a9:decide (0<(q:Int))=true:=by simp;omega
     clear f x o E l D ownO s y hc A
     go_wp2
     go_ret3
     first|exact h|exact⟨⟨_,rfl⟩,h⟩
    ·have J:(st != 6)=true:=by simp[A]
     clear f x o E l D ownO s y hc A
     go_wp2
     go_ret3
     first|exact h|exact⟨⟨_,rfl⟩,h⟩
   ·rw[za hc] at t;subst t
    have A:st=6:=by
     by_cases e:st=6
     ·exact e
     ·exact absurd (.inl e) hc
    have K:q=0:=by
     have:m.opn=[]:=by
      by_cases e:m.opn=[]
      ·exact e
      ·exact absurd (.inr e) hc
     rw[<- s,this];rfl
    have J:(st != 6)=false:=by simp[A]
    clear f o E l D ownO s y hc A;subst K
    go_wp2
    go_ret3;exact⟨_,rfl,h,⟨_,rfl,⟨_,_,_,x.out⟩,C.out⟩⟩
end Go.Proofs.YtagnlbgbnfnapaaGreatDoor
