/- P -/
import Derived.Test.YtagnlbgbnfnapaaGreatDoorZ26
open Go.Proofs.Tryz
set_option maxRecDepth 100000
set_option maxHeartbeats 40000000
namespace Go.Proofs.YtagnlbgbnfnapaaGreatDoor
open Go.RowKit
def Vo(r:Kp.zm)(v1 v2 v3:Value):Value := .agg #[.bool r.deny,v1,v2,v3,.int .i64 r.nt,.int .i64 r.iff,.int .i64 r.key,.int .i64 r.val,.bool r.no,.int .i64 r.style]
structure Qo (r:Kp.zm):Prop where
 nt:I64 r.nt
 iff:I64 r.iff
 key:I64 r.key
 val:I64 r.val
 style:I64 r.style
theorem Below.step{B:Nat}{a b c:World}(h:Below B a b)(k:Below b.heap.size b c)(d:B<=a.heap.size):Below B a c:=h.trans (k.mono (jy d h.size))
theorem BP(w:World)(l:List BA)(c:Nat):vU (w.alloc (.cells (l.map Value.string).toArray 9)) (.slice (some ⟨w.heap.size,0,none⟩) l.length c) l:=
 ⟨_,_,rfl,λk x a=>⟨_,rfl,by
  have b:k<l.length:=(xw.1 a).1;rw[XT w l k b,zQ,a]
  rfl⟩⟩
theorem iE(w:World)(s:BA):vU (w.alloc (.cells #[.string s] 9)).drew (.slice (some ⟨w.heap.size,0,none⟩) 1 1) [s]:=BP w [s] 1
theorem zaa(w:World)(s:BA):vU (w.alloc (.cells #[.string s,.string ⟨#[120]⟩] 9)).drew (.slice (some ⟨w.heap.size,0,none⟩) 2 2) [s,⟨#[120]⟩]:=BP w [s,⟨#[120]⟩] 2
theorem Vr{P:Program}{d:Region.Mode}{ops:Array Oper}{Q:Exit->Act->World->Prop}{S S':World->Prop}(c:∀w,S' w->S w):∀{fuel:Nat} {listed:Array Bool} {a:Act} {w:World},wpAnyH P d ops Q S' fuel listed a w->wpAnyH P d ops Q S fuel listed a w
 | 0,_,_,_,h=>h
 | fuel+1,_,_,_,h=>⟨h.1,λi hi=>wpOp_mono (λ_ e b=>⟨c e b.1,Vr c (fuel:=fuel) b.2⟩) (h.2 i hi)⟩
theorem Fv(r:Kp.zm)(a1:Option Addr)(n1 c1:Nat)(a2:Option Addr)(n2 c2:Nat)(a3:Option Addr)(n3 c3:Nat)(w:World)(hr:Qo r) :
  Calls prog 65 #[Vo r (.slice a1 n1 c1) (.slice a2 n2 c2) (.slice a3 n3 c3)] w λe n=>e = .returned (.string (Kp.xU r))/\Below w.heap.size w n:=by
 obtain⟨deny,who,act,on,nt,iff,key,val,no,p⟩:=r;obtain⟨f1,f2,f3,f4,f5⟩:=hr;simp only at f1 f2 f3 f4 f5;unfold Vo;simp only;have g3:=Kp.dJ ⟨deny,who,act,on,nt,iff,key,val,no,p⟩;have C:Kp.XQ ⟨deny,who,act,on,nt,iff,key,val,no,p⟩=⟨#[34,107,101,121,34,58,34]⟩++Kp.keys.getD (Kp.zy key 5) ⟨#[]⟩++⟨#[34,44,34,111,112,34,58]⟩:=rfl;have c6:Kp.noB ⟨deny,who,act,on,nt,iff,key,val,no,p⟩=if no then ⟨#[44,34,110,111,34,58,116,114,117,101]⟩ else ⟨#[]⟩:=rfl
 have g4:=Kp.fU ⟨deny,who,act,on,nt,iff,key,val,no,p⟩;have d9:=Kp.ZF (P:=λb=>b.size<=3) Kp.rY (by decide) (Kp.zy key 5);obtain⟨R,m⟩:=Nm (Kp.xU ⟨deny,who,act,on,nt,iff,key,val,no,p⟩);rw[m];unfold Kp.xU Kp.ZB at m;simp only at m;obtain⟨F,c4⟩:∃x,Kp.XQ ⟨deny,who,act,on,nt,iff,key,val,no,p⟩=x:=⟨_,rfl⟩;obtain⟨No,c5⟩:∃x,Kp.noB ⟨deny,who,act,on,nt,iff,key,val,no,p⟩=x:=⟨_,rfl⟩;rw[c4] at C g3;rw[c5] at c6 g4;simp only[c4,c5] at m;have ck:=λW=>MZ key W f3;obtain⟨K,g⟩:∃x,Kp.keys.getD (Kp.zy key 5) ⟨#[]⟩=x:=⟨_,rfl⟩;simp only[g] at ck C d9;have CK:=hid ck;have HK:=hid C;have b5:=hid c6;have cj:=λW=>uh iff 8 W f2 (by decide) (by decide);have g2:=Kp.xI iff 8 (by decide);obtain⟨j,hj⟩:=Nm (Kp.zy iff 8);rw[hj] at g2 m;simp only[hj] at cj;have U:=hid m;clear m;have CJ:=hid cj;clear cj hj;have cw:=Cs;have J:=Aj;have CW:=hid cw;have CP:=hid J;clear ck C c6 c4 c5 g cw J;obtain⟨A,hA⟩:=Nm (w.alloc (.cells #[.bool deny,.slice a1 n1 c1,.slice a2 n2 c2,.slice a3 n3 c3,.int .i64 nt,.int .i64 iff,.int .i64 key,.int .i64 val,.bool no,.int .i64 p] 42));have bl:=zL w (.cells #[.bool deny,.slice a1 n1 c1,.slice a2 n2 c2,.slice a3 n3 c3,.int .i64 nt,.int .i64 iff,.int .i64 key,.int .i64 val,.bool no,.int .i64 p] 42);have d8:Below w.heap.size w A:=by rw[<- hA];exact nB w _
 rw[hA] at bl;have k5:A.cell? ⟨w.heap.size,5,none⟩=some (.int .i64 iff):=(zf bl 5).1;have k6:A.cell? ⟨w.heap.size,6,none⟩=some (.int .i64 key):=(zf bl 6).1;have k7:A.cell? ⟨w.heap.size,7,none⟩=some (.int .i64 val):=(zf bl 7).1;have k8:A.cell? ⟨w.heap.size,8,none⟩=some (.bool no):=(zf bl 8).1;have k9:A.cell? ⟨w.heap.size,9,none⟩=some (.int .i64 p):=(zf bl 9).1;have d3:=hid d8;have HA:=hid hA;clear bl d8 hA;go_enter func65,ntmps65
 go_upto_if 8 with (fail)
 go_cut [3] (λs wx=>s = .string No/\wx=A)
 case first=>
  cases no with
  | true=>
   go_wp2_with fail
   go_meet
   case rel=>exact⟨by rw[b5.out];rfl,HA.out⟩
  | false=>
   go_wp2_with fail
   go_meet
   case rel=>exact⟨by rw[b5.out];rfl,HA.out⟩
 case rest=>
  obtain⟨rfl,e0⟩:=hcut;rw[e0];clear e0 b5 HA
  go_upto_region 8 with (first
   | (go_at_call 11;refine (CJ.out _).mono ?_;rintro e w5 ⟨rfl,e5⟩;rw[e5];clear e5)
   | (go_at_call 114;refine (CP.out _).mono ?_;rintro e f ⟨rfl,e4⟩;have HP:=hid (λk (C:k<14)=>by rw[e4];exact XT w3 Kp.patterns k C:∀k,k<14->f.cell? ⟨w3.heap.size,k,none⟩=some (.string (Kp.patterns.getD k ⟨#[]⟩)));have b4:Below w3.heap.size w3 f:=(by rw[e4];exact nB w3 _);have n5:=zh b4 m5;have V:=zh b4 m7;have T:=zh b4 m9;have D:=hid (Below.step d2.out b4 b1.out);have HQ:=hid (λk C=>zh b4 (HW.out k C));clear b4 e4 m5 m7 m9)
   | (go_at_call 45;refine (CW.out _).mono ?_;rintro e w3 ⟨rfl,e3⟩;have HW:=hid (λk (C:k<14)=>by rw[e3];exact XT w2 Kp.words k C:∀k,k<14->w3.cell? ⟨w2.heap.size,k,none⟩=some (.string (Kp.words.getD k ⟨#[]⟩)));have b3:Below w2.heap.size w2 w3:=(by rw[e3];exact nB w2 _);have m5:=zh b3 l5;have m7:=zh b3 l7;have m9:=zh b3 l9;have d2:=hid (Below.step d1.out b3 b1.out);clear b3 e3 l5 l7 l9)
   | (go_at_call 113;refine (CK.out _).mono ?_;rintro e w2 ⟨rfl,b2⟩;have l5:=zh b2 k5;have l7:=zh b2 k7;have l9:=zh b2 k9;have b1:Hid (w.heap.size<=w.heap.size):=(ze _);have d1:Hid (Below w.heap.size w w2):=(Below.step d3.out b2 (ze _));clear b2 k5 k6 k7 k8 k9))
  rw[<- HK.out];clear HK CK CW CP CJ d3 b1 d1 d2 HW d9 n5;have j4:w.heap.size<f.heap.size:=kX _ _ T
  rcases (by omega:j=0\/j=1\/j=2\/j=3\/j=4\/j=5\/j=6\/j=7) with rfl|rfl|rfl|rfl|rfl|rfl|rfl|rfl
  ·go_wp2_with fail;go_ret;exact⟨by rw[<- U.out];rfl,D.out⟩
  ·go_wp2_with fail;go_ret;exact⟨by rw[<- U.out];rfl,D.out⟩
  ·have J:=λW=>uh val 14 W f4 (by decide) (by decide);have z:=Kp.xI val 14 (by decide);have q:=HQ.out _ z;have I:=Kp.ZF (P:=λb=>b.size<=8) Kp.K6 (by decide) (Kp.zy val 14);have m:=U.out;simp only at m;obtain⟨k,C⟩:=Nm (Kp.zy val 14);simp only[C] at J z q I m;obtain⟨s,Y⟩:=Nm (Kp.words.getD k ⟨#[]⟩);rw[Y] at q I m;have O:=λW v (hv:vU W v [s])=>VZ [s] v p W hv f5 (by simp) (by simpa using I);have B:=Kp.Y9 [s] p (by simpa using I);obtain⟨L,Q⟩:=Nm (Kp.vW [s] p);rw[Q] at B m;simp only[xV] at B;simp only[Q] at O;have G:=hid J;have CL:=hid O;have H:=hid m;clear J O Q Y HQ HP U m C
   go_upto_region 13 with fail
   obtain⟨b6,b8⟩:=f4;obtain⟨b9,c0⟩:=f5;have M:Hid (Below f.heap.size f (f.alloc (.cells #[.string s] 9)).drew):=(nB f _).drew;have y1:¬(9223372036854775807<1+F.size):=by omega
   have y2:¬(9223372036854775807<1+F.size+15):=by omega
   have y3:¬(9223372036854775807<1+F.size+15+L.size):=by omega
   have y4:¬(9223372036854775807<1+F.size+15+L.size+No.size):=by omega
   have y5:¬(9223372036854775807<1+F.size+15+L.size+No.size+1):=by omega
   have k0:(0:Int)<=(k:Int):=by omega
   have k1:(k:Int)<14:=by omega
   go_region_held3 (λn=>n.cell? ⟨w.heap.size,7,none⟩=some (.int .i64 val)/\n.cell? ⟨w.heap.size,9,none⟩=some (.int .i64 p)/\n.cell? ⟨w2.heap.size,k,none⟩=some (.string s)) (go_keep)
    (first
    | (go_at_call 11;refine (G.out _).mono ?_;rintro e w6 ⟨rfl,N⟩;rw[N];clear N)
    | (go_at_call 115;refine (CL.out _ _ (iE f s)).mono ?_;rintro e w7 ⟨rfl,E⟩;have d:=Below.step M.out E (ze _);have z7:=zh d V;have z9:=zh d T;have zq:=zh d q;have u:=hid (Below.step D.out d (ze _));clear E d))
   go_wp2_with fail;go_ret;exact⟨by rw[<- H.out];rfl,u.out⟩
  ·have J:=λW=>uh val 4 W f4 (by decide) (by decide);have z:=Kp.xI val 4 (by decide);have I:=Kp.ZF (P:=λb=>b.size<=8) Kp.fZ (by decide) (Kp.zy val 4);have m:=U.out;simp only at m;obtain⟨k,C⟩:=Nm (Kp.zy val 4);simp only[C] at J z I m;have q:=XT f Kp.nums k z;obtain⟨s,Y⟩:=Nm (Kp.nums.getD k ⟨#[]⟩);rw[Y] at I m q;have O:=λW v (hv:vU W v [s])=>VZ [s] v p W hv f5 (by simp) (by simpa using I);have B:=Kp.Y9 [s] p (by simpa using I);obtain⟨L,Q⟩:=Nm (Kp.vW [s] p);rw[Q] at B m;simp only[xV] at B;simp only[Q] at O;have t:Hid ((f.alloc (.cells #[.string ⟨#[48]⟩,.string ⟨#[56]⟩,.string ⟨#[45,52]⟩,.string ⟨#[49,48,48]⟩] 9)).drew.cell? ⟨f.heap.size,k,none⟩=some (.string s)):=hid q;have G:=hid J;have CL:=hid O;have H:=hid m;clear J O Q Y HQ HP U m C q
   go_upto_region 15 with fail
   obtain⟨b6,b8⟩:=f4;obtain⟨b9,c0⟩:=f5;have B1:Hid (Below f.heap.size f (f.alloc (.cells #[.string ⟨#[48]⟩,.string ⟨#[56]⟩,.string ⟨#[45,52]⟩,.string ⟨#[49,48,48]⟩] 9))):=nB f _;have M:Hid (Below f.heap.size f ((f.alloc (.cells #[.string ⟨#[48]⟩,.string ⟨#[56]⟩,.string ⟨#[45,52]⟩,.string ⟨#[49,48,48]⟩] 9)).alloc (.cells #[.string s] 9)).drew):=(B1.out.alloc B1.out.size _).drew;have Z:Hid (Below (f.alloc (.cells #[.string ⟨#[48]⟩,.string ⟨#[56]⟩,.string ⟨#[45,52]⟩,.string ⟨#[49,48,48]⟩] 9)).heap.size (f.alloc (.cells #[.string ⟨#[48]⟩,.string ⟨#[56]⟩,.string ⟨#[45,52]⟩,.string ⟨#[49,48,48]⟩] 9)) ((f.alloc (.cells #[.string ⟨#[48]⟩,.string ⟨#[56]⟩,.string ⟨#[45,52]⟩,.string ⟨#[49,48,48]⟩] 9)).alloc (.cells #[.string s] 9)).drew):=((zi _ (f.alloc (.cells #[.string ⟨#[48]⟩,.string ⟨#[56]⟩,.string ⟨#[45,52]⟩,.string ⟨#[49,48,48]⟩] 9))).alloc (ze _) _).drew;have X:Hid (vU ((f.alloc (.cells #[.string ⟨#[48]⟩,.string ⟨#[56]⟩,.string ⟨#[45,52]⟩,.string ⟨#[49,48,48]⟩] 9)).alloc (.cells #[.string s] 9)).drew (.slice (some ⟨f.heap.size+1,0,none⟩) 1 1) [s]):=hid (by have h:=iE (f.alloc (.cells #[.string ⟨#[48]⟩,.string ⟨#[56]⟩,.string ⟨#[45,52]⟩,.string ⟨#[49,48,48]⟩] 9)) s;rw[show (f.alloc (.cells #[.string ⟨#[48]⟩,.string ⟨#[56]⟩,.string ⟨#[45,52]⟩,.string ⟨#[49,48,48]⟩] 9)).heap.size=f.heap.size+1 by simp] at h;exact h);have y1:¬(9223372036854775807<1+F.size):=by omega
   have y2:¬(9223372036854775807<1+F.size+16):=by omega
   have y3:¬(9223372036854775807<1+F.size+16+L.size):=by omega
   have y4:¬(9223372036854775807<1+F.size+16+L.size+No.size):=by omega
   have y5:¬(9223372036854775807<1+F.size+16+L.size+No.size+1):=by omega
   have k0:(0:Int)<=(k:Int):=by omega
   have k1:(k:Int)<4:=by omega
   refine wp_region_noPanic ?_;refine wp_region_held_drew (S:=λn=>n.cell? ⟨w.heap.size,7,none⟩=some (.int .i64 val)/\n.cell? ⟨w.heap.size,9,none⟩=some (.int .i64 p)) (by kernel_rfl) ⟨V,T⟩ (λa=>?_);refine wpAnyH_take (i:=0) (oi:=?o1) (v:=?v1) ?hi1 (by kernel_rfl) (by kernel_rfl) (by kernel_rfl) (λ_ _ _ h=>h) (Or.inl ⟨?hw1,?hy1⟩) a ?hrest1
   case hi1=>(rw[zI];rfl)
   case hw1=>rfl
   case hy1=>(intro l c;(try dsimp only at c);go_simp;try with_reducible rfl)
   try simp only[Act.put]
   try simp only[List.setIfInBounds_toArray]
   try simp only[zK]
   try simp only[List.set_cons_zero]
   refine wpAnyH_take (i:=1) (oi:=?o2) (v:=?v2) ?hi2 (by kernel_rfl) (by kernel_rfl) (by kernel_rfl) (λ_ _ _ h=>h) (Or.inl ⟨?hw2,?hy2⟩) a ?hrest2
   case hi2=>(rw[zI];rfl)
   case hw2=>rfl
   case hy2=>(intro l c;(try dsimp only at c);go_simp;try with_reducible rfl)
   try simp only[Act.put]
   try simp only[List.setIfInBounds_toArray]
   try simp only[zK]
   try simp only[List.set_cons_zero]
   refine wpAnyH_take (i:=2) (oi:=?o3) (v:=?v3) ?hi3 (by kernel_rfl) (by kernel_rfl) (by kernel_rfl) (λ_ _ _ h=>h) (Or.inl ⟨?hw3,?hy3⟩) a ?hrest3
   case hi3=>(rw[zI];rfl)
   case hw3=>rfl
   case hy3=>(intro l c;(try dsimp only at c);go_simp;try with_reducible rfl)
   try simp only[Act.put]
   try simp only[List.setIfInBounds_toArray]
   try simp only[zK]
   try simp only[List.set_cons_zero]
   refine wpAnyH_take (i:=4) (oi:=?o4) (v:=?v4) ?hi4 (by kernel_rfl) (by kernel_rfl) (by kernel_rfl) (λ_ _ _ h=>h) (Or.inl ⟨?hw4,?hy4⟩) a ?hrest4
   case hi4=>(rw[zI];rfl)
   case hw4=>rfl
   case hy4=>(intro l c;(try dsimp only at c);go_simp;try with_reducible rfl)
   try simp only[Act.put]
   try simp only[List.setIfInBounds_toArray]
   try simp only[zK]
   try simp only[List.set_cons_zero]
   refine wpAnyH_take (i:=5) (oi:=?o5) (v:=?v5) ?hi5 (by kernel_rfl) (by kernel_rfl) (by kernel_rfl) (λ_ _ _ h=>h) (Or.inl ⟨?hw5,?hy5⟩) a ?hrest5
   case hi5=>(rw[zI];rfl)
   case hw5=>rfl
   case hy5=>(intro l c;(try dsimp only at c);go_simp;try with_reducible rfl)
   try simp only[Act.put]
   try simp only[List.setIfInBounds_toArray]
   try simp only[zK]
   try simp only[List.set_cons_zero]
   refine wpAnyH_take (i:=10) (oi:=?o6) (v:=?v6) ?hi6 (by kernel_rfl) (by kernel_rfl) (by kernel_rfl) (λ_ _ _ h=>h) (Or.inl ⟨?hw6,?hy6⟩) a ?hrest6
   case hi6=>(rw[zI];rfl)
   case hw6=>rfl
   case hy6=>(intro l c;(try dsimp only at c);go_simp;try with_reducible rfl)
   try simp only[Act.put]
   try simp only[List.setIfInBounds_toArray]
   try simp only[zK]
   try simp only[List.set_cons_zero]
   refine wpAnyH_take (i:=11) (oi:=?o7) (v:=?v7) ?hi7 (by kernel_rfl) (by kernel_rfl) (by kernel_rfl) (λ_ _ _ h=>h) (Or.inl ⟨?hw7,?hy7⟩) a ?hrest7
   case hi7=>(rw[zI];rfl)
   case hw7=>rfl
   case hy7=>(intro l c;(try dsimp only at c);go_simp;try with_reducible rfl)
   try simp only[Act.put]
   try simp only[List.setIfInBounds_toArray]
   try simp only[zK]
   try simp only[List.set_cons_zero]
   refine wpAnyH_take (i:=14) (oi:=?o8) (v:=?v8) ?hi8 (by kernel_rfl) (by kernel_rfl) (by kernel_rfl) (λ_ _ _ h=>h) (Or.inl ⟨?hw8,?hy8⟩) a ?hrest8
   case hi8=>(rw[zI];rfl)
   case hw8=>rfl
   case hy8=>(intro l c;(try dsimp only at c);go_simp;try with_reducible rfl)
   try simp only[Act.put]
   try simp only[List.setIfInBounds_toArray]
   try simp only[zK]
   try simp only[List.set_cons_zero]
   refine wpAnyH_ready (rs:=[3,6]) (by kernel_rfl) (by simp) ?rd9;refine AllReadyH.cons (o:=?oa9) ?ha9 (λK g=>?sa9) ?ma9
   case ha9=>(rw[zI];rfl)
   case sa9=>
    go_simp
    refine g.out _ _ ?sh9 (λa=>?cb9)
    case sh9=>((try dsimp only);go_keep)
    clear g K
    try simp only[Act.put]
    try simp only[List.setIfInBounds_toArray]
    try simp only[zK]
    try simp only[List.set_cons_zero]
    refine wpAnyH_ready (rs:=[6]) (by kernel_rfl) (by simp) ?rd10;refine AllReadyH.cons (o:=?ob10) ?hb10 (λK g=>?sb10) AllReadyH.nil
    case hb10=>(rw[zI];rfl)
    case sb10=>
     go_simp
     refine (G.out _).mono ?_;rintro e w6 ⟨rfl,N⟩;rw[N];clear N;go_wp2_with fail;refine g.out _ _ ?sh10 (λa=>?cb10)
     case sh10=>((try dsimp only);go_keep)
     clear g K
     try simp only[Act.put]
     try simp only[List.setIfInBounds_toArray]
     try simp only[zK]
     try simp only[List.set_cons_zero]
     have y:=vN a.1 (vN a.2 t.out);clear a;have a:=y;clear y;refine Vr (S':=λn=>n.cell? ⟨w.heap.size,7,none⟩=some (.int .i64 val)/\n.cell? ⟨w.heap.size,9,none⟩=some (.int .i64 p)/\n.cell? ⟨f.heap.size,k,none⟩=some (.string s)) (λ_ h=>⟨h.1,h.2.1⟩) ?_;refine wpAnyH_take (i:=7) (oi:=?o11) (v:=?v11) ?hi11 (by kernel_rfl) (by kernel_rfl) (by kernel_rfl) (λ_ _ _ h=>h) (Or.inl ⟨?hw11,?hy11⟩) a ?hrest11
     case hi11=>(rw[zI];rfl)
     case hw11=>rfl
     case hy11=>(intro l c;(try dsimp only at c);go_simp;try with_reducible rfl)
     try simp only[Act.put]
     try simp only[List.setIfInBounds_toArray]
     try simp only[zK]
     try simp only[List.set_cons_zero]
     refine wpAnyH_take (i:=8) (oi:=?o12) (v:=?v12) ?hi12 (by kernel_rfl) (by kernel_rfl) (by kernel_rfl) (λ_ _ _ h=>h) (Or.inl ⟨?hw12,?hy12⟩) a ?hrest12
     case hi12=>(rw[zI];rfl)
     case hw12=>rfl
     case hy12=>(intro l c;(try dsimp only at c);go_simp;try with_reducible rfl)
     try simp only[Act.put]
     try simp only[List.setIfInBounds_toArray]
     try simp only[zK]
     try simp only[List.set_cons_zero]
     refine wpAnyH_ready (rs:=[9]) (by kernel_rfl) (by simp) ?rd13;refine AllReadyH.cons (o:=?ob13) ?hb13 (λK g=>?sb13) AllReadyH.nil
     case hb13=>(rw[zI];rfl)
     case sb13=>
      go_simp
      refine g.out _ _ ?sh13 (λa=>?cb13)
      case sh13=>exact⟨zh M.out V,zh M.out T,zh Z.out t.out⟩
      clear g K
      try simp only[Act.put]
      try simp only[List.setIfInBounds_toArray]
      try simp only[zK]
      try simp only[List.set_cons_zero]
      refine wpAnyH_ready (rs:=[12]) (by kernel_rfl) (by simp) ?rd14;refine AllReadyH.cons (o:=?ob14) ?hb14 (λK g=>?sb14) AllReadyH.nil
      case hb14=>(rw[zI];rfl)
      case sb14=>
       go_simp
       refine (CL.out _ _ X.out).mono ?_;rintro e w7 ⟨rfl,E⟩;have d:=Below.step M.out E (ze _);have z7:=zh d V;have z9:=zh d T;have zq:=zh (Below.step Z.out E (ze _)) t.out;have u:=hid (Below.step D.out d (ze _));clear E d;go_wp2_with fail;refine g.out _ _ ?sh14 (λa=>?cb14)
       case sh14=>exact⟨z7,z9,zq⟩
       clear g K
       try simp only[Act.put]
       try simp only[List.setIfInBounds_toArray]
       try simp only[zK]
       try simp only[List.set_cons_zero]
       refine wpAnyH_take (i:=13) (oi:=?o15) (v:=?v15) ?hi15 (by kernel_rfl) (by kernel_rfl) (by kernel_rfl) (λ_ _ _ h=>h) (Or.inl ⟨?hw15,?hy15⟩) a ?hrest15
       case hi15=>(rw[zI];rfl)
       case hw15=>rfl
       case hy15=>(intro l c;(try dsimp only at c);go_simp;try with_reducible rfl)
       try simp only[Act.put]
       try simp only[List.setIfInBounds_toArray]
       try simp only[zK]
       try simp only[List.set_cons_zero]
       refine wpAnyH_take (i:=15) (oi:=?o16) (v:=?v16) ?hi16 (by kernel_rfl) (by kernel_rfl) (by kernel_rfl) (λ_ _ _ h=>h) (Or.inl ⟨?hw16,?hy16⟩) a ?hrest16
       case hi16=>(rw[zI];rfl)
       case hw16=>rfl
       case hy16=>(intro l c;(try dsimp only at c);go_simp;try with_reducible rfl)
       try simp only[Act.put]
       try simp only[List.setIfInBounds_toArray]
       try simp only[zK]
       try simp only[List.set_cons_zero]
       refine wpAnyH_take (i:=16) (oi:=?o17) (v:=?v17) ?hi17 (by kernel_rfl) (by kernel_rfl) (by kernel_rfl) (λ_ _ _ h=>h) (Or.inl ⟨?hw17,?hy17⟩) a ?hrest17
       case hi17=>(rw[zI];rfl)
       case hw17=>rfl
       case hy17=>(intro l c;(try dsimp only at c);go_simp;try with_reducible rfl)
       try simp only[Act.put]
       try simp only[List.setIfInBounds_toArray]
       try simp only[zK]
       try simp only[List.set_cons_zero]
       refine wpAnyH_take (i:=17) (oi:=?o18) (v:=?v18) ?hi18 (by kernel_rfl) (by kernel_rfl) (by kernel_rfl) (λ_ _ _ h=>h) (Or.inl ⟨?hw18,?hy18⟩) a ?hrest18
       case hi18=>(rw[zI];rfl)
       case hw18=>rfl
       case hy18=>(intro l c;(try dsimp only at c);go_simp;try with_reducible rfl)
       try simp only[Act.put]
       try simp only[List.setIfInBounds_toArray]
       try simp only[zK]
       try simp only[List.set_cons_zero]
       refine wpAnyH_done (by kernel_rfl) ?_ _;refine NoPanic.normal ?_;go_wp2_with fail;go_ret;exact⟨by rw[<- H.out];rfl,u.out⟩
   refine AllReadyH.cons (o:=?ob19) ?hb19 (λK g=>?sb19) AllReadyH.nil
   case hb19=>(rw[zI];rfl)
   case sb19=>
    go_simp
    refine (G.out _).mono ?_;rintro e w6 ⟨rfl,N⟩;rw[N];clear N;go_wp2_with fail;refine g.out _ _ ?sh19 (λa=>?cb19)
    case sh19=>((try dsimp only);go_keep)
    clear g K
    try simp only[Act.put]
    try simp only[List.setIfInBounds_toArray]
    try simp only[zK]
    try simp only[List.set_cons_zero]
    refine wpAnyH_ready (rs:=[3]) (by kernel_rfl) (by simp) ?rd20;refine AllReadyH.cons (o:=?ob20) ?hb20 (λK g=>?sb20) AllReadyH.nil
    case hb20=>(rw[zI];rfl)
    case sb20=>
     go_simp
     refine g.out _ _ ?sh20 (λa=>?cb20)
     case sh20=>((try dsimp only);go_keep)
     clear g K
     try simp only[Act.put]
     try simp only[List.setIfInBounds_toArray]
     try simp only[zK]
     try simp only[List.set_cons_zero]
     have y:=vN a.1 (vN a.2 t.out);clear a;have a:=y;clear y;refine Vr (S':=λn=>n.cell? ⟨w.heap.size,7,none⟩=some (.int .i64 val)/\n.cell? ⟨w.heap.size,9,none⟩=some (.int .i64 p)/\n.cell? ⟨f.heap.size,k,none⟩=some (.string s)) (λ_ h=>⟨h.1,h.2.1⟩) ?_;refine wpAnyH_take (i:=7) (oi:=?o21) (v:=?v21) ?hi21 (by kernel_rfl) (by kernel_rfl) (by kernel_rfl) (λ_ _ _ h=>h) (Or.inl ⟨?hw21,?hy21⟩) a ?hrest21
     case hi21=>(rw[zI];rfl)
     case hw21=>rfl
     case hy21=>(intro l c;(try dsimp only at c);go_simp;try with_reducible rfl)
     try simp only[Act.put]
     try simp only[List.setIfInBounds_toArray]
     try simp only[zK]
     try simp only[List.set_cons_zero]
     refine wpAnyH_take (i:=8) (oi:=?o22) (v:=?v22) ?hi22 (by kernel_rfl) (by kernel_rfl) (by kernel_rfl) (λ_ _ _ h=>h) (Or.inl ⟨?hw22,?hy22⟩) a ?hrest22
     case hi22=>(rw[zI];rfl)
     case hw22=>rfl
     case hy22=>(intro l c;(try dsimp only at c);go_simp;try with_reducible rfl)
     try simp only[Act.put]
     try simp only[List.setIfInBounds_toArray]
     try simp only[zK]
     try simp only[List.set_cons_zero]
     refine wpAnyH_ready (rs:=[9]) (by kernel_rfl) (by simp) ?rd23;refine AllReadyH.cons (o:=?ob23) ?hb23 (λK g=>?sb23) AllReadyH.nil
     case hb23=>(rw[zI];rfl)
     case sb23=>
      go_simp
      refine g.out _ _ ?sh23 (λa=>?cb23)
      case sh23=>exact⟨zh M.out V,zh M.out T,zh Z.out t.out⟩
      clear g K
      try simp only[Act.put]
      try simp only[List.setIfInBounds_toArray]
      try simp only[zK]
      try simp only[List.set_cons_zero]
      refine wpAnyH_ready (rs:=[12]) (by kernel_rfl) (by simp) ?rd24;refine AllReadyH.cons (o:=?ob24) ?hb24 (λK g=>?sb24) AllReadyH.nil
      case hb24=>(rw[zI];rfl)
      case sb24=>
       go_simp
       refine (CL.out _ _ X.out).mono ?_;rintro e w7 ⟨rfl,E⟩;have d:=Below.step M.out E (ze _);have z7:=zh d V;have z9:=zh d T;have zq:=zh (Below.step Z.out E (ze _)) t.out;have u:=hid (Below.step D.out d (ze _));clear E d;go_wp2_with fail;refine g.out _ _ ?sh24 (λa=>?cb24)
       case sh24=>exact⟨z7,z9,zq⟩
       clear g K
       try simp only[Act.put]
       try simp only[List.setIfInBounds_toArray]
       try simp only[zK]
       try simp only[List.set_cons_zero]
       refine wpAnyH_take (i:=13) (oi:=?o25) (v:=?v25) ?hi25 (by kernel_rfl) (by kernel_rfl) (by kernel_rfl) (λ_ _ _ h=>h) (Or.inl ⟨?hw25,?hy25⟩) a ?hrest25
       case hi25=>(rw[zI];rfl)
       case hw25=>rfl
       case hy25=>(intro l c;(try dsimp only at c);go_simp;try with_reducible rfl)
       try simp only[Act.put]
       try simp only[List.setIfInBounds_toArray]
       try simp only[zK]
       try simp only[List.set_cons_zero]
       refine wpAnyH_take (i:=15) (oi:=?o26) (v:=?v26) ?hi26 (by kernel_rfl) (by kernel_rfl) (by kernel_rfl) (λ_ _ _ h=>h) (Or.inl ⟨?hw26,?hy26⟩) a ?hrest26
       case hi26=>(rw[zI];rfl)
       case hw26=>rfl
       case hy26=>(intro l c;(try dsimp only at c);go_simp;try with_reducible rfl)
       try simp only[Act.put]
       try simp only[List.setIfInBounds_toArray]
       try simp only[zK]
       try simp only[List.set_cons_zero]
       refine wpAnyH_take (i:=16) (oi:=?o27) (v:=?v27) ?hi27 (by kernel_rfl) (by kernel_rfl) (by kernel_rfl) (λ_ _ _ h=>h) (Or.inl ⟨?hw27,?hy27⟩) a ?hrest27
       case hi27=>(rw[zI];rfl)
       case hw27=>rfl
       case hy27=>(intro l c;(try dsimp only at c);go_simp;try with_reducible rfl)
       try simp only[Act.put]
       try simp only[List.setIfInBounds_toArray]
       try simp only[zK]
       try simp only[List.set_cons_zero]
       refine wpAnyH_take (i:=17) (oi:=?o28) (v:=?v28) ?hi28 (by kernel_rfl) (by kernel_rfl) (by kernel_rfl) (λ_ _ _ h=>h) (Or.inl ⟨?hw28,?hy28⟩) a ?hrest28
       case hi28=>(rw[zI];rfl)
       case hw28=>rfl
       case hy28=>(intro l c;(try dsimp only at c);go_simp;try with_reducible rfl)
       try simp only[Act.put]
       try simp only[List.setIfInBounds_toArray]
       try simp only[zK]
       try simp only[List.set_cons_zero]
       refine wpAnyH_done (by kernel_rfl) ?_ _;refine NoPanic.normal ?_;go_wp2_with fail;go_ret;exact⟨by rw[<- H.out];rfl,u.out⟩
  ·have J:=λW=>uh val 3 W f4 (by decide) (by decide);have z:=Kp.xI val 3 (by decide);have I:=Kp.ZF (P:=λb=>b.size<=8) Kp.iY (by decide) (Kp.zy val 3);have m:=U.out;simp only at m;obtain⟨k,C⟩:=Nm (Kp.zy val 3);simp only[C] at J z I m;have q:=XT f Kp.QO k z;obtain⟨s,Y⟩:=Nm (Kp.QO.getD k ⟨#[]⟩);rw[Y] at I m q;have O:=λW v (hv:vU W v [s])=>VZ [s] v p W hv f5 (by simp) (by simpa using I);have B:=Kp.Y9 [s] p (by simpa using I);obtain⟨L,Q⟩:=Nm (Kp.vW [s] p);rw[Q] at B m;simp only[xV] at B;simp only[Q] at O;have t:Hid ((f.alloc (.cells #[.string ⟨#[98,111,120]⟩,.string ⟨#[98,111,120,47,49]⟩,.string ⟨#[97]⟩] 9)).drew.cell? ⟨f.heap.size,k,none⟩=some (.string s)):=hid q;have G:=hid J;have CL:=hid O;have H:=hid m;clear J O Q Y HQ HP U m C q
   go_upto_region 17 with fail
   obtain⟨b6,b8⟩:=f4;obtain⟨b9,c0⟩:=f5;have B1:Hid (Below f.heap.size f (f.alloc (.cells #[.string ⟨#[98,111,120]⟩,.string ⟨#[98,111,120,47,49]⟩,.string ⟨#[97]⟩] 9))):=nB f _;have M:Hid (Below f.heap.size f ((f.alloc (.cells #[.string ⟨#[98,111,120]⟩,.string ⟨#[98,111,120,47,49]⟩,.string ⟨#[97]⟩] 9)).alloc (.cells #[.string s] 9)).drew):=(B1.out.alloc B1.out.size _).drew;have Z:Hid (Below (f.alloc (.cells #[.string ⟨#[98,111,120]⟩,.string ⟨#[98,111,120,47,49]⟩,.string ⟨#[97]⟩] 9)).heap.size (f.alloc (.cells #[.string ⟨#[98,111,120]⟩,.string ⟨#[98,111,120,47,49]⟩,.string ⟨#[97]⟩] 9)) ((f.alloc (.cells #[.string ⟨#[98,111,120]⟩,.string ⟨#[98,111,120,47,49]⟩,.string ⟨#[97]⟩] 9)).alloc (.cells #[.string s] 9)).drew):=((zi _ (f.alloc (.cells #[.string ⟨#[98,111,120]⟩,.string ⟨#[98,111,120,47,49]⟩,.string ⟨#[97]⟩] 9))).alloc (ze _) _).drew;have X:Hid (vU ((f.alloc (.cells #[.string ⟨#[98,111,120]⟩,.string ⟨#[98,111,120,47,49]⟩,.string ⟨#[97]⟩] 9)).alloc (.cells #[.string s] 9)).drew (.slice (some ⟨f.heap.size+1,0,none⟩) 1 1) [s]):=hid (by have h:=iE (f.alloc (.cells #[.string ⟨#[98,111,120]⟩,.string ⟨#[98,111,120,47,49]⟩,.string ⟨#[97]⟩] 9)) s;rw[show (f.alloc (.cells #[.string ⟨#[98,111,120]⟩,.string ⟨#[98,111,120,47,49]⟩,.string ⟨#[97]⟩] 9)).heap.size=f.heap.size+1 by simp] at h;exact h);have y1:¬(9223372036854775807<1+F.size):=by omega
   have y2:¬(9223372036854775807<1+F.size+16):=by omega
   have y3:¬(9223372036854775807<1+F.size+16+L.size):=by omega
   have y4:¬(9223372036854775807<1+F.size+16+L.size+No.size):=by omega
   have y5:¬(9223372036854775807<1+F.size+16+L.size+No.size+1):=by omega
   have k0:(0:Int)<=(k:Int):=by omega
   have k1:(k:Int)<3:=by omega
   refine wp_region_noPanic ?_;refine wp_region_held_drew (S:=λn=>n.cell? ⟨w.heap.size,7,none⟩=some (.int .i64 val)/\n.cell? ⟨w.heap.size,9,none⟩=some (.int .i64 p)) (by kernel_rfl) ⟨V,T⟩ (λa=>?_);refine wpAnyH_take (i:=0) (oi:=?o29) (v:=?v29) ?hi29 (by kernel_rfl) (by kernel_rfl) (by kernel_rfl) (λ_ _ _ h=>h) (Or.inl ⟨?hw29,?hy29⟩) a ?hrest29
   case hi29=>(rw[zI];rfl)
   case hw29=>rfl
   case hy29=>(intro l c;(try dsimp only at c);go_simp;try with_reducible rfl)
   try simp only[Act.put]
   try simp only[List.setIfInBounds_toArray]
   try simp only[zK]
   try simp only[List.set_cons_zero]
   refine wpAnyH_take (i:=1) (oi:=?o30) (v:=?v30) ?hi30 (by kernel_rfl) (by kernel_rfl) (by kernel_rfl) (λ_ _ _ h=>h) (Or.inl ⟨?hw30,?hy30⟩) a ?hrest30
   case hi30=>(rw[zI];rfl)
   case hw30=>rfl
   case hy30=>(intro l c;(try dsimp only at c);go_simp;try with_reducible rfl)
   try simp only[Act.put]
   try simp only[List.setIfInBounds_toArray]
   try simp only[zK]
   try simp only[List.set_cons_zero]
   refine wpAnyH_take (i:=2) (oi:=?o31) (v:=?v31) ?hi31 (by kernel_rfl) (by kernel_rfl) (by kernel_rfl) (λ_ _ _ h=>h) (Or.inl ⟨?hw31,?hy31⟩) a ?hrest31
   case hi31=>(rw[zI];rfl)
   case hw31=>rfl
   case hy31=>(intro l c;(try dsimp only at c);go_simp;try with_reducible rfl)
   try simp only[Act.put]
   try simp only[List.setIfInBounds_toArray]
   try simp only[zK]
   try simp only[List.set_cons_zero]
   refine wpAnyH_take (i:=4) (oi:=?o32) (v:=?v32) ?hi32 (by kernel_rfl) (by kernel_rfl) (by kernel_rfl) (λ_ _ _ h=>h) (Or.inl ⟨?hw32,?hy32⟩) a ?hrest32
   case hi32=>(rw[zI];rfl)
   case hw32=>rfl
   case hy32=>(intro l c;(try dsimp only at c);go_simp;try with_reducible rfl)
   try simp only[Act.put]
   try simp only[List.setIfInBounds_toArray]
   try simp only[zK]
   try simp only[List.set_cons_zero]
   refine wpAnyH_take (i:=5) (oi:=?o33) (v:=?v33) ?hi33 (by kernel_rfl) (by kernel_rfl) (by kernel_rfl) (λ_ _ _ h=>h) (Or.inl ⟨?hw33,?hy33⟩) a ?hrest33
   case hi33=>(rw[zI];rfl)
   case hw33=>rfl
   case hy33=>(intro l c;(try dsimp only at c);go_simp;try with_reducible rfl)
   try simp only[Act.put]
   try simp only[List.setIfInBounds_toArray]
   try simp only[zK]
   try simp only[List.set_cons_zero]
   refine wpAnyH_take (i:=10) (oi:=?o34) (v:=?v34) ?hi34 (by kernel_rfl) (by kernel_rfl) (by kernel_rfl) (λ_ _ _ h=>h) (Or.inl ⟨?hw34,?hy34⟩) a ?hrest34
   case hi34=>(rw[zI];rfl)
   case hw34=>rfl
   case hy34=>(intro l c;(try dsimp only at c);go_simp;try with_reducible rfl)
   try simp only[Act.put]
   try simp only[List.setIfInBounds_toArray]
   try simp only[zK]
   try simp only[List.set_cons_zero]
   refine wpAnyH_take (i:=11) (oi:=?o35) (v:=?v35) ?hi35 (by kernel_rfl) (by kernel_rfl) (by kernel_rfl) (λ_ _ _ h=>h) (Or.inl ⟨?hw35,?hy35⟩) a ?hrest35
   case hi35=>(rw[zI];rfl)
   case hw35=>rfl
   case hy35=>(intro l c;(try dsimp only at c);go_simp;try with_reducible rfl)
   try simp only[Act.put]
   try simp only[List.setIfInBounds_toArray]
   try simp only[zK]
   try simp only[List.set_cons_zero]
   refine wpAnyH_take (i:=14) (oi:=?o36) (v:=?v36) ?hi36 (by kernel_rfl) (by kernel_rfl) (by kernel_rfl) (λ_ _ _ h=>h) (Or.inl ⟨?hw36,?hy36⟩) a ?hrest36
   case hi36=>(rw[zI];rfl)
   case hw36=>rfl
   case hy36=>(intro l c;(try dsimp only at c);go_simp;try with_reducible rfl)
   try simp only[Act.put]
   try simp only[List.setIfInBounds_toArray]
   try simp only[zK]
   try simp only[List.set_cons_zero]
   refine wpAnyH_ready (rs:=[3,6]) (by kernel_rfl) (by simp) ?rd37;refine AllReadyH.cons (o:=?oa37) ?ha37 (λK g=>?sa37) ?ma37
   case ha37=>(rw[zI];rfl)
   case sa37=>
    go_simp
    refine g.out _ _ ?sh37 (λa=>?cb37)
    case sh37=>((try dsimp only);go_keep)
    clear g K
    try simp only[Act.put]
    try simp only[List.setIfInBounds_toArray]
    try simp only[zK]
    try simp only[List.set_cons_zero]
    refine wpAnyH_ready (rs:=[6]) (by kernel_rfl) (by simp) ?rd38;refine AllReadyH.cons (o:=?ob38) ?hb38 (λK g=>?sb38) AllReadyH.nil
    case hb38=>(rw[zI];rfl)
    case sb38=>
     go_simp
     refine (G.out _).mono ?_;rintro e w6 ⟨rfl,N⟩;rw[N];clear N;go_wp2_with fail;refine g.out _ _ ?sh38 (λa=>?cb38)
     case sh38=>((try dsimp only);go_keep)
     clear g K
     try simp only[Act.put]
     try simp only[List.setIfInBounds_toArray]
     try simp only[zK]
     try simp only[List.set_cons_zero]
     have y:=vN a.1 (vN a.2 t.out);clear a;have a:=y;clear y;refine Vr (S':=λn=>n.cell? ⟨w.heap.size,7,none⟩=some (.int .i64 val)/\n.cell? ⟨w.heap.size,9,none⟩=some (.int .i64 p)/\n.cell? ⟨f.heap.size,k,none⟩=some (.string s)) (λ_ h=>⟨h.1,h.2.1⟩) ?_;refine wpAnyH_take (i:=7) (oi:=?o39) (v:=?v39) ?hi39 (by kernel_rfl) (by kernel_rfl) (by kernel_rfl) (λ_ _ _ h=>h) (Or.inl ⟨?hw39,?hy39⟩) a ?hrest39
     case hi39=>(rw[zI];rfl)
     case hw39=>rfl
     case hy39=>(intro l c;(try dsimp only at c);go_simp;try with_reducible rfl)
     try simp only[Act.put]
     try simp only[List.setIfInBounds_toArray]
     try simp only[zK]
     try simp only[List.set_cons_zero]
     refine wpAnyH_take (i:=8) (oi:=?o40) (v:=?v40) ?hi40 (by kernel_rfl) (by kernel_rfl) (by kernel_rfl) (λ_ _ _ h=>h) (Or.inl ⟨?hw40,?hy40⟩) a ?hrest40
     case hi40=>(rw[zI];rfl)
     case hw40=>rfl
     case hy40=>(intro l c;(try dsimp only at c);go_simp;try with_reducible rfl)
     try simp only[Act.put]
     try simp only[List.setIfInBounds_toArray]
     try simp only[zK]
     try simp only[List.set_cons_zero]
     refine wpAnyH_ready (rs:=[9]) (by kernel_rfl) (by simp) ?rd41;refine AllReadyH.cons (o:=?ob41) ?hb41 (λK g=>?sb41) AllReadyH.nil
     case hb41=>(rw[zI];rfl)
     case sb41=>
      go_simp
      refine g.out _ _ ?sh41 (λa=>?cb41)
      case sh41=>exact⟨zh M.out V,zh M.out T,zh Z.out t.out⟩
      clear g K
      try simp only[Act.put]
      try simp only[List.setIfInBounds_toArray]
      try simp only[zK]
      try simp only[List.set_cons_zero]
      refine wpAnyH_ready (rs:=[12]) (by kernel_rfl) (by simp) ?rd42;refine AllReadyH.cons (o:=?ob42) ?hb42 (λK g=>?sb42) AllReadyH.nil
      case hb42=>(rw[zI];rfl)
      case sb42=>
       go_simp
       refine (CL.out _ _ X.out).mono ?_;rintro e w7 ⟨rfl,E⟩;have d:=Below.step M.out E (ze _);have z7:=zh d V;have z9:=zh d T;have zq:=zh (Below.step Z.out E (ze _)) t.out;have u:=hid (Below.step D.out d (ze _));clear E d;go_wp2_with fail;refine g.out _ _ ?sh42 (λa=>?cb42)
       case sh42=>exact⟨z7,z9,zq⟩
       clear g K
       try simp only[Act.put]
       try simp only[List.setIfInBounds_toArray]
       try simp only[zK]
       try simp only[List.set_cons_zero]
       refine wpAnyH_take (i:=13) (oi:=?o43) (v:=?v43) ?hi43 (by kernel_rfl) (by kernel_rfl) (by kernel_rfl) (λ_ _ _ h=>h) (Or.inl ⟨?hw43,?hy43⟩) a ?hrest43
       case hi43=>(rw[zI];rfl)
       case hw43=>rfl
       case hy43=>(intro l c;(try dsimp only at c);go_simp;try with_reducible rfl)
       try simp only[Act.put]
       try simp only[List.setIfInBounds_toArray]
       try simp only[zK]
       try simp only[List.set_cons_zero]
       refine wpAnyH_take (i:=15) (oi:=?o44) (v:=?v44) ?hi44 (by kernel_rfl) (by kernel_rfl) (by kernel_rfl) (λ_ _ _ h=>h) (Or.inl ⟨?hw44,?hy44⟩) a ?hrest44
       case hi44=>(rw[zI];rfl)
       case hw44=>rfl
       case hy44=>(intro l c;(try dsimp only at c);go_simp;try with_reducible rfl)
       try simp only[Act.put]
       try simp only[List.setIfInBounds_toArray]
       try simp only[zK]
       try simp only[List.set_cons_zero]
       refine wpAnyH_take (i:=16) (oi:=?o45) (v:=?v45) ?hi45 (by kernel_rfl) (by kernel_rfl) (by kernel_rfl) (λ_ _ _ h=>h) (Or.inl ⟨?hw45,?hy45⟩) a ?hrest45
       case hi45=>(rw[zI];rfl)
       case hw45=>rfl
       case hy45=>(intro l c;(try dsimp only at c);go_simp;try with_reducible rfl)
       try simp only[Act.put]
       try simp only[List.setIfInBounds_toArray]
       try simp only[zK]
       try simp only[List.set_cons_zero]
       refine wpAnyH_take (i:=17) (oi:=?o46) (v:=?v46) ?hi46 (by kernel_rfl) (by kernel_rfl) (by kernel_rfl) (λ_ _ _ h=>h) (Or.inl ⟨?hw46,?hy46⟩) a ?hrest46
       case hi46=>(rw[zI];rfl)
       case hw46=>rfl
       case hy46=>(intro l c;(try dsimp only at c);go_simp;try with_reducible rfl)
       try simp only[Act.put]
       try simp only[List.setIfInBounds_toArray]
       try simp only[zK]
       try simp only[List.set_cons_zero]
       refine wpAnyH_done (by kernel_rfl) ?_ _;refine NoPanic.normal ?_;go_wp2_with fail;go_ret;exact⟨by rw[<- H.out];rfl,u.out⟩
   refine AllReadyH.cons (o:=?ob47) ?hb47 (λK g=>?sb47) AllReadyH.nil
   case hb47=>(rw[zI];rfl)
   case sb47=>
    go_simp
    refine (G.out _).mono ?_;rintro e w6 ⟨rfl,N⟩;rw[N];clear N;go_wp2_with fail;refine g.out _ _ ?sh47 (λa=>?cb47)
    case sh47=>((try dsimp only);go_keep)
    clear g K
    try simp only[Act.put]
    try simp only[List.setIfInBounds_toArray]
    try simp only[zK]
    try simp only[List.set_cons_zero]
    refine wpAnyH_ready (rs:=[3]) (by kernel_rfl) (by simp) ?rd48;refine AllReadyH.cons (o:=?ob48) ?hb48 (λK g=>?sb48) AllReadyH.nil
    case hb48=>(rw[zI];rfl)
    case sb48=>
     go_simp
     refine g.out _ _ ?sh48 (λa=>?cb48)
     case sh48=>((try dsimp only);go_keep)
     clear g K
     try simp only[Act.put]
     try simp only[List.setIfInBounds_toArray]
     try simp only[zK]
     try simp only[List.set_cons_zero]
     have y:=vN a.1 (vN a.2 t.out);clear a;have a:=y;clear y;refine Vr (S':=λn=>n.cell? ⟨w.heap.size,7,none⟩=some (.int .i64 val)/\n.cell? ⟨w.heap.size,9,none⟩=some (.int .i64 p)/\n.cell? ⟨f.heap.size,k,none⟩=some (.string s)) (λ_ h=>⟨h.1,h.2.1⟩) ?_;refine wpAnyH_take (i:=7) (oi:=?o49) (v:=?v49) ?hi49 (by kernel_rfl) (by kernel_rfl) (by kernel_rfl) (λ_ _ _ h=>h) (Or.inl ⟨?hw49,?hy49⟩) a ?hrest49
     case hi49=>(rw[zI];rfl)
     case hw49=>rfl
     case hy49=>(intro l c;(try dsimp only at c);go_simp;try with_reducible rfl)
     try simp only[Act.put]
     try simp only[List.setIfInBounds_toArray]
     try simp only[zK]
     try simp only[List.set_cons_zero]
     refine wpAnyH_take (i:=8) (oi:=?o50) (v:=?v50) ?hi50 (by kernel_rfl) (by kernel_rfl) (by kernel_rfl) (λ_ _ _ h=>h) (Or.inl ⟨?hw50,?hy50⟩) a ?hrest50
     case hi50=>(rw[zI];rfl)
     case hw50=>rfl
     case hy50=>(intro l c;(try dsimp only at c);go_simp;try with_reducible rfl)
     try simp only[Act.put]
     try simp only[List.setIfInBounds_toArray]
     try simp only[zK]
     try simp only[List.set_cons_zero]
     refine wpAnyH_ready (rs:=[9]) (by kernel_rfl) (by simp) ?rd51;refine AllReadyH.cons (o:=?ob51) ?hb51 (λK g=>?sb51) AllReadyH.nil
     case hb51=>(rw[zI];rfl)
     case sb51=>
      go_simp
      refine g.out _ _ ?sh51 (λa=>?cb51)
      case sh51=>exact⟨zh M.out V,zh M.out T,zh Z.out t.out⟩
      clear g K
      try simp only[Act.put]
      try simp only[List.setIfInBounds_toArray]
      try simp only[zK]
      try simp only[List.set_cons_zero]
      refine wpAnyH_ready (rs:=[12]) (by kernel_rfl) (by simp) ?rd52;refine AllReadyH.cons (o:=?ob52) ?hb52 (λK g=>?sb52) AllReadyH.nil
      case hb52=>(rw[zI];rfl)
      case sb52=>
       go_simp
       refine (CL.out _ _ X.out).mono ?_;rintro e w7 ⟨rfl,E⟩;have d:=Below.step M.out E (ze _);have z7:=zh d V;have z9:=zh d T;have zq:=zh (Below.step Z.out E (ze _)) t.out;have u:=hid (Below.step D.out d (ze _));clear E d;go_wp2_with fail;refine g.out _ _ ?sh52 (λa=>?cb52)
       case sh52=>exact⟨z7,z9,zq⟩
       clear g K
       try simp only[Act.put]
       try simp only[List.setIfInBounds_toArray]
       try simp only[zK]
       try simp only[List.set_cons_zero]
       refine wpAnyH_take (i:=13) (oi:=?o53) (v:=?v53) ?hi53 (by kernel_rfl) (by kernel_rfl) (by kernel_rfl) (λ_ _ _ h=>h) (Or.inl ⟨?hw53,?hy53⟩) a ?hrest53
       case hi53=>(rw[zI];rfl)
       case hw53=>rfl
       case hy53=>(intro l c;(try dsimp only at c);go_simp;try with_reducible rfl)
       try simp only[Act.put]
       try simp only[List.setIfInBounds_toArray]
       try simp only[zK]
       try simp only[List.set_cons_zero]
       refine wpAnyH_take (i:=15) (oi:=?o54) (v:=?v54) ?hi54 (by kernel_rfl) (by kernel_rfl) (by kernel_rfl) (λ_ _ _ h=>h) (Or.inl ⟨?hw54,?hy54⟩) a ?hrest54
       case hi54=>(rw[zI];rfl)
       case hw54=>rfl
       case hy54=>(intro l c;(try dsimp only at c);go_simp;try with_reducible rfl)
       try simp only[Act.put]
       try simp only[List.setIfInBounds_toArray]
       try simp only[zK]
       try simp only[List.set_cons_zero]
       refine wpAnyH_take (i:=16) (oi:=?o55) (v:=?v55) ?hi55 (by kernel_rfl) (by kernel_rfl) (by kernel_rfl) (λ_ _ _ h=>h) (Or.inl ⟨?hw55,?hy55⟩) a ?hrest55
       case hi55=>(rw[zI];rfl)
       case hw55=>rfl
       case hy55=>(intro l c;(try dsimp only at c);go_simp;try with_reducible rfl)
       try simp only[Act.put]
       try simp only[List.setIfInBounds_toArray]
       try simp only[zK]
       try simp only[List.set_cons_zero]
       refine wpAnyH_take (i:=17) (oi:=?o56) (v:=?v56) ?hi56 (by kernel_rfl) (by kernel_rfl) (by kernel_rfl) (λ_ _ _ h=>h) (Or.inl ⟨?hw56,?hy56⟩) a ?hrest56
       case hi56=>(rw[zI];rfl)
       case hw56=>rfl
       case hy56=>(intro l c;(try dsimp only at c);go_simp;try with_reducible rfl)
       try simp only[Act.put]
       try simp only[List.setIfInBounds_toArray]
       try simp only[zK]
       try simp only[List.set_cons_zero]
       refine wpAnyH_done (by kernel_rfl) ?_ _;refine NoPanic.normal ?_;go_wp2_with fail;go_ret;exact⟨by rw[<- H.out];rfl,u.out⟩
  ·go_wp2_with fail;go_ret;exact⟨by rw[<- U.out];rfl,D.out⟩
  ·have J:=λW=>uh val 14 W f4 (by decide) (by decide);have z:=Kp.xI val 14 (by decide);have q:=HP.out _ z;have I:=Kp.ZF (P:=λb=>b.size<=8) Kp.Ky (by decide) (Kp.zy val 14);have m:=U.out;simp only at m;obtain⟨k,C⟩:=Nm (Kp.zy val 14);simp only[C] at J z q I m;obtain⟨s,Y⟩:=Nm (Kp.patterns.getD k ⟨#[]⟩);rw[Y] at q I m;have O:=λW v (hv:vU W v [s,⟨#[120]⟩])=>VZ [s,⟨#[120]⟩] v p W hv f5 (by simp) (by intro b hb;simp at hb;rcases hb with rfl|rfl;exact I;decide)
   have B:=Kp.Y9 [s,⟨#[120]⟩] p (by intro b hb;simp at hb;rcases hb with rfl|rfl;exact I;decide)
   obtain⟨L,Q⟩:=Nm (Kp.vW [s,⟨#[120]⟩] p);rw[Q] at B m;simp only[uU,QW] at B;simp only[Q] at O;have G:=hid J;have CL:=hid O;have H:=hid m;clear J O Q Y HQ HP U m C
   go_upto_region 11 with fail
   obtain⟨b6,b8⟩:=f4;obtain⟨b9,c0⟩:=f5;have M:Hid (Below f.heap.size f (f.alloc (.cells #[.string s,.string ⟨#[120]⟩] 9)).drew):=(nB f _).drew;have y1:¬(9223372036854775807<1+F.size):=by omega
   have y2:¬(9223372036854775807<1+F.size+15):=by omega
   have y3:¬(9223372036854775807<1+F.size+15+L.size):=by omega
   have y4:¬(9223372036854775807<1+F.size+15+L.size+No.size):=by omega
   have y5:¬(9223372036854775807<1+F.size+15+L.size+No.size+1):=by omega
   have k0:(0:Int)<=(k:Int):=by omega
   have k1:(k:Int)<14:=by omega
   go_region_held3 (λn=>n.cell? ⟨w.heap.size,7,none⟩=some (.int .i64 val)/\n.cell? ⟨w.heap.size,9,none⟩=some (.int .i64 p)/\n.cell? ⟨w3.heap.size,k,none⟩=some (.string s)) (go_keep)
    (first
    | (go_at_call 11;refine (G.out _).mono ?_;rintro e w6 ⟨rfl,N⟩;rw[N];clear N)
    | (go_at_call 115;refine (CL.out _ _ (zaa f s)).mono ?_;rintro e w7 ⟨rfl,E⟩;have d:=Below.step M.out E (ze _);have z7:=zh d V;have z9:=zh d T;have zq:=zh d q;have u:=hid (Below.step D.out d (ze _));clear E d))
   go_wp2_with fail;go_ret;exact⟨by rw[<- H.out];rfl,u.out⟩
  ·go_wp2_with fail;go_ret;exact⟨by rw[<- U.out];rfl,D.out⟩
end Go.Proofs.YtagnlbgbnfnapaaGreatDoor
