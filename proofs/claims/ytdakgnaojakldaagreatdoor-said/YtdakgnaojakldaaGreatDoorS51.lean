/- P -/
import Derived.Test.YtdakgnaojakldaaGreatDoorS50
open Go.Proofs.Tryz
set_option maxRecDepth 100000
set_option maxHeartbeats 8000000
namespace Go.Proofs.YtdakgnaojakldaaGreatDoor
open Go.RowKit
structure SdP (w:World) (rb:Nat) (r:Ref.Req) (ao:Option Addr) (cap:Nat) (W:World):Prop where
 req:W.heap[rb]?=some (Qw (.string r.who) (.string r.act) (.string r.on) (.slice ao r.marks.length cap))
 marks:qO W ao r.marks
 below:Below w.heap.size w W
theorem SdP.cells{w:World}{a:Nat}{r:Ref.Req}{ao:Option Addr}{cap:Nat}{W:World}(h:SdP w a r ao cap W):W.cell? ⟨a,0,none⟩=some (.string r.who)/\W.cell? ⟨a,1,none⟩=some (.string r.act)/\W.cell? ⟨a,2,none⟩=some (.string r.on)/\W.cell? ⟨a,3,none⟩=some (.slice ao r.marks.length cap):=by
 have c:=λk=>(ze h.req k).1;exact⟨c 0,c 1,c 2,c 3⟩
theorem FC(w:World){j:Nat}(a:j<9):(w.alloc (.cells (Sd.zA.map Value.string).toArray 9)).cell? ⟨w.heap.size,j,none⟩=some (.string (Sd.zA.getD j ⟨#[]⟩)):=VE w Sd.zA j a
theorem az(W:World)(a:Nat)(c d e f:Value):zy (λb=>b=a) W ((((W.setCell ⟨a,0,none⟩ c).setCell ⟨a,1,none⟩ d).setCell ⟨a,2,none⟩ e).setCell ⟨a,3,none⟩ f):=
 (((zy.set (M:=λb=>b=a) W (b:=a) rfl 0 c).trans (zy.set (M:=λb=>b=a) _ (b:=a) rfl 1 d)).trans (zy.set (M:=λb=>b=a) _ (b:=a) rfl 2 e)).trans (zy.set (M:=λb=>b=a) _ (b:=a) rfl 3 f)
theorem GJ(who act on:Int)(nt deny:Bool)(layer op value:Int)(no:Bool)(ask:List Int)(tag guard:Int)(av:Value)(aL:Addr)(w:World)(hC:Z6 w aL)(hE:qD w)(h1:I64 who)(h2:I64 act)(h3:I64 on)(h4:I64 layer)(h5:I64 op)(h6:I64 value)(h7:I64 tag)(h8:I64 guard)(hA:IntsIn w av ask) :
  Calls prog 11 #[.int .i64 who,.int .i64 act,.int .i64 on,.bool nt,.bool deny,.int .i64 layer,.int .i64 op,.int .i64 value,.bool no,av,.int .i64 tag,.int .i64 guard] w λe H=>e = .returned (.bool true)/\Below w.heap.size w H:=by
 have PK:Hid (∀x,I64 x->∀W,Calls prog 19 #[.int .i64 x,.int .i64 9] W λe H=>e = .returned (.int .i64 (Kp.zS x 9:Int))/\H=W):=hid (λx hx W=>Y6 x 9 W hx (by decide) (by decide));have P4:Hid (∀x,I64 x->∀W,Calls prog 19 #[.int .i64 x,.int .i64 4] W λe H=>e = .returned (.int .i64 (Kp.zS x 4:Int))/\H=W):=hid (λx hx W=>Y6 x 4 W hx (by decide) (by decide));have r6:=λW=>Y6 op 5 W h5 (by decide) (by decide);have r7:=λW=>Y6 value 3 W h6 (by decide) (by decide);have E:=Kp.uB op 5 (by decide);obtain⟨k,hk⟩:=Nm (Kp.zS op 5);simp only[hk] at r6 E;have z1:Hid (∀W,Calls prog 19 #[.int .i64 op,.int .i64 5] W λe H=>e = .returned (.int .i64 (k:Int))/\H=W):=hid r6;have m6:=Kp.uB value 3 (by decide);obtain⟨L,o3⟩:∃p,Kp.zS value 3=p:=⟨_,rfl⟩;simp only[o3] at r7 m6;have z3:Hid (∀W,Calls prog 19 #[.int .i64 value,.int .i64 3] W λe H=>e = .returned (.int .i64 (L:Int))/\H=W):=hid r7;have mem:=λx=>Kp.ZN (l:=Sd.zA) (k:=Kp.zS x 9) (Kp.uB x 9 (by decide));have I:=λx=>FC w (j:=Kp.zS x 9) (Kp.uB x 9 (by decide));have b5:∀x,(Kp.zS x 9:Int)<9:=λx=>by have:=Kp.uB x 9 (by decide);omega
 have a7:∀x n,(0:Int)<=(Kp.zS x n:Int):=λx n=>Int.natCast_nonneg _;have ha:=mem who;have hb:=mem act;have hc:=mem on;have m8:=mem value;have hx:=mem (tag.tdiv 4);have j8:=I who;have j9:=I act;have k4:=I on;have k5:=I value;have d5:=I (tag.tdiv 4);have l1:=b5 who;have l2:=b5 act;have l3:=b5 on;have l4:=b5 value;have l5:=b5 (tag.tdiv 4);have g1:=a7 who 9;have g2:=a7 act 9;have g3:=a7 on 9;have g4:=a7 value 9;have g5:=a7 (tag.tdiv 4) 9;obtain⟨Q,a9⟩:∃W,w.alloc (.cells (Sd.zA.map Value.string).toArray 9)=W:=⟨_,rfl⟩;have b1:Below w.heap.size w Q:=by rw[<- a9];exact nb w _
 have s1:Q.heap.size=w.heap.size+1:=by rw[<- a9];simp
 simp only[a9] at I;rw[a9] at j8 j9 k4 k5 d5;have i4:=hid (FD w);rw[a9] at i4;obtain⟨a,ea⟩:∃x,Sd.zA.getD (Kp.zS who 9) ⟨#[]⟩=x:=⟨_,rfl⟩;obtain⟨b,eb⟩:∃x,Sd.zA.getD (Kp.zS act 9) ⟨#[]⟩=x:=⟨_,rfl⟩;obtain⟨c,ec⟩:∃x,Sd.zA.getD (Kp.zS on 9) ⟨#[]⟩=x:=⟨_,rfl⟩;obtain⟨v9,ev⟩:∃x,Sd.zA.getD (Kp.zS value 9) ⟨#[]⟩=x:=⟨_,rfl⟩;obtain⟨x,ex⟩:=Nm (Sd.zA.getD (Kp.zS (tag.tdiv 4) 9) ⟨#[]⟩);rw[ea] at ha j8;rw[eb] at hb j9;rw[ec] at hc k4;rw[ev] at m8 k5;rw[ex] at hx d5;obtain⟨pb,m7⟩:∃y,w.heap.size=y:=⟨_,rfl⟩;rw[m7] at j8 j9 k4 k5 d5 i4;simp only[m7] at I;have y3:=hid I;have A1:=hid m7;have z:=Sd.X8;have za:=z a ha;have zb:=z b hb;have zc:=z c hc;have zv:=z v9 m8;have O0:=hA;obtain⟨a0,c0,rfl,f4⟩:=hA;have C:=hid f4;obtain⟨n,hn⟩:=Nm ask.length;have HN:=hid hn;rw[hn];have B1:=hid b1;have HC:=hid hC;have HE:=hid hE;have HA:=hid ha;have j5:=hid hb;have j6:=hid hc;have A4:=hid m8;have HX:=hid hx;have i7:=h7.tdiv 4;have O3:(0:Int)<=(k:Int):=Int.natCast_nonneg _;have D1:(k:Int)<5:=by omega
 have D7:(0:Int)<=(L:Int):=Int.natCast_nonneg _;have D8:(L:Int)<3:=by omega
 clear f4 O0 hn hC hE ha hb hc m8 hx mem I b5 a7 a9 b1 ea eb ec ev ex m7 r6 r7 hk o3 z h5;go_enter func11,ntmps11
 go_upto_region 2 with (go_at_call 30;refine i4.out.mono ?_;rintro e w2 ⟨rfl,g⟩;rw[g];clear g)
 go_upto_region 3 with (go_at_call 19;refine (PK.out who h1 Q).mono ?_;rintro e w2 ⟨rfl,g⟩;rw[g];clear g)
 go_upto_region 4 with (go_at_call 19;refine (PK.out act h2 Q).mono ?_;rintro e w2 ⟨rfl,g⟩;rw[g];clear g)
 go_upto_region 5 with (go_at_call 19;refine (PK.out on h3 Q).mono ?_;rintro e w2 ⟨rfl,g⟩;rw[g];clear g)
 go_upto_region 6 with (go_at_call 19;refine (z1.out Q).mono ?_;rintro e w2 ⟨rfl,g⟩;rw[g];clear g)
 go_upto_region 7 with (go_at_call 19;refine (PK.out value (by assumption) Q).mono ?_;rintro e w2 ⟨rfl,g⟩;rw[g];clear g)
 obtain⟨v,hv⟩:=Nm ((if k=3 then Sd.kE.getD L ⟨#[]⟩ else v9))
 have s9:Sd.ZA k v:=by
  rw[<- hv]
  by_cases e:k=3
  ·rw[if_pos e];have hm:=Kp.ZN (l:=Sd.kE) (k:=L) m6;exact⟨Sd.Ee _ hm,λ_=>hm⟩
  ·rw[if_neg e];exact⟨A4.out,λg=>absurd g e⟩
 have w6:v.size<=5:=Sd.X8 v s9.1;have q4:=hid s9;have HV:=hid hv;clear s9 hv
 go_upto_if 81 with fail
 go_cut [30] from 81 to 86 (λv30 wc=>v30 = .string v/\Below Q.heap.size Q wc)
 case first=>
  by_cases hk3:k=3
  ·subst hk3;have i:(((3:Nat):Int)==3)=true:=rfl;rw[i];have d6:=VE Q Sd.kE L m6;have g:Sd.kE.getD L ⟨#[]⟩=v:=by have:=HV.out;rwa [if_pos rfl] at this
   rw[g] at d6;have at7:(Q.alloc (.cells #[.string ⟨#[55]⟩,.string ⟨#[49,56]⟩,.string ⟨#[45,51]⟩] 9)).cell? ⟨Q.heap.size,L,none⟩=some (.string v):=d6;have BW:Hid (Below Q.heap.size Q (Q.alloc (.cells #[.string ⟨#[55]⟩,.string ⟨#[49,56]⟩,.string ⟨#[45,51]⟩] 9))):=hid (nb Q _);have P:=hid g;clear d6 g
   go_wp2_with (go_at_call 19;refine (z3.out _).mono ?_;rintro e w2 ⟨rfl,g⟩;rw[g];clear g)
   go_meet
   case rel=>
    refine⟨?_,BW.out⟩;have g:=P.out
    have:L=0\/L=1\/L=2:=by omega
    rcases this with rfl|rfl|rfl<;>exact congrArg Value.string g
  ·have i:((k:Int)==3)=false:=by simp;omega
   rw[i];have g:v9=v:=by have:=HV.out;rwa [if_neg hk3] at this
   subst g;go_wp2_with fail
   go_meet
   case rel=>exact⟨rfl,Below.refl _ _⟩
 case rest=>
  obtain⟨rfl,b2⟩:=hcut;obtain⟨w2,F3⟩:∃y,wc=y:=⟨_,rfl⟩;rw[F3] at b2 |-;have n7:=zg b2 d5;have y4:=hid (λy=>zg b2 (y3.out y));have z2:=b2.size;have r5:=B1.out.trans (b2.mono B1.out.size);clear F3 HV z3 z1 i4 B1 j8 j9 k4 k5 d5 b2 A4
  go_upto_region 10 with fail
  obtain⟨W3,l9⟩:∃W,w2.alloc (.cells #[.string a,.string b,.string c,.slice none 0 0] 53)=W:=⟨_,rfl⟩;have b3:Below w2.heap.size w2 W3:=by rw[<- l9];exact nb w2 _
  have n3:W3.heap[w2.heap.size]?=some (Qw (.string a) (.string b) (.string c) (.slice none 0 0)):=by rw[<- l9];exact heap_alloc_new w2 _
  have c7:=hid (λy=>zg b3 (y4.out y));have B3:=r5.trans (b3.mono r5.size);have V:=zg b3 n7;obtain⟨A,F0⟩:∃y,w2.heap.size=y:=⟨_,rfl⟩;have E7:pb<A:=by have:=A1.out;omega
  have F6:w.heap.size<=A:=by have:=A1.out;omega
  rw[F0] at n3 |-;rw[l9];obtain⟨q0,f0⟩:=ze n3 0;obtain⟨q1,f1⟩:=ze n3 1;obtain⟨q2,f2⟩:=ze n3 2;obtain⟨q3,f3⟩:=ze n3 3;simp at q0 q1 q2 q3;have zr:=lt_of_block n3;have N3:=hid n3;have S:=hid B3;clear l9 b3 F0 n3 r5 B3 n7 y4 y3 s1 z2;obtain⟨a',r8⟩:∃y,(if 2<n then Sd.zA.getD (Kp.zS (ask.getD 0 0) 9) ⟨#[]⟩ else a)=y:=⟨_,rfl⟩
  obtain⟨b',s2⟩:∃y,(if 2<n then Sd.zA.getD (Kp.zS (ask.getD 1 0) 9) ⟨#[]⟩ else b)=y:=⟨_,rfl⟩
  obtain⟨c',s3⟩:∃y,(if 2<n then Sd.zA.getD (Kp.zS (ask.getD 2 0) 9) ⟨#[]⟩ else c)=y:=⟨_,rfl⟩
  have m3:=λy=>Kp.ZN (l:=Sd.zA) (k:=Kp.zS y 9) (Kp.uB y 9 (by decide));have C3:a' ∈ Sd.zA:=by rw[<- r8];split;exact m3 _;exact HA.out
  have C6:b' ∈ Sd.zA:=by rw[<- s2];split;exact m3 _;exact j5.out
  have C9:c' ∈ Sd.zA:=by rw[<- s3];split;exact m3 _;exact j6.out
  have T:=hid C3;have d3:=hid C6;have d4:=hid C9;have i6:=hid r8;have i8:=hid s2;have i9:=hid s3;clear C3 C6 C9 r8 s2 s3 m3
  go_upto_if 93 with fail
  go_cut [] from 93 to 121 (λwc=>wc.heap[A]?=some (Qw (.string a') (.string b') (.string c') (.slice none 0 0))/\zy (λy=>y=A) W3 wc)
  case first=>
   by_cases hn2:2<n
   ·have i:decide ((2:Int)<(n:Int))=true:=decide_eq_true (by omega);have e1':decide ((n:Int)>2)=true:=decide_eq_true (by omega);have k0:0<ask.length:=by rw[HN.out];omega
    have k1:1<ask.length:=by rw[HN.out];omega
    have k2:2<ask.length:=by rw[HN.out];omega
    obtain⟨j0,gb,o,ea,r0⟩:=C.out 0 _ (List.getElem?_eq_getElem k0);obtain⟨j1,gb1,o1,r9,r1⟩:=C.out 1 _ (List.getElem?_eq_getElem k1);obtain⟨j2,gb2,o2,s0,r2⟩:=C.out 2 _ (List.getElem?_eq_getElem k2);subst ea;injection r9 with r9
    injection r9 with e3 e4
    subst e3;subst e4;injection s0 with s0
    injection s0 with e3 e4
    subst e3;subst e4;have d0:ask.getD 0 0=ask[0]:=by rw[List.getD_eq_getElem?_getD,List.getElem?_eq_getElem k0];rfl
    have d1:ask.getD 1 0=ask[1]:=by rw[List.getD_eq_getElem?_getD,List.getElem?_eq_getElem k1];rfl
    have d2:ask.getD 2 0=ask[2]:=by rw[List.getD_eq_getElem?_getD,List.getElem?_eq_getElem k2];rfl
    have E0:=i6.out;have E1:=i8.out;have P:=i9.out;rw[if_pos hn2,d0] at E0;rw[if_pos hn2,d1] at E1;rw[if_pos hn2,d2] at P;have t0:=zg S.out r0;have t1:=zg S.out r1;have t2:=zg S.out r2;have y0:=c7.out ask[0];have y1:=c7.out ask[1];have y2:=c7.out ask[2];rw[E0] at y0;rw[E1] at y1;rw[P] at y2;have hg:gb≠A:=by have:=World.block_lt_of_cell? _ _ r0;simp only at this;omega
    have f7:pb≠A:=by omega
    obtain⟨x0,F7⟩:∃y,ask[0]=y:=⟨_,rfl⟩;obtain⟨x1,G0⟩:∃y,ask[1]=y:=⟨_,rfl⟩;obtain⟨x2,G1⟩:∃y,ask[2]=y:=⟨_,rfl⟩;rw[F7] at j0 t0 y0;rw[G0] at j1 t1 y1;rw[G1] at j2 t2 y2;have lu0:(Kp.zS x0 9:Int)<9:=by have:=Kp.uB x0 9 (by decide);omega
    have lu1:(Kp.zS x1 9:Int)<9:=by have:=Kp.uB x1 9 (by decide);omega
    have lu2:(Kp.zS x2 9:Int)<9:=by have:=Kp.uB x2 9 (by decide);omega
    have lv0:(0:Int)<=(Kp.zS x0 9:Int):=Int.natCast_nonneg _;have lv1:(0:Int)<=(Kp.zS x1 9:Int):=Int.natCast_nonneg _;have lv2:(0:Int)<=(Kp.zS x2 9:Int):=Int.natCast_nonneg _;have e6:(1:Int)<(n:Int):=by omega
    have e7:(2:Int)<(n:Int):=by omega
    have e8:(0:Int)<(n:Int):=by omega
    rw[Nat.add_zero] at t0;rw[i];have e9:0<n:=by omega
    have tt:=az W3 A (.string a') (.string b') (.string c') (.slice none 0 0);have A7:=hid (And.intro (And.intro (tt.cell (x:=⟨gb,o,none⟩) hg t0) (And.intro (tt.cell (x:=⟨gb,o+1,none⟩) hg t1) (tt.cell (x:=⟨gb,o+2,none⟩) hg t2))) (And.intro (tt.cell (x:=⟨pb,Kp.zS x0 9,none⟩) f7 y0) (And.intro (tt.cell (x:=⟨pb,Kp.zS x1 9,none⟩) f7 y1) (tt.cell (x:=⟨pb,Kp.zS x2 9,none⟩) f7 y2))));have TT:=hid tt;have M6:=hid (Gu N3.out (.string a') (.string b') (.string c') (.slice none 0 0));clear tt P4 HC HE HA j5 j6 HX q4 T d3 d4 i6 i8 i9 c7 C HN N3 S V E0 E1 P d0 d1 d2 F7 G0 G1 r0 r1 r2 l1 l2 l3 l4 l5 g1 g2 g3 g4 g5 za zb zc zv w6 E O3 D1 m6 D7 D8 h1 h2 h3 h4 h6 h7 h8 i7 E7 F6
    as_aux_lemma=>
     go_upto_region 11 with fail
     go_region_held3 (λH=>(H.cell? ⟨gb,o,none⟩=some (.int .i64 x0)/\H.cell? ⟨gb,o+1,none⟩=some (.int .i64 x1)/\H.cell? ⟨gb,o+2,none⟩=some (.int .i64 x2))/\H.cell? ⟨pb,Kp.zS x0 9,none⟩=some (.string a')/\H.cell? ⟨pb,Kp.zS x1 9,none⟩=some (.string b')/\H.cell? ⟨pb,Kp.zS x2 9,none⟩=some (.string c')) (first|exact A7.out|go_keep) (first
      | (go_at_call 19;refine (PK.out _ (by assumption) _).mono ?_;rintro e Z ⟨rfl,e4⟩;rw[e4];clear e4))
     go_wp2_with fail
     go_meet
     case rel=>exact⟨M6.out,(TT.out.trans (zy.of (Below.refl _ _).drew))⟩
   ·have i:decide ((2:Int)<(n:Int))=false:=decide_eq_false (by omega);have E0:=i6.out;have E1:=i8.out;have P:=i9.out;rw[if_neg hn2] at E0 E1 P;subst E0;subst E1;subst P;rw[i];go_wp2_with fail
    go_meet
    case rel=>exact⟨N3.out,zy.refl _ _⟩
  case rest=>
   obtain⟨n4,t4⟩:=hcut;obtain⟨Z,F4⟩:∃y,wc=y:=⟨_,rfl⟩;rw[F4] at n4 t4 |-;have B4:=S.out.trans (t4.below (λy hy (e:y=A)=>by omega) S.out.size);have f7:pb≠A:=by omega
   have d6:=t4.cell (x:=⟨pb,Kp.zS (tag.tdiv 4) 9,none⟩) f7 V;have G8:=lt_of_block n4;obtain⟨there,P0⟩:∃y,decide (0<Kp.zS tag 4)=y:=⟨_,rfl⟩;have c4:=P4.out tag h7 Z;have N6:=h7;obtain⟨N7,N8⟩:=h7;have N4:=hid n4;have p0:=hid B4;have C4:=hid c4;clear F4 i6 i8 i9 C HN N3 S V c7 q0 q1 q2 q3 f0 f1 f2 f3 zr t4 n4 B4 l1 l2 l3 l4 g1 g2 g3 g4 c4
   go_upto_region 13 with (go_at_call 19;refine C4.out.mono ?_;rintro e w5 ⟨rfl,e5⟩;rw[e5];clear e5)
   clear P0 C4
   go_upto_region 14 with (go_at_call 19;refine (PK.out (tag.tdiv 4) i7 Z).mono ?_;rintro e w5 ⟨rfl,e5⟩;rw[e5];clear e5)
   obtain⟨r,hr⟩:=Nm (Sd.qK a' b' c' there x);have HR:=hid hr;clear d6 hr l5 g5 i7 N6 N7 N8 PK
   go_upto_if 133 with fail
   go_cut [] from 133 to 137 (λwc=>∃ao cap,wc.heap[A]?=some (Qw (.string r.who) (.string r.act) (.string r.on) (.slice ao r.marks.length cap))/\qO wc ao r.marks/\zy (λy=>y=A) Z wc)
   case first=>
    have hr:=HR.out;clear HR
    cases there with
    | true=>
     subst hr;obtain⟨k3,f3⟩:=ze N4.out 3;simp at k3;have hs:(Z.setCell ⟨A,3,none⟩ (.slice (some ⟨Z.heap.size,0,none⟩) 1 1)).heap.size=Z.heap.size:=by simp[World.setCell]
     have M5:=hid ((Below.heap_alloc _ (.cells #[.string ⟨#[116,97,103]⟩,.string x] 62) A (by rw[hs];exact G8)).trans (heap_setCell_same Z A 3 _ _ (.slice (some ⟨Z.heap.size,0,none⟩) 1 1) N4.out));have T5:=hid ((zy.set (M:=λy=>y=A) Z (b:=A) rfl 3 (.slice (some ⟨Z.heap.size,0,none⟩) 1 1)).trans (zy.of (M:=λy=>y=A) (nb _ (.cells #[.string ⟨#[116,97,103]⟩,.string x] 62))));have a5:=heap_alloc_new (Z.setCell ⟨A,3,none⟩ (.slice (some ⟨Z.heap.size,0,none⟩) 1 1)) (.cells #[.string ⟨#[116,97,103]⟩,.string x] 62);rw[hs] at a5;have m0:=(ze a5 0).1;have m1:=(ze a5 1).1;have MK:=hid (And.intro m0 m1);clear hs a5;clear m0 m1;go_wp2_with fail
     go_meet
     case rel=>
      refine⟨some ⟨Z.heap.size,0,none⟩,1,M5.out,.inr ⟨Z.heap.size,0,rfl,λj hj=>?_⟩,T5.out⟩;have O2:j=0:=by simpa [Sd.qK] using hj
      subst O2;exact MK.out
    | false=>
     subst hr;go_wp2_with fail
     go_meet
     case rel=>exact⟨none,0,N4.out,.inl rfl,zy.refl _ _⟩
   case rest=>
    obtain⟨ao,cap,n5,w1,t5⟩:=hcut;obtain⟨w5,F5⟩:∃y,wc=y:=⟨_,rfl⟩;rw[F5] at n5 w1 t5 |-;have B5:=p0.out.trans (t5.below (λy hy (e:y=A)=>by omega) p0.out.size);have a8:SdP w A r ao cap w5:=⟨n5,w1,B5⟩;clear F5 n5 w1 t5 B5 p0 N4 G8
    go_upto_region 17 with fail
    obtain⟨W6,m2⟩:∃W,w5.alloc (.cells #[.string ⟨#[97,98,115,101,110,116]⟩,.string ⟨#[108,105,107,101]⟩,.string ⟨#[115,97,109,101]⟩,.string ⟨#[98,101,108,111,119]⟩,.string ⟨#[117,110,100,101,114]⟩] 9)=W:=⟨_,rfl⟩;have b6:Below w5.heap.size w5 W6:=by rw[<- m2];exact nb w5 _
    have r3:W6.cell? ⟨w5.heap.size,k,none⟩=some (.string (Sd.opW k)):=by rw[<- m2];exact VE w5 Sd.dV k E
    have C2:SdP w A r ao cap W6:=⟨(b6.block A (lt_of_block a8.req)).trans a8.req,a8.marks.turn (N:=λ_=>False) (zy.of b6) (λ_ _ _ _ h=>h),a8.below.trans (b6.mono a8.below.size)⟩;have p8:=hid C2;have zo:=Sd.VQ k E;obtain⟨OP,s6⟩:∃y,Sd.opW k=y:=⟨_,rfl⟩;obtain⟨T0,l0⟩:∃y,Sd.ZJ k=y:=⟨_,rfl⟩;obtain⟨T1,l6⟩:∃y,Sd.ZK k v=y:=⟨_,rfl⟩;obtain⟨T2,l7⟩:∃y,Sd.uZ k v no=y:=⟨_,rfl⟩;obtain⟨PP,k9⟩:∃y,Sd.Z4 nt a=y:=⟨_,rfl⟩;obtain⟨EF,k8⟩:∃y,Sd.ku deny=y:=⟨_,rfl⟩;obtain⟨TD,s7⟩:∃y,Sd.Ql deny nt no k a b c v=y:=⟨_,rfl⟩;obtain⟨nn,v0⟩:∃y,(if deny then Kp.zS layer 4 else 2)=y:=⟨_,rfl⟩
    have m4:nn<4:=by rw[<- v0];split;exact Kp.uB layer 4 (by decide);decide
    have R5:T0.size<=26:=by rw[<- l0];exact Sd.KF E
    have R6:T1.size<=42:=by rw[<- l6];exact Sd.KG E w6
    have R7:T2.size<=52:=by rw[<- l7];exact Sd.nX E w6
    have R4:PP.size<=15:=by rw[<- k9];exact Sd.ML za
    have R3:EF.size<=5:=by rw[<- k8];cases deny<;>decide
    have E0:Hid (⟨#[123,34,111,112,34,58,34]⟩++OP++⟨#[34,44,34,107,101,121,34,58,34,116,97,103,34]⟩=T0):=hid (by rw[<- s6,<- l0];rfl);have E1:Hid ((if 0<k then T0++⟨#[44,34,118,97,108,117,101,34,58,34]⟩++v++⟨#[34]⟩ else T0)=T1):=hid (by rw[<- l0,<- l6];rfl)
    have P:Hid ((if no then T1++⟨#[44,34,110,111,34,58,116,114,117,101]⟩ else T1)=T2):=hid (by rw[<- l6,<- l7];rfl)
    have E3:Hid ((if nt then ⟨#[123,34,110,111,116,34,58,34]⟩++a++⟨#[34,125]⟩ else ⟨#[34]⟩++a++⟨#[34]⟩)=PP):=hid k9
    have E4:Hid ((if deny then ⟨#[100,101,110,121]⟩ else ⟨#[97,108,108,111,119]⟩:BY)=EF):=hid k8
    have E5:Hid (⟨#[123,34,115,116,97,116,101,109,101,110,116,34,58,91,123,34,101,102,102,101,99,116,34,58,34]⟩++EF++⟨#[34,44,34,119,104,111,34,58]⟩++PP++⟨#[44,34,100,111,34,58,34]⟩++b++⟨#[34,44,34,111,110,34,58,34]⟩++c++⟨#[34,44,34,105,102,34,58,91]⟩++T2++⟨#[125,93,125,93,125]⟩=TD):=hid (by rw[<- k8,<- k9,<- l7,<- s7];rfl);have E6:=hid v0;have z5:=hid s7;rw[s6] at r3 zo;obtain⟨lb,D3⟩:∃y,w5.heap.size=y:=⟨_,rfl⟩;rw[D3] at r3 |-;rw[m2];clear m2 b6 a8 C2 s6 l0 l6 l7 k9 k8 s7 v0 D3
    go_upto_region 18 with fail
    rw[E0.out];clear E0 r3 zo
    go_upto_if 146 with fail
    go_cut [35] from 146 to 151 (λs F=>s = .string T1/\F=W6)
    case first=>
     have i:=E1.out
     by_cases h0:0<k
     ·have d:decide (0<k)=true:=decide_eq_true h0;rw[if_pos h0] at i;rw[d];have u:=hid i;clear i E1;go_wp2_with fail
      go_meet
      case rel=>exact⟨by rw[u.out],rfl⟩
     ·have d:decide (0<k)=false:=decide_eq_false h0;rw[if_neg h0] at i;rw[d];have u:=hid i;clear i E1;go_wp2_with fail
      go_meet
      case rel=>exact⟨by rw[u.out],rfl⟩
    case rest=>
     obtain⟨rfl,f⟩:=hcut;rw[f];clear f E1 R5
     go_upto_if 152 with fail
     go_cut [35] from 152 to 154 (λs F=>s = .string T2/\F=W6)
     case first=>
      have i:=P.out;clear P
      cases no with
      | true=>
       have u:=hid i;clear i;go_wp2_with fail
       go_meet
       case rel=>exact⟨by rw[<- u.out];rfl,rfl⟩
      | false=>
       have u:=hid i;clear i;go_wp2_with fail
       go_meet
       case rel=>exact⟨by rw[<- u.out];rfl,rfl⟩
     case rest=>
      obtain⟨rfl,f⟩:=hcut;rw[f];clear f P R6
      go_upto_if 158 with fail
      go_cut [36] from 158 to 161 (λs F=>s = .string PP/\F=W6)
      case first=>
       have i:=E3.out;clear E3
       cases nt with
       | true=>
        have u:=hid i;clear i;go_wp2_with fail
        go_meet
        case rel=>exact⟨by rw[<- u.out];rfl,rfl⟩
       | false=>
        have u:=hid i;clear i;go_wp2_with fail
        go_meet
        case rel=>exact⟨by rw[<- u.out];rfl,rfl⟩
      case rest=>
       obtain⟨rfl,f⟩:=hcut;rw[f];clear f E3
       go_upto_if 162 with fail
       go_cut [37,38] from 162 to 164 (λs t F=>s = .string EF/\t = .int .i64 (nn:Int)/\F=W6)
       case first=>
        have i:=E4.out;have g:=E6.out;clear E4 E6
        cases deny with
        | true=>
         have u:=hid i;have P:=hid g;have cL:=hid (P4.out layer h4 W6);clear i g
         go_wp2_with (go_at_call 19;refine cL.out.mono ?_;rintro e w7 ⟨rfl,e7⟩;rw[e7];clear e7)
         go_meet
         case rel=>exact⟨by rw[<- u.out];rfl,by rw[<- P.out];rfl,rfl⟩
        | false=>
         have u:=hid i;have P:=hid g;clear i g;go_wp2_with fail
         go_meet
         case rel=>exact⟨by rw[<- u.out];rfl,by rw[<- P.out];rfl,rfl⟩
       case rest=>
        obtain⟨rfl,rfl,f⟩:=hcut;rw[f];clear f E4
        go_upto_region 31 with fail
        rw[E5.out];clear E5 R7 R4 R3;obtain⟨B,m5⟩:∃y,W6.heap.size=y:=⟨_,rfl⟩;have X2:A<B:=by rw[<- m5];exact lt_of_block p8.out.req
        have Z1:w.heap.size<=B:=by omega
        have cn:=DV (λb=>b=W6.heap.size) W6 rfl
        have C0:vJ (λb=>b=B) (SdP w A r ao cap) W6:=λW' t=>by
         have hp:=p8.out;refine⟨(t.block A (lt_of_block hp.req) (λe:A=B=>by omega)).trans hp.req,?_,hp.below.trans (t.below (λy hy (e:y=B)=>by omega) hp.below.size)⟩
         rcases hp.marks with hm|⟨mb,o,e,hc⟩
         ·exact .inl hm
         ·refine .inr ⟨mb,o,e,λj hj=>?_⟩;have hl:=World.block_lt_of_cell? _ _ (hc j hj).1;simp only at hl;have D5:mb≠B:=by omega
          exact⟨t.cell (x:=⟨mb,_,none⟩) D5 (hc j hj).1,t.cell (x:=⟨mb,_,none⟩) D5 (hc j hj).2⟩
        rw[m5] at cn;obtain⟨p1,p2⟩:=Sd.Eu deny nt no E HA.out j5.out j6.out q4.out m4;rw[z5.out] at p1 p2;obtain⟨app,e0⟩:∃y,Sd.appW nt no k a b c v a' b' c' there x=y:=⟨_,rfl⟩;have q:=Sd.lT deny nt no E HA.out j5.out j6.out q4.out T.out d3.out d4.out there HX.out;rw[e0,HR.out] at q;have i1:=Sd.rC deny nt no k a b c v r;have i2:=Sd.rA deny nt no k a b c v r;rw[q] at i1 i2;have v1:Ref.xe r=true:=by rw[<- HR.out];exact Sd.Gt T.out d3.out d4.out there HX.out
        have t6:Pg.reqLen r:=by rw[<- HR.out];exact Sd.Gs T.out d3.out d4.out there HX.out
        have t8:deny=false->nn=2:=λe=>by rw[<- E6.out,e];rfl
        have a4:=Sd.J7 i1 i2 m4 t8;obtain⟨K,D⟩:∃s,upd qI nn [(Sd.yg,[Sd.stW deny nt no k a b c v])]=s:=⟨_,rfl⟩;rw[D] at p2 a4;obtain⟨R,v7⟩:∃y:Int,((Sd.UE deny app:Nat):Int)=y:=⟨_,rfl⟩
        have y7:Hid (∃(dl:Int) (dd:BY) (ds:Int),(app=true->dl=(nn:Int)/\dd=⟨#[100,111,99]⟩/\ds=1)/\∀(W:World),qU (λb=>b=B) W B K->SdP w A r ao cap W->Calls prog 25 #[.pointer (some ⟨B,0,none⟩),.agg #[.string r.who,.string r.act,.string r.on,.slice ao r.marks.length cap]] W λe H=>e = .returned (.tuple #[.agg #[.int .i64 R,.int .i64 dl,.string dd,.int .i64 ds],.int .i64 0])/\Below W.heap.size W H):=hid (by
         refine⟨(((De.xC K r).layer:Nat):Int),(De.xC K r).doc,(((De.xC K r).stmt:Nat):Int),λe=>?_,λW hO hW=>?_⟩
         ·rw[a4,e];exact⟨rfl,rfl,rfl⟩
         ·have c:=KW v1 t6 B K _ W ao cap hO hW.marks (HE.out.below hW.below)
          have hv:(((De.xC K r).verdict:Nat):Int)=R:=by
           rw[a4,<- v7];unfold Sd.UE
           cases app<;>cases deny<;>rfl
          rw[hv] at c;exact c)
        have p5:=hid (λ(W:World) (hW:SdP w A r ao cap W) (ho:qU (λb=>b=B) W B qI) (hz:B<W.heap.size)=>fA B qI (nn:Int) ⟨#[100,111,99]⟩ TD (λb=>b=B) aL W (HC.out.below hW.below) ho (λb hb=>by rw[hb];exact hz) (by unfold maxLen;decide));have C7:Sd.yg=⟨#[100,111,99]⟩:=rfl;rw[C7] at p1 p2;rw[p1,p2] at p5;have CY:=hid (λW=>MU k E x v there W);obtain⟨ye,w0⟩:∃y,Sd.kJ k x there v=y:=⟨_,rfl⟩;rw[w0] at CY;have c9:Hid ((((a'.toList==a.toList) != nt)&&(b'.toList==b.toList)&&(c'.toList==c.toList)&&(ye != no))=app):=hid (by rw[<- e0,<- w0];rfl);have F1:r.who=a'/\r.act=b'/\r.on=c':=by rw[<- HR.out];exact⟨rfl,rfl,rfl⟩
        have A2:=hid F1;have z7:=hid C0;have CN:=hid cn;have q5:=hid v7;have A3:=hid D;have I1:=hid i1;have I2:=hid i2;have M2:=hid v1;have L9:=hid t6;have M0:=hid t8;have M1:=hid m5;clear m5 cn C0 p1 p2 e0 q i1 i2 v1 t6 t8 a4 D v7 w0 F1 C7 p8 z5
        go_upto_region 34 with (go_at_call 21;refine CN.out.mono ?_;rintro e w8 ⟨rfl,b8,o8⟩;rw[<- M1.out] at b8;have O8:=hid o8;have F8:=hid (z7.out.step b8);have z8:B<w8.heap.size:=lt_of_block o8.row.choose_spec.1;clear b8 o8)
        go_upto_region 35 with (go_at_call 24;refine (p5.out w8 F8.out.now O8.out z8).mono ?_;rintro e w9 ⟨rfl,t9,o9⟩;have O9:=hid o9;have F9:=hid (F8.out.one t9 rfl);have z9:B<w9.heap.size:=Nat.lt_of_lt_of_le z8 t9.size;clear t9 o9)
        clear O8 F8 z8 p5 CN z7
        go_upto_region 36 with (go_at_call 31;refine (CY.out w9).mono ?_;rintro e w10 ⟨rfl,B7⟩;rw[B7];clear B7)
        obtain⟨q0,q1,q2,q3⟩:=F9.out.now.cells;obtain⟨v2,v3,v4⟩:=A2.out;rw[v2] at q0;rw[v3] at q1;rw[v4] at q2
        go_cut [43] from 195 to 217 (λs F=>s = .bool app/\F=w9)
        case first=>
         have q:=c9.out;clear c9
         as_aux_lemma=>
          by_cases c1:(a'.toList==a.toList)=nt
          ·have X:((a'.toList==a.toList) != nt)=false:=by simp[c1]
           rw[X] at q;have u:=hid q;clear q X;go_wp2_with fail
           go_meet
           case rel=>exact⟨by rw[<- u.out];rfl,rfl⟩
          ·have X:((a'.toList==a.toList) != nt)=true:=by simp[c1]
           rw[X] at q
           cases c2:(b'.toList==b.toList) with
           | false=>
            rw[c2] at q;have u:=hid q;clear q X;go_wp2_with fail
            go_meet
            case rel=>exact⟨by rw[<- u.out];rfl,rfl⟩
           | true=>
            cases c3:(c'.toList==c.toList) with
            | false=>
             rw[c2,c3] at q;have u:=hid q;clear q X;go_wp2_with fail
             go_meet
             case rel=>exact⟨by rw[<- u.out];rfl,rfl⟩
            | true=>
             rw[c2,c3] at q;have u:=hid q;have CE:Hid (((a'.toList==a.toList)==nt)=false):=hid (by simp[c1]);clear q X;go_wp2_with fail
             go_meet
             case rel=>exact⟨by rw[<- u.out,CE.out];rfl,rfl⟩
        case rest=>
         obtain⟨rfl,f⟩:=hcut;rw[f];clear f c9 CY
         go_upto_region 38 with fail
         go_cut [221] from 218 to 220 (λs F=>s = .bool (app&&deny)/\F=w9)
         case first=>
          cases app with
          | true=>
           go_wp2_with fail
           go_meet
           case rel=>exact⟨rfl,rfl⟩
          | false=>
           go_wp2_with fail
           go_meet
           case rel=>exact⟨rfl,rfl⟩
         case rest=>
         obtain⟨rfl,f⟩:=hcut;rw[f];clear f
         go_upto_if 221 with fail
         go_cut [44] from 221 to 222 (λs F=>s = .int .i64 R/\F=w9)
         case first=>
          have i:=q5.out
          cases app with
          | true=>
           cases deny with
           | true=>
            have u:=hid i;clear i;go_wp2_with fail
            go_meet
            case rel=>exact⟨by rw[<- u.out];rfl,rfl⟩
           | false=>
            have u:=hid i;clear i;go_wp2_with fail
            go_meet
            case rel=>exact⟨by rw[<- u.out];rfl,rfl⟩
          | false=>
           rw[Bool.false_and];have u:=hid i;clear i;go_wp2_with fail
           go_meet
           case rel=>exact⟨by rw[<- u.out];rfl,rfl⟩
         case rest=>
          obtain⟨rfl,f⟩:=hcut;rw[f];clear f;obtain⟨dl,dd,ds,b0,cd⟩:=y7.out;have CD:=hid cd;have p7:=hid b0;clear cd b0 y7;rw[<- v2] at q0;rw[<- v3] at q1;rw[<- v4] at q2;clear v2 v3 v4
          go_upto_region 43 with (go_at_call 25;refine (CD.out w9 O9.out F9.out.now).mono ?_;rintro e O ⟨rfl,k6⟩;have A9:=hid (O9.out.below k6);have z6:=hid (F9.out.step k6);have G7:B<O.heap.size:=Nat.lt_of_lt_of_le z9 k6.size;clear k6)
          obtain⟨U,a3⟩:∃W,O.alloc (.cells #[.int .i64 R,.int .i64 dl,.string dd,.int .i64 ds] 48)=W:=⟨_,rfl⟩;have k7:Below O.heap.size O U:=by rw[<- a3];exact nb O _
          have Y:U.heap[O.heap.size]?=some (xN (.int .i64 R) (.int .i64 dl) (.string dd) (.int .i64 ds)):=by rw[<- a3];exact heap_alloc_new O _
          have q8:=hid (A9.out.below k7);have j3:=hid (z6.out.step k7);have z12:B<U.heap.size:=Nat.lt_of_lt_of_le G7 k7.size;obtain⟨ab,C5⟩:∃y,O.heap.size=y:=⟨_,rfl⟩;rw[C5] at Y G7 |-;rw[a3];have x0:=(ze Y 0).1;have x1:=(ze Y 1).1;have x2:=(ze Y 2).1;have x3:=(ze Y 3).1;simp at x0 x1 x2 x3;have q6:=hid Y;have Q1:(R != R)=false:=by simp
          clear a3 k7 Y C5 A9 z6 O9 F9 z9 CD q0 q1 q2 q3
          go_cut [259] from 229 to 258 (λs F=>s = .bool false/\F=U)
          case first=>
           have b0:=p7.out;clear p7
           as_aux_lemma=>
            cases app with
            | true=>
             obtain⟨rfl,rfl,rfl⟩:=b0 rfl;have nnn:((nn:Int) != (nn:Int))=false:=by simp
             clear b0;go_wp2_with fail
             go_meet
             case rel=>exact⟨rfl,rfl⟩
            | false=>
             clear b0;go_wp2_with fail
             go_meet
             case rel=>exact⟨rfl,rfl⟩
          case rest=>
           obtain⟨rfl,f⟩:=hcut;rw[f];clear f Q1 x0 x1 x2 x3 p7;have O6:=Kp.uB guard 4 (by decide);have cg:=P4.out guard h8 U;obtain⟨G,o4⟩:∃y,Kp.zS guard 4=y:=⟨_,rfl⟩;rw[o4] at O6 cg;obtain⟨J,o0⟩:∃y,decide (1<G)=y:=⟨_,rfl⟩;obtain⟨c5,b4⟩:∃y,(if J then Sd.je else a')=y:=⟨_,rfl⟩
           have f5:Kp.UL K:=q8.out.good;have D:=A3.out;obtain⟨b9,L,p4,f6⟩:=Sd.Md (Sd.stW deny nt no k a b c v) T.out J (n:=nn) (m:=G % 2) m4 (by omega) (by rw[D];exact f5);rw[D,b4] at L p4;have t3:=Sd.wI (x:=x) T.out d3.out d4.out there J;rw[b4,HR.out] at t3;rw[b4] at f6;have F2:=Sd.J9 I1.out I2.out (Sd.wJ c5 r) ((Sd.wH c5 r).trans t3) m4 (by omega:G % 2<2) M0.out f6;obtain⟨wm,v6⟩:∃y:Int,((Sd.iA deny app J:Nat):Int)=y:=⟨_,rfl⟩;have zw1:c5.size<=6:=by rw[<- b4];exact (Sd.ah T.out J).2.2
           obtain⟨TG,s8⟩:∃y,Sd.Qq c5=y:=⟨_,rfl⟩;rw[s8] at L p4;have EG:Hid (⟨#[123,34,115,116,97,116,101,109,101,110,116,34,58,91,123,34,101,102,102,101,99,116,34,58,34,97,108,108,111,119,34,44,34,119,104,111,34,58,34]⟩++c5++⟨#[34,44,34,100,111,34,58,34,42,34,44,34,111,110,34,58,34,42,34,125,93,125]⟩=TG):=hid s8;have i3:=hid (λ(W:World) (hW:SdP w A r ao cap W) (ho:qU (λb=>b=B) W B K) (hz:B<W.heap.size)=>fA B K ((G % 2:Nat):Int) ⟨#[103,117,97,114,100]⟩ TG (λb=>b=B) aL W (HC.out.below hW.below) ho (λb hb=>by rw[hb];exact hz) (by unfold maxLen;decide));have C8:Sd.Zc=⟨#[103,117,97,114,100]⟩:=rfl;rw[C8] at L p4;rw[L,p4] at i3
           have z0:Hid (∃(dl:Int) (dd:BY) (ds:Int),∀(W:World),qU (λb=>b=B) W B b9->SdP w A r ao cap W->Calls prog 25 #[.pointer (some ⟨B,0,none⟩),.agg #[.string r.who,.string r.act,.string r.on,.slice ao r.marks.length cap]] W λe H=>e = .returned (.tuple #[.agg #[.int .i64 wm,.int .i64 dl,.string dd,.int .i64 ds],.int .i64 0])/\Below W.heap.size W H):=hid (by
            refine⟨(((De.xC b9 r).layer:Nat):Int),(De.xC b9 r).doc,(((De.xC b9 r).stmt:Nat):Int),λW hO hW=>?_⟩;have c:=KW M2.out L9.out B b9 _ W ao cap hO hW.marks (HE.out.below hW.below)
            have hv:(((De.xC b9 r).verdict:Nat):Int)=wm:=by
             rw[De.ME,F2,<- v6]
             rfl
            rw[hv] at c;exact c)
           have D4:Int.tmod (G:Int) 2=((G % 2:Nat):Int):=by rw[Int.tmod_eq_emod_of_nonneg (by omega)];omega
           have t7:(G:Int) % 2=((G % 2:Nat):Int):=by omega
           obtain⟨pm,D9⟩:∃y,G % 2=y:=⟨_,rfl⟩;rw[D9] at D4 t7 i3;have Z2:(0:Int)<=(G:Int):=Int.natCast_nonneg _;obtain⟨q0,q1,q2,q3⟩:=j3.out.now.cells;have A6:=hid v6;have A5:=hid b4;have CG:=hid cg;have a1:=hid o0;have E9:=A2.out.1;rw[E9] at q0;clear f5 D L p4 f6 t3 F2 v6 b4 s8 C8 o4 cg o0 D9 E9
           go_upto_region 47 with (go_at_call 19;refine CG.out.mono ?_;rintro e w13 ⟨rfl,B8⟩;rw[B8];clear B8)
           clear CG
           go_upto_if 265 with fail
           go_cut [48] from 265 to 265 (λs F=>s = .string c5/\F=U)
           case first=>
            have i:=A5.out;have g:=a1.out
            by_cases hf:1<G
            ·have d:decide (1<G)=true:=decide_eq_true hf;have d':decide ((1:Int)<(G:Int))=true:=decide_eq_true (by omega);rw[d] at g;subst g;have u:=hid i
             first|rw[d]|rw[d']
             clear i;go_wp2_with fail
             go_meet
             case rel=>exact⟨by rw[<- u.out];rfl,rfl⟩
            ·have d:decide (1<G)=false:=decide_eq_false hf;have d':decide ((1:Int)<(G:Int))=false:=decide_eq_false (by omega);rw[d] at g;subst g;have u:=hid i
             first|rw[d]|rw[d']
             clear i;go_wp2_with fail
             go_meet
             case rel=>exact⟨by rw[<- u.out];rfl,rfl⟩
           case rest=>
            obtain⟨rfl,f⟩:=hcut;rw[f];clear f A5
            go_upto_region 50 with (go_at_call 24;rw[EG.out];refine (i3.out U j3.out.now q8.out z12).mono ?_;rintro e w3 ⟨rfl,t14,G3⟩;have B0:=hid G3;have j4:=hid (j3.out.one t14 rfl);have n14:=(t14.block ab (lt_of_block q6.out) (λe:ab=B=>by omega)).trans q6.out;have q7:=hid n14;clear t14 G3 n14)
            clear q8 j3 z12 q6 i3 EG q0 q1 q2 q3
            go_cut [281] from 276 to 280 (λs F=>s = .bool (decide (R=1)&&J)/\F=w3)
            case first=>
             have g:=a1.out;clear a1
             by_cases h1:R=1
             ·have d1:(R==1)=true:=by simp[h1]
              have d2:decide (R=1)=true:=decide_eq_true h1
              by_cases hf:1<G
              ·have d:decide (1<G)=true:=decide_eq_true hf;have d':decide ((1:Int)<(G:Int))=true:=decide_eq_true (by omega);rw[d] at g;subst g;have D2:=hid d2;clear d2;go_wp2_with fail
               go_meet
               case rel=>exact⟨by rw[D2.out];rfl,rfl⟩
              ·have d:decide (1<G)=false:=decide_eq_false hf;have d':decide ((1:Int)<(G:Int))=false:=decide_eq_false (by omega);rw[d] at g;subst g;have D2:=hid d2;clear d2;go_wp2_with fail
               go_meet
               case rel=>exact⟨by rw[D2.out];rfl,rfl⟩
             ·have d1:(R==1)=false:=by simp[h1]
              have d2:decide (R=1)=false:=decide_eq_false h1;have D2:=hid d2;clear d2;go_wp2_with fail
              go_meet
              case rel=>exact⟨by rw[D2.out];rfl,rfl⟩
            case rest=>
            obtain⟨rfl,f⟩:=hcut;rw[f];clear f a1
            go_upto_if 281 with fail
            go_cut [44] from 281 to 281 (λs F=>s = .int .i64 wm/\F=w3)
            case first=>
             have i:=q5.out;have e3:=A6.out
             have key:(decide (R=1)&&J)=true/\(3:Int)=wm\/(decide (R=1)&&J)=false/\R=wm:=by
              rw[<- i,<- e3];unfold Sd.UE Sd.iA
              cases app<;>cases deny<;>cases J<;>decide
             clear i e3
             rcases key with ⟨k1,k2⟩|⟨k1,k2⟩
             ·rw[k1];subst k2;clear A6 q5;go_wp2_with fail
              go_meet
              case rel=>exact⟨rfl,rfl⟩
             ·rw[k1];have K2:=hid k2;clear k2;go_wp2_with fail
              go_meet
              case rel=>exact⟨by rw[K2.out],rfl⟩
            case rest=>
             obtain⟨rfl,f⟩:=hcut;rw[f];obtain⟨dl,dd,ds,cd⟩:=z0.out;have CD:=hid cd;obtain⟨q0,q1,q2,q3⟩:=j4.out.now.cells;have wmm:(wm==wm)=true:=by simp
             clear f cd z0
             go_upto_region 53 with (go_at_call 25;refine (CD.out w3 B0.out j4.out.now).mono ?_;rintro e G6 ⟨rfl,r4⟩;have p6:=hid (j4.out.step r4);have b7:=(r4.block ab (lt_of_block q7.out)).trans q7.out;obtain⟨k0,f0⟩:=ze b7 0;obtain⟨k1,f1⟩:=ze b7 1;obtain⟨k2,f2⟩:=ze b7 2;obtain⟨k3,f3⟩:=ze b7 3;simp at k0 k1 k2 k3;have A8:=hid b7;clear b7 r4)
             have t16:=az G6 ab (.int .i64 wm) (.int .i64 dl) (.string dd) (.int .i64 ds);have M9:=(Qk A8.out (.int .i64 wm) (.int .i64 dl) (.string dd) (.int .i64 ds)).1;obtain⟨W16,n8⟩:∃W,(((G6.setCell ⟨ab,0,none⟩ (.int .i64 wm)).setCell ⟨ab,1,none⟩ (.int .i64 dl)).setCell ⟨ab,2,none⟩ (.string dd)).setCell ⟨ab,3,none⟩ (.int .i64 ds)=W:=⟨_,rfl⟩;rw[n8] at t16 M9 |-;have BE:=hid (p6.out.now.below.trans (t16.below (λy hy (e:y=ab)=>by omega) p6.out.now.below.size));clear t16 n8 p6 A8 k0 k1 k2 k3 f0 f1 f2 f3 B0 j4 q7 CD q0 q1 q2 q3;go_wp2_with fail;go_ret;exact⟨rfl,BE.out⟩
end Go.Proofs.YtdakgnaojakldaaGreatDoor
