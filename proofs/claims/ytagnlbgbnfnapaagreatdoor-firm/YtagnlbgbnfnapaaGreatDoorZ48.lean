/- P -/
import Derived.Test.YtagnlbgbnfnapaaGreatDoorZ47
open Go.Proofs.Tryz
set_option maxRecDepth 100000
set_option maxHeartbeats 16000000
namespace Go.Proofs.YtagnlbgbnfnapaaGreatDoor
open Go.RowKit
structure Uy (P:World->Prop) (ab:Nat) (av:Int) (W:World):Prop where
 p:P W
 alone:W.cell? ⟨ab,0,none⟩=some (.int .i64 av)
theorem vO.box{N:Nat->Prop}{P:World->Prop}{W:World}{a:Nat}{b:Int}(h:vO N P W)(d:W.cell? ⟨a,0,none⟩=some (.int .i64 b))(e:¬N a):vO N (Uy P a b) W:=λc t=>⟨h c t,t.cell (x:=⟨a,0,none⟩) e d⟩
theorem Lh(W:World)(db:Nat)(a c d e:Value):zC (λb=>b=db) W ((((W.setCell ⟨db,0,none⟩ a).setCell ⟨db,1,none⟩ c).setCell ⟨db,2,none⟩ d).setCell ⟨db,3,none⟩ e):=
 (((zC.set (M:=λb=>b=db) W (b:=db) rfl 0 a).trans (zC.set (M:=λb=>b=db) _ (b:=db) rfl 1 c)).trans (zC.set (M:=λb=>b=db) _ (b:=db) rfl 2 d)).trans (zC.set (M:=λb=>b=db) _ (b:=db) rfl 3 e)
theorem IE(l:List Kp.qp)(rules:List Kp.zm)(layer:Int)(more:List Kp.qp)(raw:List Int)(lv rv mv G:Value)(aL:Addr)(w:World)(hC:Qh w aL)(hE:xK w)(h:XA w lv l)(hm:l.length<=maxLen)(hR:uY w rv rules)(j7:rules.length<=1099511627776)(j5:I64 layer)(L8:XA w mv more)(O0:more.length<=maxLen)(hA:IntsIn w G raw) :
  Calls prog 4 #[lv,rv,.int .i64 layer,mv,G] w λe Y=>e = .returned (.bool true)/\Below w.heap.size w Y:=by
 have co:=λ(W:World) (hb:Below w.heap.size w W)=>gF l lv aL W (hC.below hb) (h.below hb) hm;obtain⟨hG,hM⟩:=Kp.PE l;obtain⟨st,e6⟩:∃s,Kp.uL l=s:=⟨_,rfl⟩;rw[e6] at hG hM;unfold UF at co;simp only[e6] at co;have CO:=hid co;have f7:=hid (rU aL w hC hE);have c1:=λW=>uh layer 4 W j5 (by decide) (by decide);have hi4:=Kp.xI layer 4 (by decide);obtain⟨i,hi⟩:=Nm (Kp.zy layer 4);rw[hi] at hi4;simp only[hi] at c1;have CL:Hid (∀W,Calls prog 11 #[.int .i64 layer,.int .i64 4] W λe Y=>e = .returned (.int .i64 (i:Int))/\Y=W):=hid c1;obtain⟨r,hr⟩:=Nm (Kp.xe raw);have ca:=λ(W:World) (hb:Below w.heap.size w W)=>mO raw G W (hA.below hb);simp only[hr] at ca;have CA:=hid ca;have DV:=hid (λ(z:Nat) (s:StO) (M:Nat->Prop) (W:World) (ao:Option Addr) (cap:Nat) (ho:qN M W z s) (hms:xD W ao r.marks) (hb:Below w.heap.size w W)=>Gf hr z s M W ao cap ho hms (hE.below hb));have HC:=hid hC;have HG:=hid hG;have HM:=hid hM;have HR:=hid hR;have k9:=hid L8
 have C4:(Kp.Zb rules).length<=maxLen:=by
  unfold Kp.Zb maxLen
  split
  ·simp
  ·rw[qg];omega
 have hdn:=Kp.oG rules;obtain⟨a0,c0,rfl,_⟩:=h;obtain⟨a1,c1',rfl,_⟩:=hR;obtain⟨a3,c3,rfl,_⟩:=L8;obtain⟨a4,c4,rfl,_⟩:=hA;obtain⟨n,D3⟩:=Nm rules.length;obtain⟨m,D2⟩:=Nm more.length;rw[D3] at j7 HR |-;rw[D2] at O0 k9 |-;have d7:=hid D3;have z0:=hid D2;unfold maxLen at O0;obtain⟨i0,M9,R0,R1,R2⟩:=jl SK;have hii:(0:Int)<=(i:Int):=jL _;obtain⟨v0,e7⟩:∃x,((De.yA st r:Nat):Int)=x:=⟨_,rfl⟩;have z3:=hid e7;clear co hG hM e6 hC hE D3 D2 c1 hi ca hr e7;go_enter func4,ntmps4
 go_upto_region 5 with (first
  | (go_at_call 8;refine (CO.out w1 B1.out).mono ?_;rintro e w2 ⟨oa,rfl,h1,h2,b2,o2⟩;have y7:Hid (jr w w2 oa (λb=>b=oa) st):=hid ⟨B1.out.trans (b2.mono B1.out.size),o2,jy B1.out.size h1,h2⟩;clear b2 o2)
  | (go_at_call 7;refine f7.out.mono ?_;rintro e w1 ⟨rfl,b1⟩;have B1:=hid b1;clear b1))
 clear B1 CO f7 h1 h2
 go_upto_region 6 with (go_at_call 9;refine (CA.out w2 y7.out.below).mono ?_;rintro e w3 ⟨ao,cap,rfl,R3,b3⟩;have z4:=hid R3;have h6:=hid (y7.out.step b3);clear R3 b3;unfold Ref.qY)
 obtain⟨W4,l7⟩:∃W,w3.alloc (.cells #[.string r.who,.string r.act,.string r.on,.slice ao r.marks.length cap] 34)=W:=⟨_,rfl⟩;have b4:Below w3.heap.size w3 W4:=by rw[<- l7];exact nB w3 _
 have n4:W4.heap[w3.heap.size]?=some (jc (.string r.who) (.string r.act) (.string r.on) (.slice ao r.marks.length cap)):=by rw[<- l7];exact zL w3 _
 have hro:oa<w3.heap.size:=h6.out.top;have hwo:w.heap.size<=oa:=h6.out.old;have k7:=hid (h6.out.step b4);have A0:=hid (z4.out.turn (N:=λ_=>False) (zC.of b4) (λ_ _ _ _ h=>h))
 have MA:Hid (r.marks≠[]->∀b o,ao=some ⟨b,o,none⟩->b≠oa/\b<w3.heap.size):=hid (λH b o e=>by
  obtain⟨b',o',e',h1,h2⟩:=NS z4.out h6.out.a H;rw[e] at e';injection e' with e'
  injection e' with e1 e2
  subst e1;exact⟨h1,h2⟩)
 obtain⟨rb,P1⟩:∃x,w3.heap.size=x:=⟨_,rfl⟩;rw[P1] at n4 hro MA |-;rw[l7];have L:=(zf n4 0).1;have P:=(zf n4 1).1;have q2:=(zf n4 2).1;have q3:=(zf n4 3).1;simp at L P q2 q3;have N4:=hid n4;have t4:=zY n4;clear l7 b4 n4 P1 z4 h6 y7 CA
 go_upto_region 7 with (go_at_call 10;obtain⟨L3,L4,L5,cd⟩:=DV.out oa st _ W4 ao cap k7.out.a A0.out k7.out.below;rw[z3.out] at cd;refine cd.mono ?_;clear cd;rintro e w5 ⟨rfl,b5⟩;have B5:=hid b5;clear b5)
 obtain⟨W6,l8⟩:∃W,w5.alloc (.cells #[.int .i64 v0,.int .i64 L3,.string L4,.int .i64 L5] 37)=W:=⟨_,rfl⟩;have b6:Below w5.heap.size w5 W6:=by rw[<- l8];exact nB w5 _
 have n6:W6.heap[w5.heap.size]?=some (.cells #[.int .i64 v0,.int .i64 L3,.string L4,.int .i64 L5] 37):=by rw[<- l8];exact zL w5 _
 have z5:=B5.out.size;have r6:=(b6.block rb (by omega)).trans ((B5.out.block rb t4).trans N4.out);have J8:=hid ((A0.out.turn (N:=λ_=>False) (zC.of B5.out) (λ_ _ _ _ h=>h)).turn (N:=λ_=>False) (zC.of b6) (λ_ _ _ _ h=>h));have g5:=k7.out.step B5.out;obtain⟨db,M1⟩:∃x,w5.heap.size=x:=⟨_,rfl⟩;have hrd:rb<db:=by omega
 have Z:Hid (jr w W6 oa (λb=>b=oa\/b=db) st):=hid ((g5.wide (λb hb=>hb.imp id (λe=>by omega)) (.inl rfl)).step b6);rw[M1] at n6 |-;rw[l8];have j4:=zY n6;obtain⟨B,hB⟩:∃x,W6.heap.size=x:=⟨_,rfl⟩;rw[hB] at j4;have R6:=hid r6;have N6:=hid n6;have HB:=hid hB;clear l8 b6 n6 r6 M1 B5 A0 g5 k7 N4 t4 z5 L P q2 q3 hB
 go_upto_region 9 with fail
 go_loopw [17,18] (λov iv wr=>∃k:Nat,k<=n/\iv = .int .i64 k/\Below B W6 wr/\∃xs,wr.ownsRow B 42 10 ov k xs/\uX w xs ((rules.take k).map Kp.Qu)) (λ_ iv _=>n-(intOf iv).toNat)
 case atStart=>exact⟨0,zU _,rfl,zi _ _,[],jR _ _ _ _,uX.nil w⟩
 case round=>
  obtain⟨k,hk,rfl,hb,xs,ho,hx⟩:=hrel
  by_cases hkn:k<n
  ·have m8:k<rules.length:=by rw[d7.out];exact hkn
   obtain⟨_,_,H,C⟩:=HR.out;obtain⟨f,m1,m2,m3,gb,o,v1,v2,v3,ea,⟨L,P,q2,q3,q4,q5,q6,q7,q8,q9⟩,i1,i2,i3⟩:=C k _ (zt m8);have B9:a1=some ⟨gb,o,none⟩:=by injection H with e1;rw[e1];exact ea
   subst B9;have D4:(rules.take (k+1)).map Kp.Qu=(rules.take k).map Kp.Qu++[Kp.Qu rules[k]]:=by rw[Xy m8,jN,List.map_singleton]
   obtain⟨y,P6⟩:∃x,rules[k]=x:=⟨_,rfl⟩;rw[P6] at f m1 m2 m3 L q4 q5 q6 q7 q8 q9 i1 i2 i3 D4;have n5:=hx.more (r:=Kp.Qu y) ⟨f.nt,f.iff,f.key,f.val,f.style⟩ m1 m2 m3 i1 i2 i3;rw[<- D4] at n5;have F:Below w.heap.size w wr:=Z.out.below.trans (hb.mono (by rw[<- HB.out];exact Z.out.below.size));have p0:=zh F L;have p1:=zh F P;have p2:=zh F q2;have p3:=zh F q3;have p4:=zh F q4;have p5:=zh F q5;have p6:=zh F q6;have p7:=zh F q7;have p8:=zh F q8;have p9:=zh F q9;have P8:Uf (Kp.Qu y) v1 v2 v3=[.bool true,v1,v2,v3,.int .i64 y.nt,.int .i64 y.iff,.int .i64 y.key,.int .i64 y.val,.bool y.no,.int .i64 y.style]:=rfl;rw[P8] at n5;obtain⟨s1,d1,rfl,_⟩:=i1;obtain⟨s2,d2,rfl,_⟩:=i2;obtain⟨s3,d3,rfl,_⟩:=i3;have HX:=hid n5;have HO:=hid ho;have Q:=hid hb;clear hx n5 ho hb C H ea f m1 m2 m3 L P q2 q3 q4 q5 q6 q7 q8 q9 D4 P6 P8 F
   go_upto_region 13 with fail
   obtain⟨W7,a5⟩:∃W,wr.alloc (.cells #[.bool true,.slice s1 y.who.length d1,.slice s2 y.act.length d2,.slice s3 y.on.length d3,.int .i64 y.nt,.int .i64 y.iff,.int .i64 y.key,.int .i64 y.val,.bool y.no,.int .i64 y.style] 42)=W:=⟨_,rfl⟩;have b7:Below wr.heap.size wr W7:=by rw[<- a5];exact nB wr _
   have n7:W7.heap[wr.heap.size]?=some (.cells #[.bool true,.slice s1 y.who.length d1,.slice s2 y.act.length d2,.slice s3 y.on.length d3,.int .i64 y.nt,.int .i64 y.iff,.int .i64 y.key,.int .i64 y.val,.bool y.no,.int .i64 y.style] 42):=by rw[<- a5];exact zL wr _
   have z7:=b7.size;have zw:B<=wr.heap.size:=by have:=Q.out.size;have:=HB.out;omega
   have r3:=hid (Q.out.trans (b7.mono zw));have O7:=hid (ownsRow_below HO.out b7);obtain⟨xb,Q2⟩:∃x,wr.heap.size=x:=⟨_,rfl⟩;rw[Q2] at n7 |-;rw[a5];have c:=λk=>(zf n7 k).1;have x0:=c 0;have x1:=c 1;have x2:=c 2;have x3:=c 3;have x4:=c 4;have x5:=c 5;have x6:=c 6;have x7:=c 7;have x8:=c 8;have x9:=c 9;simp at x0 x1 x2 x3 x4 x5 x6 x7 x8 x9;have zB7:B<=W7.heap.size:=by omega
   clear a5 b7 n7 Q2 Q HO c p0 p1 p2 p3 p4 p5 p6 p7 p8 p9
   go_wp2_with (at_builtin;refine QP _ rfl _ _ 27 rfl B 42 i0 (.agg #[.bool false,.slice none 0 0,.slice none 0 0,.slice none 0 0,.int .i64 0,.int .i64 0,.int .i64 0,.int .i64 0,.bool false,.int .i64 0]) 10 128 underlying27 M9 R0 R1 R2 rfl (by decide) _ k xs rfl (World.ownsRow.alloc O7.out _) ⟨W7.heap.size,0,none⟩ 1 1 [.bool true,.slice s1 y.who.length d1,.slice s2 y.act.length d2,.slice s3 y.on.length d3,.int .i64 y.nt,.int .i64 y.iff,.int .i64 y.key,.int .i64 y.val,.bool y.no,.int .i64 y.style] rfl rfl ?_ ?_ ?_ ?_ ?_ ?_)
   ·exact JF (cs:=#[.bool true,.slice s1 y.who.length d1,.slice s2 y.act.length d2,.slice s3 y.on.length d3,.int .i64 y.nt,.int .i64 y.iff,.int .i64 y.key,.int .i64 y.val,.bool y.no,.int .i64 y.style]) (t:=42) (fr:=(0,0)) (zL W7 _)
   ·intro u hu;simp at hu;rcases hu with rfl|rfl|rfl|rfl|rfl|rfl|rfl|rfl|rfl|rfl<;>rfl
   ·unfold maxLen;omega
   ·omega
   ·simp;omega
   ·intro v' w8 E A _ j3;have y6:=hid ((r3.out.alloc zB7 (.cells #[.bool true,.slice s1 y.who.length d1,.slice s2 y.act.length d2,.slice s3 y.on.length d3,.int .i64 y.nt,.int .i64 y.iff,.int .i64 y.key,.int .i64 y.val,.bool y.no,.int .i64 y.style] 42)).grown A (by simp;omega) (λk hk=>(World.ownsRow.lt O7.out k hk).1));have z2:=hid E;clear E A j3 r3 O7
    go_wp2
    go_roundw
    case rel=>exact⟨k+1,by omega,by go_num,y6.out,_,z2.out,HX.out⟩
    case measure=>simp[intOf];omega
  ·have D1:k=n:=by omega
   subst D1;rw[ZU (by rw[d7.out];exact ze _)] at hx;obtain⟨va,vc,rfl⟩:=wY ho;have HO:=hid ho;have HX:=hid hx;have Q:=hid hb;clear ho hx hb
   go_upto_if 72 with fail
   go_cut [17] (λv wc=>∃xs,Below B W6 wc/\wc.ownsRow B 42 10 v (Kp.Zb rules).length xs/\uX w xs (Kp.Zb rules))
   case first=>
    by_cases hn0:k=0
    ·subst hn0;have hr0:rules=[]:=uW.1 d7.out;subst hr0;have C7:Kp.Zb []=[Kp.Qu Kp.xu]:=rfl;have O:(((0:Nat):Int)==0)=true:=rfl;rw[O];have zw:B<=wr.heap.size:=by have:=Q.out.size;have:=HB.out;omega
     have hxs:xs=[]:=by have:=HX.out.len;simpa using this
     subst hxs
     go_wp2_with (at_builtin;refine QP _ rfl _ _ 27 rfl B 42 i0 (.agg #[.bool false,.slice none 0 0,.slice none 0 0,.slice none 0 0,.int .i64 0,.int .i64 0,.int .i64 0,.int .i64 0,.bool false,.int .i64 0]) 10 128 underlying27 M9 R0 R1 R2 rfl (by decide) _ 0 [] rfl (World.ownsRow.alloc HO.out _) ⟨wr.heap.size,0,none⟩ 1 1 [.bool true,.slice none 0 0,.slice none 0 0,.slice none 0 0,.int .i64 0,.int .i64 0,.int .i64 0,.int .i64 0,.bool false,.int .i64 0] rfl rfl ?_ ?_ ?_ ?_ ?_ ?_)
     ·exact JF (cs:=#[.bool true,.slice none 0 0,.slice none 0 0,.slice none 0 0,.int .i64 0,.int .i64 0,.int .i64 0,.int .i64 0,.bool false,.int .i64 0]) (t:=42) (fr:=(0,0)) (zL wr _)
     ·intro u hu;simp at hu;rcases hu with rfl|rfl|rfl|rfl|rfl<;>rfl
     ·unfold maxLen;omega
     ·omega
     ·simp;omega
     ·intro v' w8 E A _ j3;have y6:=hid ((Q.out.alloc zw (.cells #[.bool true,.slice none 0 0,.slice none 0 0,.slice none 0 0,.int .i64 0,.int .i64 0,.int .i64 0,.int .i64 0,.bool false,.int .i64 0] 42)).grown A (by simp;omega) (λk hk=>(World.ownsRow.lt HO.out k hk).1));have z2:=hid E;have d4:IntsIn w (.slice none 0 0) []:=⟨none,0,rfl,λk x hx=>by simp at hx⟩;have HX8:=hid ((uX.nil w).more (r:=Kp.Qu Kp.xu) (v1 := .slice none 0 0) (v2 := .slice none 0 0) (v3 := .slice none 0 0) ⟨Vn.nt,Vn.iff,Vn.key,Vn.val,Vn.style⟩ (zU _) (zU _) (zU _) d4 d4 d4);clear E A j3 d4
      go_wp2
      go_meet
      case rel=>exact⟨_,y6.out,z2.out,HX8.out⟩
    ·have O:((k:Int)==0)=false:=by simp;omega
     rw[O];have C7:Kp.Zb rules=rules.map Kp.Qu:=by unfold Kp.Zb;rw[za (by rw[d7.out];exact hn0)]
     have j4:(Kp.Zb rules).length=k:=by rw[C7,qg,d7.out]
     go_wp2_with fail
     go_meet
     case rel=>exact⟨xs,Q.out,by rw[j4];exact HO.out,by rw[C7];exact HX.out⟩
   case rest=>
    clear HO HX Q d7 HR;obtain⟨ys,m4,j6,E0⟩:=hcut;have l5:=Kp.Pi rules;obtain⟨D,hD⟩:=Nm (Kp.Zb rules);rw[hD] at j6 E0 l5 C4;obtain⟨va,vc,rfl⟩:=wY j6;obtain⟨W7,a5⟩:∃W,wc=W:=⟨_,rfl⟩;rw[a5] at m4 j6 |-;have c9:Below W6.heap.size W6 W7:=by rw[HB.out];exact m4
    have FI:=hid (IG (oa:=oa) (db:=db) Z.out.below HB.out.symm m4 j6 E0 R6.out J8.out (λH b o e=>⟨(MA.out H b o e).1,by have:=(MA.out H b o e).2;omega⟩) (by omega) (by omega) (by omega) j4 hwo (by omega));have z7:=c9.size;have hoB:oa<B:=by omega
    have n7:=(c9.block db (by rw[HB.out];exact j4)).trans N6.out;have g7:=Z.out.step c9;have z7B:B<=W7.heap.size:=by rw[<- HB.out];exact z7
    obtain⟨z,D5⟩:∃x,W7.heap.size=x:=⟨_,rfl⟩;have cn:=fT (λb=>b=W7.heap.size) W7 rfl;rw[D5] at FI cn z7B;have I9:Hid (jr w W7 oa (FmM oa db z) st):=hid (g7.wide (λb hb=>by rcases hb with h|h|h;exact .inl (.inl h);exact .inl (.inr h);exact .inr (by omega)) (.inl rfl))
    have CN:=hid cn;have HOB:=hid D5;have N7:=hid n7;obtain⟨dl,t1⟩:∃x,D.length=x:=⟨_,rfl⟩;have CP:=hid (λ(W:World) (hW:uY W (.slice va D.length vc) D)=>Kt D (.slice va D.length vc) W hW C4);rw[t1] at CP FI |-;have eB:=Kp.gy Kp.bQ Kp.Hq hi4 (by simp[xy]) D;obtain⟨T,hT⟩:=Nm (Kp.qQ D);obtain⟨e1,e2,e3⟩:=eB;obtain⟨sb,D7⟩:∃s,yj xy (i:Int) Kp.xS (Kp.qQ D)=s:=⟨_,rfl⟩;rw[D7] at e2 e3;have m0:=De.DF e3 l5 r;obtain⟨vb,D8⟩:∃x,De.yA sb r=x:=⟨_,rfl⟩;rw[D8] at m0;obtain⟨G,C6⟩:∃x:Int,((vb:Nat):Int)=x:=⟨_,rfl⟩;have hav1:(G==1)=false:=by have:=m0.1;rw[<- C6];simp;omega
    have f9:=hid (λ(W:World) (hb:Below w.heap.size w W) (ho:qN (λb=>b=z) W z xy) (hz:z<W.heap.size)=>Uc z xy (i:Int) Kp.xS (Kp.qQ D) (λb=>b=z) aL W (HC.out.below hb) ho (λb hb=>by rw[hb];exact hz) (by unfold maxLen;decide));rw[e1,D7] at f9;have f8:=hid (λ(s1:StO) (W:World) (hW:jr w W oa (FmM oa db z) s1) (hz:z<W.heap.size)=>Uc oa s1 (i:Int) Kp.xS (Kp.qQ D) (FmM oa db z) aL W (HC.out.below hW.below) hW.a (λb hb=>by rcases hb with h|h|h<;>omega) (by unfold maxLen;decide))
    have M0:Kp.xS=⟨#[111,110,108,121]⟩:=rfl;rw[M0] at f9 f8;rw[hT] at f9 f8;simp only[hT] at CP;have I2:=hid m0;have J6:=hid D8;have y5:=hid C6;have HE3:=hid e3;have I4:=hid l5;have HT:=hid hT;clear m4 c9 j6 E0 a5 D5 n7 g7 t1 hT e1 e2 e3 D7 m0 D8 C6 hD z7 N6 R6 J8 MA Z l5 cn HB C4 M0
    go_upto_region 17 with (go_at_call 11;refine (CL.out W7).mono ?_;rintro e w2 ⟨rfl,e2⟩;rw[e2];clear e2)
    go_upto_region 20 with (go_at_call 12;refine CN.out.mono ?_;rintro e w8 ⟨rfl,b8,o8⟩;rw[<- HOB.out] at b8;have O8:=hid o8;have J0:=hid (I9.out.step b8);have F8:=hid (FI.out.step b8);have n8:=(b8.block db (zY N7.out)).trans N7.out;have N8:=hid n8;have z8:z<w8.heap.size:=zY o8.row.choose_spec.1;clear b8 o8 n8)
    have O2:oa≠z:=by omega
    have O3:db≠z:=by omega
    have d5:db≠oa:=by omega
    have O4:w.heap.size<=z:=by omega
    have O5:w.heap.size<=db:=by omega
    go_upto_region 21 with (first
     | (go_at_call 13;refine (f9.out w9 F9.out.now.below O9.out z9).mono ?_;rintro e S0 ⟨rfl,t10,E6⟩;have K1:=hid E6;have r4:=hid (J1.out.other t10 O2 (.inr (.inr rfl)) O4);have g0:=hid (F9.out.one t10 (.inr (.inr rfl)));have A1:=hid ((t10.block db (zY N9.out) O3).trans N9.out);have S6:z<S0.heap.size:=xx z9 t10.size;clear t10 E6)
     | (go_at_call 14;refine (CP.out w8 F8.out.now.rules).mono ?_;rintro e w9 ⟨rfl,b9⟩;have O9:=hid (O8.out.below b9);have J1:=hid (J0.out.step b9);have F9:=hid (F8.out.step b9);have N9:=hid ((b9.block db (zY N8.out)).trans N8.out);have z9:z<w9.heap.size:=xx z8 b9.size;clear b9))
    obtain⟨L,P,q2,q3⟩:=g0.out.now.cells;clear O8 J0 F8 N8 z8 O9 J1 F9 N9 z9 FI I9 N7 CN f9 CL
    go_upto_region 22 with (go_at_call 10;obtain⟨y1,y2,y3,cd⟩:=DV.out z sb _ S0 ao cap K1.out g0.out.now.marks g0.out.now.below;rw[J6.out,y5.out] at cd;refine cd.mono ?_;clear cd;rintro e U ⟨rfl,h8⟩;have H4:=hid (g0.out.step h8);have r5:=hid (r4.out.step h8);have A2:=hid ((h8.block db (zY A1.out)).trans A1.out);have F1:z<U.heap.size:=xx S6 h8.size;clear h8)
    obtain⟨l0,c6⟩:∃W,U.alloc (.cells #[.int .i64 G,.int .i64 y1,.string y2,.int .i64 y3] 37)=W:=⟨_,rfl⟩;have h9:Below U.heap.size U l0:=by rw[<- c6];exact nB U _
    have E4:l0.heap[U.heap.size]?=some (.cells #[.int .i64 G,.int .i64 y1,.string y2,.int .i64 y3] 37):=by rw[<- c6];exact zL U _
    have f12:=H4.out.step h9;have r7:=hid (r5.out.step h9);have A3:=hid ((h9.block db (zY A2.out)).trans A2.out);have z12:z<l0.heap.size:=xx F1 h9.size;obtain⟨ab,L9⟩:∃x,U.heap.size=x:=⟨_,rfl⟩;rw[L9] at E4 F1 |-;rw[c6];have x0:=(zf E4 0).1;simp at x0;have w7:=hid (f12.box x0 (λe=>by rcases e with e|e|e<;>omega))
    have sA:Hid (∀W,Uy (FmP w (.slice va dl vc) D rb r ao cap) ab G W->W.cell? ⟨rb,0,none⟩=some (.string r.who)/\W.cell? ⟨rb,1,none⟩=some (.string r.act)/\W.cell? ⟨rb,2,none⟩=some (.string r.on)/\W.cell? ⟨rb,3,none⟩=some (.slice ao r.marks.length cap)):=hid (λW h=>h.p.cells);clear c6 h9 E4 L9 f12 K1 g0 r4 A1 H4 r5 A2 S6 F1 L P q2 q3
    go_upto_region 24 with fail
    obtain⟨hv,C9⟩:∃x,(jW st (i:Int) ⟨#[111,110,108,121]⟩ T).1=x:=⟨_,rfl⟩;obtain⟨hp,M8⟩:∃x,(jW st (i:Int) ⟨#[111,110,108,121]⟩ T).2=x:=⟨_,rfl⟩;have B3:=f8.out st;rw[C9,M8] at B3;have G9:=hid B3;have g8:=hid C9;clear B3 C9 M8 x0
    go_upto_region 25 with (first
     | (go_at_call 13;refine (G9.out S1 g9.out F2).mono ?_;rintro e S2 ⟨rfl,t14,E7⟩;have J:=hid (g9.out.put t14 E7);have k6:=hid (H5.out.one t14 (.inl rfl));have h7:=hid ((t14.block db (zY A4.out) d5).trans A4.out);have r0:z<S2.heap.size:=xx F2 t14.size;clear t14 E7)
     | (go_at_call 14;refine (CP.out l0 w7.out.now.p.rules).mono ?_;rintro e S1 ⟨rfl,i4⟩;have g9:=hid (r7.out.step i4);have H5:=hid (w7.out.step i4);have A4:=hid ((i4.block db (zY A3.out)).trans A3.out);have F2:z<S1.heap.size:=xx z12 i4.size;clear i4))
    clear r7 w7 A3 z12 g9 H5 A4 F2 G9
    go_upto_if 120 with fail
    go_cut [16,26] (λe16 h26 wc=>∃(o0 I:StO) (bv:Int),e16 = .int .i64 0/\h26 = .int .i64 0/\jr w wc oa (FmM oa db z) I/\Kp.vo I/\De.More o0 I i (Kp.xS,Kp.Zc D)/\((De.yA o0 r:Nat):Int)=bv/\wc.cell? ⟨db,0,none⟩=some (.int .i64 bv)/\z<wc.heap.size/\vO (FmM oa db z) (Uy (FmP w (.slice va dl vc) D rb r ao cap) ab G) wc)
    case first=>
     have e0:(⟨#[111,110,108,121]⟩:BA)=Kp.xS:=rfl
     by_cases h4:(st i).length<4
     ·obtain⟨p1,p2,p3⟩:=Kp.gy HG.out (Kp.V4 HM.out) hi4 h4 D;rw[HT.out] at p1 p2 p3;have e7:hv=0:=by rw[<- g8.out,e0,p1]
      subst e7;have P2:=hid p2;have P3:=hid p3;have c0:=(zf h7.out 0).1;have O:((0:Int)==10)=false:=rfl;rw[O];have C0:=hid c0;clear p1 p2 p3 c0 O e0 g8;go_wp2_with fail
      go_meet
      case rel=>exact⟨st,_,v0,rfl,rfl,J.out,P2.out,P3.out,z3.out,C0.out,r0,k6.out⟩
     ·obtain⟨p1,p2⟩:=Kp.Pk (Kp.V4 HM.out) hi4 h4 D;rw[HT.out] at p1 p2;have e7:hv=10:=by rw[<- g8.out,e0,p1]
      subst e7;rw[e0,p2] at J;obtain⟨kk,f4,hk6,D0,hl4,a6,M7,O1,t3⟩:=Kp.Pj HG.out HM.out hi4 h4;obtain⟨p3,p4,p5⟩:=Kp.gy M7 O1 hi4 t3 D;rw[HT.out] at p3 p4 p5;have hks:=Kp.fO kk hk6;have cN:=OC oa st (i:Int) (FmM oa db z) S2 J.out.a;have j5:kC (i:Int)=true:=by unfold kC;simp;omega
      have e1:Kl (i:Int)=0:=by unfold Kl;rw[j5];rfl
      have e2:Kk st (i:Int)=(st i).map Prod.fst:=by unfold Kk;rw[j5];rfl
      rw[e1,e2] at cN;obtain⟨nm,R⟩:∃x,Kp.qy kk=x:=⟨_,rfl⟩;rw[R] at D0 a6 hks;obtain⟨bv,m7⟩:∃x:Int,((De.yA f4 r:Nat):Int)=x:=⟨_,rfl⟩;have B2:=λ(W:World) (hW:jr w W oa (FmM oa db z) st) (hz:z<W.heap.size)=>GQ oa st (i:Int) nm (FmM oa db z) W hW.a (λb hb=>by rcases hb with h|h|h<;>omega) (by unfold maxLen;omega)
      rw[a6] at B2;obtain⟨pp,P0⟩:∃x,(jW f4 (i:Int) Kp.xS T).2=x:=⟨_,rfl⟩;have O6:(jW f4 (i:Int) Kp.xS T).1=0:=by rw[p3]
      have B4:=f8.out f4;rw[e0,O6,P0] at B4;have CA2:=hid B4;have H1:=hid cN;have H0:=hid B2;have J2:=hid D0;have I3:=hid m7;have P4:=hid p4;have P5:=hid p5;have O:((10:Int)==10)=true:=rfl;rw[O];clear p1 p2 p3 p4 p5 a6 M7 O1 t3 cN e1 e2 j5 R m7 B2 O6 P0 B4 D0 O g8 h4;rw[e0]
      go_upto_region 27 with (go_at_call 15;refine H1.out.mono ?_;rintro e S3 ⟨nv,rfl,t8,i5⟩;have ON:=hid (aC.own t8);have h3:=hid (J.out.step i5);have H6:=hid (k6.out.step i5);have A5:=hid ((i5.block db (zY h7.out)).trans h7.out);have F3:z<S3.heap.size:=xx r0 i5.size;clear t8 i5)
      obtain⟨na,nc,rfl,R⟩:=ON.out;obtain⟨nb,ea,hnb,qn⟩:=R 0 _ J2.out;subst ea;rw[qg,hl4];clear R ON J2 hnb J k6 h7 r0 H1
      go_upto_region 30 with (go_at_call 16;refine (H0.out S3 h3.out F3).mono ?_;rintro e S4 ⟨rfl,t16,E8⟩;have h5:=hid (h3.out.put t16 E8);have g4:=hid (H6.out.one t16 (.inl rfl));have A6:=hid ((t16.block db (zY A5.out) d5).trans A5.out);have S7:z<S4.heap.size:=xx F3 t16.size;clear t16 E8)
      obtain⟨L,P,q2,q3⟩:=sA.out _ g4.out.now;clear h3 H6 A5 F3 qn H0
      go_upto_region 31 with (go_at_call 10;obtain⟨g1,g2,g3,cd⟩:=DV.out oa f4 _ S4 ao cap h5.out.a g4.out.now.p.marks g4.out.now.p.below;rw[I3.out] at cd;refine cd.mono ?_;clear cd;rintro e F0 ⟨rfl,i6⟩;have H7:=hid (g4.out.step i6);have r8:=hid (h5.out.step i6);have n17:=(i6.block db (zY A6.out)).trans A6.out;have S8:z<F0.heap.size:=xx S7 i6.size;clear i6;obtain⟨k0,f0⟩:=zf n17 0;obtain⟨k1,f1⟩:=zf n17 1;obtain⟨k2,f2⟩:=zf n17 2;obtain⟨k3,f3⟩:=zf n17 3;simp at k0 k1 k2 k3;have K0:=hid n17;clear n17)
      have t18:=Lh F0 db (.int .i64 bv) (.int .i64 g1) (.string g2) (.int .i64 g3);have B0:=(Y2 K0.out (.int .i64 bv) (.int .i64 g1) (.string g2) (.int .i64 g3)).1;obtain⟨K2,t0⟩:∃W,(((F0.setCell ⟨db,0,none⟩ (.int .i64 bv)).setCell ⟨db,1,none⟩ (.int .i64 g1)).setCell ⟨db,2,none⟩ (.string g2)).setCell ⟨db,3,none⟩ (.int .i64 g3)=W:=⟨_,rfl⟩;rw[t0] at t18 B0 |-;have I6:=hid (r8.out.other t18 (λe=>d5 e.symm) (.inr (.inl rfl)) O5);have H8:=hid (H7.out.one t18 (.inr (.inl rfl)));have z18:z<K2.heap.size:=xx S8 t18.size;have Z1:=hid B0;clear t18 B0 t0 r8 H7 K0 S8 h5 g4 A6 S7 L P q2 q3 k0 k1 k2 k3 f0 f1 f2 f3
      go_wp2_with (first
       | (go_at_call 13;refine (CA2.out S5 r9.out S9).mono ?_;rintro e w20 ⟨rfl,t20,E9⟩;have I7:=hid (r9.out.put t20 E9);have F20:=hid (F19.out.one t20 (.inl rfl));have Z3:=hid (t20.cell (x:=⟨db,0,none⟩) d5 Z2.out);have z20:z<w20.heap.size:=xx S9 t20.size;clear t20 E9)
       | (go_at_call 14;refine (CP.out K2 H8.out.now.p.rules).mono ?_;rintro e S5 ⟨rfl,i7⟩;have r9:=hid (I6.out.step i7);have F19:=hid (H8.out.step i7);have Z2:=hid (zh i7 Z1.out);have S9:z<S5.heap.size:=xx z18 i7.size;clear i7))
      go_meet
      case rel=>exact⟨f4,_,bv,rfl,rfl,I7.out,P4.out,P5.out,I3.out,Z3.out,z20,F20.out⟩
    case rest=>
     obtain⟨o0,I,bv,rfl,rfl,g,e5,m9,m7,cb,zc,fm⟩:=hcut;have M3:De.yA I r=1->De.yA o0 r=1:=λe=>m9.allow I4.out e;have M5:vb=2->De.yA I r=2:=λe=>m9.deny (I2.out.2 e);obtain⟨fv,M6⟩:∃x:Int,((De.yA I r:Nat):Int)=x:=⟨_,rfl⟩;have L6:fv=1->bv=1:=λe=>by have:=M3 (by omega);omega
     have j2:G=2->fv=2:=λe=>by have:=y5.out;have:=M5 (by omega);omega
     have a7:(Kp.xS,Kp.Zc D) ∈ I i:=(m9.mem i hi4 _).2 (.inr ⟨rfl,rfl⟩);obtain⟨L,P,q2,q3⟩:=sA.out _ fm.now;have HFV:=hid M6;have GG:=hid g;have FF:=hid fm;have I5:=hid e5;have k8:=hid a7;have CB:=hid cb;have I1:=hid L6;have g6:=hid j2;obtain⟨wa,P9⟩:∃x,wc=x:=⟨_,rfl⟩;rw[P9] at L P q2 q3 GG FF CB zc |-;clear g e5 m9 m7 cb fm M3 M5 M6 a7 L6 j2 P9 HG HM J k6 h7 r0 g8 HT z3 HE3 I4 J6 CP f8
     go_upto_region 33 with (go_at_call 10;obtain⟨g1,g2,g3,cd⟩:=DV.out oa I _ wa ao cap GG.out.a FF.out.now.p.marks FF.out.now.p.below;rw[HFV.out] at cd;refine cd.mono ?_;clear cd;rintro e V ⟨rfl,i8⟩;have H9:=hid (FF.out.step i8);have s0:=hid (GG.out.step i8);have G8:=hid (zh i8 CB.out);have z21:z<V.heap.size:=xx zc i8.size;clear i8)
     obtain⟨l1,c7⟩:∃W,V.alloc (.cells #[.int .i64 fv,.int .i64 g1,.string g2,.int .i64 g3] 37)=W:=⟨_,rfl⟩;have i9:Below V.heap.size V l1:=by rw[<- c7];exact nB V _
     have n22:l1.heap[V.heap.size]?=some (.cells #[.int .i64 fv,.int .i64 g1,.string g2,.int .i64 g3] 37):=by rw[<- c7];exact zL V _
     have s4:=hid (s0.out.step i9);have y4:=hid (H9.out.step i9);have s6:=zh i9 G8.out;have z22:z<l1.heap.size:=xx z21 i9.size;obtain⟨fb,M4⟩:∃x,V.heap.size=x:=⟨_,rfl⟩;rw[M4] at n22 |-;rw[c7];have x0:=(zf n22 0).1;simp at x0;have xa:=y4.out.now.alone;clear c7 i9 n22 M4 s0 H9 G8 z21 L P q2 q3 GG FF CB zc
     go_cut [185] (λv wx=>v = .bool false/\wx=l1)
     case first=>
      as_aux_lemma=>
       by_cases hb1:bv=1
       ·have d1:(bv != 1)=false:=by rw[hb1];rfl
        by_cases ha2:G=2
        ·have d2:(G==2)=true:=by rw[ha2];rfl
         have d3:(fv != 2)=false:=by rw[g6.out ha2];rfl
         go_wp2_with fail
         go_meet
         case rel=>exact⟨rfl,rfl⟩
        ·have d2:(G==2)=false:=by simp;exact ha2
         go_wp2_with fail
         go_meet
         case rel=>exact⟨rfl,rfl⟩
       ·have d1:(bv != 1)=true:=by simp;exact hb1
        have d0:(fv==1)=false:=by simp;exact λe=>hb1 (I1.out e)
        by_cases ha2:G=2
        ·have d2:(G==2)=true:=by rw[ha2];rfl
         have d3:(fv != 2)=false:=by rw[g6.out ha2];rfl
         go_wp2_with fail
         go_meet
         case rel=>exact⟨rfl,rfl⟩
        ·have d2:(G==2)=false:=by simp;exact ha2
         go_wp2_with fail
         go_meet
         case rel=>exact⟨rfl,rfl⟩
     case rest=>
      obtain⟨rfl,Q1⟩:=hcut;rw[Q1];clear Q1 x0 xa s6 I1 g6
      go_upto_region 36 with fail
      go_loopw [32] (λiv wr=>∃(k:Nat) (s:StO),k<=m/\iv = .int .i64 k/\jr w wr oa (FmM oa db z) s/\Kp.vo s/\(Kp.xS,Kp.Zc D) ∈ s i/\z<wr.heap.size/\vO (FmM oa db z) (Uy (FmP w (.slice va dl vc) D rb r ao cap) ab G) wr) (λiv _=>m-(intOf iv).toNat)
      case atStart=>exact⟨0,I,zU _,rfl,s4.out,I5.out,k8.out,z22,y4.out⟩
      case round=>
       clear s4 I5 k8 z22 y4;obtain⟨k,s,hk,rfl,hI,e5,a7,hz,hF⟩:=hrel
       by_cases hkm:k<m
       ·have m8:k<more.length:=by rw[z0.out];exact hkm
        obtain⟨_,_,H,C⟩:=k9.out;obtain⟨i1,i2,j7,gb,o,pv,ea,L,P,q2,D6⟩:=C k _ (zt m8);have B9:a3=some ⟨gb,o,none⟩:=by injection H with e1;rw[e1];exact ea
        subst B9;obtain⟨p,hp⟩:=Nm (more[k]);rw[hp] at i1 i2 j7 L P D6;have C8:gb≠oa:=by have:=kX _ _ L;simp only at this;omega
        have p0:=zh hI.below L;have p1:=zh hI.below P;have p2:=zh hI.below q2;have N0:=Kp.Yp p;have N1:=Kp.Xe p;have c1:=λW=>uh p.layer 4 W i1 (by decide) (by decide);have c2:=λW=>uh p.name 6 W i2 (by decide) (by decide);have j8:Kp.jf s p=yj s (p.lay:Int) (Kp.qy p.num) (Kp.qQ p.rules):=rfl;have e6:=Kp.Pp e5 a7 hi4 rfl p;have e1:Kp.zy p.layer 4=p.lay:=rfl;have e2:Kp.zy p.name 6=p.num:=rfl;simp only[e1] at c1;simp only[e2] at c2;obtain⟨ii,t2⟩:∃i,p.lay=i:=⟨_,rfl⟩;obtain⟨j,hj⟩:=Nm p.num;simp only[t2,hj] at c1 c2 N0 N1 j8;have jz:=Kp.fO j N1;obtain⟨WN,l9⟩:∃W,wr.drew.alloc (.cells (Kp.Xb.map Value.string).toArray 9)=W:=⟨_,rfl⟩;have bN:Below wr.heap.size wr WN:=by rw[<- l9];exact ((zi _ wr).drew).alloc (ze _) _
        have E5:WN.cell? ⟨wr.heap.size,j,none⟩=some (.string (Kp.qy j)):=by
         rw[<- l9];have h0:=zL wr.drew (.cells (Kp.Xb.map Value.string).toArray 9);refine ((zf h0 j).1).trans ?_
         have:j=0\/j=1\/j=2\/j=3\/j=4\/j=5:=by omega
         rcases this with rfl|rfl|rfl|rfl|rfl|rfl<;>rfl
        obtain⟨T,hT⟩:=Nm (Kp.qQ p.rules);obtain⟨nm,R⟩:∃x,Kp.qy j=x:=⟨_,rfl⟩;rw[R] at E5 jz j8;rw[hT] at j8;have n0:=zh bN p0;have n1:=zh bN p1;have n2:=zh bN p2;have C5:=hI.step bN;have cP:=Kt p.rules pv WN (D6.below C5.below) j7;rw[hT] at cP;have C1:Hid (∀W,Calls prog 11 #[.int .i64 p.layer,.int .i64 4] W λe Y=>e = .returned (.int .i64 (ii:Int))/\Y=W):=hid c1;have C2:Hid (∀W,Calls prog 11 #[.int .i64 p.name,.int .i64 6] W λe Y=>e = .returned (.int .i64 (j:Int))/\Y=W):=hid c2;have CNN:=hid (λW=>tF W);have CP:=hid cP;have H2:=hid (λ(W:World) (hW:jr w W oa (FmM oa db z) s) (hz:z<W.heap.size)=>Uc oa s (ii:Int) nm T (FmM oa db z) aL W (HC.out.below hW.below) hW.a (λb hb=>by rcases hb with h|h|h<;>omega) (by unfold maxLen;omega))
        have k8:=hid C5;have FN:=hid (hF.step bN);have zN:z<WN.heap.size:=xx hz bN.size;have HWN:Hid (wr.drew.alloc (.cells (Kp.Xb.map Value.string).toArray 9)=WN):=hid l9;have J3:=hid j8;have J5:=hid e6;have hno:wr.heap.size≠oa:=by have:=hI.top;omega
        have hki:(0:Int)<=(k:Int):=jL _;have hkmi:(k:Int)<(m:Int):=by omega
        have hj0:(0:Int)<=(j:Int):=jL _;have hj6':(j:Int)<6:=by omega
        clear L P q2 D6 hp c1 c2 cP hI C5 bN j8 e6 t2 hj hT R l9 H C ea k9 z0 i1 i2 j7 e5 a7 hF e1 e2
        go_upto_region 38 with fail
        refine wp_region_noPanic ?_;refine wp_region_held_drew (S:=λY=>Y.cell? ⟨gb,o+k*3,none⟩=some (.int .i64 p.layer)/\Y.cell? ⟨gb,o+k*3+1,none⟩=some (.int .i64 p.name)/\Y.cell? ⟨gb,o+k*3+2,none⟩=some pv) (by kernel_rfl) ⟨p0,p1,p2⟩ (λd=>?_);refine wpAnyH_take (i:=0) (oi:=?o1) (v:=?v1) ?hi1 (by kernel_rfl) (by kernel_rfl) (by kernel_rfl) (λ_ _ _ h=>h) (Or.inl ⟨?hw1,?hy1⟩) d ?hrest1
        case hi1=>(rw[zI];rfl)
        case hw1=>rfl
        case hy1=>(intro X q;(try dsimp only at q);go_simp;try with_reducible rfl)
        try simp only[Act.put]
        try simp only[List.setIfInBounds_toArray]
        try simp only[zK]
        try simp only[List.set_cons_zero]
        refine wpAnyH_take (i:=1) (oi:=?o2) (v:=?v2) ?hi2 (by kernel_rfl) (by kernel_rfl) (by kernel_rfl) (λ_ _ _ h=>h) (Or.inl ⟨?hw2,?hy2⟩) d ?hrest2
        case hi2=>(rw[zI];rfl)
        case hw2=>rfl
        case hy2=>(intro X q;(try dsimp only at q);go_simp;try with_reducible rfl)
        try simp only[Act.put]
        try simp only[List.setIfInBounds_toArray]
        try simp only[zK]
        try simp only[List.set_cons_zero]
        refine wpAnyH_take (i:=2) (oi:=?o3) (v:=?v3) ?hi3 (by kernel_rfl) (by kernel_rfl) (by kernel_rfl) (λ_ _ _ h=>h) (Or.inl ⟨?hw3,?hy3⟩) d ?hrest3
        case hi3=>(rw[zI];rfl)
        case hw3=>rfl
        case hy3=>(intro X q;(try dsimp only at q);go_simp;try with_reducible rfl)
        try simp only[Act.put]
        try simp only[List.setIfInBounds_toArray]
        try simp only[zK]
        try simp only[List.set_cons_zero]
        refine wpAnyH_take (i:=3) (oi:=?o4) (v:=?v4) ?hi4 (by kernel_rfl) (by kernel_rfl) (by kernel_rfl) (λ_ _ _ h=>h) (Or.inl ⟨?hw4,?hy4⟩) d ?hrest4
        case hi4=>(rw[zI];rfl)
        case hw4=>rfl
        case hy4=>(intro X q;(try dsimp only at q);go_simp;try with_reducible rfl)
        try simp only[Act.put]
        try simp only[List.setIfInBounds_toArray]
        try simp only[zK]
        try simp only[List.set_cons_zero]
        refine wpAnyH_take (i:=4) (oi:=?o5) (v:=?v5) ?hi5 (by kernel_rfl) (by kernel_rfl) (by kernel_rfl) (λ_ _ _ h=>h) (Or.inl ⟨?hw5,?hy5⟩) d ?hrest5
        case hi5=>(rw[zI];rfl)
        case hw5=>rfl
        case hy5=>(intro X q;(try dsimp only at q);go_simp;try with_reducible rfl)
        try simp only[Act.put]
        try simp only[List.setIfInBounds_toArray]
        try simp only[zK]
        try simp only[List.set_cons_zero]
        refine wpAnyH_take (i:=5) (oi:=?o6) (v:=?v6) ?hi6 (by kernel_rfl) (by kernel_rfl) (by kernel_rfl) (λ_ _ _ h=>h) (Or.inl ⟨?hw6,?hy6⟩) d ?hrest6
        case hi6=>(rw[zI];rfl)
        case hw6=>rfl
        case hy6=>(intro X q;(try dsimp only at q);go_simp;try with_reducible rfl)
        try simp only[Act.put]
        try simp only[List.setIfInBounds_toArray]
        try simp only[zK]
        try simp only[List.set_cons_zero]
        refine wpAnyH_take (i:=8) (oi:=?o7) (v:=?v7) ?hi7 (by kernel_rfl) (by kernel_rfl) (by kernel_rfl) (λ_ _ _ h=>h) (Or.inl ⟨?hw7,?hy7⟩) d ?hrest7
        case hi7=>(rw[zI];rfl)
        case hw7=>rfl
        case hy7=>(intro X q;(try dsimp only at q);go_simp;try with_reducible rfl)
        try simp only[Act.put]
        try simp only[List.setIfInBounds_toArray]
        try simp only[zK]
        try simp only[List.set_cons_zero]
        refine wpAnyH_take (i:=9) (oi:=?o8) (v:=?v8) ?hi8 (by kernel_rfl) (by kernel_rfl) (by kernel_rfl) (λ_ _ _ h=>h) (Or.inl ⟨?hw8,?hy8⟩) d ?hrest8
        case hi8=>(rw[zI];rfl)
        case hw8=>rfl
        case hy8=>(intro X q;(try dsimp only at q);go_simp;try with_reducible rfl)
        try simp only[Act.put]
        try simp only[List.setIfInBounds_toArray]
        try simp only[zK]
        try simp only[List.set_cons_zero]
        refine wpAnyH_take (i:=10) (oi:=?o9) (v:=?v9) ?hi9 (by kernel_rfl) (by kernel_rfl) (by kernel_rfl) (λ_ _ _ h=>h) (Or.inl ⟨?hw9,?hy9⟩) d ?hrest9
        case hi9=>(rw[zI];rfl)
        case hw9=>rfl
        case hy9=>(intro X q;(try dsimp only at q);go_simp;try with_reducible rfl)
        try simp only[Act.put]
        try simp only[List.setIfInBounds_toArray]
        try simp only[zK]
        try simp only[List.set_cons_zero]
        refine wpAnyH_take (i:=11) (oi:=?E6) (v:=?v10) ?hi10 (by kernel_rfl) (by kernel_rfl) (by kernel_rfl) (λ_ _ _ h=>h) (Or.inl ⟨?hw10,?hy10⟩) d ?hrest10
        case hi10=>(rw[zI];rfl)
        case hw10=>rfl
        case hy10=>(intro X q;(try dsimp only at q);go_simp;try with_reducible rfl)
        try simp only[Act.put]
        try simp only[List.setIfInBounds_toArray]
        try simp only[zK]
        try simp only[List.set_cons_zero]
        refine wpAnyH_take (i:=12) (oi:=?o11) (v:=?v11) ?hi11 (by kernel_rfl) (by kernel_rfl) (by kernel_rfl) (λ_ _ _ h=>h) (Or.inl ⟨?hw11,?hy11⟩) d ?hrest11
        case hi11=>(rw[zI];rfl)
        case hw11=>rfl
        case hy11=>(intro X q;(try dsimp only at q);go_simp;try with_reducible rfl)
        try simp only[Act.put]
        try simp only[List.setIfInBounds_toArray]
        try simp only[zK]
        try simp only[List.set_cons_zero]
        refine wpAnyH_take (i:=16) (oi:=?o12) (v:=?v12) ?hi12 (by kernel_rfl) (by kernel_rfl) (by kernel_rfl) (λ_ _ _ h=>h) (Or.inl ⟨?hw12,?hy12⟩) d ?hrest12
        case hi12=>(rw[zI];rfl)
        case hw12=>rfl
        case hy12=>(intro X q;(try dsimp only at q);go_simp;try with_reducible rfl)
        try simp only[Act.put]
        try simp only[List.setIfInBounds_toArray]
        try simp only[zK]
        try simp only[List.set_cons_zero]
        refine wpAnyH_take (i:=17) (oi:=?o13) (v:=?v13) ?hi13 (by kernel_rfl) (by kernel_rfl) (by kernel_rfl) (λ_ _ _ h=>h) (Or.inl ⟨?hw13,?hy13⟩) d ?hrest13
        case hi13=>(rw[zI];rfl)
        case hw13=>rfl
        case hy13=>(intro X q;(try dsimp only at q);go_simp;try with_reducible rfl)
        try simp only[Act.put]
        try simp only[List.setIfInBounds_toArray]
        try simp only[zK]
        try simp only[List.set_cons_zero]
        refine wpAnyH_take (i:=18) (oi:=?E7) (v:=?v14) ?hi14 (by kernel_rfl) (by kernel_rfl) (by kernel_rfl) (λ_ _ _ h=>h) (Or.inl ⟨?hw14,?hy14⟩) d ?hrest14
        case hi14=>(rw[zI];rfl)
        case hw14=>rfl
        case hy14=>(intro X q;(try dsimp only at q);go_simp;try with_reducible rfl)
        try simp only[Act.put]
        try simp only[List.setIfInBounds_toArray]
        try simp only[zK]
        try simp only[List.set_cons_zero]
        refine wpAnyH_take (i:=19) (oi:=?o15) (v:=?v15) ?hi15 (by kernel_rfl) (by kernel_rfl) (by kernel_rfl) (λ_ _ _ h=>h) (Or.inl ⟨?hw15,?hy15⟩) d ?hrest15
        case hi15=>(rw[zI];rfl)
        case hw15=>rfl
        case hy15=>(intro X q;(try dsimp only at q);go_simp;try with_reducible rfl)
        try simp only[Act.put]
        try simp only[List.setIfInBounds_toArray]
        try simp only[zK]
        try simp only[List.set_cons_zero]
        refine wpAnyH_take (i:=20) (oi:=?E8) (v:=?v16) ?hi16 (by kernel_rfl) (by kernel_rfl) (by kernel_rfl) (λ_ _ _ h=>h) (Or.inl ⟨?hw16,?hy16⟩) d ?hrest16
        case hi16=>(rw[zI];rfl)
        case hw16=>rfl
        case hy16=>(intro X q;(try dsimp only at q);go_simp;try with_reducible rfl)
        try simp only[Act.put]
        try simp only[List.setIfInBounds_toArray]
        try simp only[zK]
        try simp only[List.set_cons_zero]
        refine wpAnyH_ready (rs:=[6]) (by kernel_rfl) (by simp) ?rd17;refine AllReadyH.cons (o:=?ob17) ?hb17 (λK hK=>?sb17) AllReadyH.nil
        case hb17=>(rw[zI];rfl)
        go_simp
        refine (C1.out _).mono ?_;rintro e w2 ⟨rfl,e2⟩;rw[e2];clear e2;go_wp2_with fail;refine hK.out _ _ ?sh17 (λd=>?cb17)
        case sh17=>exact⟨p0,p1,p2⟩
        clear hK K
        try simp only[Act.put]
        try simp only[List.setIfInBounds_toArray]
        try simp only[zK]
        try simp only[List.set_cons_zero]
        refine wpAnyH_ready (rs:=[7]) (by kernel_rfl) (by simp) ?rd18;refine AllReadyH.cons (o:=?ob18) ?hb18 (λK hK=>?sb18) AllReadyH.nil
        case hb18=>(rw[zI];rfl)
        go_simp
        refine (CNN.out _).mono ?_;rintro e w3 ⟨rfl,e3⟩;rw[e3];clear e3;rw[HWN.out];go_wp2_with fail;refine hK.out _ _ ?sh18 (λd=>?cb18)
        case sh18=>exact⟨n0,n1,n2⟩
        clear hK K
        try simp only[Act.put]
        try simp only[List.setIfInBounds_toArray]
        try simp only[zK]
        try simp only[List.set_cons_zero]
        refine wpAnyH_ready (rs:=[13]) (by kernel_rfl) (by simp) ?rd19;refine AllReadyH.cons (o:=?ob19) ?hb19 (λK hK=>?sb19) AllReadyH.nil
        case hb19=>(rw[zI];rfl)
        go_simp
        refine (C2.out _).mono ?_;rintro e w4 ⟨rfl,e4⟩;rw[e4];clear e4;go_wp2_with fail;refine hK.out _ _ ?sh19 (λd=>?cb19)
        case sh19=>exact⟨n0,n1,n2⟩
        clear hK K
        try simp only[Act.put]
        try simp only[List.setIfInBounds_toArray]
        try simp only[zK]
        try simp only[List.set_cons_zero]
        refine wpAnyH_take (i:=14) (oi:=?E9) (v:=?v20) ?hi20 (by kernel_rfl) (by kernel_rfl) (by kernel_rfl) (λ_ _ _ h=>h) (Or.inl ⟨?hw20,?hy20⟩) d ?hrest20
        case hi20=>(rw[zI];rfl)
        case hw20=>rfl
        case hy20=>(intro X q;(try dsimp only at q);go_simp;try with_reducible rfl)
        try simp only[Act.put]
        try simp only[List.setIfInBounds_toArray]
        try simp only[zK]
        try simp only[List.set_cons_zero]
        have L7:=vN E5 d;clear d;have d:=L7;clear L7;refine Vr (S':=λY=>Y.cell? ⟨wr.heap.size,j,none⟩=some (.string nm)/\Y.cell? ⟨gb,o+k*3,none⟩=some (.int .i64 p.layer)/\Y.cell? ⟨gb,o+k*3+1,none⟩=some (.int .i64 p.name)/\Y.cell? ⟨gb,o+k*3+2,none⟩=some pv) (λ_ h=>h.2) ?_;refine wpAnyH_take (i:=15) (oi:=?o21) (v:=?v21) ?hi21 (by kernel_rfl) (by kernel_rfl) (by kernel_rfl) (λ_ _ _ h=>h) (Or.inl ⟨?hw21,?hy21⟩) d ?hrest21
        case hi21=>(rw[zI];rfl)
        case hw21=>rfl
        case hy21=>(intro X q;(try dsimp only at q);go_simp;try with_reducible rfl)
        try simp only[Act.put]
        try simp only[List.setIfInBounds_toArray]
        try simp only[zK]
        try simp only[List.set_cons_zero]
        refine wpAnyH_ready (rs:=[21]) (by kernel_rfl) (by simp) ?rd22;refine AllReadyH.cons (o:=?ob22) ?hb22 (λK hK=>?sb22) AllReadyH.nil
        case hb22=>(rw[zI];rfl)
        go_simp
        refine CP.out.mono ?_;rintro e w5 ⟨rfl,b5⟩;have m5:=zh b5 E5;have x0:=zh b5 n0;have x1:=zh b5 n1;have x2:=zh b5 n2;have I8:=hid (k8.out.step b5);have F5:=hid (FN.out.step b5);have z5:z<w5.heap.size:=xx zN b5.size;clear b5;go_wp2_with fail;refine hK.out _ _ ?sh22 (λd=>?s6)
        case sh22=>exact⟨m5,x0,x1,x2⟩
        clear hK K
        try simp only[Act.put]
        try simp only[List.setIfInBounds_toArray]
        try simp only[zK]
        try simp only[List.set_cons_zero]
        refine wpAnyH_ready (rs:=[22]) (by kernel_rfl) (by simp) ?rd23;refine AllReadyH.cons (o:=?ob23) ?hb23 (λK hK=>?sb23) AllReadyH.nil
        case hb23=>(rw[zI];rfl)
        go_simp
        refine (H2.out w5 I8.out z5).mono ?_;rintro e w6 ⟨rfl,t6,o6⟩;have m6:=t6.cell (x:=⟨wr.heap.size,j,none⟩) hno m5;have y0:=t6.cell (x:=⟨gb,o+k*3,none⟩) C8 x0;have y1:=t6.cell (x:=⟨gb,o+k*3+1,none⟩) C8 x1;have y2:=t6.cell (x:=⟨gb,o+k*3+2,none⟩) C8 x2;have Z:=hid (I8.out.put t6 o6);have F6:=hid (F5.out.one t6 (.inl rfl));have z6:z<w6.heap.size:=xx z5 t6.size;clear t6 o6;go_wp2_with fail;refine hK.out _ _ ?sh23 (λd=>?cb23)
        case sh23=>exact⟨m6,y0,y1,y2⟩
        clear hK K
        try simp only[Act.put]
        try simp only[List.setIfInBounds_toArray]
        try simp only[zK]
        try simp only[List.set_cons_zero]
        refine wpAnyH_done (by kernel_rfl) ?_ _;refine NoPanic.normal ?_;go_wp2_with fail
        go_roundw
        case rel=>exact⟨k+1,_,by omega,by go_num,Z.out,by rw[<- J3.out];exact J5.out.1,by rw[<- J3.out];exact J5.out.2,z6,F6.out⟩
        case measure=>simp[intOf];omega
       ·have D1:k=m:=by omega
        have N3:vb=2->De.yA s r=2:=λe=>De.Gm hi4 a7 (I2.out.2 e);obtain⟨lv,N5⟩:∃x:Int,((De.yA s r:Nat):Int)=x:=⟨_,rfl⟩;have j2:G=2->lv=2:=λe=>by have:=y5.out;have:=N3 (by omega);omega
        obtain⟨L,P,q2,q3⟩:=sA.out _ hF.now;have HI:=hid hI;have HF:=hid hF;have HLV:=hid N5;have g6:=hid j2;have htl:¬((k:Int)<(m:Int)):=by omega
        clear hI hF e5 a7 D1 N5 N3 j2 k9 z0
        go_upto_region 40 with (go_at_call 10;obtain⟨g1,g2,g3,cd⟩:=DV.out oa s _ wr ao cap HI.out.a HF.out.now.p.marks HF.out.now.p.below;rw[HLV.out] at cd;refine cd.mono ?_;clear cd;rintro e a9 ⟨rfl,A7⟩;have xa:=(HF.out.step A7).now.alone;have G5:=hid (HI.out.step A7);clear A7)
        obtain⟨L0,c8⟩:∃W,a9.alloc (.cells #[.int .i64 lv,.int .i64 g1,.string g2,.int .i64 g3] 37)=W:=⟨_,rfl⟩;have A8:Below a9.heap.size a9 L0:=by rw[<- c8];exact nB a9 _
        have n24:L0.heap[a9.heap.size]?=some (.cells #[.int .i64 lv,.int .i64 g1,.string g2,.int .i64 g3] 37):=by rw[<- c8];exact zL a9 _
        have G6:=hid (G5.out.step A8);have ya:=zh A8 xa;obtain⟨eb,M2⟩:∃x,a9.heap.size=x:=⟨_,rfl⟩;rw[M2] at n24 |-;rw[c8];have x0:=(zf n24 0).1;simp at x0;clear c8 A8 n24 M2 xa G5 HF HI L P q2 q3
        by_cases ha2:G=2
        ·have d2:(G != 2)=false:=by rw[ha2];rfl
         have d3:(lv==2)=true:=by rw[g6.out ha2];rfl
         go_wp2_with fail;go_ret;exact⟨rfl,G6.out.below⟩
        ·have d2:(G != 2)=true:=by simp;exact ha2
         go_wp2_with fail;go_ret;exact⟨rfl,G6.out.below⟩
end Go.Proofs.YtagnlbgbnfnapaaGreatDoor
