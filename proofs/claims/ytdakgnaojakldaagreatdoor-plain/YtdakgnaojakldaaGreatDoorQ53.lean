/- Plain: for every list of raw papers and every list of raw requests: what an office shows of the documents that they make is a document, is printed as itself, and decides each of these requests as the one that it was made of; the library's tables and variables, the program's error of length, its table of sequences and its table of operations start as the text lays them. -/
import Derived.Test.YtdakgnaojakldaaGreatDoorCards
import Derived.Test.YtdakgnaojakldaaGreatDoorTie
import Derived.Test.YtdakgnaojakldaaGreatDoorQ51
import Derived.Test.YtdakgnaojakldaaGreatDoorQ52
import Derived.SizedLaws
open Go.Proofs.Tryz
set_option maxRecDepth 100000
set_option maxHeartbeats 8000000
namespace Go.Proofs.YtdakgnaojakldaaGreatDoor
open Go.RowKit
structure ZO (w wr:World) (oa ob:Nat) (sa sb:StO):Prop where
 below:Below w.heap.size w wr
 a:qP (λb=>b=oa\/b=ob) wr oa sa
 b:qP (λb=>b=oa\/b=ob) wr ob sb
 lt:oa<ob
 top:ob<wr.heap.size
 old:w.heap.size<=oa
theorem ZO.step{w wr c:World}{d e:Nat}{f sb:StO}(h:ZO w wr d e f sb)(hb:Below wr.heap.size wr c):ZO w c d e f sb:=
 ⟨h.below.trans (hb.mono h.below.size),h.a.below hb,h.b.below hb,h.lt,uq h.top hb.size,h.old⟩
theorem PR(l:List Kp.xA)(asks:List (List Int))(lv av:Value)(aL:Addr)(w:World)(hC:Qk w aL)(hE:xH w)(h:KZ w lv l)(hm:l.length<=maxLen)(hA:gL w av asks)(hn:asks.length<=maxLen) :
  Calls prog 9 #[lv,av] w λe w'=>e = .returned (.bool true)/\Below w.heap.size w w':=by
 have co:=OP l lv aL w hC h hm;obtain⟨hG,hM⟩:=Kp.OJ l;obtain⟨st,b0⟩:∃s,Kp.JI l=s:=⟨_,rfl⟩;rw[b0] at hG hM;unfold ic at co;rw[b0] at co;have CO:=hid co;have K:=hid (λ(p:Nat) (W:World)=>dz (λb=>b=p\/b=W.heap.size) W (.inr rfl));have u:=hid (λ(W:World) (hb:Below w.heap.size w W)=>Mm aL W (hC.below hb) (hE.below hb));have HC:=hid hC;have HE:=hid hE;have HG:=hid hG;have HM:=hid hM;have HA:=hid hA;obtain⟨a,cc,rfl,_⟩:=h;obtain⟨a2,c2,rfl,_⟩:=hA;obtain⟨m,a7⟩:=Nm asks.length;rw[a7] at hn HA |-;have V:=hid a7;unfold maxLen at hn;clear co hG hM b0 hC hE a7;go_enter func9,ntmps9
 go_upto_region 8 with (first
  | (go_at_call 21;refine (K.out p w1).mono ?_;rintro e w2 ⟨rfl,b2,o2⟩;have B2:=hid b2;have O2:=hid o2;clear b2 o2)
  | (go_at_call 20;refine CO.out.mono ?_;rintro e w1 ⟨p,rfl,h1,h2,b1,o1⟩;have B1:=hid b1;have O1:=hid o1;clear b1 o1))
 have q8:w1.heap.size<w2.heap.size:=qF O2.out.row.choose_spec.1;obtain⟨g,a9⟩:∃x,w1.heap.size=x:=⟨_,rfl⟩
 have Q:ZO w w2 p g st (Kp.bSt st 0 0):=by
  rw[Kp.Dc];refine⟨B1.out.trans (B2.out.mono B1.out.size),?_,by rw[<- a9];exact O2.out,by omega,by omega,h1⟩;exact (O1.out.more (λb hb=>by rcases hb with h|h;exact .inl h;exact .inr (by omega)) (.inl rfl)).below B2.out
 have c7:=hid Q;rw[a9];clear Q O1 O2 B1 B2 CO K a9
 go_loopw [8] (λC wr=>∃L:Nat,L<=4/\C = .int .i64 L/\ZO w wr p g st (Kp.bSt st L 0)) (λC _=>4-(intOf C).toNat)
 case atStart=>exact⟨0,zO _,rfl,c7.out⟩
 case round=>
  clear c7;obtain⟨L,hL,rfl,f⟩:=hrel;obtain⟨wo,rfl⟩:∃x,x=wr:=⟨_,rfl⟩
  by_cases hL4:L<4
  ·have cN:=NT p st (L:Int) (λb=>b=p\/b=g) wo f.a;have a5:kw (L:Int)=true:=by unfold kw;simp;omega
   have e1:U1 (L:Int)=0:=by unfold U1;rw[a5];rfl
   have e2:U0 st (L:Int)=(st L).map Prod.fst:=by unfold U0;rw[a5];rfl
   rw[e1,e2] at cN;have CN:=hid cN;have t:=hid f;clear cN f e1 e2 a5;have p8:(L:Int)<4:=by omega
   go_upto_region 14 with (go_at_call 22;refine CN.out.mono ?_;rintro e w3 ⟨nv,rfl,f7,b3⟩;have ON:=hid (Yl.own f7);have c8:=hid (t.out.step b3);have z3:=b3.size;clear f7 b3)
   obtain⟨na,nc,rfl,H⟩:=ON.out;rw[zN] at ON |-;obtain⟨n,I⟩:=Nm ((st L).length);have q2:n<=4:=by rw[<- I];exact (HG.out L hL4).2.1
   rw[I] at ON |-;have X:=hid I;have n0:g<wo.heap.size:=t.out.top;clear H I CN
   go_loopw [11] (λC wr=>∃j:Nat,j<=n/\C = .int .i64 j/\ZO w wr p g st (Kp.bSt st L j)/\Yl wr wo.heap.size (.slice na n nc) ((st L).map Prod.fst)) (λC _=>n-(intOf C).toNat)
   case atStart=>exact⟨0,zO _,rfl,c8.out,ON.out⟩
   case round=>
    clear c8 ON;obtain⟨j,hj,rfl,f,hN⟩:=hrel
    by_cases hjn:j<n
    ·have a4:j<(st L).length:=by rw[X.out];exact hjn
     obtain⟨k,l',hk,d1,d2,d3,d4⟩:=Kp.Fp HG.out HM.out hL4 a4;obtain⟨p1,p2⟩:=Kp.Db HG.out hL4 a4 hk d1 d2;have e5:=hN;obtain⟨_,_,B,c⟩:=hN;obtain⟨gb,ea,p9,q⟩:=c j _ (by rw[jN,zl a4];rfl);have a1:na=some ⟨gb,0,none⟩:=by injection B with e1;rw[e1];exact ea
     subst a1;rw[d1] at q;have jz:=Kp.pI k hk;have cS:=Tj p st (L:Int) (Kp.qp k) (λb=>b=p\/b=g) wr f.a (by unfold maxLen;omega);rw[d3,d4] at cS;have E:=λ(W:World) (hb:Below w.heap.size w W)=>PU (xu (Kp.qK l')) aL W (HC.out.below hb);rw[Kp.PV,Kp.dW] at E;have A:=λ(W:World) (D:ZO w W p g st (Kp.bSt st L j))=>ed g (Kp.bSt st L j) (L:Int) (Kp.qp k) (xu (Kp.qK l')) (λb=>b=p\/b=g) aL W (HC.out.below D.below) D.b (λb hb=>by have:=D.lt;have:=D.top;rcases hb with h|h<;>omega) (by unfold maxLen;omega)
     rw[p1,p2] at A;have j8:=Fb (Kp.qK l');have j7:=Kp.aW l';obtain⟨S,hS⟩:=Nm (xu (Kp.qK l'));simp only[hS] at cS E A j8 j7;obtain⟨nm,H⟩:∃x,Kp.qp k=x:=⟨_,rfl⟩;simp only[H] at cS A q;have CS:=hid cS;have c4:=hid E;have c5:=hid A;have t:=hid f;have HN:=hid e5;have q3:((S.size:Int)==0)=false:=by rw[qQ];omega
     clear cS E A f e5 c d1 d2 d3 d4 p1 p2 hS H B ea
     go_upto_region 19 with (first
      | (go_at_call 24;refine (c5.out w5 v.out).mono ?_;rintro e J ⟨rfl,t6,o6⟩;have T6:=hid t6;have O6:=hid o6;clear t6 o6)
      | (go_at_call 15;refine (c4.out w4 R.out.below).mono ?_;rintro e w5 ⟨rfl,z⟩;have v:=hid (R.out.step z);have N5:=hid (N4.out.turn (M:=λb=>b=g) (zT.of z) (λb hb e=>by omega));have q5:=zg z q4;clear z)
      | (go_at_call 23;refine CS.out.mono ?_;rintro e w4 ⟨rfl,b4⟩;have R:=hid (t.out.step b4);have N4:=hid (HN.out.turn (M:=λb=>b=g) (zT.of b4) (λb hb e=>by omega));have q4:=zg b4 q;clear b4))
     have hinv:ZO w J p g st (Kp.bSt st L (j+1)):=by
      have F:=v.out;exact⟨F.below.trans (T6.out.below (λk hk (e:k=g)=>by have:=F.lt;have:=F.old;omega) F.below.size),F.a.other T6.out (by have:=F.lt;omega) (.inr rfl),O6.out,F.lt,uq F.top T6.out.size,F.old⟩
     have d5:=hid hinv;have N6:=hid (N5.out.turn T6.out (λb hb (e:b=g)=>by omega));clear hinv v R t T6 O6 N5 N4 HN CS c4 c5;go_wp2_with fail
     go_roundw
     case rel=>exact⟨j+1,by omega,by go_num,d5.out,N6.out⟩
     case measure=>simp[intOf];omega
    ·have j4:j=n:=by omega
     subst j4;have y:=Kp.Da st L;rw[X.out] at y;rw[y] at f;have t:=hid f;clear f hN X y;go_wp2_with fail
     go_roundw
     case rel=>exact⟨L+1,by omega,by go_num,t.out⟩
     case measure=>simp[intOf];omega
  ·have e4:L=4:=by omega
   rw[e4] at f;have p7:¬((L:Int)<4):=by omega
   have t:=hid f;clear f e4
   go_upto_region 22 with fail
   go_loopw [18] (λC wr=>∃k:Nat,k<=m/\C = .int .i64 k/\ZO w wr p g st (Kp.bSt st 4 0)) (λC _=>m-(intOf C).toNat)
   case atStart=>exact⟨0,zO _,rfl,t.out⟩
   case round=>
    clear t;obtain⟨k,hk,rfl,f⟩:=hrel
    by_cases hkm:k<m
    ·have j6:k<asks.length:=by rw[V.out];exact hkm
     obtain⟨_,_,B,c⟩:=HA.out;obtain⟨gb,o,rv,ea,q,a3⟩:=c k _ (zl j6);have a1:a2=some ⟨gb,o,none⟩:=by injection B with e1;rw[e1];exact ea
     subst a1;obtain⟨raw,P⟩:∃r,asks[k]=r:=⟨_,rfl⟩;rw[P] at a3;have q0:=zg f.below q;have cA:=λ(W:World) (hb:Below w.heap.size w W)=>Ck raw rv W (a3.below hb);have e8:=EJ (st:=Kp.bSt st 4 0) (st':=st) (λi hi=>Kp.CZ st hi) (Kp.yF raw);have e9:(De.kZ st (Kp.yF raw)).2=0:=by unfold De.kZ;rw[zb (Ch raw)]
     have a6:=Cj raw;have cD:=λ(W:World) (ao:Option Addr) (cap:Nat) (D:ZO w W p g st (Kp.bSt st 4 0)) (a8:yK W ao (Kp.yF raw).marks)=>dY p st (Kp.yF raw) ao cap (λb=>b=p\/b=g) W D.a a8 a6 (HE.out.below D.below);have N:=λ(W:World) (ao:Option Addr) (cap:Nat) (D:ZO w W p g st (Kp.bSt st 4 0)) (a8:yK W ao (Kp.yF raw).marks)=>dY g (Kp.bSt st 4 0) (Kp.yF raw) ao cap (λb=>b=p\/b=g) W D.b a8 a6 (HE.out.below D.below);rw[e8] at N;rw[e9] at cD N;obtain⟨dc,e7⟩:∃d,(De.kZ st (Kp.yF raw)).1=d:=⟨_,rfl⟩;simp only[e7] at cD N;unfold UB ZT at cD N;obtain⟨v0,f0⟩:∃x,((dc.verdict:Nat):Int)=x:=⟨_,rfl⟩;obtain⟨v1,f1⟩:∃x,((dc.layer:Nat):Int)=x:=⟨_,rfl⟩;obtain⟨v3,f3⟩:∃x,((dc.stmt:Nat):Int)=x:=⟨_,rfl⟩;obtain⟨v2,f2⟩:∃x,dc.doc=x:=⟨_,rfl⟩;simp only[f0,f1,f2,f3] at cD N;unfold Ref.qR at cD N;have CA:=hid cA;have CD:=hid cD;have CF:=hid N;have t:=hid f;clear cA cD N f c a3 q B ea e8 e9 a6 e7 f0 f1 f2 f3 P HA V HG HM u
     go_upto_region 25 with (first
      | (go_at_call 25;refine (CD.out w5 ao cap v.out f5).mono ?_;rintro e J ⟨rfl,b6⟩;have c9:=hid (v.out.step b6);have q6:=zg b6 q5;clear b6)
      | (go_at_call 26;refine (CA.out wr t.out.below).mono ?_;rintro e w5 ⟨ao,cap,rfl,f5,z⟩;have v:=hid (t.out.step z);have q5:=zg z q0;clear z;unfold Ref.qR))
     obtain⟨W7,G⟩:∃W,J.alloc (.cells #[.int .i64 v0,.int .i64 v1,.string v2,.int .i64 v3] 48)=W:=⟨_,rfl⟩;have b7:Below J.heap.size J W7:=by rw[<- G];exact nB J _
     have n7:W7.heap[J.heap.size]?=some (.cells #[.int .i64 v0,.int .i64 v1,.string v2,.int .i64 v3] 48):=by rw[<- G];exact zM J _
     obtain⟨db,e6⟩:∃x,J.heap.size=x:=⟨_,rfl⟩;rw[e6] at n7 |-;rw[G];have T:=hid (c9.out.step b7);have q7:=zg b7 q6;have x0:=(zf n7 0).1;have x1:=(zf n7 1).1;have x2:=(zf n7 2).1;have x3:=(zf n7 3).1;simp at x0 x1 x2 x3;have zd:=qF n7;clear G b7 n7 e6 c9 v CD f5 q6 q5 q0
     go_upto_region 26 with (first
      | (go_at_call 25;refine (CF.out w8 i3 e0 U.out f6).mono ?_;rintro e w9 ⟨rfl,Z⟩;have d0:=hid (U.out.step Z);have f9:=zg Z f8;have g1:=zg Z g0;have g3:=zg Z g2;have g5:=zg Z g4;have r7:=Z.size;clear Z)
      | (go_at_call 26;refine (CA.out W7 T.out.below).mono ?_;rintro e w8 ⟨i3,e0,rfl,f6,Y⟩;have U:=hid (T.out.step Y);have f8:=zg Y x0;have g0:=zg Y x1;have g2:=zg Y x2;have g4:=zg Y x3;have r6:=Y.size;clear Y;unfold Ref.qR))
     have r8:db<w9.heap.size:=by omega
     have y0:=λO:Obj=>zg (nB w9 O) f9;have y1:=λO:Obj=>zg (nB w9 O) g1;have y2:=λO:Obj=>zg (nB w9 O) g3;have y3:=λO:Obj=>zg (nB w9 O) g5;have h9:=hid (λO:Obj=>d0.out.step (nB w9 O));clear d0 U T f6 CF CA x0 x1 x2 x3 f8 g0 g2 g4 q7;go_wp2_with fail
     go_roundw
     case rel=>exact⟨k+1,by omega,by go_num,h9.out _⟩
     case measure=>simp[intOf];omega
    ·have j5:k=m:=by omega
     subst j5;have t:=hid f;have CK:=hid (u.out wr f.below);clear f HA V HG HM u
     go_wp2_with (go_at_call 27;refine CK.out.mono ?_;rintro e w5 ⟨rfl,z⟩;have B5:=hid z;clear z)
     go_ret;exact⟨rfl,t.out.below.trans (B5.out.mono t.out.below.size)⟩
end Go.Proofs.YtdakgnaojakldaaGreatDoor
namespace Go.Proofs.YtdakgnaojakldaaGreatDoor.plain
open Go.ChangeShapes Go.WideShapes Go.ChangeAt Go.RowKit Go.Joins Go.Deep
open Go.ChangeMaps (open_string shut_string)
theorem contract(H:Type)(enc:TypeId×Value->H)(W:World)(base:Nat)(args:Array Value)(n I:List (DataW H))(before:List MemPlace)
  (c:∀(j:Nat) t v,Tryz.f9.params[j]?=some t->args[j]?=some v->Value.okWide prog W .any base t v)
  (B:DataW.Whole enc prog Tryz.f9.params.toList Rows.plainSpec.vars false W args.toList n I before)
  (z:Addr)(A:Qk W z) :
  Calls prog 9 args W λe d=>∃v,e = .returned v/\Rows.plainSpec.post enc prog Tryz.f9 false true false false W args v d:=by
 have i:=B;obtain⟨p,q,w,J,rfl,L,P⟩:=B;have u:DataW.TrodAll enc prog W 0 (λ_=>true) true Tryz.f9.params.toList args.toList n p:=w;have y:∀x ∈ p,x.block<W.heap.size:=λx Q=>by simpa using i.lt x (gV _ Q)
 obtain⟨rfl,rfl⟩:=trodVars_none J
 have f:∀d,Below W.heap.size W d->DataW.TrodAll enc prog d 0 (λb=>decide (b<W.heap.size)) true Tryz.f9.params.toList args.toList n p:=λd hb=>
  laws.zaa laws.laidOut hb _ _ _ _ (by rw[params9];decide +kernel) u y
 rw[params9] at u c;obtain⟨C,D,F,G,R,S,rfl,rfl,rfl,r,s⟩:=trodAll_two u
 have k:∀(e:Ending) (d:World),e = .returned (.bool true)/\Below W.heap.size W d ->
   ∃v,e = .returned v/\Rows.plainSpec.post enc prog Tryz.f9 false true false false W #[C,D] v d:=by
  rintro e d ⟨rfl,hb⟩;refine⟨_,rfl,[F,G],[],_,[],R++S,[],i,trodAll_mk1 (shut_bool underlying4 true),?_,rfl,hb.frame _,λh=>by cases h⟩;exact f d hb
 obtain⟨a,len,cap,rfl⟩:=okWide_slice underlying36 (c 0 36 C rfl rfl);obtain⟨E,m,g,rfl⟩:=okWide_slice underlying37 (c 1 37 D rfl rfl);obtain⟨fuel,r⟩:=r;obtain⟨o,s⟩:=s;obtain⟨l,N,M⟩:=OZ (v := .slice a len cap) r (λ_=>rfl);obtain⟨asks,O,K⟩:=Cm (v := .slice E m g) s (λ_=>rfl);exact (PR l asks _ _ z W A A.q.p M N K O).mono k
theorem lifted(os:Os)(started:os.Started)(H:Type)(enc:TypeId×Value->H)(F:Stop.Interp) :
  ReturnsInHanded {} Tryz.checked os 9 .any ((OpenSpec.ofChange Rows.plainSpec).preRow enc prog Tryz.f9 Rows.plainRow.domain false Rows.plainRow.laid) (((OpenSpec.ofChange Rows.plainSpec).at F).post enc prog Tryz.f9 false true false false):=by
 obtain⟨b,l⟩:=reads os enc
 refine returnsInHanded_of_row (C:=Tryz.checked) (s:=OpenSpec.ofChange Rows.plainSpec) laws.own started zat func9
  (witness_row_atRef (enc:=enc) (C:=Tryz.checked) false (laws.laidWorld os) Qh rfl (zax os) (zav os) (zau os)
    (OpenSpec.preRow_of_cond 8 l rfl (λk j=>by cases j) (zaw os enc) (laws.Mw os _))) ?_
 intro W base args e f before a i _ _ m h c _;obtain⟨d,g⟩:=laws.FN h c;exact contract H enc W base args e f before a i d g
theorem Lj:joinedFacts prog 9 Tryz.f9 (OpenSpec.ofChange Rows.plainSpec).bare Rows.plainRow=true:=by
 unfold joinedFacts;exact laws.xx (laws.xx (laws.xx (laws.xx (laws.xx (laws.xx (laws.xx (laws.xx (laws.xx (laws.xx (laws.xx (laws.xx (laws.xx (laws.xx (laws.xx (laws.xx (laws.xx (laws.xx (laws.xx (laws.xx (laws.xx (laws.xx (laws.xx (laws.xx (laws.xx (laws.xx (laws.xx (laws.xx (laws.xx (laws.xx (laws.xx (Mi) laws.Ls) laws.LF) LM) LH) LW) laws.LX) LY) laws.LZ) Lm) Md) LV) Mh) Lt) Lu) Lv) Lx) LA) Me) LP) LQ) LU) LK) Mc) laws.Ma) laws.LB) Lr) LD) Lp) LJ) Mf) Mg
theorem said:Rows.PlainSaid:=
 OpenClaim.holds_of_cond 9 Tryz.f9 rfl rfl rfl rfl rfl rfl rfl ⟨rfl,rfl,rfl,rfl,rfl⟩ rfl rfl rfl rfl rfl LG func9 Lj Ll Mj
  (λos started H enc _ F=>by rw[OpenClaim.pre_eq_preRow];exact lifted os started H enc F)
theorem plain (f:FuncId) (a:Func) (e:Tryz.pinned.checked.prog.funcNamed "warrant/warrantkeep.Plain" = some f) (b:Tryz.pinned.checked.prog.funcs[f]?=some a) :
  true=Tryz.pinned.checked.prog.looks []/\∀(j:Nat) t,a.params[j]?=some t->Tryz.pinned.checked.prog.wantsStandIn t=false:=by
 obtain rfl:f=9:=Option.some.inj ((show prog.funcNamed "warrant/warrantkeep.Plain" = some 9 by kernel_rfl).symm.trans e) |>.symm
 obtain rfl:a=Tryz.f9:=(Option.some.inj (func9.symm.trans b)).symm;refine⟨by kernel_rfl,λj t d=>?_⟩;rw[params9] at d;have c:=Array.mem_of_getElem? d;simp at c
 rcases c with rfl|rfl
 ·exact (show prog.wantsStandIn 36=false by kernel_rfl)
 ·exact (show prog.wantsStandIn 37=false by kernel_rfl)
theorem card:Rows.PlainCardSaid:=
 Claim7.holds_tied_plain_at .later [] _ _ _ _ said (λ_ h=>by cases h) (by kernel_rfl) (λ_ h=>by cases h) plain_row_tie rfl ⟨rfl,rfl⟩ (by kernel_rfl) rfl plain (by kernel_rfl)
end Go.Proofs.YtdakgnaojakldaaGreatDoor.plain
namespace Go.Proofs.YtdakgnaojakldaaGreatDoor
theorem plain_holds:Rows.PlainCardSaid:=plain.card
end Go.Proofs.YtdakgnaojakldaaGreatDoor
