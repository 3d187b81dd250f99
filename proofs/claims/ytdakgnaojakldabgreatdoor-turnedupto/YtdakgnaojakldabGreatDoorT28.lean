/- P -/
import Derived.Test.YtdakgnaojakldabGreatDoorT27
open Go.Proofs.Tryz
set_option maxRecDepth 100000
set_option maxHeartbeats 4000000
namespace Go.Proofs.YtdakgnaojakldabGreatDoor
open Go.RowKit
structure uy (A:World) where
 w:World
 b:Below A.heap.size A w
theorem mU(C:BA):C.toList.length=C.size:=by rw[ByteArray.toList_eq,Ref.zB]
theorem Bh{C:BA}(h:C.size=0):C.toList.isEmpty=true:=by
 rw[List.isEmpty_iff,<- List.length_eq_zero_iff,mU];exact h
theorem dx{C:BA}(h:¬C.size=0):C.toList.isEmpty=false:=by
 rw[List.isEmpty_eq_false_iff];intro e;apply h;rw[<- mU,e]
 rfl
theorem mr(r:Kp.zg)(R S T:Value)(w:World)(hr:ZH r)(V:IntsIn w R r.who)(Z:IntsIn w S r.act)(h3:IntsIn w T r.on)(m1:r.who.length<=maxLen)(m2:r.act.length<=maxLen)(m3:r.on.length<=maxLen) :
  Calls prog 21 #[XW r R S T] w λe o=>e = .returned (.string (Kp.yO r))/\Below w.heap.size w o:=by
 obtain⟨v,c1,e1⟩:∃a c,R = .slice a r.who.length c:=by obtain⟨a,c,e,_⟩:=V;exact⟨a,c,e⟩
 obtain⟨y,c2,e2⟩:∃a c,S = .slice a r.act.length c:=by obtain⟨a,c,e,_⟩:=Z;exact⟨a,c,e⟩
 obtain⟨z,c3,e3⟩:∃a c,T = .slice a r.on.length c:=by obtain⟨a,c,e,_⟩:=h3;exact⟨a,c,e⟩
 have H:=λW=>tN r v r.who.length c1 y r.act.length c2 z r.on.length c3 W hr;obtain⟨deny,who,act,on,nt,iff,key,val,no,d⟩:=r;obtain⟨f1,f2,f3,f4,J⟩:=hr;simp only at f1 f2 f3 f4 J e1 e2 e3 V Z h3 m1 m2 m3;have H1:Hid (∀(W:World),Below w.heap.size w W->∀f,Calls prog 44 #[R,.bool f,.int .i64 d] W λe o=>e = .returned (.string (Kp.xZ who f d))/\Below W.heap.size W o):=hid (λW l f=>VT who R f d W (V.below l) m1 J);have H2:Hid (∀(W:World),Below w.heap.size w W->∀f,Calls prog 44 #[S,.bool f,.int .i64 d] W λe o=>e = .returned (.string (Kp.xZ act f d))/\Below W.heap.size W o):=hid (λW l f=>VT act S f d W (Z.below l) m2 J);have H3:Hid (∀(W:World),Below w.heap.size w W->∀f,Calls prog 44 #[T,.bool f,.int .i64 d] W λe o=>e = .returned (.string (Kp.xZ on f d))/\Below W.heap.size W o):=hid (λW l f=>VT on T f d W (h3.below l) m3 J);subst e1 e2 e3;unfold XW at H |-;simp only at H |-;have b8:=Kp.bB ⟨deny,who,act,on,nt,iff,key,val,no,d⟩;have b9:=Kp.bX ⟨deny,who,act,on,nt,iff,key,val,no,d⟩;have c0:=Kp.nG ⟨deny,who,act,on,nt,iff,key,val,no,d⟩;have hE:Kp.uD ⟨deny,who,act,on,nt,iff,key,val,no,d⟩=if deny then ⟨#[123,34,101,102,102,101,99,116,34,58,34,100,101,110,121,34,44]⟩++Kp.xz d else ⟨#[123,34,101,102,102,101,99,116,34,58,34,97,108,108,111,119,34,44]⟩:=rfl
 have hI:Kp.Zy ⟨deny,who,act,on,nt,iff,key,val,no,d⟩=if (Kp.qV ⟨deny,who,act,on,nt,iff,key,val,no,d⟩).size=0 then Kp.uD ⟨deny,who,act,on,nt,iff,key,val,no,d⟩ else Kp.uD ⟨deny,who,act,on,nt,iff,key,val,no,d⟩++⟨#[34,105,102,34,58,91]⟩++Kp.qV ⟨deny,who,act,on,nt,iff,key,val,no,d⟩++⟨#[93,44]⟩:=rfl
 have hR:Kp.yO ⟨deny,who,act,on,nt,iff,key,val,no,d⟩=Kp.Zy ⟨deny,who,act,on,nt,iff,key,val,no,d⟩++⟨#[34,111,110,34,58]⟩++Kp.xZ on (decide (Kp.zk nt 16=1)) d++⟨#[44,34,119,104,111,34,58]⟩++Kp.xZ who (decide (Kp.zk nt 16=2)) d++⟨#[44,34,100,111,34,58]⟩++Kp.xZ act (decide (Kp.zk nt 16=3)) d++⟨#[125]⟩:=rfl;rw[hR];obtain⟨C,hC⟩:∃x,Kp.qV ⟨deny,who,act,on,nt,iff,key,val,no,d⟩=x:=⟨_,rfl⟩;obtain⟨E,q⟩:∃x,Kp.uD ⟨deny,who,act,on,nt,iff,key,val,no,d⟩=x:=⟨_,rfl⟩;obtain⟨I,n⟩:∃x,Kp.Zy ⟨deny,who,act,on,nt,iff,key,val,no,d⟩=x:=⟨_,rfl⟩;rw[hC,q,n] at hI;rw[hC] at b8;rw[q] at b9 hE;rw[n] at c0;rw[n];simp only[hC] at H;clear hR hC q n;have cp:=λW=>UX d W J;have c4:=Kp.Qv d;obtain⟨Pd,t⟩:∃x,Kp.xz d=x:=⟨_,rfl⟩;rw[t] at hE c4;simp only[t] at cp;have cn:=λW=>vL nt 16 W f1 (by decide) (by decide);have L:=Kp.qO nt 16 (by decide);obtain⟨N,hN⟩:∃x,Kp.zk nt 16=x:=⟨_,rfl⟩;rw[hN] at L |-;simp only[hN] at cn;have z1:=Kp.Jf who (decide (N=2)) d;have z2:=Kp.Jf act (decide (N=3)) d;have z3:=Kp.Jf on (decide (N=1)) d;have x1:(((N:Nat):Int)==1)=decide (N=1):=by rw[Bool.eq_iff_iff];simp;omega
 have x2:(((N:Nat):Int)==2)=decide (N=2):=by rw[Bool.eq_iff_iff];simp;omega
 have x3:(((N:Nat):Int)==3)=decide (N=3):=by rw[Bool.eq_iff_iff];simp;omega
 obtain⟨y1,hy1⟩:∃b,decide (N=1)=b:=⟨_,rfl⟩;obtain⟨y2,hy2⟩:∃b,decide (N=2)=b:=⟨_,rfl⟩;obtain⟨y3,hy3⟩:∃b,decide (N=3)=b:=⟨_,rfl⟩;rw[hy1] at x1 z3;rw[hy2] at x2 z1;rw[hy3] at x3 z2;simp only[hy1,hy2,hy3];clear hy1 hy2 hy3;have HE:=hid hE;have U:=hid hI;have B:=hid H;have CP:=hid cp;have CN:=hid cn;clear hE hI H cp cn hN t;obtain⟨A,hA⟩:=Nm (w.alloc (.cells #[.bool deny,.slice v who.length c1,.slice y act.length c2,.slice z on.length c3,.int .i64 nt,.int .i64 iff,.int .i64 key,.int .i64 val,.bool no,.int .i64 d] 32));have bl:=heap_alloc_new w (.cells #[.bool deny,.slice v who.length c1,.slice y act.length c2,.slice z on.length c3,.int .i64 nt,.int .i64 iff,.int .i64 key,.int .i64 val,.bool no,.int .i64 d] 32);have G:Below w.heap.size w A:=by rw[<- hA];exact nB w _
 rw[hA] at bl;have k0:A.cell? ⟨w.heap.size,0,none⟩=some (.bool deny):=(za bl 0).1;have k1:A.cell? ⟨w.heap.size,1,none⟩=some (.slice v who.length c1):=(za bl 1).1;have k2:A.cell? ⟨w.heap.size,2,none⟩=some (.slice y act.length c2):=(za bl 2).1;have k3:A.cell? ⟨w.heap.size,3,none⟩=some (.slice z on.length c3):=(za bl 3).1;have k4:A.cell? ⟨w.heap.size,4,none⟩=some (.int .i64 nt):=(za bl 4).1;have k5:A.cell? ⟨w.heap.size,5,none⟩=some (.int .i64 iff):=(za bl 5).1;have k6:A.cell? ⟨w.heap.size,6,none⟩=some (.int .i64 key):=(za bl 6).1;have k7:A.cell? ⟨w.heap.size,7,none⟩=some (.int .i64 val):=(za bl 7).1;have k8:A.cell? ⟨w.heap.size,8,none⟩=some (.bool no):=(za bl 8).1;have k9:A.cell? ⟨w.heap.size,9,none⟩=some (.int .i64 d):=(za bl 9).1;have F:=hid G;have u:=hid hA;obtain⟨o1,M⟩:∃x,who.length=x:=⟨_,rfl⟩;obtain⟨o2,O⟩:∃x,act.length=x:=⟨_,rfl⟩;obtain⟨o3,P⟩:∃x,on.length=x:=⟨_,rfl⟩;rw[M] at m1 k1 H1 B u |-;rw[O] at m2 k2 H2 B u |-;rw[P] at m3 k3 H3 B u |-;clear bl G hA V Z h3 M O P;go_enter func21,ntmps21
 go_upto_if 7 with (fail)
 go_cut [3] (λs wx=>s = .string E/\Below A.heap.size A wx)
 case first=>
  cases deny with
  | true=>
   go_wp2_with (go_at_call 42;refine (CP.out _).mono ?_;rintro e w2 ⟨rfl,b2⟩;have b0:=hid b2;clear b2)
   go_meet
   case rel=>exact⟨by rw[HE.out];rfl,by rw[<- u.out];exact b0.out⟩
  | false=>
   go_wp2_with fail
   go_meet
   case rel=>exact⟨by rw[HE.out];rfl,by rw[<- u.out];exact Below.refl _ _⟩
 case rest=>
  obtain⟨rfl,g⟩:=hcut;have l1:=zb g k1;have l2:=zb g k2;have l3:=zb g k3;have l4:=zb g k4;have l5:=zb g k5;have l6:=zb g k6;have l7:=zb g k7;have l8:=zb g k8;have l9:=zb g k9;have l0:=zb g k0;have D:Hid (Below w.heap.size w wc):=Below.step F.out g (Nat.le_refl _);clear g k0 k1 k2 k3 k4 k5 k6 k7 k8 k9 HE u CP F
  go_upto_if 15 with (go_at_call 43;refine (B.out _).mono ?_;rintro e i ⟨rfl,b3⟩;have j:=hid b3;clear b3)
  go_cut [3] (λs wx=>s = .string I/\wx=i)
  case first=>
   have k:=U.out
   by_cases hc0:C.size=0
   ·rw[if_pos hc0] at k;rw[Bh hc0];have p:=hid k;clear k U;go_wp2_with fail
    go_meet
    case rel=>exact⟨by rw[p.out],rfl⟩
   ·rw[if_neg hc0] at k;rw[dx hc0];have p:=hid k;clear k U;go_wp2_with fail
    go_meet
    case rel=>exact⟨by rw[p.out],rfl⟩
  case rest=>
   obtain⟨rfl,Q⟩:=hcut;rw[Q];clear Q U;have n1:=zb j.out l1;have n2:=zb j.out l2;have n3:=zb j.out l3;have n4:=zb j.out l4;have n9:=zb j.out l9;have m:Hid (Below w.heap.size w i):=Below.step D.out j.out (Nat.le_refl _);clear l0 l1 l2 l3 l4 l5 l6 l7 l8 l9 D j B
   go_upto_region 8 with (go_at_call 5;refine (CN.out _).mono ?_;rintro e w4 ⟨rfl,e4⟩;rw[e4];clear e4)
   have g1:∀X:uy i,X.w.cell? ⟨w.heap.size,1,none⟩=some (.slice v o1 c1):=λX=>zb X.b n1;have g2:∀X:uy i,X.w.cell? ⟨w.heap.size,2,none⟩=some (.slice y o2 c2):=λX=>zb X.b n2;have g3:∀X:uy i,X.w.cell? ⟨w.heap.size,3,none⟩=some (.slice z o3 c3):=λX=>zb X.b n3;have g9:∀X:uy i,X.w.cell? ⟨w.heap.size,9,none⟩=some (.int .i64 d):=λX=>zb X.b n9
   have G1:Hid (∀(X:uy i) f,Calls prog 44 #[.slice v o1 c1,.bool f,.int .i64 d] X.w λe h=>e = .returned (.string (Kp.xZ who f d))/\∃Y:uy i,h=Y.w):=
    hid (λX f=>(H1.out X.w (Below.step m.out X.b (Nat.le_refl _)) f).mono (λe h ⟨K,l⟩=>⟨K,⟨h,Below.step X.b l (Nat.le_refl _)⟩,rfl⟩))
   have G2:Hid (∀(X:uy i) f,Calls prog 44 #[.slice y o2 c2,.bool f,.int .i64 d] X.w λe h=>e = .returned (.string (Kp.xZ act f d))/\∃Y:uy i,h=Y.w):=
    hid (λX f=>(H2.out X.w (Below.step m.out X.b (Nat.le_refl _)) f).mono (λe h ⟨K,l⟩=>⟨K,⟨h,Below.step X.b l (Nat.le_refl _)⟩,rfl⟩))
   have G3:Hid (∀(X:uy i) f,Calls prog 44 #[.slice z o3 c3,.bool f,.int .i64 d] X.w λe h=>e = .returned (.string (Kp.xZ on f d))/\∃Y:uy i,h=Y.w):=
    hid (λX f=>(H3.out X.w (Below.step m.out X.b (Nat.le_refl _)) f).mono (λe h ⟨K,l⟩=>⟨K,⟨h,Below.step X.b l (Nat.le_refl _)⟩,rfl⟩))
   have NE:Nonempty (uy i):=⟨⟨i,Below.refl _ _⟩⟩;clear n1 n2 n3 n4 n9 H1 H2 H3;refine wp_region_quiet (C:=λW'=>∃X:uy i,W'=X.w) (by kernel_rfl) (by kernel_rfl) ⟨⟨_,(Below.refl _ i).drew⟩,rfl⟩ ?_;simp only
   repeat (go_big_quiet_step (fail))
   go_big_quiet_step (exact G3.out _ _)
   repeat (go_big_quiet_step (fail))
   go_big_quiet_step (exact G1.out _ _)
   repeat (go_big_quiet_step (fail))
   go_big_quiet_step (exact G2.out _ _)
   repeat (go_big_quiet_step (fail))
   refine wpQuiet_nil ?_;intro o c5;obtain⟨X,rfl⟩:=c5;go_wp2_with fail;go_ret;exact⟨rfl,Below.step m.out X.b (Nat.le_refl _)⟩
def uY(w:World)(g:Value)(l:List Kp.zg):Prop:=∃a c,g = .slice a l.length c/\∀(k:Nat) (r:Kp.zg),l[k]?=some r->ZH r/\r.who.length<=maxLen/\r.act.length<=maxLen/\r.on.length<=maxLen /\
 ∃b o d e f,a=some ⟨b,o,none⟩/\(w.cell? ⟨b,o+k*10,none⟩=some (.bool r.deny)/\w.cell? ⟨b,o+k*10+1,none⟩=some d/\w.cell? ⟨b,o+k*10+2,none⟩=some e/\w.cell? ⟨b,o+k*10+3,none⟩=some f /\
  w.cell? ⟨b,o+k*10+4,none⟩=some (.int .i64 r.nt)/\w.cell? ⟨b,o+k*10+5,none⟩=some (.int .i64 r.iff)/\w.cell? ⟨b,o+k*10+6,none⟩=some (.int .i64 r.key)/\w.cell? ⟨b,o+k*10+7,none⟩=some (.int .i64 r.val) /\
  w.cell? ⟨b,o+k*10+8,none⟩=some (.bool r.no)/\w.cell? ⟨b,o+k*10+9,none⟩=some (.int .i64 r.style))/\IntsIn w d r.who/\IntsIn w e r.act/\IntsIn w f r.on
theorem uY.below{w f:World}{d:Value}{l:List Kp.zg}(h:uY w d l)(b:Below w.heap.size w f):uY f d l:=by
 obtain⟨a,c,rfl,h⟩:=h;refine⟨a,c,rfl,λk r p=>?_⟩;obtain⟨i,j,m,n,g,o,E,F,G,e,⟨u,v,q2,x,y,z,A,B,C,D⟩,q,s,t⟩:=h k r p;exact⟨i,j,m,n,g,o,E,F,G,e,⟨zb b u,zb b v,zb b q2,zb b x,zb b y,zb b z,zb b A,zb b B,zb b C,zb b D⟩,q.below b,s.below b,t.below b⟩
theorem AX(r:Kp.zg):1<=(Kp.uD r).size:=by
 unfold Kp.uD
 split
 ·rw[ByteArray.size_append];show 1<=17+_;omega
 ·decide
theorem Oy(r:Kp.zg):1<=(Kp.yO r).size:=by
 have a:=AX r
 have b:1<=(Kp.Zy r).size:=by
  unfold Kp.Zy
  split
  ·exact a
  ·repeat rw[ByteArray.size_append]
   omega
 unfold Kp.yO
 repeat rw[ByteArray.size_append]
 omega
theorem IM(l:List Kp.zg)(k:Nat)(h:k<l.length):1<=(Kp.yZ l (k+1)).size:=by
 rw[Kp.yZ,ByteArray.size_append,List.getElem?_eq_getElem h]
 have:=Oy l[k]
 show 1<=_+(Kp.yO l[k]).size;omega
theorem Jy(w:World):IntsIn w (.slice none 0 0) []:=⟨none,0,rfl,λk x a=>by simp at a⟩
theorem iy(l:List Kp.zg)(lv:Value)(w:World)(h:uY w lv l)(hm:l.length<=maxLen) :
  Calls prog 13 #[lv] w λe w'=>e = .returned (.string (Kp.xh l))/\Below w.heap.size w w':=by
 have hR:=h;obtain⟨a,cc,rfl,_⟩:=h;obtain⟨n,t⟩:=Nm l.length;have hP:Kp.xh l=⟨#[123,34,115,116,97,116,101,109,101,110,116,34,58,91]⟩++Kp.Zi l++⟨#[93,125]⟩:=rfl;have F:Kp.Zi l=if n=0 then Kp.yO Kp.qI else Kp.yZ l (min n 4):=by unfold Kp.Zi;rw[t]
 have a7:=Kp.aM l;have B:∀k,k<=4->(Kp.yZ l k).size<=3556:=λk Y=>by have:=Kp.UZ l k;omega
 have i:∀k,k<n->1<=(Kp.yZ l (k+1)).size:=λk Y=>IM l k (by omega);have b:∀k r,l[k]?=some r->Kp.yZ l (k+1)=(if 0<k then Kp.yZ l k++⟨#[44]⟩ else Kp.yZ l k)++Kp.yO r:=λk r Y=>by rw[Kp.yZ,Y];rfl
 have v:Kp.yZ l 0=⟨#[]⟩:=rfl;obtain⟨O,hO⟩:∃O:Nat->BA,Kp.yZ l=O:=⟨_,rfl⟩;rw[hO] at F B i b v;obtain⟨Bo,I⟩:∃x,Kp.Zi l=x:=⟨_,rfl⟩;rw[I] at F hP a7;rw[hP];rw[t] at hm |-;unfold maxLen at hm;have c0:=λW=>mr Kp.qI (.slice none 0 0) (.slice none 0 0) (.slice none 0 0) W ⟨by unfold I64;decide,by unfold I64;decide,by unfold I64;decide,by unfold I64;decide,by unfold I64;decide⟩ (Jy W) (Jy W) (Jy W) (by decide) (by decide) (by decide);unfold XW Kp.qI at c0;simp only at c0;have a6:=Kp.Ve Kp.qI;have G:n=0->Bo=Kp.yO ⟨false,[],[],[],0,0,0,0,false,0⟩:=λe=>by rw[F,if_pos e];rfl
 have H:n≠0->Bo=O (min n 4):=λe=>by rw[F,if_neg e]
 have U:=hid hR;have R:=hid t;have E:=hid B;have T:=hid i;have V:=hid b;have D:=hid v;have C0:=hid c0;have m:=hid G;have p:=hid H;clear hR t B i b v c0 G H F hP hO I;go_enter func13,ntmps13
 go_wp2
 go_loopw [3,4] (λov iv wr=>∃k:Nat,k<=min n 4/\iv = .int .i64 k/\ov = .string (O k)/\Below w.heap.size w wr) (λ_ iv _=>min n 4-(intOf iv).toNat)
 case atStart=>exact⟨0,Nat.zero_le _,rfl,by rw[D.out],Below.refl _ _⟩
 case round=>
  obtain⟨k,Y,rfl,rfl,hb⟩:=hrel;have C:=hid hb;have z:=E.out k (by omega);clear hb
  by_cases hlt:k<n/\k<4
  ·obtain⟨a8,f5⟩:=hlt;have J:k<l.length:=by rw[R.out];exact a8
   obtain⟨a',c',e',u⟩:=U.out.below C.out;obtain⟨f,m1,m2,m3,gb,o,v1,v2,v3,e2,⟨q0,q1,q2,q3,q4,q5,q6,q7,q8,q9⟩,Z,i2,i3⟩:=u k _ (List.getElem?_eq_getElem J);have Q:=V.out k _ (List.getElem?_eq_getElem J);have z2:=E.out (k+1) (by omega);injection e' with e3 e4 e5
   subst e3;subst e2;obtain⟨r,hr⟩:=Nm (l[k]);rw[hr] at f m1 m2 m3 q0 q4 q5 q6 q7 q8 q9 Z i2 i3 Q;have cs:=mr r v1 v2 v3 wr f Z i2 i3 m1 m2 m3;have a9:=Kp.Ve r;obtain⟨b1,d1,g1⟩:∃a c,v1 = .slice a r.who.length c:=by obtain⟨a,c,e,_⟩:=Z;exact⟨a,c,e⟩
   obtain⟨q,d2,g2⟩:∃a c,v2 = .slice a r.act.length c:=by obtain⟨a,c,e,_⟩:=i2;exact⟨a,c,e⟩
   obtain⟨b3,d3,g3⟩:∃a c,v3 = .slice a r.on.length c:=by obtain⟨a,c,e,_⟩:=i3;exact⟨a,c,e⟩
   subst g1 g2 g3;obtain⟨deny,who,act,on,nt,iff,key,val,no,st⟩:=r;unfold XW at cs;simp only at q0 q1 q2 q3 q4 q5 q6 q7 q8 q9 cs Q;obtain⟨S,hS⟩:∃x,Kp.yO ⟨deny,who,act,on,nt,iff,key,val,no,st⟩=x:=⟨_,rfl⟩;rw[hS] at cs Q a9;obtain⟨o1,M⟩:∃x,who.length=x:=⟨_,rfl⟩;obtain⟨o2,N⟩:∃x,act.length=x:=⟨_,rfl⟩;obtain⟨o3,P⟩:∃x,on.length=x:=⟨_,rfl⟩;rw[M] at q1 cs;rw[N] at q2 cs;rw[P] at q3 cs;have CS:=hid cs;have g:=hid Q;obtain⟨X,hX⟩:∃x,O k=x:=⟨_,rfl⟩;rw[hX] at z g |-;have k0:(0:Int)<=(k:Int):=Int.natCast_nonneg _;have k1:(k:Int)<(n:Int):=by omega
   clear u e4 e5 f m1 m2 m3 Z i2 i3 cs hS M N P hr Q hX V U R E T m p C0 D
   by_cases s:0<k
   ·rw[if_pos s] at g
    go_wp2_with (go_at_call 21;refine CS.out.mono ?_;rintro e w2 ⟨rfl,q⟩;have d:=hid (Below.step C.out q (Nat.le_refl _));clear q)
    go_roundw
    case rel=>exact⟨k+1,by omega,by go_num,by rw[g.out],d.out⟩
    case measure=>simp[intOf];omega
   ·rw[if_neg s] at g
    go_wp2_with (go_at_call 21;refine CS.out.mono ?_;rintro e w2 ⟨rfl,q⟩;have d:=hid (Below.step C.out q (Nat.le_refl _));clear q)
    go_roundw
    case rel=>exact⟨k+1,by omega,by go_num,by rw[g.out],d.out⟩
    case measure=>simp[intOf];omega
  ·have K:k=min n 4:=by omega
   by_cases v:n=0
   ·have s:k=0:=by omega
    subst s;have y:=m.out v;have L:=D.out;subst v;rw[L];have a4:=hid y;have b0:decide ((0:Int)<((0:Nat):Int))=false:=by decide
    rw[show Kp.qI=⟨false,[],[],[],0,0,0,0,false,0⟩ from rfl,<- y] at a6
    clear y L m p V U R E T D K z
    go_wp2_with (go_at_call 21;refine (C0.out _).mono ?_;rintro e w2 ⟨rfl,q⟩;rw[<- a4.out];have d:=hid (Below.step C.out q (Nat.le_refl _));clear q)
    go_ret;exact⟨rfl,d.out⟩
   ·have A:=p.out v;obtain⟨j,rfl⟩:∃j,k=j+1:=⟨k-1,by omega⟩;have hp:=T.out j (by omega);rw[<- K] at A;rw[<- A] at hp |-;have f6:Bo.toList.isEmpty=false:=dx (by omega);clear A m p V U R E T D C0 z
    by_cases h4:j+1<4
    ·have e1:decide (((j+1:Nat):Int)<(n:Int))=false:=by simp;omega
     go_wp2_with fail;go_ret;exact⟨rfl,C.out⟩
    ·have e1:decide (((j+1:Nat):Int)<4)=false:=by simp;omega
     go_wp2_with fail
     all_goals
      go_ret;exact⟨rfl,C.out⟩
namespace Rd
open Ref
def At(l:List UInt8)(p:Nat)(t r:List UInt8):Prop:=l.drop p=t++r
theorem At.app{l:List UInt8}{p:Nat}{a b r:List UInt8}(h:At l p (a++b) r):At l p a (b++r)/\At l (p+a.length) b r:=by
 unfold At at h |-;rw[List.append_assoc] at h;refine⟨h,?_⟩;rw[<- List.drop_drop,h,List.drop_left]
theorem At.le{l:List UInt8}{p:Nat}{t r:List UInt8}(h:At l p t r)(a:t≠[]):p+t.length<=l.length:=by
 have:=congrArg List.length h
 have b:0<t.length:=List.length_pos_iff.2 a;rw[List.length_drop,List.length_append] at this;omega
theorem At.hd{l:List UInt8}{p:Nat}{b:UInt8}{t r:List UInt8}(h:At l p (b::t) r):ze l p=b.toNat:=by
 unfold At at h;unfold Rd.ze
 have:l[p]?=some b:=by
  have:=congrArg (λx=>x[0]?) h
  simpa [List.getElem?_drop] using this
 rw[List.getD_eq_getElem?_getD,this]
 rfl
theorem At.hdR{l:List UInt8}{p:Nat}{b:UInt8}{t r:List UInt8}(h:At l p t (b::r)):ze l (p+t.length)=b.toNat:=by
 have a:At l p (t++[b]) r:=by unfold At at h |-;rw[h];simp
 exact a.app.2.hd
structure QG (t:List UInt8) (u:BA):Prop where
 pos:t≠[]
 first:t.head?≠some 34
 reads:∀l p r,At l p t r->xw l p = .ok u (p+t.length)
inductive je:List UInt8->BA->Prop
 | nil:je [] ⟨#[]⟩
 | char {t u t' u'}:QG t u->je t' u'->je (t++t') (u++u')
theorem OY{t:List UInt8}{s:BA}(h:je t s):∀(l r:List UInt8) (p f:Nat) (acc:BA),At l p (t++[34]) r->t.length+1<=f->qh l f p acc = .ok (acc++s) (p+t.length+1):=by
 induction h with
 | nil=>
  intro l r p f acc d a;have k:=At.hd (b:=34) (t:=[]) d
  match f,a with
  | f+1,_=>
   rw[qh,if_pos (by rw[k];rfl)]
   have:acc++(⟨#[]⟩:BA)=acc:=by apply ByteArray.ext;simp[ByteArray.data_append]
   rw[this]
   rfl
 | char g q o=>
  rename_i t u v i;intro l r p f acc d a;rw[List.append_assoc] at d;obtain⟨c,j⟩:=d.app;have n:=g.reads l p _ c;have hlen:0<t.length:=List.length_pos_iff.2 g.pos
  have m:ze l p≠34:=by
   match t,g.first,c with
   | b::t2,hf1,c=>
    rw[c.hd];intro e;apply hf1
    have:b=34:=UInt8.toNat_inj.1 e
    simp[this]
  match f,a with
  | f+1,a=>
   rw[qh,if_neg m,n];simp only;rw[o l r (p+t.length) f (acc++u) j (by rw[List.length_append] at a;omega),List.length_append]
   have:acc++u++i=acc++(u++i):=by apply ByteArray.ext;simp[ByteArray.data_append]
   rw[this];congr 1;omega
theorem Ko{t:List UInt8}{s:BA}(h:je t s){l r:List UInt8}{p:Nat}(a:At l p (t++[34]) r):jb l p = .ok s (p+t.length+1):=by
 have hle:=a.le (by simp);rw[List.length_append,List.length_singleton] at hle;unfold jb;rw[OY h l r p _ _ a (by omega)]
 have:(⟨#[]⟩:BA)++s=s:=by apply ByteArray.ext;simp[ByteArray.data_append]
 rw[this]
def Blanks(b:List UInt8):Prop:=∀c ∈ b,blank c.toNat=true
theorem skip_none(l:List UInt8)(p:Nat)(h:blank (ze l p)=false):skip l p=p:=by rw[kX,h];rfl
theorem lQ:∀(b:List UInt8),Blanks b->∀(l r:List UInt8) (p:Nat),At l p b r->blank (ze l (p+b.length))=false->skip l p=p+b.length
 | [],_,l,r,p,_,hr=>by simpa using skip_none l p hr
 | c::b,hb,l,r,p,ha,hr=>by
  have e:=hb c (by simp);have d:At l (p+1) b r:=(At.app (a:=[c]) (b:=b) ha).2;rw[kX,ha.hd,e,if_pos rfl,lQ b (λx f=>hb x (by simp[f])) l r (p+1) d (by rw[show p+1+b.length=p+(c::b).length by simp;omega];exact hr)]
  simp;omega
mutual
inductive W:Nat->List UInt8->V->Prop
 | str {d t s}:je t s->W d ([34]++t++[34]) (.str s)
 | yes {d}:W d [116,114,117,101] (.word true)
 | no {d}:W d [102,97,108,115,101] (.word false)
 | list {d b t vs}:d<=8->Blanks b->WL d t vs->W d ([91]++b++t) (.list vs)
 | obj {d b t ms}:d<=8->Blanks b->WO d t ms->(ms.map λm=>m.1.toList).Nodup->W d ([123]++b++t) (.obj ms)
inductive WL:Nat->List UInt8->List V->Prop
 | last {d t v b}:W (d+1) t v->Blanks b->WL d (t++b++[93]) [v]
 | more {d t v b c t' vs}:W (d+1) t v->Blanks b->Blanks c->WL d t' vs->WL d (t++b++[44]++c++t') (v::vs)
inductive WO:Nat->List UInt8->List (BA×V)->Prop
 | last {d n s b c t v e}:je n s->Blanks b->Blanks c->W (d+1) t v->Blanks e->WO d ([34]++n++[34]++b++[58]++c++t++e++[125]) [(s,v)]
 | more {d n s b c t v e g t' ms}:je n s->Blanks b->Blanks c->W (d+1) t v->Blanks e->Blanks g->WO d t' ms->WO d ([34]++n++[34]++b++[58]++c++t++e++[44]++g++t') ((s,v)::ms)
end
theorem W.head{d:Nat}{t:List UInt8}{v:V}(h:W d t v):∃c r,t=c::r/\blank c.toNat=false/\c≠93/\c≠125:=by
 cases h with
 | str h=>exact⟨34,_,rfl,by decide,by decide,by decide⟩
 | yes=>exact⟨116,_,rfl,by decide,by decide,by decide⟩
 | no=>exact⟨102,_,rfl,by decide,by decide,by decide⟩
 | list _ _ _=>exact⟨91,_,rfl,by decide,by decide,by decide⟩
 | obj _ _ _ _=>exact⟨123,_,rfl,by decide,by decide,by decide⟩
theorem WL.head{d:Nat}{t:List UInt8}{f:List V}(h:WL d t f):∃c r,t=c::r/\blank c.toNat=false/\c≠93:=by
 cases h with
 | last e _=>obtain⟨c,r,rfl,a,b,_⟩:=e.head;exact⟨c,_,rfl,a,b⟩
 | more e _ _ _=>obtain⟨c,r,rfl,a,b,_⟩:=e.head;exact⟨c,_,rfl,a,b⟩
theorem WO.head{d:Nat}{t:List UInt8}{ms:List (BA×V)}(h:WO d t ms):∃r,t=34::r:=by
 cases h with
 | last=>exact⟨_,rfl⟩
 | more=>exact⟨_,rfl⟩
end Rd
end Go.Proofs.YtdakgnaojakldabGreatDoor
