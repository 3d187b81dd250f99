/- P -/
import Derived.Test.YtagnlbgbnfnapaaGreatDoorZ27
open Go.Proofs.Tryz
set_option maxRecDepth 100000
set_option maxHeartbeats 4000000
namespace Go.Proofs.YtagnlbgbnfnapaaGreatDoor
open Go.RowKit
structure ZP (A:World) where
 w:World
 b:Below A.heap.size A w
theorem BU(C:BA):C.toList.length=C.size:=by rw[QQ,Ref.zP]
theorem Hr{C:BA}(h:C.size=0):C.toList.isEmpty=true:=by
 rw[au,<- uW,BU];exact h
theorem pg{C:BA}(h:¬C.size=0):C.toList.isEmpty=false:=by
 rw[List.isEmpty_eq_false_iff];intro e;apply h;rw[<- BU,e]
 rfl
theorem BK(r:Kp.zm)(v1 v2 v3:Value)(w:World)(hr:Qo r)(R:IntsIn w v1 r.who)(S:IntsIn w v2 r.act)(T:IntsIn w v3 r.on)(m1:r.who.length<=maxLen)(m2:r.act.length<=maxLen)(m3:r.on.length<=maxLen) :
  Calls prog 28 #[Vo r v1 v2 v3] w λe n=>e = .returned (.string (Kp.jZ r))/\Below w.heap.size w n:=by
 obtain⟨u,c1,e1⟩:∃a c,v1 = .slice a r.who.length c:=by obtain⟨a,c,e,_⟩:=R;exact⟨a,c,e⟩
 obtain⟨v,c2,e2⟩:∃a c,v2 = .slice a r.act.length c:=by obtain⟨a,c,e,_⟩:=S;exact⟨a,c,e⟩
 obtain⟨y,c3,e3⟩:∃a c,v3 = .slice a r.on.length c:=by obtain⟨a,c,e,_⟩:=T;exact⟨a,c,e⟩
 have G:=λW=>Fv r u r.who.length c1 v r.act.length c2 y r.on.length c3 W hr;obtain⟨deny,who,act,on,nt,iff,key,val,no,d⟩:=r;obtain⟨f1,f2,f3,f4,H⟩:=hr;simp only at f1 f2 f3 f4 H e1 e2 e3 R S T m1 m2 m3;have H1:Hid (∀(W:World),Below w.heap.size w W->∀f,Calls prog 66 #[v1,.bool f,.int .i64 d] W λe n=>e = .returned (.string (Kp.ji who f d))/\Below W.heap.size W n):=hid (λW hb f=>bz who v1 f d W (R.below hb) m1 H);have H2:Hid (∀(W:World),Below w.heap.size w W->∀f,Calls prog 66 #[v2,.bool f,.int .i64 d] W λe n=>e = .returned (.string (Kp.ji act f d))/\Below W.heap.size W n):=hid (λW hb f=>bz act v2 f d W (S.below hb) m2 H);have H3:Hid (∀(W:World),Below w.heap.size w W->∀f,Calls prog 66 #[v3,.bool f,.int .i64 d] W λe n=>e = .returned (.string (Kp.ji on f d))/\Below W.heap.size W n):=hid (λW hb f=>bz on v3 f d W (T.below hb) m3 H);subst e1 e2 e3;unfold Vo at G |-;simp only at G |-;have b4:=Kp.nW ⟨deny,who,act,on,nt,iff,key,val,no,d⟩;have b5:=Kp.oJ ⟨deny,who,act,on,nt,iff,key,val,no,d⟩;have b6:=Kp.Cn ⟨deny,who,act,on,nt,iff,key,val,no,d⟩;have Z:Kp.ZZ ⟨deny,who,act,on,nt,iff,key,val,no,d⟩=if deny then ⟨#[123,34,101,102,102,101,99,116,34,58,34,100,101,110,121,34,44]⟩++Kp.yJ d else ⟨#[123,34,101,102,102,101,99,116,34,58,34,97,108,108,111,119,34,44]⟩:=rfl
 have hI:Kp.Xm ⟨deny,who,act,on,nt,iff,key,val,no,d⟩=if (Kp.xU ⟨deny,who,act,on,nt,iff,key,val,no,d⟩).size=0 then Kp.ZZ ⟨deny,who,act,on,nt,iff,key,val,no,d⟩ else Kp.ZZ ⟨deny,who,act,on,nt,iff,key,val,no,d⟩++⟨#[34,105,102,34,58,91]⟩++Kp.xU ⟨deny,who,act,on,nt,iff,key,val,no,d⟩++⟨#[93,44]⟩:=rfl
 have hR:Kp.jZ ⟨deny,who,act,on,nt,iff,key,val,no,d⟩=Kp.Xm ⟨deny,who,act,on,nt,iff,key,val,no,d⟩++⟨#[34,111,110,34,58]⟩++Kp.ji on (decide (Kp.zy nt 16=1)) d++⟨#[44,34,119,104,111,34,58]⟩++Kp.ji who (decide (Kp.zy nt 16=2)) d++⟨#[44,34,100,111,34,58]⟩++Kp.ji act (decide (Kp.zy nt 16=3)) d++⟨#[125]⟩:=rfl;rw[hR];obtain⟨C,V⟩:∃x,Kp.xU ⟨deny,who,act,on,nt,iff,key,val,no,d⟩=x:=⟨_,rfl⟩;obtain⟨E,p⟩:∃x,Kp.ZZ ⟨deny,who,act,on,nt,iff,key,val,no,d⟩=x:=⟨_,rfl⟩;obtain⟨I,m⟩:∃x,Kp.Xm ⟨deny,who,act,on,nt,iff,key,val,no,d⟩=x:=⟨_,rfl⟩;rw[V,p,m] at hI;rw[V] at b4;rw[p] at b5 Z;rw[m] at b6;rw[m];simp only[V] at G;clear hR V p m;have cp:=λW=>gG d W H;have b7:=Kp.Yu d;obtain⟨Pd,q⟩:∃x,Kp.yJ d=x:=⟨_,rfl⟩;rw[q] at Z b7;simp only[q] at cp;have cn:=λW=>uh nt 16 W f1 (by decide) (by decide);have K:=Kp.xI nt 16 (by decide);obtain⟨N,hN⟩:∃x,Kp.zy nt 16=x:=⟨_,rfl⟩;rw[hN] at K |-;simp only[hN] at cn;have z1:=Kp.UV who (decide (N=2)) d;have z2:=Kp.UV act (decide (N=3)) d;have z3:=Kp.UV on (decide (N=1)) d;have x1:(((N:Nat):Int)==1)=decide (N=1):=by rw[vk];simp;omega
 have x2:(((N:Nat):Int)==2)=decide (N=2):=by rw[vk];simp;omega
 have x3:(((N:Nat):Int)==3)=decide (N=3):=by rw[vk];simp;omega
 obtain⟨y1,hy1⟩:∃b,decide (N=1)=b:=⟨_,rfl⟩;obtain⟨y2,hy2⟩:∃b,decide (N=2)=b:=⟨_,rfl⟩;obtain⟨y3,hy3⟩:∃b,decide (N=3)=b:=⟨_,rfl⟩;rw[hy1] at x1 z3;rw[hy2] at x2 z1;rw[hy3] at x3 z2;simp only[hy1,hy2,hy3];clear hy1 hy2 hy3;have HE:=hid Z;have Q:=hid hI;have z:=hid G;have CP:=hid cp;have CN:=hid cn;clear Z hI G cp cn hN q;obtain⟨A,U⟩:=Nm (w.alloc (.cells #[.bool deny,.slice u who.length c1,.slice v act.length c2,.slice y on.length c3,.int .i64 nt,.int .i64 iff,.int .i64 key,.int .i64 val,.bool no,.int .i64 d] 42));have bl:=zL w (.cells #[.bool deny,.slice u who.length c1,.slice v act.length c2,.slice y on.length c3,.int .i64 nt,.int .i64 iff,.int .i64 key,.int .i64 val,.bool no,.int .i64 d] 42);have F:Below w.heap.size w A:=by rw[<- U];exact nB w _
 rw[U] at bl;have k0:A.cell? ⟨w.heap.size,0,none⟩=some (.bool deny):=(zf bl 0).1;have k1:A.cell? ⟨w.heap.size,1,none⟩=some (.slice u who.length c1):=(zf bl 1).1;have k2:A.cell? ⟨w.heap.size,2,none⟩=some (.slice v act.length c2):=(zf bl 2).1;have k3:A.cell? ⟨w.heap.size,3,none⟩=some (.slice y on.length c3):=(zf bl 3).1;have k4:A.cell? ⟨w.heap.size,4,none⟩=some (.int .i64 nt):=(zf bl 4).1;have k5:A.cell? ⟨w.heap.size,5,none⟩=some (.int .i64 iff):=(zf bl 5).1;have k6:A.cell? ⟨w.heap.size,6,none⟩=some (.int .i64 key):=(zf bl 6).1;have k7:A.cell? ⟨w.heap.size,7,none⟩=some (.int .i64 val):=(zf bl 7).1;have k8:A.cell? ⟨w.heap.size,8,none⟩=some (.bool no):=(zf bl 8).1;have k9:A.cell? ⟨w.heap.size,9,none⟩=some (.int .i64 d):=(zf bl 9).1;have D:=hid F;have t:=hid U;obtain⟨o1,L⟩:∃x,who.length=x:=⟨_,rfl⟩;obtain⟨o2,M⟩:∃x,act.length=x:=⟨_,rfl⟩;obtain⟨o3,O⟩:∃x,on.length=x:=⟨_,rfl⟩;rw[L] at m1 k1 H1 z t |-;rw[M] at m2 k2 H2 z t |-;rw[O] at m3 k3 H3 z t |-;clear bl F U R S T L M O;go_enter func28,ntmps28
 go_upto_if 7 with (fail)
 go_cut [3] (λs wx=>s = .string E/\Below A.heap.size A wx)
 case first=>
  cases deny with
  | true=>
   go_wp2_with (go_at_call 64;refine (CP.out _).mono ?_;rintro e w2 ⟨rfl,b2⟩;have a6:=hid b2;clear b2)
   go_meet
   case rel=>exact⟨by rw[HE.out];rfl,by rw[<- t.out];exact a6.out⟩
  | false=>
   go_wp2_with fail
   go_meet
   case rel=>exact⟨by rw[HE.out];rfl,by rw[<- t.out];exact zi _ _⟩
 case rest=>
  obtain⟨rfl,g⟩:=hcut;have l1:=zh g k1;have l2:=zh g k2;have l3:=zh g k3;have l4:=zh g k4;have l5:=zh g k5;have l6:=zh g k6;have l7:=zh g k7;have l8:=zh g k8;have l9:=zh g k9;have l0:=zh g k0;have B:Hid (Below w.heap.size w wc):=Below.step D.out g (ze _);clear g k0 k1 k2 k3 k4 k5 k6 k7 k8 k9 HE t CP D
  go_upto_if 15 with (go_at_call 65;refine (z.out _).mono ?_;rintro e i ⟨rfl,b3⟩;have j:=hid b3;clear b3)
  go_cut [3] (λs wx=>s = .string I/\wx=i)
  case first=>
   have k:=Q.out
   by_cases hc0:C.size=0
   ·rw[zb hc0] at k;rw[Hr hc0];have o:=hid k;clear k Q;go_wp2_with fail
    go_meet
    case rel=>exact⟨by rw[o.out],rfl⟩
   ·rw[za hc0] at k;rw[pg hc0];have o:=hid k;clear k Q;go_wp2_with fail
    go_meet
    case rel=>exact⟨by rw[o.out],rfl⟩
  case rest=>
   obtain⟨rfl,P⟩:=hcut;rw[P];clear P Q;have n1:=zh j.out l1;have n2:=zh j.out l2;have n3:=zh j.out l3;have n4:=zh j.out l4;have n9:=zh j.out l9;have l:Hid (Below w.heap.size w i):=Below.step B.out j.out (ze _);clear l0 l1 l2 l3 l4 l5 l6 l7 l8 l9 B j z
   go_upto_region 8 with (go_at_call 11;refine (CN.out _).mono ?_;rintro e w4 ⟨rfl,e4⟩;rw[e4];clear e4)
   have g1:∀X:ZP i,X.w.cell? ⟨w.heap.size,1,none⟩=some (.slice u o1 c1):=λX=>zh X.b n1;have g2:∀X:ZP i,X.w.cell? ⟨w.heap.size,2,none⟩=some (.slice v o2 c2):=λX=>zh X.b n2;have g3:∀X:ZP i,X.w.cell? ⟨w.heap.size,3,none⟩=some (.slice y o3 c3):=λX=>zh X.b n3;have g9:∀X:ZP i,X.w.cell? ⟨w.heap.size,9,none⟩=some (.int .i64 d):=λX=>zh X.b n9
   have G1:Hid (∀(X:ZP i) f,Calls prog 66 #[.slice u o1 c1,.bool f,.int .i64 d] X.w λe h=>e = .returned (.string (Kp.ji who f d))/\∃Y:ZP i,h=Y.w):=
    hid (λX f=>(H1.out X.w (Below.step l.out X.b (ze _)) f).mono (λe h ⟨J,hb⟩=>⟨J,⟨h,Below.step X.b hb (ze _)⟩,rfl⟩))
   have G2:Hid (∀(X:ZP i) f,Calls prog 66 #[.slice v o2 c2,.bool f,.int .i64 d] X.w λe h=>e = .returned (.string (Kp.ji act f d))/\∃Y:ZP i,h=Y.w):=
    hid (λX f=>(H2.out X.w (Below.step l.out X.b (ze _)) f).mono (λe h ⟨J,hb⟩=>⟨J,⟨h,Below.step X.b hb (ze _)⟩,rfl⟩))
   have G3:Hid (∀(X:ZP i) f,Calls prog 66 #[.slice y o3 c3,.bool f,.int .i64 d] X.w λe h=>e = .returned (.string (Kp.ji on f d))/\∃Y:ZP i,h=Y.w):=
    hid (λX f=>(H3.out X.w (Below.step l.out X.b (ze _)) f).mono (λe h ⟨J,hb⟩=>⟨J,⟨h,Below.step X.b hb (ze _)⟩,rfl⟩))
   have NE:Nonempty (ZP i):=⟨⟨i,zi _ _⟩⟩;clear n1 n2 n3 n4 n9 H1 H2 H3;refine wp_region_quiet (C:=λW'=>∃X:ZP i,W'=X.w) (by kernel_rfl) (by kernel_rfl) ⟨⟨_,(zi _ i).drew⟩,rfl⟩ ?_;simp only
   repeat (go_big_quiet_step (fail))
   go_big_quiet_step (exact G3.out _ _)
   repeat (go_big_quiet_step (fail))
   go_big_quiet_step (exact G1.out _ _)
   repeat (go_big_quiet_step (fail))
   go_big_quiet_step (exact G2.out _ _)
   repeat (go_big_quiet_step (fail))
   refine wpQuiet_nil ?_;intro n b8;obtain⟨X,rfl⟩:=b8;go_wp2_with fail;go_ret;exact⟨rfl,Below.step l.out X.b (ze _)⟩
def uY(w:World)(d:Value)(l:List Kp.zm):Prop:=∃a c,d = .slice a l.length c/\∀(k:Nat) (r:Kp.zm),l[k]?=some r->Qo r/\r.who.length<=maxLen/\r.act.length<=maxLen/\r.on.length<=maxLen /\
 ∃b o v1 v2 v3,a=some ⟨b,o,none⟩/\(w.cell? ⟨b,o+k*10,none⟩=some (.bool r.deny)/\w.cell? ⟨b,o+k*10+1,none⟩=some v1/\w.cell? ⟨b,o+k*10+2,none⟩=some v2/\w.cell? ⟨b,o+k*10+3,none⟩=some v3 /\
  w.cell? ⟨b,o+k*10+4,none⟩=some (.int .i64 r.nt)/\w.cell? ⟨b,o+k*10+5,none⟩=some (.int .i64 r.iff)/\w.cell? ⟨b,o+k*10+6,none⟩=some (.int .i64 r.key)/\w.cell? ⟨b,o+k*10+7,none⟩=some (.int .i64 r.val) /\
  w.cell? ⟨b,o+k*10+8,none⟩=some (.bool r.no)/\w.cell? ⟨b,o+k*10+9,none⟩=some (.int .i64 r.style))/\IntsIn w v1 r.who/\IntsIn w v2 r.act/\IntsIn w v3 r.on
theorem uY.below{w d:World}{b:Value}{l:List Kp.zm}(h:uY w b l)(hb:Below w.heap.size w d):uY d b l:=by
 obtain⟨a,c,rfl,h⟩:=h;refine⟨a,c,rfl,λk r n=>?_⟩;obtain⟨g,i,j,m,f,o,v1,v2,v3,e,⟨t,u,q2,v,x,y,z,A,B,C⟩,p,q,s⟩:=h k r n;exact⟨g,i,j,m,f,o,v1,v2,v3,e,⟨zh hb t,zh hb u,zh hb q2,zh hb v,zh hb x,zh hb y,zh hb z,zh hb A,zh hb B,zh hb C⟩,p.below hb,q.below hb,s.below hb⟩
theorem GZ(r:Kp.zm):1<=(Kp.ZZ r).size:=by
 unfold Kp.ZZ
 split
 ·rw[qD];show 1<=17+_;omega
 ·decide
theorem Wx(r:Kp.zm):1<=(Kp.jZ r).size:=by
 have a:=GZ r
 have b:1<=(Kp.Xm r).size:=by
  unfold Kp.Xm
  split
  ·exact a
  ·repeat rw[qD]
   omega
 unfold Kp.jZ
 repeat rw[qD]
 omega
theorem PS(l:List Kp.zm)(k:Nat)(h:k<l.length):1<=(Kp.vJ l (k+1)).size:=by
 rw[Kp.vJ,qD,zt h]
 have:=Wx l[k]
 show 1<=_+(Kp.jZ l[k]).size;omega
theorem U9(w:World):IntsIn w (.slice none 0 0) []:=⟨none,0,rfl,λk x a=>by simp at a⟩
theorem Kt(l:List Kp.zm)(lv:Value)(w:World)(h:uY w lv l)(hm:l.length<=maxLen) :
  Calls prog 14 #[lv] w λe w'=>e = .returned (.string (Kp.qQ l))/\Below w.heap.size w w':=by
 have hR:=h;obtain⟨a,cc,rfl,_⟩:=h;obtain⟨n,t⟩:=Nm l.length;have hP:Kp.qQ l=⟨#[123,34,115,116,97,116,101,109,101,110,116,34,58,91]⟩++Kp.Q6 l++⟨#[93,125]⟩:=rfl;have F:Kp.Q6 l=if n=0 then Kp.jZ Kp.xu else Kp.vJ l (min n 4):=by unfold Kp.Q6;rw[t]
 have a7:=Kp.nz l;have B:∀k,k<=4->(Kp.vJ l k).size<=3556:=λk Y=>by have:=Kp.gI l k;omega
 have i:∀k,k<n->1<=(Kp.vJ l (k+1)).size:=λk Y=>PS l k (by omega);have b:∀k r,l[k]?=some r->Kp.vJ l (k+1)=(if 0<k then Kp.vJ l k++⟨#[44]⟩ else Kp.vJ l k)++Kp.jZ r:=λk r Y=>by rw[Kp.vJ,Y];rfl
 have v:Kp.vJ l 0=⟨#[]⟩:=rfl;obtain⟨O,hO⟩:∃O:Nat->BA,Kp.vJ l=O:=⟨_,rfl⟩;rw[hO] at F B i b v;obtain⟨Bo,I⟩:∃x,Kp.Q6 l=x:=⟨_,rfl⟩;rw[I] at F hP a7;rw[hP];rw[t] at hm |-;unfold maxLen at hm;have c0:=λW=>BK Kp.xu (.slice none 0 0) (.slice none 0 0) (.slice none 0 0) W ⟨by unfold I64;decide,by unfold I64;decide,by unfold I64;decide,by unfold I64;decide,by unfold I64;decide⟩ (U9 W) (U9 W) (U9 W) (by decide) (by decide) (by decide);unfold Vo Kp.xu at c0;simp only at c0;have a6:=Kp.KP Kp.xu;have G:n=0->Bo=Kp.jZ ⟨false,[],[],[],0,0,0,0,false,0⟩:=λe=>by rw[F,zb e];rfl
 have H:n≠0->Bo=O (min n 4):=λe=>by rw[F,za e]
 have U:=hid hR;have R:=hid t;have E:=hid B;have T:=hid i;have V:=hid b;have D:=hid v;have C0:=hid c0;have m:=hid G;have p:=hid H;clear hR t B i b v c0 G H F hP hO I;go_enter func14,ntmps14
 go_wp2
 go_loopw [3,4] (λov iv wr=>∃k:Nat,k<=min n 4/\iv = .int .i64 k/\ov = .string (O k)/\Below w.heap.size w wr) (λ_ iv _=>min n 4-(intOf iv).toNat)
 case atStart=>exact⟨0,zU _,rfl,by rw[D.out],zi _ _⟩
 case round=>
  obtain⟨k,Y,rfl,rfl,hb⟩:=hrel;have C:=hid hb;have z:=E.out k (by omega);clear hb
  by_cases hlt:k<n/\k<4
  ·obtain⟨a8,f1⟩:=hlt;have J:k<l.length:=by rw[R.out];exact a8
   obtain⟨a',c',e',u⟩:=U.out.below C.out;obtain⟨f,m1,m2,m3,gb,o,v1,v2,v3,e2,⟨q0,q1,q2,q3,q4,q5,q6,q7,q8,q9⟩,Z,i2,i3⟩:=u k _ (zt J);have Q:=V.out k _ (zt J);have z2:=E.out (k+1) (by omega);injection e' with e3 e4 e5
   subst e3;subst e2;obtain⟨r,hr⟩:=Nm (l[k]);rw[hr] at f m1 m2 m3 q0 q4 q5 q6 q7 q8 q9 Z i2 i3 Q;have cs:=BK r v1 v2 v3 wr f Z i2 i3 m1 m2 m3;have a9:=Kp.KP r;obtain⟨b1,d1,g1⟩:∃a c,v1 = .slice a r.who.length c:=by obtain⟨a,c,e,_⟩:=Z;exact⟨a,c,e⟩
   obtain⟨q,d2,g2⟩:∃a c,v2 = .slice a r.act.length c:=by obtain⟨a,c,e,_⟩:=i2;exact⟨a,c,e⟩
   obtain⟨b3,d3,g3⟩:∃a c,v3 = .slice a r.on.length c:=by obtain⟨a,c,e,_⟩:=i3;exact⟨a,c,e⟩
   subst g1 g2 g3;obtain⟨deny,who,act,on,nt,iff,key,val,no,st⟩:=r;unfold Vo at cs;simp only at q0 q1 q2 q3 q4 q5 q6 q7 q8 q9 cs Q;obtain⟨S,hS⟩:∃x,Kp.jZ ⟨deny,who,act,on,nt,iff,key,val,no,st⟩=x:=⟨_,rfl⟩;rw[hS] at cs Q a9;obtain⟨o1,M⟩:∃x,who.length=x:=⟨_,rfl⟩;obtain⟨o2,N⟩:∃x,act.length=x:=⟨_,rfl⟩;obtain⟨o3,P⟩:∃x,on.length=x:=⟨_,rfl⟩;rw[M] at q1 cs;rw[N] at q2 cs;rw[P] at q3 cs;have CS:=hid cs;have g:=hid Q;obtain⟨X,hX⟩:∃x,O k=x:=⟨_,rfl⟩;rw[hX] at z g |-;have k0:(0:Int)<=(k:Int):=jL _;have k1:(k:Int)<(n:Int):=by omega
   clear u e4 e5 f m1 m2 m3 Z i2 i3 cs hS M N P hr Q hX V U R E T m p C0 D
   by_cases s:0<k
   ·rw[zb s] at g
    go_wp2_with (go_at_call 28;refine CS.out.mono ?_;rintro e w2 ⟨rfl,q⟩;have d:=hid (Below.step C.out q (ze _));clear q)
    go_roundw
    case rel=>exact⟨k+1,by omega,by go_num,by rw[g.out],d.out⟩
    case measure=>simp[intOf];omega
   ·rw[za s] at g
    go_wp2_with (go_at_call 28;refine CS.out.mono ?_;rintro e w2 ⟨rfl,q⟩;have d:=hid (Below.step C.out q (ze _));clear q)
    go_roundw
    case rel=>exact⟨k+1,by omega,by go_num,by rw[g.out],d.out⟩
    case measure=>simp[intOf];omega
  ·have K:k=min n 4:=by omega
   by_cases v:n=0
   ·have s:k=0:=by omega
    subst s;have y:=m.out v;have L:=D.out;subst v;rw[L];have a4:=hid y;have b0:decide ((0:Int)<((0:Nat):Int))=false:=by decide
    rw[show Kp.xu=⟨false,[],[],[],0,0,0,0,false,0⟩ from rfl,<- y] at a6
    clear y L m p V U R E T D K z
    go_wp2_with (go_at_call 28;refine (C0.out _).mono ?_;rintro e w2 ⟨rfl,q⟩;rw[<- a4.out];have d:=hid (Below.step C.out q (ze _));clear q)
    go_ret;exact⟨rfl,d.out⟩
   ·have A:=p.out v;obtain⟨j,rfl⟩:∃j,k=j+1:=⟨k-1,by omega⟩;have hp:=T.out j (by omega);rw[<- K] at A;rw[<- A] at hp |-;have f2:Bo.toList.isEmpty=false:=pg (by omega);clear A m p V U R E T D C0 z
    by_cases h4:j+1<4
    ·have e1:decide (((j+1:Nat):Int)<(n:Int))=false:=by simp;omega
     go_wp2_with fail;go_ret;exact⟨rfl,C.out⟩
    ·have e1:decide (((j+1:Nat):Int)<4)=false:=by simp;omega
     go_wp2_with fail
     all_goals
      go_ret;exact⟨rfl,C.out⟩
namespace Rd
open Ref
def At(l:List UInt8)(p:Nat)(t r:List UInt8):Prop:=l.drop p=t++r
theorem At.app{l:List UInt8}{p:Nat}{a b r:List UInt8}(h:At l p (a++b) r):At l p a (b++r)/\At l (p+a.length) b r:=by
 unfold At at h |-;rw[yn] at h;refine⟨h,?_⟩;rw[<- Xw,h,af]
theorem At.le{l:List UInt8}{p:Nat}{t r:List UInt8}(h:At l p t r)(a:t≠[]):p+t.length<=l.length:=by
 have:=congrArg List.length h
 have b:0<t.length:=List.length_pos_iff.2 a;rw[Zu,qL] at this;omega
theorem At.hd{l:List UInt8}{p:Nat}{b:UInt8}{t r:List UInt8}(h:At l p (b::t) r):zk l p=b.toNat:=by
 unfold At at h;unfold Rd.zk
 have:l[p]?=some b:=by
  have:=congrArg (λx=>x[0]?) h
  simpa [List.getElem?_drop] using this
 rw[zQ,this]
 rfl
theorem At.hdR{l:List UInt8}{p:Nat}{b:UInt8}{t r:List UInt8}(h:At l p t (b::r)):zk l (p+t.length)=b.toNat:=by
 have a:At l p (t++[b]) r:=by unfold At at h |-;rw[h];simp
 exact a.app.2.hd
structure YL (t:List UInt8) (u:BA):Prop where
 pos:t≠[]
 first:t.head?≠some 34
 reads:∀l p r,At l p t r->yE l p = .ok u (p+t.length)
inductive vT:List UInt8->BA->Prop
 | nil:vT [] ⟨#[]⟩
 | char {t u t' u'}:YL t u->vT t' u'->vT (t++t') (u++u')
theorem WR{t:List UInt8}{s:BA}(h:vT t s):∀(l r:List UInt8) (p f:Nat) (acc:BA),At l p (t++[34]) r->t.length+1<=f->qV l f p acc = .ok (acc++s) (p+t.length+1):=by
 induction h with
 | nil=>
  intro l r p f acc d a;have k:=At.hd (b:=34) (t:=[]) d
  match f,a with
  | f+1,_=>
   rw[qV,zb (by rw[k];rfl)]
   have:acc++(⟨#[]⟩:BA)=acc:=by apply uS;simp[ByteArray.data_append]
   rw[this]
   rfl
 | char g q o=>
  rename_i t u v i;intro l r p f acc d a;rw[yn] at d;obtain⟨c,j⟩:=d.app;have n:=g.reads l p _ c;have hlen:0<t.length:=List.length_pos_iff.2 g.pos
  have m:zk l p≠34:=by
   match t,g.first,c with
   | b::t2,hf1,c=>
    rw[c.hd];intro e;apply hf1
    have:b=34:=Ye.1 e
    simp[this]
  match f,a with
  | f+1,a=>
   rw[qV,za m,n];simp only;rw[o l r (p+t.length) f (acc++u) j (by rw[qL] at a;omega),qL]
   have:acc++u++i=acc++(u++i):=by apply uS;simp[ByteArray.data_append]
   rw[this];congr 1;omega
theorem iB{t:List UInt8}{s:BA}(h:vT t s){l r:List UInt8}{p:Nat}(a:At l p (t++[34]) r):vM l p = .ok s (p+t.length+1):=by
 have hle:=a.le (by simp);rw[qL,xV] at hle;unfold vM;rw[WR h l r p _ _ a (by omega)]
 have:(⟨#[]⟩:BA)++s=s:=by apply uS;simp[ByteArray.data_append]
 rw[this]
def Blanks(b:List UInt8):Prop:=∀c ∈ b,blank c.toNat=true
theorem skip_none(l:List UInt8)(p:Nat)(h:blank (zk l p)=false):skip l p=p:=by rw[QM,h];rfl
theorem Br:∀(b:List UInt8),Blanks b->∀(l r:List UInt8) (p:Nat),At l p b r->blank (zk l (p+b.length))=false->skip l p=p+b.length
 | [],_,l,r,p,_,hr=>by simpa using skip_none l p hr
 | c::b,hb,l,r,p,ha,hr=>by
  have e:=hb c (by simp);have d:At l (p+1) b r:=(At.app (a:=[c]) (b:=b) ha).2;rw[QM,ha.hd,e,zb rfl,Br b (λx f=>hb x (by simp[f])) l r (p+1) d (by rw[show p+1+b.length=p+(c::b).length by simp;omega];exact hr)]
  simp;omega
mutual
inductive W:Nat->List UInt8->V->Prop
 | str {d t s}:vT t s->W d ([34]++t++[34]) (.str s)
 | yes {d}:W d [116,114,117,101] (.word true)
 | no {d}:W d [102,97,108,115,101] (.word false)
 | list {d b t vs}:d<=8->Blanks b->WL d t vs->W d ([91]++b++t) (.list vs)
 | obj {d b t ms}:d<=8->Blanks b->WO d t ms->(ms.map λm=>m.1.toList).Nodup->W d ([123]++b++t) (.obj ms)
inductive WL:Nat->List UInt8->List V->Prop
 | last {d t v b}:W (d+1) t v->Blanks b->WL d (t++b++[93]) [v]
 | more {d t v b c t' vs}:W (d+1) t v->Blanks b->Blanks c->WL d t' vs->WL d (t++b++[44]++c++t') (v::vs)
inductive WO:Nat->List UInt8->List (BA×V)->Prop
 | last {d n s b c t v e}:vT n s->Blanks b->Blanks c->W (d+1) t v->Blanks e->WO d ([34]++n++[34]++b++[58]++c++t++e++[125]) [(s,v)]
 | more {d n s b c t v e g t' ms}:vT n s->Blanks b->Blanks c->W (d+1) t v->Blanks e->Blanks g->WO d t' ms->WO d ([34]++n++[34]++b++[58]++c++t++e++[44]++g++t') ((s,v)::ms)
end
theorem W.head{d:Nat}{t:List UInt8}{v:V}(h:W d t v):∃c r,t=c::r/\blank c.toNat=false/\c≠93/\c≠125:=by
 cases h with
 | str h=>exact⟨34,_,rfl,by decide,by decide,by decide⟩
 | yes=>exact⟨116,_,rfl,by decide,by decide,by decide⟩
 | no=>exact⟨102,_,rfl,by decide,by decide,by decide⟩
 | list _ _ _=>exact⟨91,_,rfl,by decide,by decide,by decide⟩
 | obj _ _ _ _=>exact⟨123,_,rfl,by decide,by decide,by decide⟩
theorem WL.head{d:Nat}{t:List UInt8}{f:List V}(h:WL d t f):∃c r,t=c::r/\blank c.toNat=false/\c≠93:=by
 cases h with
 | last e _=>obtain⟨c,r,rfl,a,b,_⟩:=e.head;exact⟨c,_,rfl,a,b⟩
 | more e _ _ _=>obtain⟨c,r,rfl,a,b,_⟩:=e.head;exact⟨c,_,rfl,a,b⟩
theorem WO.head{d:Nat}{t:List UInt8}{ms:List (BA×V)}(h:WO d t ms):∃r,t=34::r:=by
 cases h with
 | last=>exact⟨_,rfl⟩
 | more=>exact⟨_,rfl⟩
end Rd
end Go.Proofs.YtagnlbgbnfnapaaGreatDoor
