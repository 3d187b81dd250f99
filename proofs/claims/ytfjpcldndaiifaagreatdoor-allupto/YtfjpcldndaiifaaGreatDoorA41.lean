/- P -/
import Derived.Test.YtfjpcldndaiifaaGreatDoorA40
open Go.Proofs.Tryz
set_option maxRecDepth 100000
set_option maxHeartbeats 8000000
namespace Go.Proofs.YtfjpcldndaiifaaGreatDoor
open Go.RowKit
def eT:Obj:=vG (R9 3) (R9 0) R5 (R9 0)
theorem Rs{j:Nat}(h:j<[0,1,2,3].length):[0,1,2,3][j]=j:=by
 simp at h
 rcases lt4 h with rfl|rfl|rfl|rfl<;>rfl
theorem NW(a:StO)(r:U.Req)(j:Nat)(h:j<4):De.yY a De.Zu r ([0,1,2,3].drop j)=match De.jq De.Zu r (a j) with
  | some (n,k)=>some (j,n,k)
  | none=>De.yY a De.Zu r ([0,1,2,3].drop (j+1)):=by
 have:=lw a De.Zu r [0,1,2,3] j (by simpa using h)
 rw[Rs]at this;exact this
theorem Im(a:StO)(r:U.Req)(j:Nat)(h:j<2):De.yY a De.jO r ([2,3].drop j)=match De.jq De.jO r (a (j+2)) with
  | some (n,k)=>some (j+2,n,k)
  | none=>De.yY a De.jO r ([2,3].drop (j+1)):=by
 have:=lw a De.jO r [2,3] j (by simpa using h)
 have e:[2,3][j]'(by simpa using h)=j+2:=by
  rcases (show j=0\/j=1 by omega) with rfl|rfl<;>rfl
 rw[e]at this;exact this
theorem NY:((⟨#[100,101,110,121]⟩:BY).toList==[100,101,110,121])=true:=by rw[ko];rfl
theorem rZ:((⟨#[97,108,108,111,119]⟩:BY).toList==[100,101,110,121])=false:=by rw[ko];rfl
theorem zcV(cb:Nat)(lv:Y)(ks:List zy)(s:StO)(r:U.Req)(ao:Option Addr)(cap:Nat)(M:Nat->Prop)(w:J)(h:xM M w cb lv ks)(hn:ks.length<=1000000000)(hN:∀x ∈ ks,x.name.size<=maxLen)(hM:∀b,M b->b<w.heap.size)(b9:Agree s ks)(hg:∀i,i<4->QA (s i))(c1:qK w ao r.marks)(hr:U.XE r):R8 47 #[RG cb 0,U.zX r ao cap] w (G5 (.tuple #[Kg (De.J9 s r).1,.int .i64 (De.J9 s r).2]) w):=by
 obtain⟨W1,h1⟩:=Nm (w.alloc (L8 #[S9 r.who,S9 r.act,S9 r.on,TL ao r.marks.length cap] 35));have s1:W1.heap.size=w.heap.size+1:=by rw[<- h1];simp
 have n1:W1.heap[w.heap.size]?=some (L8 #[S9 r.who,S9 r.act,S9 r.on,TL ao r.marks.length cap] 35):=by rw[<- h1];exact zA w _
 have b1:BQ w W1:=by rw[<- h1];exact nbl w _
 obtain⟨W2,h2⟩:=Nm (W1.alloc QY);have n2:W2.heap[w.heap.size+1]?=some QY:=by rw[<- h2,<- s1];exact zA W1 _
 have b2:BQ W1 W2:=by rw[<- h2];exact nbl W1 _
 have bw:BQ w W2:=b1.trans (b2.mono b1.size);have bx:QK W2 w.heap.size (S9 r.who) (S9 r.act) (S9 r.on) (TL ao r.marks.length cap):=⟨ky (r:=r) (ao:=ao) (cap:=cap) ⟨(zg n1 0).1,(zg n1 1).1,(zg n1 2).1,(zg n1 3).1⟩ b2,n2⟩;have HW:G6 ((w.alloc (L8 #[S9 r.who,S9 r.act,S9 r.on,TL ao r.marks.length cap] 35)).alloc (L8 #[R9 0,R9 0,R5,R9 0] 103)=W2):=G7 (by rw[h1];exact h2);have cR:=ET r ao cap W2 hr (xh c1 bw);have cF:=λ(k7:U.qR r=true) (W:J) (E:BQ w W) (i:Nat) (h4:i<4) (eff:BY)=>zcW cb lv ks s i eff r ao cap M W (h.below E) hn hN (λb d9=>xO (hM b d9) E.size) b9 h4 (hg i h4) (xh c1 E) k7
 have cI:=λ(W:J) (E:BQ w W) (i:Nat) (h4:i<4)=>(dh cb lv ks (i:Int) M W (h.below E) hn hN (λb d9=>xO (hM b d9) E.size)).mono (R':=λe w'=>∃a c,e=.returned (.slice a (s i).length c)/\BQ W w') (λe w' ⟨v,xs,n6,he,k5,h3,k9,k2⟩=>by
  obtain⟨a,c,rfl,_⟩:=fA h3 k9
  have:=b9.layer h4 k5
  exact⟨a,c,by rw[he,this,qf],k2⟩)
 have e1:=λi h4=>(hg i h4).2.1;unfold De.J9;obtain⟨Q,hQ⟩:=Nm (U.qR r);rw[hQ]at cR |-;have⟨BW,BX⟩:=D5 bw bx;have CR:=G7 cR
 cases Q with
 | false=>
  clear cF cI cR h hn hN hM b9 hg c1 hr h1 h2 s1 n1 n2 b1 b2 bw hQ e1;obtain⟨o,l,on,L⟩:=r;unfold U.zX at CR |-;simp only[yu,xX]at CR HW bx |-;obtain⟨⟨z0,z1,z2,z3⟩,_⟩:=bx;go_enter func47,ntmps47
  go_upto_region 1 with fail
  rw[HW.o]
  go_upto_region 3 with(go_at_call 54;apply CR.o.mono;rintro e w3⟨rfl,b3⟩;have d2:=G7 (BW.o.trans (b3.mono BW.o.size));have a3:=G7 (BX.o.below b3);clear b3)
  obtain⟨⟨y0,y1,y2,y3⟩,t0,t1,t2,t3⟩:=a3.o.cells;have K:w.heap.size+1<w3.heap.size:=zt a3.o.2;obtain⟨r0,r1,r2,r3⟩:=QL a3.o.2 (R9 0) (R9 0) R5 (R9 0);have z:=G7 (Zx (b:=w.heap.size+1) d2.o (by omega) (R9 0) (R9 0) R5 (R9 0));go_wp2_with fail;exact zG (v := .tuple #[.agg #[R9 0,R9 0,R5,R9 0],R9 11]) (by simp[results,results47,go_sem,r0,r1,r2,r3]) rfl ⟨rfl,z.o⟩
 | true=>
  have CF:=G7 (cF hQ);have CI:=G7 cI;have c0:=λj h=>NW s r j h;have g5:=λj h=>Im s r j h;have I:De.Jn s r=De.Jn s r:=rfl;rw[zb rfl];simp only;obtain⟨j2,G⟩:=Nm (De.Jn s r);rw[G];unfold De.Jn at G;have hl:∀i,De.QQ s r i=((s i).isEmpty||(De.jq De.jO r (s i)).isSome):=λi=>rfl;obtain⟨F1,d7⟩:=Nm (De.yY s De.Zu r [0,1,2,3]);obtain⟨F2,d8⟩:=Nm (De.yY s De.jO r [2,3]);rw[d7,d8]at G;have⟨a5,f6,j3,g1,f8,j5,f9⟩:=M8 G c0 g5 hl d7 d8 e1;clear cF cI cR h hn hN hM b9 hg c1 hr h1 h2 s1 n1 n2 b1 b2 bw hQ c0 g5 hl d7 d8 G I e1;obtain⟨o,l,on,L⟩:=r;unfold U.zX at CR CF |-;simp only at CR CF HW bx |-;obtain⟨⟨z0,z1,z2,z3⟩,_⟩:=bx;have g3:=λW E i h4=>CF.o W E i h4 De.Zu;have g2:=λW E i h4=>CF.o W E i h4 De.jO;have⟨f2,d1⟩:=D5 g3 g2;clear g3 g2 CF;unfold De.Zu at f2;unfold De.jO at d1;go_enter func47,ntmps47
  go_upto_region 1 with fail
  rw[HW.o];go_wp2_with(go_at_call 54;apply CR.o.mono;rintro e w3⟨rfl,b3⟩;have d2:=G7 (BW.o.trans (b3.mono BW.o.size));have a3:=G7 (BX.o.below b3);clear b3)
  go_loopw [7] (λiv wr=>∃j:Nat,j<=4/\iv=R9 j/\De.yY s De.Zu ⟨o,l,on,L⟩ ([0,1,2,3].drop j)=F1/\BQ w wr/\QK wr w.heap.size (S9 o) (S9 l) (S9 on) (TL ao L.length cap)) (λiv _=>4-(intOf iv).toNat)
  case atStart=>exact⟨0,by omega,rfl,f8.o,d2.o,a3.o⟩
  case round=>
   obtain⟨j,hj,rfl,a9,E,H⟩:=hrel;have⟨S,u,p⟩:=M4 a9 E H;obtain⟨⟨z0,z1,z2,z3⟩,_⟩:=H;clear a9 E
   by_cases K:j<4
   ·have C:=f6.o j K;rw[S.o]at C;have t:=f2.o wr u.o j K;obtain⟨D,R⟩:=Nm (De.jq De.Zu ⟨o,l,on,L⟩ (s j));rw[R]at C;have B:De.jq ⟨#[100,101,110,121]⟩ ⟨o,l,on,L⟩ (s j)=D:=R;rw[B]at t;have a8:=G7 C
    cases D with
    | none=>
     unfold YT vI at t;simp only at t;have X:=G7 t;clear t C R B;go_wp2_with(go_at_call 83;apply X.o.mono;rintro e y⟨rfl,q⟩;have f:=G7 (u.o.trans (q.mono u.o.size));have g:=G7 (p.o.below q);clear q);refine⟨⟨j+1,by omega,by go_num,a8.o.symm,f.o.alloc f.o.size _,g.o.below (nbl y _)⟩,by simp[intOf];omega⟩
    | some d=>
     obtain⟨nm,k⟩:=d;unfold YT vI at t;simp only[NY,qJ]at t;have X:=G7 t;clear t C R B;go_wp2_with(go_at_call 83;apply X.o.mono;rintro e y⟨rfl,q⟩;have f:=G7 (u.o.trans (q.mono u.o.size));have g:=G7 (p.o.below q);obtain⟨⟨y0,y1,y2,y3⟩,t0,t1,t2,t3⟩:=g.o.cells;have g9:w.heap.size+1<y.heap.size:=zt g.o.2;clear q;obtain⟨r0,r1,r2,r3⟩:=bS g.o.2 (R9 2) (R9 (j:Int)) (S9 nm) (R9 (k:Int)) (L8 #[R9 2,R9 (j:Int),S9 nm,R9 (k:Int)] 103);have z:=G7 (Zx (b:=w.heap.size+1) f.o (by omega) (R9 2) (R9 (j:Int)) (S9 nm) (R9 (k:Int))));exact zG (v := .tuple #[.agg #[R9 2,R9 (j:Int),S9 nm,R9 (k:Int)],R9 0]) (by simp[results,results47,go_sem,r0,r1,r2,r3]) rfl ⟨by rw[<- a5.o,a8.o];rfl,z.o.alloc z.o.size _⟩
   have k6:j=4:=by omega
   have e:=S.o;rw[Yw (by simp;omega)]at e;have I:=a5.o;rw[<- e]at I;have d5:=G7 I;obtain⟨ws,c2⟩:=Nm (wr.alloc eT);have bs:BQ wr ws:=by rw[<- c2];exact nbl wr _
   have ns:ws.heap[wr.heap.size]?=some eT:=by rw[<- c2];exact zA wr _
   have f5:=G7 (u.o.trans (bs.mono u.o.size));have f1:=G7 (p.o.below bs);have NS:=G7 ns;have c9:wr.alloc (L8 #[R9 3,R9 0,R5,R9 0] 103)=ws:=c2;have HX:=G7 c9;subst k6;clear c2 c9 e I bs ns a5 f6 f8 u p S K z0 z1 z2 z3
   go_upto_region 11 with fail
   rw[HX.o];obtain⟨sb,h6⟩:=Nm wr.heap.size;rw[h6]at NS |-;clear HX h6;go_wp2_with fail
   go_loopw [10] (λiv wr=>∃j:Nat,j<=2/\iv=R9 j/\(∀m,m<j->De.QQ s ⟨o,l,on,L⟩ m=true)/\BQ w wr/\QK wr w.heap.size (S9 o) (S9 l) (S9 on) (TL ao L.length cap)/\wr.heap[sb]?=some eT) (λiv _=>2-(intOf iv).toNat)
   case atStart=>exact⟨0,by omega,rfl,λm h=>by omega,f5.o,f1.o,NS.o⟩
   case round=>
    obtain⟨j,hj,rfl,g8,E,H,hs⟩:=hrel;have⟨a6,u,p,O⟩:=M5 g8 E H hs;obtain⟨⟨z0,z1,z2,z3⟩,_⟩:=H;clear g8 E hs
    by_cases K:j<2
    ·have t:=d1.o wr u.o j (by omega);have V:=g1.o j;obtain⟨D,R⟩:=Nm (De.jq De.jO ⟨o,l,on,L⟩ (s j));rw[R]at V;have B:De.jq ⟨#[97,108,108,111,119]⟩ ⟨o,l,on,L⟩ (s j)=D:=R;rw[B]at t
     cases D with
     | some d=>
      obtain⟨nm,k⟩:=d;unfold YT vI at t;simp only[rZ,yu,xX]at t;have X:=G7 t;have b0:De.QQ s ⟨o,l,on,L⟩ j=true:=by rw[V];simp
      have j6:=G7 b0;clear t R B V b0;go_wp2_with(go_at_call 83;apply X.o.mono;rintro e y⟨rfl,q⟩;have f:=G7 (u.o.trans (q.mono u.o.size));have g:=G7 (p.o.below q);have A:=G7 ((q.block sb (zt O.o)).trans O.o);clear q);have P:BQ y (y.alloc (L8 #[R9 1,R9 (j:Int),S9 nm,R9 (k:Int)] 103)):=nbl y _;refine⟨?_,?_⟩
      ·(repeat apply Exists.intro)
       refine⟨?_,rfl⟩;refine⟨j+1,by omega,by go_num,λm hm=>?_,f.o.alloc f.o.size _,g.o.below P,(P.block sb (zt A.o)).trans A.o⟩
       by_cases hmj:m=j
       ·subst hmj;exact j6.o
       exact a6.o m (by omega)
      ·simp[intOf];omega
     | none=>
      unfold YT vI at t;simp only at t;have X:=G7 t;simp only[uB,ZI]at V;have h4:=f9.o j (by omega);have ci:=λ(W:J) (E:BQ w W)=>CI.o W E j (by omega);obtain⟨n,hn⟩:=Nm ((s j).length);have g7:De.QQ s ⟨o,l,on,L⟩ j=decide (n=0):=by rw[V,<- hn];cases s j<;>simp
      rw[hn]at ci h4;have⟨f4,g0⟩:=D5 ci g7;clear t R B V ci hn g7
      by_cases hz:n=0
      ·subst hz
       go_wp2_with(first
        |(go_at_call 39;apply(f4.o _ N.o).mono;rintro e w7⟨ia,ic,rfl,b7⟩;have d4:=G7 (N.o.trans (b7.mono N.o.size));have a4:=G7 (d0.o.below b7);have T:=G7 ((b7.block sb (zt a7.o)).trans a7.o);clear b7)
        |(go_at_call 83;apply X.o.mono;rintro e y⟨rfl,q⟩;have f:=G7 (u.o.trans (q.mono u.o.size));have g:=G7 (p.o.below q);have A:=G7 ((q.block sb (zt O.o)).trans O.o);have P:BQ y (y.alloc (L8 #[R9 0,R9 0,R5,R9 0] 103)):=nbl y _;have N:=G7 (f.o.trans (P.mono f.o.size));have d0:=G7 (g.o.below P);have a7:=G7 ((P.block sb (zt A.o)).trans A.o);clear P;clear q))
       refine⟨?_,?_⟩
       ·(repeat apply Exists.intro)
        refine⟨?_,rfl⟩;refine⟨j+1,by omega,by go_num,λm hm=>?_,d4.o,a4.o,T.o⟩
        by_cases hmj:m=j
        ·subst hmj;rw[g0.o];rfl
        exact a6.o m (by omega)
       simp[intOf];omega
      have n0:decide ((0:Int)<(n:Int))=true:=P5
      go_wp2_with(first
       |(go_at_call 39;apply(f4.o _ N.o).mono;rintro e w7⟨ia,ic,rfl,b7⟩;have d4:=G7 (N.o.trans (b7.mono N.o.size));have a4:=G7 (d0.o.below b7);have T:=G7 ((b7.block sb (zt a7.o)).trans a7.o);clear b7;obtain⟨⟨y0,y1,y2,y3⟩,t0,t1,t2,t3⟩:=a4.o.cells;have h0:w.heap.size+1<w7.heap.size:=zt a4.o.2;obtain⟨r0,r1,r2,r3⟩:=QL a4.o.2 (R9 3) (R9 0) R5 (R9 0);have z:=G7 (Zx (b:=w.heap.size+1) d4.o (by omega) (R9 3) (R9 0) R5 (R9 0));have x0:=(zg T.o 0).1;have x1:=(zg T.o 1).1;have x2:=(zg T.o 2).1;have x3:=(zg T.o 3).1;simp at x0 x1 x2 x3)
       |(go_at_call 83;apply X.o.mono;rintro e y⟨rfl,q⟩;have f:=G7 (u.o.trans (q.mono u.o.size));have g:=G7 (p.o.below q);have A:=G7 ((q.block sb (zt O.o)).trans O.o);have P:BQ y (y.alloc (L8 #[R9 0,R9 0,R5,R9 0] 103)):=nbl y _;have N:=G7 (f.o.trans (P.mono f.o.size));have d0:=G7 (g.o.below P);have a7:=G7 ((P.block sb (zt A.o)).trans A.o);clear P;clear q))
      have c0:j2=De.silent:=by
       have hf:=g0.o;rw[zI hz]at hf
       have k4:(De.QQ s ⟨o,l,on,L⟩ 0&&De.QQ s ⟨o,l,on,L⟩ 1)=false:=by
        rcases (show j=0\/j=1 by omega) with rfl|rfl
        ·rw[hf,kS]
        rw[hf,fI]
       have hd:=d5.o;simp only[De.yY]at hd;rw[zb k4]at hd;exact hd.symm
      exact zG (v := .tuple #[.agg #[R9 3,R9 0,R5,R9 0],R9 0]) (by simp[results,results47,go_sem,r0,r1,r2,r3]) rfl ⟨by rw[c0];rfl,z.o⟩
    have e0:j=2:=by omega
    have hd:=d5.o;have g6:=a6.o 0 (by omega);have b0:=a6.o 1 (by omega);simp only[De.yY]at hd;rw[g6,b0,za (by simp)]at hd;have f7:=G7 hd;subst e0;clear hd g6 b0 d5 g1 a6 CI f9 f5 f1 NS K;obtain⟨wp,l0⟩:∃x,x=wr:=⟨_,rfl⟩;subst l0;go_wp2_with fail
    go_loopw [12] (λiv wr=>∃j:Nat,j<=2/\iv=R9 ((j:Int)+2)/\De.yY s De.jO ⟨o,l,on,L⟩ ([2,3].drop j)=F2/\BQ w wr/\QK wr w.heap.size (S9 o) (S9 l) (S9 on) (TL ao L.length cap)/\wr.heap[sb]?=some eT) (λiv _=>4-(intOf iv).toNat)
    case atStart=>exact⟨0,by omega,rfl,j5.o,u.o,p.o,O.o⟩
    case round=>
     obtain⟨j,hj,rfl,a9,E,H,hs⟩:=hrel;clear u p O z0 z1 z2 z3;have⟨S,u,p,O⟩:=M5 a9 E H hs;obtain⟨⟨z0,z1,z2,z3⟩,_⟩:=H;clear a9 E hs
     by_cases K:j<2
     ·have t:=d1.o wr u.o (j+2) (by omega);have C:=j3.o j K;rw[S.o]at C;obtain⟨D,R⟩:=Nm (De.jq De.jO ⟨o,l,on,L⟩ (s (j+2)));rw[R]at C;have B:De.jq ⟨#[97,108,108,111,119]⟩ ⟨o,l,on,L⟩ (s (j+2))=D:=R;rw[B,show (((j+2:Nat)):Int)=(j:Int)+2 by omega]at t;have a8:=G7 C;have d3:decide ((j:Int)+2<=3)=true:=P5
      cases D with
      | none=>
       unfold YT vI at t;simp only at t;have X:=G7 t;clear t C R B;go_wp2_with(go_at_call 83;apply X.o.mono;rintro e y⟨rfl,q⟩;have f:=G7 (u.o.trans (q.mono u.o.size));have g:=G7 (p.o.below q);have A:=G7 ((q.block sb (zt O.o)).trans O.o);clear q);have P:BQ y (y.alloc (L8 #[R9 0,R9 0,R5,R9 0] 103)):=nbl y _;refine⟨?_,?_⟩
       ·(repeat apply Exists.intro)
        refine⟨?_,rfl⟩;exact⟨j+1,by omega,by go_num,a8.o.symm,f.o.alloc f.o.size _,g.o.below P,(P.block sb (zt A.o)).trans A.o⟩
       ·simp[intOf];omega
      | some d=>
       obtain⟨nm,k⟩:=d;unfold YT vI at t;simp only[rZ,yu,xX]at t;rw[show (((j+2:Nat)):Int)=(j:Int)+2 by omega]at t;have X:=G7 t;clear t C R B;go_wp2_with(go_at_call 83;apply X.o.mono;rintro e y⟨rfl,q⟩;have f:=G7 (u.o.trans (q.mono u.o.size));have g:=G7 (p.o.below q);clear q;obtain⟨⟨y0,y1,y2,y3⟩,t0,t1,t2,t3⟩:=g.o.cells;have g9:w.heap.size+1<y.heap.size:=zt g.o.2;obtain⟨r0,r1,r2,r3⟩:=bS g.o.2 (R9 1) (R9 ((j:Int)+2)) (S9 nm) (R9 (k:Int)) (L8 #[R9 1,R9 ((j:Int)+2),S9 nm,R9 (k:Int)] 103);have z:=G7 (Zx (b:=w.heap.size+1) f.o (by omega) (R9 1) (R9 ((j:Int)+2)) (S9 nm) (R9 (k:Int))));exact zG (v := .tuple #[.agg #[R9 1,R9 ((j:Int)+2),S9 nm,R9 (k:Int)],R9 0]) (by simp[results,results47,go_sem,r0,r1,r2,r3]) rfl ⟨by rw[<- f7.o,a8.o];rfl,z.o.alloc z.o.size _⟩
     have e0:j=2:=by omega
     have e:=S.o;rw[Yw (by simp;omega)]at e;have hd:=f7.o;rw[<- e]at hd;have j4:=G7 hd;subst e0;obtain⟨⟨y0,y1,y2,y3⟩,t0,t1,t2,t3⟩:=p.o.cells;have h0:w.heap.size+1<wr.heap.size:=zt p.o.2;obtain⟨r0,r1,r2,r3⟩:=QL p.o.2 (R9 3) (R9 0) R5 (R9 0);have z:=G7 (Zx (b:=w.heap.size+1) u.o (by omega) (R9 3) (R9 0) R5 (R9 0));have x0:=(zg O.o 0).1;have x1:=(zg O.o 1).1;have x2:=(zg O.o 2).1;have x3:=(zg O.o 3).1;simp at x0 x1 x2 x3;clear e hd;go_wp2_with fail;exact zG (v := .tuple #[.agg #[R9 3,R9 0,R5,R9 0],R9 0]) (by simp[results,results47,go_sem,r0,r1,r2,r3]) rfl ⟨by rw[<- j4.o];rfl,z.o⟩
def ja(ms:List (BY×BY)):List Y:=ms.flatMap λm=>[S9 m.1,S9 m.2]
theorem zaG(a b:List (BY×BY)):ja (a++b)=ja a++ja b:=by simp[ja]
theorem Cs(ms:List (BY×BY)):(ja ms).length=ms.length*2:=by
 induction ms with
 | nil=>rfl
 | cons m ms a=>rw[show ja (m::ms)=S9 m.1 :: S9 m.2::ja ms by simp[ja]];simp[a];omega
theorem KH(ms:List (BY×BY))(j:Nat)(h:j<ms.length):(ja ms)[j*2]?=some (S9 ms[j].1)/\(ja ms)[j*2+1]?=some (S9 ms[j].2):=by
 induction ms generalizing j with
 | nil=>simp at h
 | cons p a b=>
  have e:ja (p::a)=S9 p.1 :: S9 p.2::ja a:=by simp[ja]
  rw[e]
  cases j with
  | zero=>simp
  | succ j=>
   have:=b j (by simpa using h)
   rw[show (j+1)*2=(j*2)+1+1 by omega,show (j*2)+1+1+1=(j*2+1)+1+1 by omega]
   simpa using this
theorem zaH(ms:List (BY×BY))(j:Nat)(u:Y)(h:(ja ms)[j]?=some u):∃k,∃c:k<ms.length,(j=k*2/\u=S9 ms[k].1)\/(j=k*2+1/\u=S9 ms[k].2):=by
 have d:j<ms.length*2:=by
  rw[<- Cs];exact(zU.1 h).1
 refine⟨j / 2,by omega,?_⟩;have b:=KH ms (j / 2) (by omega)
 rcases Nat.mod_two_eq_zero_or_one j with e|e
 ·left
  have a:j / 2*2=j:=by omega
  rw[a,h]at b;exact⟨a.symm,by simpa using b.1⟩
 right
 have a:j / 2*2+1=j:=by omega
 rw[a,h]at b;exact⟨a.symm,by simpa using b.2⟩
def spare:BY×BY:=(⟨#[115,112,97,114,101]⟩,⟨#[]⟩)
theorem Tryz.infoMark:(prog.info? 107).map (λi=>(i.zero,i.size,i.bytes))=some (some (.agg #[R5,R5]),2,32):=by kernel_rfl
theorem Cf(d b on:BY)(w:J):R8 28 #[.agg #[S9 d,S9 b,S9 on,R4]] w λe h=>
   e=.returned (.agg #[.string d,.string b,.string on,R4])/\BQ w h:=by
 have q:∀(w:J) (a:Option Addr) (n c g f:Nat),(binOp .eql 33 (TL a n c) (TL none g f)).run prog w=.ok (.bool a.isNone) w:=λw a n c g f=>aI w _ _ a n c g f underlying33;go_enter func28,ntmps28;go_wp2;exact zG (v := .agg #[S9 d,S9 b,S9 on,R4]) (by simp[results,results28,go_sem]) rfl ⟨rfl,(nbl _ _).alloc (by simp) _⟩
theorem DT(ms:List (BY×BY)):∀u ∈ ja ms,u.oneCell'=true:=by
 intro u a;unfold ja at a;rw[List.mem_flatMap]at a;obtain⟨m,_,b⟩:=a;simp at b
 rcases b with rfl|rfl<;>rfl
theorem zaL{w w':J}{a:Addr}{ms:List (BY×BY)}(c:∀j,(h:j<ms.length)->w.cell? (a.add (j*2))=some (S9 ms[j].1)/\w.cell? (a.add (j*2+1))=some (S9 ms[j].2))
  (b:BQ w w'):∀j u,(ja ms)[j]?=some u->w'.cell? (a.add j)=some u:=by
 intro j u h;obtain⟨k,d,⟨rfl,rfl⟩|⟨rfl,rfl⟩⟩:=zaH ms j u h
 ·exact zi b (c k d).1
 exact zi b (c k d).2
theorem Cg(r f on:BY)(ms:List (BY×BY))(u:Addr)(cap:Nat)(w:J)(hn:ms.length<=1000000000)
  (H:∀j,(h:j<ms.length)->w.cell? (u.add (j*2))=some (S9 ms[j].1)/\w.cell? (u.add (j*2+1))=some (S9 ms[j].2)):R8 28 #[.agg #[S9 r,S9 f,S9 on,TL (some u) ms.length cap]] w λe w'=>
   ∃g c,e=.returned (.agg #[.string r,.string f,.string on,.slice (some (G8 g 0)) ms.length c])/\BQ w w' /\
    w'.ownsRow w.heap.size 107 2 (TL (some (G8 g 0)) (ms.length+2) c) (ms.length+2) (ja (ms++[spare,spare])):=by
 obtain⟨V,T,E,F,G⟩:=qU Tryz.infoMark;have q:∀(w:J) (a:Option Addr) (n c N L:Nat),(binOp .eql 33 (TL a n c) (TL none N L)).run prog w=.ok (.bool a.isNone) w:=λw a n c N L=>aI w _ _ a n c N L underlying33;have HC:=G7 H;clear H;go_enter func28,ntmps28;go_wp2_with (at_builtin;refine yh _ rfl (.tmp 8) (.tmp 10) 33 rfl (w.heap.size+2) 107 V (.agg #[R5,R5]) 2 32 underlying33 T E F G rfl (by decide) _ 0 [] rfl (qF _ _ _ _) u ms.length cap (ja ms) rfl (Cs ms) ?_ ?_ ?_ ?_ ?_ ?_)
 ·exact zaL HC.o ((nbl w _).alloc (by simp) _)
 ·exact DT ms
 ·unfold maxLen;omega
 ·omega
 ·simp
 intro v1 I m i _;have S:=(nbl w (Obj.cells #[Value.string r,Value.string f,Value.string on,Value.slice (some u) ms.length cap] 35)).alloc (by simp) (Obj.cells #[Value.string ⟨#[]⟩,Value.string ⟨#[]⟩,Value.string ⟨#[]⟩,Value.slice none 0 0] 35);have P:=Zn w (Obj.cells #[Value.string r,Value.string f,Value.string on,Value.slice (some u) ms.length cap] 35) (Obj.cells #[Value.string ⟨#[]⟩,Value.string ⟨#[]⟩,Value.string ⟨#[]⟩,Value.slice none 0 0] 35);have A:=(zf (w.heap.size+2) _).grown i (by simp) (λk M=>by cases M);have t:=(A.block w.heap.size (by omega)).trans P.1;have C:=(A.block (w.heap.size+1) (by omega)).trans P.2;have Q:BQ w I:=S.trans (A.mono (by omega));have z1:w.heap.size+2<=I.heap.size:=by have:=A.size;simp at this;omega
 have W:=(zg t 3).1;simp only[rz,kW,jE]at W;have⟨z,x,y⟩:=M4 Q t C;clear S P A t C i Q;go_wp2_with (at_builtin;refine yh _ rfl (.tmp 12) (.tmp 15) 33 rfl (w.heap.size+2) 107 V (.agg #[R5,R5]) 2 32 underlying33 T E F G rfl (by decide) _ ms.length (ja ms) rfl (m.alloc _) (G8 I.heap.size 0) 2 2 [S9 spare.1,S9 spare.2,S9 spare.1,S9 spare.2] rfl rfl ?_ ?_ ?_ ?_ ?_ ?_)
 ·exact LP _ _ _ _ _ _
 ·exact DT [spare,spare]
 ·unfold maxLen;omega
 ·omega
 ·simp;omega
 intro v2 w2 p l _;have B:=((zf (w.heap.size+2) I).alloc z1 _).grown l (by simp;omega) (λk M=>(m.lt k M).1);have b:=(B.block w.heap.size (by omega)).trans x.o;have d:=(B.block (w.heap.size+1) (by omega)).trans y.o;have R:BQ w w2:=z.o.trans (B.mono (by omega));have z2:=B.size
 obtain⟨g,c,rfl,b8,b7⟩:∃g c,v2=TL (some (G8 g 0)) (ms.length+2) c/\w.heap.size+2<=g/\ms.length+2<=c:=by
  rcases p.2 with⟨_,h⟩|⟨g,c,cur,hv,hg,_,H,_⟩
  ·omega
  exact⟨g,c,hv,hg,H⟩
 have D:G6 (w2.ownsRow (w.heap.size+2) 107 2 (TL (some (G8 g 0)) (ms.length+2) c) (ms.length+2) (ja (ms++[spare,spare]))):=by
  rw[zaG];exact p
 have a0:=(zg b 0).1;have a1:=(zg b 1).1;have a2:=(zg b 2).1;have a3:=(zg b 3).1;have f3:=(zg b 3).2;have X:=(zg d 0).1;have r1:=(zg d 1).1;have r2:=(zg d 2).1;have r3:=(zg d 3).1;have f0:=λo=>(zg d o).2;simp only[rz,kW,jE]at a0 a1 a2 a3 X r1 r2 r3;have K:=G7 R;clear B b d l p m x y z W z1 R;go_wp2;refine zG (v := .agg #[S9 r,S9 f,S9 on,TL (some (G8 g 0)) ms.length c]) ?_ rfl ⟨g,c,rfl,?_,?_⟩
 ·simp[results,results28,go_sem,X,r1,r2,r3]
 ·exact((((K.o.setCell (by simp) _).setCell (by simp) _).setCell (by simp) _).setCell (by simp) _).setCell (by simp) _
 refine xS (base:=w.heap.size+2) ?_ (by omega);have O:(Value.slice (some (G8 g 0)) (ms.length+2) c).ownBlock≠some w.heap.size:=by simp[Value.ownBlock];omega
 have s:(Value.slice (some (G8 g 0)) (ms.length+2) c).ownBlock≠some (w.heap.size+1):=by simp[Value.ownBlock];omega
 exact xz (xz (xz (xz (xz D.o O _) s _) s _) s _) s _
theorem EU(g h i j k l:BY)(w:J):R8 31 #[.agg #[S9 g,S9 h,S9 i,R4],.agg #[S9 j,S9 k,S9 l,R4]] w λe f=>
   e=.returned (.bool true)/\BQ w f:=by
 have q:∀(w:J) (a:Option Addr) (n c d b:Nat),(binOp .eql 33 (TL a n c) (TL none d b)).run prog w=.ok (.bool a.isNone) w:=λw a n c d b=>aI w _ _ a n c d b underlying33;go_enter func31,ntmps31;go_wp2;go_ret;exact⟨rfl,(nbl _ _).alloc (by simp) _⟩
theorem EW{w wr:J}{B g k n:Nat}{L:List (BY×BY)}{d:Y}(e:B<=g)(l:g<w.heap.size)(i:Below B w wr)(m:w.heap.size+2<=wr.heap.size)(b:wr.cell? (G8 (w.heap.size+1) n)=some d)
  (c:∀o,wr.frozen? (G8 g o)=false)(f:∀j,(h:j<L.length)->k<=j->wr.cell? (G8 g (j*2))=some (S9 L[j].1)/\wr.cell? (G8 g (j*2+1))=some (S9 L[j].2))(x y:Y)(O:Obj):Below B w (((wr.setCell (G8 g (k*2)) x).setCell (G8 g (k*2+1)) y).alloc O).drew/\w.heap.size+2<=(((wr.setCell (G8 g (k*2)) x).setCell (G8 g (k*2+1)) y).alloc O).drew.heap.size /\
  (((wr.setCell (G8 g (k*2)) x).setCell (G8 g (k*2+1)) y).alloc O).drew.cell? (G8 (w.heap.size+1) n)=some d/\(∀o,(((wr.setCell (G8 g (k*2)) x).setCell (G8 g (k*2+1)) y).alloc O).drew.frozen? (G8 g o)=false) /\
  ∀j,(h:j<L.length)->k+1<=j->(((wr.setCell (G8 g (k*2)) x).setCell (G8 g (k*2+1)) y).alloc O).drew.cell? (G8 g (j*2))=some (S9 L[j].1)/\(((wr.setCell (G8 g (k*2)) x).setCell (G8 g (k*2+1)) y).alloc O).drew.cell? (G8 g (j*2+1))=some (S9 L[j].2):=by
 have r:((wr.setCell (G8 g (k*2)) x).setCell (G8 g (k*2+1)) y).heap.size=wr.heap.size:=by simp[World.setCell]
 have a:Below wr.heap.size ((wr.setCell (G8 g (k*2)) x).setCell (G8 g (k*2+1)) y) (((wr.setCell (G8 g (k*2)) x).setCell (G8 g (k*2+1)) y).alloc O).drew:=((E9).alloc (by omega) O).drew;refine⟨((((i.setCell e x).setCell e y).trans (a.mono (by omega)))),by have:=a.size;omega,?_,λo=>?_,λj h q=>⟨?_,?_⟩⟩
 ·rw[a.cell (p:=(G8 (w.heap.size+1) n)) (by simp only;omega),Ql _ _ _ _ _ _ (by omega),Ql _ _ _ _ _ _ (by omega)];exact b
 ·rw[a.frozen (p:=G8 g o) (by simp only;omega),V8,V8];exact c o
 ·rw[a.cell (p:=(G8 g (j*2))) (by simp only;omega),Ql _ _ _ _ _ _ (by omega),Ql _ _ _ _ _ _ (by omega)];exact(f j h (by omega)).1
 rw[a.cell (p:=(G8 g (j*2+1))) (by simp only;omega),Ql _ _ _ _ _ _ (by omega),Ql _ _ _ _ _ _ (by omega)];exact(f j h (by omega)).2
theorem U2{w:J}{a:Addr}{v:Y}(h:w.cell? (a.add (0*2))=some v):∃b o,a=G8 b o:=by
 obtain⟨b,o,sp⟩:=a
 cases sp with
 | none=>exact⟨b,o,rfl⟩
 | some s=>
  exfalso;unfold World.cell? Addr.add at h;simp at h;split at h<;>simp at h
theorem zc1(x0 x1 x2 y0 y1 y2:BY)(ms:List (BY×BY))(z:Addr)(cap g c B base:Nat)(w:J)(hn:ms.length<=1000000000)(hB:B<=g)(K:0<ms.length->z.block<B)
  (M:∀j,(h:j<ms.length)->w.cell? (z.add (j*2))=some (.string ms[j].1)/\w.cell? (z.add (j*2+1))=some (.string ms[j].2))
  (d:w.ownsRow base 107 2 (.slice (some (G8 g 0)) (ms.length+2) c) (ms.length+2) (ja (ms++[spare,spare]))):R8 31 #[.agg #[.string x0,.string x1,.string x2,.slice (some (G8 g 0)) ms.length c],.agg #[.string y0,.string y1,.string y2,.slice (some z) ms.length cap]] w λe w'=>
   e=.returned (.bool true)/\Below B w w':=by
 have q:∀(w:J) (a:Option Addr) (n c T G:Nat),(binOp .eql 33 (.slice a n c) (.slice none T G)).run prog w=.ok (.bool a.isNone) w:=λw a n c T G=>aI w _ _ a n c T G underlying33;have u:g<w.heap.size:=(d.lt g rfl).2
 have a9:ms.length+2<=c:=by
  rcases d.2 with⟨_,h⟩|⟨g',G,cur,hv,N,_,M,_⟩
  ·omega
  simp only[Value.slice.injEq]at hv;omega
 have D:∀o,w.frozen? (G8 g o)=false:=λo=>d.frozenAt o;obtain⟨L,H⟩:=Nm (ms++[spare,spare]);have a8:L.length=ms.length+2:=by rw[<- H];simp
 rw[H]at d
 have C:∀j,(h:j<L.length)->w.cell? (G8 g (j*2))=some (.string L[j].1)/\w.cell? (G8 g (j*2+1))=some (.string L[j].2):=λj h=>by
  have N:=KH L j h;exact⟨(d.cellAt _ (by omega)).trans N.1,(d.cellAt _ (by omega)).trans N.2⟩
 have⟨W,y,t,X⟩:=M5 M D C H;clear M D C H d;go_enter func31,ntmps31;go_wp2
 go_loopw [6,7] (λV S wr=>∃k:Nat,k<=L.length/\V=.bool true/\S=.int .i64 k/\Below B w wr/\w.heap.size+2<=wr.heap.size/\wr.cell? (G8 (w.heap.size+1) 3)=some (.slice (some z) ms.length cap) /\
   (∀o,wr.frozen? (G8 g o)=false)/\∀j,(h:j<L.length)->k<=j->wr.cell? (G8 g (j*2))=some (.string L[j].1)/\wr.cell? (G8 g (j*2+1))=some (.string L[j].2)) (λ_ S _=>L.length-(intOf S).toNat)
 case atStart=>
  have F:=λa b=>(nbl w a).alloc (by simp) b;exact⟨0,by omega,rfl,rfl,(F _ _).mono (by omega),by simp,by simp,λo=>((F _ _).frozen (p:=G8 g o) u).trans (y.o o),λj h _=>⟨zi (F _ _) (t.o j h).1,zi (F _ _) (t.o j h).2⟩⟩
 case round=>
  obtain⟨k,hk,rfl,rfl,s,E,v,x,rc⟩:=hrel;have⟨I,f⟩:=D5 rc s;clear rc s t y
  by_cases hlt:k<L.length
  ·obtain⟨f1,f2⟩:=I.o k hlt (ze _);obtain⟨n1,i⟩:=Nm (L[k].1);obtain⟨v1,l⟩:=Nm (L[k].2);rw[i]at f1;rw[l]at f2;have f3:=λO:Obj=>zi (nbl wr O) f1;have f4:=λO:Obj=>zi (nbl wr O) f2;have a4:=λO:Obj=>zi (nbl wr O) v;have P:g<wr.heap.size:=by omega
   have a7:=λ(O:Obj) (o:Nat)=>((nbl wr O).frozen (p:=G8 g o) P).trans (x o)
   by_cases hkm:k<ms.length
   ·have r:L[k]=ms[k]:=by simp only[<- X.o];rw[UR hkm]
    rw[r]at i l;have m:=W.o k hkm;obtain⟨b,o,rfl⟩:=U2 (W.o 0 (by omega)).1;rw[addr_add,addr_add,i,l]at m;have A:b<B:=K (by omega);have d1:=(f.o.cell (p:=(G8 b (o+k*2))) A).trans m.1;have d2:=(f.o.cell (p:=⟨b,o+(k*2+1),none⟩) A).trans m.2;rw[<- JV]at d2;have d3:=λO:Obj=>zi (nbl wr O) d1;have d4:=λO:Obj=>zi (nbl wr O) d2;clear i l m d1 d2 r;go_wp2;go_region
    all_goals go_wp2
    have R:=EW hB u f.o E v x I.o (.string ⟨#[111,118,101,114]⟩) (.string ⟨#[119,114,105,116,116,101,110]⟩) (Obj.cells #[Value.string n1,Value.string v1] 107);exact⟨⟨k+1,by omega,rfl,by go_num,R⟩,by simp[intOf];omega⟩
   have r:L[k]=spare:=by
    simp only[<- X.o];rw[gy (by omega)];have Q:k-ms.length=0\/k-ms.length=1:=by omega
    rcases Q with e|e<;>simp[e]
   rw[r]at i l;have e1:n1=⟨#[115,112,97,114,101]⟩:=i.symm;have e2:v1=⟨#[]⟩:=l.symm;subst e1;subst e2;clear i l r;go_wp2;go_region
   all_goals go_wp2
   have R:=EW hB u f.o E v x I.o (.string ⟨#[111,118,101,114]⟩) (.string ⟨#[119,114,105,116,116,101,110]⟩) (Obj.cells #[Value.string ⟨#[115,112,97,114,101]⟩,Value.string ⟨#[]⟩] 107);exact⟨⟨k+1,by omega,rfl,by go_num,R⟩,by simp[intOf];omega⟩
  go_wp2;go_ret;exact⟨rfl,f.o⟩
theorem Gu{w wr:J}{g k n:Nat}{L:List (BY×BY)}{e:Y}(l:g<w.heap.size)(i:zx (λb=>b=g) w wr)(m:w.heap.size+2<=wr.heap.size)(c:wr.cell? (G8 (w.heap.size+1) n)=some e)
  (d:∀o,wr.frozen? (G8 g o)=false)(f:∀j,(h:j<L.length)->k<=j->wr.cell? (G8 g (j*2))=some (S9 L[j].1)/\wr.cell? (G8 g (j*2+1))=some (S9 L[j].2))(x y:Y)(O:Obj):zx (λb=>b=g) w (((wr.setCell (G8 g (k*2)) x).setCell (G8 g (k*2+1)) y).alloc O).drew/\w.heap.size+2<=(((wr.setCell (G8 g (k*2)) x).setCell (G8 g (k*2+1)) y).alloc O).drew.heap.size /\
  (((wr.setCell (G8 g (k*2)) x).setCell (G8 g (k*2+1)) y).alloc O).drew.cell? (G8 (w.heap.size+1) n)=some e/\(∀o,(((wr.setCell (G8 g (k*2)) x).setCell (G8 g (k*2+1)) y).alloc O).drew.frozen? (G8 g o)=false) /\
  ∀j,(h:j<L.length)->k+1<=j->(((wr.setCell (G8 g (k*2)) x).setCell (G8 g (k*2+1)) y).alloc O).drew.cell? (G8 g (j*2))=some (S9 L[j].1)/\(((wr.setCell (G8 g (k*2)) x).setCell (G8 g (k*2+1)) y).alloc O).drew.cell? (G8 g (j*2+1))=some (S9 L[j].2):=by
 have r:((wr.setCell (G8 g (k*2)) x).setCell (G8 g (k*2+1)) y).heap.size=wr.heap.size:=by simp[World.setCell]
 have a:Below wr.heap.size ((wr.setCell (G8 g (k*2)) x).setCell (G8 g (k*2+1)) y) (((wr.setCell (G8 g (k*2)) x).setCell (G8 g (k*2+1)) y).alloc O).drew:=((E9).alloc (by omega) O).drew;refine⟨((i.trans (zx.set (M:=λb=>b=g) wr rfl _ x)).trans (zx.set (M:=λb=>b=g) _ rfl _ y)).trans (zx.of (a.mono (by omega))),by have:=a.size;omega,?_,λo=>?_,λj h q=>⟨?_,?_⟩⟩
 ·rw[a.cell (p:=(G8 (w.heap.size+1) n)) (by simp only;omega),Ql _ _ _ _ _ _ (by omega),Ql _ _ _ _ _ _ (by omega)];exact c
 ·rw[a.frozen (p:=G8 g o) (by simp only;omega),V8,V8];exact d o
 ·rw[a.cell (p:=(G8 g (j*2))) (by simp only;omega),Ql _ _ _ _ _ _ (by omega),Ql _ _ _ _ _ _ (by omega)];exact(f j h (by omega)).1
 rw[a.cell (p:=(G8 g (j*2+1))) (by simp only;omega),Ql _ _ _ _ _ _ (by omega),Ql _ _ _ _ _ _ (by omega)];exact(f j h (by omega)).2
theorem zc2(x0 x1 x2 y0 y1 y2:BY)(ms:List (BY×BY))(A:Addr)(cap g c base:Nat)(w:J)(hn:ms.length<=1000000000)(K:0<ms.length->A.block≠g)
  (M:∀j,(h:j<ms.length)->w.cell? (A.add (j*2))=some (.string ms[j].1)/\w.cell? (A.add (j*2+1))=some (.string ms[j].2))
  (d:w.ownsRow base 107 2 (.slice (some (G8 g 0)) (ms.length+2) c) (ms.length+2) (ja (ms++[spare,spare]))):R8 31 #[.agg #[.string x0,.string x1,.string x2,.slice (some (G8 g 0)) ms.length c],.agg #[.string y0,.string y1,.string y2,.slice (some A) ms.length cap]] w λe w'=>
   e=.returned (.bool true)/\zx (λb=>b=g) w w':=by
 have q:∀(w:J) (a:Option Addr) (n c T G:Nat),(binOp .eql 33 (.slice a n c) (.slice none T G)).run prog w=.ok (.bool a.isNone) w:=λw a n c T G=>aI w _ _ a n c T G underlying33;have u:g<w.heap.size:=(d.lt g rfl).2
 have a8:ms.length+2<=c:=by
  rcases d.2 with⟨_,h⟩|⟨g',G,cur,hv,N,_,M,_⟩
  ·omega
  simp only[Value.slice.injEq]at hv;omega
 have D:∀o,w.frozen? (G8 g o)=false:=λo=>d.frozenAt o;obtain⟨L,H⟩:=Nm (ms++[spare,spare]);have a7:L.length=ms.length+2:=by rw[<- H];simp
 rw[H]at d
 have C:∀j,(h:j<L.length)->w.cell? (G8 g (j*2))=some (.string L[j].1)/\w.cell? (G8 g (j*2+1))=some (.string L[j].2):=λj h=>by
  have N:=KH L j h;exact⟨(d.cellAt _ (by omega)).trans N.1,(d.cellAt _ (by omega)).trans N.2⟩
 have⟨W,z,t,X⟩:=M5 M D C H;clear M D C H d;go_enter func31,ntmps31;go_wp2
 go_loopw [6,7] (λV S wr=>∃k:Nat,k<=L.length/\V=.bool true/\S=.int .i64 k/\zx (λb=>b=g) w wr/\w.heap.size+2<=wr.heap.size/\wr.cell? (G8 (w.heap.size+1) 3)=some (.slice (some A) ms.length cap) /\
   (∀o,wr.frozen? (G8 g o)=false)/\∀j,(h:j<L.length)->k<=j->wr.cell? (G8 g (j*2))=some (.string L[j].1)/\wr.cell? (G8 g (j*2+1))=some (.string L[j].2)) (λ_ S _=>L.length-(intOf S).toNat)
 case atStart=>
  have F:=λa b=>(nbl w a).alloc (by simp) b;exact⟨0,by omega,rfl,rfl,zx.of (F _ _),by simp,by simp,λo=>((F _ _).frozen (p:=G8 g o) u).trans (z.o o),λj h _=>⟨zi (F _ _) (t.o j h).1,zi (F _ _) (t.o j h).2⟩⟩
 case round=>
  obtain⟨k,hk,rfl,rfl,s,E,v,y,rc⟩:=hrel;have⟨I,f⟩:=D5 rc s;clear rc s t z
  by_cases hlt:k<L.length
  ·obtain⟨f1,f2⟩:=I.o k hlt (ze _);obtain⟨n1,i⟩:=Nm (L[k].1);obtain⟨v1,l⟩:=Nm (L[k].2);rw[i]at f1;rw[l]at f2;have f3:=λO:Obj=>zi (nbl wr O) f1;have f4:=λO:Obj=>zi (nbl wr O) f2;have a3:=λO:Obj=>zi (nbl wr O) v;have P:g<wr.heap.size:=by omega
   have a6:=λ(O:Obj) (o:Nat)=>((nbl wr O).frozen (p:=G8 g o) P).trans (y o)
   by_cases hkm:k<ms.length
   ·have r:L[k]=ms[k]:=by simp only[<- X.o];rw[UR hkm]
    rw[r]at i l;have m:=W.o k hkm;obtain⟨b,o,rfl⟩:=U2 (W.o 0 (by omega)).1;rw[addr_add,addr_add,i,l]at m;have B:b≠g:=K (by omega);have d1:=f.o.cell (x:=(G8 b (o+k*2))) B m.1;have d2:=f.o.cell (x:=⟨b,o+(k*2+1),none⟩) B m.2;rw[<- JV]at d2;have d3:=λO:Obj=>zi (nbl wr O) d1;have d4:=λO:Obj=>zi (nbl wr O) d2;clear i l m d1 d2 r;go_wp2;go_region
    all_goals go_wp2
    have R:=Gu u f.o E v y I.o (.string ⟨#[111,118,101,114]⟩) (.string ⟨#[119,114,105,116,116,101,110]⟩) (Obj.cells #[Value.string n1,Value.string v1] 107);exact⟨⟨k+1,by omega,rfl,by go_num,R⟩,by simp[intOf];omega⟩
   have r:L[k]=spare:=by
    simp only[<- X.o];rw[gy (by omega)];have Q:k-ms.length=0\/k-ms.length=1:=by omega
    rcases Q with e|e<;>simp[e]
   rw[r]at i l;have e1:n1=⟨#[115,112,97,114,101]⟩:=i.symm;have e2:v1=⟨#[]⟩:=l.symm;subst e1;subst e2;clear i l r;go_wp2;go_region
   all_goals go_wp2
   have R:=Gu u f.o E v y I.o (.string ⟨#[111,118,101,114]⟩) (.string ⟨#[119,114,105,116,116,101,110]⟩) (Obj.cells #[Value.string ⟨#[115,112,97,114,101]⟩,Value.string ⟨#[]⟩] 107);exact⟨⟨k+1,by omega,rfl,by go_num,R⟩,by simp[intOf];omega⟩
  go_wp2;go_ret;exact⟨rfl,f.o⟩
end Go.Proofs.YtfjpcldndaiifaaGreatDoor
