/- P -/
import Derived.Test.YtdakgnaojakldaaGreatDoorP50
open Go.Proofs.Tryz
set_option maxRecDepth 100000
set_option maxHeartbeats 8000000
namespace Go.Proofs.YtdakgnaojakldaaGreatDoor
open Go.RowKit
def aR:Obj:=jL (.int .i64 3) (.int .i64 0) (.string ⟨#[]⟩) (.int .i64 0)
theorem Nl{j:Nat}(h:j<[0,1,2,3].length):[0,1,2,3][j]=j:=by
 simp at h
 rcases lt4 h with rfl|rfl|rfl|rfl<;>rfl
theorem II(st:StO)(r:Ref.Req)(j:Nat)(h:j<4):De.yE st De.kX r ([0,1,2,3].drop j)=match De.yO De.kX r (st j) with
  | some (n,k)=>some (j,n,k)
  | none=>De.yE st De.kX r ([0,1,2,3].drop (j+1)):=by
 have:=eX st De.kX r [0,1,2,3] j (by simpa using h)
 rw[Nl] at this;exact this
theorem EA(st:StO)(r:Ref.Req)(j:Nat)(h:j<2):De.yE st De.jl r ([2,3].drop j)=match De.yO De.jl r (st (j+2)) with
  | some (n,k)=>some (j+2,n,k)
  | none=>De.yE st De.jl r ([2,3].drop (j+1)):=by
 have:=eX st De.jl r [2,3] j (by simpa using h)
 have e:[2,3][j]'(by simpa using h)=j+2:=by
  rcases (show j=0\/j=1 by omega) with rfl|rfl<;>rfl
 rw[e] at this;exact this
theorem IJ:((⟨#[100,101,110,121]⟩:BY).toList==[100,101,110,121])=true:=by rw[ut];rfl
theorem mO:((⟨#[97,108,108,111,119]⟩:BY).toList==[100,101,110,121])=false:=by rw[ut];rfl
theorem zau(cb:Nat)(lv:Value)(ks:List zC)(st:StO)(r:Ref.Req)(ao:Option Addr)(cap:Nat)(M:Nat->Prop)(w:World)(h:xN M w cb lv ks)(hn:ks.length<=1000000000)(hN:∀x ∈ ks,x.name.size<=maxLen)(hM:∀b,M b->b<w.heap.size)(a3:Agree st ks)(hg:∀i,i<4->Qw (st i))(a5:qQ w ao r.marks)(hr:Ref.aI r) :
  Calls prog 127 #[.pointer (some ⟨cb,0,none⟩),Ref.zY r ao cap] w λe w'=>e = .returned (.tuple #[Uj (De.Jj st r).1,.int .i64 (De.Jj st r).2])/\Below w.heap.size w w':=by
 obtain⟨W1,h1⟩:∃W,w.alloc (.cells #[.string r.who,.string r.act,.string r.on,.slice ao r.marks.length cap] 53)=W:=⟨_,rfl⟩;have s1:W1.heap.size=w.heap.size+1:=by rw[<- h1];simp
 have n1:W1.heap[w.heap.size]?=some (.cells #[.string r.who,.string r.act,.string r.on,.slice ao r.marks.length cap] 53):=by rw[<- h1];exact zB w _
 have b1:Below w.heap.size w W1:=by rw[<- h1];exact nbl w _
 obtain⟨W2,h2⟩:∃W,W1.alloc Qt=W:=⟨_,rfl⟩;have n2:W2.heap[w.heap.size+1]?=some Qt:=by rw[<- h2,<- s1];exact zB W1 _
 have b2:Below W1.heap.size W1 W2:=by rw[<- h2];exact nbl W1 _
 have bw:Below w.heap.size w W2:=b1.trans (b2.mono b1.size);have bx:Qh W2 w.heap.size (.string r.who) (.string r.act) (.string r.on) (.slice ao r.marks.length cap):=⟨Zt (r:=r) (ao:=ao) (cap:=cap) ⟨(zg n1 0).1,(zg n1 1).1,(zg n1 2).1,(zg n1 3).1⟩ b2,n2⟩;have HW:Hid ((w.alloc (.cells #[.string r.who,.string r.act,.string r.on,.slice ao r.marks.length cap] 53)).alloc (.cells #[.int .i64 0,.int .i64 0,.string ⟨#[]⟩,.int .i64 0] 48)=W2):=hid (by rw[h1];exact h2);have cR:=zax r ao cap W2 hr (xB a5 bw);have cF:=λ(j7:Ref.xP r=true) (W:World) (hb:Below w.heap.size w W) (i:Nat) (P:i<4) (eff:BY)=>zav cb lv ks st i eff r ao cap M W (h.below hb) hn hN (λb c7=>xS (hM b c7) hb.size) a3 P (hg i P) (xB a5 hb) j7
 have cI:=λ(W:World) (hb:Below w.heap.size w W) (i:Nat) (P:i<4)=>(fJ cb lv ks (i:Int) M W (h.below hb) hn hN (λb c7=>xS (hM b c7) hb.size)).mono (R':=λe w'=>∃a c,e = .returned (.slice a (st i).length c)/\Below W.heap.size W w') (λe w' ⟨v,xs,out,he,j5,f8,j9,j2⟩=>by
  obtain⟨a,c,rfl,_⟩:=lF f8 j9
  have:=a3.layer P j5
  exact⟨a,c,by rw[he,this,qH],j2⟩)
 have c9:=λi P=>(hg i P).2.1;unfold De.Jj;obtain⟨Q,hQ⟩:=Nm (Ref.xP r);rw[hQ] at cR |-;have BW:=hid bw;have BX:=hid bx;have CR:=hid cR
 cases Q with
 | false=>
  clear cF cI cR h hn hN hM a3 hg a5 hr h1 h2 s1 n1 n2 b1 b2 bw hQ c9;obtain⟨who,act,on,ms⟩:=r;unfold Ref.zY at CR |-;simp only[yu,xV] at CR HW bx |-;obtain⟨⟨z0,z1,z2,z3⟩,_⟩:=bx;go_enter func127,ntmps127
  go_upto_region 1 with fail
  rw[HW.out]
  go_upto_region 3 with (go_at_call 177;refine CR.out.mono ?_;rintro e w3 ⟨rfl,b3⟩;have c1:=hid (BW.out.trans (b3.mono BW.out.size));have S:=hid (BX.out.below b3);clear b3)
  obtain⟨⟨y0,y1,y2,y3⟩,t0,t1,t2,t3⟩:=S.out.cells;have E:w.heap.size+1<w3.heap.size:=zt S.out.2;obtain⟨r0,r1,r2,r3⟩:=Qi S.out.2 (.int .i64 0) (.int .i64 0) (.string ⟨#[]⟩) (.int .i64 0);have t:=hid (Za (b:=w.heap.size+1) c1.out (by omega) (.int .i64 0) (.int .i64 0) (.string ⟨#[]⟩) (.int .i64 0));go_wp2_with fail;exact zA (v := .tuple #[.agg #[.int .i64 0,.int .i64 0,.string ⟨#[]⟩,.int .i64 0],.int .i64 11]) (by simp[results,results127,go_sem,r0,r1,r2,r3]) rfl ⟨rfl,t.out⟩
 | true=>
  have CF:=hid (cF hQ);have CI:=hid cI;have a4:=λj h=>II st r j h;have f3:=λj h=>EA st r j h;have C:De.YL st r=De.YL st r:=rfl;rw[zb rfl];simp only;obtain⟨i2,A⟩:∃d,De.YL st r=d:=⟨_,rfl⟩;rw[A];unfold De.YL at A;have hl:∀i,De.Qn st r i=((st i).isEmpty||(De.yO De.jl r (st i)).isSome):=λi=>rfl;obtain⟨F1,c5⟩:∃F,De.yE st De.kX r [0,1,2,3]=F:=⟨_,rfl⟩;obtain⟨F2,c6⟩:∃F,De.yE st De.jl r [2,3]=F:=⟨_,rfl⟩;rw[c5,c6] at A;have U:=hid A;have e4:=hid a4;have i3:=hid f3;have e9:=hid hl;have e6:=hid c5;have i5:=hid c6;have e7:=hid c9;clear cF cI cR h hn hN hM a3 hg a5 hr h1 h2 s1 n1 n2 b1 b2 bw hQ a4 f3 hl c5 c6 A C c9;obtain⟨who,act,on,ms⟩:=r;unfold Ref.zY at CR CF |-;simp only at CR CF HW bx |-;obtain⟨⟨z0,z1,z2,z3⟩,_⟩:=bx;have f1:=λW hb i P=>CF.out W hb i P De.kX;have f0:=λW hb i P=>CF.out W hb i P De.jl;have e0:=hid f1;have c0:=hid f0;clear f1 f0 CF;unfold De.kX at e0;unfold De.jl at c0;go_enter func127,ntmps127
  go_upto_region 1 with fail
  rw[HW.out]
  go_wp2_with (go_at_call 177;refine CR.out.mono ?_;rintro e w3 ⟨rfl,b3⟩;have c1:=hid (BW.out.trans (b3.mono BW.out.size));have S:=hid (BX.out.below b3);clear b3)
  go_loopw [7] (λiv wr=>∃j:Nat,j<=4/\iv = .int .i64 j/\De.yE st De.kX ⟨who,act,on,ms⟩ ([0,1,2,3].drop j)=F1/\Below w.heap.size w wr/\Qh wr w.heap.size (.string who) (.string act) (.string on) (.slice ao ms.length cap)) (λiv _=>4-(intOf iv).toNat)
  case atStart=>exact⟨0,by omega,rfl,e6.out,c1.out,S.out⟩
  case round=>
   obtain⟨j,hj,rfl,Z,hb,B⟩:=hrel;have K:=hid Z;have q:=hid hb;have l:=hid B;obtain⟨⟨z0,z1,z2,z3⟩,_⟩:=B;clear Z hb
   by_cases E:j<4
   ·have z:=e4.out j E;rw[K.out] at z;have p:=e0.out wr q.out j E;obtain⟨D,J⟩:=Nm (De.yO De.kX ⟨who,act,on,ms⟩ (st j));rw[J] at z;have y:De.yO ⟨#[100,101,110,121]⟩ ⟨who,act,on,ms⟩ (st j)=D:=J;rw[y] at p;have Y:=hid z
    cases D with
    | none=>
     unfold Yj jM at p;simp only at p;have O:=hid p;clear p z J y
     go_wp2_with (go_at_call 182;refine O.out.mono ?_;rintro e s ⟨rfl,o⟩;have f:=hid (q.out.trans (o.mono q.out.size));have g:=hid (l.out.below o);clear o)
     refine⟨⟨j+1,by omega,by go_num,Y.out.symm,f.out.alloc f.out.size _,g.out.below (nbl s _)⟩,by simp[intOf];omega⟩
    | some d=>
     obtain⟨nm,k⟩:=d;unfold Yj jM at p;simp only[IJ,qJ] at p;have O:=hid p;clear p z J y
     go_wp2_with (go_at_call 182;refine O.out.mono ?_;rintro e s ⟨rfl,o⟩;have f:=hid (q.out.trans (o.mono q.out.size));have g:=hid (l.out.below o);obtain⟨⟨y0,y1,y2,y3⟩,t0,t1,t2,t3⟩:=g.out.cells;have f6:w.heap.size+1<s.heap.size:=zt g.out.2;clear o;obtain⟨r0,r1,r2,r3⟩:=KD g.out.2 (.int .i64 2) (.int .i64 (j:Int)) (.string nm) (.int .i64 (k:Int)) (.cells #[.int .i64 2,.int .i64 (j:Int),.string nm,.int .i64 (k:Int)] 48);have t:=hid (Za (b:=w.heap.size+1) f.out (by omega) (.int .i64 2) (.int .i64 (j:Int)) (.string nm) (.int .i64 (k:Int))))
     exact zA (v := .tuple #[.agg #[.int .i64 2,.int .i64 (j:Int),.string nm,.int .i64 (k:Int)],.int .i64 0]) (by simp[results,results127,go_sem,r0,r1,r2,r3]) rfl ⟨by rw[<- U.out,Y.out];rfl,t.out.alloc t.out.size _⟩
   ·have j6:j=4:=by omega
    have e:=K.out;rw[XT (by simp;omega)] at e;have C:=U.out;rw[<- e] at C;have c3:=hid C;obtain⟨ws,a6⟩:∃W,wr.alloc aR=W:=⟨_,rfl⟩;have bs:Below wr.heap.size wr ws:=by rw[<- a6];exact nbl wr _
    have ns:ws.heap[wr.heap.size]?=some aR:=by rw[<- a6];exact zB wr _
    have e3:=hid (q.out.trans (bs.mono q.out.size));have d9:=hid (l.out.below bs);have NS:=hid ns;have b8:wr.alloc (.cells #[.int .i64 3,.int .i64 0,.string ⟨#[]⟩,.int .i64 0] 48)=ws:=a6;have HX:=hid b8;subst j6;clear a6 b8 e C bs ns U e4 e6 q l K E z0 z1 z2 z3
    go_upto_region 11 with fail
    rw[HX.out];obtain⟨sb,g0⟩:∃n,wr.heap.size=n:=⟨_,rfl⟩;rw[g0] at NS |-;clear HX g0;go_wp2_with fail
    go_loopw [10] (λiv wr=>∃j:Nat,j<=2/\iv = .int .i64 j/\(∀m,m<j->De.Qn st ⟨who,act,on,ms⟩ m=true)/\Below w.heap.size w wr/\Qh wr w.heap.size (.string who) (.string act) (.string on) (.slice ao ms.length cap)/\wr.heap[sb]?=some aR) (λiv _=>2-(intOf iv).toNat)
    case atStart=>exact⟨0,by omega,rfl,λm h=>by omega,e3.out,d9.out,NS.out⟩
    case round=>
     obtain⟨j,hj,rfl,f5,hb,B,hs⟩:=hrel;have V:=hid f5;have q:=hid hb;have l:=hid B;have H:=hid hs;obtain⟨⟨z0,z1,z2,z3⟩,_⟩:=B;clear f5 hb hs
     by_cases E:j<2
     ·have p:=c0.out wr q.out j (by omega);have N:=e9.out j;obtain⟨D,J⟩:=Nm (De.yO De.jl ⟨who,act,on,ms⟩ (st j));rw[J] at N;have y:De.yO ⟨#[97,108,108,111,119]⟩ ⟨who,act,on,ms⟩ (st j)=D:=J;rw[y] at p
      cases D with
      | some d=>
       obtain⟨nm,k⟩:=d;unfold Yj jM at p;simp only[mO,yu,xV] at p;have O:=hid p;have a0:De.Qn st ⟨who,act,on,ms⟩ j=true:=by rw[N];simp
       have i6:=hid a0;clear p J y N a0
       go_wp2_with (go_at_call 182;refine O.out.mono ?_;rintro e s ⟨rfl,o⟩;have f:=hid (q.out.trans (o.mono q.out.size));have g:=hid (l.out.below o);have u:=hid ((o.block sb (zt H.out)).trans H.out);clear o)
       have I:Below s.heap.size s (s.alloc (.cells #[.int .i64 1,.int .i64 (j:Int),.string nm,.int .i64 (k:Int)] 48)):=nbl s _;refine⟨?_,?_⟩
       ·(repeat apply Exists.intro)
        refine⟨?_,rfl⟩;refine⟨j+1,by omega,by go_num,λm hm=>?_,f.out.alloc f.out.size _,g.out.below I,(I.block sb (zt u.out)).trans u.out⟩
        by_cases hmj:m=j
        ·subst hmj;exact i6.out
        ·exact V.out m (by omega)
       ·simp[intOf];omega
      | none=>
       unfold Yj jM at p;simp only at p;have O:=hid p;simp only[kS,Zl] at N;have P:=e7.out j (by omega);have ci:=λ(W:World) (hb:Below w.heap.size w W)=>CI.out W hb j (by omega);obtain⟨n,hn⟩:=Nm ((st j).length);have hle:De.Qn st ⟨who,act,on,ms⟩ j=decide (n=0):=by rw[N,<- hn];cases st j<;>simp
       rw[hn] at ci P;have e2:=hid ci;have e8:=hid hle;clear p J y N ci hn hle
       by_cases hz:n=0
       ·subst hz
        go_wp2_with (first
         | (go_at_call 126;refine (e2.out _ G.out).mono ?_;rintro e w7 ⟨ia,ic,rfl,b7⟩;have c2:=hid (G.out.trans (b7.mono G.out.size));have T:=hid (b9.out.below b7);have L:=hid ((b7.block sb (zt X.out)).trans X.out);clear b7)
         | (go_at_call 182;refine O.out.mono ?_;rintro e s ⟨rfl,o⟩;have f:=hid (q.out.trans (o.mono q.out.size));have g:=hid (l.out.below o);have u:=hid ((o.block sb (zt H.out)).trans H.out);have I:Below s.heap.size s (s.alloc (.cells #[.int .i64 0,.int .i64 0,.string ⟨#[]⟩,.int .i64 0] 48)):=nbl s _;have G:=hid (f.out.trans (I.mono f.out.size));have b9:=hid (g.out.below I);have X:=hid ((I.block sb (zt u.out)).trans u.out);clear I;clear o))
        refine⟨?_,?_⟩
        ·(repeat apply Exists.intro)
         refine⟨?_,rfl⟩;refine⟨j+1,by omega,by go_num,λm hm=>?_,c2.out,T.out,L.out⟩
         by_cases hmj:m=j
         ·subst hmj;rw[e8.out];rfl
         ·exact V.out m (by omega)
        ·simp[intOf];omega
       ·have l9:decide ((0:Int)<(n:Int))=true:=zy (by omega)
        go_wp2_with (first
         | (go_at_call 126;refine (e2.out _ G.out).mono ?_;rintro e w7 ⟨ia,ic,rfl,b7⟩;have c2:=hid (G.out.trans (b7.mono G.out.size));have T:=hid (b9.out.below b7);have L:=hid ((b7.block sb (zt X.out)).trans X.out);clear b7;obtain⟨⟨y0,y1,y2,y3⟩,t0,t1,t2,t3⟩:=T.out.cells;have f7:w.heap.size+1<w7.heap.size:=zt T.out.2;obtain⟨r0,r1,r2,r3⟩:=Qi T.out.2 (.int .i64 3) (.int .i64 0) (.string ⟨#[]⟩) (.int .i64 0);have t:=hid (Za (b:=w.heap.size+1) c2.out (by omega) (.int .i64 3) (.int .i64 0) (.string ⟨#[]⟩) (.int .i64 0));have x0:=(zg L.out 0).1;have x1:=(zg L.out 1).1;have x2:=(zg L.out 2).1;have x3:=(zg L.out 3).1;simp at x0 x1 x2 x3)
         | (go_at_call 182;refine O.out.mono ?_;rintro e s ⟨rfl,o⟩;have f:=hid (q.out.trans (o.mono q.out.size));have g:=hid (l.out.below o);have u:=hid ((o.block sb (zt H.out)).trans H.out);have I:Below s.heap.size s (s.alloc (.cells #[.int .i64 0,.int .i64 0,.string ⟨#[]⟩,.int .i64 0] 48)):=nbl s _;have G:=hid (f.out.trans (I.mono f.out.size));have b9:=hid (g.out.below I);have X:=hid ((I.block sb (zt u.out)).trans u.out);clear I;clear o))
        have a4:i2=De.silent:=by
         have hf:=e8.out;rw[zJ hz] at hf
         have j4:(De.Qn st ⟨who,act,on,ms⟩ 0&&De.Qn st ⟨who,act,on,ms⟩ 1)=false:=by
          rcases (show j=0\/j=1 by omega) with rfl|rfl
          ·rw[hf,uJ]
          ·rw[hf,Bool.and_false]
         have R:=c3.out;simp only[De.yE] at R;rw[zb j4] at R;exact R.symm
        exact zA (v := .tuple #[.agg #[.int .i64 3,.int .i64 0,.string ⟨#[]⟩,.int .i64 0],.int .i64 0]) (by simp[results,results127,go_sem,r0,r1,r2,r3]) rfl ⟨by rw[a4];rfl,t.out⟩
     ·have c8:j=2:=by omega
      have R:=c3.out;have f4:=V.out 0 (by omega);have a0:=V.out 1 (by omega);simp only[De.yE] at R;rw[f4,a0,za (by simp)] at R;have e5:=hid R;subst c8;clear R f4 a0 c3 e9 V CI e7 e3 d9 NS E;obtain⟨wp,k0⟩:∃x,x=wr:=⟨_,rfl⟩;subst k0;go_wp2_with fail
      go_loopw [12] (λiv wr=>∃j:Nat,j<=2/\iv = .int .i64 ((j:Int)+2)/\De.yE st De.jl ⟨who,act,on,ms⟩ ([2,3].drop j)=F2/\Below w.heap.size w wr/\Qh wr w.heap.size (.string who) (.string act) (.string on) (.slice ao ms.length cap)/\wr.heap[sb]?=some aR) (λiv _=>4-(intOf iv).toNat)
      case atStart=>exact⟨0,by omega,rfl,i5.out,q.out,l.out,H.out⟩
      case round=>
       obtain⟨j,hj,rfl,Z,hb,B,hs⟩:=hrel;clear q l H z0 z1 z2 z3;have K:=hid Z;have q:=hid hb;have l:=hid B;have H:=hid hs;obtain⟨⟨z0,z1,z2,z3⟩,_⟩:=B;clear Z hb hs
       by_cases E:j<2
       ·have p:=c0.out wr q.out (j+2) (by omega);have z:=i3.out j E;rw[K.out] at z;obtain⟨D,J⟩:=Nm (De.yO De.jl ⟨who,act,on,ms⟩ (st (j+2)));rw[J] at z;have y:De.yO ⟨#[97,108,108,111,119]⟩ ⟨who,act,on,ms⟩ (st (j+2))=D:=J;rw[y,show (((j+2:Nat)):Int)=(j:Int)+2 by omega] at p;have Y:=hid z;have d3:decide ((j:Int)+2<=3)=true:=zy (by omega)
        cases D with
        | none=>
         unfold Yj jM at p;simp only at p;have O:=hid p;clear p z J y
         go_wp2_with (go_at_call 182;refine O.out.mono ?_;rintro e s ⟨rfl,o⟩;have f:=hid (q.out.trans (o.mono q.out.size));have g:=hid (l.out.below o);have u:=hid ((o.block sb (zt H.out)).trans H.out);clear o)
         have I:Below s.heap.size s (s.alloc (.cells #[.int .i64 0,.int .i64 0,.string ⟨#[]⟩,.int .i64 0] 48)):=nbl s _;refine⟨?_,?_⟩
         ·(repeat apply Exists.intro)
          refine⟨?_,rfl⟩;exact⟨j+1,by omega,by go_num,Y.out.symm,f.out.alloc f.out.size _,g.out.below I,(I.block sb (zt u.out)).trans u.out⟩
         ·simp[intOf];omega
        | some d=>
         obtain⟨nm,k⟩:=d;unfold Yj jM at p;simp only[mO,yu,xV] at p;rw[show (((j+2:Nat)):Int)=(j:Int)+2 by omega] at p;have O:=hid p;clear p z J y
         go_wp2_with (go_at_call 182;refine O.out.mono ?_;rintro e s ⟨rfl,o⟩;have f:=hid (q.out.trans (o.mono q.out.size));have g:=hid (l.out.below o);clear o;obtain⟨⟨y0,y1,y2,y3⟩,t0,t1,t2,t3⟩:=g.out.cells;have f6:w.heap.size+1<s.heap.size:=zt g.out.2;obtain⟨r0,r1,r2,r3⟩:=KD g.out.2 (.int .i64 1) (.int .i64 ((j:Int)+2)) (.string nm) (.int .i64 (k:Int)) (.cells #[.int .i64 1,.int .i64 ((j:Int)+2),.string nm,.int .i64 (k:Int)] 48);have t:=hid (Za (b:=w.heap.size+1) f.out (by omega) (.int .i64 1) (.int .i64 ((j:Int)+2)) (.string nm) (.int .i64 (k:Int))))
         exact zA (v := .tuple #[.agg #[.int .i64 1,.int .i64 ((j:Int)+2),.string nm,.int .i64 (k:Int)],.int .i64 0]) (by simp[results,results127,go_sem,r0,r1,r2,r3]) rfl ⟨by rw[<- e5.out,Y.out];rfl,t.out.alloc t.out.size _⟩
       ·have c8:j=2:=by omega
        have e:=K.out;rw[XT (by simp;omega)] at e;have R:=e5.out;rw[<- e] at R;have i4:=hid R;subst c8;obtain⟨⟨y0,y1,y2,y3⟩,t0,t1,t2,t3⟩:=l.out.cells;have f7:w.heap.size+1<wr.heap.size:=zt l.out.2;obtain⟨r0,r1,r2,r3⟩:=Qi l.out.2 (.int .i64 3) (.int .i64 0) (.string ⟨#[]⟩) (.int .i64 0);have t:=hid (Za (b:=w.heap.size+1) q.out (by omega) (.int .i64 3) (.int .i64 0) (.string ⟨#[]⟩) (.int .i64 0));have x0:=(zg H.out 0).1;have x1:=(zg H.out 1).1;have x2:=(zg H.out 2).1;have x3:=(zg H.out 3).1;simp at x0 x1 x2 x3;clear e R;go_wp2_with fail;exact zA (v := .tuple #[.agg #[.int .i64 3,.int .i64 0,.string ⟨#[]⟩,.int .i64 0],.int .i64 0]) (by simp[results,results127,go_sem,r0,r1,r2,r3]) rfl ⟨by rw[<- i4.out];rfl,t.out⟩
end Go.Proofs.YtdakgnaojakldaaGreatDoor
