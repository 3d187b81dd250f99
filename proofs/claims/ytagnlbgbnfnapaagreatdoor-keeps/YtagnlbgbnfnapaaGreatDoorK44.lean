/- P -/
import Derived.Test.YtagnlbgbnfnapaaGreatDoorK43
import Derived.Test.YtagnlbgbnfnapaaGreatDoorK42
import Derived.Test.YtagnlbgbnfnapaaGreatDoorK29
open Go.Proofs.Tryz
set_option maxRecDepth 100000
set_option maxHeartbeats 4000000
namespace Go.Proofs.YtagnlbgbnfnapaaGreatDoor
open Go.RowKit
theorem Below.on{B:Nat}{a b c:World}(h:Below B a b)(k:Below b.heap.size b c)(d:B<=a.heap.size):Below B a c:=h.trans (k.mono (qZ d h.size))
structure Grown (A:World) where
 w:World
 b:Below A.heap.size A w
theorem Ck(cs:List Ref.qg)(k:Nat)(c:Ref.qg)(h:cs[k]?=some c):Ref.Zi cs (k+1)=Ref.Xn (Ref.comma (Ref.Zi cs k) k) c:=by
 rw[Ref.Zi,zY,h];rfl
theorem Cf(cs:List Ref.qg)(lv:Value)(base:Nat)(w:World)(h:xS w base lv cs)(hn:cs.length<=5)(hS:∀c ∈ cs,Ref.Xi c) :
  Calls prog 133 #[lv] w λe w'=>e = .returned (.string (Ref.ZI cs))/\Below w.heap.size w w':=by
 obtain⟨a,cc,rfl⟩:=h.slice;obtain⟨xs,hx,hc⟩:=h;obtain⟨n,t⟩:=Nm cs.length
 have B:∀(k:Nat) (x:Ref.qg),cs[k]?=some x->∃m lx,a=some ⟨m,0,none⟩/\(w.cell? ⟨m,k*4,none⟩=some (.string x.op)/\w.cell? ⟨m,k*4+1,none⟩=some (.string x.key)/\w.cell? ⟨m,k*4+2,none⟩=some lx/\w.cell? ⟨m,k*4+3,none⟩=some (.bool x.no))/\w.ownsRow base 9 1 lx x.vals.length (Ref.strCells x.vals):=by
  intro k x b2;have hk:k<cs.length:=(zR.1 b2).1;have hl:xs.length=cs.length*4:=hx.1
  rcases hx.2 with ⟨e,h0⟩|⟨m,cap,cur,e,_⟩
  ·omega
  ·have r:∀i,i<cs.length*4->w.cell? ⟨m,i,none⟩=xs[i]?:=λi hi=>World.ownsRow.cellAt (g:=m) (cap:=cap) (by rw[<- e];exact hx) i (by omega);injection e with V e2 e3
   obtain⟨lx,h0,h1,h2,h3,h4⟩:=hc k hk;have d6:cs[k]=x:=(zR.1 b2).2;rw[d6] at h0 h1 h3 h4;exact⟨m,lx,V,⟨(r _ (by omega)).trans h0,(r _ (by omega)).trans h1,(r _ (by omega)).trans h2,(r _ (by omega)).trans h3⟩,h4⟩
 obtain⟨R,hR⟩:=Nm (Ref.ZI cs);rw[hR];obtain⟨O,hO⟩:∃O:Nat->BY,Ref.Zi cs=O:=⟨_,rfl⟩;have b0:∀k,k<=n->(O k).size<=1300000*k:=λk hk=>by rw[<- hO];exact Ref.V3 cs hS k (by rw[t];exact hk)
 have D:∀k c,cs[k]?=some c->O (k+1)=Ref.Xn (Ref.comma (O k) k) c:=λk c d1=>by rw[<- hO];exact Ck cs k c d1
 have a5:R=O n:=by rw[<- hR,<- hO,<- t];rfl
 have O0:O 0=⟨#[]⟩:=by rw[<- hO];rfl
 rw[t] at hn;have HC:=hid B;have HN:=hid t;have HZ:=hid b0;have S:=hid D;have U:=hid a5;have T:=hid O0;have HS:=hid hS;rw[t];clear B t hx hc b0 D a5 O0 hR hO hS;go_enter func133,ntmps133
 go_wp2
 go_loopw [3,4] (λov iv wr=>∃k:Nat,k<=n/\iv = .int .i64 k/\ov = .string (O k)/\Below w.heap.size w wr) (λ_ iv _=>n-(intOf iv).toNat)
 case atStart=>exact⟨0,zG _,rfl,by rw[T.out],zf _ _⟩
 case round=>
  obtain⟨k,hk,rfl,rfl,H⟩:=hrel;have d:=hid H;have z:=HZ.out k hk;clear H T
  by_cases hlt:k<n
  ·have a7:k<cs.length:=by rw[HN.out];exact hlt
   have K:=zn a7;obtain⟨m,lx,rfl,⟨q0,q1,q2,q3⟩,o4⟩:=HC.out k _ K;have f:=S.out k _ K;have N:=HS.out _ (xB a7);obtain⟨c,r⟩:=Nm (cs[k]);rw[r] at q0 q1 q3 o4 f N;obtain⟨la,lc,rfl⟩:=yt o4;obtain⟨op,key,vals,no,c7,c6⟩:=c;simp only at q0 q1 q2 q3 o4 f N;obtain⟨s1,s2,s3,s4⟩:=N;simp only at s1 s2 s3 s4;have p0:=zi d.out q0;have p1:=zi d.out q1;have p2:=zi d.out q2;have p3:=zi d.out q3;have CL:=hid (λW (hb:Below w.heap.size w W)=>nJ vals _ base W (ownsRow_below o4 hb) s3 s4);have F:=(Ref.iF (Ref.comma (O k) k) (c:=⟨op,key,vals,no,c7,c6⟩) ⟨s1,s2,s3,s4⟩);have L:=Ref.VZ (O k) k;obtain⟨o,ho⟩:=Nm (O k);rw[ho] at f F L z |-;have y:=hid f;have lz:=Ref.YY (l:=vals) ⟨s3,s4⟩;obtain⟨vl,d4⟩:∃v,vals.length=v:=⟨_,rfl⟩;rw[d4] at p2 CL
   have a9:(Ref.comma o k).size<=10000000:=by
    have:1300000*k<=1300000*5:=Nat.mul_le_mul_left _ (by omega)
    omega
   have k0:(0:Int)<=(k:Int):=zZ _;have k1:(k:Int)<(n:Int):=by omega
   clear q0 q1 q2 q3 o4 K r HC S HZ U HN HS ho f
   go_upto_if 12 with fail
   go_cut [3] from 5 to 55 (λs wx=>s = .string (Ref.comma o k)/\wx=wr)
   case first=>
    by_cases hk0:0<k
    ·have M:decide (0<k)=true:=zC hk0;rw[M];go_wp2_with fail
     go_meet
     case rel=>exact⟨by unfold Ref.comma;rw[zb hk0],rfl⟩
    ·have M:decide (0<k)=false:=zO hk0;rw[M];go_wp2_with fail
     go_meet
     case rel=>exact⟨by unfold Ref.comma;rw[za hk0],rfl⟩
   case rest=>
    obtain⟨rfl,b1⟩:=hcut;rw[b1];clear b1;have y1:=Ref.ut op;have y2:=Ref.ut key;obtain⟨o1,a8⟩:∃x,Ref.comma o k=x:=⟨_,rfl⟩;rw[a8] at y F L a9 |-;have a0:wr.drew.cell? ⟨m,k*4,none⟩=some (.string op):=p0;have a1:wr.drew.cell? ⟨m,k*4+1,none⟩=some (.string key):=p1;have a2:wr.drew.cell? ⟨m,k*4+2,none⟩=some (.slice la vl lc):=p2;have a3:wr.drew.cell? ⟨m,k*4+3,none⟩=some (.bool no):=p3;have bA:Below wr.heap.size wr wr.drew:=(zf _ wr).drew;clear a8
    go_upto_region 7 with fail
    go_cut [3] from 5 to 55 (λs wx=>s = .string (o1++⟨#[123,34,111,112,34,58]⟩++Ref.zV op++⟨#[44,34,107,101,121,34,58]⟩++Ref.zV key)/\Below wr.heap.size wr wx)
    case first=>
     have f0:∀X:Grown wr,X.w.cell? ⟨m,k*4,none⟩=some (.string op):=λX=>zi X.b p0;have f1:∀X:Grown wr,X.w.cell? ⟨m,k*4+1,none⟩=some (.string key):=λX=>zi X.b p1
     have HQ:Hid (∀(s:BY) (X:Grown wr),s.size<=12000->Calls prog 131 #[.string s] X.w λe P=>e = .returned (.string (Ref.zV s))/\∃Y:Grown wr,P=Y.w):=
      hid (λs X hs=>(cZ s X.w hs).mono (λe P ⟨he,hb⟩=>⟨he,⟨P,Below.on X.b hb (ze _)⟩,rfl⟩))
     clear a0 a1 a2 a3;have NE:Nonempty (Grown wr):=⟨⟨wr,zf _ _⟩⟩;refine wp_region_quiet (C:=λW'=>∃X:Grown wr,W'=X.w) (by kernel_rfl) (by kernel_rfl) ⟨⟨_,bA⟩,rfl⟩ ?_;simp only
     repeat (go_big_quiet_step (first|exact HQ.out _ _ s1|exact HQ.out _ _ s2))
     refine wpQuiet_nil ?_;intro w' d5;obtain⟨X,rfl⟩:=d5;go_wp2_with fail
     go_meet
     case rel=>exact⟨rfl,X.b⟩
    case rest=>
     obtain⟨rfl,A⟩:=hcut;have r0:=zi A p0;have r2:=zi A p2;have r3:=zi A p3;have u:Hid (Below w.heap.size w wc):=d.out.trans (A.mono d.out.size);have J:=hid (CL.out wc u.out);obtain⟨Hd,E⟩:∃x,(o1++⟨#[123,34,111,112,34,58]⟩++Ref.zV op++⟨#[44,34,107,101,121,34,58]⟩++Ref.zV key:BY)=x:=⟨_,rfl⟩
     have h6:Hd.size<=20000000:=by
      have h8:=F.1;unfold Ref.ZH at h8;rw[E] at h8;omega
     have f:=y.out;unfold Ref.Xn Ref.YN Ref.Xo Ref.ZH at f;simp only at f;rw[E] at f;have Q:=hid f;obtain⟨LB,Z⟩:∃x,Ref.yI vals=x:=⟨_,rfl⟩;rw[Z] at lz J Q;rw[E];clear A p0 p1 p2 p3 a0 a1 a2 a3 bA CL F L a9 E f y y1 y2 Z z s1 s2 s3 s4
     by_cases hab:Ref.xO op=true
     ·have V:(op.toList==[97,98,115,101,110,116])=true:=hab;have e2:(op.toList != [97,98,115,101,110,116])=false:=by unfold bne;rw[V];rfl
      have hF:=Q.out;rw[zb hab] at hF;have j:=hid hF;clear hF Q hab
      cases no with
      | true=>
       have hF:=j.out;rw[zb rfl] at hF;have p:=hid hF;clear hF j;go_wp2_with fail
       go_roundw
       case rel=>exact⟨k+1,by omega,by go_num,by rw[p.out],u.out⟩
       case measure=>simp[intOf];omega
      | false=>
       have hF:=j.out;rw[za (by simp)] at hF;have p:=hid hF;clear hF j;go_wp2_with fail
       go_roundw
       case rel=>exact⟨k+1,by omega,by go_num,by rw[p.out],u.out⟩
       case measure=>simp[intOf];omega
     ·have G:Ref.xO op=false:=by simpa using hab
      have V:(op.toList==[97,98,115,101,110,116])=false:=G;have e2:(op.toList != [97,98,115,101,110,116])=true:=by unfold bne;rw[V];rfl
      have hF:=Q.out;rw[za hab] at hF;have j:=hid hF;clear hF Q hab G
      cases no with
      | true=>
       have hF:=j.out;rw[zb rfl] at hF;have p:=hid hF;clear hF j
       go_wp2_with (go_at_call 177;refine J.out.mono ?_;rintro e w5 ⟨rfl,q⟩;have t3:=zi q r3;have I:=hid (Below.on u.out q (ze _));clear q)
       go_roundw
       case rel=>exact⟨k+1,by omega,by go_num,by rw[p.out],I.out⟩
       case measure=>simp[intOf];omega
      | false=>
       have hF:=j.out;rw[za (by simp)] at hF;have p:=hid hF;clear hF j
       go_wp2_with (go_at_call 177;refine J.out.mono ?_;rintro e w5 ⟨rfl,q⟩;have t3:=zi q r3;have I:=hid (Below.on u.out q (ze _));clear q)
       go_roundw
       case rel=>exact⟨k+1,by omega,by go_num,by rw[p.out],I.out⟩
       case measure=>simp[intOf];omega
  ·have d2:k=n:=by omega
   subst d2;have d3:=U.out;subst d3
   go_wp2
   go_ret;exact⟨rfl,d.out⟩
theorem Rq(rs:List Rd.qa)(k:Nat)(r:Rd.qa)(h:rs[k]?=some r):Ref.kY rs (k+1)=Ref.XC (Ref.comma (Ref.kY rs k) k) r:=by
 rw[Ref.kY,zY,h];rfl
theorem yQ.slice{w:World}{base:Nat}{lv:Value}{rs:List Rd.qa}(h:yQ w base lv rs):∃a c,lv = .slice a rs.length c:=by
 obtain⟨xs,h,_⟩:=h
 rcases h.2 with ⟨rfl,h0⟩|⟨g,c,cur,rfl,_⟩
 ·exact⟨_,_,by rw[h0]⟩
 ·exact⟨_,_,rfl⟩
theorem Ny(rs:List Rd.qa)(lv:Value)(base:Nat)(w:World)(h:yQ w base lv rs)(hn:rs.length<=10)(hS:∀r ∈ rs,Ref.ky r) :
  Calls prog 83 #[lv] w λe w'=>e = .returned (.string (Ref.QV rs))/\Below w.heap.size w w':=by
 obtain⟨a,cc,rfl⟩:=h.slice;obtain⟨xs,hx,hc⟩:=h;obtain⟨n,p⟩:=Nm rs.length
 have u:∀(k:Nat) (x:Rd.qa),rs[k]?=some x->∃m l1 l2 l3 lc,a=some ⟨m,0,none⟩/\(w.cell? ⟨m,k*8,none⟩=some (.string x.eff)/\w.cell? ⟨m,k*8+1,none⟩=some (.bool x.who.1)/\w.cell? ⟨m,k*8+2,none⟩=some l1/\w.cell? ⟨m,k*8+3,none⟩=some (.bool x.act.1)/\w.cell? ⟨m,k*8+4,none⟩=some l2/\w.cell? ⟨m,k*8+5,none⟩=some (.bool x.on.1)/\w.cell? ⟨m,k*8+6,none⟩=some l3/\w.cell? ⟨m,k*8+7,none⟩=some lc)/\vS w base l1 l2 l3 lc x:=by
  intro k x e0;have hk:k<rs.length:=(zR.1 e0).1;have hl:xs.length=rs.length*8:=hx.1
  rcases hx.2 with ⟨e,h0⟩|⟨m,cap,cur,e,_⟩
  ·omega
  ·have l:∀i,i<rs.length*8->w.cell? ⟨m,i,none⟩=xs[i]?:=λi hi=>World.ownsRow.cellAt (g:=m) (cap:=cap) (by rw[<- e];exact hx) i (by omega);injection e with e1 e2 e3
   obtain⟨l1,l2,l3,lc,h0,h1,h2,h3,h4,h5,h6,h7,hR⟩:=hc k hk;have k3:rs[k]=x:=(zR.1 e0).2;rw[k3] at h0 h1 h3 h5 hR;exact⟨m,l1,l2,l3,lc,e1,⟨(l _ (by omega)).trans h0,(l _ (by omega)).trans h1,(l _ (by omega)).trans h2,(l _ (by omega)).trans h3,(l _ (by omega)).trans h4,(l _ (by omega)).trans h5,(l _ (by omega)).trans h6,(l _ (by omega)).trans h7⟩,hR⟩
 obtain⟨R,hR⟩:=Nm (Ref.QV rs);rw[hR];obtain⟨O,hO⟩:∃O:Nat->BY,Ref.kY rs=O:=⟨_,rfl⟩;have d8:∀k,k<=n->(O k).size<=11000000*k+20:=λk hk=>by rw[<- hO];exact Ref.sI rs hS k (by rw[p];exact hk)
 have y:∀k c,rs[k]?=some c->O (k+1)=Ref.XC (Ref.comma (O k) k) c:=λk c j7=>by rw[<- hO];exact Rq rs k c j7
 have c1:R=O n++⟨#[93,125]⟩:=by rw[<- hR,<- hO,<- p];rfl
 have O0:O 0=⟨#[123,34,115,116,97,116,101,109,101,110,116,34,58,91]⟩:=by rw[<- hO];rfl
 rw[p] at hn;have HC:=hid u;have HN:=hid p;have HZ:=hid d8;have b7:=hid y;have b9:=hid c1;have b8:=hid O0;have HS:=hid hS;rw[p];clear u p hx hc d8 y c1 O0 hR hO hS;go_enter func83,ntmps83
 go_wp2
 go_loopw [3,4] (λov iv wr=>∃k:Nat,k<=n/\iv = .int .i64 k/\ov = .string (O k)/\Below w.heap.size w wr) (λ_ iv _=>n-(intOf iv).toNat)
 case atStart=>exact⟨0,zG _,rfl,by rw[b8.out],zf _ _⟩
 case round=>
  obtain⟨k,hk,rfl,rfl,a4⟩:=hrel;have d:=hid a4;have z:=HZ.out k hk;have r5:11000000*k<=11000000*10:=Nat.mul_le_mul_left _ (by omega);clear a4 b8
  by_cases hlt:k<n
  ·have c5:k<rs.length:=by rw[HN.out];exact hlt
   have b2:=zn c5;obtain⟨m,l1,l2,l3,lc,rfl,⟨q0,q1,q2,q3,q4,q5,q6,q7⟩,oR⟩:=HC.out k _ b2;have j:=b7.out k _ b2;have d7:=HS.out _ (xB c5);obtain⟨c,l⟩:=Nm (rs[k]);rw[l] at q0 q1 q3 q5 oR j d7;obtain⟨eff,⟨D,L1⟩,⟨E,L2⟩,⟨F,L3⟩,cs,o9,o8⟩:=c;obtain⟨a0,a1,a2,a3⟩:=oR;obtain⟨s0,s1,s2,s3,s4,s5⟩:=d7;simp only at q0 q1 q3 q5 a0 a1 a2 a3 j s0 s1 s2 s3 s4 s5;obtain⟨M,S,rfl⟩:=yt a0;obtain⟨N,T,rfl⟩:=yt a1;obtain⟨P,U,rfl⟩:=yt a2;obtain⟨Q,V,rfl⟩:=a3.slice;have p0:=zi d.out q0;have p1:=zi d.out q1;have p2:=zi d.out q2;have p3:=zi d.out q3;have p4:=zi d.out q4;have p5:=zi d.out q5;have p6:=zi d.out q6;have p7:=zi d.out q7;have CQ:=hid (λW=>cZ eff W (show eff.size<=12000 by omega));have CA:=hid (λW (hb:Below w.heap.size w W)=>K6 D L1 _ base W (ownsRow_below a0 hb) s1.1 s1.2);have CB:=hid (λW (hb:Below w.heap.size w W)=>K6 E L2 _ base W (ownsRow_below a1 hb) s2.1 s2.2);have CC:=hid (λW (hb:Below w.heap.size w W)=>K6 F L3 _ base W (ownsRow_below a2 hb) s3.1 s3.2);have CD:=hid (λW (hb:Below w.heap.size w W)=>Cf cs _ base W (a3.kept (λi _ hl=>hb.block i hl)) s4 s5);have y0:(Ref.zV eff).size<=100000:=by have:=Ref.ut eff;omega
   have y1:(Ref.chosenB D L1).size<=900020:=Ref.Zh (c:=(D,L1)) s1;have y2:(Ref.chosenB E L2).size<=900020:=Ref.Zh (c:=(E,L2)) s2;have y3:(Ref.chosenB F L3).size<=900020:=Ref.Zh (c:=(F,L3)) s3
   have y4:(Ref.ZI cs).size<=6500000:=by
    have h2:=Ref.V3 cs s5 cs.length (ze _);unfold Ref.ZI;omega
   have c3:=Ref.VZ (O k) k;obtain⟨o,ho⟩:=Nm (O k);rw[ho] at j c3 z |-;have d2:(Ref.comma o k).size<=120000000:=by omega
   have d3:o.size<=120000000:=by omega
   unfold Ref.XC Ref.Jc Ref.Ym at j;simp only at j;have d4:Ref.ul (D,L1)=Ref.chosenB D L1:=rfl;have d5:Ref.ul (E,L2)=Ref.chosenB E L2:=rfl;have d6:Ref.ul (F,L3)=Ref.chosenB F L3:=rfl;rw[d4,d5,d6] at j;obtain⟨QE,L⟩:∃x,Ref.zV eff=x:=⟨_,rfl⟩;obtain⟨G1,G⟩:∃x,Ref.chosenB D L1=x:=⟨_,rfl⟩;obtain⟨G2,H⟩:∃x,Ref.chosenB E L2=x:=⟨_,rfl⟩;obtain⟨G3,I⟩:∃x,Ref.chosenB F L3=x:=⟨_,rfl⟩;obtain⟨G4,J⟩:∃x,Ref.ZI cs=x:=⟨_,rfl⟩;rw[L,G,H,I,J] at j;rw[L] at y0;rw[G] at y1;rw[H] at y2;rw[I] at y3;rw[J] at y4;simp only[L] at CQ;simp only[G] at CA;simp only[H] at CB;simp only[I] at CC;simp only[J] at CD;obtain⟨n1,c7⟩:∃v,L1.length=v:=⟨_,rfl⟩;obtain⟨n2,c8⟩:∃v,L2.length=v:=⟨_,rfl⟩;obtain⟨n3,c9⟩:∃v,L3.length=v:=⟨_,rfl⟩;obtain⟨Z,d0⟩:∃v,cs.length=v:=⟨_,rfl⟩;rw[c7] at p2 CA;rw[c8] at p4 CB;rw[c9] at p6 CC;rw[d0] at p7 CD j s4;have q:=hid j;have k0:(0:Int)<=(k:Int):=zZ _;have k1:(k:Int)<(n:Int):=by omega
   clear q0 q1 q2 q3 q4 q5 q6 q7 a0 a1 a2 a3 b2 l HC b7 HZ b9 HN HS ho j L G H I J c7 c8 c9 d0 d4 d5 d6 s0 s1 s2 s3 s5 z c3
   go_upto_if 13 with fail
   go_cut [3] from 6 to 53 (λs wx=>s = .string (Ref.comma o k)/\wx=wr)
   case first=>
    by_cases hk0:0<k
    ·have b4:decide (0<k)=true:=zC hk0;rw[b4];go_wp2_with fail
     go_meet
     case rel=>exact⟨by unfold Ref.comma;rw[zb hk0],rfl⟩
    ·have b4:decide (0<k)=false:=zO hk0;rw[b4];go_wp2_with fail
     go_meet
     case rel=>exact⟨by unfold Ref.comma;rw[za hk0],rfl⟩
   case rest=>
    obtain⟨rfl,d9⟩:=hcut;rw[d9];clear d9;obtain⟨o1,d1⟩:∃x,Ref.comma o k=x:=⟨_,rfl⟩;rw[d1] at q d2 |-;clear d1;obtain⟨A,hA⟩:=Nm (wr.alloc (.cells #[.string eff,.bool D,.slice M n1 S,.bool E,.slice N n2 T,.bool F,.slice P n3 U,.slice Q Z V] 249));have t:=zQ wr (.cells #[.string eff,.bool D,.slice M n1 S,.bool E,.slice N n2 T,.bool F,.slice P n3 U,.slice Q Z V] 249);have b0:Below w.heap.size w A:=by rw[<- hA];exact d.out.alloc d.out.size _
    rw[hA] at t;have c6:wr.heap.size<A.heap.size:=zy t;have f0:∀X:Grown A,X.w.cell? ⟨wr.heap.size,0,none⟩=some (.string eff):=λX=>zi X.b (zg t 0).1;have f1:∀X:Grown A,X.w.cell? ⟨wr.heap.size,1,none⟩=some (.bool D):=λX=>zi X.b (zg t 1).1;have f2:∀X:Grown A,X.w.cell? ⟨wr.heap.size,2,none⟩=some (.slice M n1 S):=λX=>zi X.b (zg t 2).1;have f3:∀X:Grown A,X.w.cell? ⟨wr.heap.size,3,none⟩=some (.bool E):=λX=>zi X.b (zg t 3).1;have f4:∀X:Grown A,X.w.cell? ⟨wr.heap.size,4,none⟩=some (.slice N n2 T):=λX=>zi X.b (zg t 4).1;have f5:∀X:Grown A,X.w.cell? ⟨wr.heap.size,5,none⟩=some (.bool F):=λX=>zi X.b (zg t 5).1;have f6:∀X:Grown A,X.w.cell? ⟨wr.heap.size,6,none⟩=some (.slice P n3 U):=λX=>zi X.b (zg t 6).1;have f7:∀X:Grown A,X.w.cell? ⟨wr.heap.size,7,none⟩=some (.slice Q Z V):=λX=>zi X.b (zg t 7).1;have B:∀X:Grown A,Below w.heap.size w X.w:=λX=>b0.trans (X.b.mono b0.size);have HQ:Hid (∀X:Grown A,Calls prog 131 #[.string eff] X.w λe f=>e = .returned (.string QE)/\∃Y:Grown A,f=Y.w):=hid (λX=>(CQ.out X.w).mono (λe f ⟨he,hb⟩=>⟨he,⟨f,Below.on X.b hb (ze _)⟩,rfl⟩));have H1:Hid (∀X:Grown A,Calls prog 132 #[.agg #[.bool D,.slice M n1 S]] X.w λe f=>e = .returned (.string G1)/\∃Y:Grown A,f=Y.w):=hid (λX=>(CA.out X.w (B X)).mono (λe f ⟨he,hb⟩=>⟨he,⟨f,Below.on X.b hb (ze _)⟩,rfl⟩));have H2:Hid (∀X:Grown A,Calls prog 132 #[.agg #[.bool E,.slice N n2 T]] X.w λe f=>e = .returned (.string G2)/\∃Y:Grown A,f=Y.w):=hid (λX=>(CB.out X.w (B X)).mono (λe f ⟨he,hb⟩=>⟨he,⟨f,Below.on X.b hb (ze _)⟩,rfl⟩));have H3:Hid (∀X:Grown A,Calls prog 132 #[.agg #[.bool F,.slice P n3 U]] X.w λe f=>e = .returned (.string G3)/\∃Y:Grown A,f=Y.w):=hid (λX=>(CC.out X.w (B X)).mono (λe f ⟨he,hb⟩=>⟨he,⟨f,Below.on X.b hb (ze _)⟩,rfl⟩));have NE:Nonempty (Grown A):=⟨⟨A,zf _ _⟩⟩;have bA:Below A.heap.size A A.drew:=(zf _ A).drew;have UP:=hid B;clear t B CQ CA CB CC
    go_upto_region 8 with fail
    clear p0 p1 p2 p3 p4 p5 p6 p7
    go_cut [3] from 6 to 53 (λs wx=>s = .string (o1++⟨#[123,34,101,102,102,101,99,116,34,58]⟩++QE++⟨#[44,34,119,104,111,34,58]⟩++G1++⟨#[44,34,100,111,34,58]⟩++G2++⟨#[44,34,111,110,34,58]⟩++G3)/\Below A.heap.size A wx)
    case first=>
     refine wp_region_quiet (C:=λW'=>∃X:Grown A,W'=X.w) (by kernel_rfl) (by kernel_rfl) ⟨⟨_,bA⟩,rfl⟩ ?_;simp only
     iterate 5 (go_big_quiet_step (exact HQ.out _))
     iterate 5 (go_big_quiet_step (exact H1.out _))
     iterate 5 (go_big_quiet_step (exact H2.out _))
     iterate 7 (go_big_quiet_step (exact H3.out _))
     refine wpQuiet_nil ?_;intro w' k2;obtain⟨X,rfl⟩:=k2;go_wp2_with fail
     go_meet
     case rel=>exact⟨rfl,X.b⟩
    case rest=>
     obtain⟨rfl,b1⟩:=hcut;have r7:wc.cell? ⟨wr.heap.size,7,none⟩=some (.slice Q Z V):=f7 ⟨wc,b1⟩;have a5:Hid (Below w.heap.size w wc):=UP.out ⟨wc,b1⟩;have i6:=hid (CD.out wc a5.out);obtain⟨Hd,K⟩:∃x,(o1++⟨#[123,34,101,102,102,101,99,116,34,58]⟩++QE++⟨#[44,34,119,104,111,34,58]⟩++G1++⟨#[44,34,100,111,34,58]⟩++G2++⟨#[44,34,111,110,34,58]⟩++G3:BY)=x:=⟨_,rfl⟩
     have r9:Hd.size<=140000000:=by
      have z1:(⟨#[123,34,101,102,102,101,99,116,34,58]⟩:BY).size=10:=rfl;have z2:(⟨#[44,34,119,104,111,34,58]⟩:BY).size=7:=rfl;have z3:(⟨#[44,34,100,111,34,58]⟩:BY).size=6:=rfl;have z4:(⟨#[44,34,111,110,34,58]⟩:BY).size=6:=rfl;rw[<- K];simp only[zJ];omega
     have j:=q.out;rw[K] at j;have HF:=hid j;rw[K];clear b1 f0 f1 f2 f3 f4 f5 f6 f7 HQ H1 H2 H3 bA UP CD d2 d3 K j q y0 y1 y2 y3 hA b0 c6
     by_cases hn0:0<Z
     ·have dn:decide (0<(Z:Int))=true:=by simp;omega
      have i9:decide (0<Z)=true:=zC hn0;have hF:=HF.out;rw[zb hn0] at hF;have a6:=hid hF;clear hF HF
      go_wp2_with (go_at_call 133;refine i6.out.mono ?_;rintro e w5 ⟨rfl,c2⟩;have i5:=hid (Below.on a5.out c2 (ze _));clear c2)
      go_roundw
      case rel=>exact⟨k+1,by omega,by go_num,by rw[a6.out],i5.out⟩
      case measure=>simp[intOf];omega
     ·have dn:decide (0<(Z:Int))=false:=by simp;omega
      have i9:decide (0<Z)=false:=zO hn0;have hF:=HF.out;rw[za hn0] at hF;have a6:=hid hF;clear hF HF;go_wp2_with fail
      go_roundw
      case rel=>exact⟨k+1,by omega,by go_num,by rw[a6.out],a5.out⟩
      case measure=>simp[intOf];omega
  ·have j8:k=n:=by omega
   subst j8;have j9:=b9.out;have hz:(O k).size<=120000000:=by omega
   subst j9;obtain⟨o,ho⟩:=Nm (O k);rw[ho] at hz |-;have i7:=hid ho;clear ho
   go_wp2
   go_ret;exact⟨by rw[i7.out];rfl,d.out⟩
theorem Rp{ns:List Ref.Node}{k:Nat}{v:Rd.V}(h:Rd.Rep ns k v)(a:(Rd.jX v).1=0):Vg ns k=(qo (stX v)).map Rd.xP:=by
 obtain⟨r,d⟩:=Rd.Vf h;unfold Vg;rw[d];simp only
 match v,h with
 | .str s,_=>simp[Rd.jX] at a
 | .word b,_=>simp[Rd.jX] at a
 | .list l,_=>simp[Rd.jX] at a
 | .obj ms,h=>
  simp only[Rd.jX] at a;have c:=Rd.ZM h d Rd.yF
  rcases c with ⟨c,_⟩|⟨x,kk,c,hk,hx⟩
  ·rw[c] at a;simp at a
  ·rw[hk];simp only[xQ];rw[c] at a
   match x,hx with
   | .str s,_=>simp at a
   | .word b,_=>simp at a
   | .obj l,_=>simp at a
   | .list vs,hx=>
    have i:qo (stX (.obj ms))=vs:=by simp[qo,stX,c]
    rw[i]
    cases hx with
    | list _ n _ e j m f o g=>
     rw[e];exact Rd.dJ ns vs n.kids f g
theorem Ox(text:BY)(h:(Rd.xe text).1=0):UJ text=jH text:=by
 unfold UJ jH;obtain⟨R,b⟩:=Nm (qC text);rw[b];unfold qC at b;unfold Rd.xe at h
 by_cases h1:4000<text.size
 ·rw[zb h1] at h;simp at h
 rw[za h1] at h b;rw[za h1];have d:=Rd.rE text.data.toList;obtain⟨Q,f⟩:=Nm (Ref.run Ref.init text.data.toList 0);rw[f] at b
 cases hm:Rd.yC text.data.toList with
 | ok v p=>
  rw[hm] at d h;simp only at d h |-;obtain⟨m,a,k,j,i,c⟩:=d;unfold Rd.verdict at a;rw[List.drop_zero,f] at a
  by_cases c1:Q.1≠0
  ·rw[zb c1] at a;rw[a] at c1;exact absurd rfl c1
  rw[za c1] at a b
  by_cases c2:Q.2.2.state≠6\/Q.2.2.opn≠[]
  ·rw[zb c2] at a;simp at a
  rw[za c2] at a b;subst b;simp only[a,i];exact Rp c h
 | err e q=>
  rw[hm] at h;have g:=Rd.UH hm;unfold Rd.Code at g;simp only at h;omega
end Go.Proofs.YtagnlbgbnfnapaaGreatDoor
