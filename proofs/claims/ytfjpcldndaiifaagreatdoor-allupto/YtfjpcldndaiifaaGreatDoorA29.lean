/- P -/
import Derived.Test.YtfjpcldndaiifaaGreatDoorA28
import Derived.Test.YtfjpcldndaiifaaGreatDoorA17
open Go.Proofs.Tryz
set_option maxRecDepth 100000
set_option maxHeartbeats 4000000
namespace Go.Proofs.YtfjpcldndaiifaaGreatDoor
open Go.RowKit
theorem nP(s:BY)(w:J)(E:s.size<=12000):R8 77 #[S9 s] w (G5 (.string (U.qh s)) w):=by
 obtain⟨R,j⟩:=Nm (U.qh s);rw[j];have i:=G7 j;clear j;go_enter func77,ntmps77;go_wp2;obtain⟨O,g⟩:∃O:Nat->BY,U.uU s=O:=⟨_,rfl⟩;have d:∀k,(O k).size<=1+6*k:=λk=>by rw[<- g];exact U.KW s k
 have⟨f,b⟩:=D5 g d;have p:G6 (O 0=⟨#[34]⟩):=by rw[<- g];rfl
 clear g d
 go_loopw [4,5] (λy l wr=>∃k:Nat,k<=s.size/\l=R9 k/\y=S9 (O k)/\BQ w wr) (λ_ l _=>s.size-(intOf l).toNat)
 case atStart=>exact⟨0,zD _,rfl,by rw[p.o],zf _ _⟩
 case round=>
  obtain⟨k,D,rfl,rfl,a⟩:=hrel;have z:=b.o k;obtain⟨o,c⟩:=Nm (O k);rw[c]at z |-
  by_cases hlt:k<s.size
  ·have m:G6 (O (k+1)=U.Jq s o k (s[k].toNat:Int)):=by rw[<- c,<- f.o];exact U.EK s k hlt
   have b0:(0:Int)<=(s[k].toNat:Int):=U.b0 _;have B:(s[k].toNat:Int)<=255:=U.ig _;clear c f b p i
   by_cases h:32<=(s[k].toNat:Int)\/(s[k].toNat:Int)=10\/(s[k].toNat:Int)=9
   ·have r:=G7 h;clear h;go_wp2
    all_goals first
     | (exfalso;have h:=r.o;simp only[vC,qY,ne_eq]at *;omega)
     | (go_roundw
        case rel=>
         refine⟨k+1,by omega,by go_num,?_,a⟩;rw[m.o]
         try simp only[vC,qY,ne_eq]at *
         unfold U.Jq
         first
          | rw[N9]
          | rw[N8,N9]
          | rw[N8,N8,N9]
          | rw[N8,N8,N8,N8]
        case measure=>simp[intOf];omega)
   have v:((s[k].toNat:Int)==34)=false:=by simp;omega
   have x:((s[k].toNat:Int)==92)=false:=by simp;omega
   have t:((s[k].toNat:Int)==10)=false:=by simp;omega
   have C:((s[k].toNat:Int)==9)=false:=by simp;omega
   have u:decide ((s[k].toNat:Int)<32)=true:=by simp;omega
   have n:G6 (O (k+1)=o++⟨#[92,117,48,48]⟩++U.hexDigits.extract ((s[k].toNat:Int) / 16).toNat (((s[k].toNat:Int) / 16).toNat+1)++U.hexDigits.extract ((s[k].toNat:Int) % 16).toNat (((s[k].toNat:Int) % 16).toNat+1)):=by
    rw[m.o];unfold U.Jq;rw[N8,N8,N8,N9];rfl
   clear m h;go_wp2_with fail;go_region
   all_goals
    go_wp2;go_roundw
    case rel=>
     have d1:((s[k].toNat:Int) / 16).toNat=s[k].toNat / 16:=by omega
     have d2:((s[k].toNat:Int) % 16).toNat=s[k].toNat % 16:=by omega
     have q:=n.o;rw[d1,d2]at q;exact⟨k+1,by omega,by go_num,by rw[q];rfl,a.drew⟩
    case measure=>simp[intOf];omega
  have e:R=o++⟨#[34]⟩:=by rw[<- i.o,<- c,<- f.o,U.qh,show k=s.size by omega]
  subst e;clear i f c;go_wp2;go_ret;exact⟨rfl,a⟩
theorem EM(s q:BY)(w:J)(b:s.size<=12000)(a:U.qh s=q):R8 77 #[S9 s] w (G5 (.string q) w):=by
 subst a;exact nP s w b
theorem Cq(l:List BY)(H:Y)(base:Nat)(w:J)(h:w.ownsRow base 9 1 H l.length (U.strCells l))(Q:l.length<=10)(m:∀s ∈ l,s.size<=12000):R8 131 #[H] w (G5 (.string (U.listedB l)) w):=by
 obtain⟨R,u⟩:=Nm (U.listedB l);rw[u];obtain⟨S,T,rfl,F⟩:=jU h;have⟨t,I,f⟩:=M4 u F m;clear u F m h;obtain⟨O,p⟩:∃O:Nat->BY,U.listedTo l=O:=⟨_,rfl⟩;have c:∀k,(O k).size<=1+80000*k:=λk=>by rw[<- p];exact U.listedTo_size l f.o k
 have⟨n,C⟩:=D5 p c;have E:G6 (O 0=⟨#[91]⟩):=by rw[<- p];rfl
 clear p c;go_enter func131,ntmps131;go_wp2
 go_loopw [3,4] (λK y wr=>∃k:Nat,k<=l.length/\y=R9 k/\K=S9 (O k)/\BQ w wr) (λ_ y _=>l.length-(intOf y).toNat)
 case atStart=>exact⟨0,zD _,rfl,by rw[E.o],zf _ _⟩
 case round=>
  obtain⟨k,P,rfl,rfl,a⟩:=hrel;have z:=C.o k;obtain⟨o,i⟩:=Nm (O k);rw[i]at z |-
  by_cases hlt:k<l.length
  ·obtain⟨g,rfl,A⟩:=I.o k hlt;rw[U.JE l k hlt]at A;have L:=zi a A;have b:=f.o l[k] (qm hlt);have r:O (k+1)=(if 0<k then o++⟨#[44]⟩ else o)++U.qh l[k]:=by rw[<- i,<- n.o];exact U.zaw l k hlt
   have j:=U.Z0 l[k];obtain⟨s,G⟩:=Nm (l[k]);rw[G]at L b r j;obtain⟨q,x⟩:=Nm (U.qh s);rw[x]at r j;have⟨D,B⟩:=D5 r x;clear i n C E t r x A G
   by_cases hk0:0<k
   ·have v:decide (0<(k:Int))=true:=P5;go_wp2_with(go_at_call 77;apply(EM s q _ b B.o).mono;rintro e N⟨rfl,d⟩);go_roundw
    case rel=>exact⟨k+1,by omega,by go_num,by rw[D.o,zb hk0],a.trans (d.mono a.size)⟩
    case measure=>simp[intOf];omega
   have v:decide (0<(k:Int))=false:=P6;go_wp2_with(go_at_call 77;apply(EM s q _ b B.o).mono;rintro e N⟨rfl,d⟩);go_roundw
   case rel=>exact⟨k+1,by omega,by go_num,by rw[D.o,za hk0],a.trans (d.mono a.size)⟩
   case measure=>simp[intOf];omega
  have e:R=o++⟨#[93]⟩:=by rw[<- t.o,<- i,<- n.o,U.listedB,show k=l.length by omega]
  subst e;clear t n i;go_wp2;go_ret;exact⟨rfl,a⟩
def U.chosenB(a:Bool)(l:List BY):BY:=if a then ⟨#[123,34,110,111,116,34,58]⟩++U.listedB l++⟨#[125]⟩ else U.listedB l
theorem U.listedB_size(l:List BY)(a:l.length<=10)(h:∀s ∈ l,s.size<=12000):(U.listedB l).size<=900000:=by
 have:=U.listedTo_size l h l.length
 have z:(⟨#[93]⟩:BY).size=1:=rfl;rw[U.listedB,zV];omega
theorem iM(i:Bool)(l:List BY)(c:Y)(base:Nat)(w:J)(h:w.ownsRow base 9 1 c l.length (U.strCells l))(m:l.length<=10)(b:∀s ∈ l,s.size<=12000):R8 78 #[.agg #[.bool i,c]] w (G5 (.string (U.chosenB i l)) w):=by
 have o:=U.listedB_size l m b;have g:∀O:Obj,BQ w (w.alloc O):=λO=>nbl _ O
 have f:G6 (∀O:Obj,R8 131 #[c] (w.alloc O) λe j=>e=.returned (.string (U.listedB l))/\Below (w.alloc O).heap.size (w.alloc O) j):=
  λO=>Cq l c base _ (ownsRow_below h (g O)) m b
 have k:=G7 g;obtain⟨q,n⟩:=Nm (U.listedB l);unfold U.chosenB;rw[n]at f o |-;obtain⟨r,t,rfl,_⟩:=jU h;clear h n b g
 cases i with
 | true=>
  rw[zb rfl];go_enter func78,ntmps78;go_wp2_with fail;apply(f.o _).mono;rintro e p⟨rfl,a⟩;have d:=G7 ((k.o _).trans (a.mono (by simp)));clear a;go_wp2;go_ret;exact⟨rfl,d.o⟩
 | false=>
  rw[za (by simp)];go_enter func78,ntmps78;go_wp2_with fail;apply(f.o _).mono;rintro e p⟨rfl,a⟩;have d:=G7 ((k.o _).trans (a.mono (by simp)));clear a;go_wp2;go_ret;exact⟨rfl,d.o⟩
theorem Below.on{B:Nat}{a b c:J}(h:Below B a b)(k:BQ b c)(d:B<=a.heap.size):Below B a c:=h.trans (k.mono (xD d h.size))
structure Grown (A:J) where
 w:J
 b:BQ A w
theorem Nj(cs:List U.qz)(k:Nat)(c:U.qz)(h:cs[k]?=some c):U.QJ cs (k+1)=U.Jk (U.comma (U.QJ cs k) k) c:=by
 rw[U.QJ,zT,h];rfl
theorem Nc(cs:List U.qz)(lv:Y)(base:Nat)(w:J)(h:yA w base lv cs)(hn:cs.length<=5)(hS:∀c ∈ cs,U.Jc c):R8 79 #[lv] w (G5 (.string (U.Xh cs)) w):=by
 obtain⟨a,cc,rfl⟩:=h.slice;obtain⟨xs,hx,hc⟩:=h;obtain⟨n,u⟩:=Nm cs.length
 have D:∀(k:Nat) (x:U.qz),cs[k]?=some x->∃p lx,a=some (G8 p 0)/\(w.cell? (G8 p (k*4))=some (S9 x.op)/\w.cell? (G8 p (k*4+1))=some (S9 x.key)/\w.cell? (G8 p (k*4+2))=some lx/\w.cell? (G8 p (k*4+3))=some (.bool x.no))/\w.ownsRow base 9 1 lx x.vals.length (U.strCells x.vals):=by
  intro k x b6;have hk:k<cs.length:=(zU.1 b6).1;have hl:xs.length=cs.length*4:=hx.1
  rcases hx.2 with⟨e,h0⟩|⟨p,cap,cur,e,_⟩
  ·omega
  have t:∀i,i<cs.length*4->w.cell? (G8 p i)=xs[i]?:=λi hi=>World.ownsRow.cellAt (g:=p) (cap:=cap) (by rw[<- e];exact hx) i (by omega);injection e with e1 e2 e3
  obtain⟨lx,h0,h1,h2,h3,h4⟩:=hc k hk;have e5:cs[k]=x:=(zU.1 b6).2;rw[e5]at h0 h1 h3 h4;exact⟨p,lx,e1,⟨(t _ (by omega)).trans h0,(t _ (by omega)).trans h1,(t _ (by omega)).trans h2,(t _ (by omega)).trans h3⟩,h4⟩
 obtain⟨R,hR⟩:=Nm (U.Xh cs);rw[hR];obtain⟨O,hO⟩:∃O:Nat->BY,U.QJ cs=O:=⟨_,rfl⟩;have b4:∀k,k<=n->(O k).size<=1300000*k:=λk hk=>by rw[<- hO];exact U.bP cs hS k (by rw[u];exact hk)
 have E:∀k c,cs[k]?=some c->O (k+1)=U.Jk (U.comma (O k) k) c:=λk c d7=>by rw[<- hO];exact Nj cs k c d7
 have a9:R=O n:=by rw[<- hR,<- hO,<- u];rfl
 have O0:O 0=⟨#[]⟩:=by rw[<- hO];rfl
 rw[u]at hn;have⟨HC,HN,HZ,V,a5,a4,HS⟩:=M8 D u b4 E a9 O0 hS;rw[u];clear D u hx hc b4 E a9 O0 hR hO hS;go_enter func79,ntmps79;go_wp2
 go_loopw [3,4] (λov iv wr=>∃k:Nat,k<=n/\iv=R9 k/\ov=S9 (O k)/\BQ w wr) (λ_ iv _=>n-(intOf iv).toNat)
 case atStart=>exact⟨0,zD _,rfl,by rw[a4.o],zf _ _⟩
 case round=>
  obtain⟨k,hk,rfl,rfl,I⟩:=hrel;have d:=G7 I;have z:=HZ.o k hk;clear I a4
  by_cases hlt:k<n
  ·have b1:k<cs.length:=by rw[HN.o];exact hlt
   have M:=zn b1;obtain⟨p,lx,rfl,⟨q0,q1,q2,q3⟩,o4⟩:=HC.o k _ M;have f:=V.o k _ M;have Q:=HS.o _ (qm b1);obtain⟨c,t⟩:=Nm (cs[k]);rw[t]at q0 q1 q3 o4 f Q;obtain⟨la,lc,rfl⟩:=jb o4;obtain⟨op,key,m,no,d2,d1⟩:=c;simp only at q0 q1 q2 q3 o4 f Q;obtain⟨s1,s2,s3,s4⟩:=Q;simp only at s1 s2 s3 s4;have p0:=zi d.o q0;have p1:=zi d.o q1;have p2:=zi d.o q2;have p3:=zi d.o q3;have CL:=G7 (λW (hb:BQ w W)=>Cq m _ base W (ownsRow_below o4 hb) s3 s4);have G:=(U.wL (U.comma (O k) k) (c:=⟨op,key,m,no,d2,d1⟩) ⟨s1,s2,s3,s4⟩);have N:=U.bO (O k) k;obtain⟨o,ho⟩:=Nm (O k);rw[ho]at f G N z |-;have A:=G7 f;have lz:=U.Ug (l:=m) ⟨s3,s4⟩;obtain⟨vl,e0⟩:=Nm m.length;rw[e0]at p2 CL
   have b3:(U.comma o k).size<=10000000:=by
    have:1300000*k<=1300000*5:=Nat.mul_le_mul_left _ (by omega)
    omega
   have k0:(0:Int)<=(k:Int):=qd _;have k1:(k:Int)<(n:Int):=by omega
   clear q0 q1 q2 q3 o4 M t HC V HZ a5 HN HS ho f
   go_upto_if 12 with fail
   go_cut [3] from 5 to 55 (λs wx=>s=S9 (U.comma o k)/\wx=wr)
   case first=>
    by_cases hk0:0<k
    ·have P:decide (0<k)=true:=zB hk0;rw[P];go_wp2_with fail
     go_meet
     case rel=>exact⟨by unfold U.comma;rw[zb hk0],rfl⟩
    have P:decide (0<k)=false:=zI hk0;rw[P];go_wp2_with fail
    go_meet
    case rel=>exact⟨by unfold U.comma;rw[za hk0],rfl⟩
   case rest=>
    obtain⟨rfl,b5⟩:=hcut;rw[b5];clear b5;have y1:=U.Z0 op;have y2:=U.Z0 key;obtain⟨o1,b2⟩:=Nm (U.comma o k);rw[b2]at A G N b3 |-;have a0:wr.drew.cell? (G8 p (k*4))=some (S9 op):=p0;have a1:wr.drew.cell? (G8 p (k*4+1))=some (S9 key):=p1;have a2:wr.drew.cell? (G8 p (k*4+2))=some (TL la vl lc):=p2;have a3:wr.drew.cell? (G8 p (k*4+3))=some (.bool no):=p3;have bA:BQ wr wr.drew:=(zf _ wr).drew;clear b2
    go_upto_region 7 with fail
    go_cut [3] from 5 to 55 (λs wx=>s=S9 (o1++⟨#[123,34,111,112,34,58]⟩++U.qh op++⟨#[44,34,107,101,121,34,58]⟩++U.qh key)/\BQ wr wx)
    case first=>
     have f0:∀X:Grown wr,X.w.cell? (G8 p (k*4))=some (S9 op):=λX=>zi X.b p0;have f1:∀X:Grown wr,X.w.cell? (G8 p (k*4+1))=some (S9 key):=λX=>zi X.b p1
     have HQ:G6 (∀(s:BY) (X:Grown wr),s.size<=12000->R8 77 #[S9 s] X.w λe S=>e=.returned (.string (U.qh s))/\∃d0:Grown wr,S=d0.w):=
      G7 (λs X hs=>(nP s X.w hs).mono (λe S ⟨he,hb⟩=>⟨he,⟨S,Below.on X.b hb F7⟩,rfl⟩))
     clear a0 a1 a2 a3;have NE:Nonempty (Grown wr):=⟨⟨wr,zf _ _⟩⟩;refine pI (C:=λW'=>∃X:Grown wr,W'=X.w) (by kernel_rfl) (by kernel_rfl) ⟨⟨_,bA⟩,rfl⟩ ?_;simp only
     repeat (go_big_quiet_step (first|exact HQ.o _ _ s1|exact HQ.o _ _ s2))
     refine wpQuiet_nil ?_;intro w' e4;obtain⟨X,rfl⟩:=e4;go_wp2_with fail
     go_meet
     case rel=>exact⟨rfl,X.b⟩
    case rest=>
     obtain⟨rfl,B⟩:=hcut;have r0:=zi B p0;have r2:=zi B p2;have r3:=zi B p3;have y:G6 (BQ w wc):=d.o.trans (B.mono d.o.size);have L:=G7 (CL.o wc y.o);obtain⟨Hd,F⟩:=Nm ((o1++⟨#[123,34,111,112,34,58]⟩++U.qh op++⟨#[44,34,107,101,121,34,58]⟩++U.qh key:BY))
     have i7:Hd.size<=20000000:=by
      have h8:=G.1;unfold U.Xg at h8;rw[F]at h8;omega
     have f:=A.o;unfold U.Jk U.VZ U.Jl U.Xg at f;simp only at f;rw[F]at f;have T:=G7 f;obtain⟨LB,a7⟩:=Nm (U.listedB m);rw[a7]at lz L T;rw[F];clear B p0 p1 p2 p3 a0 a1 a2 a3 bA CL G N b3 F f A y1 y2 a7 z s1 s2 s3 s4
     by_cases hab:U.xR op=true
     ·have e1:(op.toList==[97,98,115,101,110,116])=true:=hab;have e2:(op.toList != [97,98,115,101,110,116])=false:=by unfold bne;rw[e1];rfl
      have hF:=T.o;rw[zb hab]at hF;have j:=G7 hF;clear hF T hab
      cases no with
      | true=>
       have hF:=j.o;rw[zb rfl]at hF;have q:=G7 hF;clear hF j;go_wp2_with fail;go_roundw
       case rel=>exact⟨k+1,by omega,by go_num,by rw[q.o],y.o⟩
       case measure=>simp[intOf];omega
      | false=>
       have hF:=j.o;rw[za (by simp)]at hF;have q:=G7 hF;clear hF j;go_wp2_with fail;go_roundw
       case rel=>exact⟨k+1,by omega,by go_num,by rw[q.o],y.o⟩
       case measure=>simp[intOf];omega
     have H:U.xR op=false:=by simpa using hab
     have e1:(op.toList==[97,98,115,101,110,116])=false:=H;have e2:(op.toList != [97,98,115,101,110,116])=true:=by unfold bne;rw[e1];rfl
     have hF:=T.o;rw[za hab]at hF;have j:=G7 hF;clear hF T hab H
     cases no with
     | true=>
      have hF:=j.o;rw[zb rfl]at hF;have q:=G7 hF;clear hF j;go_wp2_with(go_at_call 131;apply L.o.mono;rintro e w5⟨rfl,r⟩;have t3:=zi r r3;have K:=G7 (Below.on y.o r F7);clear r);go_roundw
      case rel=>exact⟨k+1,by omega,by go_num,by rw[q.o],K.o⟩
      case measure=>simp[intOf];omega
     | false=>
      have hF:=j.o;rw[za (by simp)]at hF;have q:=G7 hF;clear hF j;go_wp2_with(go_at_call 131;apply L.o.mono;rintro e w5⟨rfl,r⟩;have t3:=zi r r3;have K:=G7 (Below.on y.o r F7);clear r);go_roundw
      case rel=>exact⟨k+1,by omega,by go_num,by rw[q.o],K.o⟩
      case measure=>simp[intOf];omega
  have d8:k=n:=by omega
  subst d8;have d9:=a5.o;subst d9;go_wp2;go_ret;exact⟨rfl,d.o⟩
theorem zeG(a:List Z.qi)(k:Nat)(r:Z.qi)(h:a[k]?=some r):U.Qu a (k+1)=U.JD (U.comma (U.Qu a k) k) r:=by
 rw[U.Qu,zT,h];rfl
theorem jh.slice{w:J}{base:Nat}{b:Y}{d:List Z.qi}(h:jh w base b d):∃a c,b=TL a d.length c:=by
 obtain⟨e,h,_⟩:=h
 rcases h.2 with⟨rfl,h0⟩|⟨g,c,cur,rfl,_⟩
 ·exact⟨_,_,by rw[h0]⟩
 exact⟨_,_,rfl⟩
theorem Ew(m:List Z.qi)(lv:Y)(base:Nat)(w:J)(h:jh w base lv m)(hn:m.length<=10)(hS:∀r ∈ m,U.ZP r):R8 43 #[lv] w (G5 (.string (U.QU m)) w):=by
 obtain⟨a,cc,rfl⟩:=h.slice;obtain⟨xs,hx,hc⟩:=h;obtain⟨n,u⟩:=Nm m.length
 have D:∀(k:Nat) (x:Z.qi),m[k]?=some x->∃t l1 l2 l3 lc,a=some (G8 t 0)/\(w.cell? (G8 t (k*8))=some (S9 x.eff)/\w.cell? (G8 t (k*8+1))=some (.bool x.who.1)/\w.cell? (G8 t (k*8+2))=some l1/\w.cell? (G8 t (k*8+3))=some (.bool x.act.1)/\w.cell? (G8 t (k*8+4))=some l2/\w.cell? (G8 t (k*8+5))=some (.bool x.on.1)/\w.cell? (G8 t (k*8+6))=some l3/\w.cell? (G8 t (k*8+7))=some lc)/\Za w base l1 l2 l3 lc x:=by
  intro k x f8;have hk:k<m.length:=(zU.1 f8).1;have hl:xs.length=m.length*8:=hx.1
  rcases hx.2 with⟨e,h0⟩|⟨t,cap,cur,e,_⟩
  ·omega
  have l:∀i,i<m.length*8->w.cell? (G8 t i)=xs[i]?:=λi hi=>World.ownsRow.cellAt (g:=t) (cap:=cap) (by rw[<- e];exact hx) i (by omega);injection e with e1 e2 e3
  obtain⟨l1,l2,l3,lc,h0,h1,h2,h3,h4,h5,h6,h7,hR⟩:=hc k hk;have k6:m[k]=x:=(zU.1 f8).2;rw[k6]at h0 h1 h3 h5 hR;exact⟨t,l1,l2,l3,lc,e1,⟨(l _ (by omega)).trans h0,(l _ (by omega)).trans h1,(l _ (by omega)).trans h2,(l _ (by omega)).trans h3,(l _ (by omega)).trans h4,(l _ (by omega)).trans h5,(l _ (by omega)).trans h6,(l _ (by omega)).trans h7⟩,hR⟩
 obtain⟨R,hR⟩:=Nm (U.QU m);rw[hR];obtain⟨O,hO⟩:∃O:Nat->BY,U.Qu m=O:=⟨_,rfl⟩;have e8:∀k,k<=n->(O k).size<=11000000*k+20:=λk hk=>by rw[<- hO];exact U.FZ m hS k (by rw[u];exact hk)
 have E:∀k c,m[k]?=some c->O (k+1)=U.JD (U.comma (O k) k) c:=λk c k2=>by rw[<- hO];exact zeG m k c k2
 have c8:R=O n++⟨#[93,125]⟩:=by rw[<- hR,<- hO,<- u];rfl
 have O0:O 0=⟨#[123,34,115,116,97,116,101,109,101,110,116,34,58,91]⟩:=by rw[<- hO];rfl
 rw[u]at hn;have⟨HC,HN,HZ,c4,c6,c5,HS⟩:=M8 D u e8 E c8 O0 hS;rw[u];clear D u hx hc e8 E c8 O0 hR hO hS;go_enter func43,ntmps43;go_wp2
 go_loopw [3,4] (λov iv wr=>∃k:Nat,k<=n/\iv=R9 k/\ov=S9 (O k)/\BQ w wr) (λ_ iv _=>n-(intOf iv).toNat)
 case atStart=>exact⟨0,zD _,rfl,by rw[c5.o],zf _ _⟩
 case round=>
  obtain⟨k,hk,rfl,rfl,b0⟩:=hrel;have d:=G7 b0;have z:=HZ.o k hk;have r6:11000000*k<=11000000*10:=Nat.mul_le_mul_left _ (by omega);clear b0 c5
  by_cases hlt:k<n
  ·have d2:k<m.length:=by rw[HN.o];exact hlt
   have b8:=zn d2;obtain⟨t,l1,l2,l3,lc,rfl,⟨q0,q1,q2,q3,q4,q5,q6,q7⟩,oR⟩:=HC.o k _ b8;have j:=c4.o k _ b8;have e7:=HS.o _ (qm d2);obtain⟨c,l⟩:=Nm (m[k]);rw[l]at q0 q1 q3 q5 oR j e7;obtain⟨eff,⟨G,L1⟩,⟨H,L2⟩,⟨I,L3⟩,cs,r1,r0⟩:=c;obtain⟨a6,a7,a8,a9⟩:=oR;obtain⟨s0,s1,s2,s3,s4,s5⟩:=e7;simp only at q0 q1 q3 q5 a6 a7 a8 a9 j s0 s1 s2 s3 s4 s5;obtain⟨S,a1,rfl⟩:=jb a6;obtain⟨T,a2,rfl⟩:=jb a7;obtain⟨V,a3,rfl⟩:=jb a8;obtain⟨a0,a4,rfl⟩:=a9.slice;have p0:=zi d.o q0;have p1:=zi d.o q1;have p2:=zi d.o q2;have p3:=zi d.o q3;have p4:=zi d.o q4;have p5:=zi d.o q5;have p6:=zi d.o q6;have p7:=zi d.o q7;have CQ:=G7 (λW=>nP eff W (show eff.size<=12000 by omega));have CA:=G7 (λW (q:BQ w W)=>iM G L1 _ base W (ownsRow_below a6 q) s1.1 s1.2);have CB:=G7 (λW (q:BQ w W)=>iM H L2 _ base W (ownsRow_below a7 q) s2.1 s2.2);have CC:=G7 (λW (q:BQ w W)=>iM I L3 _ base W (ownsRow_below a8 q) s3.1 s3.2);have CD:=G7 (λW (q:BQ w W)=>Nc cs _ base W (a9.kept (λi _ hl=>q.block i hl)) s4 s5);have y0:(U.qh eff).size<=100000:=by have:=U.Z0 eff;omega
   have y1:(U.chosenB G L1).size<=900020:=U.QH (c:=(G,L1)) s1;have y2:(U.chosenB H L2).size<=900020:=U.QH (c:=(H,L2)) s2;have y3:(U.chosenB I L3).size<=900020:=U.QH (c:=(I,L3)) s3
   have y4:(U.Xh cs).size<=6500000:=by
    have h2:=U.bP cs s5 cs.length F7;unfold U.Xh;omega
   have d0:=U.bO (O k) k;obtain⟨o,ho⟩:=Nm (O k);rw[ho]at j d0 z |-;have d9:(U.comma o k).size<=120000000:=by omega
   have e0:o.size<=120000000:=by omega
   unfold U.JD U.UD U.Vt at j;simp only at j;have e4:U.Zv (G,L1)=U.chosenB G L1:=rfl;have e5:U.Zv (H,L2)=U.chosenB H L2:=rfl;have e6:U.Zv (I,L3)=U.chosenB I L3:=rfl;rw[e4,e5,e6]at j;obtain⟨QE,Q⟩:=Nm (U.qh eff);obtain⟨G1,K⟩:=Nm (U.chosenB G L1);obtain⟨G2,L⟩:=Nm (U.chosenB H L2);obtain⟨G3,M⟩:=Nm (U.chosenB I L3);obtain⟨G4,N⟩:=Nm (U.Xh cs);rw[Q,K,L,M,N]at j;rw[Q]at y0;rw[K]at y1;rw[L]at y2;rw[M]at y3;rw[N]at y4;simp only[Q]at CQ;simp only[K]at CA;simp only[L]at CB;simp only[M]at CC;simp only[N]at CD;obtain⟨n1,d4⟩:=Nm L1.length;obtain⟨n2,d5⟩:=Nm L2.length;obtain⟨n3,d6⟩:=Nm L3.length;obtain⟨n4,d7⟩:=Nm cs.length;rw[d4]at p2 CA;rw[d5]at p4 CB;rw[d6]at p6 CC;rw[d7]at p7 CD j s4;have y:=G7 j;have k0:(0:Int)<=(k:Int):=qd _;have k1:(k:Int)<(n:Int):=by omega
   clear q0 q1 q2 q3 q4 q5 q6 q7 a6 a7 a8 a9 b8 l HC c4 HZ c6 HN HS ho j Q K L M N d4 d5 d6 d7 e4 e5 e6 s0 s1 s2 s3 s5 z d0
   go_upto_if 13 with fail
   go_cut [3] from 6 to 53 (λs wx=>s=S9 (U.comma o k)/\wx=wr)
   case first=>
    by_cases hk0:0<k
    ·have c0:decide (0<k)=true:=zB hk0;rw[c0];go_wp2_with fail
     go_meet
     case rel=>exact⟨by unfold U.comma;rw[zb hk0],rfl⟩
    have c0:decide (0<k)=false:=zI hk0;rw[c0];go_wp2_with fail
    go_meet
    case rel=>exact⟨by unfold U.comma;rw[za hk0],rfl⟩
   case rest=>
    obtain⟨rfl,e9⟩:=hcut;rw[e9];clear e9;obtain⟨o1,d8⟩:=Nm (U.comma o k);rw[d8]at y d9 |-;clear d8;obtain⟨A,hA⟩:=Nm (wr.alloc (L8 #[S9 eff,.bool G,TL S n1 a1,.bool H,TL T n2 a2,.bool I,TL V n3 a3,TL a0 n4 a4] 173));have B:=zA wr (L8 #[S9 eff,.bool G,TL S n1 a1,.bool H,TL T n2 a2,.bool I,TL V n3 a3,TL a0 n4 a4] 173);have b6:BQ w A:=by rw[<- hA];exact d.o.alloc d.o.size _
    rw[hA]at B;have d3:wr.heap.size<A.heap.size:=zt B;have f0:∀X:Grown A,X.w.cell? (G8 wr.heap.size 0)=some (S9 eff):=λX=>zi X.b (zg B 0).1;have f1:∀X:Grown A,X.w.cell? (G8 wr.heap.size 1)=some (.bool G):=λX=>zi X.b (zg B 1).1;have f2:∀X:Grown A,X.w.cell? (G8 wr.heap.size 2)=some (TL S n1 a1):=λX=>zi X.b (zg B 2).1;have f3:∀X:Grown A,X.w.cell? (G8 wr.heap.size 3)=some (.bool H):=λX=>zi X.b (zg B 3).1;have f4:∀X:Grown A,X.w.cell? (G8 wr.heap.size 4)=some (TL T n2 a2):=λX=>zi X.b (zg B 4).1;have f5:∀X:Grown A,X.w.cell? (G8 wr.heap.size 5)=some (.bool I):=λX=>zi X.b (zg B 5).1;have f6:∀X:Grown A,X.w.cell? (G8 wr.heap.size 6)=some (TL V n3 a3):=λX=>zi X.b (zg B 6).1;have f7:∀X:Grown A,X.w.cell? (G8 wr.heap.size 7)=some (TL a0 n4 a4):=λX=>zi X.b (zg B 7).1;have F:∀X:Grown A,BQ w X.w:=λX=>b6.trans (X.b.mono b6.size);have HQ:G6 (∀X:Grown A,R8 77 #[S9 eff] X.w λe f=>e=.returned (.string QE)/\∃p:Grown A,f=p.w):=G7 (λX=>(CQ.o X.w).mono (λe f ⟨he,q⟩=>⟨he,⟨f,Below.on X.b q F7⟩,rfl⟩));have H1:G6 (∀X:Grown A,R8 78 #[.agg #[.bool G,TL S n1 a1]] X.w λe f=>e=.returned (.string G1)/\∃p:Grown A,f=p.w):=G7 (λX=>(CA.o X.w (F X)).mono (λe f ⟨he,q⟩=>⟨he,⟨f,Below.on X.b q F7⟩,rfl⟩));have H2:G6 (∀X:Grown A,R8 78 #[.agg #[.bool H,TL T n2 a2]] X.w λe f=>e=.returned (.string G2)/\∃p:Grown A,f=p.w):=G7 (λX=>(CB.o X.w (F X)).mono (λe f ⟨he,q⟩=>⟨he,⟨f,Below.on X.b q F7⟩,rfl⟩));have H3:G6 (∀X:Grown A,R8 78 #[.agg #[.bool I,TL V n3 a3]] X.w λe f=>e=.returned (.string G3)/\∃p:Grown A,f=p.w):=G7 (λX=>(CC.o X.w (F X)).mono (λe f ⟨he,q⟩=>⟨he,⟨f,Below.on X.b q F7⟩,rfl⟩));have NE:Nonempty (Grown A):=⟨⟨A,zf _ _⟩⟩;have bA:BQ A A.drew:=(zf _ A).drew;have UP:=G7 F;clear B F CQ CA CB CC
    go_upto_region 8 with fail
    clear p0 p1 p2 p3 p4 p5 p6 p7
    go_cut [3] from 6 to 53 (λs wx=>s=S9 (o1++⟨#[123,34,101,102,102,101,99,116,34,58]⟩++QE++⟨#[44,34,119,104,111,34,58]⟩++G1++⟨#[44,34,100,111,34,58]⟩++G2++⟨#[44,34,111,110,34,58]⟩++G3)/\BQ A wx)
    case first=>
     refine pI (C:=λW'=>∃X:Grown A,W'=X.w) (by kernel_rfl) (by kernel_rfl) ⟨⟨_,bA⟩,rfl⟩ ?_;simp only
     iterate 5 (go_big_quiet_step (exact HQ.o _))
     iterate 5 (go_big_quiet_step (exact H1.o _))
     iterate 5 (go_big_quiet_step (exact H2.o _))
     iterate 7 (go_big_quiet_step (exact H3.o _))
     refine wpQuiet_nil ?_;intro w' k5;obtain⟨X,rfl⟩:=k5;go_wp2_with fail
     go_meet
     case rel=>exact⟨rfl,X.b⟩
    case rest=>
     obtain⟨rfl,b7⟩:=hcut;have r7:wc.cell? (G8 wr.heap.size 7)=some (TL a0 n4 a4):=f7 ⟨wc,b7⟩;have b1:G6 (BQ w wc):=UP.o ⟨wc,b7⟩;have j3:=G7 (CD.o wc b1.o);obtain⟨Hd,P⟩:=Nm ((o1++⟨#[123,34,101,102,102,101,99,116,34,58]⟩++QE++⟨#[44,34,119,104,111,34,58]⟩++G1++⟨#[44,34,100,111,34,58]⟩++G2++⟨#[44,34,111,110,34,58]⟩++G3:BY))
     have s6:Hd.size<=140000000:=by
      have z1:(⟨#[123,34,101,102,102,101,99,116,34,58]⟩:BY).size=10:=rfl;have z2:(⟨#[44,34,119,104,111,34,58]⟩:BY).size=7:=rfl;have z3:(⟨#[44,34,100,111,34,58]⟩:BY).size=6:=rfl;have z4:(⟨#[44,34,111,110,34,58]⟩:BY).size=6:=rfl;rw[<- P];simp only[zV];omega
     have j:=y.o;rw[P]at j;have HF:=G7 j;rw[P];clear b7 f0 f1 f2 f3 f4 f5 f6 f7 HQ H1 H2 H3 bA UP CD d9 e0 P j y y0 y1 y2 y3 hA b6 d3
     by_cases hn0:0<n4
     ·have dn:decide (0<(n4:Int))=true:=by simp;omega
      have j6:decide (0<n4)=true:=zB hn0;have hF:=HF.o;rw[zb hn0]at hF;have b2:=G7 hF;clear hF HF;go_wp2_with(go_at_call 79;apply j3.o.mono;rintro e w5⟨rfl,c9⟩;have j2:=G7 (Below.on b1.o c9 F7);clear c9);go_roundw
      case rel=>exact⟨k+1,by omega,by go_num,by rw[b2.o],j2.o⟩
      case measure=>simp[intOf];omega
     have dn:decide (0<(n4:Int))=false:=by simp;omega
     have j6:decide (0<n4)=false:=zI hn0;have hF:=HF.o;rw[za hn0]at hF;have b2:=G7 hF;clear hF HF;go_wp2_with fail;go_roundw
     case rel=>exact⟨k+1,by omega,by go_num,by rw[b2.o],b1.o⟩
     case measure=>simp[intOf];omega
  have k3:k=n:=by omega
  subst k3;have k4:=c6.o;have hz:(O k).size<=120000000:=by omega
  subst k4;obtain⟨o,ho⟩:=Nm (O k);rw[ho]at hz |-;have j4:=G7 ho;clear ho;go_wp2;go_ret;exact⟨by rw[j4.o];rfl,d.o⟩
theorem zeF{ns:List U.Node}{k:Nat}{v:Z.V}(h:Z.Rep ns k v)(a:(Z.uO v).1=0):K6 ns k=(qM (stX v)).map Z.yD:=by
 obtain⟨r,d⟩:=Z.KY h;unfold K6;rw[d];simp only
 match v,h with
 | .str s,_=>simp[Z.uO]at a
 | .word b,_=>simp[Z.uO]at a
 | .list l,_=>simp[Z.uO]at a
 | .obj ms,h=>
  simp only[Z.uO]at a;have c:=Z.Xr h d Z.jF
  rcases c with⟨c,_⟩|⟨x,kk,c,hk,hx⟩
  ·rw[c]at a;simp at a
  rw[hk];simp only[yE];rw[c]at a
  match x,hx with
  | .str s,_=>simp at a
  | .word b,_=>simp at a
  | .obj l,_=>simp at a
  | .list vs,hx=>
   have i:qM (stX (.obj ms))=vs:=by simp[qM,stX,c]
   rw[i]
   cases hx with
   | list _ n _ e j m f o g=>
    rw[e];exact Z.oI ns vs n.kids f g
theorem ER(a:BY)(h:(Z.qC a).1=0):Uy a=yo a:=by
 unfold Uy yo;obtain⟨R,c⟩:=Nm (qX a);rw[c];unfold qX at c;unfold Z.qC at h
 by_cases h1:4000<a.size
 ·rw[zb h1]at h;simp at h
 rw[za h1]at h c;rw[za h1];have f:=Z.EQ a.data.toList;obtain⟨Q,g⟩:=Nm (U.run U.init a.data.toList 0);rw[g]at c
 cases hm:Z.jB a.data.toList with
 | ok v p=>
  rw[hm]at f h;simp only at f h |-;obtain⟨m,b,l,k,j,d⟩:=f;unfold Z.verdict at b;rw[List.drop_zero,g]at b
  by_cases c1:Q.1≠0
  ·rw[zb c1]at b;rw[b]at c1;exact absurd rfl c1
  rw[za c1]at b c
  by_cases c2:Q.2.2.state≠6\/Q.2.2.opn≠[]
  ·rw[zb c2]at b;simp at b
  rw[za c2]at b c;subst c;simp only[b,j];exact zeF d h
 | err e q=>
  rw[hm]at h;have i:=Z.dZ hm;unfold Z.Code at i;simp only at h;omega
theorem zcX(d:BY)(w:J)(F:d.size<=maxLen):R8 27 #[S9 d] w (G5 (.tuple #[.string (printed d),.int .i64 (Z.qC d).1]) w):=by
 have c:=iX d w F;unfold printed
 have f:(Z.qC d).1=0->(∀r ∈ yo d,U.ZP r)/\(yo d).length<=10/\Uy d=yo d:=by
  intro k;obtain⟨z,B,_⟩:=eZ d k;exact⟨λr E=>(z r E).2,B,ER d k⟩
 obtain⟨A,o⟩:=Nm (Z.qC d);rw[o]at c f |-;obtain⟨a,b⟩:=A;simp only at c f |-
 by_cases k:a=0
 ·subst k;obtain⟨q,s,t⟩:=f rfl;rw[t]at c;rw[zb rfl];have c3:=λW m (h:jh W w.heap.size m (yo d))=>Ew (yo d) m w.heap.size W h s q;obtain⟨D,p⟩:=Nm (U.QU (yo d));simp only[p]at c3 |-;have⟨C,v⟩:=D5 c c3;clear c c3 p q s t f o;go_enter func27,ntmps27
  go_wp2_with(first
   |(go_at_call 43;apply(v.o u m y.o).mono;rintro e I⟨rfl,l⟩;have n:=G7 (i.o.trans (l.mono i.o.size));clear l)
   |(go_at_call 37;apply C.o.mono;rintro e u⟨m,rfl,g,j⟩;have i:=G7 g;have y:=G7 (j rfl);clear g j))
  go_ret2;exact⟨rfl,n.o⟩
 rw[za k];have C:=G7 c;have H:(a != 0)=true:=by simp[k]
 clear c f o;go_enter func27,ntmps27;go_wp2_with(go_at_call 37;apply C.o.mono;rintro e u⟨m,rfl,g,j⟩;have i:=G7 g;clear g j);go_ret2;exact⟨rfl,i.o⟩
theorem zcr(s:BY)(d:Addr)(w:J)(j:jL w d)(k:s.size<=maxLen):R8 9 #[S9 s] w (G5 (.bool true) w):=by
 have c1:=zcq s d w j;have c2:=λW=>zcX s W k;obtain⟨a,f⟩:=Nm ((Z.qC s).1);obtain⟨t,g⟩:=Nm (printed s);simp only[f,g]at c1 c2;have⟨h,i⟩:=D5 c1 c2;have d1:(a==a)=true:=by simp
 have d2:(t.toList==t.toList)=true:=by simp
 clear c1 c2 f g;go_enter func9,ntmps9
 go_wp2_with(first
  |(go_at_call 27;apply(i.o m).mono;rintro e n⟨rfl,c⟩)
  |(go_at_call 26;apply h.o.mono;rintro e m⟨rfl,b⟩))
 go_ret;exact⟨by simp,b.trans (c.mono b.size)⟩
end Go.Proofs.YtfjpcldndaiifaaGreatDoor
