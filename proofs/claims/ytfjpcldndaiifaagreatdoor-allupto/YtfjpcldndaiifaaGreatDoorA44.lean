/- P -/
import Derived.Test.YtfjpcldndaiifaaGreatDoorA43
open Go.Proofs.Tryz hiding parts
set_option maxRecDepth 100000
set_option maxHeartbeats 8000000
namespace Go.Proofs.YtfjpcldndaiifaaGreatDoor
open Go.RowKit
structure OpD where
 kind:Int
 a:Int
 layer:Int
 name:BY
 text:BY
 who:BY
 act:BY
 on:BY
 ma:Option Addr
 mn:Nat
 mc:Nat
def zbH(o:OpD):Y:=ut o.kind o.a o.layer o.name o.text o.who o.act o.on o.ma o.mn o.mc
def UX(W:J)(b q:Nat)(o:OpD):Prop:=
 W.cell? (G8 b q)=some (R9 o.kind)/\W.cell? (G8 b (q+1))=some (R9 o.a)/\W.cell? (G8 b (q+2))=some (R9 o.layer)/\W.cell? (G8 b (q+3))=some (S9 o.name)/\W.cell? (G8 b (q+4))=some (S9 o.text) /\
 W.cell? (G8 b (q+5))=some (S9 o.who)/\W.cell? (G8 b (q+6))=some (S9 o.act)/\W.cell? (G8 b (q+7))=some (S9 o.on)/\W.cell? (G8 b (q+8))=some (TL o.ma o.mn o.mc)
def VO(W:J)(v:Y)(b:List OpD):Prop:=
 ∃a c,v=TL a b.length c/\∀(k:Nat) (o:OpD),b[k]?=some o->∃d q,a=some (G8 d q)/\UX W d (q+k*9) o
theorem UX.below{W W':J}{b q:Nat}{o:OpD}(h:UX W b q o)(a:BQ W W'):UX W' b q o:=
 ⟨zi a h.1,zi a h.2.1,zi a h.2.2.1,zi a h.2.2.2.1,zi a h.2.2.2.2.1,zi a h.2.2.2.2.2.1,zi a h.2.2.2.2.2.2.1,zi a h.2.2.2.2.2.2.2.1,zi a h.2.2.2.2.2.2.2.2⟩
def inK(l:List Int)(k:Int):Bool:=l.any (λx=>k==x)
theorem SY{l:List Int}{j:Nat}{x k:Int}(h:l[j]?=some x):inK (l.take (j+1)) k=(inK (l.take j) k||(k==x)):=by
 unfold inK;rw[Qg,h]
 simp
def Km:BY:=⟨#[102,105,114,115,116]⟩
def lQ:BY:=⟨#[123,34,115,116,97,116,101,109,101,110,116,34,58,91,123,34,101,102,102,101,99,116,34,58,34,97,108,108,111,119,34,44,34,119,104,111,34,58,34,42,34,44,34,100,111,34,58,34,42,34,44,34,111,110,34,58,34,42,34,125,93,125]⟩
def Ve:Array Y:=#[R9 1,R9 0,R9 0,R5,R5,R5,R5,R5,R4,R9 2,R9 0,R9 2,S9 Km,S9 lQ,R5,R5,R5,R4,R9 3,R9 0,R9 2,S9 Km,R5,R5,R5,R5,R4]
theorem AY:Km.size<=maxLen:=by decide
theorem Sr:lQ.size<=maxLen:=by decide
theorem xL.start(w:J)(O:Obj):xL w (λb=>if b=w.heap.size then 1 else 0) ((w.alloc (L8 #[R4,R4] 32)).alloc O) w.heap.size R4 R4 [] 0:=by
 refine⟨(nbl w _).alloc (by simp) _,λb d=>?_,?_,by simp,qF _ _ _ _,(λg a=>by cases a),⟨[],qF _ _ _ _,(λi v f=>by simp at f)⟩,(λg a=>by cases a),(λi p c=>by simp at c),λi p c=>by simp at c⟩
 ·by_cases e:b=w.heap.size
  ·subst e;exact⟨ze _,by simp;omega⟩
  simp[e]at d
 exact((nbl _ O).block w.heap.size (by simp)).trans (zA w _)
def aV(w:J)(i:Nat)(wr:J):Prop:=∃L c b a m,xL w L wr w.heap.size c b a m/\vR a/\0<a.length/\a.length<=3+i/\m<=3+i
def Yu(w:J)(j:Nat)(wr:J):Prop:=∃L c b a m,xL w L wr w.heap.size c b a m/\vR a/\(0<j->0<a.length)/\a.length<=j/\m<=j/\L (w.heap.size+1)=0/\wr.heap[w.heap.size+1]?=some (.cells Ve 37)
theorem Yu.next{w:J}{j:Nat}{wr g:J}{L:Nat->Nat}{n m:Nat}{e:Ending}(f:L (w.heap.size+1)=0)(b:wr.heap[w.heap.size+1]?=some (.cells Ve 37))(v:n<=j)(u:m<=j)(h:Xb w L wr w.heap.size n m e g):e=.returned (.bool true)/\Yu w (j+1) g:=by
 obtain⟨L',c,a,q,p,l,d,o,k,r,s,t,i⟩:=h;exact⟨l,L',c,a,q,p,o,k,λ_=>i,by omega,by omega,(d.old _ (zt b)).trans f,(d.keep _ (zt b) f).trans b⟩
theorem Yu.start(w:J):Yu w 0 ((w.alloc (L8 #[R4,R4] 32)).alloc (.cells Ve 37)):=by
 refine⟨_,_,_,_,_,xL.start w _,λi p a=>by simp at a,λe=>by omega,ze _,ze _,by simp,?_⟩
 have:=zA (w.alloc (L8 #[R4,R4] 32)) (.cells Ve 37)
 rw[show (w.alloc (L8 #[R4,R4] 32)).heap.size=w.heap.size+1 by simp]at this;exact this
abbrev bg (w:J) (o:OpD):Prop:=∀(L:Nat->Nat) (W:J) (psv bkv:Y) (ps:List xK) (m:Nat),xL w L W w.heap.size psv bkv ps m->vR ps->0<ps.length->ps.length<=100000000->m<=100000000 ->
 R8 5 #[RG w.heap.size 0,zbH o] W (Xb w L W w.heap.size ps.length m)
theorem zco(w:J)(aL:Addr)(hC:jL w aL)(sv:Y)(r:List OpD)(hS:VO w sv r)(a3:r.length<=10000000)(kb kc:Nat)(b:List Int)(hK:∀(j:Nat) (x:Int),b[j]?=some x->w.cell? (G8 kb j)=some (R9 x))(d3:b.length<=100)(v:∀o ∈ r,inK b o.kind=true->bg w o):R8 4 #[sv,TL (some (G8 kb 0)) b.length kc] w (G5 (.bool true) w):=by
 obtain⟨sa,sc,rfl,g⟩:=hS;obtain⟨n,hn⟩:=Nm r.length;obtain⟨kn,Q⟩:=Nm b.length;rw[hn]at a3 |-;rw[Q]at d3 |-;have⟨HN,V,K,HK,M⟩:=M6 hn Q g hK v;clear hn Q g hK v;go_enter func4,ntmps4;go_wp2_with fail
 go_loopw [7,8] (λS _ wr=>∃j:Nat,j<=3/\S=R9 j/\Yu w j wr) (λS _ _=>3-(intOf S).toNat)
 case atStart=>exact⟨0,zD _,rfl,Yu.start w⟩
 case round=>
  obtain⟨j,hj,rfl,h⟩:=hrel
  by_cases hlj:j<3
  ·obtain⟨L,f,d,C,m,z,P,N,p,l,hL,hc⟩:=h;have a:=λk=>(zg hc k).1;have⟨D,T,HL,HC⟩:=M5 z P hL hc;clear z P hL hc
   rcases (show j=0\/j=1\/j=2 by omega) with rfl|rfl|rfl
   ·have q0:=a 0;have q1:=a 1;have q2:=a 2;have q3:=a 3;have q4:=a 4;have q5:=a 5;have q6:=a 6;have q7:=a 7;have q8:=a 8;simp[Ve]at q0 q1 q2 q3 q4 q5 q6 q7 q8;clear a;go_wp2_with(go_at_call 5;apply(oF w L wr w.heap.size f d C m D.o T.o (by omega) 0 0 ⟨#[]⟩ ⟨#[]⟩ ⟨#[]⟩ ⟨#[]⟩ ⟨#[]⟩ none 0 0).mono;rintro e w2 y;obtain⟨rfl,F⟩:=Yu.next HL.o HC.o p l y;have I:=G7 F;clear y F);go_roundw
    case rel=>exact⟨1,by omega,rfl,I.o⟩
    case measure=>simp[intOf]
   ·have O:=N (by omega);have q0:=a 9;have q1:=a 10;have q2:=a 11;have q3:=a 12;have q4:=a 13;have q5:=a 14;have q6:=a 15;have q7:=a 16;have q8:=a 17;simp[Ve]at q0 q1 q2 q3 q4 q5 q6 q7 q8;clear a;go_wp2_with(go_at_call 5;refine(oG w aL hC L wr w.heap.size f d C m D.o T.o O (by omega) 0 2 Km lQ ⟨#[]⟩ ⟨#[]⟩ ⟨#[]⟩ none 0 0 (by unfold I64;decide) AY Sr).mono ?_;rintro e w2 y;obtain⟨rfl,F⟩:=Yu.next HL.o HC.o p l y;have I:=G7 F;clear y F);go_roundw
    case rel=>exact⟨2,by omega,rfl,I.o⟩
    case measure=>simp[intOf]
   have O:=N (by omega);have q0:=a 18;have q1:=a 19;have q2:=a 20;have q3:=a 21;have q4:=a 22;have q5:=a 23;have q6:=a 24;have q7:=a 25;have q8:=a 26;simp[Ve]at q0 q1 q2 q3 q4 q5 q6 q7 q8;clear a;go_wp2_with(go_at_call 5;refine(oD w L wr w.heap.size f d C m D.o T.o O (by omega) 0 2 Km ⟨#[]⟩ ⟨#[]⟩ ⟨#[]⟩ ⟨#[]⟩ none 0 0 (by unfold I64;decide) AY).mono ?_;rintro e w2 y;obtain⟨rfl,F⟩:=Yu.next HL.o HC.o p l y;have I:=G7 F;clear y F);go_roundw
   case rel=>exact⟨3,by omega,rfl,I.o⟩
   case measure=>simp[intOf]
  have d2:j=3:=by omega
  subst d2
  have u:aV w 0 wr:=by
   obtain⟨L,f,d,C,m,z,P,N,p,l,_,_⟩:=h;exact⟨L,f,d,C,m,z,P,N (by omega),p,l⟩
  have X:=G7 u;clear u h;obtain⟨wh,rfl⟩:∃x,x=wr:=⟨_,rfl⟩;go_wp2_with fail
  go_loopw [9,10,11,12] (λiv _ _ _ wr=>∃i:Nat,i<=n/\iv=R9 i/\aV w i wr) (λiv _ _ _ _=>n-(intOf iv).toNat)
  case atStart=>exact⟨0,zD _,rfl,X.o⟩
  case round=>
   obtain⟨i,hi,rfl,h⟩:=hrel;clear X
   by_cases hlt:i<n
   ·obtain⟨L,f,d,C,m,z,P,N,p,l⟩:=h;have a0:i<r.length:=by rw[HN.o];exact hlt
    obtain⟨o,ho⟩:∃o,r[i]?=some o:=⟨_,zn a0⟩;obtain⟨gb,q,rfl,R⟩:=K.o i o ho;have c9:=G7 R;have A:=R.1;have⟨D,T,HO⟩:=M4 z P ho;have i0:(0:Int)<=(i:Int):=qd _;have i1:(i:Int)<(n:Int):=by omega
    obtain⟨wi,rfl⟩:∃x,x=wr:=⟨_,rfl⟩;clear z P R ho a0;go_wp2_with fail
    go_loopw [10,11] (λd7 S wr=>∃j:Nat,j<=kn/\S=R9 j/\d7=.bool (inK (b.take j) o.kind)/\BQ wi wr) (λ_ S _=>kn-(intOf S).toNat)
    case atStart=>exact⟨0,zD _,rfl,rfl,zf _ _⟩
    case round=>
     obtain⟨j,hj,rfl,rfl,G⟩:=hrel
     by_cases hlj:j<kn
     ·have a1:j<b.length:=by rw[V.o];exact hlj
      obtain⟨x,hx⟩:∃x,b[j]?=some x:=⟨_,zn a1⟩;have kk:=zi G (zi D.o.low (HK.o j x hx));have kq:=zi G (zi D.o.low A);have c:=SY (k:=o.kind) hx;have j0:(0:Int)<=(j:Int):=qd _;have j1:(j:Int)<(kn:Int):=by omega
      have HB:=G7 G;clear G hx a1 A
      cases hB:inK (b.take j) o.kind with
      | true=>
       rw[hB]at c;have s:=G7 c;clear c hB;go_wp2_with fail
       go_quiet (fail)
       go_wp2;go_roundw
       case rel=>exact⟨j+1,by omega,by go_num,by rw[s.o];rfl,below_drewN HB.o nq⟩
       case measure=>simp[intOf];omega
      | false=>
       rw[hB]at c
       cases hd:(o.kind==x) with
       | true=>
        rw[hd]at c;have s:=G7 c;clear c hB;go_wp2_with fail
        go_quiet (fail)
        go_wp2;go_roundw
        case rel=>exact⟨j+1,by omega,by go_num,by rw[s.o];rfl,below_drewN HB.o nq⟩
        case measure=>simp[intOf];omega
       | false=>
        rw[hd]at c;have s:=G7 c;clear c hB;go_wp2_with fail
        go_quiet (fail)
        go_wp2;go_roundw
        case rel=>exact⟨j+1,by omega,by go_num,by rw[s.o];rfl,below_drewN HB.o nq⟩
        case measure=>simp[intOf];omega
     have t:b.take j=b:=uA (by rw[V.o];omega);rw[t];have B:=D.o.below G;have H:=(c9.o.below D.o.low).below G;clear t
     cases hB:inK b o.kind with
     | false=>
      have I:G6 (aV w (i+1) wr):=G7 ⟨L,f,d,C,m,B,T.o,N,by omega,by omega⟩;clear hB B H A G;go_wp2_with fail;go_roundw
      case rel=>exact⟨i+1,by omega,by go_num,I.o⟩
      case measure=>simp[intOf];omega
     | true=>
      obtain⟨c0,c1,c2,c3,c4,c5,c6,c7,c8⟩:=H;have a4:=M.o o (xC HO.o) hB L wr f d C m B T.o N (by omega) (by omega);have d0:=G7 a4;clear hB B a4 A G
      go_wp2_with(first
       |(go_at_call 5;apply d0.o.mono;rintro e w2 y;obtain⟨L2,a5,E,e0,m2,rfl,s2,p2,a2,n1,n2,n3,n4⟩:=y;have y1:=(zg p2.play 1).1;simp at y1;have⟨P2,A2⟩:=D5 p2 a2;clear s2 p2 a2)
       |(go_at_call 6;apply(zfO (Lm L2) w2 w.heap.size m2 E y1 P2.o.book (by omega)).mono;rintro e w3⟨rfl,e3⟩;rw[e3];clear e3))
      have H3:aV w (i+1) w2:=⟨L2,a5,E,e0,m2,P2.o,A2.o,n4,by omega,by omega⟩;refine⟨?_,?measure⟩
      ·(repeat apply Exists.intro)
       refine⟨?rel,rfl⟩;exact⟨i+1,by omega,by go_num,H3⟩
      simp[intOf];omega
   obtain⟨L,f,d,C,m,z,_⟩:=h;have W:=G7 z.low;clear z;go_wp2_with fail;go_ret;exact⟨rfl,W.o⟩
def JX(o:OpD):Prop:=I64 o.kind/\I64 o.a/\I64 o.layer/\o.name.size<=maxLen/\o.text.size<=maxLen
theorem WL{k:Int}(h:inK [1,2,3,4,5] k=true):k=1\/k=2\/k=3\/k=4\/k=5:=by
 unfold inK at h
 simpa using h
theorem WM{w:J}{t:Addr}(x:jL w t){o:OpD}(y:JX o)(z:inK [1,2,3,4,5] o.kind=true):bg w o:=by
 obtain⟨u,a,layer,b,c,h,d,on,k,n,l⟩:=o;obtain⟨_,r,_,s,A⟩:=y;intro L W g e p m j f q i v
 rcases WL z with rfl|rfl|rfl|rfl|rfl
 ·exact oF w L W w.heap.size g e p m j f i a layer b c h d on k n l
 ·exact oG w t x L W w.heap.size g e p m j f q i a layer b c h d on k n l r s A
 ·exact oD w L W w.heap.size g e p m j f q i a layer b c h d on k n l r s
 ·exact zek w L W w.heap.size g e p m j f q i a layer b c h d on k n l r s
 exact zeh w L W w.heap.size g e p m j f q i v a layer b c h d on k n l r
theorem VO.below{W W':J}{v:Y}{b:List OpD}(h:VO W v b)(f:BQ W W'):VO W' v b:=by
 obtain⟨a,c,rfl,h⟩:=h;refine⟨a,c,rfl,λk o i=>?_⟩;obtain⟨d,q,e,g⟩:=h k o i;exact⟨d,q,e,g.below f⟩
end Go.Proofs.YtfjpcldndaiifaaGreatDoor
namespace Go.Proofs.YtfjpcldndaiifaaGreatDoor
open laws Go.ChangeShapes Go.WideShapes Go.ChangeAt Go.RowKit Go.Joins Go.Deep
theorem nu{n:Int}(h:(Lit.int .i64 n).wf=true):I64 n:=by
 have a:(decide (IntKind.min .i64<=n)&&decide (n<=IntKind.max .i64))=true:=h;rw[jX,vJ,vJ]at a;exact a
theorem zbN{w:J}{a:Addr}{v:Y}(h:w.cell? (a.add 0)=some v):∃b o,a=G8 b o:=by
 obtain⟨b,o,s⟩:=a;have c:w.cell? ⟨b,o,s⟩=some v:=h
 cases s with
 | none=>exact⟨b,o,rfl⟩
 | some x=>
  unfold World.cell? at c;split at c
  ·simp at c
  cases c
instance:Inhabited OpD:=⟨⟨0,0,0,⟨#[]⟩,⟨#[]⟩,⟨#[]⟩,⟨#[]⟩,⟨#[]⟩,none,0,0⟩⟩
section
variable {H:Type} {enc:TypeId×Y->H} {w:J} {spare:Nat->Bool} {held:Bool}
theorem iq{H:Type}{d:DataW H}{l:List (DataW H)}(h:d ∈ l):Rows.uptoBulk d<=Rows.uptoBulkAll l:=by
 induction l with
 | nil=>cases h
 | cons x r a=>
  simp only[Rows.uptoBulkAll]
  cases Zt.1 h with
  | inl e=>subst e;omega
  | inr e=>have:=a e;omega
theorem LF{H:Type}(d:DataW H):1<=Rows.uptoBulk d:=by
 cases d with
 | lit l=>cases l<;>simp[Rows.uptoBulk]
 | nil=>simp[Rows.uptoBulk]
 | ptr d=>simp[Rows.uptoBulk]
 | slice b spare=>simp[Rows.uptoBulk]
 | agg parts=>simp[Rows.uptoBulk]
 | iface t d=>simp[Rows.uptoBulk]
 | map a=>simp[Rows.uptoBulk]
 | held h=>simp[Rows.uptoBulk]
theorem tu{H:Type}(l:List (DataW H)):l.length<=Rows.uptoBulkAll l:=by
 induction l with
 | nil=>simp[Rows.uptoBulkAll]
 | cons x r a=>have:=LF x;simp only[Rows.uptoBulkAll,Qf];omega
end
end Go.Proofs.YtfjpcldndaiifaaGreatDoor
namespace Go.Proofs.YtfjpcldndaiifaaGreatDoor
open Go.RowKit
theorem zeb(w0:J)(aL:Addr)(hC:jL w0 aL)(L:Nat->Nat)(w:J)(yb:Nat)(c1 b3:Y)(z:List xK)(m:Nat)(h:xL w0 L w yb c1 b3 z m)(C:vR z)(v:0<z.length)(b8:z.length<=100000000)(a l:Int)(name r j f on:BY)(R:Option Addr)(T S:Nat)(ms:List (BY×BY))(hA:I64 a)(N:QC w0 R T S ms)(hr:U.XE ⟨j,f,on,ms⟩)(hl:Pg.reqLen ⟨j,f,on,ms⟩)(O:ms.length<=1000000000):R8 5 #[RG yb 0,ut 6 a l name r j f on R T S] w (Xb w0 L w yb z.length m):=by
 unfold ut;obtain⟨o,s⟩:=Nm (w.alloc (L8 #[R9 6,R9 a,R9 l,S9 name,S9 r,S9 j,S9 f,S9 on,TL R T S] 37));have b1:BQ w o:=by rw[<- s];exact nbl w _
 have t:o.heap[w.heap.size]?=some (L8 #[R9 6,R9 a,R9 l,S9 name,S9 r,S9 j,S9 f,S9 on,TL R T S] 37):=by rw[<- s];exact zA w _
 have h1:=h.below b1;obtain⟨g,pc,p,rfl,M,D,H,K,I,b6⟩:=h1.pick a v;have k0:=(zg t 0).1;have k1:=(zg t 1).1;simp at k0 k1;have X:=λW=>KV a z.length W hA v (by omega);obtain⟨n,hn⟩:=Nm z.length;obtain⟨i,hi⟩:=Nm (Kp.kM a z.length);simp only[hi]at D K I M X;have c:=λb (hb:L b≠0)=>(h.base b hb).2;have c0:=(h.off i p D).2;have b9:=(h.ref i p D).2.1;have P:=(h.ref i p D).2.2;have e2:p.ob<w.heap.size:=c _ (by omega);have d4:p.cb<w.heap.size:=c _ (by omega);have Q:∀g,p.lv.ownBlock=some g->g<w.heap.size:=λg hg=>c _ (by have:=P g hg;omega);have B:=G7 (KT h C D);simp only[hn]at M v b8 H X |-;have⟨CP,HN,HP,H1,A,a4,G,a5,d2,a6⟩:=RF X hn D h1 t C s b1 Q c;have i0:(0:Int)<=(i:Int):=qd _;have i1:(i:Int)<(n:Int):=by omega
 have d7:((n:Int)==0)=false:=by simp;omega
 clear X hn hi D h1 t C s b1 h Q c c0 b9 P;go_enter func5,ntmps5
 go_upto_region 1 with fail
 rw[G.o];clear G
 go_upto_region 16 with fail
 go_cut [6] (λv6 wc=>v6=.pointer (some (G8 o.heap.size 0))/\wc=(o.alloc (L8 #[RG p.ob 0,RG p.cb 0] 47)).drew)
 case first=>
  go_region_held3 (λw'=>w'.cell? (G8 yb 0)=some (TL (some (G8 g 0)) n pc)/\w'.cell? (G8 w.heap.size 1)=some (R9 a)/\w'.cell? (G8 g (i*2))=some (RG p.ob 0)/\w'.cell? (G8 g (i*2+1))=some (RG p.cb 0)) (go_keep) (first|(go_at_call 11;apply(CP.o _).mono;rintro e w3⟨rfl,e3⟩;rw[e3];clear e3))
  all_goals
   go_wp2_with fail
   go_meet
   case rel=>exact⟨rfl,rfl⟩
 case rest=>
  obtain⟨rfl,E⟩:=hcut;have V:BQ o wc:=by rw[E];exact(nbl o _).drew
  have u:wc.heap[o.heap.size]?=some (L8 #[RG p.ob 0,RG p.cb 0] 47):=by rw[E];exact zA o _
  clear E CP H K I b6 k0 k1;have k:=G7 (H1.o.below V);have d:=(V.block _ (zt A.o)).trans A.o;have e8:w.heap.size<o.heap.size:=zt A.o;have e9:o.heap.size<wc.heap.size:=zt u;have a9:G6 (xw L L w wc):=G7 ((xw.of a5.o).trans (xw.of V));have a7:G6 (∀b,Lm L b->b<w.heap.size):=G7 a6.o;have p0:=(zg u 0).1;have p1:=(zg u 1).1;have k0:=(zg d 0).1;have k5:=(zg d 5).1;have k6:=(zg d 6).1;have k7:=(zg d 7).1;have k8:=(zg d 8).1;simp at p0 p1 k0 k5 k6 k7 k8;clear u d V;have y:=NU p.ob p.cb p.st p.lv p.ks j f on R T S ms (Lm L) wc (k.o.off i p HP.o).1 (k.o.ref i p HP.o).1 (by have:=B.o.1;omega) B.o.2.1 (λb hb=>VN (a7.o b hb) (by omega)) B.o.2.2.2 (N.below k.o.low) hr hl O (hC.below k.o.low).q.p;have F:=G7 y;clear y N hr hl O hC;go_wp2_with(go_at_call 22;apply F.o.mono;rintro e w4⟨rfl,t4⟩;have B4:=G7 t4;clear t4);go_ret;exact⟨L,_,_,_,m,rfl,a9.o.trans (xw.of B4.o),k.o.below B4.o,a4.o,aW HN.o.symm,by rw[HN.o];omega,by omega,by rw[HN.o];exact v⟩
end Go.Proofs.YtfjpcldndaiifaaGreatDoor
namespace Go.Proofs.YtfjpcldndaiifaaGreatDoor
open laws Go.ChangeShapes Go.WideShapes Go.ChangeAt Go.RowKit Go.Joins Go.Deep
def Y8(w:J)(o:OpD)(K:Nat):Prop:=∃a:List (BY×BY),QC w o.ma o.mn o.mc a/\o.who.size<=K/\o.act.size<=K/\o.on.size<=K/\a.length<=K/\∀m ∈ a,m.1.size<=K/\m.2.size<=K
theorem Y8.more{w:J}{o:OpD}{K a:Nat}(h:Y8 w o K)(k:K<=a):Y8 w o a:=by
 obtain⟨e,b,f,g,i,j,c⟩:=h;exact⟨e,b,by omega,by omega,by omega,by omega,λm d=>by have:=c m d;omega⟩
section
variable {H:Type} {enc:TypeId×Y->H} {w:J} {spare:Nat->Bool} {held:Bool}
theorem Gm{P:Program}{base fuel:Nat}{t:TypeId}{b:Array Field}{cs:List Y}{x:DataW H×List MemPlace}(q:P.underlying t=some (.struct b))(h:DataW.trod enc P w base spare held fuel t cs=some x):cs.length=P.cellsOf t/\∀(i:Nat) (f:Field),b[i]?=some f->∀(u:TypeId) (o c:Nat),f.type=u->f.offset=o->P.cellsOf u=c->∃n y,DataW.trod enc P w base spare held n u ((cs.drop o).take c)=some y/\Rows.uptoBulk y.1<=Rows.uptoBulk x.1:=by
 obtain⟨d,n,_,rfl,k,s,a⟩:=DataW.trod_struct q h;refine⟨k,λi f g u o c r p j=>?_⟩;have l:i<b.size:=(JI.1 g).1;have e:=a i f g;subst r;rw[p,j,P7]at e;have m:d[i].1 ∈ d.map (·.1):=xI.2 ⟨d[i],qm _,rfl⟩
 have:=iq m
 refine⟨n,_,e,?_⟩;simp only[Rows.uptoBulk];omega
theorem fq{fuel:Nat}{v:Y}{x:DataW H×List MemPlace}(h:DataW.trod enc prog w 0 spare held fuel 9 [v]=some x):∃s:BY,v=S9 s/\s.size<=Rows.uptoBulk x.1/\s.size<=maxLen:=by
 obtain⟨s,q,a,f⟩:=aF underlying9 h;simp only[List.cons.injEq,J4]at q;refine⟨s,q,?_,f⟩;rw[a];simp only[Rows.uptoBulk];rw[U.zF];omega
theorem zaK{fuel:Nat}{v:Y}{x:DataW H×List MemPlace}(h:DataW.trod enc prog w 0 spare held fuel 33 [v]=some x)(L:∀b,spare b=true):∃z B A r,v=TL z B A/\QC w z B A r/\r.length<=Rows.uptoBulk x.1/\∀m ∈ r,m.1.size<=Rows.uptoBulk x.1/\m.2.size<=Rows.uptoBulk x.1:=by
 have E:prog.cellsOf 107=2:=by kernel_rfl
 have t:prog.cellsOf 9=1:=by kernel_rfl
 rcases open_slice_pairs underlying33 underlying107 E rfl rfl t t h with⟨e,_⟩|⟨a,len,cap,m2,n2,V0,V1,D0,D1,P0,P1,e,_,hl,hmx,hmm,rfl,hcell⟩
 ·simp only[List.cons.injEq,J4]at e;exact⟨none,0,0,[],e,⟨rfl,.inl ⟨rfl,rfl,rfl⟩⟩,by simp,λm p=>by simp at p⟩
 simp only[List.cons.injEq,J4]at e;rw[L,zb rfl]at hmm
 have g:∀i,i<len->∃x:BY×BY,V0 i=S9 x.1/\V1 i=S9 x.2/\D0 i=.lit (.string x.1.data.toList)/\D1 i=.lit (.string x.2.data.toList):=λi k=>by
  obtain⟨_,_,t0,t1⟩:=hcell i (by omega);obtain⟨C,u,f0,_⟩:=aF underlying9 t0;obtain⟨D,y,f1,_⟩:=aF underlying9 t1;simp only[List.cons.injEq,J4]at u y;simp only[Prod.mk.injEq]at f0 f1;exact⟨(C,D),u,y,f0.1,f1.1⟩
 obtain⟨F,hF⟩:=choose_lt g;have c:((List.range len).map F).length=len:=by simp
 have f:∀j (h:j<((List.range len).map F).length),((List.range len).map F)[j]=F j:=λj h=>by simp
 have o:=tu ((List.range len).map λi=>DataW.agg [D0 i,D1 i]);rw[qf,XT]at o;refine⟨some a,len,cap,(List.range len).map F,e,⟨c.symm,.inr ⟨a,rfl,λj h=>?_⟩⟩,?_,λM p=>?_⟩
 ·rw[f j h];have K:j<len:=by rw[c]at h;exact h
  obtain⟨s,c1,_,_⟩:=hcell j (by omega);obtain⟨G,I,_,_⟩:=hF j K;rw[G]at s;rw[I]at c1;exact⟨s,c1⟩
 ·rw[c];simp only[Rows.uptoBulk];omega
 obtain⟨i,k,rfl⟩:=xI.1 p;have n:i<len:=vk.1 k;obtain⟨_,_,d0,d1⟩:=hF i n;have q:=iq (H:=H) (d := .agg [D0 i,D1 i]) (l:=(List.range len).map λi=>DataW.agg [D0 i,D1 i]) (xI.2 ⟨i,k,rfl⟩);rw[d0,d1]at q;simp only[Rows.uptoBulk,Rows.uptoBulkAll]at q |-;rw[U.zF,U.zF]at q
 constructor<;>omega
end
def Y9(w:J)(o:OpD)(K:Nat):Prop:=Y8 w o K/\o.text.size<=K
theorem Y9.more{w:J}{o:OpD}{K a:Nat}(h:Y9 w o K)(b:K<=a):Y9 w o a:=⟨h.1.more b,xD h.2 b⟩
section
variable {H:Type} {enc:TypeId×Y->H} {w:J} {spare:Nat->Bool} {held:Bool}
theorem zbM{fuel:Nat}{cs:List Y}{x:DataW H×List MemPlace}(h:DataW.trod enc prog w 0 spare held fuel 37 cs=some x)(F:∀b,spare b=true):∃o:OpD,cs=[R9 o.kind,R9 o.a,R9 o.layer,S9 o.name,S9 o.text,S9 o.who,S9 o.act,S9 o.on,TL o.ma o.mn o.mc]/\JX o/\Y9 w o (Rows.uptoBulk x.1):=by
 have c3:prog.cellsOf 3=1:=by kernel_rfl
 have e:prog.cellsOf 9=1:=by kernel_rfl
 have p:prog.cellsOf 35=4:=by kernel_rfl
 have l:prog.cellsOf 33=1:=by kernel_rfl
 have n:prog.cellsOf 37=9:=by kernel_rfl
 obtain⟨f,c⟩:=Gm underlying37 h;rw[n]at f
 match cs,f with
 | [u0,u1,u2,u3,u4,u5,u6,u7,u8],_=>
  obtain⟨n0,y0,r,_⟩:=c 0 _ rfl _ 0 1 rfl rfl c3;obtain⟨n1,y1,s,_⟩:=c 1 _ rfl _ 1 1 rfl rfl c3;obtain⟨n2,y2,t,_⟩:=c 2 _ rfl _ 2 1 rfl rfl c3;obtain⟨n3,y3,u,_⟩:=c 3 _ rfl _ 3 1 rfl rfl e;obtain⟨n4,y4,y,z4⟩:=c 4 _ rfl _ 4 1 rfl rfl e;obtain⟨n5,y5,z,z5⟩:=c 5 _ rfl _ 5 4 rfl rfl p;obtain⟨_,d⟩:=Gm underlying35 z;obtain⟨n6,y6,A,z6⟩:=d 0 _ rfl _ 0 1 rfl rfl e;obtain⟨n7,y7,B,z7⟩:=d 1 _ rfl _ 1 1 rfl rfl e;obtain⟨n8,y8,C,z8⟩:=d 2 _ rfl _ 2 1 rfl rfl e;obtain⟨n9,y9,D,z9⟩:=d 3 _ rfl _ 3 1 rfl rfl l;obtain⟨G,g,_,f0⟩:=fQ underlying3 r;obtain⟨I,i,_,f1⟩:=fQ underlying3 s;obtain⟨K,j,_,f2⟩:=fQ underlying3 t;obtain⟨V,k,_,f3⟩:=aF underlying9 u;obtain⟨W,P,q,f4⟩:=fq (v:=u4) y;obtain⟨X,Q,f6,_⟩:=fq (v:=u5) A;obtain⟨s7,R,f7,_⟩:=fq (v:=u6) B;obtain⟨s8,S,f8,_⟩:=fq (v:=u7) C;obtain⟨L,N,M,O,T,f9,f10,f11⟩:=zaK (v:=u8) D F;simp at g i j k;subst g i j k P Q R S T;exact⟨⟨G,I,K,V,W,X,s7,s8,L,N,M⟩,rfl,⟨nu f0,nu f1,nu f2,f3,f4⟩,⟨O,f9,by simp only;omega,by simp only;omega,by simp only;omega,by omega,λm E=>by have:=f11 m E;omega⟩,by simp only;omega⟩
theorem zbQ{fuel:Nat}{v:Y}{x:DataW H×List MemPlace}(h:DataW.trod enc prog w 0 spare held fuel 22 [v]=some x)(C:∀b,spare b=true):∃g:List OpD,g.length<=Rows.uptoBulk x.1/\VO w v g/\∀o ∈ g,JX o/\Y9 w o (Rows.uptoBulk x.1):=by
 have O:prog.cellsOf 37=9:=by kernel_rfl
 rcases open_slice underlying22 h with⟨e,_⟩|⟨a,len,cap,m,n,D,Pl,e,_,hl,hmx,hmm,rfl,hcell⟩
 ·simp only[List.cons.injEq,J4]at e;subst e;exact⟨[],by simp,⟨none,0,rfl,λk r R=>by simp at R⟩,λo c=>by simp at c⟩
 simp only[List.cons.injEq,J4]at e;subst e;rw[C,zb rfl]at hmm;rw[O]at hcell
 have p:∀i,i<len->∃o:OpD,(JX o/\Y9 w o (Rows.uptoBulk (D i)))/\∃s q,some a=some (G8 s q)/\UX w s (q+i*9) o:=by
  intro i y
  have A:∃b o,a=G8 b o:=by
   obtain⟨G,K,t0⟩:=hcell 0 (by omega);obtain⟨_,Q,t⟩:=World.cells?_some K
   have:=t 0 (by omega)
   rw[add_add,Nat.zero_mul,Qh,P7]at this;exact zbN this
  obtain⟨s,q,rfl⟩:=A;obtain⟨E,L,M⟩:=hcell i (by omega);obtain⟨o,rfl,f,I⟩:=zbM M C;obtain⟨_,_,u⟩:=World.cells?_some L
  have cell:∀j,j<9->w.cell? (G8 s (q+i*9+j))=[Value.int .i64 o.kind,R9 o.a,R9 o.layer,S9 o.name,S9 o.text,S9 o.who,S9 o.act,S9 o.on,TL o.ma o.mn o.mc][j]?:=by
   intro j P
   have:=u j P
   rw[add_add,addr_add,<- JV]at this;exact this
  exact⟨o,⟨f,I⟩,s,q,rfl,cell 0 (by omega),cell 1 (by omega),cell 2 (by omega),cell 3 (by omega),cell 4 (by omega),cell 5 (by omega),cell 6 (by omega),cell 7 (by omega),cell 8 (by omega)⟩
 obtain⟨F,hF⟩:=choose_lt p;have N:=tu ((List.range len).map D);rw[qf,XT]at N;refine⟨(List.range len).map F,?_,⟨some a,cap,by rw[qf,XT],λk o c=>?_⟩,λo c=>?_⟩
 ·rw[qf,XT];simp only[Rows.uptoBulk];omega
 ·have B:k<len:=by
   have:=(zU.1 c).1
   rw[qf,XT]at this;exact this
  rw[ui,aM B]at c;simp only[Ja,Option.some.injEq]at c;subst c;exact(hF k B).2
 obtain⟨i,y,rfl⟩:=xI.1 c;have z:=vk.1 y;obtain⟨f1,f2⟩:=(hF i z).1;have S:=iq (H:=H) (d:=D i) (l:=(List.range len).map D) (xI.2 ⟨i,y,rfl⟩);refine⟨f1,f2.more ?_⟩;simp only[Rows.uptoBulk];omega
end
end Go.Proofs.YtfjpcldndaiifaaGreatDoor
namespace Go.Proofs.YtfjpcldndaiifaaGreatDoor
open Go.RowKit
theorem Y8.below{w w':J}{o:OpD}{K:Nat}(h:Y8 w o K)(c:BQ w w'):Y8 w' o K:=by
 obtain⟨d,a,b⟩:=h;exact⟨d,a.below c,b⟩
theorem NP{k:Int}(h:inK [1,2,3,6] k=true):k=1\/k=2\/k=3\/k=6:=by
 unfold inK at h
 simpa using h
theorem NQ{w:J}{r:Addr}(v:jL w r){o:OpD}(B:JX o)(D:Y8 w o 1048576)(C:inK [1,2,3,6] o.kind=true):bg w o:=by
 obtain⟨z,a,layer,b,c,h,d,on,l,p,n⟩:=o;obtain⟨_,t,_,y,E⟩:=B;obtain⟨F,i,G,H,I,M,A⟩:=D;simp only at G H I i;intro L W g e q m k f s j K
 rcases NP C with rfl|rfl|rfl|rfl
 ·exact oF w L W w.heap.size g e q m k f j a layer b c h d on l p n
 ·exact oG w r v L W w.heap.size g e q m k f s j a layer b c h d on l p n t y E
 ·exact oD w L W w.heap.size g e q m k f s j a layer b c h d on l p n t y
 refine zeb w r v L W w.heap.size g e q m k f s j a layer b c h d on l p n F t i ⟨?_,?_,?_,?_,λx u=>?_⟩ ⟨?_,?_,?_,?_,λx u=>?_⟩ (by omega)
 ·simp only;omega
 ·simp only;omega
 ·simp only;omega
 ·simp only;omega
 ·have:=A x u;omega
 ·simp only;unfold maxLen;omega
 ·simp only;unfold maxLen;omega
 ·simp only;unfold maxLen;omega
 ·simp only;omega
 have:=A x u;unfold maxLen;omega
theorem Hm{k:Int}(h:inK [1,2,3,4,5,6,7,8,9] k=true):k=1\/k=2\/k=3\/k=4\/k=5\/k=6\/k=7\/k=8\/k=9:=by
 unfold inK at h
 simpa using h
theorem Ht{w:J}{n:Addr}(k:jL w n){o:OpD}(q:JX o)(A:Y9 w o 1048576)(C:inK [1,2,3,4,5,6,7,8,9] o.kind=true):bg w o:=by
 have key:inK [1,2,3,4,5] o.kind=true\/inK [1,2,3,6] o.kind=true\/o.kind=7\/o.kind=8\/o.kind=9:=by
  rcases Hm C with e|e|e|e|e|e|e|e|e<;>rw[e]<;>decide
 rcases key with h|h|h|h|h
 ·exact WM k q h
 ·exact NQ k q A.1 h
 all_goals
  obtain⟨B,a,layer,b,c,j,d,on,t,v,u⟩:=o;obtain⟨_,_,_,z,s⟩:=q;obtain⟨⟨E,l,F,G,H,O,I⟩,K⟩:=A;simp only at F G H l K z s h;subst h;intro L W i f y m r g p M N
 ·exact zea w n k L W w.heap.size i f y m r g p a layer b c j d on t v u s
 ·exact zej w n k L W w.heap.size i f y m r g p a layer b c j d on t v u s
 refine zef w n k L W w.heap.size i f y m r g p a layer b c j d on t v u E l ⟨?_,?_,?_,?_,λx D=>?_⟩ z (by omega) (by omega)
 ·simp only;omega
 ·simp only;omega
 ·simp only;omega
 ·simp only;omega
 have:=I x D;omega
theorem Ho(w:J)(p:Addr)(s:jL w p)(n:Y)(c:List OpD)(v:VO w n c)(i:∀o ∈ c,JX o/\Y9 w o 1048576)(h:c.length<=10000000):R8 3 #[n] w (G5 (.bool true) w):=by
 obtain⟨l,b⟩:=Nm (w.alloc (L8 #[R9 1,R9 2,R9 3,R9 4,R9 5,R9 6,R9 7,R9 8,R9 9] 3));have d:BQ w l:=by rw[<- b];exact nbl w _
 have g:l.heap[w.heap.size]?=some (L8 #[R9 1,R9 2,R9 3,R9 4,R9 5,R9 6,R9 7,R9 8,R9 9] 3):=by rw[<- b];exact zA w _
 have r:=zco l p (s.below d) n c (v.below d) h w.heap.size 9 [1,2,3,4,5,6,7,8,9] (λj x a=>by
  rw[(zg g j).1]
  match j,a with
  | 0,a=>simp at a;subst a;rfl
  | 1,a=>simp at a;subst a;rfl
  | 2,a=>simp at a;subst a;rfl
  | 3,a=>simp at a;subst a;rfl
  | 4,a=>simp at a;subst a;rfl
  | 5,a=>simp at a;subst a;rfl
  | 6,a=>simp at a;subst a;rfl
  | 7,a=>simp at a;subst a;rfl
  | 8,a=>simp at a;subst a;rfl
  | j+9,a=>simp at a) (by simp) (λo m y=>Ht (s.below d) (i o m).1 ⟨(i o m).2.1.below d,(i o m).2.2⟩ y)
 have⟨u,k,f⟩:=M4 r b d;clear r b d g i;go_enter func3,ntmps3;go_wp2_with(go_at_call 4;rw[k.o];apply u.o.mono;rintro e A⟨rfl,q⟩;have t:=G7 q;clear q);go_ret;exact⟨rfl,f.o.trans (t.o.mono f.o.size)⟩
end Go.Proofs.YtfjpcldndaiifaaGreatDoor
namespace Go.Proofs.YtfjpcldndaiifaaGreatDoor.all
theorem WJ:(Rows.allUptoRow.wf (OpenSpec.ofChange (Rows.OpenSpec.upto Rows.allSpec).bare))=true:=by kernel_rfl
theorem Wq:(Tryz.f3.params.all (prog.readableRec ·))=true:=by kernel_rfl
theorem Wn:(namedTie prog Rows.allUptoRow.named (Rows.OpenSpec.upto Rows.allSpec).bare.vars)=true:=by kernel_rfl
theorem Ww:((Rows.allUptoRow.stops==[]))=true:=by kernel_rfl
theorem Wy:((Rows.allUptoRow.knobs==[]))=true:=by kernel_rfl
theorem TT:((Rows.allUptoRow.inPlace==prog.inPlace 3))=true:=by kernel_rfl
theorem WC:((Rows.allUptoRow.unfollowed==prog.unfollowed 3))=true:=by kernel_rfl
theorem Wv:((Rows.allUptoRow.recurses==prog.recurses 3))=true:=by kernel_rfl
theorem WI:((Rows.allUptoRow.named==prog.varsNamed 3))=true:=by kernel_rfl
theorem TY:((Rows.allUptoRow.maps==(Tryz.f3.params.toList++(Rows.OpenSpec.upto Rows.allSpec).bare.plain.varTypes prog).any (prog.mapsRec ·)))=true:=by kernel_rfl
theorem TZ:((Rows.allUptoRow.ifaces==(Tryz.f3.params.toList++(Rows.OpenSpec.upto Rows.allSpec).bare.plain.varTypes prog).any (prog.ifacesRec ·)))=true:=by kernel_rfl
theorem Wd:((Rows.allUptoRow.mapsOut==prog.mapsAmong Tryz.f3.resultTypes.toList))=true:=by kernel_rfl
theorem We:((Rows.allUptoRow.loops==(Tryz.f3.params.toList++(Rows.OpenSpec.upto Rows.allSpec).bare.plain.varTypes prog).any (prog.loopsFrom ·)))=true:=by kernel_rfl
theorem Wh:((Rows.allUptoRow.wideKeys==(Tryz.f3.params.toList++(Rows.OpenSpec.upto Rows.allSpec).bare.plain.varTypes prog++Tryz.f3.resultTypes.toList).any (prog.wideKeysFrom ·)))=true:=by kernel_rfl
theorem WE:((Rows.OpenSpec.upto Rows.allSpec).bare.vars.all (prog.varReadable ·))=true:=by kernel_rfl
theorem Ws:(Tryz.f3.resultTypes.all (λt=>prog.readableRec t&&decide (t<prog.types.size)))=true:=by kernel_rfl
theorem Wt:((Rows.allUptoRow.ifacesOut==Tryz.f3.resultTypes.toList.any (prog.ifacesRec ·)))=true:=by kernel_rfl
theorem Wu:((Rows.allUptoRow.loopsOut==Tryz.f3.resultTypes.toList.any (prog.loopsFrom ·)))=true:=by kernel_rfl
theorem Wp:((Rows.allUptoRow.plainKeys==prog.plainKeys))=true:=by kernel_rfl
theorem WB:(Rows.allUptoRow.shortTexts.isNone)=true:=by kernel_rfl
theorem TV:((Rows.allUptoRow.lifted==prog.liftsFinal))=true:=by kernel_rfl
theorem Wj:((prog.make==some Rows.allUptoRow.make))=true:=by kernel_rfl
theorem TU:((Rows.allUptoRow.kinds==(if Rows.allUptoRow.domain.isEmpty then [] else Tryz.f3.params.toList.map λt=>match prog.underlying t with|some (.int k)=>some k|_=>none)))=true:=by kernel_rfl
theorem Wo:((Rows.allUptoRow.pinned==Rows.allUptoRow.pinnedBy))=true:=by kernel_rfl
theorem WF:((Rows.allUptoRow.veiled==(Tryz.f3.params.toList++(Rows.OpenSpec.upto Rows.allSpec).bare.plain.varTypes prog++Tryz.f3.resultTypes.toList).any (prog.veiledRec ·)))=true:=by kernel_rfl
theorem WG:(Rows.allUptoRow.veiledFits prog Tryz.f3.params.toList (Tryz.f3.params.toList++(Rows.OpenSpec.upto Rows.allSpec).bare.plain.varTypes prog++Tryz.f3.resultTypes.toList))=true:=by kernel_rfl
theorem TS:Tryz.f3.isInstance prog Rows.allUptoRow.origin Rows.allUptoRow.targs:=DL (by kernel_rfl)
theorem WK:Tryz.f3.isWrapper prog Rows.allUptoRow.wrapper Rows.allUptoRow.mainSum:=by unfold Func.isWrapper;first|(rw[zb (by decide +kernel)];kernel_rfl)|(rw[za (by decide +kernel)];exact⟨rfl,rfl⟩)
theorem Wm:prog.funcNamed Rows.allUptoRow.func=some 3:=by kernel_rfl
end Go.Proofs.YtfjpcldndaiifaaGreatDoor.all
namespace Go.Proofs.YtfjpcldndaiifaaGreatDoor.laws
theorem TW:(laidOutB prog)=true:=by kernel_rfl
theorem Wl:(mapsRowed prog)=true:=by kernel_rfl
theorem Wx:((prog.stops==[]))=true:=by kernel_rfl
theorem Wz:((prog.stopKnobs==[]))=true:=by kernel_rfl
theorem WA:(prog.stopsHeard)=true:=by kernel_rfl
theorem Wi:(prog.mayEnter)=true:=by kernel_rfl
theorem yf{a b:Bool}(h:a=true)(k:b=true):(a&&b)=true:=by rw[h,k];rfl
end Go.Proofs.YtfjpcldndaiifaaGreatDoor.laws
