/- P -/
import Derived.Test.YtfjpcldndaiifaaGreatDoorA26
open Go.Proofs.Tryz
set_option maxRecDepth 100000
set_option maxHeartbeats 2000000
namespace Go.Proofs.YtfjpcldndaiifaaGreatDoor
open Go.RowKit
def gN(w:J)(base:Nat)(xs:List Y)(j:Nat)(c:U.qz):Prop:=
 ∃a,xs[j*4]?=some (S9 c.op)/\xs[j*4+1]?=some (S9 c.key)/\xs[j*4+2]?=some a/\xs[j*4+3]?=some (.bool c.no)/\w.ownsRow base 9 1 a c.vals.length (U.strCells c.vals)
def yA(w:J)(base:Nat)(b:Y)(cs:List U.qz):Prop:=
 ∃a,w.ownsRow base 265 4 b cs.length a/\∀j,(h:j<cs.length)->gN w base a j cs[j]
theorem yA.nil(w:J)(base:Nat):yA w base R4 []:=⟨[],qF _ _ _ _,λj a=>by simp at a⟩
theorem yA.kept{w w':J}{base:Nat}{g:Y}{cs:List U.qz}(h:yA w base g cs)(f:∀i,base<=i->i<w.heap.size->w'.heap[i]?=w.heap[i]?):yA w' base g cs:=by
 obtain⟨o,k,m⟩:=h;refine⟨o,XC k f,λj n=>?_⟩;obtain⟨l,a,b,c,d,e⟩:=m j n;exact⟨l,a,b,c,d,XC e f⟩
theorem yA.mono{w:J}{base f:Nat}{i:Y}{cs:List U.qz}(h:yA w base i cs)(g:f<=base):yA w f i cs:=by
 obtain⟨o,k,m⟩:=h;refine⟨o,xS k g,λj n=>?_⟩;obtain⟨l,a,b,c,d,e⟩:=m j n;exact⟨l,a,b,c,d,xS e g⟩
theorem YU{W j:J}{base a:Nat}{e c:TypeId}{size b:Nat}{i v:Y}{n m:Nat}{xs k:List Y}(own:W.ownsRow base e size i n xs)(h:W.ownsRow a c b v m k)(f:e≠c)(l:W.grownBy j i.ownBlock):j.ownsRow a c b v m k:=by
 refine h.kept l ?_
 rcases h.2 with⟨rfl,_⟩|⟨g,cap,cur,rfl,_,hb,_⟩
 ·exact .inl rfl
 refine .inr λd=>?_
 rcases own.2 with⟨rfl,_⟩|⟨g2,cap2,cur2,rfl,_,hb2,_⟩
 ·simp[Value.ownBlock]at d
 simp only[Value.ownBlock,Option.some.injEq]at d;subst d;rw[hb2]at hb;injection hb with hb
 injection hb with _ hb
 exact f hb
theorem yA.snoc{W q:J}{base:Nat}{r s p:Y}{cs:List U.qz}{xs:List Y}(own:W.ownsRow base 265 4 r cs.length xs)(t:∀j,(h:j<cs.length)->gN W base xs j cs[j])(c:U.qz)
  (o:W.ownsRow base 9 1 p c.vals.length (U.strCells c.vals))(g:W.grownBy q r.ownBlock)(i:q.ownsRow base 265 4 s (cs.length+1) (xs++[S9 c.op,S9 c.key,p,.bool c.no])):yA q base s (cs++[c]):=by
 have m:xs.length=cs.length*4:=own.1;have k:(265:TypeId)≠9:=by decide
 refine⟨_,by rw[qE];exact i,λj u=>?_⟩;rw[qE,kX]at u
 by_cases hlt:j<cs.length
 ·rw[UR hlt];obtain⟨l,a,b,d,e,f⟩:=t j hlt;refine⟨l,?_,?_,?_,?_,YU own f k g⟩
  ·rw[P9];exact a
  ·rw[P9];exact b
  ·rw[P9];exact d
  rw[P9];exact e
 have n:j=cs.length:=by omega
 subst n;rw[gy F7];simp only[Nat.sub_self,rA];refine⟨p,?_,?_,?_,?_,YU own o k g⟩
 ·rw[P8,m,Nat.sub_self];rfl
 ·rw[P8,m,show cs.length*4+1-cs.length*4=1 by omega];rfl
 ·rw[P8,m,show cs.length*4+2-cs.length*4=2 by omega];rfl
 rw[P8,m,show cs.length*4+3-cs.length*4=3 by omega];rfl
def pV(w:J)(a:Nat)(d c:Bool)(R:U.aD)(e:Ending)(w':J):Prop:=
 ∃b,e=.returned b/\w.grownBy w' (some a)/\qA w' a (d||R.sh) (c||R.pt)/\yA w' w.heap.size b R.cs
structure Qd (w:J) (fb:Nat) (nc:Array Y) (sh pt:Bool) (wx:J):Prop where
 g:w.grownBy wx (some fb)
 f:qA wx fb sh pt
 n:wx.heap[w.heap.size]?=some (.cells nc 165 (0,0))
theorem Qd.start{w:J}{b:Nat}{e d:Bool}(f:qA w b e d)(a:Array Y):Qd w b a e d (w.alloc (.cells a 165)):=by
 have c:BQ w (w.alloc (.cells a 165)):=nbl _ _;exact⟨But.of _ c,f.below c,zA w _⟩
theorem Qd.size{w a:J}{b:Nat}{c:Array Y}{e d:Bool}(h:Qd w b c e d a):w.heap.size+1<=a.heap.size:=zt h.n
theorem Qd.grown{w i d:J}{a:Nat}{f:Array Y}{m l c b:Bool}(k:a<w.heap.size)(h:Qd w a f m l i)(e:i.grownBy d (some a))(j:qA d a c b):Qd w a f c b d:=by
 have o:=h.size;exact⟨But.trans h.g e,j,(e.block _ (by omega) (by simp;omega)).trans h.n⟩
theorem Qd.app{w j k:J}{b:Nat}{c:Array Y}{e d:Bool}(l:b<w.heap.size)(h:Qd w b c e d j)(a:Below (w.heap.size+1) j k):Qd w b c e d k:=by
 refine⟨⟨a.os.trans h.g.os,a.tape.trans h.g.tape,a.output.trans h.g.output,xD h.g.size a.size,λi m o=>(a.block i (by omega)).trans (h.g.block i m o)⟩,(a.block b (by omega)).trans h.f,(a.block _ (by omega)).trans h.n⟩
theorem Nh(ns:List U.Node)(a:List Nat)(j:Nat)(b:j<a.length)(x:U.Node)(c:ns[a[j]]?=some x):U.yX ns (a.take (j+1))=U.yX ns (a.take j)++[U.Qm ns x]:=by
 rw[Qg,zn b];unfold U.yX;rw[uz];simp[c]
theorem MN(w:J)(O:Obj)(t:TypeId)(a b c d:Y):∀(j:Nat) (u:Y),[a,b,c,d][j]?=some u->((w.alloc O).alloc (L8 #[a,b,c,d] t)).cell? (((G8 (w.heap.size+1) 0):Addr).add j)=some u:=by
 have h:=bB (base:=w.heap.size) (e:=t) (size:=4) (w.alloc O) #[a,b,c,d] 1 (by simp) (by decide) rfl;rw[uH]at h;exact λj u f=>h.cells (g:=w.heap.size+1) rfl j u f
theorem Tryz.infoRCond:(prog.info? 265).map (λi=>(i.zero,i.size,i.bytes))=some (some (.agg #[R5,R5,R4,T9]),4,64):=by kernel_rfl
theorem Nn{w wr d:J}{l:Nat}{m:Y}{done:List U.qz}{op key:BY}{a:List BY}{no:Bool}{b:Option Addr}{c:Nat}(h:yA wr (w.heap.size+1) m done)(g:w.heap.size+1<=wr.heap.size)(q:l<w.heap.size)(n:wr.grownBy d (some l))
  (s:d.ownsRow wr.heap.size 9 1 (TL b a.length c) a.length (U.strCells a)):∃e,((d.alloc (L8 #[S9 op,S9 key,TL b a.length c,.bool no] 265)).alloc (L8 #[S9 op,S9 key,TL b a.length c,.bool no] 265)).ownsRow (w.heap.size+1) 265 4 m done.length e /\
   (∀j,(h:j<done.length)->gN ((d.alloc (L8 #[S9 op,S9 key,TL b a.length c,.bool no] 265)).alloc (L8 #[S9 op,S9 key,TL b a.length c,.bool no] 265)) (w.heap.size+1) e j done[j]) /\
   ((d.alloc (L8 #[S9 op,S9 key,TL b a.length c,.bool no] 265)).alloc (L8 #[S9 op,S9 key,TL b a.length c,.bool no] 265)).ownsRow (w.heap.size+1) 9 1 (TL b a.length c) a.length (U.strCells a):=by
 have k:BQ d ((d.alloc (L8 #[S9 op,S9 key,TL b a.length c,.bool no] 265)).alloc (L8 #[S9 op,S9 key,TL b a.length c,.bool no] 265)):=(nbl _ _).alloc (by simp) _;obtain⟨e,o,p⟩:=(h.kept (λi r f=>n.block i f (by simp;omega))).kept (λi r f=>k.block i f);exact⟨e,o,p,ownsRow_below (xS s g) k⟩
theorem Nf(k:Int)(w0:J)(base b gg cap:Nat)(ns:List U.Node)(o:Nat)(sh X:Bool)(w:J)(G:kr w0 base b gg cap ns w)(hk:k<ns.length)(f4:-1<=k)(c2:w0.heap.size<=o)(hf:qA w o sh X):R8 124 #[RG b 0,R9 k,RG o 0] w (pV w o sh X (U.X4 ns k)):=by
 have N:o<w.heap.size:=zt hf;obtain⟨R,r⟩:=Nm (U.X4 ns k);rw[r];unfold U.X4 at r
 by_cases hneg:k<0
 ·rw[zb hneg]at r;subst r;go_enter func124,ntmps124;go_wp2;go_ret;exact⟨_,rfl,But.of _ E9,by simpa using hf,yA.nil _ _⟩
 rw[za hneg]at r;obtain⟨i,rfl⟩:∃i:Nat,k=i:=⟨k.toNat,by omega⟩;have P:i<ns.length:=by omega
 simp only[yE,zn P]at r;have hn:=zn P;have h:=G.at;obtain⟨v,a1,a2,a3,a4,a5,a6⟩:=G.rd.node i _ hn;replace a1:=zi G.bel a1;replace a2:=zi G.bel a2;replace a3:=zi G.bel a3;replace a4:=zi G.bel a4;have V:=h.small i _ hn;obtain⟨n,c8⟩:=Nm (ns[i]);rw[c8]at r hn a1 a2 a5 a6 V;obtain⟨v1,v2⟩:=v;simp only at a3 a4 a5 a6;have c9:=h.slice;obtain⟨nl,S⟩:=Nm ns.length;have c6:=h.len;rw[S]at c9 P hk c6;obtain⟨H,B,ss,a⟩:=n;simp only at r a1 a2 a3 a4 a5 a6 V;obtain⟨ka,kc,W,cK⟩:=jU a6;obtain⟨na,nc,rfl,_⟩:=jU a5;obtain⟨p,Q⟩:=Nm a.length;rw[Q]at W cK V r;rw[W]at a4;have⟨CK,HE,HR,K,HN,j3,HF⟩:=M8 cK G r Q hn S hf;have i0:(0:Int)<=(i:Int):=qd _;have i1:(i:Int)<(nl:Int):=by omega
 obtain⟨f0,f1,f2,f3⟩:=hf.cell;have bA:∀O:Obj,BQ w (w.alloc O):=λO=>nbl _ O;have e6:=λO:Obj=>zi (bA O) f0;have e7:∀O:Obj,(w.alloc O).frozen? (G8 o 0)=false:=λO=>(HF.o.below (bA O)).cell.2.2.1
 have q:G6 (∀O:Obj,w.grownBy ((w.setCell (G8 o 0) L6).alloc O) (some o)/\qA ((w.setCell (G8 o 0) L6).alloc O) o (sh||true) (X||false)):=by
  refine G7 (λO=>⟨But.trans (But.set _ _ _ _) (But.of _ (nbl _ O)),?_⟩)
  have:=(HF.o.shape true).below (nbl _ O)
  simpa using this
 clear h G r c8 hn S Q a5 a6 cK f4 hk W hf f0 f1 f2 f3 bA;go_enter func124,ntmps124;have T:=HR.o
 by_cases h2:H≠2
 ·rw[zb (.inl h2)]at T;subst T;have j7:(H != 2)=true:=by simp[h2]
  clear HR;go_wp2;go_ret;exact⟨_,rfl,(q.o _).1,(q.o _).2,yA.nil _ _⟩
 rw[Ne,aG]at h2;subst h2
 by_cases hk5:5<p
 ·rw[zb (.inr hk5)]at T;subst T;have f5:decide (5<(p:Int))=true:=by simp;omega
  clear HR;go_wp2;go_ret;exact⟨_,rfl,(q.o _).1,(q.o _).2,yA.nil _ _⟩
 rw[N8]at T;have e0:=G7 T;have f5:decide (5<(p:Int))=false:=by simp;omega
 clear T HR q;obtain⟨i0,hi,f7,f8,f9⟩:=qU Tryz.infoRCond;go_wp2_with fail
 go_loopw [8,9] (λlv jv wr=>∃(j:Nat),j<=p/\jv=R9 j/\yA wr (w.heap.size+1) lv (U.yX ns (a.take j)) /\
   Qd w o #[R9 2,S9 B,TL na ss.length nc,TL ka p kc] (sh||(U.yX ns (a.take j)).any U.qz.sh) (X||(U.yX ns (a.take j)).any U.qz.pt) wr) (λ_ jv _=>p-(intOf jv).toNat)
 case atStart=>
  refine⟨0,by omega,rfl,yA.nil _ _,?_⟩
  have:=Qd.start HF.o #[R9 2,S9 B,TL na ss.length nc,TL ka p kc]
  simpa [U.yX] using this
 case round=>
  obtain⟨j,hj,rfl,b9,F⟩:=hrel;have⟨D,l⟩:=D5 b9 F;have c3:wr.cell? (G8 w.heap.size 3)=some (TL ka p kc):=(zg F.n 3).1;have f6:=F.size;have c0:(U.yX ns (a.take j)).length=j:=by unfold U.yX;rw[qf,jg,K.o];omega
  clear b9 F a1 a2 a3 a4 c9 e6 e7
  by_cases hlt:j<p
  ·obtain⟨g,rfl,q1⟩:=CK.o j hlt;have l1:j<a.length:=by rw[K.o];exact hlt
   rw[yK,U.KI a j l1]at q1;have t:=HE.o.at.kid HN.o j l1;simp only at t;have hx:=zn t;obtain⟨x,d0⟩:=Nm (ns[a[j]]);rw[d0]at hx;have HT:=G7 (Nh ns a j l1 x hx);have M:=HE.o.grown l.o.g c2;have q2:=zi M.bel q1;have cc:=MZ a[j] w0 base b gg cap ns x o _ _ wr M hx c2 l.o.f;obtain⟨kid,c5⟩:=Nm (a[j]);rw[c5]at q2 cc;obtain⟨C,hC⟩:=Nm (U.Qm ns x);rw[hC]at cc;have E:G6 (U.yX ns (a.take (j+1))=U.yX ns (a.take j)++[C]):=by rw[<- hC];exact HT
   obtain⟨done,s⟩:=Nm (U.yX ns (a.take j));rw[s]at D l E c0 cc;obtain⟨g9,A⟩:=Nm ((sh||done.any U.qz.sh));obtain⟨g7,z⟩:=Nm ((X||done.any U.qz.pt));rw[A,z]at l cc;have⟨e3,d9⟩:=D5 A z;obtain⟨op,key,I,no,b7,b6⟩:=C;have CC:=G7 cc;clear q1 hx d0 t HT hC s A z M c5 cc
   go_wp2_with(first
    |(go_at_call 173;apply CC.o.mono;rintro e w2⟨l2,rfl,g2,L,o2⟩;simp only at g2 L o2;obtain⟨la,lc,rfl⟩:=jb o2;have⟨G2,d7⟩:=D5 g2 L;obtain⟨xs,ro,rc,o3⟩:=Nn (op:=op) (key:=key) (no:=no) D.o f6 N g2 o2;have⟨O3,RO,RC⟩:=M4 o3 ro rc;have i2:=g2.size;clear g2 L o2 ro rc o3)
    | (at_builtin;refine yh _ rfl _ _ 171 rfl (w.heap.size+1) 265 i0 (.agg #[R5,R5,R4,T9]) 4 64 underlying171 hi f7 f8 f9 rfl (by decide) _ done.length xs rfl RO.o (G8 (w2.heap.size+1) 0) 1 1 [S9 op,S9 key,TL la I.length lc,.bool no] rfl rfl ?_ ?_ ?_ ?_ ?_ ?_))
   ·exact MN _ _ _ _ _ _ _
   ·intro u hu;simp at hu;rcases hu with rfl|rfl|rfl|rfl<;>rfl
   ·unfold maxLen;omega
   ·omega
   ·simp;omega
   intro v' w3 y m _;have a9:=G7 (yA.snoc RO.o RC.o ⟨op,key,I,no,b7,b6⟩ O3.o m (by rw[c0];exact y));have K3:=(l.o.grown N G2.o d7.o).app N ((((zf _ w2).alloc (by omega) _).alloc (by simp;omega) _).grown m (by simp;omega) (λk hk=>(RO.o.lt k hk).1))
   have K4:G6 (Qd w o #[R9 2,S9 B,TL na ss.length nc,TL (some (G8 g 0)) p kc] (sh||(U.yX ns (a.take (j+1))).any U.qz.sh) (X||(U.yX ns (a.take (j+1))).any U.qz.pt) w3):=by
    have e1:(sh||(U.yX ns (a.take (j+1))).any U.qz.sh)=(g9||b7):=by rw[E.o,<- e3.o];simp[Bool.or_assoc]
    have e2:(X||(U.yX ns (a.take (j+1))).any U.qz.pt)=(g7||b6):=by rw[E.o,<- d9.o];simp[Bool.or_assoc]
    rw[e1,e2];exact G7 K3
   have b0:G6 (yA w3 (w.heap.size+1) v' (U.yX ns (a.take (j+1)))):=by rw[E.o];exact a9
   clear y m K3 a9 RO RC O3 D l;go_wp2;go_roundw
   case rel=>exact⟨j+1,by omega,by go_num,b0.o,K4.o⟩
   case measure=>simp[intOf];omega
  have e9:j=a.length:=by rw[K.o];omega
  have c4:R=⟨U.yX ns (a.take j),(U.yX ns (a.take j)).any U.qz.sh,(U.yX ns (a.take j)).any U.qz.pt⟩:=by rw[e9,UU];exact e0.o.symm
  subst c4;go_wp2;go_ret;exact⟨_,rfl,l.o.g,l.o.f,D.o.mono (by omega)⟩
def Za(w:J)(base:Nat)(a b c d:Y)(R:Z.qi):Prop:=
 w.ownsRow base 9 1 a R.who.2.length (U.strCells R.who.2)/\w.ownsRow base 9 1 b R.act.2.length (U.strCells R.act.2)/\w.ownsRow base 9 1 c R.on.2.length (U.strCells R.on.2)/\yA w base d R.cs
def UZ(w:J)(R:Z.qi)(e:Ending)(w':J):Prop:=
 ∃a b c d,e=.returned (.tuple #[.agg #[.string R.eff,.bool R.who.1,a,.bool R.act.1,b,.bool R.on.1,c,d],.agg #[.bool R.sh,.bool R.pt]])/\BQ w w'/\Za w' w.heap.size a b c d R
theorem Za.kept{w w':J}{base:Nat}{b c d e:Y}{R:Z.qi}(h:Za w base b c d e R)(a:∀i,base<=i->i<w.heap.size->w'.heap[i]?=w.heap[i]?):Za w' base b c d e R:=
 ⟨XC h.1 a,XC h.2.1 a,XC h.2.2.1 a,h.2.2.2.kept a⟩
theorem Za.mono{w:J}{base a:Nat}{c d e f:Y}{R:Z.qi}(h:Za w base c d e f R)(b:a<=base):Za w a c d e f R:=
 ⟨xS h.1 b,xS h.2.1 b,xS h.2.2.1 b,h.2.2.2.mono b⟩
structure ym (w:J) (nc sc:Array Y) (sh pt:Bool) (wx:J):Prop where
 g:BQ w wx
 r:wx.heap[w.heap.size]?=some (L8 #[R5,T9,R4,T9,R4,T9,R4,R4] 173 (0,0))
 rf:wx.heap[w.heap.size+1]?=some (L8 #[T9,T9] 175 (0,0))
 n:wx.heap[w.heap.size+2]?=some (.cells nc 165 (0,0))
 s:wx.heap[w.heap.size+3]?=some (.cells sc 173 (0,0))
 f:qA wx (w.heap.size+4) sh pt
theorem Rm(w:J)(a b c d e:Obj):(((((w.alloc a).alloc b).alloc c).alloc d).alloc e).heap[w.heap.size]?=some a/\(((((w.alloc a).alloc b).alloc c).alloc d).alloc e).heap[w.heap.size+1]?=some b/\(((((w.alloc a).alloc b).alloc c).alloc d).alloc e).heap[w.heap.size+2]?=some c /\
  (((((w.alloc a).alloc b).alloc c).alloc d).alloc e).heap[w.heap.size+3]?=some d/\(((((w.alloc a).alloc b).alloc c).alloc d).alloc e).heap[w.heap.size+4]?=some e:=by
 obtain⟨t1,t2,t3⟩:=Gp w a b c;have f:(((w.alloc a).alloc b).alloc c).heap.size=w.heap.size+3:=by simp
 obtain⟨u1,u2⟩:=Zn (((w.alloc a).alloc b).alloc c) d e;rw[f]at u1 u2
 have k:∀i,i<w.heap.size+3->(((((w.alloc a).alloc b).alloc c).alloc d).alloc e).heap[i]?=(((w.alloc a).alloc b).alloc c).heap[i]?:=by
  intro i g;rw[Qz _ _ _ (by simp;omega),Qz _ _ _ (by simp;omega)]
 exact⟨(k _ (by omega)).trans t1,(k _ (by omega)).trans t2,(k _ (by omega)).trans t3,u1,u2⟩
theorem ym.start(w:J)(a:Array Y):ym w a #[R5,T9,R4,T9,R4,T9,R4,R4] false false
   (((((w.alloc (L8 #[R5,T9,R4,T9,R4,T9,R4,R4] 173)).alloc (L8 #[T9,T9] 175)).alloc (.cells a 165)).alloc (L8 #[R5,T9,R4,T9,R4,T9,R4,R4] 173)).alloc (L8 #[T9,T9] 175)):=by
 obtain⟨t1,t2,t3,t4,t5⟩:=Rm w (L8 #[R5,T9,R4,T9,R4,T9,R4,R4] 173) (L8 #[T9,T9] 175) (.cells a 165) (L8 #[R5,T9,R4,T9,R4,T9,R4,R4] 173) (L8 #[T9,T9] 175);exact⟨(((((nbl _ _).alloc (by simp) _).alloc (by simp;omega) _).alloc (by simp;omega) _).alloc (by simp;omega) _),t1,t2,t3,t4,t5⟩
theorem ym.size{w a:J}{b d:Array Y}{e c:Bool}(h:ym w b d e c a):w.heap.size+5<=a.heap.size:=zt h.f
theorem ym.below{w b j:J}{c e:Array Y}{i d:Bool}(h:ym w c e i d b)(a:BQ b j):ym w c e i d j:=by
 have k:=h.size;exact⟨h.g.trans (a.mono (by omega)),(a.block _ (by omega)).trans h.r,(a.block _ (by omega)).trans h.rf,(a.block _ (by omega)).trans h.n,(a.block _ (by omega)).trans h.s,h.f.below a⟩
theorem ym.grown{w i d:J}{e f:Array Y}{l k c b:Bool}(h:ym w e f l k i)(a:i.grownBy d (some (w.heap.size+4)))(j:qA d (w.heap.size+4) c b):ym w e f c b d:=by
 have m:=h.size;exact⟨h.g.trans (But.below a (by omega) (by omega)),(a.block _ (by omega) (by simp)).trans h.r,(a.block _ (by omega) (by simp)).trans h.rf,(a.block _ (by omega) (by simp)).trans h.n,(a.block _ (by omega) (by simp)).trans h.s,j⟩
theorem ym.shape{w d:J}{a c:Array Y}{e b:Bool}(h:ym w a c e b d)(x:Bool):ym w a c x b (d.setCell (G8 (w.heap.size+4) 0) (.bool x)):=
 h.grown (But.set _ _ _ _) (h.f.shape x)
theorem ym.put{w a:J}{d j:Array Y}{k e:Bool}(h:ym w d j k e a)(o:Nat)(u:Y)(c:Array Y)(b:c=j.set! o u):ym w d c k e (a.setCell (G8 (w.heap.size+3) o) u):=by
 subst b;have ne:∀i,i≠w.heap.size+3->(a.setCell (G8 (w.heap.size+3) o) u).heap[i]?=a.heap[i]?:=λi l=>qy _ _ _ _ (by simp only;omega);exact⟨h.g.setCell (by simp only;omega) _,(ne _ (by omega)).trans h.r,(ne _ (by omega)).trans h.rf,(ne _ (by omega)).trans h.n,yC a _ o _ _ _ h.s,(ne _ (by omega)).trans h.f⟩
theorem ym.cells{w a:J}{e g i j b c1 c2 c3 c4 c5 c d:Y}{l k:Bool}(h:ym w #[e,g,i,j] #[b,c1,c2,c3,c4,c5,c,d] l k a):(a.cell? (G8 (w.heap.size+2) 0)=some e/\a.cell? (G8 (w.heap.size+2) 1)=some g/\a.cell? (G8 (w.heap.size+2) 2)=some i/\a.cell? (G8 (w.heap.size+2) 3)=some j) /\
  (a.cell? (G8 (w.heap.size+3) 0)=some b/\a.cell? (G8 (w.heap.size+3) 1)=some c1/\a.cell? (G8 (w.heap.size+3) 2)=some c2/\a.cell? (G8 (w.heap.size+3) 3)=some c3/\a.cell? (G8 (w.heap.size+3) 4)=some c4/\a.cell? (G8 (w.heap.size+3) 5)=some c5/\a.cell? (G8 (w.heap.size+3) 6)=some c/\a.cell? (G8 (w.heap.size+3) 7)=some d) /\
  (∀o,a.frozen? (G8 (w.heap.size+3) o)=false) /\
  (a.cell? (G8 (w.heap.size+4) 0)=some (.bool l)/\a.cell? (G8 (w.heap.size+4) 1)=some (.bool k)/\a.frozen? (G8 (w.heap.size+4) 0)=false):=
 ⟨⟨(zg h.n 0).1,(zg h.n 1).1,(zg h.n 2).1,(zg h.n 3).1⟩,⟨(zg h.s 0).1,(zg h.s 1).1,(zg h.s 2).1,(zg h.s 3).1,(zg h.s 4).1,(zg h.s 5).1,(zg h.s 6).1,(zg h.s 7).1⟩,
  λo=>(zg h.s o).2,h.f.cell.1,h.f.cell.2.1,h.f.cell.2.2.1⟩
theorem ym.res{w a:J}{b d:Array Y}{e c:Bool}(h:ym w b d e c a):(a.cell? (G8 w.heap.size 0)=some R5/\a.cell? (G8 w.heap.size 1)=some T9/\a.cell? (G8 w.heap.size 2)=some R4/\a.cell? (G8 w.heap.size 3)=some T9/\a.cell? (G8 w.heap.size 4)=some R4/\a.cell? (G8 w.heap.size 5)=some T9/\a.cell? (G8 w.heap.size 6)=some R4/\a.cell? (G8 w.heap.size 7)=some R4) /\
  (a.cell? (G8 (w.heap.size+1) 0)=some T9/\a.cell? (G8 (w.heap.size+1) 1)=some T9)/\(∀o,a.frozen? (G8 w.heap.size o)=false)/\(∀o,a.frozen? (G8 (w.heap.size+1) o)=false):=
 ⟨⟨(zg h.r 0).1,(zg h.r 1).1,(zg h.r 2).1,(zg h.r 3).1,(zg h.r 4).1,(zg h.r 5).1,(zg h.r 6).1,(zg h.r 7).1⟩,⟨(zg h.rf 0).1,(zg h.rf 1).1⟩,λo=>(zg h.r o).2,λo=>(zg h.rf o).2⟩
def kQ(w:J)(b:Nat)(a c d e f g h i:Y):J:=(((((((w.setCell (G8 b 0) a).setCell (G8 b 1) c).setCell (G8 b 2) d).setCell (G8 b 3) e).setCell (G8 b 4) f).setCell (G8 b 5) g).setCell (G8 b 6) h).setCell (G8 b 7) i
def set2(w:J)(b:Nat)(a c:Y):J:=(w.setCell (G8 b 0) a).setCell (G8 b 1) c
theorem JB{w:J}{b:Nat}{t:TypeId}{cs:Array Y}(h:w.heap[b]?=some (.cells cs t (0,0)))(o:Nat)(u:Y):(w.setCell (G8 b o) u).heap[b]?=some (.cells (cs.set! o u) t (0,0)):=yC w b o _ _ _ h
theorem FH{w:J}{b:Nat}{t:TypeId}{m c1 c2 c3 c4 c5 f d:Y}(h:w.heap[b]?=some (L8 #[m,c1,c2,c3,c4,c5,f,d] t (0,0)))(a c e g i j k l:Y):(kQ w b a c e g i j k l).heap[b]?=some (L8 #[a,c,e,g,i,j,k,l] t (0,0)):=by
 have x:(#[m,c1,c2,c3,c4,c5,f,d]:Array Y).set! 0 a=#[a,c1,c2,c3,c4,c5,f,d]:=rfl;have n:=JB h 0 a;rw[x]at n;have y:(#[a,c1,c2,c3,c4,c5,f,d]:Array Y).set! 1 c=#[a,c,c2,c3,c4,c5,f,d]:=rfl;have o:=JB n 1 c;rw[y]at o;have z:(#[a,c,c2,c3,c4,c5,f,d]:Array Y).set! 2 e=#[a,c,e,c3,c4,c5,f,d]:=rfl;have p:=JB o 2 e;rw[z]at p;have A:(#[a,c,e,c3,c4,c5,f,d]:Array Y).set! 3 g=#[a,c,e,g,c4,c5,f,d]:=rfl;have q:=JB p 3 g;rw[A]at q;have B:(#[a,c,e,g,c4,c5,f,d]:Array Y).set! 4 i=#[a,c,e,g,i,c5,f,d]:=rfl;have r:=JB q 4 i;rw[B]at r;have C:(#[a,c,e,g,i,c5,f,d]:Array Y).set! 5 j=#[a,c,e,g,i,j,f,d]:=rfl;have s:=JB r 5 j;rw[C]at s;have D:(#[a,c,e,g,i,j,f,d]:Array Y).set! 6 k=#[a,c,e,g,i,j,k,d]:=rfl;have u:=JB s 6 k;rw[D]at u;have E:(#[a,c,e,g,i,j,k,d]:Array Y).set! 7 l=#[a,c,e,g,i,j,k,l]:=rfl;have v:=JB u 7 l;rw[E]at v;exact v
theorem FC{w:J}{b:Nat}{t:TypeId}{d c1:Y}(h:w.heap[b]?=some (L8 #[d,c1] t (0,0)))(a c:Y):(set2 w b a c).heap[b]?=some (L8 #[a,c] t (0,0)):=
 yC _ b 1 _ _ _ (yC _ b 0 _ _ _ h)
theorem eO(w:J)(b:Nat)(c d e f g h j k:Y)(i:Nat)(a:i≠b):(kQ w b c d e f g h j k).heap[i]?=w.heap[i]?:=by
 unfold kQ
 iterate 8 rw[qy _ _ _ _ (by simp only;exact a)]
theorem eH(w:J)(b:Nat)(c d:Y)(i:Nat)(a:i≠b):(set2 w b c d).heap[i]?=w.heap[i]?:=by
 unfold set2
 iterate 2 rw[qy _ _ _ _ (by simp only;exact a)]
theorem FE{c w:J}{B b:Nat}(h:Below B c w)(a:B<=b)(d e f g i j k l:Y):Below B c (kQ w b d e f g i j k l):=
 (((((((h.setCell a _).setCell a _).setCell a _).setCell a _).setCell a _).setCell a _).setCell a _).setCell a _
theorem Fz{c w:J}{B b:Nat}(h:Below B c w)(a:B<=b)(d e:Y):Below B c (set2 w b d e):=(h.setCell a _).setCell a _
theorem ym.fin{w a:J}{o q:Array Y}{s p:Bool}(h:ym w o q s p a)(b c d e f j k l m n:Y):BQ w (set2 (kQ a w.heap.size b c d e f j k l) (w.heap.size+1) m n)/\(∀i,w.heap.size+2<=i->(set2 (kQ a w.heap.size b c d e f j k l) (w.heap.size+1) m n).heap[i]?=a.heap[i]?) /\
  (set2 (kQ a w.heap.size b c d e f j k l) (w.heap.size+1) m n).heap[w.heap.size]?=some (L8 #[b,c,d,e,f,j,k,l] 173 (0,0)) /\
  (set2 (kQ a w.heap.size b c d e f j k l) (w.heap.size+1) m n).heap[w.heap.size+1]?=some (L8 #[m,n] 175 (0,0)):=by
 refine⟨Fz (FE h.g F7 _ _ _ _ _ _ _ _) (by omega) _ _,λi t=>?_,?_,FC ((eO _ _ _ _ _ _ _ _ _ _ _ (by omega)).trans h.rf) _ _⟩
 ·rw[eH _ _ _ _ _ (by omega),eO _ _ _ _ _ _ _ _ _ _ _ (by omega)]
 rw[eH _ _ _ _ _ (by omega)];exact FH h.r _ _ _ _ _ _ _ _
theorem ym.fin2{w a:J}{o q:Array Y}{s p:Bool}(h:ym w o q s p a)(b c d e f j k l m n:Y):BQ w (kQ (set2 a (w.heap.size+1) m n) w.heap.size b c d e f j k l)/\(∀i,w.heap.size+2<=i->(kQ (set2 a (w.heap.size+1) m n) w.heap.size b c d e f j k l).heap[i]?=a.heap[i]?) /\
  (kQ (set2 a (w.heap.size+1) m n) w.heap.size b c d e f j k l).heap[w.heap.size]?=some (L8 #[b,c,d,e,f,j,k,l] 173 (0,0)) /\
  (kQ (set2 a (w.heap.size+1) m n) w.heap.size b c d e f j k l).heap[w.heap.size+1]?=some (L8 #[m,n] 175 (0,0)):=by
 refine⟨FE (Fz h.g (by omega) _ _) F7 _ _ _ _ _ _ _ _,λi t=>?_,FH ((eH _ _ _ _ _ (by omega)).trans h.r) _ _ _ _ _ _ _ _,?_⟩
 ·rw[eO _ _ _ _ _ _ _ _ _ _ _ (by omega),eH _ _ _ _ _ (by omega)]
 rw[eO _ _ _ _ _ _ _ _ _ _ _ (by omega)];exact FC h.rf _ _
theorem Di{W:J}{g base:Nat}{a b c d e:BY}(h:W.heap[g]?=some (L8 #[S9 a,S9 b,S9 c,S9 d,S9 e] 9 (0,0)))(f:base<=g):W.ownsRow base 9 1 (TL (some (G8 g 0)) 5 5) [a,b,c,d,e].length (U.strCells [a,b,c,d,e]):=
 ⟨rfl,.inr ⟨g,5,_,rfl,f,h,by simp,by decide,rfl,rfl⟩⟩
theorem zd5(i:Nat)(w0:J)(base b gg cap:Nat)(ns:List U.Node)(n:U.Node)(w:J)(t:kr w0 base b gg cap ns w)(hi:ns[i]?=some n)
  (o:U.jA n [Z.zM,Z.zY,Z.bDo,Z.bOn,Z.bIf]=false\/U.zq n Z.zM<0\/U.kindOf ns (U.zq n Z.zM)≠3):R8 73 #[RG b 0,R9 (i:Int)] w (UZ w Z.vN):=by
 obtain⟨⟨v1,v2⟩,⟨na,nc,c4⟩,⟨ka,kc,c5⟩,p,X,cO⟩:=Kv t hi;simp only at c4 c5;subst c4;subst c5;have g4:i<ns.length:=(zU.1 hi).1;have K:=t.at.slice;have c3:=t.rd.len;have eB:=U.vX t.rd.ev hi Z.zM;obtain⟨a1,a2,a3,a4⟩:=p w t.bel;simp only at a3 a4;obtain⟨nl,H⟩:=Nm ns.length;have R:=G7 H;rw[H]at K g4 c3 eB;unfold Xz at X cO;simp only at X cO;obtain⟨A,f⟩:=Nm n.kind;obtain⟨B,j⟩:=Nm n.text;obtain⟨nn,I⟩:=Nm n.names.length;obtain⟨nk,G⟩:=Nm n.kids.length;rw[f]at a1;rw[j]at a2;rw[I]at a3;rw[G]at a4;simp only[f,j,I,G]at X cO;have ST:=ym.start w #[R9 A,S9 B,TL na nn nc,TL ka nk kc];have l:∀wx sc sh pt,ym w #[R9 A,S9 B,TL na nn nc,TL ka nk kc] sc sh pt wx->BQ w0 wx:=λwx _ _ _ h=>t.bel.trans (h.g.mono t.bel.size);obtain⟨C,u⟩:=Nm (U.zq n Z.zM);obtain⟨ON,F⟩:=Nm (U.jA n [Z.zM,Z.zY,Z.bDo,Z.bOn,Z.bIf]);have s:=λW h=>X W Z.zM h;simp only[u]at s;unfold Z.zM at s;rw[u]at eB;rw[u,F]at o;have r:=ST.below (nbl _ (L8 #[S9 Z.zM,S9 Z.zY,S9 Z.bDo,S9 Z.bOn,S9 Z.bIf] 9));have m:=cO _ [Z.zM,Z.zY,Z.bDo,Z.bOn,Z.bIf] _ 0 (l _ _ _ _ r) (Di (zA _ _) I4) (by simp);rw[F]at m;simp only[uH]at m;unfold Z.zM Z.zY Z.bDo Z.bOn Z.bIf at m r;have⟨HE,z⟩:=D5 t l;have i0:(0:Int)<=(i:Int):=qd _;have i1:(i:Int)<(nl:Int):=by omega
 clear t X p u F f j I G l cO H ST;have s1:=λO P:Obj=>zi ((nbl w O).alloc (by simp) P) K;have b1:=λO P:Obj=>zi ((nbl w O).alloc (by simp) P) a1;have b2:=λO P:Obj=>zi ((nbl w O).alloc (by simp) P) a2;have b3:=λO P:Obj=>zi ((nbl w O).alloc (by simp) P) a3;have b4:=λO P:Obj=>zi ((nbl w O).alloc (by simp) P) a4;go_enter func73,ntmps73
 go_upto_region 6 with(first
  |(go_at_call 72;apply(s w1 (z.o w1 _ _ _ C1)).mono;rintro e w2⟨rfl,c1⟩;have C2:=C1.below c1)
  |(go_at_call 122;apply m.mono;rintro e w1⟨rfl,c0⟩;have C1:=r.below c0;obtain⟨⟨g7,g8,g9,h3⟩,_,_,_⟩:=C1.cells))
 have T:=z.o w2 _ _ _ C2
 have k9:w2.cell? (G8 b 2)=some (TL (some (G8 gg 0)) nl cap):=by
  have:=(HE.o.rd.below T).slice
  rwa [R.o]at this
 clear g7 g8 g9 h3 s1 b1 b2 b3 b4 a1 a2 a3 a4 K i0 i1 c0 c1 C1 r s m;obtain⟨_,_,_,⟨h0,h1,h2⟩⟩:=C2.cells;have L:=C2.shape true;obtain⟨_,⟨y0,y1,y2,y3,y4,y5,y6,y7⟩,_,⟨g0,g1,_⟩⟩:=L.cells;obtain⟨⟨t0,t1,t2,t3,t4,t5,t6,t7⟩,⟨u0,u1⟩,y,z1⟩:=L.res;have m0:=y 0;have m2:=y 1;have m3:=y 2;have m4:=y 3;have m5:=y 4;have m6:=y 5;have m7:=y 6;have m8:=y 7;have m9:=z1 0;have n0:=z1 1;have FA:=L.fin R5 T9 R4 T9 R4 T9 R4 R4 L6 T9;have FB:=L.fin2 R5 T9 R4 T9 R4 T9 R4 R4 L6 T9;have M:∀W,BQ w W->UZ w Z.vN (.returned (.tuple #[.agg #[R5,.bool false,R4,.bool false,R4,.bool false,R4,R4],.agg #[.bool true,.bool false]])) W:=λW hb=>⟨_,_,_,_,rfl,hb,qF _ _ _ _,qF _ _ _ _,qF _ _ _ _,yA.nil _ _⟩;have⟨N,Q,a⟩:=M4 FA FB M;clear y z1 FA FB M L C2
 have d:ON=false\/(ON=true/\C<0)\/(ON=true/\0<=C/\U.kindOf ns C≠3):=by
  cases ON
  ·exact .inl rfl
  by_cases e:C<0
  ·exact .inr (.inl ⟨rfl,e⟩)
  refine .inr (.inr ⟨rfl,by omega,?_⟩)
  rcases o with h|h|h
  ·cases h
  ·omega
  exact h
 clear o
 have q:G6 (∀W,W=set2 (kQ (w2.setCell (G8 (w.heap.size+4) 0) L6) w.heap.size R5 T9 R4 T9 R4 T9 R4 R4) (w.heap.size+1) L6 T9\/W=kQ (set2 (w2.setCell (G8 (w.heap.size+4) 0) L6) (w.heap.size+1) L6 T9) w.heap.size R5 T9 R4 T9 R4 T9 R4 R4 ->
   (W.cell? (G8 w.heap.size 0)=some R5/\W.cell? (G8 w.heap.size 1)=some T9/\W.cell? (G8 w.heap.size 2)=some R4/\W.cell? (G8 w.heap.size 3)=some T9/\W.cell? (G8 w.heap.size 4)=some R4/\W.cell? (G8 w.heap.size 5)=some T9/\W.cell? (G8 w.heap.size 6)=some R4/\W.cell? (G8 w.heap.size 7)=some R4)/\(W.cell? (G8 (w.heap.size+1) 0)=some L6/\W.cell? (G8 (w.heap.size+1) 1)=some T9)/\BQ w W):=by
  refine G7 (λW hW=>?_)
  rcases hW with rfl|rfl
  ·obtain⟨k1,_,c,k4⟩:=N.o;exact⟨⟨(zg c 0).1,(zg c 1).1,(zg c 2).1,(zg c 3).1,(zg c 4).1,(zg c 5).1,(zg c 6).1,(zg c 7).1⟩,⟨(zg k4 0).1,(zg k4 1).1⟩,k1⟩
  obtain⟨k1,_,c,k4⟩:=Q.o;exact⟨⟨(zg c 0).1,(zg c 1).1,(zg c 2).1,(zg c 3).1,(zg c 4).1,(zg c 5).1,(zg c 6).1,(zg c 7).1⟩,⟨(zg k4 0).1,(zg k4 1).1⟩,k1⟩
 have LA:=q.o _ (.inl rfl);have LB:=q.o _ (.inr rfl);unfold set2 kQ at LA LB;have⟨D,E⟩:=D5 LA LB;clear q LA LB N Q
 rcases d with rfl|⟨rfl,o1⟩|⟨rfl,o1,o2⟩
 ·go_wp2_with fail;go_region
  all_goals
   obtain⟨⟨e0,e1,e2,e3,e4,e5,e6,e7⟩,⟨e8,e9⟩,S⟩:=D.o;obtain⟨⟨l0,l1,l2,l3,l4,l5,l6,l7⟩,⟨l8,l9⟩,V⟩:=E.o;go_wp2_with fail
   first
    | exact zG (v := .tuple #[.agg #[R5,T9,R4,T9,R4,T9,R4,R4],.agg #[L6,T9]]) (by simp[results,results73,go_sem,e0,e1,e2,e3,e4,e5,e6,e7,e8,e9]) rfl (a.o _ S.drew)
    | exact zG (v := .tuple #[.agg #[R5,T9,R4,T9,R4,T9,R4,R4],.agg #[L6,T9]]) (by simp[results,results73,go_sem,l0,l1,l2,l3,l4,l5,l6,l7,l8,l9]) rfl (a.o _ V.drew)
 ·have d1:decide (C<0)=true:=zB o1;go_wp2_with fail;go_region
  all_goals
   obtain⟨⟨e0,e1,e2,e3,e4,e5,e6,e7⟩,⟨e8,e9⟩,S⟩:=D.o;obtain⟨⟨l0,l1,l2,l3,l4,l5,l6,l7⟩,⟨l8,l9⟩,V⟩:=E.o;go_wp2_with fail
   first
    | exact zG (v := .tuple #[.agg #[R5,T9,R4,T9,R4,T9,R4,R4],.agg #[L6,T9]]) (by simp[results,results73,go_sem,e0,e1,e2,e3,e4,e5,e6,e7,e8,e9]) rfl (a.o _ S.drew)
    | exact zG (v := .tuple #[.agg #[R5,T9,R4,T9,R4,T9,R4,R4],.agg #[L6,T9]]) (by simp[results,results73,go_sem,l0,l1,l2,l3,l4,l5,l6,l7,l8,l9]) rfl (a.o _ V.drew)
 have d1:decide (C<0)=false:=P6;obtain⟨je,rfl,c2⟩:=Vm HE.o C o1 (by rw[R.o];exact eB.2);have j9:(0:Int)<=(je:Int):=qd _;have k0:(je:Int)<(nl:Int):=eB.2;obtain⟨m1,_⟩:=c2 w2 T;obtain⟨KE,b9⟩:=Nm (U.kindOf ns (je:Int));rw[b9]at o2 m1;have d2:(KE != 3)=true:=by simp[o2]
 clear c2 b9 o2 o1;go_wp2_with fail;go_region
 all_goals
  obtain⟨⟨e0,e1,e2,e3,e4,e5,e6,e7⟩,⟨e8,e9⟩,S⟩:=D.o;obtain⟨⟨l0,l1,l2,l3,l4,l5,l6,l7⟩,⟨l8,l9⟩,V⟩:=E.o;go_wp2_with fail
  first
   | exact zG (v := .tuple #[.agg #[R5,T9,R4,T9,R4,T9,R4,R4],.agg #[L6,T9]]) (by simp[results,results73,go_sem,e0,e1,e2,e3,e4,e5,e6,e7,e8,e9]) rfl (a.o _ S.drew)
   | exact zG (v := .tuple #[.agg #[R5,T9,R4,T9,R4,T9,R4,R4],.agg #[L6,T9]]) (by simp[results,results73,go_sem,l0,l1,l2,l3,l4,l5,l6,l7,l8,l9]) rfl (a.o _ V.drew)
end Go.Proofs.YtfjpcldndaiifaaGreatDoor
