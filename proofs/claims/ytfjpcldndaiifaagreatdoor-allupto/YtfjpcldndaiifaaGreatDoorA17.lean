/- P -/
import Derived.Test.YtfjpcldndaiifaaGreatDoorA16
open Go.Proofs.Tryz
set_option maxRecDepth 100000
set_option maxHeartbeats 2000000
namespace Go.Proofs.YtfjpcldndaiifaaGreatDoor
open Go.RowKit
theorem Ce(M:Nat):∀(r:List (List UInt8)),(∀x ∈ r,x.length<=M)->Lib.lens r<=r.length*M
 | [],_=>by simp[Lib.lens]
 | x::r,h=>by
  have c:=h x (by simp);have a:=Ce M r (λy b=>h y (by simp[b]));simp only[Lib.lens,yO,List.sum_cons,Qf]at a |-;rw[Nat.succ_mul];omega
theorem BL(xs:List BY):(vY xs).size=(Lib.join (xs.map (·.data.toList)) [44]).length:=by simp[vY,ByteArray.size]
theorem dA(xs:List BY)(M:Nat)(h:∀x ∈ xs,x.size<=M):(vY xs).size<=xs.length*(M+1):=by
 rw[BL]
 cases xs with
 | nil=>simp[Lib.join_nil]
 | cons x r=>
  have d:x.data.toList.length<=M:=by rw[U.zF];exact h x (by simp)
  have b:=Ce M (r.map (·.data.toList)) (λy a=>by
   rw[xI]at a;obtain⟨z,c,rfl⟩:=a;rw[U.zF];exact h z (by simp[c]))
  rw[yO,Lib.join_cons,qE,Lib.joinTail_length];simp only[qf,Qf,JQ]at b |-;have e:(r.length+1)*(M+1)=r.length*M+r.length+M+1:=by rw[Nat.add_mul,Nat.mul_add];omega
  rw[e];omega
theorem Tryz.bx:Builder.Extra prog Tryz.lays156_ren:={
 sizeBuilder:=by kernel_rfl
 liesBuilder:=by kernel_rfl
 t5:=underlying5
 a5:=Tryz.isAgg5
 z5:=Tryz.sizeOf5
 v5:=Tryz.zeroValue5
 infoByte:=by kernel_rfl
 cellsByte:=by kernel_rfl
 sizeByte:=by kernel_rfl
 neB5:=by decide }
theorem mg(xs:List BY)(c:Y)(base:Nat)(w:J)(h:zJ w base c xs)(l:xs.length<=1000)(b:(vY xs).size<=1000000000):R8 125 #[c,S9 ⟨#[44]⟩] w (G5 (.string (vY xs)) w):=by
 rcases h.2 with⟨rfl,h0⟩|⟨g,cap,cur,rfl,_,hb,hle,_⟩
 ·have a:xs=[]:=Y6.1 h0;subst a;exact(Any.strings_Join_none Tryz.lays156 Tryz.bx none 0 ⟨#[44]⟩ w).mono λe d ⟨f,i⟩=>⟨f,i ▸ zf _ _⟩
 exact Any.strings_Join Tryz.lays156 Tryz.bx g 0 cap xs ⟨#[44]⟩ w (λj x a=>by
  have k:j<xs.length:=(zU.1 a).1;rw[qV,World.ownsRow.cellAt h j (by omega)];simp[List.getElem?_map,a]) (zt hb) (by omega) hle (by rw[BL]at b;exact xD b (by decide))
theorem zcx:∀a w,(callFunc 127 a).run prog w=.ok (.enter 127 a) w:=qo func127 (by kernel_rfl) rfl
theorem Ex(b:List BY)(r:Y)(base:Nat)(w:J)(h:zJ w base r b)(k:U.ZO b):R8 178 #[r,.func (.func 127) #[] #[]] w (G5 (.string (U.listedB b)) w):=by
 have t:=k.1;have c1:=zaF b r base 127 U.qh w h (by omega) zcx (λW s p _=>nO s W (by have:=k.2 s p;omega))
 have u:∀x ∈ b.map U.qh,x.size<=80000:=by
  intro x v;rw[xI]at v;obtain⟨s,p,rfl⟩:=v
  have:=U.Z0 s
  have:=k.2 s p
  omega
 have y:=dA _ _ u;rw[qf]at y
 have q:(vY (b.map U.qh)).size<=1000000:=by
  have:b.length*(80000+1)<=10*(80000+1):=Yy _ t
  omega
 have c2:=λW j (l:zJ W w.heap.size j (b.map U.qh))=>mg (b.map U.qh) j w.heap.size W l (by rw[qf];omega) (by omega);rw[KG];unfold uq;obtain⟨f,n⟩:=Nm (vY (b.map U.qh));rw[n]at q |-;simp only[n]at c2;obtain⟨M,o⟩:=Nm (b.map U.qh);rw[o]at c1;simp only[o]at c2;have⟨z,A⟩:=D5 c1 c2;obtain⟨a,c,rfl⟩:=xe h;clear c1 c2 n o u y h k t;go_enter func178,ntmps178
 go_wp2_with(first
  |(go_at_call 125;apply(A.o E _ B.o).mono;rintro e F⟨rfl,i⟩;have m:=G7 (d.o.trans (i.mono d.o.size));clear i)
  |(go_at_call 209;apply z.o.mono;rintro e E⟨C,rfl,l,g⟩;have⟨B,d⟩:=D5 l g;clear l g))
 go_ret;exact⟨rfl,m.o⟩
theorem nM(c:Bool×List BY)(j:Y)(base:Nat)(w:J)(h:zJ w base j c.2)(g:U.ZO c.2):R8 128 #[.agg #[.bool c.1,j]] w (G5 (.string (U.Zv c)) w):=by
 obtain⟨q,l⟩:=c;simp only at h g |-;have c1:=λO:Obj=>Ex l j base (w.alloc O) (World.ownsRow.alloc h O) g;have p:=U.Ug g;unfold U.Zv;obtain⟨f,i⟩:=Nm (U.listedB l);rw[i]at p |-;simp only[i]at c1 |-;have n:=G7 c1;obtain⟨a,c,rfl⟩:=xe h;clear c1 i h g;have o:∀O:Obj,BQ w (w.alloc O):=λO=>nbl w O;have m:=G7 o;clear o
 cases q with
 | true=>
  go_enter func128,ntmps128;go_wp2_with fail;apply(n.o _).mono;rintro e k⟨rfl,b⟩;have r:k.cell? (G8 w.heap.size 0)=some L6:=zi b ((zg (zA w _) 0).1);have d:=G7 ((m.o _).trans (b.mono (by simp)));clear b;go_wp2;go_ret;exact⟨rfl,d.o⟩
 | false=>
  go_enter func128,ntmps128;go_wp2_with fail;apply(n.o _).mono;rintro e k⟨rfl,b⟩;have r:k.cell? (G8 w.heap.size 0)=some T9:=zi b ((zg (zA w _) 0).1);have d:=G7 ((m.o _).trans (b.mono (by simp)));clear b;go_wp2;go_ret;exact⟨rfl,d.o⟩
theorem Below.chain{B:Nat}{a b c:J}(h:Below B a b)(k:BQ b c)(d:B<=a.heap.size):Below B a c:=h.trans (k.mono (xD d h.size))
theorem zce(c:qj)(I:Y)(base:Nat)(w:J)(h:zJ w base I c.vals)(z:c.op.size<=12000)(k:c.key.size<=12000)(u:U.ZO c.vals):R8 130 #[.agg #[S9 c.op,S9 c.key,I,.bool c.no]] w λe w'=>e=.returned (.string (uL c))/\BQ w w':=by
 obtain⟨op,key,g,no⟩:=c;simp only at h z k u |-;unfold uL;simp only;rw[<- KG];have X:=U.Ug u;have z1:=U.Z0 op;have z2:=U.Z0 key;have c1:=λW (V:BQ w W)=>Ex g I base W (ownsRow_below h V) u;obtain⟨r,E⟩:=Nm (U.listedB g);rw[E]at X;simp only[E]at c1;simp only[E];have F:=G7 c1;have l:op.size<=100000:=by omega
 have f:key.size<=100000:=by omega
 obtain⟨C,D,rfl⟩:=xe h;obtain⟨n,H⟩:=Nm g.length;rw[H]at F |-;have L:n<=10:=by rw[<- H];exact u.1
 clear c1 E h u H;obtain⟨A,G⟩:=Nm (w.alloc (L8 #[S9 op,S9 key,TL C n D,.bool no] 262));have o:=zA w (L8 #[S9 op,S9 key,TL C n D,.bool no] 262);have t:BQ w A:=by rw[<- G];exact nbl w _
 rw[G]at o;have O:A.drew.cell? (G8 w.heap.size 0)=some (S9 op):=(zg o 0).1;have P:A.drew.cell? (G8 w.heap.size 1)=some (S9 key):=(zg o 1).1;have Q:A.drew.cell? (G8 w.heap.size 2)=some (TL C n D):=(zg o 2).1;have R:A.drew.cell? (G8 w.heap.size 3)=some (.bool no):=(zg o 3).1;have S:BQ A A.drew:=(zf _ A).drew;have p:=G7 t;clear o t;go_enter func130,ntmps130
 go_upto_region 1 with fail
 go_cut [3] (λs K=>s=S9 (⟨#[123,34,111,112,34,58]⟩++U.qh op++⟨#[44,34,107,101,121,34,58]⟩++U.qh key)/\BQ A K/\K.cell? (G8 w.heap.size 2)=some (TL C n D)/\K.cell? (G8 w.heap.size 3)=some (.bool no))
 case first=>
  go_region_with (go_at_call 127;refine(nO _ _ ?_).mono ?_;(first|exact l|exact f);rintro e B⟨rfl,b⟩;have k0:B.cell? (G8 w.heap.size 0)=some (S9 op):=zi b (by assumption);have k1:B.cell? (G8 w.heap.size 1)=some (S9 key):=zi b (by assumption);have k2:B.cell? (G8 w.heap.size 2)=some (TL C n D):=zi b (by assumption);have k3:B.cell? (G8 w.heap.size 3)=some (.bool no):=zi b (by assumption);have bK:BQ A B:=Below.chain (by assumption) b F7;clear b)
  all_goals
   go_wp2_with fail
   go_meet
   case rel=>exact⟨rfl,by assumption,by assumption,by assumption⟩
 case rest=>
  obtain⟨rfl,v,r2,M⟩:=hcut;have d:G6 (BQ w wc):=p.o.trans (v.mono p.o.size);clear v O P Q R S G;have y:=F.o wc d.o;have q:=G7 y;clear y F;obtain⟨N,j⟩:=Nm ((⟨#[123,34,111,112,34,58]⟩++U.qh op++⟨#[44,34,107,101,121,34,58]⟩++U.qh key:BY))
  have a4:N.size<=200000:=by
   have y1:(⟨#[123,34,111,112,34,58]⟩:BY).size=6:=rfl;have y2:(⟨#[44,34,107,101,121,34,58]⟩:BY).size=7:=rfl;rw[<- j,zV,zV,zV];omega
  rw[j];have i:=G7 j;clear j z1 z2 z k l f
  by_cases hn0:0<n
  ·have T:decide (0<(n:Int))=true:=by simp;omega
   cases no with
   | true=>
    go_wp2_with(go_at_call 178;apply q.o.mono;rintro e w5⟨rfl,a⟩;have s3:=zi a M;have m:=G7 (Below.chain d.o a F7);clear a);go_ret;exact⟨by simp;exact i.o.symm,m.o⟩
   | false=>
    go_wp2_with(go_at_call 178;apply q.o.mono;rintro e w5⟨rfl,a⟩;have s3:=zi a M;have m:=G7 (Below.chain d.o a F7);clear a);go_ret;exact⟨by simp;exact i.o.symm,m.o⟩
  have T:decide (0<(n:Int))=false:=by simp;omega
  cases no with
  | true=>
   go_wp2;go_ret;exact⟨by simp;exact i.o.symm,d.o⟩
  | false=>
   go_wp2;go_ret;exact⟨by simp;exact i.o.symm,d.o⟩
def aZ(c:qj):Prop:=c.op.size<=12000/\c.key.size<=12000/\U.ZO c.vals
structure YC (s:zS):Prop where
 eff:s.eff.size<=12000
 who:U.ZO s.who.2
 act:U.ZO s.act.2
 on:U.ZO s.on.2
 len:s.ifs.length<=5
 cs:∀c ∈ s.ifs,aZ c
theorem wM{c:qj}(h:aZ c):(uL c).size<=1300000:=by
 obtain⟨f,g,b⟩:=h;have i:=U.Z0 c.op;have j:=U.Z0 c.key;have e:=U.Ug b;rw[KG]at e;have k:(⟨#[123,34,111,112,34,58]⟩:BY).size=6:=rfl;have l:(⟨#[44,34,107,101,121,34,58]⟩:BY).size=7:=rfl;have m:(⟨#[44,34,118,97,108,117,101,34,58]⟩:BY).size=9:=rfl;have n:(⟨#[44,34,110,111,34,58,116,114,117,101]⟩:BY).size=10:=rfl;have o:(⟨#[125]⟩:BY).size=1:=rfl
 have a:(⟨#[123,34,111,112,34,58]⟩++U.qh c.op++⟨#[44,34,107,101,121,34,58]⟩++U.qh c.key).size<=200000:=by
  rw[zV,zV,zV];omega
 have d:(⟨#[123,34,111,112,34,58]⟩++U.qh c.op++⟨#[44,34,107,101,121,34,58]⟩++U.qh c.key++(⟨#[44,34,118,97,108,117,101,34,58]⟩++uq (c.vals.map U.qh))).size<=1200000:=by
  rw[zV,zV (a:=⟨#[44,34,118,97,108,117,101,34,58]⟩)];omega
 unfold uL;rw[zV];split
 ·rw[zV];split
  ·omega
  omega
 split
 ·omega
 omega
theorem Cj(l:List BY)(M n:Nat)(h:∀x ∈ l,x.size<=M)(a:l.length<=n):(uq l).size<=n*(M+1)+2:=by
 have b:=dA l M h;have c:l.length*(M+1)<=n*(M+1):=Yy _ a;have d:(⟨#[91]⟩:BY).size=1:=rfl;have e:(⟨#[93]⟩:BY).size=1:=rfl;unfold uq;rw[zV,zV];omega
theorem MV:∀a w,(callFunc 130 a).run prog w=.ok (.enter 130 a) w:=qo func130 (by kernel_rfl) rfl
theorem zcf(cs:List qj)(m:Y)(base:Nat)(w:J)(h:xB w base m cs)(A:cs.length<=5)(g:∀c ∈ cs,aZ c):R8 129 #[m,.func (.func 130) #[] #[]] w (G5 (.string (J8 cs)) w):=by
 have c1:=zaD cs m base 130 uL w h (by omega) MV (λW c D q _ b=>zce c D base W b (g c q).1 (g c q).2.1 (g c q).2.2)
 have t:∀x ∈ cs.map uL,x.size<=1300000:=by
  intro x l;rw[xI]at l;obtain⟨s,B,rfl⟩:=l;exact wM (g s B)
 have u:=dA _ _ t;rw[qf]at u
 have r:(vY (cs.map uL)).size<=10000000:=by
  have:cs.length*(1300000+1)<=5*(1300000+1):=Yy _ A
  omega
 have c2:=λW k (b:zJ W w.heap.size k (cs.map uL))=>mg (cs.map uL) k w.heap.size W b (by rw[qf];omega) (by omega);unfold J8 uq;obtain⟨f,o⟩:=Nm (vY (cs.map uL));rw[o]at r |-;simp only[o]at c2;obtain⟨M,p⟩:=Nm (cs.map uL);rw[p]at c1;simp only[p]at c2;have v:=G7 c1;have y:=G7 c2
 obtain⟨a,c,rfl⟩:∃a c,m=TL a cs.length c:=by
  obtain⟨H,l,_⟩:=h
  rcases l.2 with⟨rfl,h0⟩|⟨gb,c,cur,rfl,_⟩
  ·exact⟨_,_,by rw[h0]⟩
  exact⟨_,_,rfl⟩
 clear c1 c2 o p t u h g;go_enter func129,ntmps129
 go_wp2_with(first
  |(go_at_call 125;apply(y.o F _ z.o).mono;rintro e G⟨rfl,j⟩;have n:=G7 (d.o.trans (j.mono d.o.size));clear j)
  |(go_at_call 179;apply v.o.mono;rintro e F⟨C,rfl,b,i⟩;have⟨z,d⟩:=D5 b i;clear b i))
 go_ret;exact⟨rfl,n.o⟩
theorem wT{cs:List qj}(d:cs.length<=5)(b:∀c ∈ cs,aZ c):(J8 cs).size<=7000000:=by
 have:=Cj (cs.map uL) 1300000 5 (λx a=>by
  rw[xI]at a;obtain⟨s,e,rfl⟩:=a;exact wM (b s e)) (by rw[qf];exact d)
 unfold J8;omega
theorem zcg(s:zS)(l1 l2 l3 lc:Y)(base:Nat)(w:J)(H:zJ w base l1 s.who.2)(I:zJ w base l2 s.act.2)(K:zJ w base l3 s.on.2)(h4:xB w base lc s.ifs)(hS:YC s):R8 76 #[.agg #[S9 s.eff,.bool s.who.1,l1,.bool s.act.1,l2,.bool s.on.1,l3,lc]] w (G5 (.string (uh s)) w):=by
 obtain⟨eff,R,D,on,j⟩:=s;obtain⟨z1,S,T,V,z5,z6⟩:=hS;simp only at H I K h4 z1 S T V z5 z6 |-;unfold uh;simp only[<- bN];have cQ:=λW=>nO eff W (by omega);have E:=λW (i:BQ w W)=>nM R l1 base W (ownsRow_below H i) S;have F:=λW (i:BQ w W)=>nM D l2 base W (ownsRow_below I i) T;have G:=λW (i:BQ w W)=>nM on l3 base W (ownsRow_below K i) V;have cD:=λW (i:BQ w W)=>zcf j lc base W (h4.below i) z5 z6;have y1:=U.Z0 eff;have y2:=U.QH S;have y3:=U.QH T;have y4:=U.QH V;have y5:=wT z5 z6;obtain⟨X,L1⟩:=R;obtain⟨N2,L2⟩:=D;obtain⟨N3,L3⟩:=on;simp only at H I K S T V E F G;obtain⟨x1,c1,rfl⟩:=xe H;obtain⟨x2,c2,rfl⟩:=xe I;obtain⟨x3,c3,rfl⟩:=xe K
 obtain⟨x4,c4,rfl⟩:∃a c,lc=TL a j.length c:=by
  obtain⟨xs,hx,_⟩:=h4
  rcases hx.2 with⟨rfl,h0⟩|⟨gb,c,cur,rfl,_⟩
  ·exact⟨_,_,by rw[h0]⟩
  exact⟨_,_,rfl⟩
 obtain⟨Q,hQ⟩:=Nm (U.qh eff);obtain⟨G1,v⟩:=Nm (U.Zv (X,L1));obtain⟨G2,y⟩:=Nm (U.Zv (N2,L2));obtain⟨G3,z⟩:=Nm (U.Zv (N3,L3));obtain⟨G4,B⟩:=Nm (J8 j);simp only[hQ]at cQ y1;simp only[v]at E y2;simp only[y]at F y3;simp only[z]at G y4;simp only[B]at cD y5;simp only[hQ,v,y,z,B];obtain⟨n,hn⟩:=Nm j.length;obtain⟨n1,N⟩:=Nm L1.length;obtain⟨n2,O⟩:=Nm L2.length;obtain⟨n3,P⟩:=Nm L3.length;rw[hn]at cD z5 |-;rw[N]at E |-;rw[O]at F |-;rw[P]at G |-;have⟨CQ,CA,CB,CC,CD⟩:=M6 cQ E F G cD;clear cQ E F G cD H I K h4 S T V z6 hQ v y z B hn N O P;obtain⟨A,hA⟩:=Nm (w.alloc (L8 #[S9 eff,.bool X,TL x1 n1 c1,.bool N2,TL x2 n2 c2,.bool N3,TL x3 n3 c3,TL x4 n c4] 140));have bl:=zA w (L8 #[S9 eff,.bool X,TL x1 n1 c1,.bool N2,TL x2 n2 c2,.bool N3,TL x3 n3 c3,TL x4 n c4] 140);have u:BQ w A:=by rw[<- hA];exact nbl w _
 rw[hA]at bl;have M:w.heap.size<A.heap.size:=zt bl
 have b:G6 (∀W,BQ A W->(W.cell? (G8 w.heap.size 0)=some (S9 eff)/\W.cell? (G8 w.heap.size 1)=some (.bool X)/\W.cell? (G8 w.heap.size 2)=some (TL x1 n1 c1)/\W.cell? (G8 w.heap.size 3)=some (.bool N2)/\W.cell? (G8 w.heap.size 4)=some (TL x2 n2 c2)/\W.cell? (G8 w.heap.size 5)=some (.bool N3)/\W.cell? (G8 w.heap.size 6)=some (TL x3 n3 c3)/\W.cell? (G8 w.heap.size 7)=some (TL x4 n c4))/\BQ w W):=by
  refine G7 (λW i=>?_);have o:=(i.block _ M).trans bl;exact⟨⟨(zg o 0).1,(zg o 1).1,(zg o 2).1,(zg o 3).1,(zg o 4).1,(zg o 5).1,(zg o 6).1,(zg o 7).1⟩,u.trans (i.mono u.size)⟩
 obtain⟨⟨a0,a1,a2,a3,a4,a5,a6,a7⟩,_⟩:=b.o A E9;clear bl u M
 by_cases hn0:0<n
 ·have dn:decide (0<(n:Int))=true:=by simp;omega
  rw[zb hn0];go_enter func76,ntmps76
  go_wp2_with(first
   |(go_at_call 129;apply(CD.o p (b.o p C).2).mono;rintro e w5⟨rfl,L⟩;have B5:BQ A w5:=Below.chain C L F7;clear L)
   |(go_at_call 128;apply(CC.o m (b.o m t).2).mono;rintro e p⟨rfl,h⟩;have C:BQ A p:=Below.chain t h F7;obtain⟨⟨e0,e1,e2,e3,e4,e5,e6,e7⟩,_⟩:=b.o p C;clear h)
   |(go_at_call 128;apply(CB.o l (b.o l r).2).mono;rintro e m⟨rfl,g⟩;have t:BQ A m:=Below.chain r g F7;obtain⟨⟨d0,d1,d2,d3,d4,d5,d6,d7⟩,_⟩:=b.o m t;clear g)
   |(go_at_call 128;apply(CA.o k (b.o k q).2).mono;rintro e l⟨rfl,f⟩;have r:BQ A l:=Below.chain q f F7;obtain⟨⟨g0,g1,g2,g3,g4,g5,g6,g7⟩,_⟩:=b.o l r;clear f)
   |(go_at_call 127;apply(CQ.o A).mono;rintro e k⟨rfl,d⟩;have q:BQ A k:=d;obtain⟨⟨b0,b1,b2,b3,b4,b5,b6,b7⟩,_⟩:=b.o k q;clear d))
  go_ret;exact⟨rfl,(b.o w5 B5).2⟩
 have dn:decide (0<(n:Int))=false:=by simp;omega
 rw[za hn0];go_enter func76,ntmps76
 go_wp2_with(first
  |(go_at_call 128;apply(CC.o m (b.o m t).2).mono;rintro e p⟨rfl,h⟩;have C:BQ A p:=Below.chain t h F7;obtain⟨⟨e0,e1,e2,e3,e4,e5,e6,e7⟩,_⟩:=b.o p C;clear h)
  |(go_at_call 128;apply(CB.o l (b.o l r).2).mono;rintro e m⟨rfl,g⟩;have t:BQ A m:=Below.chain r g F7;obtain⟨⟨d0,d1,d2,d3,d4,d5,d6,d7⟩,_⟩:=b.o m t;clear g)
  |(go_at_call 128;apply(CA.o k (b.o k q).2).mono;rintro e l⟨rfl,f⟩;have r:BQ A l:=Below.chain q f F7;obtain⟨⟨g0,g1,g2,g3,g4,g5,g6,g7⟩,_⟩:=b.o l r;clear f)
  |(go_at_call 127;apply(CQ.o A).mono;rintro e k⟨rfl,d⟩;have q:BQ A k:=d;obtain⟨⟨b0,b1,b2,b3,b4,b5,b6,b7⟩,_⟩:=b.o k q;clear d))
 go_ret;exact⟨rfl,(b.o p C).2⟩
theorem Gj{L:Nat}:∀(a:List Z.V) (l:List BY),(∀v ∈ a,Z.Good L v)->Z.uy a=some l->l.length=a.length/\∀s ∈ l,s.size<=L
 | [],l,_,h=>by simp only[Z.uy,Option.some.injEq]at h;subst h;simp
 | v::a,l,hg,h=>by
  cases v with
  | str s=>
   simp only[Z.uy]at h
   cases hr:Z.uy a with
   | none=>rw[hr]at h;simp at h
   | some r=>
    rw[hr]at h;simp only[Ja,Option.some.injEq]at h;subst h;obtain⟨d,e⟩:=Gj a r (λv f=>hg v (by simp[f])) hr;refine⟨by simp[d],λt c=>?_⟩
    rcases Zt.1 c with rfl|c
    ·have:=hg (.str t) (by simp)
     cases this with
     | str _ h=>exact h
    ·exact e t c
  | word b=>simp[Z.uy]at h
  | list l=>simp[Z.uy]at h
  | obj l=>simp[Z.uy]at h
theorem Vv{L:Nat}(i:L<=12000)(x:Option Z.V)(e:∀v,x=some v->Z.Good L v):U.ZO ((Z.zN x).getD [])/\((Z.zN x).isSome=true->0<((Z.zN x).getD []).length):=by
 match x with
 | none=>exact⟨⟨by simp[Z.zN],by simp[Z.zN]⟩,λh=>by simp[Z.zN]at h⟩
 | some (.word b)=>exact⟨⟨by simp[Z.zN],by simp[Z.zN]⟩,λh=>by simp[Z.zN]at h⟩
 | some (.obj ms)=>exact⟨⟨by simp[Z.zN],by simp[Z.zN]⟩,λh=>by simp[Z.zN]at h⟩
 | some (.str s)=>
  have:=e _ rfl
  cases this with
  | str _ h=>exact⟨⟨by simp[Z.zN],by simp[Z.zN];omega⟩,λ_=>by simp[Z.zN]⟩
 | some (.list vs)=>
  have:=e _ rfl
  cases this with
  | list _ g f=>
   simp only[Z.zN]
   by_cases c:vs.length<1\/10<vs.length
   ·rw[zb c];exact⟨⟨by simp,by simp⟩,λh=>by simp at h⟩
   rw[za c]
   cases d:Z.uy vs with
   | none=>exact⟨⟨by simp,by simp⟩,λh=>by simp at h⟩
   | some l=>
    obtain⟨a,b⟩:=Gj vs l f d;simp only[yP];exact⟨⟨by omega,λs d=>by have:=b s d;omega⟩,λ_=>by omega⟩
theorem iL{L:Nat}(a:L<=12000)(x:Option Z.V)(d:∀v,x=some v->Z.Good L v):U.ZO (Z.chD (Z.um x)).2:=by
 unfold Z.chD
 match x with
 | none=>exact(Vv a none (λv h=>by cases h)).1
 | some (.word b)=>exact(Vv a _ d).1
 | some (.str s)=>exact(Vv a _ d).1
 | some (.list vs)=>exact(Vv a _ d).1
 | some (.obj ms)=>
  simp only[Z.um]
  by_cases c:Z.qB ms [U.xx]=true/\ms.length=1
  ·rw[zb c];refine(Vv a _ (λv g=>?_)).1
   have:=d _ rfl
   cases this with
   | obj _ i j k f=>
    have e:=xC g;rw[xI]at e;obtain⟨m,e,rfl⟩:=e;exact f m e
  rw[za c];exact⟨by simp,by simp⟩
theorem ni{L:Nat}{x:Option Z.V}(a:∀v,x=some v->Z.Good L v){s:BY}(h:Z.opV x=some s):s.size<=L:=by
 unfold Z.opV at h;split at h
 ·injection h with h
  subst h
  have:=a _ rfl
  cases this with
  | str _ h=>exact h
 cases h
theorem MX{L:Nat}(g:L<=12000)(v:Z.V)(c:Z.Good L v):U.Jc (Z.xQ v):=by
 have a:U.Jc U.yR:=⟨zD _,zD _,zD _,λs d=>by simp[U.yR]at d⟩
 match v,c with
 | .str s,_=>exact a
 | .word b,_=>exact a
 | .list l,_=>exact a
 | .obj ms,c=>
  simp only[Z.xQ,Z.Jj];split
  ·rename_i op key e f;have i:=ni (Z.jr c U.bOp) e;have j:=ni (Z.jr c U.zL) f;split
   ·exact⟨by simp only;omega,by simp only;omega,zD _,λs d=>by simp at d⟩
   obtain⟨h,_⟩:=Vv g _ (Z.jr c U.zK);exact⟨by simp only;omega,by simp only;omega,h.1,h.2⟩
  exact a
theorem zeD{L:Nat}(g:L<=12000)(v:Z.V)(e:Z.Good L v):U.ZP (Z.yD v):=by
 have d:U.ZP Z.vN:=⟨zD _,⟨zD _,λs f=>by simp[Z.vN]at f⟩,⟨zD _,λs f=>by simp[Z.vN]at f⟩,⟨zD _,λs f=>by simp[Z.vN]at f⟩,zD _,λc a=>by simp[Z.vN]at a⟩
 match v,e with
 | .str s,_=>exact d
 | .word b,_=>exact d
 | .list l,_=>exact d
 | .obj ms,e=>
  simp only[Z.yD,Z.JC];split
  ·rename_i eff n k;have o:=ni (Z.jr e Z.zM) k
   have a:(Z.x8 (Z.zm ms Z.bIf)).cs.length<=5/\∀c ∈ (Z.x8 (Z.zm ms Z.bIf)).cs,U.Jc c:=by
    have h:=Z.jr e Z.bIf
    match i:Z.zm ms Z.bIf with
    | none=>exact⟨zD _,λc a=>by simp[Z.x8]at a⟩
    | some (.str s)=>exact⟨zD _,λc a=>by simp[Z.x8]at a⟩
    | some (.word b)=>exact⟨zD _,λc a=>by simp[Z.x8]at a⟩
    | some (.obj ms)=>exact⟨zD _,λc a=>by simp[Z.x8]at a⟩
    | some (.list vs)=>
     have:=h _ i
     cases this with
     | list _ m j=>
      simp only[Z.x8];split
      ·exact⟨zD _,λc a=>by simp at a⟩
      refine⟨by simp;omega,λc a=>?_⟩;simp only[xI]at a;obtain⟨x,i,rfl⟩:=a;exact MX g x (j x i)
   exact⟨by simp only[Z.YO];omega,iL g _ (Z.jr e Z.zY),iL g _ (Z.jr e Z.bDo),iL g _ (Z.jr e Z.bOn),a.1,a.2⟩
  exact d
theorem MS(v:Z.V)(h:Z.condC v≠1){L:Nat}(i:L<=12000)(f:Z.Good L v):U.xR (Z.xQ v).op=decide ((Z.xQ v).vals.length=0):=by
 have g:=Z.wJ v
 have a:(Z.xQ v).sh=false:=by
  cases e:(Z.xQ v).sh with
  | false=>rfl
  | true=>rw[e]at g;exact absurd g h
 match v,f with
 | .str s,_=>exact absurd a (by simp[Z.xQ,U.yR])
 | .word b,_=>exact absurd a (by simp[Z.xQ,U.yR])
 | .list l,_=>exact absurd a (by simp[Z.xQ,U.yR])
 | .obj ms,f=>
  obtain⟨R,c⟩:=Nm (Z.xQ (.obj ms));rw[c]at a |-;simp only[Z.xQ,Z.Jj]at c
  cases h1:Z.opV (Z.zm ms U.bOp) with
  | none=>rw[h1]at c;subst c;simp[U.yR]at a
  | some op=>
   rw[h1]at c
   cases h2:Z.opV (Z.zm ms U.zL) with
   | none=>rw[h2]at c;subst c;simp[U.yR]at a
   | some key=>
    rw[h2]at c;simp only at c
    by_cases ca:U.xR op=true
    ·rw[zb ca]at c;subst c;simp[ca]
    rw[za ca]at c;subst c;simp only[pO,fJ]at a
    have:=(Vv i _ (Z.jr f U.zK)).2 a.1.1.2.1
    have d:U.xR op=false:=by simpa using ca
    simp only[d];symm;simp only[iU];omega
theorem zez(v:Z.V)(h:Z.jd v≠1/\Z.jd v≠2){L:Nat}(m:L<=12000)(f:Z.Good L v):UM (Z.yD v):=by
 match v,f with
 | .str s,_=>exact absurd rfl h.1
 | .word b,_=>exact absurd rfl h.1
 | .list l,_=>exact absurd rfl h.1
 | .obj ms,f=>
  simp only[Z.jd]at h;simp only[Z.yD,Z.JC];split
  ·rename_i eff k p;rw[k]at h;simp only[qJ]at h
   have n:Z.qZ [Z.qx Z.yI (Z.zm ms Z.zM),Z.chC (Z.zm ms Z.zY),Z.chC (Z.zm ms Z.bDo),Z.chC (Z.zm ms Z.bOn),Z.uM (Z.zm ms Z.bIf)]=0:=by
    have:=Z.V9 [Z.qx Z.yI (Z.zm ms Z.zM),Z.chC (Z.zm ms Z.zY),Z.chC (Z.zm ms Z.bDo),Z.chC (Z.zm ms Z.bOn),Z.uM (Z.zm ms Z.bIf)]
    omega
   have e:=(Ku n) (Z.uM (Z.zm ms Z.bIf)) (by simp);have g:=Z.jr f Z.bIf;intro c a;simp only[Z.YO]at a
   match hx:Z.zm ms Z.bIf with
   | none=>rw[hx]at a;simp[Z.x8]at a
   | some (.str s)=>rw[hx]at a;simp[Z.x8]at a
   | some (.word b)=>rw[hx]at a;simp[Z.x8]at a
   | some (.obj ms)=>rw[hx]at a;simp[Z.x8]at a
   | some (.list vs)=>
    rw[hx]at a e
    have:=g _ hx
    cases this with
    | list _ o j=>
     simp only[Z.x8,Z.uM]at a e
     by_cases c5:5<vs.length
     ·rw[zb c5]at a;simp at a
     rw[za c5]at a e
     have i:Z.qZ (vs.map Z.condC)=0:=by
      have:=Z.V9 (vs.map Z.condC)
      omega
     simp only[xI]at a;obtain⟨x,d,rfl⟩:=a;exact MS x ((Ku i) _ (xI.2 ⟨x,d,rfl⟩)).1 m (j x d)
  intro c a;simp[Z.vN]at a
def yo(s:BY):List Z.qi:=if 4000<s.size then [] else match Z.jB s.data.toList with
 | .ok v _=>(qM (stX v)).map Z.yD
 | .err _ _=>[]
theorem lu:∀(a:List Z.qi) (i:Nat),(Z.Qo a i).1=0->∀r ∈ a,r.sh=false/\r.pt=false
 | [],_,_,r,hr=>by simp at hr
 | x::xs,i,h,r,hr=>by
  unfold Z.Qo at h;split at h
  ·simp at h
  rename_i b;split at h
  ·simp at h
  rename_i c
  rcases Zt.1 hr with rfl|hr
  ·exact⟨by simpa using b,by simpa using c⟩
  exact lu xs (i+1) h r hr
theorem eZ(s:BY)(h:(Z.qC s).1=0):(∀r ∈ yo s,UM r/\U.ZP r)/\(yo s).length<=10/\(if 4000<s.size then [] else match Z.jB s.data.toList with
 | .ok v _=>(qM (stX v)).map vP
 | .err _ _=>[])=(yo s).map vQ:=by
 unfold Z.qC at h;unfold yo
 by_cases h1:4000<s.size
 ·rw[zb h1]at h;simp at h
 rw[za h1]at h;rw[za h1,za h1]
 cases hm:Z.jB s.data.toList with
 | err e q=>
  rw[hm]at h
  have:=Z.dZ hm
  unfold Z.Code at this;simp only at h;omega
 | ok v q=>
  rw[hm]at h;simp only at h |-;have j:=Z.ed hm;have m:s.data.toList.length<=12000:=by rw[U.zF];omega
  match v,j with
  | .str t,_=>simp[Z.uO]at h
  | .word b,_=>simp[Z.uO]at h
  | .list l,_=>simp[Z.uO]at h
  | .obj ms,j=>
   simp only[Z.uO]at h
   match hx:Z.zm ms Z.jF with
   | none=>rw[hx]at h;simp at h
   | some (.str t)=>rw[hx]at h;simp at h
   | some (.word b)=>rw[hx]at h;simp at h
   | some (.obj ms)=>rw[hx]at h;simp at h
   | some (.list i)=>
    rw[hx]at h;simp only at h;have d:qM (stX (.obj ms))=i:=by simp[qM,stX,hx]
    rw[d]
    by_cases c:ms.length≠1\/i.length<1\/10<i.length
    ·rw[zb c]at h;simp at h
    rw[za c]at h;have k:=Z.jr j Z.jF _ hx
    have f:∀v ∈ i,Z.Good s.data.toList.length v:=by
     cases k with
     | list _ p o=>exact o
    have g:∀v ∈ i,Z.jd v≠1/\Z.jd v≠2:=by
     intro v d;obtain⟨a,b⟩:=lu _ _ h (Z.yD v) (xI.2 ⟨v,d,rfl⟩);rw[Z.FU v (f v d),a,b]
     decide
    refine⟨λr n=>?_,by rw[qf];omega,?_⟩
    ·rw[xI]at n;obtain⟨v,d,rfl⟩:=n;exact⟨zez v (g v d) m (f v d),zeD m v (f v d)⟩
    rw[kY];exact JR λv d=>zey v (f v d) (g v d)
theorem FW{s:zS}(h:YC s):(uh s).size<=11000000:=by
 have q:=U.Z0 s.eff;have e:=h.eff;have c1:=U.QH h.who;have c2:=U.QH h.act;have c3:=U.QH h.on;have c4:=wT h.len h.cs;rw[bN]at c1 c2 c3;have c:(⟨#[123,34,101,102,102,101,99,116,34,58]⟩:BY).size=10:=rfl;have d:(⟨#[44,34,119,104,111,34,58]⟩:BY).size=7:=rfl;have f:(⟨#[44,34,100,111,34,58]⟩:BY).size=6:=rfl;have g:(⟨#[44,34,111,110,34,58]⟩:BY).size=6:=rfl;have i:(⟨#[44,34,105,102,34,58]⟩:BY).size=6:=rfl;have j:(⟨#[125]⟩:BY).size=1:=rfl
 have b:(⟨#[123,34,101,102,102,101,99,116,34,58]⟩++U.qh s.eff++(⟨#[44,34,119,104,111,34,58]⟩++Xf s.who)++(⟨#[44,34,100,111,34,58]⟩++Xf s.act)++(⟨#[44,34,111,110,34,58]⟩++Xf s.on)).size<=3000000:=by
  simp only[zV];omega
 unfold uh;rw[zV];split
 ·rw[zV,zV (a:=⟨#[44,34,105,102,34,58]⟩)];omega
 omega
theorem zeB:∀a w,(callFunc 76 a).run prog w=.ok (.enter 76 a) w:=qo func76 (by kernel_rfl) rfl
theorem zch(b:List zS)(m:Y)(base:Nat)(w:J)(h:jl w base m b)(B:b.length<=10)(q:∀s ∈ b,YC s):R8 75 #[m,.func (.func 76) #[] #[]] w (G5 (.string (uq (b.map uh))) w):=by
 have c1:=zaE b m base 76 uh w h (by omega) zeB (λW s C D E F r _ H I K L=>zcg s C D E F base W H I K L (q s r))
 have u:∀x ∈ b.map uh,x.size<=11000000:=by
  intro x l;rw[xI]at l;obtain⟨s,r,rfl⟩:=l;exact FW (q s r)
 have v:=dA _ _ u;rw[qf]at v
 have t:(vY (b.map uh)).size<=200000000:=by
  have:b.length*(11000000+1)<=10*(11000000+1):=Yy _ B
  omega
 have c2:=λW j (k:zJ W w.heap.size j (b.map uh))=>mg (b.map uh) j w.heap.size W k (by rw[qf];omega) (by omega);unfold uq;obtain⟨f,o⟩:=Nm (vY (b.map uh));rw[o]at t |-;simp only[o]at c2;obtain⟨M,p⟩:=Nm (b.map uh);rw[p]at c1;simp only[p]at c2;have y:=G7 c1;have z:=G7 c2
 obtain⟨a,c,rfl⟩:∃a c,m=TL a b.length c:=by
  obtain⟨Q,l,_⟩:=h
  rcases l.2 with⟨rfl,h0⟩|⟨gb,c,cur,rfl,_⟩
  ·exact⟨_,_,by rw[h0]⟩
  exact⟨_,_,rfl⟩
 clear c1 c2 o p u v h q;go_enter func75,ntmps75
 go_wp2_with(first
  |(go_at_call 125;apply(z.o O _ A.o).mono;rintro e P⟨rfl,i⟩;have n:=G7 (d.o.trans (i.mono d.o.size));clear i)
  |(go_at_call 126;apply y.o.mono;rintro e O⟨G,rfl,k,g⟩;have⟨A,d⟩:=D5 k g;clear k g))
 go_ret;exact⟨rfl,n.o⟩
theorem zaq{a:List zS}(d:a.length<=10)(c:∀s ∈ a,YC s):(uq (a.map uh)).size<=200000000:=by
 have:=Cj (a.map uh) 11000000 10 (λx b=>by
  rw[xI]at b;obtain⟨s,e,rfl⟩:=b;exact FW (c s e)) (by rw[qf];exact d)
 omega
theorem Eu(b:List zS)(i:Y)(base:Nat)(w:J)(h:jl w base i b)(o:b.length<=10)(m:∀s ∈ b,YC s):R8 42 #[.agg #[i]] w (G5 (.string (Xj b)) w):=by
 have g:∀O:Obj,BQ w (w.alloc O):=λO=>nbl w O;have v:=zaq o m
 have c1:=λO:Obj=>zch b i base (w.alloc O) (by
  obtain⟨p,n,t⟩:=h;exact⟨p,ownsRow_below n (g O),λj u=>(t j u).below (g O)⟩) o m
 unfold Xj;obtain⟨d,l⟩:=Nm (uq (b.map uh));rw[l]at v |-;simp only[l]at c1;have r:=G7 c1;have q:=G7 g
 obtain⟨a,c,rfl⟩:∃a c,i=TL a b.length c:=by
  obtain⟨p,n,_⟩:=h
  rcases n.2 with⟨rfl,h0⟩|⟨gb,c,cur,rfl,_⟩
  ·exact⟨_,_,by rw[h0]⟩
  exact⟨_,_,rfl⟩
 clear c1 l h m g;go_enter func42,ntmps42;go_wp2_with fail;apply(r.o _).mono;rintro e y⟨rfl,f⟩;have k:=G7 ((q.o _).trans (f.mono (by simp)));clear f;go_wp2;go_ret;exact⟨rfl,k.o⟩
theorem FL{r:Z.qi}(h:U.ZP r):YC (vQ r):=
 ⟨h.eff,h.who,h.act,h.on,by show (r.cs.map toS).length<=5;rw[qf];exact h.len,λc e=>by
  rw[show (vQ r).ifs=r.cs.map toS from rfl,xI]at e
  obtain⟨x,f,rfl⟩:=e;obtain⟨a,b,d⟩:=h.cs x f;exact⟨a,b,d⟩⟩
def printed(s:BY):BY:=if (Z.qC s).1=0 then U.QU (yo s) else ⟨#[]⟩
theorem Kk{EL:Y}{T:TypeId}{y:Y}(a:EL=.iface T y){c:Int}{q:Nat}{u:Y}(h:XL EL c q u):(c=0/\u=.nilIface)\/(c≠0/\∃T y,u=.iface T y):=by
 cases h with
 | ok=>exact .inl ⟨rfl,rfl⟩
 | long=>exact .inr ⟨by decide,T,y,a⟩
 | text c q b=>
  refine .inr ⟨by unfold Z.Code at b;omega,?_⟩;unfold Qn;split
  ·exact⟨_,_,rfl⟩
  ·split
   ·exact⟨_,_,rfl⟩
   ·exact⟨_,_,rfl⟩
 | doc p=>exact .inr ⟨by decide,_,_,rfl⟩
 | shape n p=>exact .inr ⟨by decide,_,_,rfl⟩
 | pat n k=>exact .inr ⟨by decide,_,_,rfl⟩
theorem zcq(s:BY)(F:Addr)(w:J)(z:jL w F):R8 26 #[S9 s] w (G5 (.tuple #[.string (printed s),.int .i64 (Z.qC s).1]) w):=by
 have c1:=iW s w _ _ _ rfl z.q
 have a:(Z.qC s).1=0->(∀x ∈ jK s,YC x)/\(jK s).length<=10/\Xj (jK s)=U.QU (yo s):=by
  intro l;obtain⟨G,S,V⟩:=eZ s l;have ht:jK s=(yo s).map vQ:=V;rw[ht];refine⟨λx A=>?_,by rw[qf];exact S,(Ey _ (λr C=>(G r C).1)).symm⟩;rw[xI]at A;obtain⟨r,C,rfl⟩:=A;exact FL (G r C).2
 unfold printed;obtain⟨⟨c,q⟩,o⟩:∃x,Z.qC s=x:=⟨_,rfl⟩;rw[o]at c1 a |-;unfold Yr at c1;simp only at c1 a |-;have c2:=λW u (I:BQ w W) h=>lh c q u F W (z.below I).q.p.d.err (z.below I).q.long h;have⟨E,O⟩:=D5 c1 c2;clear z o c1 c2
 by_cases l:c=0
 ·rw[zb l];obtain⟨K,L,M⟩:=a l;rw[<- M];have c3:=λW N base (h:jl W base N (jK s))=>Eu (jK s) N base W h L K;obtain⟨D,H⟩:=Nm (Xj (jK s));simp only[H]at c3 |-;have P:=G7 c3;subst l;clear c3 H K L M a;go_enter func26,ntmps26
  go_wp2_with(first
   |(go_at_call 42;apply(P.o _ _ _ Q.o).mono;rintro e w2⟨rfl,g⟩;have k:=G7 (f.o.trans (g.mono f.o.size));clear g)
   |(go_at_call 33;apply E.o.mono;rintro e B⟨t,n,v,u,rfl,m,b,i⟩;rcases Kk rfl m with⟨_,rfl⟩|⟨hne,_⟩;rotate_left;exact absurd rfl hne;have f:=G7 (b.alloc b.size (L8 #[TL t n v] 80));have Q:G6 (jl (B.alloc (L8 #[TL t n v] 80)) w.heap.size (TL t n v) (jK s)):=(by obtain⟨xs,A,hcs⟩:=i rfl;exact⟨xs,ownsRow_below A (nbl B _),λj X=>(hcs j X).below (nbl B _)⟩);clear i m b))
  go_ret2;exact⟨rfl,k.o⟩
 rw[za l];clear a;go_enter func26,ntmps26
 go_wp2_with(first
  |(go_at_call 34;apply(O.o _ _ f.o R.o).mono;rintro e w2⟨rfl,g⟩;have k:=G7 (f.o.trans (g.mono f.o.size));clear g)
  |(go_at_call 33;apply E.o.mono;rintro e B⟨t,n,v,u,rfl,m,b,i⟩;have R:=G7 m;rcases Kk rfl m with⟨h00,_⟩|⟨_,T,y,rfl⟩;exact absurd h00 l;have f:=G7 (b.alloc b.size (L8 #[TL t n v] 80));clear i m b))
 go_ret2;exact⟨rfl,k.o⟩
end Go.Proofs.YtfjpcldndaiifaaGreatDoor
namespace Go.Proofs.YtfjpcldndaiifaaGreatDoor
open Go.Shelf
def Tryz.lays106_ren:Go.Shelf.Ren:=⟨λ|106=>118|213=>164|265=>200|n=>n,λ|9=>9|3=>3|n=>n,λ|n=>n⟩
theorem Tryz.lays106:Go.Proofs.Lays.n106 prog Tryz.lays106_ren:={
 mixed:=by kernel_rfl
 f106:=func118.trans (congrArg some (by kernel_rfl))
 f213:=func164.trans (congrArg some (by kernel_rfl))
 f265:=func200.trans (congrArg some (by kernel_rfl))
 t3:=underlying3
 a3:=Tryz.isAgg3
 z3:=Tryz.sizeOf3
 v3:=Tryz.zeroValue3
 t9:=underlying9
 a9:=Tryz.isAgg9
 z9:=Tryz.sizeOf9
 v9:=Tryz.zeroValue9 }
def Tryz.laysPu25_ren:Go.Shelf.Ren:=⟨λ|25=>119|n=>n,λ|9=>9|3=>3|4=>4|37=>210|0=>0|47=>314|5=>5|n=>n,λ|n=>n⟩
theorem Tryz.laysPu25:Go.Proofs.LaysPu.n25 prog Tryz.laysPu25_ren:={
 mixed:=by kernel_rfl
 f25:=func119.trans (congrArg some (by kernel_rfl))
 t0:=underlying0
 a0:=Tryz.isAgg0
 z0:=Tryz.sizeOf0
 v0:=Tryz.zeroValue0
 i0:=by kernel_rfl
 t3:=underlying3
 a3:=Tryz.isAgg3
 z3:=Tryz.sizeOf3
 v3:=Tryz.zeroValue3
 i3:=by kernel_rfl
 t4:=underlying4
 a4:=Tryz.isAgg4
 z4:=Tryz.sizeOf4
 v4:=Tryz.zeroValue4
 i4:=by kernel_rfl
 t5:=underlying5
 a5:=Tryz.isAgg5
 z5:=Tryz.sizeOf5
 v5:=Tryz.zeroValue5
 i5:=by kernel_rfl
 t9:=underlying9
 a9:=Tryz.isAgg9
 z9:=Tryz.sizeOf9
 v9:=Tryz.zeroValue9
 i9:=by kernel_rfl
 t37:=underlying210
 a37:=Tryz.isAgg210
 z37:=Tryz.sizeOf210
 v37:=Tryz.zeroValue210
 i37:=by kernel_rfl
 t47:=underlying314
 a47:=Tryz.isAgg314
 z47:=Tryz.sizeOf314
 v47:=Tryz.zeroValue314
 i47:=by kernel_rfl }
def Tryz.lays8grow_ren:Go.Shelf.Ren:=⟨λ|4=>120|n=>n,λ|22=>68|25=>159|3=>3|4=>4|9=>9|20=>20|0=>0|n=>n,λ|n=>n⟩
theorem Tryz.lays8grow:Go.Proofs.Lays8.n4 prog Tryz.lays8grow_ren:={
 mixed:=by kernel_rfl
 f4:=⟨Tryz.f120.name,by decide,func120.trans (congrArg some (by kernel_rfl))⟩
 t0:=underlying0
 a0:=Tryz.isAgg0
 z0:=Tryz.sizeOf0
 v0:=Tryz.zeroValue0
 t3:=underlying3
 a3:=Tryz.isAgg3
 z3:=Tryz.sizeOf3
 v3:=Tryz.zeroValue3
 t4:=underlying4
 a4:=Tryz.isAgg4
 z4:=Tryz.sizeOf4
 v4:=Tryz.zeroValue4
 t9:=underlying9
 a9:=Tryz.isAgg9
 z9:=Tryz.sizeOf9
 v9:=Tryz.zeroValue9
 t20:=underlying20
 a20:=Tryz.isAgg20
 z20:=Tryz.sizeOf20
 v20:=Tryz.zeroValue20
 t22:=underlying68
 a22:=Tryz.isAgg68
 z22:=Tryz.sizeOf68
 v22:=Tryz.zeroValue68 }
end Go.Proofs.YtfjpcldndaiifaaGreatDoor
