/- P -/
import Derived.Test.YtdakgnaojakldaaGreatDoorK27
open Go.Proofs.Tryz
set_option maxRecDepth 100000
set_option maxHeartbeats 2000000
namespace Go.Proofs.YtdakgnaojakldaaGreatDoor
open Go.RowKit
theorem mF(M:Nat):∀(r:List (List UInt8)),(∀x ∈ r,x.length<=M)->Lib.lens r<=r.length*M
 | [],_=>by simp[Lib.lens]
 | x::r,h=>by
  have c:=h x (by simp);have a:=mF M r (λy b=>h y (by simp[b]));simp only[Lib.lens,yf,List.sum_cons,Zz] at a |-;rw[Nat.succ_mul];omega
theorem lX(xs:List BY):(jA xs).size=(Lib.join (xs.map (·.data.toList)) [44]).length:=by simp[jA,ByteArray.size]
theorem V8(xs:List BY)(M:Nat)(h:∀x ∈ xs,x.size<=M):(jA xs).size<=xs.length*(M+1):=by
 rw[lX]
 cases xs with
 | nil=>simp[Lib.join_nil]
 | cons x r=>
  have d:x.data.toList.length<=M:=by rw[Ref.zz];exact h x (by simp)
  have b:=mF M (r.map (·.data.toList)) (λy a=>by
   rw[xQ] at a;obtain⟨z,c,rfl⟩:=a;rw[Ref.zz];exact h z (by simp[c]))
  rw[yf,Lib.join_cons,qz,Lib.joinTail_length];simp only[qB,Zz,Yy] at b |-;have e:(r.length+1)*(M+1)=r.length*M+r.length+M+1:=by rw[Nat.add_mul,Nat.mul_add];omega
  rw[e];omega
theorem Tryz.bx:Builder.Extra prog Tryz.lays156_ren:={
 sizeBuilder:=by kernel_rfl
 liesBuilder:=by kernel_rfl
 t5:=underlying5
 a5:=Tryz.isAgg5
 z5:=Tryz.sizeOf5
 v5:=Tryz.zeroValue5
 infoByte:=by kernel_rfl
 cellsByte:=by kernel_rfl
 sizeByte:=by kernel_rfl
 neB5:=by decide }
theorem aJ(xs:List BY)(lv:Value)(base:Nat)(w:World)(h:zy w base lv xs)(i:xs.length<=1000)(b:(jA xs).size<=1000000000) :
  Calls prog 113 #[lv,.string ⟨#[44]⟩] w λe w'=>e = .returned (.string (jA xs))/\Below w.heap.size w w':=by
 rcases h.2 with ⟨rfl,h0⟩|⟨g,cap,cur,rfl,_,hb,hle,_⟩
 ·have a:xs=[]:=Yx.1 h0;subst a;exact (Any.strings_Join_none Tryz.lays156 Tryz.bx none 0 ⟨#[44]⟩ w).mono λe w' ⟨c,d⟩=>⟨c,d ▸ zf _ _⟩
 ·exact Any.strings_Join Tryz.lays156 Tryz.bx g 0 cap xs ⟨#[44]⟩ w (λj x a=>by
   have f:j<xs.length:=(zP.1 a).1;rw[yJ,World.ownsRow.cellAt h j (by omega)];simp[List.getElem?_map,a]) (zx hb) (by omega) hle (by rw[lX] at b;exact xe b (by decide))
theorem Nv:∀args w,(callFunc 115 args).run prog w = .ok (.enter 115 args) w:=enters_of func115 (by kernel_rfl) rfl
theorem oM(b:List BY)(lv:Value)(base:Nat)(w:World)(h:zy w base lv b)(j:Ref.uD b) :
  Calls prog 171 #[lv,.func (.func 115) #[] #[]] w λe w'=>e = .returned (.string (Ref.yF b))/\Below w.heap.size w w':=by
 have q:=j.1;have c1:=IY b lv base 115 Ref.zV w h (by omega) Nv (λW s o _=>bN s W (by have:=j.2 s o;omega))
 have r:∀x ∈ b.map Ref.zV,x.size<=80000:=by
  intro x t;rw[xQ] at t;obtain⟨s,o,rfl⟩:=t
  have:=Ref.um s
  have:=j.2 s o
  omega
 have u:=V8 _ _ r;rw[qB] at u
 have p:(jA (b.map Ref.zV)).size<=1000000:=by
  have:b.length*(80000+1)<=10*(80000+1):=VB _ q
  omega
 have c2:=λW i (k:zy W w.heap.size i (b.map Ref.zV))=>aJ (b.map Ref.zV) i w.heap.size W k (by rw[qB];omega) (by omega);rw[JV];unfold jM;obtain⟨J,m⟩:=Nm (jA (b.map Ref.zV));rw[m] at p |-;simp only[m] at c2;obtain⟨M,n⟩:=Nm (b.map Ref.zV);rw[n] at c1;simp only[n] at c2;have v:=hid c1;have y:=hid c2;obtain⟨a,c,rfl⟩:=qF h;clear c1 c2 m n r u h j q;go_enter func171,ntmps171
 go_wp2_with (first
  | (go_at_call 113;refine (y.out w1 _ z.out).mono ?_;rintro e B ⟨rfl,g⟩;have l:=hid (d.out.trans (g.mono d.out.size));clear g)
  | (go_at_call 211;refine v.out.mono ?_;rintro e w1 ⟨A,rfl,k,f⟩;have z:=hid k;have d:=hid f;clear k f))
 go_ret;exact⟨rfl,l.out⟩
theorem bL(c:Bool×List BY)(lv:Value)(base:Nat)(w:World)(h:zy w base lv c.2)(f:Ref.uD c.2) :
  Calls prog 116 #[.agg #[.bool c.1,lv]] w λe w'=>e = .returned (.string (Ref.ui c))/\Below w.heap.size w w':=by
 obtain⟨o,l⟩:=c;simp only at h f |-;have c1:=λO:Obj=>oM l lv base (w.alloc O) (World.ownsRow.alloc h O) f;have n:=Ref.YT f;unfold Ref.ui;obtain⟨J,g⟩:=Nm (Ref.yF l);rw[g] at n |-;simp only[g] at c1 |-;have k:=hid c1;obtain⟨a,c,rfl⟩:=qF h;clear c1 g h f;have m:∀O:Obj,Below w.heap.size w (w.alloc O):=λO=>nbl w O;have j:=hid m;clear m
 cases o with
 | true=>
  go_enter func116,ntmps116;go_wp2_with fail;refine (k.out _).mono ?_;rintro e i ⟨rfl,b⟩;have p:i.cell? ⟨w.heap.size,0,none⟩=some (.bool true):=zh b ((zg (zO w _) 0).1);have d:=hid ((j.out _).trans (b.mono (by simp)));clear b
  go_wp2
  go_ret;exact⟨rfl,d.out⟩
 | false=>
  go_enter func116,ntmps116;go_wp2_with fail;refine (k.out _).mono ?_;rintro e i ⟨rfl,b⟩;have p:i.cell? ⟨w.heap.size,0,none⟩=some (.bool false):=zh b ((zg (zO w _) 0).1);have d:=hid ((j.out _).trans (b.mono (by simp)));clear b
  go_wp2
  go_ret;exact⟨rfl,d.out⟩
theorem Below.chain{B:Nat}{a b c:World}(h:Below B a b)(k:Below b.heap.size b c)(d:B<=a.heap.size):Below B a c:=h.trans (k.mono (xe d h.size))
theorem MX(c:xD)(lv:Value)(base:Nat)(w:World)(h:zy w base lv c.vals)(v:c.op.size<=12000)(j:c.key.size<=12000)(r:Ref.uD c.vals) :
  Calls prog 118 #[.agg #[.string c.op,.string c.key,lv,.bool c.no]] w λe w'=>e = .returned (.string (jS c))/\Below w.heap.size w w':=by
 obtain⟨op,key,vals,no⟩:=c;simp only at h v j r |-;unfold jS;simp only;rw[<- JV];have R:=Ref.YT r;have V:=Ref.um op;have X:=Ref.um key;have c1:=λW (hb:Below w.heap.size w W)=>oM vals lv base W (ownsRow_below h hb) r;obtain⟨J,C⟩:=Nm (Ref.yF vals);rw[C] at R;simp only[C] at c1;simp only[C];have D:=hid c1;have k:op.size<=100000:=by omega
 have f:key.size<=100000:=by omega
 obtain⟨z,B,rfl⟩:=qF h;obtain⟨n,F⟩:=Nm vals.length;rw[F] at D |-;have H:n<=10:=by rw[<- F];exact r.1
 clear c1 C h r F;obtain⟨A,E⟩:=Nm (w.alloc (.cells #[.string op,.string key,.slice z n B,.bool no] 241));have m:=zO w (.cells #[.string op,.string key,.slice z n B,.bool no] 241);have q:Below w.heap.size w A:=by rw[<- E];exact nbl w _
 rw[E] at m;have L:A.drew.cell? ⟨w.heap.size,0,none⟩=some (.string op):=(zg m 0).1;have M:A.drew.cell? ⟨w.heap.size,1,none⟩=some (.string key):=(zg m 1).1;have N:A.drew.cell? ⟨w.heap.size,2,none⟩=some (.slice z n B):=(zg m 2).1;have O:A.drew.cell? ⟨w.heap.size,3,none⟩=some (.bool no):=(zg m 3).1;have P:Below A.heap.size A A.drew:=(zf _ A).drew;have o:=hid q;clear m q;go_enter func118,ntmps118
 go_upto_region 1 with fail
 go_cut [3] (λs G=>s = .string (⟨#[123,34,111,112,34,58]⟩++Ref.zV op++⟨#[44,34,107,101,121,34,58]⟩++Ref.zV key)/\Below A.heap.size A G/\G.cell? ⟨w.heap.size,2,none⟩=some (.slice z n B)/\G.cell? ⟨w.heap.size,3,none⟩=some (.bool no))
 case first=>
  go_region_with (go_at_call 115;refine (bN _ _ ?_).mono ?_;(first|exact k|exact f);rintro e y ⟨rfl,b⟩;have Z:y.cell? ⟨w.heap.size,0,none⟩=some (.string op):=zh b (by assumption);have k1:y.cell? ⟨w.heap.size,1,none⟩=some (.string key):=zh b (by assumption);have k2:y.cell? ⟨w.heap.size,2,none⟩=some (.slice z n B):=zh b (by assumption);have k3:y.cell? ⟨w.heap.size,3,none⟩=some (.bool no):=zh b (by assumption);have Y:Below A.heap.size A y:=Below.chain (by assumption) b (ze _);clear b)
  all_goals
   go_wp2_with fail
   go_meet
   case rel=>exact⟨rfl,by assumption,by assumption,by assumption⟩
 case rest=>
  obtain⟨rfl,t,r2,I⟩:=hcut;have d:Hid (Below w.heap.size w wc):=o.out.trans (t.mono o.out.size);clear t L M N O P E;have u:=D.out wc d.out;have p:=hid u;clear u D;obtain⟨K,i⟩:∃x,(⟨#[123,34,111,112,34,58]⟩++Ref.zV op++⟨#[44,34,107,101,121,34,58]⟩++Ref.zV key:BY)=x:=⟨_,rfl⟩
  have S:K.size<=200000:=by
   have y1:(⟨#[123,34,111,112,34,58]⟩:BY).size=6:=rfl;have y2:(⟨#[44,34,107,101,121,34,58]⟩:BY).size=7:=rfl;rw[<- i,zH,zH,zH];omega
  rw[i];have g:=hid i;clear i V X v j k f
  by_cases hn0:0<n
  ·have Q:decide (0<(n:Int))=true:=by simp;omega
   cases no with
   | true=>
    go_wp2_with (go_at_call 171;refine p.out.mono ?_;rintro e U ⟨rfl,a⟩;have T:=zh a I;have l:=hid (Below.chain d.out a (ze _));clear a)
    go_ret;exact⟨by simp;exact g.out.symm,l.out⟩
   | false=>
    go_wp2_with (go_at_call 171;refine p.out.mono ?_;rintro e U ⟨rfl,a⟩;have T:=zh a I;have l:=hid (Below.chain d.out a (ze _));clear a)
    go_ret;exact⟨by simp;exact g.out.symm,l.out⟩
  ·have Q:decide (0<(n:Int))=false:=by simp;omega
   cases no with
   | true=>
    go_wp2
    go_ret;exact⟨by simp;exact g.out.symm,d.out⟩
   | false=>
    go_wp2
    go_ret;exact⟨by simp;exact g.out.symm,d.out⟩
def VE(c:xD):Prop:=c.op.size<=12000/\c.key.size<=12000/\Ref.uD c.vals
structure XI (s:qp):Prop where
 eff:s.eff.size<=12000
 who:Ref.uD s.who.2
 act:Ref.uD s.act.2
 on:Ref.uD s.on.2
 len:s.ifs.length<=5
 cs:∀c ∈ s.ifs,VE c
theorem gW{c:xD}(h:VE c):(jS c).size<=1300000:=by
 obtain⟨f,g,b⟩:=h;have i:=Ref.um c.op;have q2:=Ref.um c.key;have e:=Ref.YT b;rw[JV] at e;have j:(⟨#[123,34,111,112,34,58]⟩:BY).size=6:=rfl;have k:(⟨#[44,34,107,101,121,34,58]⟩:BY).size=7:=rfl;have l:(⟨#[44,34,118,97,108,117,101,34,58]⟩:BY).size=9:=rfl;have m:(⟨#[44,34,110,111,34,58,116,114,117,101]⟩:BY).size=10:=rfl;have n:(⟨#[125]⟩:BY).size=1:=rfl
 have a:(⟨#[123,34,111,112,34,58]⟩++Ref.zV c.op++⟨#[44,34,107,101,121,34,58]⟩++Ref.zV c.key).size<=200000:=by
  rw[zH,zH,zH];omega
 have d:(⟨#[123,34,111,112,34,58]⟩++Ref.zV c.op++⟨#[44,34,107,101,121,34,58]⟩++Ref.zV c.key++(⟨#[44,34,118,97,108,117,101,34,58]⟩++jM (c.vals.map Ref.zV))).size<=1200000:=by
  rw[zH,zH (a:=⟨#[44,34,118,97,108,117,101,34,58]⟩)];omega
 unfold jS;rw[zH]
 split
 ·rw[zH]
  split
  ·omega
  ·omega
 ·split
  ·omega
  ·omega
theorem mH(l:List BY)(M n:Nat)(h:∀x ∈ l,x.size<=M)(a:l.length<=n):(jM l).size<=n*(M+1)+2:=by
 have b:=V8 l M h;have c:l.length*(M+1)<=n*(M+1):=VB _ a;have d:(⟨#[91]⟩:BY).size=1:=rfl;have e:(⟨#[93]⟩:BY).size=1:=rfl;unfold jM;rw[zH,zH];omega
theorem BB:∀args w,(callFunc 118 args).run prog w = .ok (.enter 118 args) w:=enters_of func118 (by kernel_rfl) rfl
theorem MZ(cs:List xD)(lv:Value)(base:Nat)(w:World)(h:qP w base lv cs)(y:cs.length<=5)(f:∀c ∈ cs,VE c) :
  Calls prog 117 #[lv,.func (.func 118) #[] #[]] w λe w'=>e = .returned (.string (XU cs))/\Below w.heap.size w w':=by
 have c1:=IW cs lv base 118 jS w h (by omega) BB (λW c B o _ b=>MX c B base W b (f c o).1 (f c o).2.1 (f c o).2.2)
 have q:∀x ∈ cs.map jS,x.size<=1300000:=by
  intro x k;rw[xQ] at k;obtain⟨s,z,rfl⟩:=k;exact gW (f s z)
 have r:=V8 _ _ q;rw[qB] at r
 have p:(jA (cs.map jS)).size<=10000000:=by
  have:cs.length*(1300000+1)<=5*(1300000+1):=VB _ y
  omega
 have c2:=λW j (b:zy W w.heap.size j (cs.map jS))=>aJ (cs.map jS) j w.heap.size W b (by rw[qB];omega) (by omega);unfold XU jM;obtain⟨J,m⟩:=Nm (jA (cs.map jS));rw[m] at p |-;simp only[m] at c2;obtain⟨M,n⟩:=Nm (cs.map jS);rw[n] at c1;simp only[n] at c2;have t:=hid c1;have u:=hid c2
 obtain⟨a,c,rfl⟩:∃a c,lv = .slice a cs.length c:=by
  obtain⟨xs,k,_⟩:=h
  rcases k.2 with ⟨rfl,h0⟩|⟨gb,c,cur,rfl,_⟩
  ·exact⟨_,_,by rw[h0]⟩
  ·exact⟨_,_,rfl⟩
 clear c1 c2 m n q r h f;go_enter func117,ntmps117
 go_wp2_with (first
  | (go_at_call 113;refine (u.out w1 _ v.out).mono ?_;rintro e C ⟨rfl,i⟩;have l:=hid (d.out.trans (i.mono d.out.size));clear i)
  | (go_at_call 172;refine t.out.mono ?_;rintro e w1 ⟨A,rfl,b,g⟩;have v:=hid b;have d:=hid g;clear b g))
 go_ret;exact⟨rfl,l.out⟩
theorem gY{cs:List xD}(d:cs.length<=5)(b:∀c ∈ cs,VE c):(XU cs).size<=7000000:=by
 have:=mH (cs.map jS) 1300000 5 (λx a=>by
  rw[xQ] at a;obtain⟨s,e,rfl⟩:=a;exact gW (b s e)) (by rw[qB];exact d)
 unfold XU;omega
theorem Nc(s:qp)(l1 l2 l3 V:Value)(base:Nat)(w:World)(D:zy w base l1 s.who.2)(E:zy w base l2 s.act.2)(F:zy w base l3 s.on.2)(U:qP w base V s.ifs)(hS:XI s) :
  Calls prog 63 #[.agg #[.string s.eff,.bool s.who.1,l1,.bool s.act.1,l2,.bool s.on.1,l3,V]] w λe w'=>e = .returned (.string (jD s))/\Below w.heap.size w w':=by
 obtain⟨eff,who,act,on,ifs⟩:=s;obtain⟨z1,L,M,N,X,Y⟩:=hS;simp only at D E F U z1 L M N X Y |-;unfold jD;simp only[<- VQ];have Z:=λW=>bN eff W (by omega);have z:=λW (hb:Below w.heap.size w W)=>bL who l1 base W (ownsRow_below D hb) L;have B:=λW (hb:Below w.heap.size w W)=>bL act l2 base W (ownsRow_below E hb) M;have C:=λW (hb:Below w.heap.size w W)=>bL on l3 base W (ownsRow_below F hb) N;have T:=λW (hb:Below w.heap.size w W)=>MZ ifs V base W (U.below hb) X Y;have y1:=Ref.um eff;have y2:=Ref.Zf L;have y3:=Ref.Zf M;have y4:=Ref.Zf N;have y5:=gY X Y;obtain⟨O,L1⟩:=who;obtain⟨P,L2⟩:=act;obtain⟨R,L3⟩:=on;simp only at D E F L M N z B C;obtain⟨x1,c1,rfl⟩:=qF D;obtain⟨x2,c2,rfl⟩:=qF E;obtain⟨x3,c3,rfl⟩:=qF F
 obtain⟨x4,c4,rfl⟩:∃a c,V = .slice a ifs.length c:=by
  obtain⟨xs,hx,_⟩:=U
  rcases hx.2 with ⟨rfl,h0⟩|⟨gb,c,cur,rfl,_⟩
  ·exact⟨_,_,by rw[h0]⟩
  ·exact⟨_,_,rfl⟩
 obtain⟨Q,hQ⟩:∃x,Ref.zV eff=x:=⟨_,rfl⟩;obtain⟨G1,r⟩:∃x,Ref.ui (O,L1)=x:=⟨_,rfl⟩;obtain⟨G2,t⟩:∃x,Ref.ui (P,L2)=x:=⟨_,rfl⟩;obtain⟨G3,u⟩:∃x,Ref.ui (R,L3)=x:=⟨_,rfl⟩;obtain⟨G4,v⟩:∃x,XU ifs=x:=⟨_,rfl⟩;simp only[hQ] at Z y1;simp only[r] at z y2;simp only[t] at B y3;simp only[u] at C y4;simp only[v] at T y5;simp only[hQ,r,t,u,v];obtain⟨n,hn⟩:=Nm ifs.length;obtain⟨n1,I⟩:∃n,L1.length=n:=⟨_,rfl⟩;obtain⟨n2,J⟩:∃n,L2.length=n:=⟨_,rfl⟩;obtain⟨n3,K⟩:∃n,L3.length=n:=⟨_,rfl⟩;rw[hn] at T X |-;rw[I] at z |-;rw[J] at B |-;rw[K] at C |-;have CQ:=hid Z;have CA:=hid z;have CB:=hid B;have CC:=hid C;have CD:=hid T;clear Z z B C T D E F U L M N Y hQ r t u v hn I J K;obtain⟨A,hA⟩:=Nm (w.alloc (.cells #[.string eff,.bool O,.slice x1 n1 c1,.bool P,.slice x2 n2 c2,.bool R,.slice x3 n3 c3,.slice x4 n c4] 133));have S:=zO w (.cells #[.string eff,.bool O,.slice x1 n1 c1,.bool P,.slice x2 n2 c2,.bool R,.slice x3 n3 c3,.slice x4 n c4] 133);have q:Below w.heap.size w A:=by rw[<- hA];exact nbl w _
 rw[hA] at S;have H:w.heap.size<A.heap.size:=zx S
 have b:Hid (∀W,Below A.heap.size A W->(W.cell? ⟨w.heap.size,0,none⟩=some (.string eff)/\W.cell? ⟨w.heap.size,1,none⟩=some (.bool O)/\W.cell? ⟨w.heap.size,2,none⟩=some (.slice x1 n1 c1)/\W.cell? ⟨w.heap.size,3,none⟩=some (.bool P)/\W.cell? ⟨w.heap.size,4,none⟩=some (.slice x2 n2 c2)/\W.cell? ⟨w.heap.size,5,none⟩=some (.bool R)/\W.cell? ⟨w.heap.size,6,none⟩=some (.slice x3 n3 c3)/\W.cell? ⟨w.heap.size,7,none⟩=some (.slice x4 n c4))/\Below w.heap.size w W):=by
  refine hid (λW hb=>?_);have k:=(hb.block _ H).trans S;exact⟨⟨(zg k 0).1,(zg k 1).1,(zg k 2).1,(zg k 3).1,(zg k 4).1,(zg k 5).1,(zg k 6).1,(zg k 7).1⟩,q.trans (hb.mono q.size)⟩
 obtain⟨⟨a0,a1,a2,a3,a4,a5,a6,a7⟩,_⟩:=b.out A (zf _ _);clear S q H
 by_cases hn0:0<n
 ·have dn:decide (0<(n:Int))=true:=by simp;omega
  rw[zb hn0];go_enter func63,ntmps63
  go_wp2_with (first
   | (go_at_call 117;refine (CD.out l (b.out l y).2).mono ?_;rintro e w5 ⟨rfl,G⟩;have B5:Below A.heap.size A w5:=Below.chain y G (ze _);clear G)
   | (go_at_call 116;refine (CC.out j (b.out j p).2).mono ?_;rintro e l ⟨rfl,h⟩;have y:Below A.heap.size A l:=Below.chain p h (ze _);obtain⟨⟨e0,e1,e2,e3,e4,e5,e6,e7⟩,_⟩:=b.out l y;clear h)
   | (go_at_call 116;refine (CB.out i (b.out i o).2).mono ?_;rintro e j ⟨rfl,g⟩;have p:Below A.heap.size A j:=Below.chain o g (ze _);obtain⟨⟨d0,d1,d2,d3,d4,d5,d6,d7⟩,_⟩:=b.out j p;clear g)
   | (go_at_call 116;refine (CA.out w1 (b.out w1 m).2).mono ?_;rintro e i ⟨rfl,f⟩;have o:Below A.heap.size A i:=Below.chain m f (ze _);obtain⟨⟨g0,g1,g2,g3,g4,g5,g6,g7⟩,_⟩:=b.out i o;clear f)
   | (go_at_call 115;refine (CQ.out A).mono ?_;rintro e w1 ⟨rfl,d⟩;have m:Below A.heap.size A w1:=d;obtain⟨⟨b0,b1,b2,b3,b4,b5,b6,b7⟩,_⟩:=b.out w1 m;clear d))
  go_ret;exact⟨rfl,(b.out w5 B5).2⟩
 ·have dn:decide (0<(n:Int))=false:=by simp;omega
  rw[za hn0];go_enter func63,ntmps63
  go_wp2_with (first
   | (go_at_call 116;refine (CC.out j (b.out j p).2).mono ?_;rintro e l ⟨rfl,h⟩;have y:Below A.heap.size A l:=Below.chain p h (ze _);obtain⟨⟨e0,e1,e2,e3,e4,e5,e6,e7⟩,_⟩:=b.out l y;clear h)
   | (go_at_call 116;refine (CB.out i (b.out i o).2).mono ?_;rintro e j ⟨rfl,g⟩;have p:Below A.heap.size A j:=Below.chain o g (ze _);obtain⟨⟨d0,d1,d2,d3,d4,d5,d6,d7⟩,_⟩:=b.out j p;clear g)
   | (go_at_call 116;refine (CA.out w1 (b.out w1 m).2).mono ?_;rintro e i ⟨rfl,f⟩;have o:Below A.heap.size A i:=Below.chain m f (ze _);obtain⟨⟨g0,g1,g2,g3,g4,g5,g6,g7⟩,_⟩:=b.out i o;clear f)
   | (go_at_call 115;refine (CQ.out A).mono ?_;rintro e w1 ⟨rfl,d⟩;have m:Below A.heap.size A w1:=d;obtain⟨⟨b0,b1,b2,b3,b4,b5,b6,b7⟩,_⟩:=b.out w1 m;clear d))
  go_ret;exact⟨rfl,(b.out l y).2⟩
end Go.Proofs.YtdakgnaojakldaaGreatDoor
