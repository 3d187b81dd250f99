/- P -/
import Derived.Test.YtagnlbgbnfnapaaGreatDoorK27
open Go.Proofs.Tryz
set_option maxRecDepth 100000
set_option maxHeartbeats 2000000
namespace Go.Proofs.YtagnlbgbnfnapaaGreatDoor
open Go.RowKit
theorem ny(M:Nat):∀(r:List (List UInt8)),(∀x ∈ r,x.length<=M)->Lib.lens r<=r.length*M
 | [],_=>by simp[Lib.lens]
 | x::r,h=>by
  have c:=h x (by simp);have a:=ny M r (λy b=>h y (by simp[b]));simp only[Lib.lens,yh,List.sum_cons,ZB] at a |-;rw[Nat.succ_mul];omega
theorem mR(xs:List BY):(jD xs).size=(Lib.join (xs.map (·.data.toList)) [44]).length:=by simp[jD,ByteArray.size]
theorem Ug(xs:List BY)(M:Nat)(h:∀x ∈ xs,x.size<=M):(jD xs).size<=xs.length*(M+1):=by
 rw[mR]
 cases xs with
 | nil=>simp[Lib.join_nil]
 | cons x r=>
  have d:x.data.toList.length<=M:=by rw[Ref.zA];exact h x (by simp)
  have b:=ny M (r.map (·.data.toList)) (λy a=>by
   rw[xR] at a;obtain⟨z,c,rfl⟩:=a;rw[Ref.zA];exact h z (by simp[c]))
  rw[yh,Lib.join_cons,qA,Lib.joinTail_length];simp only[qB,ZB,YC] at b |-;have e:(r.length+1)*(M+1)=r.length*M+r.length+M+1:=by rw[Nat.add_mul,Nat.mul_add];omega
  rw[e];omega
theorem Tryz.bx:Builder.Extra prog Tryz.lays156_ren:={
 sizeBuilder:=by kernel_rfl
 liesBuilder:=by kernel_rfl
 t5:=underlying5
 a5:=Tryz.isAgg5
 z5:=Tryz.sizeOf5
 v5:=Tryz.zeroValue5
 infoByte:=by kernel_rfl
 cellsByte:=by kernel_rfl
 sizeByte:=by kernel_rfl
 neB5:=by decide }
theorem aX(xs:List BY)(lv:Value)(base:Nat)(w:World)(h:zz w base lv xs)(i:xs.length<=1000)(b:(jD xs).size<=1000000000) :
  Calls prog 171 #[lv,.string ⟨#[44]⟩] w λe w'=>e = .returned (.string (jD xs))/\Below w.heap.size w w':=by
 rcases h.2 with ⟨rfl,h0⟩|⟨g,cap,cur,rfl,_,hb,hle,_⟩
 ·have a:xs=[]:=YB.1 h0;subst a;exact (Any.strings_Join_none Tryz.lays156 Tryz.bx none 0 ⟨#[44]⟩ w).mono λe w' ⟨c,d⟩=>⟨c,d ▸ zf _ _⟩
 ·exact Any.strings_Join Tryz.lays156 Tryz.bx g 0 cap xs ⟨#[44]⟩ w (λj x a=>by
   have f:j<xs.length:=(zR.1 a).1;rw[yO,World.ownsRow.cellAt h j (by omega)];simp[List.getElem?_map,a]) (zy hb) (by omega) hle (by rw[mR] at b;exact qZ b (by decide))
theorem NR:∀args w,(callFunc 173 args).run prog w = .ok (.enter 173 args) w:=xg func173 (by kernel_rfl) rfl
theorem pO(b:List BY)(lv:Value)(base:Nat)(w:World)(h:zz w base lv b)(j:Ref.uI b) :
  Calls prog 217 #[lv,.func (.func 173) #[] #[]] w λe w'=>e = .returned (.string (Ref.yI b))/\Below w.heap.size w w':=by
 have q:=j.1;have c1:=Lx b lv base 173 Ref.zV w h (by omega) NR (λW s o _=>cz s W (by have:=j.2 s o;omega))
 have r:∀x ∈ b.map Ref.zV,x.size<=80000:=by
  intro x t;rw[xR] at t;obtain⟨s,o,rfl⟩:=t
  have:=Ref.ut s
  have:=j.2 s o
  omega
 have u:=Ug _ _ r;rw[qB] at u
 have p:(jD (b.map Ref.zV)).size<=1000000:=by
  have:b.length*(80000+1)<=10*(80000+1):=Ju _ q
  omega
 have c2:=λW i (k:zz W w.heap.size i (b.map Ref.zV))=>aX (b.map Ref.zV) i w.heap.size W k (by rw[qB];omega) (by omega);rw[J4];unfold jP;obtain⟨J,m⟩:=Nm (jD (b.map Ref.zV));rw[m] at p |-;simp only[m] at c2;obtain⟨M,n⟩:=Nm (b.map Ref.zV);rw[n] at c1;simp only[n] at c2;have v:=hid c1;have y:=hid c2;obtain⟨a,c,rfl⟩:=qG h;clear c1 c2 m n r u h j q;go_enter func217,ntmps217
 go_wp2_with (first
  | (go_at_call 171;refine (y.out w1 _ z.out).mono ?_;rintro e B ⟨rfl,g⟩;have l:=hid (d.out.trans (g.mono d.out.size));clear g)
  | (go_at_call 242;refine v.out.mono ?_;rintro e w1 ⟨A,rfl,k,f⟩;have z:=hid k;have d:=hid f;clear k f))
 go_ret;exact⟨rfl,l.out⟩
theorem bY(c:Bool×List BY)(lv:Value)(base:Nat)(w:World)(h:zz w base lv c.2)(f:Ref.uI c.2) :
  Calls prog 174 #[.agg #[.bool c.1,lv]] w λe w'=>e = .returned (.string (Ref.ul c))/\Below w.heap.size w w':=by
 obtain⟨o,l⟩:=c;simp only at h f |-;have c1:=λO:Obj=>pO l lv base (w.alloc O) (World.ownsRow.alloc h O) f;have n:=Ref.YY f;unfold Ref.ul;obtain⟨J,g⟩:=Nm (Ref.yI l);rw[g] at n |-;simp only[g] at c1 |-;have k:=hid c1;obtain⟨a,c,rfl⟩:=qG h;clear c1 g h f;have m:∀O:Obj,Below w.heap.size w (w.alloc O):=λO=>nbl w O;have j:=hid m;clear m
 cases o with
 | true=>
  go_enter func174,ntmps174;go_wp2_with fail;refine (k.out _).mono ?_;rintro e i ⟨rfl,b⟩;have p:i.cell? ⟨w.heap.size,0,none⟩=some (.bool true):=zi b ((zg (zQ w _) 0).1);have d:=hid ((j.out _).trans (b.mono (by simp)));clear b
  go_wp2
  go_ret;exact⟨rfl,d.out⟩
 | false=>
  go_enter func174,ntmps174;go_wp2_with fail;refine (k.out _).mono ?_;rintro e i ⟨rfl,b⟩;have p:i.cell? ⟨w.heap.size,0,none⟩=some (.bool false):=zi b ((zg (zQ w _) 0).1);have d:=hid ((j.out _).trans (b.mono (by simp)));clear b
  go_wp2
  go_ret;exact⟨rfl,d.out⟩
theorem Below.chain{B:Nat}{a b c:World}(h:Below B a b)(k:Below b.heap.size b c)(d:B<=a.heap.size):Below B a c:=h.trans (k.mono (qZ d h.size))
theorem Nu(c:xG)(lv:Value)(base:Nat)(w:World)(h:zz w base lv c.vals)(v:c.op.size<=12000)(j:c.key.size<=12000)(r:Ref.uI c.vals) :
  Calls prog 176 #[.agg #[.string c.op,.string c.key,lv,.bool c.no]] w λe w'=>e = .returned (.string (jV c))/\Below w.heap.size w w':=by
 obtain⟨op,key,vals,no⟩:=c;simp only at h v j r |-;unfold jV;simp only;rw[<- J4];have R:=Ref.YY r;have V:=Ref.ut op;have X:=Ref.ut key;have c1:=λW (hb:Below w.heap.size w W)=>pO vals lv base W (ownsRow_below h hb) r;obtain⟨J,C⟩:=Nm (Ref.yI vals);rw[C] at R;simp only[C] at c1;simp only[C];have D:=hid c1;have k:op.size<=100000:=by omega
 have f:key.size<=100000:=by omega
 obtain⟨z,B,rfl⟩:=qG h;obtain⟨n,F⟩:=Nm vals.length;rw[F] at D |-;have H:n<=10:=by rw[<- F];exact r.1
 clear c1 C h r F;obtain⟨A,E⟩:=Nm (w.alloc (.cells #[.string op,.string key,.slice z n B,.bool no] 286));have m:=zQ w (.cells #[.string op,.string key,.slice z n B,.bool no] 286);have q:Below w.heap.size w A:=by rw[<- E];exact nbl w _
 rw[E] at m;have L:A.drew.cell? ⟨w.heap.size,0,none⟩=some (.string op):=(zg m 0).1;have M:A.drew.cell? ⟨w.heap.size,1,none⟩=some (.string key):=(zg m 1).1;have N:A.drew.cell? ⟨w.heap.size,2,none⟩=some (.slice z n B):=(zg m 2).1;have O:A.drew.cell? ⟨w.heap.size,3,none⟩=some (.bool no):=(zg m 3).1;have P:Below A.heap.size A A.drew:=(zf _ A).drew;have o:=hid q;clear m q;go_enter func176,ntmps176
 go_upto_region 1 with fail
 go_cut [3] (λs G=>s = .string (⟨#[123,34,111,112,34,58]⟩++Ref.zV op++⟨#[44,34,107,101,121,34,58]⟩++Ref.zV key)/\Below A.heap.size A G/\G.cell? ⟨w.heap.size,2,none⟩=some (.slice z n B)/\G.cell? ⟨w.heap.size,3,none⟩=some (.bool no))
 case first=>
  go_region_with (go_at_call 173;refine (cz _ _ ?_).mono ?_;(first|exact k|exact f);rintro e y ⟨rfl,b⟩;have Z:y.cell? ⟨w.heap.size,0,none⟩=some (.string op):=zi b (by assumption);have k1:y.cell? ⟨w.heap.size,1,none⟩=some (.string key):=zi b (by assumption);have k2:y.cell? ⟨w.heap.size,2,none⟩=some (.slice z n B):=zi b (by assumption);have k3:y.cell? ⟨w.heap.size,3,none⟩=some (.bool no):=zi b (by assumption);have Y:Below A.heap.size A y:=Below.chain (by assumption) b (ze _);clear b)
  all_goals
   go_wp2_with fail
   go_meet
   case rel=>exact⟨rfl,by assumption,by assumption,by assumption⟩
 case rest=>
  obtain⟨rfl,t,r2,I⟩:=hcut;have d:Hid (Below w.heap.size w wc):=o.out.trans (t.mono o.out.size);clear t L M N O P E;have u:=D.out wc d.out;have p:=hid u;clear u D;obtain⟨K,i⟩:∃x,(⟨#[123,34,111,112,34,58]⟩++Ref.zV op++⟨#[44,34,107,101,121,34,58]⟩++Ref.zV key:BY)=x:=⟨_,rfl⟩
  have S:K.size<=200000:=by
   have y1:(⟨#[123,34,111,112,34,58]⟩:BY).size=6:=rfl;have y2:(⟨#[44,34,107,101,121,34,58]⟩:BY).size=7:=rfl;rw[<- i,zJ,zJ,zJ];omega
  rw[i];have g:=hid i;clear i V X v j k f
  by_cases hn0:0<n
  ·have Q:decide (0<(n:Int))=true:=by simp;omega
   cases no with
   | true=>
    go_wp2_with (go_at_call 217;refine p.out.mono ?_;rintro e U ⟨rfl,a⟩;have T:=zi a I;have l:=hid (Below.chain d.out a (ze _));clear a)
    go_ret;exact⟨by simp;exact g.out.symm,l.out⟩
   | false=>
    go_wp2_with (go_at_call 217;refine p.out.mono ?_;rintro e U ⟨rfl,a⟩;have T:=zi a I;have l:=hid (Below.chain d.out a (ze _));clear a)
    go_ret;exact⟨by simp;exact g.out.symm,l.out⟩
  ·have Q:decide (0<(n:Int))=false:=by simp;omega
   cases no with
   | true=>
    go_wp2
    go_ret;exact⟨by simp;exact g.out.symm,d.out⟩
   | false=>
    go_wp2
    go_ret;exact⟨by simp;exact g.out.symm,d.out⟩
def VL(c:xG):Prop:=c.op.size<=12000/\c.key.size<=12000/\Ref.uI c.vals
structure XR (s:qp):Prop where
 eff:s.eff.size<=12000
 who:Ref.uI s.who.2
 act:Ref.uI s.act.2
 on:Ref.uI s.on.2
 len:s.ifs.length<=5
 cs:∀c ∈ s.ifs,VL c
theorem iG{c:xG}(h:VL c):(jV c).size<=1300000:=by
 obtain⟨f,g,b⟩:=h;have i:=Ref.ut c.op;have q2:=Ref.ut c.key;have e:=Ref.YY b;rw[J4] at e;have j:(⟨#[123,34,111,112,34,58]⟩:BY).size=6:=rfl;have k:(⟨#[44,34,107,101,121,34,58]⟩:BY).size=7:=rfl;have l:(⟨#[44,34,118,97,108,117,101,34,58]⟩:BY).size=9:=rfl;have m:(⟨#[44,34,110,111,34,58,116,114,117,101]⟩:BY).size=10:=rfl;have n:(⟨#[125]⟩:BY).size=1:=rfl
 have a:(⟨#[123,34,111,112,34,58]⟩++Ref.zV c.op++⟨#[44,34,107,101,121,34,58]⟩++Ref.zV c.key).size<=200000:=by
  rw[zJ,zJ,zJ];omega
 have d:(⟨#[123,34,111,112,34,58]⟩++Ref.zV c.op++⟨#[44,34,107,101,121,34,58]⟩++Ref.zV c.key++(⟨#[44,34,118,97,108,117,101,34,58]⟩++jP (c.vals.map Ref.zV))).size<=1200000:=by
  rw[zJ,zJ (a:=⟨#[44,34,118,97,108,117,101,34,58]⟩)];omega
 unfold jV;rw[zJ]
 split
 ·rw[zJ]
  split
  ·omega
  ·omega
 ·split
  ·omega
  ·omega
theorem nC(l:List BY)(M n:Nat)(h:∀x ∈ l,x.size<=M)(a:l.length<=n):(jP l).size<=n*(M+1)+2:=by
 have b:=Ug l M h;have c:l.length*(M+1)<=n*(M+1):=Ju _ a;have d:(⟨#[91]⟩:BY).size=1:=rfl;have e:(⟨#[93]⟩:BY).size=1:=rfl;unfold jP;rw[zJ,zJ];omega
theorem BX:∀args w,(callFunc 176 args).run prog w = .ok (.enter 176 args) w:=xg func176 (by kernel_rfl) rfl
theorem Nv(cs:List xG)(lv:Value)(base:Nat)(w:World)(h:qR w base lv cs)(y:cs.length<=5)(f:∀c ∈ cs,VL c) :
  Calls prog 175 #[lv,.func (.func 176) #[] #[]] w λe w'=>e = .returned (.string (X3 cs))/\Below w.heap.size w w':=by
 have c1:=Lu cs lv base 176 jV w h (by omega) BX (λW c B o _ b=>Nu c B base W b (f c o).1 (f c o).2.1 (f c o).2.2)
 have q:∀x ∈ cs.map jV,x.size<=1300000:=by
  intro x k;rw[xR] at k;obtain⟨s,z,rfl⟩:=k;exact iG (f s z)
 have r:=Ug _ _ q;rw[qB] at r
 have p:(jD (cs.map jV)).size<=10000000:=by
  have:cs.length*(1300000+1)<=5*(1300000+1):=Ju _ y
  omega
 have c2:=λW j (b:zz W w.heap.size j (cs.map jV))=>aX (cs.map jV) j w.heap.size W b (by rw[qB];omega) (by omega);unfold X3 jP;obtain⟨J,m⟩:=Nm (jD (cs.map jV));rw[m] at p |-;simp only[m] at c2;obtain⟨M,n⟩:=Nm (cs.map jV);rw[n] at c1;simp only[n] at c2;have t:=hid c1;have u:=hid c2
 obtain⟨a,c,rfl⟩:∃a c,lv = .slice a cs.length c:=by
  obtain⟨xs,k,_⟩:=h
  rcases k.2 with ⟨rfl,h0⟩|⟨gb,c,cur,rfl,_⟩
  ·exact⟨_,_,by rw[h0]⟩
  ·exact⟨_,_,rfl⟩
 clear c1 c2 m n q r h f;go_enter func175,ntmps175
 go_wp2_with (first
  | (go_at_call 171;refine (u.out w1 _ v.out).mono ?_;rintro e C ⟨rfl,i⟩;have l:=hid (d.out.trans (i.mono d.out.size));clear i)
  | (go_at_call 218;refine t.out.mono ?_;rintro e w1 ⟨A,rfl,b,g⟩;have v:=hid b;have d:=hid g;clear b g))
 go_ret;exact⟨rfl,l.out⟩
theorem iI{cs:List xG}(d:cs.length<=5)(b:∀c ∈ cs,VL c):(X3 cs).size<=7000000:=by
 have:=nC (cs.map jV) 1300000 5 (λx a=>by
  rw[xR] at a;obtain⟨s,e,rfl⟩:=a;exact iG (b s e)) (by rw[qB];exact d)
 unfold X3;omega
theorem Nz(s:qp)(l1 l2 l3 V:Value)(base:Nat)(w:World)(D:zz w base l1 s.who.2)(E:zz w base l2 s.act.2)(F:zz w base l3 s.on.2)(U:qR w base V s.ifs)(hS:XR s) :
  Calls prog 130 #[.agg #[.string s.eff,.bool s.who.1,l1,.bool s.act.1,l2,.bool s.on.1,l3,V]] w λe w'=>e = .returned (.string (jG s))/\Below w.heap.size w w':=by
 obtain⟨eff,who,act,on,ifs⟩:=s;obtain⟨z1,L,M,N,X,Y⟩:=hS;simp only at D E F U z1 L M N X Y |-;unfold jG;simp only[<- VY];have Z:=λW=>cz eff W (by omega);have z:=λW (hb:Below w.heap.size w W)=>bY who l1 base W (ownsRow_below D hb) L;have B:=λW (hb:Below w.heap.size w W)=>bY act l2 base W (ownsRow_below E hb) M;have C:=λW (hb:Below w.heap.size w W)=>bY on l3 base W (ownsRow_below F hb) N;have T:=λW (hb:Below w.heap.size w W)=>Nv ifs V base W (U.below hb) X Y;have y1:=Ref.ut eff;have y2:=Ref.Zh L;have y3:=Ref.Zh M;have y4:=Ref.Zh N;have y5:=iI X Y;obtain⟨O,L1⟩:=who;obtain⟨P,L2⟩:=act;obtain⟨R,L3⟩:=on;simp only at D E F L M N z B C;obtain⟨x1,c1,rfl⟩:=qG D;obtain⟨x2,c2,rfl⟩:=qG E;obtain⟨x3,c3,rfl⟩:=qG F
 obtain⟨x4,c4,rfl⟩:∃a c,V = .slice a ifs.length c:=by
  obtain⟨xs,hx,_⟩:=U
  rcases hx.2 with ⟨rfl,h0⟩|⟨gb,c,cur,rfl,_⟩
  ·exact⟨_,_,by rw[h0]⟩
  ·exact⟨_,_,rfl⟩
 obtain⟨Q,hQ⟩:∃x,Ref.zV eff=x:=⟨_,rfl⟩;obtain⟨G1,r⟩:∃x,Ref.ul (O,L1)=x:=⟨_,rfl⟩;obtain⟨G2,t⟩:∃x,Ref.ul (P,L2)=x:=⟨_,rfl⟩;obtain⟨G3,u⟩:∃x,Ref.ul (R,L3)=x:=⟨_,rfl⟩;obtain⟨G4,v⟩:∃x,X3 ifs=x:=⟨_,rfl⟩;simp only[hQ] at Z y1;simp only[r] at z y2;simp only[t] at B y3;simp only[u] at C y4;simp only[v] at T y5;simp only[hQ,r,t,u,v];obtain⟨n,hn⟩:=Nm ifs.length;obtain⟨n1,I⟩:∃n,L1.length=n:=⟨_,rfl⟩;obtain⟨n2,J⟩:∃n,L2.length=n:=⟨_,rfl⟩;obtain⟨n3,K⟩:∃n,L3.length=n:=⟨_,rfl⟩;rw[hn] at T X |-;rw[I] at z |-;rw[J] at B |-;rw[K] at C |-;have CQ:=hid Z;have CA:=hid z;have CB:=hid B;have CC:=hid C;have CD:=hid T;clear Z z B C T D E F U L M N Y hQ r t u v hn I J K;obtain⟨A,hA⟩:=Nm (w.alloc (.cells #[.string eff,.bool O,.slice x1 n1 c1,.bool P,.slice x2 n2 c2,.bool R,.slice x3 n3 c3,.slice x4 n c4] 137));have S:=zQ w (.cells #[.string eff,.bool O,.slice x1 n1 c1,.bool P,.slice x2 n2 c2,.bool R,.slice x3 n3 c3,.slice x4 n c4] 137);have q:Below w.heap.size w A:=by rw[<- hA];exact nbl w _
 rw[hA] at S;have H:w.heap.size<A.heap.size:=zy S
 have b:Hid (∀W,Below A.heap.size A W->(W.cell? ⟨w.heap.size,0,none⟩=some (.string eff)/\W.cell? ⟨w.heap.size,1,none⟩=some (.bool O)/\W.cell? ⟨w.heap.size,2,none⟩=some (.slice x1 n1 c1)/\W.cell? ⟨w.heap.size,3,none⟩=some (.bool P)/\W.cell? ⟨w.heap.size,4,none⟩=some (.slice x2 n2 c2)/\W.cell? ⟨w.heap.size,5,none⟩=some (.bool R)/\W.cell? ⟨w.heap.size,6,none⟩=some (.slice x3 n3 c3)/\W.cell? ⟨w.heap.size,7,none⟩=some (.slice x4 n c4))/\Below w.heap.size w W):=by
  refine hid (λW hb=>?_);have k:=(hb.block _ H).trans S;exact⟨⟨(zg k 0).1,(zg k 1).1,(zg k 2).1,(zg k 3).1,(zg k 4).1,(zg k 5).1,(zg k 6).1,(zg k 7).1⟩,q.trans (hb.mono q.size)⟩
 obtain⟨⟨a0,a1,a2,a3,a4,a5,a6,a7⟩,_⟩:=b.out A (zf _ _);clear S q H
 by_cases hn0:0<n
 ·have dn:decide (0<(n:Int))=true:=by simp;omega
  rw[zb hn0];go_enter func130,ntmps130
  go_wp2_with (first
   | (go_at_call 175;refine (CD.out l (b.out l y).2).mono ?_;rintro e w5 ⟨rfl,G⟩;have B5:Below A.heap.size A w5:=Below.chain y G (ze _);clear G)
   | (go_at_call 174;refine (CC.out j (b.out j p).2).mono ?_;rintro e l ⟨rfl,h⟩;have y:Below A.heap.size A l:=Below.chain p h (ze _);obtain⟨⟨e0,e1,e2,e3,e4,e5,e6,e7⟩,_⟩:=b.out l y;clear h)
   | (go_at_call 174;refine (CB.out i (b.out i o).2).mono ?_;rintro e j ⟨rfl,g⟩;have p:Below A.heap.size A j:=Below.chain o g (ze _);obtain⟨⟨d0,d1,d2,d3,d4,d5,d6,d7⟩,_⟩:=b.out j p;clear g)
   | (go_at_call 174;refine (CA.out w1 (b.out w1 m).2).mono ?_;rintro e i ⟨rfl,f⟩;have o:Below A.heap.size A i:=Below.chain m f (ze _);obtain⟨⟨g0,g1,g2,g3,g4,g5,g6,g7⟩,_⟩:=b.out i o;clear f)
   | (go_at_call 173;refine (CQ.out A).mono ?_;rintro e w1 ⟨rfl,d⟩;have m:Below A.heap.size A w1:=d;obtain⟨⟨b0,b1,b2,b3,b4,b5,b6,b7⟩,_⟩:=b.out w1 m;clear d))
  go_ret;exact⟨rfl,(b.out w5 B5).2⟩
 ·have dn:decide (0<(n:Int))=false:=by simp;omega
  rw[za hn0];go_enter func130,ntmps130
  go_wp2_with (first
   | (go_at_call 174;refine (CC.out j (b.out j p).2).mono ?_;rintro e l ⟨rfl,h⟩;have y:Below A.heap.size A l:=Below.chain p h (ze _);obtain⟨⟨e0,e1,e2,e3,e4,e5,e6,e7⟩,_⟩:=b.out l y;clear h)
   | (go_at_call 174;refine (CB.out i (b.out i o).2).mono ?_;rintro e j ⟨rfl,g⟩;have p:Below A.heap.size A j:=Below.chain o g (ze _);obtain⟨⟨d0,d1,d2,d3,d4,d5,d6,d7⟩,_⟩:=b.out j p;clear g)
   | (go_at_call 174;refine (CA.out w1 (b.out w1 m).2).mono ?_;rintro e i ⟨rfl,f⟩;have o:Below A.heap.size A i:=Below.chain m f (ze _);obtain⟨⟨g0,g1,g2,g3,g4,g5,g6,g7⟩,_⟩:=b.out i o;clear f)
   | (go_at_call 173;refine (CQ.out A).mono ?_;rintro e w1 ⟨rfl,d⟩;have m:Below A.heap.size A w1:=d;obtain⟨⟨b0,b1,b2,b3,b4,b5,b6,b7⟩,_⟩:=b.out w1 m;clear d))
  go_ret;exact⟨rfl,(b.out l y).2⟩
end Go.Proofs.YtagnlbgbnfnapaaGreatDoor
