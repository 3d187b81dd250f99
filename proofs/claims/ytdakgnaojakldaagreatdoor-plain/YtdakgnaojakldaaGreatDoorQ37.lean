/- P -/
import Derived.Test.YtdakgnaojakldaaGreatDoorQ36
open Go.Proofs.Tryz
set_option maxRecDepth 100000
set_option maxHeartbeats 2000000
namespace Go.Proofs.YtdakgnaojakldaaGreatDoor
open Go.RowKit
theorem oJ(M:Nat):∀(r:List (List UInt8)),(∀x ∈ r,x.length<=M)->Lib.lens r<=r.length*M
 | [],_=>by simp[Lib.lens]
 | x::r,h=>by
  have c:=h x (by simp);have a:=oJ M r (λy b=>h y (by simp[b]));simp only[Lib.lens,yn,List.sum_cons,jl] at a |-;rw[Nat.succ_mul];omega
theorem ol(xs:List BA):(jg xs).size=(Lib.join (xs.map (·.data.toList)) [44]).length:=by simp[jg,ByteArray.size]
theorem UR(xs:List BA)(M:Nat)(h:∀x ∈ xs,x.size<=M):(jg xs).size<=xs.length*(M+1):=by
 rw[ol]
 cases xs with
 | nil=>simp[Lib.join_nil]
 | cons x r=>
  have d:x.data.toList.length<=M:=by rw[Ref.zG];exact h x (by simp)
  have b:=oJ M (r.map (·.data.toList)) (λy a=>by
   rw[ql] at a;obtain⟨z,c,rfl⟩:=a;rw[Ref.zG];exact h z (by simp[c]))
  rw[yn,Lib.join_cons,xm,Lib.joinTail_length];simp only[zN,jl,uo] at b |-;have e:(r.length+1)*(M+1)=r.length*M+r.length+M+1:=by rw[Nat.add_mul,Nat.mul_add];omega
  rw[e];omega
theorem Tryz.bx:Builder.Extra prog Tryz.lays156_ren:={
 sizeBuilder:=by kernel_rfl
 liesBuilder:=by kernel_rfl
 t5:=underlying5
 a5:=Tryz.isAgg5
 z5:=Tryz.sizeOf5
 v5:=Tryz.zeroValue5
 infoByte:=by kernel_rfl
 cellsByte:=by kernel_rfl
 sizeByte:=by kernel_rfl
 neB5:=by decide }
theorem bU(xs:List BA)(c:Value)(base:Nat)(w:World)(h:zA w base c xs)(l:xs.length<=1000)(b:(jg xs).size<=1000000000) :
  Calls prog 113 #[c,.string ⟨#[44]⟩] w λe d=>e = .returned (.string (jg xs))/\Below w.heap.size w d:=by
 rcases h.2 with ⟨rfl,h0⟩|⟨g,cap,cur,rfl,_,hb,hle,_⟩
 ·have a:xs=[]:=ZL.1 h0;subst a;exact (Any.strings_Join_none Tryz.lays156 Tryz.bx none 0 ⟨#[44]⟩ w).mono λe d ⟨f,i⟩=>⟨f,i ▸ zh _ _⟩
 ·exact Any.strings_Join Tryz.lays156 Tryz.bx g 0 cap xs ⟨#[44]⟩ w (λj x a=>by
   have k:j<xs.length:=(qY.1 a).1;rw[qO,World.ownsRow.cellAt h j (by omega)];simp[List.getElem?_map,a]) (qF hb) (by omega) hle (by rw[ol] at b;exact jC b (by decide))
theorem Re:∀args w,(callFunc 115 args).run prog w = .ok (.enter 115 args) w:=enters_of func115 (by kernel_rfl) rfl
theorem sM(b:List BA)(q:Value)(base:Nat)(w:World)(h:zA w base q b)(j:Ref.uY b) :
  Calls prog 171 #[q,.func (.func 115) #[] #[]] w λe C=>e = .returned (.string (Ref.xJ b))/\Below w.heap.size w C:=by
 have r:=j.1;have c1:=Nj b q base 115 Ref.zQ w h (by omega) Re (λW s o _=>eD s W (by have:=j.2 s o;omega))
 have t:∀x ∈ b.map Ref.zQ,x.size<=80000:=by
  intro x u;rw[ql] at u;obtain⟨s,o,rfl⟩:=u
  have:=Ref.XZ s
  have:=j.2 s o
  omega
 have v:=UR _ _ t;rw[zN] at v
 have p:(jg (b.map Ref.zQ)).size<=1000000:=by
  have:b.length*(80000+1)<=10*(80000+1):=Q3 _ r
  omega
 have c2:=λW i (k:zA W w.heap.size i (b.map Ref.zQ))=>bU (b.map Ref.zQ) i w.heap.size W k (by rw[zN];omega) (by omega);rw[Vz];unfold xI;obtain⟨J,m⟩:=Nm (jg (b.map Ref.zQ));rw[m] at p |-;simp only[m] at c2;obtain⟨M,n⟩:=Nm (b.map Ref.zQ);rw[n] at c1;simp only[n] at c2;have y:=hid c1;have z:=hid c2;obtain⟨a,c,rfl⟩:=xh h;clear c1 c2 m n t v h j r;go_enter func171,ntmps171
 go_wp2_with (first
  | (go_at_call 113;refine (z.out D _ A.out).mono ?_;rintro e E ⟨rfl,g⟩;have l:=hid (d.out.trans (g.mono d.out.size));clear g)
  | (go_at_call 211;refine y.out.mono ?_;rintro e D ⟨B,rfl,k,f⟩;have A:=hid k;have d:=hid f;clear k f))
 go_ret;exact⟨rfl,l.out⟩
theorem dV(c:Bool×List BA)(i:Value)(base:Nat)(w:World)(h:zA w base i c.2)(f:Ref.uY c.2) :
  Calls prog 116 #[.agg #[.bool c.1,i]] w λe p=>e = .returned (.string (Ref.Zq c))/\Below w.heap.size w p:=by
 obtain⟨nt,l⟩:=c;simp only at h f |-;have c1:=λO:Obj=>sM l i base (w.alloc O) (World.ownsRow.alloc h O) f;have o:=Ref.UW f;unfold Ref.Zq;obtain⟨J,g⟩:=Nm (Ref.xJ l);rw[g] at o |-;simp only[g] at c1 |-;have m:=hid c1;obtain⟨a,c,rfl⟩:=xh h;clear c1 g h f;have n:∀O:Obj,Below w.heap.size w (w.alloc O):=λO=>nB w O;have k:=hid n;clear n
 cases nt with
 | true=>
  go_enter func116,ntmps116;go_wp2_with fail;refine (m.out _).mono ?_;rintro e j ⟨rfl,b⟩;have r0:j.cell? ⟨w.heap.size,0,none⟩=some (.bool true):=zg b ((zf (zM w _) 0).1);have d:=hid ((k.out _).trans (b.mono (by simp)));clear b
  go_wp2
  go_ret;exact⟨rfl,d.out⟩
 | false=>
  go_enter func116,ntmps116;go_wp2_with fail;refine (m.out _).mono ?_;rintro e j ⟨rfl,b⟩;have r0:j.cell? ⟨w.heap.size,0,none⟩=some (.bool false):=zg b ((zf (zM w _) 0).1);have d:=hid ((k.out _).trans (b.mono (by simp)));clear b
  go_wp2
  go_ret;exact⟨rfl,d.out⟩
theorem Below.chain{B:Nat}{a b c:World}(h:Below B a b)(k:Below b.heap.size b c)(d:B<=a.heap.size):Below B a c:=h.trans (k.mono (jC d h.size))
theorem PM(c:zU)(F:Value)(base:Nat)(w:World)(h:zA w base F c.vals)(u:c.op.size<=12000)(j:c.key.size<=12000)(q:Ref.uY c.vals) :
  Calls prog 118 #[.agg #[.string c.op,.string c.key,F,.bool c.no]] w λe U=>e = .returned (.string (yx c))/\Below w.heap.size w U:=by
 obtain⟨op,key,vals,no⟩:=c;simp only at h u j q |-;unfold yx;simp only;rw[<- Vz];have R:=Ref.UW q;have X:=Ref.XZ op;have Y:=Ref.XZ key;have c1:=λW (hb:Below w.heap.size w W)=>sM vals F base W (ownsRow_below h hb) q;obtain⟨J,B⟩:=Nm (Ref.xJ vals);rw[B] at R;simp only[B] at c1;simp only[B];have C:=hid c1;have k:op.size<=100000:=by omega
 have f:key.size<=100000:=by omega
 obtain⟨y,z,rfl⟩:=xh h;obtain⟨n,E⟩:=Nm vals.length;rw[E] at C |-;have H:n<=10:=by rw[<- E];exact q.1
 clear c1 B h q E;obtain⟨A,D⟩:=Nm (w.alloc (.cells #[.string op,.string key,.slice y n z,.bool no] 241));have bl:=zM w (.cells #[.string op,.string key,.slice y n z,.bool no] 241);have p:Below w.heap.size w A:=by rw[<- D];exact nB w _
 rw[D] at bl;have L:A.drew.cell? ⟨w.heap.size,0,none⟩=some (.string op):=(zf bl 0).1;have M:A.drew.cell? ⟨w.heap.size,1,none⟩=some (.string key):=(zf bl 1).1;have N:A.drew.cell? ⟨w.heap.size,2,none⟩=some (.slice y n z):=(zf bl 2).1;have O:A.drew.cell? ⟨w.heap.size,3,none⟩=some (.bool no):=(zf bl 3).1;have P:Below A.heap.size A A.drew:=(zh _ A).drew;have m:=hid p;clear bl p;go_enter func118,ntmps118
 go_upto_region 1 with fail
 go_cut [3] (λs G=>s = .string (⟨#[123,34,111,112,34,58]⟩++Ref.zQ op++⟨#[44,34,107,101,121,34,58]⟩++Ref.zQ key)/\Below A.heap.size A G/\G.cell? ⟨w.heap.size,2,none⟩=some (.slice y n z)/\G.cell? ⟨w.heap.size,3,none⟩=some (.bool no))
 case first=>
  go_region_with (go_at_call 115;refine (eD _ _ ?_).mono ?_;(first|exact k|exact f);rintro e v ⟨rfl,b⟩;have k0:v.cell? ⟨w.heap.size,0,none⟩=some (.string op):=zg b (by assumption);have k1:v.cell? ⟨w.heap.size,1,none⟩=some (.string key):=zg b (by assumption);have k2:v.cell? ⟨w.heap.size,2,none⟩=some (.slice y n z):=zg b (by assumption);have k3:v.cell? ⟨w.heap.size,3,none⟩=some (.bool no):=zg b (by assumption);have Z:Below A.heap.size A v:=Below.chain (by assumption) b (ze _);clear b)
  all_goals
   go_wp2_with fail
   go_meet
   case rel=>exact⟨rfl,by assumption,by assumption,by assumption⟩
 case rest=>
  obtain⟨rfl,r,r2,I⟩:=hcut;have d:Hid (Below w.heap.size w wc):=m.out.trans (r.mono m.out.size);clear r L M N O P D;have t:=C.out wc d.out;have o:=hid t;clear t C;obtain⟨K,i⟩:∃x,(⟨#[123,34,111,112,34,58]⟩++Ref.zQ op++⟨#[44,34,107,101,121,34,58]⟩++Ref.zQ key:BA)=x:=⟨_,rfl⟩
  have S:K.size<=200000:=by
   have y1:(⟨#[123,34,111,112,34,58]⟩:BA).size=6:=rfl;have y2:(⟨#[44,34,107,101,121,34,58]⟩:BA).size=7:=rfl;rw[<- i,zI,zI,zI];omega
  rw[i];have g:=hid i;clear i X Y u j k f
  by_cases hn0:0<n
  ·have Q:decide (0<(n:Int))=true:=by simp;omega
   cases no with
   | true=>
    go_wp2_with (go_at_call 171;refine o.out.mono ?_;rintro e V ⟨rfl,a⟩;have T:=zg a I;have l:=hid (Below.chain d.out a (ze _));clear a)
    go_ret;exact⟨by simp;exact g.out.symm,l.out⟩
   | false=>
    go_wp2_with (go_at_call 171;refine o.out.mono ?_;rintro e V ⟨rfl,a⟩;have T:=zg a I;have l:=hid (Below.chain d.out a (ze _));clear a)
    go_ret;exact⟨by simp;exact g.out.symm,l.out⟩
  ·have Q:decide (0<(n:Int))=false:=by simp;omega
   cases no with
   | true=>
    go_wp2
    go_ret;exact⟨by simp;exact g.out.symm,d.out⟩
   | false=>
    go_wp2
    go_ret;exact⟨by simp;exact g.out.symm,d.out⟩
def Uc(c:zU):Prop:=c.op.size<=12000/\c.key.size<=12000/\Ref.uY c.vals
structure Q6 (s:zB):Prop where
 eff:s.eff.size<=12000
 who:Ref.uY s.who.2
 act:Ref.uY s.act.2
 on:Ref.uY s.on.2
 len:s.ifs.length<=5
 cs:∀c ∈ s.ifs,Uc c
theorem lS{c:zU}(h:Uc c):(yx c).size<=1300000:=by
 obtain⟨f,g,b⟩:=h;have i:=Ref.XZ c.op;have q2:=Ref.XZ c.key;have e:=Ref.UW b;rw[Vz] at e;have j:(⟨#[123,34,111,112,34,58]⟩:BA).size=6:=rfl;have k:(⟨#[44,34,107,101,121,34,58]⟩:BA).size=7:=rfl;have l:(⟨#[44,34,118,97,108,117,101,34,58]⟩:BA).size=9:=rfl;have m:(⟨#[44,34,110,111,34,58,116,114,117,101]⟩:BA).size=10:=rfl;have n:(⟨#[125]⟩:BA).size=1:=rfl
 have a:(⟨#[123,34,111,112,34,58]⟩++Ref.zQ c.op++⟨#[44,34,107,101,121,34,58]⟩++Ref.zQ c.key).size<=200000:=by
  rw[zI,zI,zI];omega
 have d:(⟨#[123,34,111,112,34,58]⟩++Ref.zQ c.op++⟨#[44,34,107,101,121,34,58]⟩++Ref.zQ c.key++(⟨#[44,34,118,97,108,117,101,34,58]⟩++xI (c.vals.map Ref.zQ))).size<=1200000:=by
  rw[zI,zI (a:=⟨#[44,34,118,97,108,117,101,34,58]⟩)];omega
 unfold yx;rw[zI]
 split
 ·rw[zI]
  split
  ·omega
  ·omega
 ·split
  ·omega
  ·omega
theorem oM(l:List BA)(M n:Nat)(h:∀x ∈ l,x.size<=M)(a:l.length<=n):(xI l).size<=n*(M+1)+2:=by
 have b:=UR l M h;have c:l.length*(M+1)<=n*(M+1):=Q3 _ a;have d:(⟨#[91]⟩:BA).size=1:=rfl;have e:(⟨#[93]⟩:BA).size=1:=rfl;unfold xI;rw[zI,zI];omega
theorem El:∀args w,(callFunc 118 args).run prog w = .ok (.enter 118 args) w:=enters_of func118 (by kernel_rfl) rfl
theorem PN(cs:List zU)(l:Value)(base:Nat)(w:World)(h:qN w base l cs)(z:cs.length<=5)(f:∀c ∈ cs,Uc c) :
  Calls prog 117 #[l,.func (.func 118) #[] #[]] w λe D=>e = .returned (.string (Zr cs))/\Below w.heap.size w D:=by
 have c1:=Nh cs l base 118 yx w h (by omega) El (λW c C p _ b=>PM c C base W b (f c p).1 (f c p).2.1 (f c p).2.2)
 have r:∀x ∈ cs.map yx,x.size<=1300000:=by
  intro x k;rw[ql] at k;obtain⟨s,A,rfl⟩:=k;exact lS (f s A)
 have t:=UR _ _ r;rw[zN] at t
 have q:(jg (cs.map yx)).size<=10000000:=by
  have:cs.length*(1300000+1)<=5*(1300000+1):=Q3 _ z
  omega
 have c2:=λW j (b:zA W w.heap.size j (cs.map yx))=>bU (cs.map yx) j w.heap.size W b (by rw[zN];omega) (by omega);unfold Zr xI;obtain⟨J,n⟩:=Nm (jg (cs.map yx));rw[n] at q |-;simp only[n] at c2;obtain⟨M,o⟩:=Nm (cs.map yx);rw[o] at c1;simp only[o] at c2;have u:=hid c1;have v:=hid c2
 obtain⟨a,c,rfl⟩:∃a c,l = .slice a cs.length c:=by
  obtain⟨xs,k,_⟩:=h
  rcases k.2 with ⟨rfl,h0⟩|⟨gb,c,cur,rfl,_⟩
  ·exact⟨_,_,by rw[h0]⟩
  ·exact⟨_,_,rfl⟩
 clear c1 c2 n o r t h f;go_enter func117,ntmps117
 go_wp2_with (first
  | (go_at_call 113;refine (v.out E _ y.out).mono ?_;rintro e F ⟨rfl,i⟩;have m:=hid (d.out.trans (i.mono d.out.size));clear i)
  | (go_at_call 172;refine u.out.mono ?_;rintro e E ⟨B,rfl,b,g⟩;have y:=hid b;have d:=hid g;clear b g))
 go_ret;exact⟨rfl,m.out⟩
theorem lU{cs:List zU}(d:cs.length<=5)(b:∀c ∈ cs,Uc c):(Zr cs).size<=7000000:=by
 have:=oM (cs.map yx) 1300000 5 (λx a=>by
  rw[ql] at a;obtain⟨s,e,rfl⟩:=a;exact lS (b s e)) (by rw[zN];exact d)
 unfold Zr;omega
theorem PP(s:zB)(l1 l2 l3 V:Value)(base:Nat)(w:World)(E:zA w base l1 s.who.2)(F:zA w base l2 s.act.2)(G:zA w base l3 s.on.2)(U:qN w base V s.ifs)(hS:Q6 s) :
  Calls prog 63 #[.agg #[.string s.eff,.bool s.who.1,l1,.bool s.act.1,l2,.bool s.on.1,l3,V]] w λe w'=>e = .returned (.string (xN s))/\Below w.heap.size w w':=by
 obtain⟨eff,who,act,on,ifs⟩:=s;obtain⟨z1,M,N,O,X,Y⟩:=hS;simp only at E F G U z1 M N O X Y |-;unfold xN;simp only[<- Ut];have Z:=λW=>eD eff W (by omega);have B:=λW (hb:Below w.heap.size w W)=>dV who l1 base W (ownsRow_below E hb) M;have C:=λW (hb:Below w.heap.size w W)=>dV act l2 base W (ownsRow_below F hb) N;have D:=λW (hb:Below w.heap.size w W)=>dV on l3 base W (ownsRow_below G hb) O;have T:=λW (hb:Below w.heap.size w W)=>PN ifs V base W (U.below hb) X Y;have y1:=Ref.XZ eff;have y2:=Ref.Jf M;have y3:=Ref.Jf N;have y4:=Ref.Jf O;have y5:=lU X Y;obtain⟨P,L1⟩:=who;obtain⟨R,L2⟩:=act;obtain⟨S,L3⟩:=on;simp only at E F G M N O B C D;obtain⟨x1,c1,rfl⟩:=xh E;obtain⟨x2,c2,rfl⟩:=xh F;obtain⟨x3,c3,rfl⟩:=xh G
 obtain⟨x4,c4,rfl⟩:∃a c,V = .slice a ifs.length c:=by
  obtain⟨xs,hx,_⟩:=U
  rcases hx.2 with ⟨rfl,h0⟩|⟨gb,c,cur,rfl,_⟩
  ·exact⟨_,_,by rw[h0]⟩
  ·exact⟨_,_,rfl⟩
 obtain⟨Q,hQ⟩:∃x,Ref.zQ eff=x:=⟨_,rfl⟩;obtain⟨G1,t⟩:∃x,Ref.Zq (P,L1)=x:=⟨_,rfl⟩;obtain⟨G2,u⟩:∃x,Ref.Zq (R,L2)=x:=⟨_,rfl⟩;obtain⟨G3,v⟩:∃x,Ref.Zq (S,L3)=x:=⟨_,rfl⟩;obtain⟨G4,y⟩:∃x,Zr ifs=x:=⟨_,rfl⟩;simp only[hQ] at Z y1;simp only[t] at B y2;simp only[u] at C y3;simp only[v] at D y4;simp only[y] at T y5;simp only[hQ,t,u,v,y];obtain⟨n,hn⟩:=Nm ifs.length;obtain⟨n1,J⟩:∃n,L1.length=n:=⟨_,rfl⟩;obtain⟨n2,K⟩:∃n,L2.length=n:=⟨_,rfl⟩;obtain⟨n3,L⟩:∃n,L3.length=n:=⟨_,rfl⟩;rw[hn] at T X |-;rw[J] at B |-;rw[K] at C |-;rw[L] at D |-;have CQ:=hid Z;have CA:=hid B;have CB:=hid C;have CC:=hid D;have CD:=hid T;clear Z B C D T E F G U M N O Y hQ t u v y hn J K L;obtain⟨A,hA⟩:=Nm (w.alloc (.cells #[.string eff,.bool P,.slice x1 n1 c1,.bool R,.slice x2 n2 c2,.bool S,.slice x3 n3 c3,.slice x4 n c4] 133));have bl:=zM w (.cells #[.string eff,.bool P,.slice x1 n1 c1,.bool R,.slice x2 n2 c2,.bool S,.slice x3 n3 c3,.slice x4 n c4] 133);have r:Below w.heap.size w A:=by rw[<- hA];exact nB w _
 rw[hA] at bl;have I:w.heap.size<A.heap.size:=qF bl
 have b:Hid (∀W,Below A.heap.size A W->(W.cell? ⟨w.heap.size,0,none⟩=some (.string eff)/\W.cell? ⟨w.heap.size,1,none⟩=some (.bool P)/\W.cell? ⟨w.heap.size,2,none⟩=some (.slice x1 n1 c1)/\W.cell? ⟨w.heap.size,3,none⟩=some (.bool R)/\W.cell? ⟨w.heap.size,4,none⟩=some (.slice x2 n2 c2)/\W.cell? ⟨w.heap.size,5,none⟩=some (.bool S)/\W.cell? ⟨w.heap.size,6,none⟩=some (.slice x3 n3 c3)/\W.cell? ⟨w.heap.size,7,none⟩=some (.slice x4 n c4))/\Below w.heap.size w W):=by
  refine hid (λW hb=>?_);have l:=(hb.block _ I).trans bl;exact⟨⟨(zf l 0).1,(zf l 1).1,(zf l 2).1,(zf l 3).1,(zf l 4).1,(zf l 5).1,(zf l 6).1,(zf l 7).1⟩,r.trans (hb.mono r.size)⟩
 obtain⟨⟨a0,a1,a2,a3,a4,a5,a6,a7⟩,_⟩:=b.out A (zh _ _);clear bl r I
 by_cases hn0:0<n
 ·have dn:decide (0<(n:Int))=true:=by simp;omega
  rw[zb hn0];go_enter func63,ntmps63
  go_wp2_with (first
   | (go_at_call 117;refine (CD.out m (b.out m z).2).mono ?_;rintro e w5 ⟨rfl,H⟩;have B5:Below A.heap.size A w5:=Below.chain z H (ze _);clear H)
   | (go_at_call 116;refine (CC.out k (b.out k q).2).mono ?_;rintro e m ⟨rfl,h⟩;have z:Below A.heap.size A m:=Below.chain q h (ze _);obtain⟨⟨e0,e1,e2,e3,e4,e5,e6,e7⟩,_⟩:=b.out m z;clear h)
   | (go_at_call 116;refine (CB.out j (b.out j p).2).mono ?_;rintro e k ⟨rfl,g⟩;have q:Below A.heap.size A k:=Below.chain p g (ze _);obtain⟨⟨d0,d1,d2,d3,d4,d5,d6,d7⟩,_⟩:=b.out k q;clear g)
   | (go_at_call 116;refine (CA.out i (b.out i o).2).mono ?_;rintro e j ⟨rfl,f⟩;have p:Below A.heap.size A j:=Below.chain o f (ze _);obtain⟨⟨g0,g1,g2,g3,g4,g5,g6,g7⟩,_⟩:=b.out j p;clear f)
   | (go_at_call 115;refine (CQ.out A).mono ?_;rintro e i ⟨rfl,d⟩;have o:Below A.heap.size A i:=d;obtain⟨⟨b0,b1,b2,b3,b4,b5,b6,b7⟩,_⟩:=b.out i o;clear d))
  go_ret;exact⟨rfl,(b.out w5 B5).2⟩
 ·have dn:decide (0<(n:Int))=false:=by simp;omega
  rw[za hn0];go_enter func63,ntmps63
  go_wp2_with (first
   | (go_at_call 116;refine (CC.out k (b.out k q).2).mono ?_;rintro e m ⟨rfl,h⟩;have z:Below A.heap.size A m:=Below.chain q h (ze _);obtain⟨⟨e0,e1,e2,e3,e4,e5,e6,e7⟩,_⟩:=b.out m z;clear h)
   | (go_at_call 116;refine (CB.out j (b.out j p).2).mono ?_;rintro e k ⟨rfl,g⟩;have q:Below A.heap.size A k:=Below.chain p g (ze _);obtain⟨⟨d0,d1,d2,d3,d4,d5,d6,d7⟩,_⟩:=b.out k q;clear g)
   | (go_at_call 116;refine (CA.out i (b.out i o).2).mono ?_;rintro e j ⟨rfl,f⟩;have p:Below A.heap.size A j:=Below.chain o f (ze _);obtain⟨⟨g0,g1,g2,g3,g4,g5,g6,g7⟩,_⟩:=b.out j p;clear f)
   | (go_at_call 115;refine (CQ.out A).mono ?_;rintro e i ⟨rfl,d⟩;have o:Below A.heap.size A i:=d;obtain⟨⟨b0,b1,b2,b3,b4,b5,b6,b7⟩,_⟩:=b.out i o;clear d))
  go_ret;exact⟨rfl,(b.out m z).2⟩
end Go.Proofs.YtdakgnaojakldaaGreatDoor
