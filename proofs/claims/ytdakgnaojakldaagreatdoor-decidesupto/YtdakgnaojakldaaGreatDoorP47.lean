/- P -/
import Derived.Test.YtdakgnaojakldaaGreatDoorP46
open Go.Proofs.Tryz
set_option maxRecDepth 100000
set_option maxHeartbeats 1000000
namespace Go.Proofs.YtdakgnaojakldaaGreatDoor
open Go.RowKit
def cB(g:Nat)(a:Array Value)(cs:List qj)(p:qj->Bool)(w:World):Prop:=
 ∀W c lv,c ∈ cs->Below w.heap.size w W->xW W lv c.vals->Calls prog g (#[.agg #[.string c.op,.string c.key,lv,.bool c.no]]++a) W λe w'=>e = .returned (.bool (p c))/\Below W.heap.size W w'
def DV(g:Nat)(f:Array Value)(h:List zS)(p:zS->Bool)(w:World):Prop:=
 ∀W s a b c d,s ∈ h->Below w.heap.size w W->XE W a b c d s->Calls prog g (#[.agg #[.string s.eff,.bool s.who.1,a,.bool s.act.1,b,.bool s.on.1,c,d]]++f) W λe w'=>e = .returned (.bool (p s))/\Below W.heap.size W w'
theorem MZ(cs:List qj)(v:Value)(g:Nat)(I:Array Value)(p:qj->Bool)(w:World)(X:cs.length<=100000)(U:∀args w,(callFunc g args).run prog w = .ok (.enter g args) w)(T:Qg w v cs)(G:cB g I cs p w) :
  Calls prog 266 #[v,.func (.func g) #[] I] w λe w'=>
   e = .returned (.tuple #[.int .i64 (((zx (λj=>p (cs.getD j Xw)) cs.length).getD 0:Nat):Int),.bool (zx (λj=>p (cs.getD j Xw)) cs.length).isSome])/\Below w.heap.size w w':=by
 obtain⟨t,s⟩:∃q:Nat->Bool,(λj=>p (cs.getD j Xw))=q:=⟨_,rfl⟩;have u:∀k,(h:k<cs.length)->t k=p cs[k]:=λk h=>by rw[<- s];simp only;rw[zQ,zm h];rfl
 rw[s];generalize hF:zx t cs.length=F;obtain⟨ao,cap,rfl,f⟩:=T;have E:=hid hF;have S:=hid f;have R:=hid G;have Q:=hid u;clear hF f G u s;go_enter func266,ntmps266
 go_wp2
 go_loopw [10] (λi wr=>∃k:Nat,k<=cs.length/\i = .int .i64 k/\(∀j,j<k->t j=false)/\Below w.heap.size w wr) (λi _=>cs.length-(intOf i).toNat)
 case atStart=>exact⟨0,zH _,rfl,λj h=>by omega,ze _ _⟩
 case round=>
  obtain⟨k,V,rfl,hb,H⟩:=hrel;have A:=hid hb;have l:=hid H;clear hb H
  by_cases hlt:k<cs.length
  ·rcases S.out with e|⟨b,o,rfl,hc⟩
   ·subst e;simp at hlt
   obtain⟨lv,M,N,q2,P,D⟩:=hc k hlt;obtain⟨Y,Z,rfl,_⟩:=Yp D;have a:=λ(W:World) (hb:Below w.heap.size w W)=>R.out W cs[k] _ (qA hlt) hb (uI D hb);have J:=zh l.out M;have K:=zh l.out N;have C:=zh l.out q2;have L:=zh l.out P;have r:=Q.out k hlt;obtain⟨c,x⟩:=Nm (cs[k]);simp only[x] at J K C L a r;rw[<- r] at a;obtain⟨op,key,vals,no⟩:=c;simp only at J K C L a;obtain⟨m,y⟩:=Nm vals.length;simp only[y] at C a;have d:=λO=>l.out.alloc l.out.size O;have z:=hid a;clear hc x y M N q2 P D a r
   cases hpp:t k with
   | false=>
    rw[hpp] at z;have B:=hid hpp;clear hpp
    go_wp2_with (go_at_fn g;refine (z.out _ (d _)).mono ?_;rintro e w' ⟨rfl,n⟩)
    refine⟨⟨k+1,by omega,by go_num,λj h=>?_,(d _).trans (n.mono (d _).size)⟩,by simp[intOf];omega⟩
    by_cases hj:j=k
    ·subst hj;exact B.out
    ·exact A.out j (by omega)
   | true=>
    rw[hpp] at z;have e:=QO t cs.length k hlt A.out hpp;rw[E.out] at e;subst e;clear hpp
    go_wp2_with (go_at_fn g;refine (z.out _ (d _)).mono ?_;rintro e w' ⟨rfl,n⟩)
    go_ret2;exact⟨rfl,(d _).trans (n.mono (d _).size)⟩
  ·have e:=QP t cs.length (λj h=>A.out j (by omega));rw[E.out] at e;subst e
   go_wp2
   go_ret2;exact⟨rfl,l.out⟩
theorem Nc(cs:List zS)(v:Value)(g:Nat)(P:Array Value)(p:zS->Bool)(w:World)(hn:cs.length<=100000)(eg:∀args w,(callFunc g args).run prog w = .ok (.enter g args) w)(hm:Q7 w v cs)(M:DV g P cs p w) :
  Calls prog 225 #[v,.func (.func g) #[] P] w λe w'=>
   e = .returned (.tuple #[.int .i64 (((zx (λj=>p (cs.getD j Vp)) cs.length).getD 0:Nat):Int),.bool (zx (λj=>p (cs.getD j Vp)) cs.length).isSome])/\Below w.heap.size w w':=by
 obtain⟨t,s⟩:∃q:Nat->Bool,(λj=>p (cs.getD j Vp))=q:=⟨_,rfl⟩;have x:∀k,(h:k<cs.length)->t k=p cs[k]:=λk h=>by rw[<- s];simp only;rw[zQ,zm h];rfl
 rw[s];generalize hF:zx t cs.length=F;obtain⟨ao,cap,rfl,l⟩:=hm;have L:=hid hF;have HR:=hid l;have HP:=hid M;have HA:=hid x;clear hF l M x s;go_enter func225,ntmps225
 go_wp2
 go_loopw [10] (λi wr=>∃k:Nat,k<=cs.length/\i = .int .i64 k/\(∀j,j<k->t j=false)/\Below w.heap.size w wr) (λi _=>cs.length-(intOf i).toNat)
 case atStart=>exact⟨0,zH _,rfl,λj h=>by omega,ze _ _⟩
 case round=>
  obtain⟨k,hk,rfl,hb,N⟩:=hrel;have E:=hid hb;have f:=hid N;clear hb N
  by_cases hlt:k<cs.length
  ·rcases HR.out with e|⟨b,o,rfl,hc⟩
   ·subst e;simp at hlt
   obtain⟨l1,l2,l3,lc,U,V,q2,X,Y,Z,q6,q7,u⟩:=hc k hlt;obtain⟨x1,y1,rfl,_⟩:=Yp u.who;obtain⟨x2,y2,rfl,_⟩:=Yp u.act;obtain⟨x3,y3,rfl,_⟩:=Yp u.on;obtain⟨x4,y4,rfl,_⟩:=oG u.ifs;have a:=λ(W:World) (hb:Below w.heap.size w W)=>HP.out W cs[k] _ _ _ _ (qA hlt) hb (u.below hb);have Q:=zh f.out U;have R:=zh f.out V;have H:=zh f.out q2;have S:=zh f.out X;have I:=zh f.out Y;have T:=zh f.out Z;have J:=zh f.out q6;have K:=zh f.out q7;have r:=HA.out k hlt;obtain⟨c,y⟩:=Nm (cs[k]);simp only[y] at Q R H S I T J K a r;rw[<- r] at a;obtain⟨eff,⟨n1,s1⟩,⟨n2,s2⟩,⟨n3,s3⟩,is⟩:=c;simp only at Q R H S I T J K a;obtain⟨m1,z⟩:∃m,s1.length=m:=⟨_,rfl⟩;obtain⟨m2,A⟩:∃m,s2.length=m:=⟨_,rfl⟩;obtain⟨m3,B⟩:∃m,s3.length=m:=⟨_,rfl⟩;obtain⟨m4,C⟩:∃m,is.length=m:=⟨_,rfl⟩;simp only[z,A,B,C] at H I J K a;have d:=λO=>f.out.alloc f.out.size O;have D:=hid a;clear hc y z A B C U V q2 X Y Z q6 q7 u a r
   cases hpp:t k with
   | false=>
    rw[hpp] at D;have G:=hid hpp;clear hpp
    go_wp2_with (go_at_fn g;refine (D.out _ (d _)).mono ?_;rintro e w' ⟨rfl,n⟩)
    refine⟨⟨k+1,by omega,by go_num,λj h=>?_,(d _).trans (n.mono (d _).size)⟩,by simp[intOf];omega⟩
    by_cases hj:j=k
    ·subst hj;exact G.out
    ·exact E.out j (by omega)
   | true=>
    rw[hpp] at D;have e:=QO t cs.length k hlt E.out hpp;rw[L.out] at e;subst e;clear hpp
    go_wp2_with (go_at_fn g;refine (D.out _ (d _)).mono ?_;rintro e w' ⟨rfl,n⟩)
    go_ret2;exact⟨rfl,(d _).trans (n.mono (d _).size)⟩
  ·have e:=QP t cs.length (λj h=>E.out j (by omega));rw[L.out] at e;subst e
   go_wp2
   go_ret2;exact⟨rfl,f.out⟩
theorem EI(cs:List qj)(v:Value)(g:Nat)(d:Array Value)(p:qj->Bool)(w:World)(i:cs.length<=100000)(h:∀args w,(callFunc g args).run prog w = .ok (.enter g args) w)(f:Qg w v cs)(k:cB g d cs p w) :
  Calls prog 258 #[v,.func (.func g) #[] d] w λe w'=>e = .returned (.bool (cs.any p))/\Below w.heap.size w w':=by
 have c:=MZ cs v g d p w i h f k;rw[<- V7 cs Xw p];obtain⟨a,cap,rfl,_⟩:=f;generalize zx (λj=>p (cs.getD j Xw)) cs.length=F at c;go_enter func258,ntmps258
 go_wp2_with (go_at_call 266;refine c.mono ?_;rintro e w' ⟨rfl,b⟩)
 go_ret;exact⟨rfl,b⟩
theorem Eo(g:Nat)(d:Array Value)(op key:BY)(c:Option Addr)(m f:Nat)(no:Bool)(B:Nat)(y:Bool)(w:World)(k:∀args w,(callFunc g args).run prog w = .ok (.enter g args) w)
  (h:w.cell? ⟨B,0,none⟩=some (.func (.func g) #[] d))(j:∀W,Below w.heap.size w W->Calls prog g (#[.agg #[.string op,.string key,.slice c m f,.bool no]]++d) W λe w'=>e = .returned (.bool y)/\Below W.heap.size W w') :
  Calls prog 259 #[.agg #[.string op,.string key,.slice c m f,.bool no],.pointer (some ⟨B,0,none⟩)] w λe w'=>e = .returned (.bool (!y))/\Below w.heap.size w w':=by
 have i:=λO:Obj=>zh (nbl w O) h;have a:=λO:Obj=>nbl w O;go_enter func259,ntmps259
 go_wp2_with (go_at_fn g;refine (j _ (a _)).mono ?_;rintro e w' ⟨rfl,b⟩)
 go_ret;exact⟨rfl,(a _).trans (b.mono (a _).size)⟩
theorem Ej(cs:List qj)(p:qj->Bool):(!cs.any λc=>!p c)=cs.all p:=by
 induction cs with
 | nil=>rfl
 | cons x r a=>
  rw[JN,U9,Bool.not_or,Bool.not_not,a]
theorem En(cs:List qj)(v:Value)(g:Nat)(b:Array Value)(p:qj->Bool)(w:World)(q:cs.length<=100000)(n:∀args w,(callFunc g args).run prog w = .ok (.enter g args) w)(i:Qg w v cs)(j:cB g b cs p w) :
  Calls prog 246 #[v,.func (.func g) #[] b] w λe w'=>e = .returned (.bool (cs.all p))/\Below w.heap.size w w':=by
 have m:∀args w,(callFunc 259 args).run prog w = .ok (.enter 259 args) w:=enters_of func259 (by kernel_rfl) rfl;have b0:Below w.heap.size w (w.alloc (.cells #[.func (.func g) #[] b] 397)):=nbl w _
 have c:=EI cs v 259 #[.pointer (some ⟨w.heap.size,0,none⟩)] (λc=>!p c) (w.alloc (.cells #[.func (.func g) #[] b] 397)) q m (i.below b0)
  (λW c lv o hb k=>by
    obtain⟨r,s,rfl,_⟩:=Yp k;refine Eo g b c.op c.key r c.vals.length s c.no w.heap.size (p c) W n (zh hb (by simp)) (λl h=>j l c _ o (b0.trans ((hb.trans (h.mono hb.size)).mono b0.size)) (uI k h)))
 rw[<- Ej cs p];generalize (cs.any λc=>!p c)=F at c;obtain⟨a,cap,rfl,_⟩:=i;have f:=hid b0;clear j b0;go_enter func246,ntmps246
 go_wp2_with (go_at_call 258;refine c.mono ?_;rintro e w' ⟨rfl,d⟩)
 go_ret;exact⟨rfl,f.out.trans (d.mono f.out.size)⟩
theorem Tryz.infoBool:(prog.info? 4).map (λi=>(i.zero,i.size,i.bytes))=some (some (.bool false),1,1):=by kernel_rfl
theorem Va{w c:World}{E:TypeId}{base a g n k:Nat}{d rf:Nat->Bool}{b:Bool}(f:a≠g)(h:w.heap.size<=a)
  (i:c.ownsRow base E 1 (.slice (some ⟨a,0,none⟩) (n+1) (n+1)) (n+1) (Ref.jc (Ref.upTo d k) (n+1)))(j:c.ownsRow base E 1 (.slice (some ⟨g,0,none⟩) (n+1) (n+1)) (n+1) (Ref.jc rf (n+1)))
  (hb:Below w.heap.size w c)(l:d k=b) :
  (c.setCell ⟨a,k,none⟩ (.bool b)).ownsRow base E 1 (.slice (some ⟨a,0,none⟩) (n+1) (n+1)) (n+1) (Ref.jc (Ref.upTo d (k+1)) (n+1)) /\
  (c.setCell ⟨a,k,none⟩ (.bool b)).ownsRow base E 1 (.slice (some ⟨g,0,none⟩) (n+1) (n+1)) (n+1) (Ref.jc rf (n+1))/\Below w.heap.size w (c.setCell ⟨a,k,none⟩ (.bool b)):=by
 refine⟨?_,qY j (by simp only[Value.ownBlock];intro e;simp only[Option.some.injEq] at e;exact f e.symm) _,hb.setCell h _⟩;rw[<- Ref.BM d (n+1) k b l];exact (i.stored k (.bool b)).1
theorem Ik(j:List (Int×BY))(cs:List BY)(lv cv:Value)(w:World)(hl:Yg w lv j)(p:xW w cv cs)(g2:j.length<=100000)(g0:cs.length<=100000) :
  Calls prog 221 #[lv,cv] w λe w'=>e = .returned (.bool (Ref.covers j cs))/\Below w.heap.size w w':=by
 obtain⟨i0,hi,b8,b9,c1⟩:=xA Tryz.infoBool;obtain⟨lo,J,rfl,hl⟩:=hl;have b5:Yg w (.slice lo j.length J) j:=⟨lo,J,rfl,hl⟩;obtain⟨co,G,rfl,p⟩:=p;have b3:xW w (.slice co cs.length G) cs:=⟨co,G,rfl,p⟩;clear hl p;have HL:=hid b5;have HC:=hid b3;clear b5 b3;obtain⟨R,hR⟩:=Nm (Ref.covers j cs);rw[hR];have HR:=hid hR;clear hR;go_enter func221,ntmps221
 go_wp2_with (at_make;refine YX _ rfl _ _ 317 rfl w.heap.size 4 i0 (.bool false) 1 underlying317 hi b8 b9 _ _ _ _ (cs.length+1) rfl rfl ?_ ?_ ?_ ?_ ?_ ?_)
 ·omega
 ·omega
 ·rw[c1];omega
 ·unfold maxLen;omega
 ·omega
 intro w1 W I
 have O:w1.ownsRow w.heap.size 4 1 (.slice (some ⟨w.heap.size,0,none⟩) (cs.length+1) (cs.length+1)) (cs.length+1) (List.replicate (cs.length+1) (.bool false)):=by
  rw[<- VH];exact W
 have U:Below w.heap.size w w1:=(ze _ w).grown I (zf _) (λk N=>by cases N);have c0:w1.cell? ⟨w.heap.size,0,none⟩=some (.bool false):=by rw[O.cellAt 0 (by omega)];simp
 have f0:w1.frozen? ⟨w.heap.size,0,none⟩=false:=O.frozenAt 0;have a4:=(O.stored 0 (.bool true)).1;rw[Ref.Ih cs cs.length] at a4;have s:Below w.heap.size w (w1.setCell ⟨w.heap.size,0,none⟩ (.bool true)):=U.setCell (zf _) _;clear W I O U;have b0:=hid a4;have P:=hid s;clear a4 s
 go_wp2
 go_loopw [5,6] (λrv iv wr=>∃i g:Nat,i<=j.length/\iv = .int .i64 i/\rv = .slice (some ⟨g,0,none⟩) (cs.length+1) (cs.length+1) /\
   wr.ownsRow w.heap.size 4 1 (.slice (some ⟨g,0,none⟩) (cs.length+1) (cs.length+1)) (cs.length+1) (Ref.jc (Ref.xO cs (j.take i).reverse) (cs.length+1))/\Below w.heap.size w wr) (λ_ iv _=>j.length-(intOf iv).toNat)
 case atStart=>exact⟨0,w.heap.size,by omega,rfl,rfl,b0.out,P.out⟩
 case round=>
  obtain⟨i,g,e4,rfl,rfl,r,q⟩:=hrel;clear b0 P c0 f0;have u:=q.size;have c8:Hid (Yg wr (.slice lo j.length J) j):=gW HL.out q;have c7:Hid (xW wr (.slice co cs.length G) cs):=uI HC.out q
  by_cases hlt:i<j.length
  ·obtain⟨kind,t⟩:∃n,j[i].1=n:=⟨_,rfl⟩;obtain⟨a5,a3⟩:∃n,j[i].2=n:=⟨_,rfl⟩;obtain⟨prev,a2⟩:∃l,(j.take i).reverse=l:=⟨_,rfl⟩;have b6:(j.take (i+1)).reverse=j[i]::prev:=by rw[Ref.zcy j i hlt,a2]
   rw[a2] at r;obtain⟨x,B⟩:∃f,Ref.xO cs (j[i]::prev)=f:=⟨_,rfl⟩;obtain⟨rf,D⟩:∃f,Ref.xO cs prev=f:=⟨_,rfl⟩;rw[D] at r;have s1:kind=3->x 0=rf 0:=by intro h;rw[<- B,<- D];exact Ref.Ij cs _ _ (t.trans h)
   have s2:kind=3->∀k,0<k->x k=(rf k||x (k-1)):=by intro h k N;rw[<- B,<- D];exact Ref.Ii cs _ _ (t.trans h) k N
   have s3:kind≠3->x 0=false:=by intro h;rw[<- B];exact Ref.oP cs _ _ (by rw[t];exact h)
   have s4:kind=2->∀k,0<k->x k=rf (k-1):=by intro h k N;rw[<- B,<- D];exact Ref.oN cs _ _ (t.trans h) k N
   have s5:kind≠3->kind≠2->∀m (p:m<cs.length),x (m+1)=(rf m&&(a5.toList==cs[m].toList)):=by
    intro z M m p;rw[<- B,<- D,<- a3];exact Ref.oO cs _ _ (by rw[t];exact z) (by rw[t];exact M) (m+1) (by omega) p
   have S1:=hid s1;have S2:=hid s2;have S3:=hid s3;have S4:=hid s4;have S5:=hid s5;have c9:Hid (Ref.xO cs (j.take (i+1)).reverse=x):=by rw[b6];exact B
   have C:Hid (∃b o,lo=some ⟨b,o,none⟩/\∀Y,Below w.heap.size w Y->Y.cell? ⟨b,o+i*2,none⟩=some (.int .i64 kind)/\Y.cell? ⟨b,o+i*2+1,none⟩=some (.string a5)):=by
    obtain⟨d2,b1,he,Z⟩:=HL.out;simp only[Value.slice.injEq,Q8] at he;obtain⟨rfl,rfl⟩:=he
    rcases Z with rfl|⟨b,o,rfl,p⟩
    ·simp at hlt
    refine⟨b,o,rfl,λY b2=>?_⟩;rw[<- t,<- a3];exact⟨zh b2 (p i hlt).1,zh b2 (p i hlt).2⟩
   clear s1 s2 s3 s4 s5 B D b6 a2 t a3 c8 c7;obtain⟨pb,po,rfl,b7⟩:=C.out;have d0:=hid b7;clear C b7
   go_wp2_with (at_make;refine YX _ rfl _ _ 317 rfl w.heap.size 4 i0 (.bool false) 1 underlying317 hi b8 b9 _ _ _ _ (cs.length+1) rfl rfl ?_ ?_ ?_ ?_ ?_ ?_)
   ·omega
   ·omega
   ·rw[c1];omega
   ·unfold maxLen;omega
   ·omega
   intro w2 X y
   have V:w2.ownsRow w.heap.size 4 1 (.slice (some ⟨wr.heap.size,0,none⟩) (cs.length+1) (cs.length+1)) (cs.length+1) (Ref.jc (Ref.upTo x 0) (cs.length+1)):=by
    rw[Ref.BL,<- VH];exact X
   have K:=r.kept y (.inr (by simp[Value.ownBlock]));have s:Below w.heap.size w w2:=q.grown y u (λk N=>by cases N);have A:wr.heap.size≠g:=by have:=(r.lt g rfl).2;omega
   clear X y r q;have F:=hid V;have Q:=hid K;have a9:=hid s;obtain⟨nb,a1⟩:=Nm wr.heap.size;rw[a1] at F A u;rw[a1];clear V K s a1
   go_wp2
   go_loopw [8] (λkv Y=>∃k:Nat,k<=cs.length+1/\kv = .int .i64 k/\Y.ownsRow w.heap.size 4 1 (.slice (some ⟨nb,0,none⟩) (cs.length+1) (cs.length+1)) (cs.length+1) (Ref.jc (Ref.upTo x k) (cs.length+1)) /\
     Y.ownsRow w.heap.size 4 1 (.slice (some ⟨g,0,none⟩) (cs.length+1) (cs.length+1)) (cs.length+1) (Ref.jc rf (cs.length+1))/\Below w.heap.size w Y) (λkv _=>cs.length+1-(intOf kv).toNat)
   case atStart=>exact⟨0,by omega,rfl,F.out,Q.out,a9.out⟩
   case round=>
    obtain⟨k,g1,rfl,xn,xr,xb⟩:=hrel;clear F Q a9
    by_cases N:k<=cs.length
    ·obtain⟨p1,p2⟩:=d0.out wr xb;have fz:wr.frozen? ⟨nb,k,none⟩=false:=xn.frozenAt k;obtain⟨old,nk⟩:∃v,wr.cell? ⟨nb,k,none⟩=some v:=⟨_,(xn.cellAt k (by omega)).trans (Ref.UM _ _ _ (by omega))⟩;have rk:=(xr.cellAt k (by omega)).trans (Ref.UM _ _ _ (by omega));obtain⟨a,ha⟩:=Nm (rf k);rw[ha] at rk;have HA:=hid ha;have L:=hid xn;have T:=hid xr;have S:=hid xb;clear xn xr xb ha
     by_cases z:kind=3
     ·have d4:(kind==3)=true:=by simp[z]
      by_cases hk0:k=0
      ·subst hk0;have d:=hid (Va A u L.out T.out S.out ((S1.out z).trans HA.out));clear z
       cases a
       all_goals
        go_wp2
        exact⟨⟨0+1,by omega,by go_num,d.out.1,d.out.2.1,d.out.2.2⟩,by simp[intOf]⟩
      ·obtain⟨m,rfl⟩:∃m,k=m+1:=⟨k-1,by omega⟩;have c2:=(L.out.cellAt m (by omega)).trans (Ref.UM _ _ _ (by omega));rw[show Ref.upTo x (m+1) m=x m by simp[Ref.upTo]] at c2;obtain⟨b,hb⟩:∃a,x m=a:=⟨_,rfl⟩;rw[hb] at c2;have E:x (m+1)=(a||b):=by rw[S2.out z (m+1) (by omega),HA.out,JV,hb]
       cases a
       ·rw[Xa] at E;have d:=hid (Va A u L.out T.out S.out E);clear z E hb hk0
        go_wp2
        exact⟨⟨m+1+1,by omega,by go_num,d.out.1,d.out.2.1,d.out.2.2⟩,by simp[intOf];omega⟩
       ·rw[VJ] at E;have d:=hid (Va A u L.out T.out S.out E);clear z E hb hk0
        go_wp2
        exact⟨⟨m+1+1,by omega,by go_num,d.out.1,d.out.2.1,d.out.2.2⟩,by simp[intOf];omega⟩
     ·have d4:(kind==3)=false:=by simp[z]
      by_cases hk0:k=0
      ·subst hk0;have a7:=L.out;rw[Ref.zaG x _ 0 (S3.out z)] at a7;have d1:=hid a7;clear a7 z
       go_wp2
       exact⟨⟨0+1,by omega,by go_num,d1.out,T.out,S.out⟩,by simp[intOf]⟩
      ·obtain⟨m,rfl⟩:∃m,k=m+1:=⟨k-1,by omega⟩;have d8:=(T.out.cellAt m (by omega)).trans (Ref.UM _ _ _ (by omega));obtain⟨b,hb⟩:∃a,rf m=a:=⟨_,rfl⟩;rw[hb] at d8
       by_cases M:kind=2
       ·have d3:(kind==2)=true:=by simp[M]
        have d:=hid (Va A u L.out T.out S.out (b:=b) (by rw[S4.out M (m+1) (by omega),JV,hb]));clear z hb hk0 M
        go_wp2
        exact⟨⟨m+1+1,by omega,by go_num,d.out.1,d.out.2.1,d.out.2.2⟩,by simp[intOf];omega⟩
       ·have d3:(kind==2)=false:=by simp[M]
        have a0:∃cb H,co=some ⟨cb,H,none⟩/\wr.cell? ⟨cb,H+m,none⟩=some (.string cs[m]):=by
         obtain⟨d2,b1,he,Z⟩:=uI HC.out S.out;simp only[Value.slice.injEq,Q8] at he;obtain⟨rfl,rfl⟩:=he
         rcases Z with rfl|⟨cb,H,rfl,p⟩
         ·simp at N
         exact⟨cb,H,rfl,p m (by omega)⟩
        obtain⟨cb,H,rfl,qc⟩:=a0;obtain⟨c,p⟩:=Nm (cs[m]);rw[p] at qc
        have E:x (m+1)=(b&&(a5.toList==c.toList)):=by
         rw[S5.out z M m (by omega),hb,p]
        cases b
        ·rw[uJ] at E;have d:=hid (Va A u L.out T.out S.out E);clear z hb hk0 M p E
         go_wp2
         go_region
         all_goals go_wp2
         all_goals exact⟨⟨m+1+1,by omega,by go_num,d.out.1.drew,d.out.2.1.drew,d.out.2.2.drew⟩,by simp[intOf];omega⟩
        ·rw[jC] at E;have d:=hid (Va A u L.out T.out S.out E);clear z hb hk0 M p E
         go_wp2
         go_region
         all_goals go_wp2
         all_goals exact⟨⟨m+1+1,by omega,by go_num,d.out.1.drew,d.out.2.1.drew,d.out.2.2.drew⟩,by simp[intOf];omega⟩
    ·rw[Ref.zaF x _ _ (by omega)] at xn;have L:=hid xn;clear xn xr
     go_wp2
     go_roundw
     case rel=>exact⟨i+1,nb,by omega,by go_num,rfl,by rw[c9.out];exact L.out,xb⟩
     case measure=>simp[intOf];omega
  ·have p:=r.cellAt cs.length (by omega);rw[Ref.UM _ _ _ (by omega)] at p;have hf:Ref.xO cs (j.take i).reverse cs.length=R:=by rw[<- HR.out,ZO (by omega)];rfl
   rw[hf] at p;clear hf
   go_wp2
   go_ret;exact⟨rfl,q⟩
end Go.Proofs.YtdakgnaojakldaaGreatDoor
