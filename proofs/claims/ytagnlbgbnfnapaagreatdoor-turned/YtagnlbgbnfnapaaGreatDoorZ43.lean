/- P -/
import Derived.Test.YtagnlbgbnfnapaaGreatDoorZ42
open Go.Proofs.Tryz
set_option maxRecDepth 100000
set_option maxHeartbeats 4000000
namespace Go.Proofs.YtagnlbgbnfnapaaGreatDoor
open Go.RowKit
def aK(g:Nat)(b:Array Value)(cs:List qF)(p:qF->Bool)(w:World):Prop:=
 ∀W c a,c ∈ cs->Below w.heap.size w W->uj W a c.vals->Calls prog g (#[.agg #[.string c.op,.string c.key,a,.bool c.no]]++b) W λe d=>e = .returned (.bool (p c))/\Below W.heap.size W d
def Df(g:Nat)(f:Array Value)(h:List zT)(p:zT->Bool)(w:World):Prop:=
 ∀W s a b c d,s ∈ h->Below w.heap.size w W->Yz W a b c d s->Calls prog g (#[.agg #[.string s.eff,.bool s.who.1,a,.bool s.act.1,b,.bool s.on.1,c,d]]++f) W λe i=>e = .returned (.bool (p s))/\Below W.heap.size W i
theorem IV(cs:List qF)(v:Value)(g:Nat)(J:Array Value)(p:qF->Bool)(w:World)(Y:cs.length<=100000)(V:∀args w,(callFunc g args).run prog w = .ok (.enter g args) w)(U:Qt w v cs)(H:aK g J cs p w) :
  Calls prog 258 #[v,.func (.func g) #[] J] w λe E=>
   e = .returned (.tuple #[.int .i64 (((zD (λj=>p (cs.getD j QF)) cs.length).getD 0:Nat):Int),.bool (zD (λj=>p (cs.getD j QF)) cs.length).isSome])/\Below w.heap.size w E:=by
 obtain⟨t,s⟩:∃q:Nat->Bool,(λj=>p (cs.getD j QF))=q:=⟨_,rfl⟩;have u:∀k,(h:k<cs.length)->t k=p cs[k]:=λk h=>by rw[<- s];simp only;rw[zQ,zt h];rfl
 rw[s];generalize hF:zD t cs.length=F;obtain⟨ao,cap,rfl,f⟩:=U;have G:=hid hF;have T:=hid f;have S:=hid H;have R:=hid u;clear hF f H u s;go_enter func258,ntmps258
 go_wp2
 go_loopw [10] (λi wr=>∃k:Nat,k<=cs.length/\i = .int .i64 k/\(∀j,j<k->t j=false)/\Below w.heap.size w wr) (λi _=>cs.length-(intOf i).toNat)
 case atStart=>exact⟨0,zU _,rfl,λj h=>by omega,zi _ _⟩
 case round=>
  obtain⟨k,X,rfl,hb,I⟩:=hrel;have A:=hid hb;have l:=hid I;clear hb I
  by_cases hlt:k<cs.length
  ·rcases T.out with e|⟨b,o,rfl,hc⟩
   ·subst e;simp at hlt
   obtain⟨lv,N,P,q2,Q,D⟩:=hc k hlt;obtain⟨Z,lc,rfl,_⟩:=Uj D;have a:=λ(W:World) (hb:Below w.heap.size w W)=>S.out W cs[k] _ (xg hlt) hb (X4 D hb);have K:=zh l.out N;have L:=zh l.out P;have C:=zh l.out q2;have M:=zh l.out Q;have r:=R.out k hlt;obtain⟨c,x⟩:=Nm (cs[k]);simp only[x] at K L C M a r;rw[<- r] at a;obtain⟨op,key,vals,no⟩:=c;simp only at K L C M a;obtain⟨m,y⟩:=Nm vals.length;simp only[y] at C a;have d:=λO=>l.out.alloc l.out.size O;have z:=hid a;clear hc x y N P q2 Q D a r
   cases hpp:t k with
   | false=>
    rw[hpp] at z;have B:=hid hpp;clear hpp
    go_wp2_with (go_at_fn g;refine (z.out _ (d _)).mono ?_;rintro e E ⟨rfl,n⟩)
    refine⟨⟨k+1,by omega,by go_num,λj h=>?_,(d _).trans (n.mono (d _).size)⟩,by simp[intOf];omega⟩
    by_cases hj:j=k
    ·subst hj;exact B.out
    ·exact A.out j (by omega)
   | true=>
    rw[hpp] at z;have e:=QA t cs.length k hlt A.out hpp;rw[G.out] at e;subst e;clear hpp
    go_wp2_with (go_at_fn g;refine (z.out _ (d _)).mono ?_;rintro e E ⟨rfl,n⟩)
    go_ret2;exact⟨rfl,(d _).trans (n.mono (d _).size)⟩
  ·have e:=QB t cs.length (λj h=>A.out j (by omega));rw[G.out] at e;subst e
   go_wp2
   go_ret2;exact⟨rfl,l.out⟩
theorem IY(cs:List zT)(v:Value)(g:Nat)(Q:Array Value)(p:zT->Bool)(w:World)(hn:cs.length<=100000)(eg:∀args w,(callFunc g args).run prog w = .ok (.enter g args) w)(hm:YA w v cs)(N:Df g Q cs p w) :
  Calls prog 179 #[v,.func (.func g) #[] Q] w λe L=>
   e = .returned (.tuple #[.int .i64 (((zD (λj=>p (cs.getD j Va)) cs.length).getD 0:Nat):Int),.bool (zD (λj=>p (cs.getD j Va)) cs.length).isSome])/\Below w.heap.size w L:=by
 obtain⟨t,s⟩:∃q:Nat->Bool,(λj=>p (cs.getD j Va))=q:=⟨_,rfl⟩;have x:∀k,(h:k<cs.length)->t k=p cs[k]:=λk h=>by rw[<- s];simp only;rw[zQ,zt h];rfl
 rw[s];generalize hF:zD t cs.length=F;obtain⟨ao,cap,rfl,l⟩:=hm;have M:=hid hF;have HR:=hid l;have HP:=hid N;have HA:=hid x;clear hF l N x s;go_enter func179,ntmps179
 go_wp2
 go_loopw [10] (λi wr=>∃k:Nat,k<=cs.length/\i = .int .i64 k/\(∀j,j<k->t j=false)/\Below w.heap.size w wr) (λi _=>cs.length-(intOf i).toNat)
 case atStart=>exact⟨0,zU _,rfl,λj h=>by omega,zi _ _⟩
 case round=>
  obtain⟨k,hk,rfl,hb,P⟩:=hrel;have E:=hid hb;have f:=hid P;clear hb P
  by_cases hlt:k<cs.length
  ·rcases HR.out with e|⟨b,o,rfl,hc⟩
   ·subst e;simp at hlt
   obtain⟨l1,l2,l3,lc,V,X,q2,Y,Z,q5,q6,q7,u⟩:=hc k hlt;obtain⟨x1,y1,rfl,_⟩:=Uj u.who;obtain⟨x2,y2,rfl,_⟩:=Uj u.act;obtain⟨x3,y3,rfl,_⟩:=Uj u.on;obtain⟨x4,y4,rfl,_⟩:=Fy u.ifs;have a:=λ(W:World) (hb:Below w.heap.size w W)=>HP.out W cs[k] _ _ _ _ (xg hlt) hb (u.below hb);have R:=zh f.out V;have S:=zh f.out X;have H:=zh f.out q2;have T:=zh f.out Y;have I:=zh f.out Z;have U:=zh f.out q5;have J:=zh f.out q6;have K:=zh f.out q7;have r:=HA.out k hlt;obtain⟨c,y⟩:=Nm (cs[k]);simp only[y] at R S H T I U J K a r;rw[<- r] at a;obtain⟨eff,⟨n1,s1⟩,⟨n2,s2⟩,⟨n3,s3⟩,is⟩:=c;simp only at R S H T I U J K a;obtain⟨m1,z⟩:∃m,s1.length=m:=⟨_,rfl⟩;obtain⟨m2,A⟩:∃m,s2.length=m:=⟨_,rfl⟩;obtain⟨m3,B⟩:∃m,s3.length=m:=⟨_,rfl⟩;obtain⟨m4,C⟩:∃m,is.length=m:=⟨_,rfl⟩;simp only[z,A,B,C] at H I J K a;have d:=λO=>f.out.alloc f.out.size O;have D:=hid a;clear hc y z A B C V X q2 Y Z q5 q6 q7 u a r
   cases hpp:t k with
   | false=>
    rw[hpp] at D;have G:=hid hpp;clear hpp
    go_wp2_with (go_at_fn g;refine (D.out _ (d _)).mono ?_;rintro e L ⟨rfl,n⟩)
    refine⟨⟨k+1,by omega,by go_num,λj h=>?_,(d _).trans (n.mono (d _).size)⟩,by simp[intOf];omega⟩
    by_cases hj:j=k
    ·subst hj;exact G.out
    ·exact E.out j (by omega)
   | true=>
    rw[hpp] at D;have e:=QA t cs.length k hlt E.out hpp;rw[M.out] at e;subst e;clear hpp
    go_wp2_with (go_at_fn g;refine (D.out _ (d _)).mono ?_;rintro e L ⟨rfl,n⟩)
    go_ret2;exact⟨rfl,(d _).trans (n.mono (d _).size)⟩
  ·have e:=QB t cs.length (λj h=>E.out j (by omega));rw[M.out] at e;subst e
   go_wp2
   go_ret2;exact⟨rfl,f.out⟩
theorem DR(cs:List qF)(v:Value)(g:Nat)(d:Array Value)(p:qF->Bool)(w:World)(k:cs.length<=100000)(i:∀args w,(callFunc g args).run prog w = .ok (.enter g args) w)(f:Qt w v cs)(l:aK g d cs p w) :
  Calls prog 245 #[v,.func (.func g) #[] d] w λe h=>e = .returned (.bool (cs.any p))/\Below w.heap.size w h:=by
 have c:=IV cs v g d p w k i f l;rw[<- VH cs QF p];obtain⟨a,cap,rfl,_⟩:=f;generalize zD (λj=>p (cs.getD j QF)) cs.length=F at c;go_enter func245,ntmps245
 go_wp2_with (go_at_call 258;refine c.mono ?_;rintro e h ⟨rfl,b⟩)
 go_ret;exact⟨rfl,b⟩
theorem Du(g:Nat)(f:Array Value)(op key:BA)(d:Option Addr)(m h:Nat)(no:Bool)(B:Nat)(y:Bool)(w:World)(l:∀args w,(callFunc g args).run prog w = .ok (.enter g args) w)
  (i:w.cell? ⟨B,0,none⟩=some (.func (.func g) #[] f))(k:∀W,Below w.heap.size w W->Calls prog g (#[.agg #[.string op,.string key,.slice d m h,.bool no]]++f) W λe b=>e = .returned (.bool y)/\Below W.heap.size W b) :
  Calls prog 246 #[.agg #[.string op,.string key,.slice d m h,.bool no],.pointer (some ⟨B,0,none⟩)] w λe b=>e = .returned (.bool (!y))/\Below w.heap.size w b:=by
 have j:=λO:Obj=>zh (nB w O) i;have a:=λO:Obj=>nB w O;go_enter func246,ntmps246
 go_wp2_with (go_at_fn g;refine (k _ (a _)).mono ?_;rintro e b ⟨rfl,c⟩)
 go_ret;exact⟨rfl,(a _).trans (c.mono (a _).size)⟩
theorem Dq(cs:List qF)(p:qF->Bool):(!cs.any λc=>!p c)=cs.all p:=by
 induction cs with
 | nil=>rfl
 | cons x r a=>
  rw[X9,Uz,Bool.not_or,Bool.not_not,a]
theorem Dt(cs:List qF)(v:Value)(g:Nat)(d:Array Value)(p:qF->Bool)(w:World)(s:cs.length<=100000)(q:∀args w,(callFunc g args).run prog w = .ok (.enter g args) w)(j:Qt w v cs)(k:aK g d cs p w) :
  Calls prog 222 #[v,.func (.func g) #[] d] w λe m=>e = .returned (.bool (cs.all p))/\Below w.heap.size w m:=by
 have o:∀args w,(callFunc 246 args).run prog w = .ok (.enter 246 args) w:=qx func246 (by kernel_rfl) rfl;have b:Below w.heap.size w (w.alloc (.cells #[.func (.func g) #[] d] 378)):=nB w _
 have c:=DR cs v 246 #[.pointer (some ⟨w.heap.size,0,none⟩)] (λc=>!p c) (w.alloc (.cells #[.func (.func g) #[] d] 378)) s o (j.below b)
  (λW c x r hb l=>by
    obtain⟨t,u,rfl,_⟩:=Uj l;refine Du g d c.op c.key t c.vals.length u c.no w.heap.size (p c) W q (zh hb (by simp)) (λn i=>k n c _ r (b.trans ((hb.trans (i.mono hb.size)).mono b.size)) (X4 l i)))
 rw[<- Dq cs p];generalize (cs.any λc=>!p c)=F at c;obtain⟨a,cap,rfl,_⟩:=j;have h:=hid b;clear k b;go_enter func222,ntmps222
 go_wp2_with (go_at_call 245;refine c.mono ?_;rintro e m ⟨rfl,f⟩)
 go_ret;exact⟨rfl,h.out.trans (f.mono h.out.size)⟩
structure Jo (s:zT):Prop where
 who:s.who.2.length<=100000
 act:s.act.2.length<=100000
 on:s.on.2.length<=100000
 ifs:s.ifs.length<=100000
 vals:∀c ∈ s.ifs,c.vals.length<=100000/\∀v ∈ c.vals,v.size<=100000
theorem Jo.of{s:zT}(h:aJ s):Jo s:=
 ⟨by have:=h.who.1;omega,by have:=h.act.1;omega,by have:=h.on.1;omega,by have:=h.len;omega,λc a=>⟨by have:=(h.cs c a).2.2.1;omega,λv b=>by have:=(h.cs c a).2.2.2 v b;omega⟩⟩
def UM(W:World)(b:Nat)(a v1 c v2 d v3 e u0 u1 u2 u3:Value):Prop:=
 W.cell? ⟨b,1,none⟩=some a/\W.cell? ⟨b,2,none⟩=some v1/\W.cell? ⟨b,3,none⟩=some c/\W.cell? ⟨b,4,none⟩=some v2/\W.cell? ⟨b,5,none⟩=some d/\W.cell? ⟨b,6,none⟩=some v3/\W.cell? ⟨b,7,none⟩=some e/\W.cell? ⟨b+1,0,none⟩=some u0/\W.cell? ⟨b+1,1,none⟩=some u1/\W.cell? ⟨b+1,2,none⟩=some u2/\W.cell? ⟨b+1,3,none⟩=some u3
theorem UM.below{W a:World}{b:Nat}{c v1 d v2 e v3 f u0 u1 u2 u3:Value}(h:UM W b c v1 d v2 e v3 f u0 u1 u2 u3)(hb:Below W.heap.size W a):UM a b c v1 d v2 e v3 f u0 u1 u2 u3:=by
 obtain⟨l,m,n,o,p,q,r,g,i,j,k⟩:=h;exact⟨zh hb l,zh hb m,zh hb n,zh hb o,zh hb p,zh hb q,zh hb r,zh hb g,zh hb i,zh hb j,zh hb k⟩
theorem DY(c:qF)(g:Value)(r:Ref.Req)(ao:Option Addr)(cap B h:Nat)(w:World)(m:uj w g c.vals)(l:Jp c)(n:c.vals.length<=1000)(o:∀v ∈ c.vals,v.size<=100000)(k:kW w r ao cap B)(j:xK w)(i:w.cell? ⟨h,0,none⟩=some (yw B)) :
  Calls prog 223 #[.agg #[.string c.op,.string c.key,g,.bool c.no],.pointer (some ⟨h,0,none⟩)] w λe s=>e = .returned (.bool (De.Y6 c r))/\Below w.heap.size w s:=by
 have b:=λO:Obj=>nB w O;have d:=λO:Obj=>Mh c g r ao cap B (w.alloc O) (X4 m (b O)) l n o (k.below (b O)) (j.below (b O));have f:=λO:Obj=>zh (b O) i;obtain⟨a,t,rfl,_⟩:=m;generalize De.Y6 c r=F at d;obtain⟨op,key,vals,no⟩:=c;simp only at d |-;unfold yw at d f;have p:=hid d;clear d k j l n o i;go_enter func223,ntmps223
 go_wp2_with (go_at_call 224;refine (p.out _).mono ?_;rintro e u ⟨rfl,q⟩)
 go_ret;exact⟨rfl,(b _).trans (q.mono (b _).size)⟩
theorem Le(w c:World)(e f g i:Obj)(h:(((w.alloc e).alloc f).alloc g).alloc i=c) :
  c.heap[w.heap.size]?=some e/\c.heap[w.heap.size+1]?=some f/\c.heap[w.heap.size+2]?=some g/\c.heap[w.heap.size+3]?=some i/\Below w.heap.size w c:=by
 obtain⟨a,l⟩:∃W,w.alloc e=W:=⟨_,rfl⟩;have q:a.heap.size=w.heap.size+1:=by rw[<- l];simp
 have s:a.heap[w.heap.size]?=some e:=by rw[<- l];exact zL w e
 have p:Below w.heap.size w a:=by rw[<- l];exact nB w _
 rw[l] at h;obtain⟨b,m⟩:∃W,a.alloc f=W:=⟨_,rfl⟩;have r:b.heap.size=w.heap.size+2:=by rw[<- m];simp[q]
 have t:b.heap[w.heap.size+1]?=some f:=by rw[<- m,<- q];exact zL a f
 have o:Below a.heap.size a b:=by rw[<- m];exact nB a _
 rw[m] at h;obtain⟨d,n⟩:∃W,b.alloc g=W:=⟨_,rfl⟩;have x:d.heap.size=w.heap.size+3:=by rw[<- n];simp[r]
 have u:d.heap[w.heap.size+2]?=some g:=by rw[<- n,<- r];exact zL b g
 have j:Below b.heap.size b d:=by rw[<- n];exact nB b _
 rw[n] at h;have v:c.heap[w.heap.size+3]?=some i:=by rw[<- h,<- x];exact zL d i
 have k:Below d.heap.size d c:=by rw[<- h];exact nB d _
 exact⟨(k.block _ (by omega)).trans ((j.block _ (by omega)).trans ((o.block _ (by omega)).trans s)),(k.block _ (by omega)).trans ((j.block _ (by omega)).trans t),(k.block _ (by omega)).trans u,v,
  p.trans ((o.trans ((j.trans (k.mono j.size)).mono o.size)).mono p.size)⟩
theorem DZ(s:zT)(l1 l2 l3 lc:Value)(r:Ref.Req)(ao:Option Addr)(cap:Nat)(w:World)(z:Yz w l1 l2 l3 lc s)(N:Jq s)(E:Jo s)(hv:∀c ∈ s.ifs,c.vals.length<=1000)(O:xD w ao r.marks)(x:Ref.yT r=true)(K:xK w) :
  Calls prog 181 #[.agg #[.string s.eff,.bool s.who.1,l1,.bool s.act.1,l2,.bool s.on.1,l3,lc],Ref.qY r ao cap] w λe w'=>e = .returned (.bool (De.VJ s r))/\Below w.heap.size w w':=by
 obtain⟨k1,k2,k3⟩:=AZ x;obtain⟨a1,y1,rfl,g1⟩:=z.who;obtain⟨a2,y2,rfl,g2⟩:=z.act;obtain⟨a3,y3,rfl,g3⟩:=z.on;obtain⟨a4,y4,rfl,_⟩:=z.ifs;have g4:=z.ifs;have M:∃b,((((w.alloc (.cells #[.string s.eff,.bool s.who.1,.slice a1 s.who.2.length y1,.bool s.act.1,.slice a2 s.act.2.length y2,.bool s.on.1,.slice a3 s.on.2.length y3,.slice a4 s.ifs.length y4] 137)).alloc (.cells #[.string r.who,.string r.act,.string r.on,.slice ao r.marks.length cap] 34)).alloc (.cells #[.string r.who,.string r.act,.string r.on,.slice ao r.marks.length cap] 34)).alloc (.cells #[yw (w.heap.size+2)] 232))=b:=⟨_,rfl⟩;obtain⟨b,j⟩:=M;obtain⟨t,I,J,e3,o⟩:=Le w b _ _ _ _ j;have L:kW b r ao cap (w.heap.size+2):=⟨(zf J 0).1,(zf J 1).1,(zf J 2).1,(zf J 3).1,kF O o,x⟩
 have p:UM b w.heap.size (.bool s.who.1) (.slice a1 s.who.2.length y1) (.bool s.act.1) (.slice a2 s.act.2.length y2) (.bool s.on.1) (.slice a3 s.on.2.length y3) (.slice a4 s.ifs.length y4) (.string r.who) (.string r.act) (.string r.on) (.slice ao r.marks.length cap):=
  ⟨(zf t 1).1,(zf t 2).1,(zf t 3).1,(zf t 4).1,(zf t 5).1,(zf t 6).1,(zf t 7).1,(zf I 0).1,(zf I 1).1,(zf I 2).1,(zf I 3).1⟩
 have k:b.cell? ⟨w.heap.size+3,0,none⟩=some (yw (w.heap.size+2)):=(zf e3 0).1;have c1:=λ(W:World) (hb:Below b.heap.size b W)=>bE s.who r.who r ao a1 cap y1 (w.heap.size+2) W N.who E.who (Zo (Zo g1 o) hb) (L.below hb) ((K.below o).below hb) (Jl k1).1 (Jl k1).2;have c2:=λ(W:World) (hb:Below b.heap.size b W)=>bE s.act r.act r ao a2 cap y2 (w.heap.size+2) W N.act E.act (Zo (Zo g2 o) hb) (L.below hb) ((K.below o).below hb) (Jl k2).1 (Jl k2).2;have c3:=λ(W:World) (hb:Below b.heap.size b W)=>bE s.on r.on r ao a3 cap y3 (w.heap.size+2) W N.on E.on (Zo (Zo g3 o) hb) (L.below hb) ((K.below o).below hb) (Jl k3).1 (Jl k3).2
 have c4:=λ(W:World) (hb:Below b.heap.size b W)=>Dt s.ifs (.slice a4 s.ifs.length y4) 223 #[.pointer (some ⟨w.heap.size+3,0,none⟩)] (λc=>De.Y6 c r) W E.ifs (qx func223 (by kernel_rfl) rfl) ((g4.below o).below hb)
  (λW2 c lv hc h2 hs=>by
    have v:Below b.heap.size b W2:=hb.trans (h2.mono hb.size);exact DY c lv r ao cap (w.heap.size+2) (w.heap.size+3) W2 hs (N.ifs c hc) (hv c hc) (E.vals c hc).2 (L.below v) ((K.below o).below v) (zh v k))
 have V:=λW=>Tc r ao cap W;unfold De.VJ;obtain⟨A,hA⟩:=Nm (De.uk s.who r.who r);obtain⟨B,hB⟩:∃A,De.uk s.act r.act r=A:=⟨_,rfl⟩;obtain⟨C,hC⟩:∃A,De.uk s.on r.on r=A:=⟨_,rfl⟩;obtain⟨D,hD⟩:∃A,(s.ifs.all λc=>De.Y6 c r)=A:=⟨_,rfl⟩;rw[hA] at c1;rw[hB] at c2;rw[hC] at c3;rw[hD] at c4;rw[hA,hB,hC,hD];clear hA hB hC hD N E z k1 k2 k3 g1 g2 g3 g4 hv O x K L t I J e3;have sf:=λW a g lb m=>Zk prog W a (.func (.func g) #[] lb) m rfl;obtain⟨who,act,on,ms⟩:=r;obtain⟨eff,⟨n1,s1⟩,⟨n2,s2⟩,⟨n3,s3⟩,cs⟩:=s;unfold Ref.qY at V |-;simp only at c1 c2 c3 c4 V j p |-;unfold yw at c1 c2 c3 k j;obtain⟨z1,P⟩:∃n,s1.length=n:=⟨_,rfl⟩;obtain⟨z2,Q⟩:∃n,s2.length=n:=⟨_,rfl⟩;obtain⟨z3,R⟩:∃n,s3.length=n:=⟨_,rfl⟩;obtain⟨z4,S⟩:∃n,cs.length=n:=⟨_,rfl⟩;simp only[P,Q,R,S] at c1 c2 c3 c4 j p |-;have H:=hid j;have T:=hid p;have q:=hid o;have U:=hid c1;have Z:=hid c2;have C3:=hid c3;have C4:=hid c4;obtain⟨p1,p2,p3,p4,p5,p6,p7,q0,q1,q2,q3⟩:=p;clear j o c1 c2 c3 c4 P Q R S;go_enter func181,ntmps181
 go_upto_region 2 with (go_at_call 119;refine (V _).mono ?_;rintro e wS ⟨rfl,rfl⟩)
 rw[show w.heap.size+1+1+1=w.heap.size+3 from rfl,show w.heap.size+1+1=w.heap.size+2 from rfl,H.out]
 clear H V sf
 cases A with
 | false=>
  go_wp2_with (go_at_call 221;refine (U.out b (zi _ _)).mono ?_;rintro e G ⟨rfl,bb⟩;have d:=hid bb;have f:=hid (T.out.below bb);obtain⟨i1,i2,i3,i4,i5,i6,i7,t0,t1,t2,t3⟩:=f.out;have F:=zh bb k;clear bb)
  go_ret;exact⟨rfl,q.out.trans (d.out.mono q.out.size)⟩
 | true=>
 cases B with
 | false=>
  go_wp2_with (first
   | (go_at_call 221;refine (Z.out G d.out).mono ?_;rintro e y ⟨rfl,bb⟩;have h:Hid (Below b.heap.size b y):=d.out.trans (bb.mono d.out.size);have i:=hid (f.out.below bb);obtain⟨j1,j2,j3,j4,j5,j6,j7,u0,u1,u2,u3⟩:=i.out;have X:=zh bb F;clear bb)
   | (go_at_call 221;refine (U.out b (zi _ _)).mono ?_;rintro e G ⟨rfl,bb⟩;have d:=hid bb;have f:=hid (T.out.below bb);obtain⟨i1,i2,i3,i4,i5,i6,i7,t0,t1,t2,t3⟩:=f.out;have F:=zh bb k;clear bb))
  go_ret;exact⟨rfl,q.out.trans (h.out.mono q.out.size)⟩
 | true=>
 cases C with
 | false=>
  go_wp2_with (first
   | (go_at_call 221;refine (C3.out y h.out).mono ?_;rintro e Y ⟨rfl,bb⟩;have l:Hid (Below b.heap.size b Y):=h.out.trans (bb.mono h.out.size);have u:=hid (i.out.below bb);obtain⟨m1,m2,m3,m4,m5,m6,m7,x0,x1,x2,x3⟩:=u.out;have v7:=zh bb X;clear bb)
   | (go_at_call 221;refine (Z.out G d.out).mono ?_;rintro e y ⟨rfl,bb⟩;have h:Hid (Below b.heap.size b y):=d.out.trans (bb.mono d.out.size);have i:=hid (f.out.below bb);obtain⟨j1,j2,j3,j4,j5,j6,j7,u0,u1,u2,u3⟩:=i.out;have X:=zh bb F;clear bb)
   | (go_at_call 221;refine (U.out b (zi _ _)).mono ?_;rintro e G ⟨rfl,bb⟩;have d:=hid bb;have f:=hid (T.out.below bb);obtain⟨i1,i2,i3,i4,i5,i6,i7,t0,t1,t2,t3⟩:=f.out;have F:=zh bb k;clear bb))
  go_ret;exact⟨rfl,q.out.trans (l.out.mono q.out.size)⟩
 | true=>
  go_wp2_with (first
   | (go_at_call 222;refine (C4.out Y l.out).mono ?_;rintro e w8 ⟨rfl,bb⟩;have a0:Hid (Below b.heap.size b w8):=l.out.trans (bb.mono l.out.size);clear bb)
   | (go_at_call 221;refine (C3.out y h.out).mono ?_;rintro e Y ⟨rfl,bb⟩;have l:Hid (Below b.heap.size b Y):=h.out.trans (bb.mono h.out.size);have u:=hid (i.out.below bb);obtain⟨m1,m2,m3,m4,m5,m6,m7,x0,x1,x2,x3⟩:=u.out;have v7:=zh bb X;clear bb)
   | (go_at_call 221;refine (Z.out G d.out).mono ?_;rintro e y ⟨rfl,bb⟩;have h:Hid (Below b.heap.size b y):=d.out.trans (bb.mono d.out.size);have i:=hid (f.out.below bb);obtain⟨j1,j2,j3,j4,j5,j6,j7,u0,u1,u2,u3⟩:=i.out;have X:=zh bb F;clear bb)
   | (go_at_call 221;refine (U.out b (zi _ _)).mono ?_;rintro e G ⟨rfl,bb⟩;have d:=hid bb;have f:=hid (T.out.below bb);obtain⟨i1,i2,i3,i4,i5,i6,i7,t0,t1,t2,t3⟩:=f.out;have F:=zh bb k;clear bb))
  go_ret;exact⟨rfl,q.out.trans (a0.out.mono q.out.size)⟩
end Go.Proofs.YtagnlbgbnfnapaaGreatDoor
