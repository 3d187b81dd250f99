/- P -/
import Derived.Test.YtdakgnaojakldaaGreatDoorS44
open Go.Proofs.Tryz
set_option maxRecDepth 100000
set_option maxHeartbeats 4000000
namespace Go.Proofs.YtdakgnaojakldaaGreatDoor
open Go.RowKit
def JB(g:Nat)(b:Array Value)(cs:List zQ)(p:zQ->Bool)(w:World):Prop:=
 ∀W c a,c ∈ cs->Below w.heap.size w W->yO W a c.vals->Calls prog g (#[.agg #[.string c.op,.string c.key,a,.bool c.no]]++b) W λe d=>e = .returned (.bool (p c))/\Below W.heap.size W d
def iO(g:Nat)(f:Array Value)(h:List zz)(p:zz->Bool)(w:World):Prop:=
 ∀W s a b c d,s ∈ h->Below w.heap.size w W->ZW W a b c d s->Calls prog g (#[.agg #[.string s.eff,.bool s.who.1,a,.bool s.act.1,b,.bool s.on.1,c,d]]++f) W λe i=>e = .returned (.bool (p s))/\Below W.heap.size W i
theorem tH(cs:List zQ)(v:Value)(g:Nat)(J:Array Value)(p:zQ->Bool)(w:World)(Y:cs.length<=100000)(V:∀args w,(callFunc g args).run prog w = .ok (.enter g args) w)(U:ug w v cs)(H:JB g J cs p w) :
  Calls prog 266 #[v,.func (.func g) #[] J] w λe E=>
   e = .returned (.tuple #[.int .i64 (((zl (λj=>p (cs.getD j kD)) cs.length).getD 0:Nat):Int),.bool (zl (λj=>p (cs.getD j kD)) cs.length).isSome])/\Below w.heap.size w E:=by
 obtain⟨t,s⟩:∃q:Nat->Bool,(λj=>p (cs.getD j kD))=q:=⟨_,rfl⟩;have u:∀k,(h:k<cs.length)->t k=p cs[k]:=λk h=>by rw[<- s];simp only;rw[List.getD_eq_getElem?_getD,List.getElem?_eq_getElem h];rfl
 rw[s];generalize hF:zl t cs.length=F;obtain⟨ao,cap,rfl,f⟩:=U;have G:=hid hF;have T:=hid f;have S:=hid H;have R:=hid u;clear hF f H u s;go_enter func266,ntmps266
 go_wp2
 go_loopw [10] (λi wr=>∃k:Nat,k<=cs.length/\i = .int .i64 k/\(∀j,j<k->t j=false)/\Below w.heap.size w wr) (λi _=>cs.length-(intOf i).toNat)
 case atStart=>exact⟨0,Nat.zero_le _,rfl,λj h=>by omega,Below.refl _ _⟩
 case round=>
  obtain⟨k,X,rfl,hb,I⟩:=hrel;have A:=hid hb;have l:=hid I;clear hb I
  by_cases hlt:k<cs.length
  ·rcases T.out with e|⟨b,o,rfl,hc⟩
   ·subst e;simp at hlt
   obtain⟨lv,N,P,q2,Q,D⟩:=hc k hlt;obtain⟨Z,lc,rfl,_⟩:=Yh D;have a:=λ(W:World) (hb:Below w.heap.size w W)=>S.out W cs[k] _ (List.getElem_mem hlt) hb (Zw D hb);have K:=zg l.out N;have L:=zg l.out P;have C:=zg l.out q2;have M:=zg l.out Q;have r:=R.out k hlt;obtain⟨c,x⟩:=Nm (cs[k]);simp only[x] at K L C M a r;rw[<- r] at a;obtain⟨op,key,vals,no⟩:=c;simp only at K L C M a;obtain⟨m,y⟩:=Nm vals.length;simp only[y] at C a;have d:=λO=>l.out.alloc l.out.size O;have z:=hid a;clear hc x y N P q2 Q D a r
   cases hpp:t k with
   | false=>
    rw[hpp] at z;have B:=hid hpp;clear hpp
    go_wp2_with (go_at_fn g;refine (z.out _ (d _)).mono ?_;rintro e E ⟨rfl,n⟩)
    refine⟨⟨k+1,by omega,by go_num,λj h=>?_,(d _).trans (n.mono (d _).size)⟩,by simp[intOf];omega⟩
    by_cases hj:j=k
    ·subst hj;exact B.out
    ·exact A.out j (by omega)
   | true=>
    rw[hpp] at z;have e:=um t cs.length k hlt A.out hpp;rw[G.out] at e;subst e;clear hpp
    go_wp2_with (go_at_fn g;refine (z.out _ (d _)).mono ?_;rintro e E ⟨rfl,n⟩)
    go_ret2;exact⟨rfl,(d _).trans (n.mono (d _).size)⟩
  ·have e:=uo t cs.length (λj h=>A.out j (by omega));rw[G.out] at e;subst e
   go_wp2
   go_ret2;exact⟨rfl,l.out⟩
theorem tN(cs:List zz)(v:Value)(g:Nat)(Q:Array Value)(p:zz->Bool)(w:World)(hn:cs.length<=100000)(eg:∀args w,(callFunc g args).run prog w = .ok (.enter g args) w)(hm:ZX w v cs)(N:iO g Q cs p w) :
  Calls prog 225 #[v,.func (.func g) #[] Q] w λe L=>
   e = .returned (.tuple #[.int .i64 (((zl (λj=>p (cs.getD j Q5)) cs.length).getD 0:Nat):Int),.bool (zl (λj=>p (cs.getD j Q5)) cs.length).isSome])/\Below w.heap.size w L:=by
 obtain⟨t,s⟩:∃q:Nat->Bool,(λj=>p (cs.getD j Q5))=q:=⟨_,rfl⟩;have x:∀k,(h:k<cs.length)->t k=p cs[k]:=λk h=>by rw[<- s];simp only;rw[List.getD_eq_getElem?_getD,List.getElem?_eq_getElem h];rfl
 rw[s];generalize hF:zl t cs.length=F;obtain⟨ao,cap,rfl,l⟩:=hm;have M:=hid hF;have HR:=hid l;have HP:=hid N;have HA:=hid x;clear hF l N x s;go_enter func225,ntmps225
 go_wp2
 go_loopw [10] (λi wr=>∃k:Nat,k<=cs.length/\i = .int .i64 k/\(∀j,j<k->t j=false)/\Below w.heap.size w wr) (λi _=>cs.length-(intOf i).toNat)
 case atStart=>exact⟨0,Nat.zero_le _,rfl,λj h=>by omega,Below.refl _ _⟩
 case round=>
  obtain⟨k,hk,rfl,hb,P⟩:=hrel;have E:=hid hb;have f:=hid P;clear hb P
  by_cases hlt:k<cs.length
  ·rcases HR.out with e|⟨b,o,rfl,hc⟩
   ·subst e;simp at hlt
   obtain⟨l1,l2,l3,lc,V,X,q2,Y,Z,q5,q6,q7,u⟩:=hc k hlt;obtain⟨x1,y1,rfl,_⟩:=Yh u.who;obtain⟨x2,y2,rfl,_⟩:=Yh u.act;obtain⟨x3,y3,rfl,_⟩:=Yh u.on;obtain⟨x4,y4,rfl,_⟩:=nV u.ifs;have a:=λ(W:World) (hb:Below w.heap.size w W)=>HP.out W cs[k] _ _ _ _ (List.getElem_mem hlt) hb (u.below hb);have R:=zg f.out V;have S:=zg f.out X;have H:=zg f.out q2;have T:=zg f.out Y;have I:=zg f.out Z;have U:=zg f.out q5;have J:=zg f.out q6;have K:=zg f.out q7;have r:=HA.out k hlt;obtain⟨c,y⟩:=Nm (cs[k]);simp only[y] at R S H T I U J K a r;rw[<- r] at a;obtain⟨eff,⟨n1,s1⟩,⟨n2,s2⟩,⟨n3,s3⟩,is⟩:=c;simp only at R S H T I U J K a;obtain⟨m1,z⟩:∃m,s1.length=m:=⟨_,rfl⟩;obtain⟨m2,A⟩:∃m,s2.length=m:=⟨_,rfl⟩;obtain⟨m3,B⟩:∃m,s3.length=m:=⟨_,rfl⟩;obtain⟨m4,C⟩:∃m,is.length=m:=⟨_,rfl⟩;simp only[z,A,B,C] at H I J K a;have d:=λO=>f.out.alloc f.out.size O;have D:=hid a;clear hc y z A B C V X q2 Y Z q5 q6 q7 u a r
   cases hpp:t k with
   | false=>
    rw[hpp] at D;have G:=hid hpp;clear hpp
    go_wp2_with (go_at_fn g;refine (D.out _ (d _)).mono ?_;rintro e L ⟨rfl,n⟩)
    refine⟨⟨k+1,by omega,by go_num,λj h=>?_,(d _).trans (n.mono (d _).size)⟩,by simp[intOf];omega⟩
    by_cases hj:j=k
    ·subst hj;exact G.out
    ·exact E.out j (by omega)
   | true=>
    rw[hpp] at D;have e:=um t cs.length k hlt E.out hpp;rw[M.out] at e;subst e;clear hpp
    go_wp2_with (go_at_fn g;refine (D.out _ (d _)).mono ?_;rintro e L ⟨rfl,n⟩)
    go_ret2;exact⟨rfl,(d _).trans (n.mono (d _).size)⟩
  ·have e:=uo t cs.length (λj h=>E.out j (by omega));rw[M.out] at e;subst e
   go_wp2
   go_ret2;exact⟨rfl,f.out⟩
theorem lL(cs:List zQ)(v:Value)(g:Nat)(d:Array Value)(p:zQ->Bool)(w:World)(k:cs.length<=100000)(i:∀args w,(callFunc g args).run prog w = .ok (.enter g args) w)(f:ug w v cs)(l:JB g d cs p w) :
  Calls prog 258 #[v,.func (.func g) #[] d] w λe h=>e = .returned (.bool (cs.any p))/\Below w.heap.size w h:=by
 have c:=tH cs v g d p w k i f l;rw[<- Xz cs kD p];obtain⟨a,cap,rfl,_⟩:=f;generalize zl (λj=>p (cs.getD j kD)) cs.length=F at c;go_enter func258,ntmps258
 go_wp2_with (go_at_call 266;refine c.mono ?_;rintro e h ⟨rfl,b⟩)
 go_ret;exact⟨rfl,b⟩
theorem lm(g:Nat)(f:Array Value)(op key:BY)(d:Option Addr)(m h:Nat)(no:Bool)(B:Nat)(y:Bool)(w:World)(l:∀args w,(callFunc g args).run prog w = .ok (.enter g args) w)
  (i:w.cell? ⟨B,0,none⟩=some (.func (.func g) #[] f))(k:∀W,Below w.heap.size w W->Calls prog g (#[.agg #[.string op,.string key,.slice d m h,.bool no]]++f) W λe b=>e = .returned (.bool y)/\Below W.heap.size W b) :
  Calls prog 259 #[.agg #[.string op,.string key,.slice d m h,.bool no],.pointer (some ⟨B,0,none⟩)] w λe b=>e = .returned (.bool (!y))/\Below w.heap.size w b:=by
 have j:=λO:Obj=>zg (nb w O) i;have a:=λO:Obj=>nb w O;go_enter func259,ntmps259
 go_wp2_with (go_at_fn g;refine (k _ (a _)).mono ?_;rintro e b ⟨rfl,c⟩)
 go_ret;exact⟨rfl,(a _).trans (c.mono (a _).size)⟩
theorem lg(cs:List zQ)(p:zQ->Bool):(!cs.any λc=>!p c)=cs.all p:=by
 induction cs with
 | nil=>rfl
 | cons x r a=>
  rw[List.any_cons,List.all_cons,Bool.not_or,Bool.not_not,a]
theorem ll(cs:List zQ)(v:Value)(g:Nat)(b:Array Value)(p:zQ->Bool)(w:World)(r:cs.length<=100000)(o:∀args w,(callFunc g args).run prog w = .ok (.enter g args) w)(i:ug w v cs)(j:JB g b cs p w) :
  Calls prog 246 #[v,.func (.func g) #[] b] w λe l=>e = .returned (.bool (cs.all p))/\Below w.heap.size w l:=by
 have n:∀args w,(callFunc 259 args).run prog w = .ok (.enter 259 args) w:=enters_of func259 (by kernel_rfl) rfl;have b0:Below w.heap.size w (w.alloc (.cells #[.func (.func g) #[] b] 397)):=nb w _
 have c:=lL cs v 259 #[.pointer (some ⟨w.heap.size,0,none⟩)] (λc=>!p c) (w.alloc (.cells #[.func (.func g) #[] b] 397)) r n (i.below b0)
  (λW c u q hb k=>by
    obtain⟨s,t,rfl,_⟩:=Yh k;refine lm g b c.op c.key s c.vals.length t c.no w.heap.size (p c) W o (zg hb (by simp)) (λm h=>j m c _ q (b0.trans ((hb.trans (h.mono hb.size)).mono b0.size)) (Zw k h)))
 rw[<- lg cs p];generalize (cs.any λc=>!p c)=F at c;obtain⟨a,cap,rfl,_⟩:=i;have f:=hid b0;clear j b0;go_enter func246,ntmps246
 go_wp2_with (go_at_call 258;refine c.mono ?_;rintro e l ⟨rfl,d⟩)
 go_ret;exact⟨rfl,f.out.trans (d.mono f.out.size)⟩
def Zb(vals:List BY)(f:BY->BY->Bool):Option BY->Bool
 | none=>false
 | some x=>vals.any (f x)
structure QE (s:zz):Prop where
 who:s.who.2.length<=100000
 act:s.act.2.length<=100000
 on:s.on.2.length<=100000
 ifs:s.ifs.length<=100000
 vals:∀c ∈ s.ifs,c.vals.length<=100000/\∀v ∈ c.vals,v.size<=100000
theorem QE.of{s:zz}(h:JA s):QE s:=
 ⟨by have:=h.who.1;omega,by have:=h.act.1;omega,by have:=h.on.1;omega,by have:=h.len;omega,λc a=>⟨by have:=(h.cs c a).2.2.1;omega,λv b=>by have:=(h.cs c a).2.2.2 v b;omega⟩⟩
def Yv(W:World)(b:Nat)(a e c f d g h u0 u1 u2 u3:Value):Prop:=
 W.cell? ⟨b,1,none⟩=some a/\W.cell? ⟨b,2,none⟩=some e/\W.cell? ⟨b,3,none⟩=some c/\W.cell? ⟨b,4,none⟩=some f/\W.cell? ⟨b,5,none⟩=some d/\W.cell? ⟨b,6,none⟩=some g/\W.cell? ⟨b,7,none⟩=some h/\W.cell? ⟨b+1,0,none⟩=some u0/\W.cell? ⟨b+1,1,none⟩=some u1/\W.cell? ⟨b+1,2,none⟩=some u2/\W.cell? ⟨b+1,3,none⟩=some u3
theorem Yv.below{W a:World}{b:Nat}{c f d g e i j u0 u1 u2 u3:Value}(h:Yv W b c f d g e i j u0 u1 u2 u3)(hb:Below W.heap.size W a):Yv a b c f d g e i j u0 u1 u2 u3:=by
 obtain⟨o,p,q,r,s,t,u,k,l,m,n⟩:=h;exact⟨zg hb o,zg hb p,zg hb q,zg hb r,zg hb s,zg hb t,zg hb u,zg hb k,zg hb l,zg hb m,zg hb n⟩
theorem lS(c:zQ)(f:Value)(r:Ref.Req)(ao:Option Addr)(cap B g:Nat)(w:World)(l:yO w f c.vals)(k:QF c)(m:c.vals.length<=1000)(n:∀v ∈ c.vals,v.size<=100000)(j:jF w r ao cap B)(i:qD w)(h:w.cell? ⟨g,0,none⟩=some (qQ B)) :
  Calls prog 247 #[.agg #[.string c.op,.string c.key,f,.bool c.no],.pointer (some ⟨g,0,none⟩)] w λe q=>e = .returned (.bool (De.uq c r))/\Below w.heap.size w q:=by
 have b0:=λO:Obj=>nb w O;have b:=λO:Obj=>Au c f r ao cap B (w.alloc O) (Zw l (b0 O)) k m n (j.below (b0 O)) (i.below (b0 O));have d:=λO:Obj=>zg (b0 O) h;obtain⟨a,s,rfl,_⟩:=l;generalize De.uq c r=F at b;obtain⟨op,key,vals,no⟩:=c;simp only at b |-;unfold qQ at b d;have o:=hid b;clear b j i k m n h;go_enter func247,ntmps247
 go_wp2_with (go_at_call 248;refine (o.out _).mono ?_;rintro e t ⟨rfl,p⟩)
 go_ret;exact⟨rfl,(b0 _).trans (p.mono (b0 _).size)⟩
theorem wu(w c:World)(e f g i:Obj)(h:(((w.alloc e).alloc f).alloc g).alloc i=c) :
  c.heap[w.heap.size]?=some e/\c.heap[w.heap.size+1]?=some f/\c.heap[w.heap.size+2]?=some g/\c.heap[w.heap.size+3]?=some i/\Below w.heap.size w c:=by
 obtain⟨a,l⟩:∃W,w.alloc e=W:=⟨_,rfl⟩;have q:a.heap.size=w.heap.size+1:=by rw[<- l];simp
 have s:a.heap[w.heap.size]?=some e:=by rw[<- l];exact heap_alloc_new w e
 have p:Below w.heap.size w a:=by rw[<- l];exact nb w _
 rw[l] at h;obtain⟨b,m⟩:∃W,a.alloc f=W:=⟨_,rfl⟩;have r:b.heap.size=w.heap.size+2:=by rw[<- m];simp[q]
 have t:b.heap[w.heap.size+1]?=some f:=by rw[<- m,<- q];exact heap_alloc_new a f
 have o:Below a.heap.size a b:=by rw[<- m];exact nb a _
 rw[m] at h;obtain⟨d,n⟩:∃W,b.alloc g=W:=⟨_,rfl⟩;have x:d.heap.size=w.heap.size+3:=by rw[<- n];simp[r]
 have u:d.heap[w.heap.size+2]?=some g:=by rw[<- n,<- r];exact heap_alloc_new b g
 have j:Below b.heap.size b d:=by rw[<- n];exact nb b _
 rw[n] at h;have v:c.heap[w.heap.size+3]?=some i:=by rw[<- h,<- x];exact heap_alloc_new d i
 have k:Below d.heap.size d c:=by rw[<- h];exact nb d _
 exact⟨(k.block _ (by omega)).trans ((j.block _ (by omega)).trans ((o.block _ (by omega)).trans s)),(k.block _ (by omega)).trans ((j.block _ (by omega)).trans t),(k.block _ (by omega)).trans u,v,
  p.trans ((o.trans ((j.trans (k.mono j.size)).mono o.size)).mono p.size)⟩
theorem lU(s:zz)(l1 l2 l3 lc:Value)(r:Ref.Req)(ao:Option Addr)(cap:Nat)(w:World)(E:ZW w l1 l2 l3 lc s)(O:QG s)(F:QE s)(hv:∀c ∈ s.ifs,c.vals.length<=1000)(P:qO w ao r.marks)(y:Ref.xe r=true)(L:qD w) :
  Calls prog 227 #[.agg #[.string s.eff,.bool s.who.1,l1,.bool s.act.1,l2,.bool s.on.1,l3,lc],Ref.qP r ao cap] w λe w'=>e = .returned (.bool (De.uf s r))/\Below w.heap.size w w':=by
 obtain⟨k1,k2,k3⟩:=fP y;obtain⟨a1,y1,rfl,g1⟩:=E.who;obtain⟨a2,y2,rfl,g2⟩:=E.act;obtain⟨a3,y3,rfl,g3⟩:=E.on;obtain⟨a4,y4,rfl,_⟩:=E.ifs;have g4:=E.ifs;have N:∃d,((((w.alloc (.cells #[.string s.eff,.bool s.who.1,.slice a1 s.who.2.length y1,.bool s.act.1,.slice a2 s.act.2.length y2,.bool s.on.1,.slice a3 s.on.2.length y3,.slice a4 s.ifs.length y4] 133)).alloc (.cells #[.string r.who,.string r.act,.string r.on,.slice ao r.marks.length cap] 53)).alloc (.cells #[.string r.who,.string r.act,.string r.on,.slice ao r.marks.length cap] 53)).alloc (.cells #[qQ (w.heap.size+2)] 312))=d:=⟨_,rfl⟩;obtain⟨d,k⟩:=N;obtain⟨u,J,K,e3,p⟩:=wu w d _ _ _ _ k;have M:jF d r ao cap (w.heap.size+2):=⟨(ze K 0).1,(ze K 1).1,(ze K 2).1,(ze K 3).1,jm P p,y⟩
 have q:Yv d w.heap.size (.bool s.who.1) (.slice a1 s.who.2.length y1) (.bool s.act.1) (.slice a2 s.act.2.length y2) (.bool s.on.1) (.slice a3 s.on.2.length y3) (.slice a4 s.ifs.length y4) (.string r.who) (.string r.act) (.string r.on) (.slice ao r.marks.length cap):=
  ⟨(ze u 1).1,(ze u 2).1,(ze u 3).1,(ze u 4).1,(ze u 5).1,(ze u 6).1,(ze u 7).1,(ze J 0).1,(ze J 1).1,(ze J 2).1,(ze J 3).1⟩
 have l:d.cell? ⟨w.heap.size+3,0,none⟩=some (qQ (w.heap.size+2)):=(ze e3 0).1;have c1:=λ(W:World) (hb:Below d.heap.size d W)=>JX s.who r.who r ao a1 cap y1 (w.heap.size+2) W O.who F.who (jQ (jQ g1 p) hb) (M.below hb) ((L.below p).below hb) (QD k1).1 (QD k1).2;have c2:=λ(W:World) (hb:Below d.heap.size d W)=>JX s.act r.act r ao a2 cap y2 (w.heap.size+2) W O.act F.act (jQ (jQ g2 p) hb) (M.below hb) ((L.below p).below hb) (QD k2).1 (QD k2).2;have c3:=λ(W:World) (hb:Below d.heap.size d W)=>JX s.on r.on r ao a3 cap y3 (w.heap.size+2) W O.on F.on (jQ (jQ g3 p) hb) (M.below hb) ((L.below p).below hb) (QD k3).1 (QD k3).2
 have c4:=λ(W:World) (hb:Below d.heap.size d W)=>ll s.ifs (.slice a4 s.ifs.length y4) 247 #[.pointer (some ⟨w.heap.size+3,0,none⟩)] (λc=>De.uq c r) W F.ifs (enters_of func247 (by kernel_rfl) rfl) ((g4.below p).below hb)
  (λW2 c lv hc h2 hs=>by
    have x:Below d.heap.size d W2:=hb.trans (h2.mono hb.size);exact lS c lv r ao cap (w.heap.size+2) (w.heap.size+3) W2 hs (O.ifs c hc) (hv c hc) (F.vals c hc).2 (M.below x) ((L.below p).below x) (zg x l))
 have X:=λW=>GL r ao cap W;unfold De.uf;obtain⟨A,hA⟩:=Nm (De.xK s.who r.who r);obtain⟨B,hB⟩:∃A,De.xK s.act r.act r=A:=⟨_,rfl⟩;obtain⟨C,hC⟩:∃A,De.xK s.on r.on r=A:=⟨_,rfl⟩;obtain⟨D,hD⟩:∃A,(s.ifs.all λc=>De.uq c r)=A:=⟨_,rfl⟩;rw[hA] at c1;rw[hB] at c2;rw[hC] at c3;rw[hD] at c4;rw[hA,hB,hC,hD];clear hA hB hC hD O F E k1 k2 k3 g1 g2 g3 g4 hv P y L M u J K e3;have sf:=λW a g lb m=>run_store prog W a (.func (.func g) #[] lb) m rfl;obtain⟨who,act,on,ms⟩:=r;obtain⟨eff,⟨n1,s1⟩,⟨n2,s2⟩,⟨n3,s3⟩,cs⟩:=s;unfold Ref.qP at X |-;simp only at c1 c2 c3 c4 X k q |-;unfold qQ at c1 c2 c3 l k;obtain⟨z1,Q⟩:∃n,s1.length=n:=⟨_,rfl⟩;obtain⟨z2,R⟩:∃n,s2.length=n:=⟨_,rfl⟩;obtain⟨z3,S⟩:∃n,s3.length=n:=⟨_,rfl⟩;obtain⟨z4,T⟩:∃n,cs.length=n:=⟨_,rfl⟩;simp only[Q,R,S,T] at c1 c2 c3 c4 k q |-;have I:=hid k;have U:=hid q;have t:=hid p;have V:=hid c1;have C2:=hid c2;have C3:=hid c3;have C4:=hid c4;obtain⟨p1,p2,p3,p4,p5,p6,p7,q0,q1,q2,q3⟩:=q;clear k p c1 c2 c3 c4 Q R S T;go_enter func227,ntmps227
 go_upto_region 2 with (go_at_call 175;refine (X _).mono ?_;rintro e wS ⟨rfl,rfl⟩)
 rw[show w.heap.size+1+1+1=w.heap.size+3 from rfl,show w.heap.size+1+1=w.heap.size+2 from rfl,I.out]
 clear I X sf
 cases A with
 | false=>
  go_wp2_with (go_at_call 245;refine (V.out d (Below.refl _ _)).mono ?_;rintro e H ⟨rfl,b⟩;have f:=hid b;have h:=hid (U.out.below b);obtain⟨i1,i2,i3,i4,i5,i6,i7,t0,t1,t2,t3⟩:=h.out;have G:=zg b l;clear b)
  go_ret;exact⟨rfl,t.out.trans (f.out.mono t.out.size)⟩
 | true=>
 cases B with
 | false=>
  go_wp2_with (first
   | (go_at_call 245;refine (C2.out H f.out).mono ?_;rintro e z ⟨rfl,b⟩;have i:Hid (Below d.heap.size d z):=f.out.trans (b.mono f.out.size);have j:=hid (h.out.below b);obtain⟨j1,j2,j3,j4,j5,j6,j7,u0,u1,u2,u3⟩:=j.out;have Y:=zg b G;clear b)
   | (go_at_call 245;refine (V.out d (Below.refl _ _)).mono ?_;rintro e H ⟨rfl,b⟩;have f:=hid b;have h:=hid (U.out.below b);obtain⟨i1,i2,i3,i4,i5,i6,i7,t0,t1,t2,t3⟩:=h.out;have G:=zg b l;clear b))
  go_ret;exact⟨rfl,t.out.trans (i.out.mono t.out.size)⟩
 | true=>
 cases C with
 | false=>
  go_wp2_with (first
   | (go_at_call 245;refine (C3.out z i.out).mono ?_;rintro e Z ⟨rfl,b⟩;have o:Hid (Below d.heap.size d Z):=i.out.trans (b.mono i.out.size);have v:=hid (j.out.below b);obtain⟨m1,m2,m3,m4,m5,m6,m7,x0,x1,x2,x3⟩:=v.out;have v7:=zg b Y;clear b)
   | (go_at_call 245;refine (C2.out H f.out).mono ?_;rintro e z ⟨rfl,b⟩;have i:Hid (Below d.heap.size d z):=f.out.trans (b.mono f.out.size);have j:=hid (h.out.below b);obtain⟨j1,j2,j3,j4,j5,j6,j7,u0,u1,u2,u3⟩:=j.out;have Y:=zg b G;clear b)
   | (go_at_call 245;refine (V.out d (Below.refl _ _)).mono ?_;rintro e H ⟨rfl,b⟩;have f:=hid b;have h:=hid (U.out.below b);obtain⟨i1,i2,i3,i4,i5,i6,i7,t0,t1,t2,t3⟩:=h.out;have G:=zg b l;clear b))
  go_ret;exact⟨rfl,t.out.trans (o.out.mono t.out.size)⟩
 | true=>
  go_wp2_with (first
   | (go_at_call 246;refine (C4.out Z o.out).mono ?_;rintro e w8 ⟨rfl,b⟩;have a5:Hid (Below d.heap.size d w8):=o.out.trans (b.mono o.out.size);clear b)
   | (go_at_call 245;refine (C3.out z i.out).mono ?_;rintro e Z ⟨rfl,b⟩;have o:Hid (Below d.heap.size d Z):=i.out.trans (b.mono i.out.size);have v:=hid (j.out.below b);obtain⟨m1,m2,m3,m4,m5,m6,m7,x0,x1,x2,x3⟩:=v.out;have v7:=zg b Y;clear b)
   | (go_at_call 245;refine (C2.out H f.out).mono ?_;rintro e z ⟨rfl,b⟩;have i:Hid (Below d.heap.size d z):=f.out.trans (b.mono f.out.size);have j:=hid (h.out.below b);obtain⟨j1,j2,j3,j4,j5,j6,j7,u0,u1,u2,u3⟩:=j.out;have Y:=zg b G;clear b)
   | (go_at_call 245;refine (V.out d (Below.refl _ _)).mono ?_;rintro e H ⟨rfl,b⟩;have f:=hid b;have h:=hid (U.out.below b);obtain⟨i1,i2,i3,i4,i5,i6,i7,t0,t1,t2,t3⟩:=h.out;have G:=zg b l;clear b))
  go_ret;exact⟨rfl,t.out.trans (a5.out.mono t.out.size)⟩
end Go.Proofs.YtdakgnaojakldaaGreatDoor
