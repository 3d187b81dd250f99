/- P -/
import Derived.Test.YtdakgnaojakldabGreatDoorT44
open Go.Proofs.Tryz
set_option maxRecDepth 100000
set_option maxHeartbeats 4000000
namespace Go.Proofs.YtdakgnaojakldabGreatDoor
open Go.RowKit
def Vz(g:Nat)(b:Array Value)(cs:List zX)(p:zX->Bool)(w:World):Prop:=
 ∀W c a,c ∈ cs->Below w.heap.size w W->jq W a c.vals->Calls prog g (#[.agg #[.string c.op,.string c.key,a,.bool c.no]]++b) W λe d=>e = .returned (.bool (p c))/\Below W.heap.size W d
def og(g:Nat)(f:Array Value)(h:List zD)(p:zD->Bool)(w:World):Prop:=
 ∀W s a b c d,s ∈ h->Below w.heap.size w W->Qz W a b c d s->Calls prog g (#[.agg #[.string s.eff,.bool s.who.1,a,.bool s.act.1,b,.bool s.on.1,c,d]]++f) W λe i=>e = .returned (.bool (p s))/\Below W.heap.size W i
theorem Ci(cs:List zX)(v:Value)(g:Nat)(K:Array Value)(p:zX->Bool)(w:World)(Z:cs.length<=100000)(X:∀args w,(callFunc g args).run prog w = .ok (.enter g args) w)(V:ko w v cs)(I:Vz g K cs p w) :
  Calls prog 141 #[v,.func (.func g) #[] K] w λe G=>
   e = .returned (.tuple #[.int .i64 (((zm (λj=>p (cs.getD j kI)) cs.length).getD 0:Nat):Int),.bool (zm (λj=>p (cs.getD j kI)) cs.length).isSome])/\Below w.heap.size w G:=by
 obtain⟨t,s⟩:∃q:Nat->Bool,(λj=>p (cs.getD j kI))=q:=⟨_,rfl⟩;have u:∀k,(h:k<cs.length)->t k=p cs[k]:=λk h=>by rw[<- s];simp only;rw[List.getD_eq_getElem?_getD,List.getElem?_eq_getElem h];rfl
 rw[s];generalize hF:zm t cs.length=F;obtain⟨ao,cap,rfl,f⟩:=V;have H:=hid hF;have U:=hid f;have T:=hid I;have S:=hid u;clear hF f I u s;go_enter func141,ntmps141
 go_wp2
 go_loopw [10] (λi wr=>∃k:Nat,k<=cs.length/\i = .int .i64 k/\(∀j,j<k->t j=false)/\Below w.heap.size w wr) (λi _=>cs.length-(intOf i).toNat)
 case atStart=>exact⟨0,Nat.zero_le _,rfl,λj h=>by omega,Below.refl _ _⟩
 case round=>
  obtain⟨k,Y,rfl,x,J⟩:=hrel;have B:=hid x;have l:=hid J;clear x J
  by_cases hlt:k<cs.length
  ·rcases U.out with e|⟨b,o,rfl,hc⟩
   ·subst e;simp at hlt
   obtain⟨lv,P,Q,q2,R,E⟩:=hc k hlt;obtain⟨la,lc,rfl,_⟩:=YS E;have a:=λ(W:World) (x:Below w.heap.size w W)=>T.out W cs[k] _ (List.getElem_mem hlt) x (Qa E x);have L:=zb l.out P;have M:=zb l.out Q;have D:=zb l.out q2;have N:=zb l.out R;have r:=S.out k hlt;obtain⟨c,y⟩:=Nm (cs[k]);simp only[y] at L M D N a r;rw[<- r] at a;obtain⟨op,key,vals,no⟩:=c;simp only at L M D N a;obtain⟨m,z⟩:=Nm vals.length;simp only[z] at D a;have d:=λO=>l.out.alloc l.out.size O;have A:=hid a;clear hc y z P Q q2 R E a r
   cases hpp:t k with
   | false=>
    rw[hpp] at A;have C:=hid hpp;clear hpp
    go_wp2_with (go_at_fn g;refine (A.out _ (d _)).mono ?_;rintro e G ⟨rfl,n⟩)
    refine⟨⟨k+1,by omega,by go_num,λj h=>?_,(d _).trans (n.mono (d _).size)⟩,by simp[intOf];omega⟩
    by_cases hj:j=k
    ·subst hj;exact C.out
    ·exact B.out j (by omega)
   | true=>
    rw[hpp] at A;have e:=kD t cs.length k hlt B.out hpp;rw[H.out] at e;subst e;clear hpp
    go_wp2_with (go_at_fn g;refine (A.out _ (d _)).mono ?_;rintro e G ⟨rfl,n⟩)
    go_ret2;exact⟨rfl,(d _).trans (n.mono (d _).size)⟩
  ·have e:=kE t cs.length (λj h=>B.out j (by omega));rw[H.out] at e;subst e
   go_wp2
   go_ret2;exact⟨rfl,l.out⟩
theorem Cm(cs:List zD)(v:Value)(g:Nat)(R:Array Value)(p:zD->Bool)(w:World)(hn:cs.length<=100000)(eg:∀args w,(callFunc g args).run prog w = .ok (.enter g args) w)(hm:QA w v cs)(P:og g R cs p w) :
  Calls prog 99 #[v,.func (.func g) #[] R] w λe M=>
   e = .returned (.tuple #[.int .i64 (((zm (λj=>p (cs.getD j XK)) cs.length).getD 0:Nat):Int),.bool (zm (λj=>p (cs.getD j XK)) cs.length).isSome])/\Below w.heap.size w M:=by
 obtain⟨t,s⟩:∃q:Nat->Bool,(λj=>p (cs.getD j XK))=q:=⟨_,rfl⟩;have x:∀k,(h:k<cs.length)->t k=p cs[k]:=λk h=>by rw[<- s];simp only;rw[List.getD_eq_getElem?_getD,List.getElem?_eq_getElem h];rfl
 rw[s];generalize hF:zm t cs.length=F;obtain⟨ao,cap,rfl,l⟩:=hm;have N:=hid hF;have HR:=hid l;have HP:=hid P;have HA:=hid x;clear hF l P x s;go_enter func99,ntmps99
 go_wp2
 go_loopw [10] (λi wr=>∃k:Nat,k<=cs.length/\i = .int .i64 k/\(∀j,j<k->t j=false)/\Below w.heap.size w wr) (λi _=>cs.length-(intOf i).toNat)
 case atStart=>exact⟨0,Nat.zero_le _,rfl,λj h=>by omega,Below.refl _ _⟩
 case round=>
  obtain⟨k,hk,rfl,y,Q⟩:=hrel;have G:=hid y;have f:=hid Q;clear y Q
  by_cases hlt:k<cs.length
  ·rcases HR.out with e|⟨b,o,rfl,hc⟩
   ·subst e;simp at hlt
   obtain⟨l1,l2,l3,lc,X,Y,q2,Z,q4,q5,q6,q7,u⟩:=hc k hlt;obtain⟨x1,y1,rfl,_⟩:=YS u.who;obtain⟨x2,y2,rfl,_⟩:=YS u.act;obtain⟨x3,y3,rfl,_⟩:=YS u.on;obtain⟨x4,y4,rfl,_⟩:=tZ u.ifs;have a:=λ(W:World) (y:Below w.heap.size w W)=>HP.out W cs[k] _ _ _ _ (List.getElem_mem hlt) y (u.below y);have S:=zb f.out X;have T:=zb f.out Y;have I:=zb f.out q2;have U:=zb f.out Z;have J:=zb f.out q4;have V:=zb f.out q5;have K:=zb f.out q6;have L:=zb f.out q7;have r:=HA.out k hlt;obtain⟨c,z⟩:=Nm (cs[k]);simp only[z] at S T I U J V K L a r;rw[<- r] at a;obtain⟨eff,⟨n1,s1⟩,⟨n2,s2⟩,⟨n3,s3⟩,is⟩:=c;simp only at S T I U J V K L a;obtain⟨m1,A⟩:∃m,s1.length=m:=⟨_,rfl⟩;obtain⟨m2,B⟩:∃m,s2.length=m:=⟨_,rfl⟩;obtain⟨m3,C⟩:∃m,s3.length=m:=⟨_,rfl⟩;obtain⟨m4,D⟩:∃m,is.length=m:=⟨_,rfl⟩;simp only[A,B,C,D] at I J K L a;have d:=λO=>f.out.alloc f.out.size O;have E:=hid a;clear hc z A B C D X Y q2 Z q4 q5 q6 q7 u a r
   cases hpp:t k with
   | false=>
    rw[hpp] at E;have H:=hid hpp;clear hpp
    go_wp2_with (go_at_fn g;refine (E.out _ (d _)).mono ?_;rintro e M ⟨rfl,n⟩)
    refine⟨⟨k+1,by omega,by go_num,λj h=>?_,(d _).trans (n.mono (d _).size)⟩,by simp[intOf];omega⟩
    by_cases hj:j=k
    ·subst hj;exact H.out
    ·exact G.out j (by omega)
   | true=>
    rw[hpp] at E;have e:=kD t cs.length k hlt G.out hpp;rw[N.out] at e;subst e;clear hpp
    go_wp2_with (go_at_fn g;refine (E.out _ (d _)).mono ?_;rintro e M ⟨rfl,n⟩)
    go_ret2;exact⟨rfl,(d _).trans (n.mono (d _).size)⟩
  ·have e:=kE t cs.length (λj h=>G.out j (by omega));rw[N.out] at e;subst e
   go_wp2
   go_ret2;exact⟨rfl,f.out⟩
theorem pq(cs:List zX)(v:Value)(g:Nat)(d:Array Value)(p:zX->Bool)(w:World)(k:cs.length<=100000)(i:∀args w,(callFunc g args).run prog w = .ok (.enter g args) w)(f:ko w v cs)(l:Vz g d cs p w) :
  Calls prog 131 #[v,.func (.func g) #[] d] w λe h=>e = .returned (.bool (cs.any p))/\Below w.heap.size w h:=by
 have c:=Ci cs v g d p w k i f l;rw[<- Yg cs kI p];obtain⟨a,cap,rfl,_⟩:=f;generalize zm (λj=>p (cs.getD j kI)) cs.length=F at c;go_enter func131,ntmps131
 go_wp2_with (go_at_call 141;refine c.mono ?_;rintro e h ⟨rfl,b⟩)
 go_ret;exact⟨rfl,b⟩
theorem oH(g:Nat)(f:Array Value)(op key:BA)(d:Option Addr)(m h:Nat)(no:Bool)(B:Nat)(y:Bool)(w:World)(l:∀args w,(callFunc g args).run prog w = .ok (.enter g args) w)
  (i:w.cell? ⟨B,0,none⟩=some (.func (.func g) #[] f))(k:∀W,Below w.heap.size w W->Calls prog g (#[.agg #[.string op,.string key,.slice d m h,.bool no]]++f) W λe b=>e = .returned (.bool y)/\Below W.heap.size W b) :
  Calls prog 132 #[.agg #[.string op,.string key,.slice d m h,.bool no],.pointer (some ⟨B,0,none⟩)] w λe b=>e = .returned (.bool (!y))/\Below w.heap.size w b:=by
 have j:=λO:Obj=>zb (nB w O) i;have a:=λO:Obj=>nB w O;go_enter func132,ntmps132
 go_wp2_with (go_at_fn g;refine (k _ (a _)).mono ?_;rintro e b ⟨rfl,c⟩)
 go_ret;exact⟨rfl,(a _).trans (c.mono (a _).size)⟩
theorem oD(cs:List zX)(p:zX->Bool):(!cs.any λc=>!p c)=cs.all p:=by
 induction cs with
 | nil=>rfl
 | cons x r a=>
  rw[List.any_cons,List.all_cons,Bool.not_or,Bool.not_not,a]
theorem oG(cs:List zX)(v:Value)(g:Nat)(b:Array Value)(p:zX->Bool)(w:World)(s:cs.length<=100000)(q:∀args w,(callFunc g args).run prog w = .ok (.enter g args) w)(j:ko w v cs)(k:Vz g b cs p w) :
  Calls prog 119 #[v,.func (.func g) #[] b] w λe m=>e = .returned (.bool (cs.all p))/\Below w.heap.size w m:=by
 have o:∀args w,(callFunc 132 args).run prog w = .ok (.enter 132 args) w:=enters_of func132 (by kernel_rfl) rfl;have b0:Below w.heap.size w (w.alloc (.cells #[.func (.func g) #[] b] 249)):=nB w _
 have c:=pq cs v 132 #[.pointer (some ⟨w.heap.size,0,none⟩)] (λc=>!p c) (w.alloc (.cells #[.func (.func g) #[] b] 249)) s o (j.below b0)
  (λW c x r d l=>by
    obtain⟨t,u,rfl,_⟩:=YS l;refine oH g b c.op c.key t c.vals.length u c.no w.heap.size (p c) W q (zb d (by simp)) (λn i=>k n c _ r (b0.trans ((d.trans (i.mono d.size)).mono b0.size)) (Qa l i)))
 rw[<- oD cs p];generalize (cs.any λc=>!p c)=F at c;obtain⟨a,cap,rfl,_⟩:=j;have h:=hid b0;clear k b0;go_enter func119,ntmps119
 go_wp2_with (go_at_call 131;refine c.mono ?_;rintro e m ⟨rfl,f⟩)
 go_ret;exact⟨rfl,h.out.trans (f.mono h.out.size)⟩
def Yf(vals:List BA)(f:BA->BA->Bool):Option BA->Bool
 | none=>false
 | some x=>vals.any (f x)
structure Xj (s:zD):Prop where
 who:s.who.2.length<=100000
 act:s.act.2.length<=100000
 on:s.on.2.length<=100000
 ifs:s.ifs.length<=100000
 vals:∀c ∈ s.ifs,c.vals.length<=100000/\∀v ∈ c.vals,v.size<=100000
theorem Xj.of{s:zD}(h:Vy s):Xj s:=
 ⟨by have:=h.who.1;omega,by have:=h.act.1;omega,by have:=h.on.1;omega,by have:=h.len;omega,λc a=>⟨by have:=(h.cs c a).2.2.1;omega,λv b=>by have:=(h.cs c a).2.2.2 v b;omega⟩⟩
def Y7(W:World)(b:Nat)(a e c f d g h u0 u1 u2 u3:Value):Prop:=
 W.cell? ⟨b,1,none⟩=some a/\W.cell? ⟨b,2,none⟩=some e/\W.cell? ⟨b,3,none⟩=some c/\W.cell? ⟨b,4,none⟩=some f/\W.cell? ⟨b,5,none⟩=some d/\W.cell? ⟨b,6,none⟩=some g/\W.cell? ⟨b,7,none⟩=some h/\W.cell? ⟨b+1,0,none⟩=some u0/\W.cell? ⟨b+1,1,none⟩=some u1/\W.cell? ⟨b+1,2,none⟩=some u2/\W.cell? ⟨b+1,3,none⟩=some u3
theorem Y7.below{W c:World}{b:Nat}{d g e i f j k u0 u1 u2 u3:Value}(h:Y7 W b d g e i f j k u0 u1 u2 u3)(a:Below W.heap.size W c):Y7 c b d g e i f j k u0 u1 u2 u3:=by
 obtain⟨p,q,r,s,t,u,v,l,m,n,o⟩:=h;exact⟨zb a p,zb a q,zb a r,zb a s,zb a t,zb a u,zb a v,zb a l,zb a m,zb a n,zb a o⟩
theorem pI(c:zX)(f:Value)(r:Ref.Req)(ao:Option Addr)(cap B g:Nat)(w:World)(l:jq w f c.vals)(k:Xk c)(m:c.vals.length<=1000)(n:∀v ∈ c.vals,v.size<=100000)(j:vz w r ao cap B)(i:qR w)(h:w.cell? ⟨g,0,none⟩=some (xk B)) :
  Calls prog 120 #[.agg #[.string c.op,.string c.key,f,.bool c.no],.pointer (some ⟨g,0,none⟩)] w λe q=>e = .returned (.bool (De.Q3 c r))/\Below w.heap.size w q:=by
 have b0:=λO:Obj=>nB w O;have b:=λO:Obj=>DR c f r ao cap B (w.alloc O) (Qa l (b0 O)) k m n (j.below (b0 O)) (i.below (b0 O));have d:=λO:Obj=>zb (b0 O) h;obtain⟨a,s,rfl,_⟩:=l;generalize De.Q3 c r=F at b;obtain⟨op,key,vals,no⟩:=c;simp only at b |-;unfold xk at b d;have o:=hid b;clear b j i k m n h;go_enter func120,ntmps120
 go_wp2_with (go_at_call 121;refine (o.out _).mono ?_;rintro e t ⟨rfl,p⟩)
 go_ret;exact⟨rfl,(b0 _).trans (p.mono (b0 _).size)⟩
theorem Cv(w c:World)(e f g i:Obj)(h:(((w.alloc e).alloc f).alloc g).alloc i=c) :
  c.heap[w.heap.size]?=some e/\c.heap[w.heap.size+1]?=some f/\c.heap[w.heap.size+2]?=some g/\c.heap[w.heap.size+3]?=some i/\Below w.heap.size w c:=by
 obtain⟨a,l⟩:∃W,w.alloc e=W:=⟨_,rfl⟩;have q:a.heap.size=w.heap.size+1:=by rw[<- l];simp
 have s:a.heap[w.heap.size]?=some e:=by rw[<- l];exact heap_alloc_new w e
 have p:Below w.heap.size w a:=by rw[<- l];exact nB w _
 rw[l] at h;obtain⟨b,m⟩:∃W,a.alloc f=W:=⟨_,rfl⟩;have r:b.heap.size=w.heap.size+2:=by rw[<- m];simp[q]
 have t:b.heap[w.heap.size+1]?=some f:=by rw[<- m,<- q];exact heap_alloc_new a f
 have o:Below a.heap.size a b:=by rw[<- m];exact nB a _
 rw[m] at h;obtain⟨d,n⟩:∃W,b.alloc g=W:=⟨_,rfl⟩;have x:d.heap.size=w.heap.size+3:=by rw[<- n];simp[r]
 have u:d.heap[w.heap.size+2]?=some g:=by rw[<- n,<- r];exact heap_alloc_new b g
 have j:Below b.heap.size b d:=by rw[<- n];exact nB b _
 rw[n] at h;have v:c.heap[w.heap.size+3]?=some i:=by rw[<- h,<- x];exact heap_alloc_new d i
 have k:Below d.heap.size d c:=by rw[<- h];exact nB d _
 exact⟨(k.block _ (by omega)).trans ((j.block _ (by omega)).trans ((o.block _ (by omega)).trans s)),(k.block _ (by omega)).trans ((j.block _ (by omega)).trans t),(k.block _ (by omega)).trans u,v,
  p.trans ((o.trans ((j.trans (k.mono j.size)).mono o.size)).mono p.size)⟩
theorem pJ(s:zD)(l1 l2 l3 lc:Value)(r:Ref.Req)(ao:Option Addr)(cap:Nat)(w:World)(E:Qz w l1 l2 l3 lc s)(O:Xl s)(F:Xj s)(hv:∀c ∈ s.ifs,c.vals.length<=1000)(P:xL w ao r.marks)(y:Ref.xO r=true)(L:qR w) :
  Calls prog 101 #[.agg #[.string s.eff,.bool s.who.1,l1,.bool s.act.1,l2,.bool s.on.1,l3,lc],Ref.qo r ao cap] w λe w'=>e = .returned (.bool (De.Yi s r))/\Below w.heap.size w w':=by
 obtain⟨k1,k2,k3⟩:=lu y;obtain⟨a1,y1,rfl,g1⟩:=E.who;obtain⟨a2,y2,rfl,g2⟩:=E.act;obtain⟨a3,y3,rfl,g3⟩:=E.on;obtain⟨a4,y4,rfl,_⟩:=E.ifs;have g4:=E.ifs;have N:∃b,((((w.alloc (.cells #[.string s.eff,.bool s.who.1,.slice a1 s.who.2.length y1,.bool s.act.1,.slice a2 s.act.2.length y2,.bool s.on.1,.slice a3 s.on.2.length y3,.slice a4 s.ifs.length y4] 104)).alloc (.cells #[.string r.who,.string r.act,.string r.on,.slice ao r.marks.length cap] 42)).alloc (.cells #[.string r.who,.string r.act,.string r.on,.slice ao r.marks.length cap] 42)).alloc (.cells #[xk (w.heap.size+2)] 244))=b:=⟨_,rfl⟩;obtain⟨b,k⟩:=N;obtain⟨u,J,K,e3,p⟩:=Cv w b _ _ _ _ k;have M:vz b r ao cap (w.heap.size+2):=⟨(za K 0).1,(za K 1).1,(za K 2).1,(za K 3).1,jY P p,y⟩
 have q:Y7 b w.heap.size (.bool s.who.1) (.slice a1 s.who.2.length y1) (.bool s.act.1) (.slice a2 s.act.2.length y2) (.bool s.on.1) (.slice a3 s.on.2.length y3) (.slice a4 s.ifs.length y4) (.string r.who) (.string r.act) (.string r.on) (.slice ao r.marks.length cap):=
  ⟨(za u 1).1,(za u 2).1,(za u 3).1,(za u 4).1,(za u 5).1,(za u 6).1,(za u 7).1,(za J 0).1,(za J 1).1,(za J 2).1,(za J 3).1⟩
 have l:b.cell? ⟨w.heap.size+3,0,none⟩=some (xk (w.heap.size+2)):=(za e3 0).1;have c1:=λ(W:World) (j:Below b.heap.size b W)=>VV s.who r.who r ao a1 cap y1 (w.heap.size+2) W O.who F.who (vN (vN g1 p) j) (M.below j) ((L.below p).below j) (Xi k1).1 (Xi k1).2;have c2:=λ(W:World) (j:Below b.heap.size b W)=>VV s.act r.act r ao a2 cap y2 (w.heap.size+2) W O.act F.act (vN (vN g2 p) j) (M.below j) ((L.below p).below j) (Xi k2).1 (Xi k2).2;have c3:=λ(W:World) (j:Below b.heap.size b W)=>VV s.on r.on r ao a3 cap y3 (w.heap.size+2) W O.on F.on (vN (vN g3 p) j) (M.below j) ((L.below p).below j) (Xi k3).1 (Xi k3).2
 have c4:=λ(W:World) (j:Below b.heap.size b W)=>oG s.ifs (.slice a4 s.ifs.length y4) 120 #[.pointer (some ⟨w.heap.size+3,0,none⟩)] (λc=>De.Q3 c r) W F.ifs (enters_of func120 (by kernel_rfl) rfl) ((g4.below p).below j)
  (λW2 c lv hc h2 hs=>by
    have x:Below b.heap.size b W2:=j.trans (h2.mono j.size);exact pI c lv r ao cap (w.heap.size+2) (w.heap.size+3) W2 hs (O.ifs c hc) (hv c hc) (F.vals c hc).2 (M.below x) ((L.below p).below x) (zb x l))
 have X:=λW=>Na r ao cap W;unfold De.Yi;obtain⟨A,hA⟩:=Nm (De.jr s.who r.who r);obtain⟨B,hB⟩:∃A,De.jr s.act r.act r=A:=⟨_,rfl⟩;obtain⟨C,hC⟩:∃A,De.jr s.on r.on r=A:=⟨_,rfl⟩;obtain⟨D,hD⟩:∃A,(s.ifs.all λc=>De.Q3 c r)=A:=⟨_,rfl⟩;rw[hA] at c1;rw[hB] at c2;rw[hC] at c3;rw[hD] at c4;rw[hA,hB,hC,hD];clear hA hB hC hD O F E k1 k2 k3 g1 g2 g3 g4 hv P y L M u J K e3;have sf:=λW a g lb m=>run_store prog W a (.func (.func g) #[] lb) m rfl;obtain⟨who,act,on,ms⟩:=r;obtain⟨eff,⟨n1,s1⟩,⟨n2,s2⟩,⟨n3,s3⟩,cs⟩:=s;unfold Ref.qo at X |-;simp only at c1 c2 c3 c4 X k q |-;unfold xk at c1 c2 c3 l k;obtain⟨z1,Q⟩:∃n,s1.length=n:=⟨_,rfl⟩;obtain⟨z2,R⟩:∃n,s2.length=n:=⟨_,rfl⟩;obtain⟨z3,S⟩:∃n,s3.length=n:=⟨_,rfl⟩;obtain⟨z4,T⟩:∃n,cs.length=n:=⟨_,rfl⟩;simp only[Q,R,S,T] at c1 c2 c3 c4 k q |-;have I:=hid k;have U:=hid q;have t:=hid p;have V:=hid c1;have C2:=hid c2;have C3:=hid c3;have C4:=hid c4;obtain⟨p1,p2,p3,p4,p5,p6,p7,q0,q1,q2,q3⟩:=q;clear k p c1 c2 c3 c4 Q R S T;go_enter func101,ntmps101
 go_upto_region 2 with (go_at_call 117;refine (X _).mono ?_;rintro e wS ⟨rfl,rfl⟩)
 rw[show w.heap.size+1+1+1=w.heap.size+3 from rfl,show w.heap.size+1+1=w.heap.size+2 from rfl,I.out]
 clear I X sf
 cases A with
 | false=>
  go_wp2_with (go_at_call 118;refine (V.out b (Below.refl _ _)).mono ?_;rintro e H ⟨rfl,bb⟩;have d:=hid bb;have f:=hid (U.out.below bb);obtain⟨i1,i2,i3,i4,i5,i6,i7,t0,t1,t2,t3⟩:=f.out;have G:=zb bb l;clear bb)
  go_ret;exact⟨rfl,t.out.trans (d.out.mono t.out.size)⟩
 | true=>
 cases B with
 | false=>
  go_wp2_with (first
   | (go_at_call 118;refine (C2.out H d.out).mono ?_;rintro e z ⟨rfl,bb⟩;have h:Hid (Below b.heap.size b z):=d.out.trans (bb.mono d.out.size);have i:=hid (f.out.below bb);obtain⟨j1,j2,j3,j4,j5,j6,j7,u0,u1,u2,u3⟩:=i.out;have Y:=zb bb G;clear bb)
   | (go_at_call 118;refine (V.out b (Below.refl _ _)).mono ?_;rintro e H ⟨rfl,bb⟩;have d:=hid bb;have f:=hid (U.out.below bb);obtain⟨i1,i2,i3,i4,i5,i6,i7,t0,t1,t2,t3⟩:=f.out;have G:=zb bb l;clear bb))
  go_ret;exact⟨rfl,t.out.trans (h.out.mono t.out.size)⟩
 | true=>
 cases C with
 | false=>
  go_wp2_with (first
   | (go_at_call 118;refine (C3.out z h.out).mono ?_;rintro e Z ⟨rfl,bb⟩;have o:Hid (Below b.heap.size b Z):=h.out.trans (bb.mono h.out.size);have v:=hid (i.out.below bb);obtain⟨m1,m2,m3,m4,m5,m6,m7,x0,x1,x2,x3⟩:=v.out;have v7:=zb bb Y;clear bb)
   | (go_at_call 118;refine (C2.out H d.out).mono ?_;rintro e z ⟨rfl,bb⟩;have h:Hid (Below b.heap.size b z):=d.out.trans (bb.mono d.out.size);have i:=hid (f.out.below bb);obtain⟨j1,j2,j3,j4,j5,j6,j7,u0,u1,u2,u3⟩:=i.out;have Y:=zb bb G;clear bb)
   | (go_at_call 118;refine (V.out b (Below.refl _ _)).mono ?_;rintro e H ⟨rfl,bb⟩;have d:=hid bb;have f:=hid (U.out.below bb);obtain⟨i1,i2,i3,i4,i5,i6,i7,t0,t1,t2,t3⟩:=f.out;have G:=zb bb l;clear bb))
  go_ret;exact⟨rfl,t.out.trans (o.out.mono t.out.size)⟩
 | true=>
  go_wp2_with (first
   | (go_at_call 119;refine (C4.out Z o.out).mono ?_;rintro e w8 ⟨rfl,bb⟩;have a5:Hid (Below b.heap.size b w8):=o.out.trans (bb.mono o.out.size);clear bb)
   | (go_at_call 118;refine (C3.out z h.out).mono ?_;rintro e Z ⟨rfl,bb⟩;have o:Hid (Below b.heap.size b Z):=h.out.trans (bb.mono h.out.size);have v:=hid (i.out.below bb);obtain⟨m1,m2,m3,m4,m5,m6,m7,x0,x1,x2,x3⟩:=v.out;have v7:=zb bb Y;clear bb)
   | (go_at_call 118;refine (C2.out H d.out).mono ?_;rintro e z ⟨rfl,bb⟩;have h:Hid (Below b.heap.size b z):=d.out.trans (bb.mono d.out.size);have i:=hid (f.out.below bb);obtain⟨j1,j2,j3,j4,j5,j6,j7,u0,u1,u2,u3⟩:=i.out;have Y:=zb bb G;clear bb)
   | (go_at_call 118;refine (V.out b (Below.refl _ _)).mono ?_;rintro e H ⟨rfl,bb⟩;have d:=hid bb;have f:=hid (U.out.below bb);obtain⟨i1,i2,i3,i4,i5,i6,i7,t0,t1,t2,t3⟩:=f.out;have G:=zb bb l;clear bb))
  go_ret;exact⟨rfl,t.out.trans (a5.out.mono t.out.size)⟩
end Go.Proofs.YtdakgnaojakldabGreatDoor
