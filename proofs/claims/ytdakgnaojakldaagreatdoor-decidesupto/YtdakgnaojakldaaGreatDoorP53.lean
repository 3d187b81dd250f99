/- P -/
import Derived.Test.YtdakgnaojakldaaGreatDoorP52
open Go.Proofs.Tryz
set_option maxRecDepth 100000
set_option maxHeartbeats 4000000
namespace Go.Proofs.YtdakgnaojakldaaGreatDoor
open Go.RowKit
theorem zbD(Q:World)(aL:Addr)(hC:Qu Q aL)(L:Nat->Nat)(w:World)(R:Nat)(a7 a0:Value)(u:List xY)(m:Nat)(h:yw Q L w R a7 a0 u m)(z:kI u)(s:0<u.length)(a4:u.length<=100000000)(a l:Int)(name text who act on:BY)(ma:Option Addr)(mn mc:Nat)(ms:List (BY×BY))(hA:I64 a)(I:Xg Q ma mn mc ms)(hr:Ref.aI ⟨who,act,on,ms⟩)(hl:Pg.reqLen ⟨who,act,on,ms⟩)(J:ms.length<=1000000000) :
  Calls prog 37 #[.pointer (some ⟨R,0,none⟩),Yf 6 a l name text who act on ma mn mc] w (JZ Q L w R u.length m):=by
 unfold Yf;obtain⟨j,k⟩:∃W,w.alloc (.cells #[.int .i64 6,.int .i64 a,.int .i64 l,.string name,.string text,.string who,.string act,.string on,.slice ma mn mc] 91)=W:=⟨_,rfl⟩;have Z:Below w.heap.size w j:=by rw[<- k];exact nbl w _
 have o:j.heap[w.heap.size]?=some (.cells #[.int .i64 6,.int .i64 a,.int .i64 l,.string name,.string text,.string who,.string act,.string on,.slice ma mn mc] 91):=by rw[<- k];exact zB w _
 have h1:=h.below Z;obtain⟨g,pc,p,rfl,H,A,E,G,F,a2⟩:=h1.pick a s;have P:=(zg o 0).1;have k1:=(zg o 1).1;simp at P k1;have O:=λW=>ig a u.length W hA s (by omega);obtain⟨n,hn⟩:∃x,u.length=x:=⟨_,rfl⟩;obtain⟨i,hi⟩:∃x,Kp.uZ a u.length=x:=⟨_,rfl⟩;simp only[hi] at A G F H O;have c:=λb (hb:L b≠0)=>(h.base b hb).2;have a6:=(h.off i p A).2;have a5:=(h.ref i p A).2.1;have K:=(h.ref i p A).2.2;have d0:p.ob<w.heap.size:=c _ (by omega);have c2:p.cb<w.heap.size:=c _ (by omega);have M:∀g,p.lv.ownBlock=some g->g<w.heap.size:=λg hg=>c _ (by have:=K g hg;omega);have y:=hid (gT h z A);simp only[hn] at H s a4 E O |-;have CP:=hid O;have X:=hid hn;have HP:=hid A;have H1:=hid h1;have v:=hid o;have S:=hid z;have D:=hid k;have T:=hid Z;have c0:=hid M;have U:=hid c;have i0:(0:Int)<=(i:Int):=qz _;have i1:(i:Int)<(n:Int):=by omega
 have c5:((n:Int)==0)=false:=by simp;omega
 clear O hn hi A h1 o z k Z h M c a6 a5 K;go_enter func37,ntmps37
 go_upto_region 1 with fail
 rw[D.out];clear D
 go_upto_region 16 with fail
 go_cut [6] (λv6 wc=>v6 = .pointer (some ⟨j.heap.size,0,none⟩)/\wc=(j.alloc (.cells #[.pointer (some ⟨p.ob,0,none⟩),.pointer (some ⟨p.cb,0,none⟩)] 175)).drew)
 case first=>
  go_region_held3 (λw'=>w'.cell? ⟨R,0,none⟩=some (.slice (some ⟨g,0,none⟩) n pc)/\w'.cell? ⟨w.heap.size,1,none⟩=some (.int .i64 a)/\w'.cell? ⟨g,i*2,none⟩=some (.pointer (some ⟨p.ob,0,none⟩))/\w'.cell? ⟨g,i*2+1,none⟩=some (.pointer (some ⟨p.cb,0,none⟩))) (go_keep) (first|(go_at_call 68;refine (CP.out _).mono ?_;rintro e w3 ⟨rfl,e3⟩;rw[e3];clear e3))
  all_goals
   go_wp2_with fail
   go_meet
   case rel=>exact⟨rfl,rfl⟩
 case rest=>
  obtain⟨rfl,B⟩:=hcut;have N:Below j.heap.size j wc:=by rw[B];exact (nbl j _).drew
  have r:wc.heap[j.heap.size]?=some (.cells #[.pointer (some ⟨p.ob,0,none⟩),.pointer (some ⟨p.cb,0,none⟩)] 175):=by rw[B];exact zB j _
  clear B CP E G F a2 P k1;have f:=hid (H1.out.below N);have d:=(N.block _ (zt v.out)).trans v.out;have d5:w.heap.size<j.heap.size:=zt v.out;have d6:j.heap.size<wc.heap.size:=zt r;have Y:Hid (jH L L w wc):=hid ((jH.of T.out).trans (jH.of N));have V:Hid (∀b,Lm L b->b<w.heap.size):=hid U.out;have p0:=(zg r 0).1;have p1:=(zg r 1).1;have P:=(zg d 0).1;have k5:=(zg d 5).1;have k6:=(zg d 6).1;have k7:=(zg d 7).1;have k8:=(zg d 8).1;simp at p0 p1 P k5 k6 k7 k8;clear r d N;have t:=IC p.ob p.cb p.st p.lv p.ks who act on ma mn mc ms (Lm L) wc (f.out.off i p HP.out).1 (f.out.ref i p HP.out).1 (by have:=y.out.1;omega) y.out.2.1 (λb hb=>Nat.lt_trans (V.out b hb) (by omega)) y.out.2.2.2 (I.below f.out.low) hr hl J (hC.below f.out.low).q.p;have C:=hid t;clear t I hr hl J hC
  go_wp2_with (go_at_call 75;refine C.out.mono ?_;rintro e w4 ⟨rfl,t4⟩;have B4:=hid t4;clear t4)
  go_ret;exact⟨L,_,_,_,m,rfl,Y.out.trans (jH.of B4.out),f.out.below B4.out,S.out,Nat.le_of_eq X.out.symm,by rw[X.out];omega,by omega,by rw[X.out];exact s⟩
end Go.Proofs.YtdakgnaojakldaaGreatDoor
namespace Go.Proofs.YtdakgnaojakldaaGreatDoor
open laws Go.ChangeShapes Go.WideShapes Go.ChangeAt Go.RowKit Go.Joins Go.Deep
def QE(w:World)(o:OpD)(K:Nat):Prop:=∃ms:List (BY×BY),Xg w o.ma o.mn o.mc ms/\o.who.size<=K/\o.act.size<=K/\o.on.size<=K/\ms.length<=K/\∀m ∈ ms,m.1.size<=K/\m.2.size<=K
theorem QE.more{w:World}{o:OpD}{K a:Nat}(h:QE w o K)(j:K<=a):QE w o a:=by
 obtain⟨ms,b,e,f,g,i,c⟩:=h;exact⟨ms,b,by omega,by omega,by omega,by omega,λm d=>by have:=c m d;omega⟩
section
variable {H:Type} {enc:TypeId×Value->H} {w:World} {spare:Nat->Bool} {held:Bool}
theorem Dl{P:Program}{base fuel:Nat}{t:TypeId}{b:Array Field}{cs:List Value}{x:DataW H×List MemPlace}(m:P.underlying t=some (.struct b))(h:DataW.trod enc P w base spare held fuel t cs=some x) :
  cs.length=P.cellsOf t/\∀(i:Nat) (f:Field),b[i]?=some f->∀(u:TypeId) (o c:Nat),f.type=u->f.offset=o->P.cellsOf u=c->∃n y,DataW.trod enc P w base spare held n u ((cs.drop o).take c)=some y/\Rows.uptoBulk y.1<=Rows.uptoBulk x.1:=by
 obtain⟨xs,n,_,rfl,g,q,a⟩:=DataW.trod_struct m h;refine⟨g,λi f hi u o c p l e=>?_⟩;have j:i<b.size:=(YY.1 hi).1;have d:=a i f hi;subst p;rw[l,e,zm (by omega)] at d;have k:xs[i].1 ∈ xs.map (·.1):=yf.2 ⟨xs[i],qA _,rfl⟩
 have:=dC k
 refine⟨n,_,d,?_⟩;simp only[Rows.uptoBulk];omega
theorem iR{fuel:Nat}{v:Value}{x:DataW H×List MemPlace}(h:DataW.trod enc prog w 0 spare held fuel 9 [v]=some x):∃s:BY,v = .string s/\s.size<=Rows.uptoBulk x.1/\s.size<=maxLen:=by
 obtain⟨s,q,a,f⟩:=VO underlying9 h;simp only[List.cons.injEq,and_true] at q;refine⟨s,q,?_,f⟩;rw[a];simp only[Rows.uptoBulk];rw[Ref.zD];omega
theorem Sz{fuel:Nat}{v:Value}{x:DataW H×List MemPlace}(h:DataW.trod enc prog w 0 spare held fuel 51 [v]=some x)(E:∀b,spare b=true):∃ma mn mc ms,v = .slice ma mn mc/\Xg w ma mn mc ms/\ms.length<=Rows.uptoBulk x.1/\∀m ∈ ms,m.1.size<=Rows.uptoBulk x.1/\m.2.size<=Rows.uptoBulk x.1:=by
 have y:prog.cellsOf 62=2:=by kernel_rfl
 have p:prog.cellsOf 9=1:=by kernel_rfl
 rcases open_slice_pairs underlying51 underlying62 y rfl rfl p p h with ⟨e,_⟩|⟨a,len,cap,m2,n2,V0,V1,D0,D1,P0,P1,e,_,hl,hmx,hmm,rfl,hcell⟩
 ·simp only[List.cons.injEq,and_true] at e;exact⟨none,0,0,[],e,⟨rfl,.inl ⟨rfl,rfl,rfl⟩⟩,by simp,λm n=>by simp at n⟩
 ·simp only[List.cons.injEq,and_true] at e;rw[E,zb rfl] at hmm
  have f:∀i,i<len->∃x:BY×BY,V0 i = .string x.1/\V1 i = .string x.2/\D0 i = .lit (.string x.1.data.toList)/\D1 i = .lit (.string x.2.data.toList):=λi hi=>by
   obtain⟨_,_,G,I⟩:=hcell i (by omega);obtain⟨t,q,s,_⟩:=VO underlying9 G;obtain⟨u,r,f1,_⟩:=VO underlying9 I;simp only[List.cons.injEq,and_true] at q r;simp only[Prod.mk.injEq] at s f1;exact⟨(t,u),q,r,s.1,f1.1⟩
  obtain⟨F,hF⟩:=choose_lt f;have hlen:((List.range len).map F).length=len:=by simp
  have c:∀j (h:j<((List.range len).map F).length),((List.range len).map F)[j]=F j:=λj h=>by simp
  have k:=nK ((List.range len).map λi=>DataW.agg [D0 i,D1 i]);rw[qH,Xe] at k;refine⟨some a,len,cap,(List.range len).map F,e,⟨hlen.symm,.inr ⟨a,rfl,λj h=>?_⟩⟩,?_,λJ n=>?_⟩
  ·rw[c j h];have D:j<len:=by rw[hlen] at h;exact h
   obtain⟨c0,c1,_,_⟩:=hcell j (by omega);obtain⟨B,C,_,_⟩:=hF j D;rw[B] at c0;rw[C] at c1;exact⟨c0,c1⟩
  ·rw[hlen];simp only[Rows.uptoBulk];omega
  ·obtain⟨i,hi,rfl⟩:=yf.1 n;have g:i<len:=jW.1 hi;obtain⟨_,_,z,A⟩:=hF i g;have o:=dC (H:=H) (d := .agg [D0 i,D1 i]) (l:=(List.range len).map λi=>DataW.agg [D0 i,D1 i]) (yf.2 ⟨i,hi,rfl⟩);rw[z,A] at o;simp only[Rows.uptoBulk,Rows.uptoBulkAll] at o |-;rw[Ref.zD,Ref.zD] at o
   constructor<;>omega
theorem TW{fuel:Nat}{cs:List Value}{x:DataW H×List MemPlace}(h:DataW.trod enc prog w 0 spare held fuel 91 cs=some x)(J:∀b,spare b=true) :
  ∃o:OpD,cs=[.int .i64 o.kind,.int .i64 o.a,.int .i64 o.layer,.string o.name,.string o.text,.string o.who,.string o.act,.string o.on,.slice o.ma o.mn o.mc]/\V3 o/\QE w o (Rows.uptoBulk x.1):=by
 have c3:prog.cellsOf 3=1:=by kernel_rfl
 have e:prog.cellsOf 9=1:=by kernel_rfl
 have p:prog.cellsOf 53=4:=by kernel_rfl
 have l:prog.cellsOf 51=1:=by kernel_rfl
 have n:prog.cellsOf 91=9:=by kernel_rfl
 obtain⟨f,c⟩:=Dl underlying91 h;rw[n] at f
 match cs,f with
 | [u0,u1,u2,u3,u4,u5,u6,u7,u8],_=>
  obtain⟨Z,y0,u,_⟩:=c 0 _ rfl _ 0 1 rfl rfl c3;obtain⟨n1,y1,y,_⟩:=c 1 _ rfl _ 1 1 rfl rfl c3;obtain⟨n2,y2,z,_⟩:=c 2 _ rfl _ 2 1 rfl rfl c3;obtain⟨n3,y3,A,_⟩:=c 3 _ rfl _ 3 1 rfl rfl e;obtain⟨n4,y4,B,_⟩:=c 4 _ rfl _ 4 1 rfl rfl e;obtain⟨n5,y5,C,z5⟩:=c 5 _ rfl _ 5 4 rfl rfl p;obtain⟨_,d⟩:=Dl underlying53 C;obtain⟨n6,y6,D,z6⟩:=d 0 _ rfl _ 0 1 rfl rfl e;obtain⟨n7,y7,E,z7⟩:=d 1 _ rfl _ 1 1 rfl rfl e;obtain⟨n8,y8,F,z8⟩:=d 2 _ rfl _ 2 1 rfl rfl e;obtain⟨n9,y9,G,z9⟩:=d 3 _ rfl _ 3 1 rfl rfl l;obtain⟨K,g,_,q⟩:=DataW.trod_int underlying3 u;obtain⟨L,i,_,f1⟩:=DataW.trod_int underlying3 y;obtain⟨M,q2,_,f2⟩:=DataW.trod_int underlying3 z;obtain⟨R,j,_,r⟩:=VO underlying9 A;obtain⟨S,k,_,s⟩:=VO underlying9 B;obtain⟨T,N,W,_⟩:=iR (v:=u5) D;obtain⟨U,O,X,_⟩:=iR (v:=u6) E;obtain⟨V,P,Y,_⟩:=iR (v:=u7) F;obtain⟨ma,mn,mc,ms,Q,t,f10,f11⟩:=Sz (v:=u8) G J;simp at g i q2 j k;subst g i q2 j k N O P Q;exact⟨⟨K,L,M,R,S,T,U,V,ma,mn,mc⟩,rfl,⟨gM q,gM f1,gM f2,r,s⟩,ms,t,by simp only;omega,by simp only;omega,by simp only;omega,by omega,λm I=>by have:=f11 m I;omega⟩
theorem We{fuel:Nat}{v:Value}{x:DataW H×List MemPlace}(h:DataW.trod enc prog w 0 spare held fuel 28 [v]=some x)(z:∀b,spare b=true):∃ops:List OpD,ops.length<=Rows.uptoBulk x.1/\JW w v ops/\∀o ∈ ops,V3 o/\QE w o (Rows.uptoBulk x.1):=by
 have I:prog.cellsOf 91=9:=by kernel_rfl
 rcases open_slice underlying28 h with ⟨e,_⟩|⟨a,len,cap,m,n,D,Pl,e,_,hl,hmx,hmm,rfl,hcell⟩
 ·simp only[List.cons.injEq,and_true] at e;subst e;exact⟨[],by simp,⟨none,0,rfl,λk r L=>by simp at L⟩,λo c=>by simp at c⟩
 ·simp only[List.cons.injEq,and_true] at e;subst e;rw[z,zb rfl] at hmm;rw[I] at hcell
  have each:∀i,i<len->∃o:OpD,(V3 o/\QE w o (Rows.uptoBulk (D i)))/\∃g q,some a=some ⟨g,q,none⟩/\VZ w g (q+i*9) o:=by
   intro i hi
   have u:∃b o,a=⟨b,o,none⟩:=by
    obtain⟨B,C,N⟩:=hcell 0 (by omega);obtain⟨_,K,p⟩:=World.cells?_some C
    have:=p 0 (by omega)
    rw[add_add,Nat.zero_mul,ZP,zm (by omega)] at this;exact TY this
   obtain⟨g,q,rfl⟩:=u;obtain⟨A,E,G⟩:=hcell i (by omega);obtain⟨o,rfl,f,fr⟩:=TW G z;obtain⟨_,_,s⟩:=World.cells?_some E
   have cell:∀j,j<9->w.cell? ⟨g,q+i*9+j,none⟩=[Value.int .i64 o.kind,.int .i64 o.a,.int .i64 o.layer,.string o.name,.string o.text,.string o.who,.string o.act,.string o.on,.slice o.ma o.mn o.mc][j]?:=by
    intro j J
    have:=s j J
    rw[add_add,addr_add,<- VX] at this;exact this
   exact⟨o,⟨f,fr⟩,g,q,rfl,cell 0 (by omega),cell 1 (by omega),cell 2 (by omega),cell 3 (by omega),cell 4 (by omega),cell 5 (by omega),cell 6 (by omega),cell 7 (by omega),cell 8 (by omega)⟩
  obtain⟨F,hF⟩:=choose_lt each;have hb:=nK ((List.range len).map D);rw[qH,Xe] at hb;refine⟨(List.range len).map F,?_,⟨some a,cap,by rw[qH,Xe],λk o c=>?_⟩,λo c=>?_⟩
  ·rw[qH,Xe];simp only[Rows.uptoBulk];omega
  ·have y:k<len:=by
    have:=(zW.1 c).1
    rw[qH,Xe] at this;exact this
   rw[uO,Kb y] at c;simp only[Yy,Option.some.injEq] at c;subst c;exact (hF k y).2
  ·obtain⟨i,hi,rfl⟩:=yf.1 c;have t:=jW.1 hi;obtain⟨f1,f2⟩:=(hF i t).1;have M:=dC (H:=H) (d:=D i) (l:=(List.range len).map D) (yf.2 ⟨i,hi,rfl⟩);refine⟨f1,f2.more ?_⟩;simp only[Rows.uptoBulk];omega
end
end Go.Proofs.YtdakgnaojakldaaGreatDoor
namespace Go.Proofs.YtdakgnaojakldaaGreatDoor
open Go.RowKit
theorem QE.below{w w':World}{o:OpD}{K:Nat}(h:QE w o K)(hb:Below w.heap.size w w'):QE w' o K:=by
 obtain⟨ms,a,b⟩:=h;exact⟨ms,a.below hb,b⟩
theorem Iz{k:Int}(h:inK [1,2,3,6] k=true):k=1\/k=2\/k=3\/k=6:=by
 unfold inK at h
 simpa using h
theorem IA{w:World}{i:Addr}(n:Qu w i){o:OpD}(r:V3 o)(t:QE w o 1048576)(s:inK [1,2,3,6] o.kind=true):mi w o:=by
 obtain⟨kind,a,layer,name,text,who,act,on,ma,mn,mc⟩:=o;obtain⟨_,k,_,p,u⟩:=r;obtain⟨ms,e,v,q2,y,A,q⟩:=t;simp only at v q2 y e;intro L W d b h m g c j f z
 rcases Iz s with rfl|rfl|rfl|rfl
 ·exact Cx w L W w.heap.size d b h m g c f a layer name text who act on ma mn mc
 ·exact Cy w i n L W w.heap.size d b h m g c j f a layer name text who act on ma mn mc k p u
 ·exact Cw w L W w.heap.size d b h m g c j f a layer name text who act on ma mn mc k p
 ·refine zbD w i n L W w.heap.size d b h m g c j f a layer name text who act on ma mn mc ms k e ⟨?_,?_,?_,?_,λx l=>?_⟩ ⟨?_,?_,?_,?_,λx l=>?_⟩ (by omega)
  ·simp only;omega
  ·simp only;omega
  ·simp only;omega
  ·simp only;omega
  ·have:=q x l;omega
  ·simp only;unfold maxLen;omega
  ·simp only;unfold maxLen;omega
  ·simp only;unfold maxLen;omega
  ·simp only;omega
  ·have:=q x l;unfold maxLen;omega
theorem IE(w:World)(l:Addr)(p:Qu w l)(k:Value)(ops:List OpD)(t:JW w k ops)(i:∀o ∈ ops,V3 o/\QE w o 1048576)(hlen:ops.length<=10000000) :
  Calls prog 6 #[k] w λe w'=>e = .returned (.bool true)/\Below w.heap.size w w':=by
 obtain⟨h,b⟩:∃W,w.alloc (.cells #[.int .i64 1,.int .i64 2,.int .i64 3,.int .i64 6] 3)=W:=⟨_,rfl⟩;have c:Below w.heap.size w h:=by rw[<- b];exact nbl w _
 have f:h.heap[w.heap.size]?=some (.cells #[.int .i64 1,.int .i64 2,.int .i64 3,.int .i64 6] 3):=by rw[<- b];exact zB w _
 have n:=WQ h l (p.below c) k ops (t.below c) hlen w.heap.size 4 [1,2,3,6] (λj x a=>by
  rw[(zg f j).1]
  match j,a with
  | 0,a=>simp at a;subst a;rfl
  | 1,a=>simp at a;subst a;rfl
  | 2,a=>simp at a;subst a;rfl
  | 3,a=>simp at a;subst a;rfl
  | j+4,a=>simp at a) (by simp) (λo q u=>IA (p.below c) (i o q).1 ((i o q).2.below c) u)
 have s:=hid n;have g:=hid b;have d:=hid c;clear n b c f i;go_enter func6,ntmps6
 go_wp2_with (go_at_call 17;rw[g.out];refine s.out.mono ?_;rintro e v ⟨rfl,m⟩;have r:=hid m;clear m)
 go_ret;exact⟨rfl,d.out.trans (r.out.mono d.out.size)⟩
end Go.Proofs.YtdakgnaojakldaaGreatDoor
namespace Go.Proofs.YtdakgnaojakldaaGreatDoor.decides
theorem Ro:(Rows.decidesUptoRow.wf (OpenSpec.ofChange (Rows.OpenSpec.upto Rows.decidesSpec).bare))=true:=by kernel_rfl
theorem PW:(Tryz.f6.params.all (prog.readableRec ·))=true:=by kernel_rfl
theorem PS:(namedTie prog Rows.decidesUptoRow.named (Rows.OpenSpec.upto Rows.decidesSpec).bare.vars)=true:=by kernel_rfl
theorem Rb:((Rows.decidesUptoRow.stops==[]))=true:=by kernel_rfl
theorem Re:((Rows.decidesUptoRow.knobs==[]))=true:=by kernel_rfl
theorem PD:((Rows.decidesUptoRow.inPlace==prog.inPlace 6))=true:=by kernel_rfl
theorem Rj:((Rows.decidesUptoRow.unfollowed==prog.unfollowed 6))=true:=by kernel_rfl
theorem Ra:((Rows.decidesUptoRow.recurses==prog.recurses 6))=true:=by kernel_rfl
theorem Rn:((Rows.decidesUptoRow.named==prog.varsNamed 6))=true:=by kernel_rfl
theorem PI:((Rows.decidesUptoRow.maps==(Tryz.f6.params.toList++(Rows.OpenSpec.upto Rows.decidesSpec).bare.plain.varTypes prog).any (prog.mapsRec ·)))=true:=by kernel_rfl
theorem PK:((Rows.decidesUptoRow.ifaces==(Tryz.f6.params.toList++(Rows.OpenSpec.upto Rows.decidesSpec).bare.plain.varTypes prog).any (prog.ifacesRec ·)))=true:=by kernel_rfl
theorem PL:((Rows.decidesUptoRow.mapsOut==prog.mapsAmong Tryz.f6.resultTypes.toList))=true:=by kernel_rfl
theorem PM:((Rows.decidesUptoRow.loops==(Tryz.f6.params.toList++(Rows.OpenSpec.upto Rows.decidesSpec).bare.plain.varTypes prog).any (prog.loopsFrom ·)))=true:=by kernel_rfl
theorem PN:((Rows.decidesUptoRow.wideKeys==(Tryz.f6.params.toList++(Rows.OpenSpec.upto Rows.decidesSpec).bare.plain.varTypes prog++Tryz.f6.resultTypes.toList).any (prog.wideKeysFrom ·)))=true:=by kernel_rfl
theorem Rk:((Rows.OpenSpec.upto Rows.decidesSpec).bare.vars.all (prog.varReadable ·))=true:=by kernel_rfl
theorem PX:(Tryz.f6.resultTypes.all (λt=>prog.readableRec t&&decide (t<prog.types.size)))=true:=by kernel_rfl
theorem PY:((Rows.decidesUptoRow.ifacesOut==Tryz.f6.resultTypes.toList.any (prog.ifacesRec ·)))=true:=by kernel_rfl
theorem PZ:((Rows.decidesUptoRow.loopsOut==Tryz.f6.resultTypes.toList.any (prog.loopsFrom ·)))=true:=by kernel_rfl
theorem PV:((Rows.decidesUptoRow.plainKeys==prog.plainKeys))=true:=by kernel_rfl
theorem Ri:(Rows.decidesUptoRow.shortTexts.isNone)=true:=by kernel_rfl
theorem PG:((Rows.decidesUptoRow.lifted==prog.liftsFinal))=true:=by kernel_rfl
theorem PP:((prog.make==some Rows.decidesUptoRow.make))=true:=by kernel_rfl
theorem PE:((Rows.decidesUptoRow.kinds==(if Rows.decidesUptoRow.domain.isEmpty then [] else Tryz.f6.params.toList.map λt=>match prog.underlying t with|some (.int k)=>some k|_=>none)))=true:=by kernel_rfl
theorem PU:((Rows.decidesUptoRow.pinned==Rows.decidesUptoRow.pinnedBy))=true:=by kernel_rfl
theorem Rl:((Rows.decidesUptoRow.veiled==(Tryz.f6.params.toList++(Rows.OpenSpec.upto Rows.decidesSpec).bare.plain.varTypes prog++Tryz.f6.resultTypes.toList).any (prog.veiledRec ·)))=true:=by kernel_rfl
theorem Rm:(Rows.decidesUptoRow.veiledFits prog Tryz.f6.params.toList (Tryz.f6.params.toList++(Rows.OpenSpec.upto Rows.decidesSpec).bare.plain.varTypes prog++Tryz.f6.resultTypes.toList))=true:=by kernel_rfl
theorem Pz:Tryz.f6.isInstance prog Rows.decidesUptoRow.origin Rows.decidesUptoRow.targs:=of_decide_eq_true (by kernel_rfl)
theorem Rp:Tryz.f6.isWrapper prog Rows.decidesUptoRow.wrapper Rows.decidesUptoRow.mainSum:=by unfold Func.isWrapper;first|(rw[zb (by decide +kernel)];kernel_rfl)|(rw[za (by decide +kernel)];exact⟨rfl,rfl⟩)
theorem PR:prog.funcNamed Rows.decidesUptoRow.func=some 6:=by kernel_rfl
end Go.Proofs.YtdakgnaojakldaaGreatDoor.decides
namespace Go.Proofs.YtdakgnaojakldaaGreatDoor.laws
theorem PH:(laidOutB prog)=true:=by kernel_rfl
theorem PQ:(mapsRowed prog)=true:=by kernel_rfl
theorem Rc:((prog.stops==[]))=true:=by kernel_rfl
theorem Rf:((prog.stopKnobs==[]))=true:=by kernel_rfl
theorem Rh:(prog.stopsHeard)=true:=by kernel_rfl
theorem PO:(prog.mayEnter)=true:=by kernel_rfl
theorem xK{a b:Bool}(h:a=true)(k:b=true):(a&&b)=true:=by rw[h,k];rfl
end Go.Proofs.YtdakgnaojakldaaGreatDoor.laws
