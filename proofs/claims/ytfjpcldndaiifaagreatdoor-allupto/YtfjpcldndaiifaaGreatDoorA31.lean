/- P -/
import Derived.Test.YtfjpcldndaiifaaGreatDoorA30
open Go.Proofs.Tryz
set_option maxRecDepth 100000
set_option maxHeartbeats 4000000
namespace Go.Proofs.YtfjpcldndaiifaaGreatDoor
open Go.RowKit
theorem fA{M:Nat->Prop}{W:J}{base:Nat}{v:Y}{b:List zy}{xs:List Y}(n:W.ownsRow base 93 3 v b.length xs)(t:xV M W xs b):∃a c,v=TL a b.length c/\∀(k:Nat) (x:zy),b[k]?=some x->∃j d h f,a=some (G8 j 0)/\W.cell? (G8 j (k*3))=some (R9 x.layer)/\W.cell? (G8 j (k*3+1))=some (S9 x.name)/\W.cell? (G8 j (k*3+2))=some (TL d h f)/\vU M W (TL d h f) x.rs:=by
 rcases n.2 with⟨e,h0⟩|⟨g,cap,cur,e,_⟩
 ·have o:b=[]:=Y6.1 h0;subst o;exact⟨none,0,e,λk x l=>by simp at l⟩
 refine⟨some (G8 g 0),cap,e,λk x l=>?_⟩;have o:k<b.length:=(zU.1 l).1;obtain⟨d,h,f,p,q,r,s⟩:=t.2 k x l;have m:∀i,i<b.length*3->W.cell? (G8 g i)=xs[i]?:=λi u=>World.ownsRow.cellAt (g:=g) (cap:=cap) (by rw[<- e];exact n) i (by omega);exact⟨g,d,h,f,rfl,by rw[m _ (by omega)];exact p,by rw[m _ (by omega)];exact q,by rw[m _ (by omega)];exact r,s⟩
theorem zbS{b:List zy}{l:Int}{out:List zy}(h:VB b l out):out.length<=b.length:=by
 obtain⟨e,d,c,_,rfl⟩:=h;rw[Ea (λp a=>((c p).1 a).1)]
 have:=d.length_le_of_subset (l₂:=List.range b.length) (λp a=>vk.2 ((c p).1 a).1)
 simpa using this
def gH(c:List zy)(l:Int)(w:J)(e:Ending)(w':J):Prop:=
 ∃v b,e=.returned (.tuple #[v,.int .i64 (YP l)])/\zJ w' w.heap.size v b/\BQ w w'/\(vL l=false->b=[])/\(vL l=true->∃a,VB c l a/\b=a.map zy.name)
def gP(a:List zy)(l:Int)(name:BY)(w:J)(e:Ending)(w':J):Prop:=
 ∃s E,e=.returned (.tuple #[.string s,.int .i64 E])/\BQ w w' /\
  (qN l name≠0->s=⟨#[]⟩/\E=qN l name)/\(qN l name=0->a.findIdx? (isR l name)=none->s=⟨#[]⟩/\E=9)/\(qN l name=0->∀k x,a.findIdx? (isR l name)=some k->a[k]?=some x->s=U.QU x.rs/\E=0)
theorem lT{a:List zy}{l:Int}{name:BY}(h:a.findIdx? (isR l name)=none):Vg a l name = -1:=by unfold Vg;rw[h]
theorem lU{a:List zy}{l:Int}{name:BY}{k:Nat}(h:a.findIdx? (isR l name)=some k):Vg a l name=(k:Int):=by unfold Vg;rw[h]
theorem zbb(cb:Nat)(lv:Y)(G:List zy)(l:Int)(M:Nat->Prop)(w:J)(h:xM M w cb lv G)(hn:G.length<=1000000000)(T:∀x ∈ G,x.name.size<=maxLen)(R:∀b,M b->b<w.heap.size):R8 19 #[RG cb 0,R9 l] w (gH G l w):=by
 obtain⟨i0,hi,a1,a2,a3⟩:=qU UE
 by_cases hr:0<=l/\l<4
 ·obtain⟨W,X⟩:=hr;have d1:decide (0<=l)=true:=zB W;have d2:decide (l<4)=true:=zB X;have d3:decide (l<0)=false:=by simp;omega
  have d4:decide (4<=l)=false:=by simp;omega
  have p:vL l=true:=by unfold vL;rw[d1,d2];rfl
  have B:YP l=0:=by unfold YP;rw[p];rfl
  have f:=G7 (ZH p B);clear p B;have ci:=dh cb lv G l M w h hn T R;have CI:=G7 ci;clear ci h R T;go_enter func19,ntmps19
  go_upto_region 4 with(go_at_call 39;apply CI.o.mono;rintro e t⟨v,xs,d,rfl,q,o,F,C⟩;have O:=G7 q;have A:=G7 (fA o F);have n:=G7 C;have a0:=zbS q;clear q o F C)
  obtain⟨a,c,rfl,g⟩:=A.o;have N:=G7 g;obtain⟨m,r⟩:=Nm d.length;rw[r]at a0 |-;have z:=G7 r;clear g r A CI;go_wp2_with fail
  go_loopw [7,8] (λov iv wr=>∃k:Nat,k<=m/\iv=R9 k/\zJ wr t.heap.size ov ((d.take k).map zy.name)/\BQ t wr) (λ_ iv _=>m-(intOf iv).toNat)
  case atStart=>exact⟨0,zD _,rfl,⟨rfl,.inl ⟨rfl,rfl⟩⟩,zf _ _⟩
  case round=>
   obtain⟨k,hk,rfl,y,C⟩:=hrel;have⟨I,H⟩:=D5 y C;clear y C
   by_cases hlt:k<m
   ·have D:k<d.length:=by rw[z.o];exact hlt
    obtain⟨gb,da,dn,dc,rfl,q0,q1,q2,_⟩:=N.o k _ (zn D);have p1:=zi H.o q1;have s:G6 ((d.take (k+1)).map zy.name=(d.take k).map zy.name++[d[k].name]):=G7 (by rw[Qg,zn D,uz];rfl);have E:((d.take k).map zy.name).length=k:=by rw[qf,jg];omega
    obtain⟨S,hS⟩:=Nm (d[k].name);rw[hS]at p1 s;obtain⟨K,hK⟩:=Nm ((d.take k).map zy.name);rw[hK]at I s E;have a4:=H.o.size;have b3:=n.o.size;have k0:(0:Int)<=(k:Int):=qd _;have k1:(k:Int)<(m:Int):=by omega
    clear q0 q1 q2 hS hK N;go_wp2_with (at_builtin;refine yh _ rfl _ _ 57 rfl t.heap.size 9 i0 R5 1 16 underlying57 hi a1 a2 a3 rfl (by decide) _ K.length (K.map Value.string) rfl (World.ownsRow.alloc I.o _) (G8 wr.heap.size 0) 1 1 [S9 S] rfl rfl ?_ ?_ ?_ ?_ ?_ ?_)
    ·exact uQ _ _ _
    ·intro u hu;simp at hu;rcases hu with rfl;rfl
    ·unfold maxLen;omega
    ·omega
    ·simp;omega
    intro v' w3 j i _;have Q:G6 (zJ w3 t.heap.size v' ((d.take (k+1)).map zy.name)):=by rw[s.o];exact K8 (by rw[E];exact j)
    have L:G6 (BQ t w3):=(H.o.alloc a4 _).grown i (by simp;omega) (λk hk=>(World.ownsRow.lt I.o k hk).1);clear j i;go_wp2_with fail;go_roundw
    case rel=>exact⟨k+1,by omega,by go_num,Q.o,L.o⟩
    case measure=>simp[intOf];omega
   have V:m=k:=by omega
   subst V;have y:=I.o;rw[uA (by rw[z.o];omega)]at y;have P:=G7 (xS y n.o.size);clear y N;go_wp2_with fail;go_ret2;exact⟨_,_,by rw[f.o.2];rfl,P.o,n.o.trans (H.o.mono n.o.size),(λe=>by rw[f.o.1]at e;cases e),λ_=>⟨d,O.o,rfl⟩⟩
 have dd:(decide (0<=l)&&decide (l<4))=false:=by
  rw[Bool.and_eq_false_iff]
  by_cases e:0<=l
  ·exact .inr (by simp;omega)
  exact .inl (by simp;omega)
 have p:vL l=false:=dd;have B:YP l=7:=by unfold YP;rw[p];rfl
 have f:=G7 (ZH p B);clear p B dd;clear h R T
 by_cases e:l<0
 ·have d3:decide (l<0)=true:=by simp;omega
  go_enter func19,ntmps19;go_wp2_with fail;go_ret2;exact⟨_,[],by rw[f.o.2];rfl,⟨rfl,.inl ⟨rfl,rfl⟩⟩,zf _ _,(λ_=>rfl),λe=>by rw[f.o.1]at e;cases e⟩
 have d3:decide (l<0)=false:=by simp;omega
 have d4:decide (4<=l)=true:=by simp;omega
 go_enter func19,ntmps19;go_wp2_with fail;go_ret2;exact⟨_,[],by rw[f.o.2];rfl,⟨rfl,.inl ⟨rfl,rfl⟩⟩,zf _ _,(λ_=>rfl),λe=>by rw[f.o.1]at e;cases e⟩
theorem zdQ(cb:Nat)(V:Y)(o:List zy)(l:Int)(name:BY)(M:Nat->Prop)(w:J)(h:xM M w cb V o)(T:o.length<=maxLen)(hs:name.size<=maxLen)(H:∀x ∈ o,x.rs.length<=10/\∀r ∈ x.rs,U.ZP r):R8 17 #[RG cb 0,R9 l,S9 name] w (gP o l name w):=by
 have s:=mP l name w hs;have q:=cu cb V o l name M w h T
 by_cases hpl:qN l name=0
 ·rw[hpl]at s;have C:=G7 s;obtain⟨F,hF⟩:=Nm (o.findIdx? (isR l name))
  cases F with
  | none=>
   rw[lT hF]at q;have I:G6 (R8 38 #[RG cb 0,R9 l,S9 name] w λe O=>e=.returned (.int .i64 (-1))/\O=w):=G7 q;have D:=G7 hF;clear s q h hF H;go_enter func17,ntmps17
   go_wp2_with(first
    |(go_at_call 38;apply I.o.mono;rintro e w2⟨rfl,u⟩;rw[u];clear u)
    |(go_at_call 36;apply C.o.mono;rintro e W⟨rfl,p⟩;rw[p];clear p))
   go_ret2;exact⟨⟨#[]⟩,9,rfl,zf _ _,(λe=>absurd hpl e),(λ_ _=>⟨rfl,rfl⟩),λ_ k x S=>by rw[D.o]at S;cases S⟩
  | some k=>
   rw[lU hF]at q;have I:G6 (R8 38 #[RG cb 0,R9 l,S9 name] w λe O=>e=.returned (.int .i64 (k:Int))/\O=w):=G7 q
   have y:k<o.length:=by
    have:=VH.1 hF
    exact this.1
   have A:=zn y;obtain⟨a,c,rfl,b⟩:=h.cells;have R:=(zg h.cell 0).1;simp at R;obtain⟨gb,da,dn,dc,rfl,q0,q1,q2,f⟩:=b k _ A;have j:=H _ (xC A);obtain⟨x,B⟩:=Nm (o[k]);rw[B]at A f j;obtain⟨base,v⟩:=f.at;have t:=Ew x.rs _ base w v j.1 j.2;obtain⟨P,N⟩:=Nm (U.QU x.rs);rw[N]at t;have⟨K,HX,D,HP⟩:=M5 t A hF N;obtain⟨n,z⟩:=Nm o.length;rw[z]at y R;have k0:(0:Int)<=(k:Int):=qd _;have k1:(k:Int)<(n:Int):=by omega
   clear s q h hF H b f v j t B A N q0 q1 z T;go_enter func17,ntmps17
   go_wp2_with(first
    |(go_at_call 43;apply K.o.mono;rintro e w3⟨rfl,Q⟩;have L:=G7 Q;clear Q)
    |(go_at_call 38;apply I.o.mono;rintro e w2⟨rfl,u⟩;rw[u];clear u)
    |(go_at_call 36;apply C.o.mono;rintro e W⟨rfl,p⟩;rw[p];clear p))
   go_ret2
   exact⟨P,0,rfl,L.o,(λe=>absurd hpl e),(λ_ e=>by rw[D.o]at e;cases e),λ_ k' x' i m=>by
    rw[D.o]at i;injection i with i
    subst i;rw[HX.o]at m;injection m with m
    subst m;exact⟨HP.o.symm,rfl⟩⟩
 obtain⟨E,G⟩:=Nm (qN l name);have X:=G7 G;rw[G]at s;have g:=hpl;rw[G]at g;have C:=G7 s;have d:(E==0)=false:=by simpa using g
 have d2:(E != 0)=true:=by simpa using g
 clear s q G h H;go_enter func17,ntmps17;go_wp2_with(go_at_call 36;apply C.o.mono;rintro e W⟨rfl,p⟩;rw[p];clear p);go_ret2;exact⟨⟨#[]⟩,E,rfl,zf _ _,λ_=>⟨rfl,X.o.symm⟩,λe=>absurd e hpl,λe=>absurd e hpl⟩
theorem BM(W:J):(Go.sizeOf (prog.elem 43)).run prog W=.ok 3 W:=by
 obtain⟨f,b,c,a,d⟩:=qU di;have e:prog.elem 43=93:=by kernel_rfl
 rw[e];simp[Go.sizeOf,typeInfo,b,a]
theorem zdW(a:Option Addr)(n c p:Nat)(h:p<=c)(W:J):(Instr.sliceAt 43 (TL a n c) none (some (R9 (p:Int))) none).run prog W=.ok (TL a p c) W:=by
 have b:prog.underlying 43=some (.slice (prog.elem 43)):=by kernel_rfl
 rw[og _ _ _ _ _ _ b,run_slice_h _ _ _ _ _ b .i64 (p:Int) (by omega) (by omega),BM];simp[Result.andThen,sliced,Addr.add]
theorem zdV(a:Option Addr)(n c p:Nat)(h:p<=n)(W:J):(Instr.sliceAt 43 (TL a n c) (some (R9 (p:Int))) none none).run prog W=.ok (TL (if c=p then a else a.map λx=>x.add (p*3)) (n-p) (c-p)) W:=by
 have b:prog.underlying 43=some (.slice (prog.elem 43)):=by kernel_rfl
 rw[og _ _ _ _ _ _ b,run_slice_l _ _ _ _ _ b .i64 (p:Int) (by omega) (by omega),BM];simp[Result.andThen,sliced]
def jW(M:Nat->Prop)(v:Y):Nat->Prop:=λb=>M b\/v.ownBlock=some b
def fU(c:List zy)(l:Int)(name:BY)(M:Nat->Prop)(cb:Nat)(f:Y)(w:J)(e:Ending)(w':J):Prop:=
 ∃E d a,e=.returned (.int .i64 E)/\zx (λb=>b=cb) w w'/\(∀b,jW M d b->M b\/w.heap.size<=b)/\xM (jW M d) w' cb d a/\(d=f\/∀g,d.ownBlock=some g->w.heap.size<=g) /\
  (qN l name≠0->E=qN l name/\a=c)/\(qN l name=0->c.findIdx? (isR l name)=none->E=9/\a=c)/\(qN l name=0->∀k,c.findIdx? (isR l name)=some k->E=0/\a=c.take k++c.drop (k+1))
theorem xM.same{M:Nat->Prop}{W:J}{cb:Nat}{a:Y}{d:List zy}(h:xM M W cb a d):xM (jW M a) W cb a d:=by
 obtain⟨l,f,i⟩:=h.rows;have j:∀b,jW M a b->M b\/W.heap.size<=b:=λb k=>k.elim .inl (λe => .inl (h.own b e).1);exact⟨.inl h.mine,h.cell,⟨l,f,i.more j⟩,λg c=>⟨.inl (h.own g c).1,(h.own g c).2⟩⟩
theorem xM.sameM{M:Nat->Prop}{W:J}{cb:Nat}{a:Y}{d:List zy}(h:xM M W cb a d):∀b,jW M a b->M b\/W.heap.size<=b:=λb c=>c.elim .inl (λe => .inl (h.own b e).1)
theorem OH(cb:Nat)(lv:Y)(r:List zy)(l:Int)(name:BY)(M:Nat->Prop)(w:J)(h:xM M w cb lv r)(hn:r.length<=1000000000)(hs:name.size<=maxLen)(hM:∀b,M b->b<w.heap.size):R8 15 #[RG cb 0,R9 l,S9 name] w (fU r l name M cb lv w):=by
 obtain⟨i1,hj,c8,c9,d0⟩:=qU di;have cn:=mP l name w hs;have cf:=cu cb lv r l name M w h (by unfold maxLen;omega);have b9:=G7 h.same;have b6:=G7 h.sameM
 by_cases hpl:qN l name=0
 ·rw[hpl]at cn;have CN:=G7 cn;obtain⟨F,hF⟩:=Nm (r.findIdx? (isR l name))
  cases F with
  | none=>
   rw[lT hF]at cf;have⟨CF,HF⟩:=D5 cf hF;clear cn cf h hF hM;go_enter func15,ntmps15
   go_wp2_with(first
    |(go_at_call 38;apply CF.o.mono;rintro e w2⟨rfl,e2⟩;rw[e2];clear e2)
    |(go_at_call 36;apply CN.o.mono;rintro e w1⟨rfl,Q⟩;rw[Q];clear Q))
   go_ret;exact⟨9,lv,r,rfl,zx.refl _ _,b6.o,b9.o,.inl rfl,(λe=>absurd hpl e),(λ_ _=>⟨rfl,rfl⟩),λ_ k hk=>by rw[HF.o]at hk;cases hk⟩
  | some k=>
   rw[lU hF]at cf;have⟨CF,HF⟩:=D5 cf hF;have f5:k<r.length:=(VH.1 hF).1;obtain⟨P,G,O⟩:=h.rows;have c0:=(zg h.cell 0).1;have f0:=(zg h.cell 0).2;have f2:cb<w.heap.size:=hM cb h.mine
   obtain⟨g,cap,B,e,_,f4,f6,f3,_⟩:∃g cap B,lv=TL (some (G8 g 0)) r.length cap/\0<=g/\w.heap[g]?=some (.cells B 93 (0,0))/\r.length<=cap/\cap<=maxLen/\True:=by
    rcases G.2 with⟨_,h0⟩|⟨g,cap,B,e,h1,h2,h3,h4,_⟩
    ·omega
    exact⟨g,cap,B,e,h1,h2,h3,h4,trivial⟩
   subst e;have m:∀i,i<r.length*3->w.cell? (G8 g i)=P[i]?:=λi hi=>World.ownsRow.cellAt (g:=g) (cap:=cap) G i (by omega);simp at c0;obtain⟨n,D⟩:=Nm r.length;rw[D]at f5 c0 f6 m hn;have s:=O.1;rw[D]at s;unfold maxLen at f3;have s1:=zdW (some (G8 g 0)) n cap k (by omega);have s2:∀W,(Instr.sliceAt 43 (TL (some (G8 g 0)) n cap) (some (R9 ((k:Int)+1))) none none).run prog W=.ok (.slice (if cap=k+1 then some (G8 g 0) else (some ((G8 g 0):Addr)).map λx=>x.add ((k+1)*3)) (n-(k+1)) (cap-(k+1))) W:=zdV (some (G8 g 0)) n cap (k+1) (by omega)
   obtain⟨ad,c6,R⟩:∃ad:Addr,(if cap=k+1 then some (G8 g 0) else (some ((G8 g 0):Addr)).map λx=>x.add ((k+1)*3))=some ad/\(∀(j:Nat) (u:Y),(P.drop ((k+1)*3))[j]?=some u->w.cell? (ad.add j)=some u):=by
    by_cases hc:cap=k+1
    ·refine⟨G8 g 0,by rw[zb hc],λj u p=>?_⟩
     have:=(zU.1 p).1
     rw[ve,s]at this;omega
    refine⟨⟨g,(k+1)*3,none⟩,by rw[za hc];simp[addr_add],λj u p=>?_⟩;have a5:=(zU.1 p).1;rw[ve,s]at a5;rw[Q6]at p;rw[addr_add,m _ (by omega)];exact p
   rw[c6]at s2
   have c5:∀(j:Nat) (u:Y),(P.take (k*3))[j]?=some u->w.cell? (((G8 g 0):Addr).add j)=some u:=λj u p=>by
    have a5:=(zU.1 p).1;rw[jg,s]at a5;rw[Qe]at p;split at p
    ·rw[addr_add,qV,m _ (by omega)];exact p
    cases p
   have X:∀u ∈ P,u.oneCell'=true:=by
    intro u p;obtain⟨j,f⟩:=Q8 p;have i4:=(zU.1 f).1;obtain⟨da,dn,dc,g1,g2,g3,_⟩:=O.2 (j / 3) _ (P7)
    rcases (by omega:j=j / 3*3\/j=j / 3*3+1\/j=j / 3*3+2) with e|e|e
    ·rw[e,g1]at f;injection f with f;rw[<- f];rfl
    ·rw[e,g2]at f;injection f with f;rw[<- f];rfl
    rw[e,g3]at f;injection f with f;rw[<- f];rfl
   have⟨HO,c1,d9,e3,b8,g9,HM⟩:=M8 h O c5 R X D hM;have e4:=G7 h.cell;obtain⟨vn,f8⟩:=Nm (n-(k+1));obtain⟨vc,c7⟩:=Nm (cap-(k+1));simp only[f8,c7]at s2;have l1:(P.take (k*3)).length=k*3:=by rw[jg,s];omega
   have l2:(P.drop ((k+1)*3)).length=vn*3:=by rw[ve,s];omega
   have b1:0+k<=maxLen:=by unfold maxLen;omega
   have b2:(0+k)*48<=140737488355328:=by omega
   have b3:k+vn<=maxLen:=by unfold maxLen;omega
   have b4:(k+vn)*48<=140737488355328:=by omega
   have q:(r.take k++r.drop (k+1)).length=k+vn:=by rw[qE,jg,ve,D];omega
   have V:∀b,w.heap.size<=b->b≠cb:=λb L=>by omega
   have⟨b5,e6⟩:=D5 q V;clear q V;have y6:IntKind.i64.wrap ((k:Int)+1)=(k:Int)+1:=by rw[VC];omega
   have y7:wrap64 ((k:Int)+1)=(k:Int)+1:=by unfold wrap64;omega
   clear cn cf h hF c5 R X D hM O G m f4 c6 s c7;go_enter func15,ntmps15
   go_upto_region 8 with(first
    |(go_at_call 38;apply CF.o.mono;rintro e w2⟨rfl,e2⟩;rw[e2];clear e2)
    |(go_at_call 36;apply CN.o.mono;rintro e w1⟨rfl,Q⟩;rw[Q];clear Q))
   clear CF CN;go_wp2_with (at_builtin;refine yh _ rfl _ _ 43 rfl w.heap.size 93 i1 (.agg #[R9 0,R5,R4]) 3 48 underlying43 hj c8 c9 d0 rfl (by decide) _ 0 [] rfl (qF _ _ _ _) (G8 g 0) k cap (P.take (k*3)) rfl l1 d9.o (λu p=>b8.o u (UT p)) ?_ ?_ ?_ ?_)
   ·exact b1
   ·exact b2
   ·exact ze _
   intro v1 w1 H v _;have b7:=G7 H;have K:G6 (BQ w w1):=(zf _ w).grown v F7 (λk hk=>by cases hk);have e0:=zi K.o c0;have d1:=K.o.size;clear H v;go_wp2_with (at_builtin;refine yh _ rfl _ _ 43 rfl w.heap.size 93 i1 (.agg #[R9 0,R5,R4]) 3 48 underlying43 hj c8 c9 d0 rfl (by decide) _ k (P.take (k*3)) rfl b7.o ad vn vc (P.drop ((k+1)*3)) rfl l2 (λj u p=>zi K.o (e3.o j u p)) (λu p=>b8.o u (aP p)) ?_ ?_ ?_ ?_)
   ·exact b3
   ·exact b4
   ·exact d1
   intro A w2 o y _;have b0:G6 (BQ w w2):=K.o.grown y d1 (λk hk=>(World.ownsRow.lt b7.o k hk).1);have t:=(b0.o.block cb f2).trans e4.o;have g0:=(zg t 0).1;have g1:=(zg t 0).2;simp at g0
   obtain⟨va,vl,j0,f7⟩:∃a n c,A=TL a n c:=by
    rcases o.2 with⟨e,_⟩|⟨g,cap,B,e,_⟩
    ·exact⟨_,_,_,e⟩
    exact⟨_,_,_,e⟩
   have z:=λb L=>World.ownsRow.lt o b L;have C:∀b,jW M A b->M b\/w.heap.size<=b:=λb L=>L.elim .inl (λe => .inr (z b e).1);have hT:zx (λb=>b=cb) w (w2.setCell (G8 cb 0) A):=(zx.of (M:=λb=>b=cb) b0.o).trans (zx.set (M:=λb=>b=cb) w2 rfl 0 A);have a6:A.ownBlock≠some cb:=λe=>e6.o cb (z cb e).1 rfl;have q:=b5.o;have a0:=xz o (a:=G8 cb 0) a6 A;have a1:=((c1.o.take k).app (c1.o.drop (k+1))).more C;have c4:zx (jW M A) w (w2.setCell (G8 cb 0) A):=hT.wide (λb _ e => .inl (by rw[e];exact HO.o.mine));have S:=yC w2 cb 0 _ _ A t
   have T:xM (jW M A) (w2.setCell (G8 cb 0) A) cb A (r.take k++r.drop (k+1)):=
    ⟨.inl HO.o.mine,S,⟨_,by rw[q];exact xS a0 I4,a1.turn c4⟩,λb L=>⟨.inr L,λe=>a6 (by rw[<- e];exact L)⟩⟩
   have⟨e5,HT,e8⟩:=M4 T hT C;have e7:=G7 (λb L=>(z b L).1);subst f7;clear T hT C z a6 q a0 a1 c4 S t o y;go_wp2_with fail;go_ret
   exact⟨0,_,_,rfl,HT.o,e8.o,e5.o,.inr e7.o,(λe=>absurd hpl e),(λ_ e=>by rw[HF.o]at e;cases e),λ_ k' N=>by
    rw[HF.o]at N;injection N with N
    subst N;exact⟨rfl,rfl⟩⟩
 obtain⟨E,hE⟩:=Nm (qN l name);have HE:=G7 hE;rw[hE]at cn;have I:=hpl;rw[hE]at I;have CN:=G7 cn;have d:(E==0)=false:=by simpa using I
 have d2:(E != 0)=true:=by simpa using I
 clear cn cf hE h hM;go_enter func15,ntmps15;go_wp2_with(go_at_call 36;apply CN.o.mono;rintro e w1⟨rfl,Q⟩;rw[Q];clear Q);go_ret;exact⟨E,lv,r,rfl,zx.refl _ _,b6.o,b9.o,.inl rfl,(λ_=>⟨HE.o.symm,rfl⟩),(λe=>absurd e hpl),λe=>absurd e hpl⟩
def gM(d:List zy)(l:Int)(name a:BY)(M:Nat->Prop)(cb:Nat)(i:Y)(w:J)(e:Ending)(w':J):Prop:=
 ∃(E:Int) (A:Nat) (h:Y) (c:List zy),e=.returned (.tuple #[.int .i64 E,.int .i64 (A:Int)])/\zx (λb=>b=cb\/i.ownBlock=some b) w w'/\(∀b,jW M h b->M b\/w.heap.size<=b)/\xM (jW M h) w' cb h c/\(∀g,h.ownBlock=some g->i.ownBlock=some g\/w.heap.size<=g) /\
  (qN l name≠0->E=qN l name/\A=0/\c=d) /\
  (qN l name=0->(Z.qC a).1≠0->E=(Z.qC a).1/\A=(Z.qC a).2/\c=d) /\
  (qN l name=0->(Z.qC a).1=0->∀k,d.findIdx? (isR l name)=some k->E=0/\A=0/\c=d.set k ⟨l,name,yo a⟩) /\
  (qN l name=0->(Z.qC a).1=0->d.findIdx? (isR l name)=none->∃f,VB d l f/\((4<=f.length/\E=10/\A=0/\c=d)\/(f.length<4/\E=0/\A=0/\c=d++[⟨l,name,yo a⟩])))
theorem xV.set{M:Nat->Prop}{W:J}{xs:List Y}{g:List zy}(h:xV M W xs g){k:Nat}(s:k<g.length){d:zy}{b:Option Addr}{f c:Nat}(r:vU M W (TL b f c) d.rs):xV M W (((xs.set (k*3) (R9 d.layer)).set (k*3+1) (S9 d.name)).set (k*3+2) (TL b f c)) (g.set k d):=by
 have t:=h.1;refine⟨by simp[t],λj x a=>?_⟩;rw[zu]at a
 by_cases e:k=j
 ·subst e;rw[zb rfl,zb s]at a;injection a with a
  subst a;refine⟨b,f,c,?_,?_,?_,r⟩
  ·rw[zu,N8,zu,N8,zu,zb rfl,N9]
  ·rw[zu,N8,zu,zb rfl,zb (by rw[ZL];omega)]
  rw[zu,zb rfl,zb (by rw[ZL,ZL];omega)]
 rw[za e]at a;obtain⟨i,m,l,n,o,p,q⟩:=h.2 j x a;refine⟨i,m,l,?_,?_,?_,q⟩
 ·rw[zu,N8,zu,N8,zu,N8];exact n
 ·rw[zu,N8,zu,N8,zu,N8];exact o
 rw[zu,N8,zu,N8,zu,N8];exact p
theorem zcu(cb:Nat)(lv:Y)(r:List zy)(l:Int)(name o:BY)(M:Nat->Prop)(w:J)(h:xM M w cb lv r)(hn:r.length<=1000000000)(hN:∀x ∈ r,x.name.size<=maxLen)(hs:name.size<=maxLen)(ht:o.size<=maxLen)(hM:∀b,M b->b<w.heap.size):R8 13 #[RG cb 0,R9 l,S9 name,S9 o] w (gM r l name o M cb lv w):=by
 obtain⟨i1,hj,l0,l1,l2⟩:=qU di;have cn:=mP l name w hs;have cd:=iX o w ht;have z:=G7 h
 by_cases hpl:qN l name=0
 ·rw[hpl]at cn;have CN:=G7 cn
  by_cases hd:(Z.qC o).1=0
  ·have i0:=ER o hd;rw[i0]at cd;obtain⟨R,hR⟩:=Nm (yo o);rw[hR]at cd;obtain⟨⟨c,q⟩,I⟩:∃x,Z.qC o=x:=⟨_,rfl⟩;rw[I]at cd;have k5:c=0:=by rw[I]at hd;exact hd
   subst k5;unfold fT at cd;simp only at cd;have⟨CD,HR,d7⟩:=M4 cd hR hd;have m6:cb<w.heap.size:=hM cb h.mine;clear cn cd i0 I hR hd;obtain⟨F,hF⟩:=Nm (r.findIdx? (isR l name))
   cases F with
   | some k=>
    have⟨HF,HM⟩:=D5 hF hM;have e7:k<r.length:=(VH.1 hF).1
    have cf:∀W,BQ w W->R8 38 #[RG cb 0,R9 l,S9 name] W λe w'=>e=.returned (.int .i64 (k:Int))/\w'=W:=λW G=>by
     have:=cu cb lv r l name M W (h.below G) (by unfold maxLen;omega)
     rw[lU hF]at this;exact this
    have CF:=G7 cf;clear cf hF h hM;go_enter func13,ntmps13
    go_upto_region 5 with(first
     |(go_at_call 37;apply CD.o.mono;rintro e s⟨dv,rfl,b1,b3⟩;have A:=G7 (b3 (by trivial));have u:=G7 b1;clear b1 b3)
     |(go_at_call 36;apply CN.o.mono;rintro e s⟨rfl,e1⟩;rw[e1];clear e1))
    obtain⟨N,P,rfl⟩:=A.o.slice;obtain⟨Q,a9⟩:=Nm R.length;rw[a9]at A |-;clear a9 CD CN;obtain⟨X,B⟩:=Nm (s.alloc (L8 #[R9 l,S9 name,TL N Q P] 93));have H:BQ s X:=by rw[<- B];exact nbl s _
    have V:=G7 (u.o.trans (H.mono u.o.size));have K:X.heap[s.heap.size]?=some (L8 #[R9 l,S9 name,TL N Q P] 93):=by rw[<- B];exact zA s _
    have c8:vU M X (TL N Q P) R:=vU.of (A.o.kept (λb _ hl=>H.block b hl)) (λb G=>xO (HM.o b G) F7);have a5:=G7 B;have a2:=G7 (CF.o s u.o);clear CF H B A;have f:=z.o.below V.o;obtain⟨xs,m,y⟩:=f.rows
    obtain⟨g,cap,a6,e,_,c1,_⟩:∃g cap a6,lv=TL (some (G8 g 0)) r.length cap/\0<=g/\X.heap[g]?=some (.cells a6 93 (0,0))/\True:=by
     rcases m.2 with⟨_,h0⟩|⟨g,cap,a6,e,h1,h2,_⟩
     ·omega
     exact⟨g,cap,a6,e,h1,h2,trivial⟩
    subst e;have c0:=(zg f.cell 0).1;simp at c0;have m0:=(zg K 0).1;have m1:=(zg K 1).1;have m2:=(zg K 2).1;simp at m0 m1 m2;obtain⟨ea,en,ec,g0,g1,g2,_⟩:=y.2 k _ (zn e7);have C:∀i,i<r.length*3->X.cell? (G8 g i)=xs[i]?:=λi hi=>World.ownsRow.cellAt (g:=g) (cap:=cap) m i (by omega);have q0:=(C (k*3) (by omega)).trans g0;have q1:=(C (k*3+1) (by omega)).trans g1;have q2:=(C (k*3+2) (by omega)).trans g2;have z0:=m.frozenAt (k*3);have z1:=m.frozenAt (k*3+1);have z2:=m.frozenAt (k*3+2);have g7:=f.own g rfl;have n6:=HM.o g g7.1;have h7:g≠s.heap.size:=by have:=u.o.size;omega
    have T:=g7.2;have s1:=(m.stored (k*3) (R9 l)).1;have s2:=(s1.stored (k*3+1) (S9 name)).1;have s3:=(s2.stored (k*3+2) (TL N Q P)).1;have b5:=((zx.set (M:=λb=>b=cb\/(Value.slice (some (G8 g 0)) r.length cap).ownBlock=some b) X (b:=g) (.inr rfl) (k*3) (R9 l)).trans (zx.set _ (b:=g) (.inr rfl) (k*3+1) (S9 name))).trans (zx.set _ (b:=g) (.inr rfl) (k*3+2) (TL N Q P));have d0:=y.set e7 (d:=⟨l,name,R⟩) c8
    have tM:=b5.wide (M':=M) (λb _ e=>by
     rcases e with e|e
     ·rw[e];exact f.mine
     exact(f.own b e).1)
    have g8:(((X.setCell (G8 g (k*3)) (R9 l)).setCell (G8 g (k*3+1)) (S9 name)).setCell (G8 g (k*3+2)) (TL N Q P)).heap[cb]?=some (L8 #[TL (some (G8 g 0)) r.length cap] 45):=
     (qy _ _ _ _ (vo T)).trans ((qy _ _ _ _ (vo T)).trans ((qy _ _ _ _ (vo T)).trans f.cell))
    have S:(r.set k ⟨l,name,R⟩).length=r.length:=ZL
    have c9:xM M (((X.setCell (G8 g (k*3)) (R9 l)).setCell (G8 g (k*3+1)) (S9 name)).setCell (G8 g (k*3+2)) (TL N Q P)) cb (TL (some (G8 g 0)) r.length cap) (r.set k ⟨l,name,R⟩):=
     ⟨f.mine,g8,⟨_,by rw[S];exact s3,d0.turn tM⟩,f.own⟩
    have d8:=G7 c9;have e4:=G7 ((zx.of (M:=λb=>b=cb\/(Value.slice (some (G8 g 0)) r.length cap).ownBlock=some b) V.o).trans b5);obtain⟨n,L⟩:=Nm r.length;rw[L]at c0 d8 e4 e7 hn;have a3:=G7 L;have k0:(0:Int)<=(k:Int):=qd _;have k1:(k:Int)<(n:Int):=by omega
    have o8:=vo h7;have o9:=vo T;have o4:¬((k:Int)<0):=by omega
    have o2:decide ((0:Int)<=(k:Int))=true:=by simp
    clear c9 g8 S d0 tM b5 s1 s2 s3 m y f C g0 g1 g2 c1 c8 K L
    go_upto_region 9 with(go_at_call 38;apply a2.o.mono;rintro e w3⟨rfl,e3⟩;rw[e3];clear e3)
    rw[a5.o];clear a2 a5
    go_upto_region 10 with fail
    go_region_held3 (λw'=>w'.cell? (G8 cb 0)=some (TL (some (G8 g 0)) n cap)/\w'.cell? (G8 s.heap.size 0)=some (R9 l)/\w'.cell? (G8 s.heap.size 1)=some (S9 name)/\w'.cell? (G8 s.heap.size 2)=some (TL N Q P)) (go_keep) (fail);have i9:=G7 (d8.o.below ((E9).drew));have j4:=G7 (e4.o.trans (zx.of ((E9).drew)));clear d8 e4;go_wp2_with fail;go_ret2
    exact⟨0,0,_,_,rfl,by rw[a3.o];exact j4.o,by rw[<- a3.o];exact z.o.sameM,i9.o.same,(λg hg => .inl (by rw[a3.o];exact hg)),(λe=>absurd hpl e),(λ_ e=>absurd d7.o e),(λ_ _ k' c2=>by
     rw[HF.o]at c2;injection c2 with c2
     subst c2;exact⟨rfl,rfl,by rw[HR.o]⟩),λ_ _ e=>by rw[HF.o]at e;cases e⟩
   | none=>
    have HF:=G7 hF;have HM:=G7 hM
    have cf:∀W,BQ w W->R8 38 #[RG cb 0,R9 l,S9 name] W λe w'=>e=.returned (.int .i64 (-1))/\w'=W:=λW G=>by
     have:=cu cb lv r l name M W (h.below G) (by unfold maxLen;omega)
     rw[lT hF]at this;exact this
    have ci:∀W,BQ w W->_:=λW G=>dh cb lv r l M W (h.below G) hn hN (λb k4=>xO (hM b k4) G.size);have⟨CF,CI⟩:=D5 cf ci;clear cf ci hF h hM;go_enter func13,ntmps13
    go_upto_region 5 with(first
     |(go_at_call 37;apply CD.o.mono;rintro e s⟨dv,rfl,b1,b3⟩;have A:=G7 (b3 (by trivial));have u:=G7 b1;clear b1 b3)
     |(go_at_call 36;apply CN.o.mono;rintro e s⟨rfl,e1⟩;rw[e1];clear e1))
    obtain⟨N,P,rfl⟩:=A.o.slice;obtain⟨Q,a9⟩:=Nm R.length;rw[a9]at A |-;clear a9 CD CN;obtain⟨X,B⟩:=Nm (s.alloc (L8 #[R9 l,S9 name,TL N Q P] 93));have H:BQ s X:=by rw[<- B];exact nbl s _
    have V:=G7 (u.o.trans (H.mono u.o.size));have K:X.heap[s.heap.size]?=some (L8 #[R9 l,S9 name,TL N Q P] 93):=by rw[<- B];exact zA s _
    have d9:=G7 K;have f6:=G7 (vU.of (A.o.kept (λb _ hl=>H.block b hl)) (λb G=>xO (HM.o b G) F7):vU M X (TL N Q P) R);have a5:=G7 B;have a2:=G7 (CF.o s u.o);clear CF H K B A
    go_upto_region 9 with(go_at_call 38;apply a2.o.mono;rintro e w3⟨rfl,e3⟩;rw[e3];clear e3)
    rw[a5.o];have f5:=G7 (CI.o X V.o);clear CI a2 a5
    go_upto_if 52 with(go_at_call 39;apply f5.o.mono;rintro e w4⟨ov,ys,f1,rfl,h3,v,i3,b4⟩;have f8:=G7 h3;obtain⟨oa,oc,k9,_⟩:=fA v i3;have a1:=G7 (V.o.trans (b4.mono V.o.size));have c4:=G7 b4;subst k9;clear h3 v i3 b4)
    obtain⟨ol,e8⟩:=Nm f1.length;rw[e8];have f9:=G7 e8;clear e8 f5
    by_cases h4:4<=ol
    ·have d4:decide ((4:Int)<=(ol:Int))=true:=by simp;omega
     rw[d4];go_wp2_with fail;go_ret2;exact⟨10,0,lv,r,rfl,zx.of a1.o,z.o.sameM,(z.o.below a1.o).same,(λg hg => .inl hg),(λe=>absurd hpl e),(λ_ e=>absurd d7.o e),(λ_ _ k hk=>by rw[HF.o]at hk;cases hk),λ_ _ _=>⟨f1,f8.o,.inl ⟨by rw[f9.o];exact h4,rfl,rfl,rfl⟩⟩⟩
    have d4:decide ((4:Int)<=(ol:Int))=false:=by simp;omega
    rw[d4];have f:=z.o.below a1.o;obtain⟨xs,m,y⟩:=f.rows
    obtain⟨la,lc,h5⟩:∃a c,lv=TL a r.length c:=by
     rcases m.2 with⟨e,h0⟩|⟨g,cap,a6,e,_⟩
     ·exact⟨none,0,by rw[h0];exact e⟩
     exact⟨_,_,e⟩
    have c0:=(zg f.cell 0).1;have f0:=(zg f.cell 0).2;have c3:=(c4.o.block s.heap.size (zt d9.o)).trans d9.o;have k0:=(zg c3 0).1;have k1:=(zg c3 1).1;have k2:=(zg c3 2).1;simp at c0 k0 k1 k2;have v:=f.own;have c7:cb<w4.heap.size:=zt f.cell;obtain⟨n,L⟩:=Nm r.length;rw[L]at h5 m hn;subst h5;have nb:(Value.slice la n lc).ownBlock≠some cb:=λe=>(v cb e).2 rfl;have j7:=λO:Obj=>zi (nbl w4 O) c0;have j8:=λO:Obj=>((nbl w4 O).frozen (p:=G8 cb 0) c7).trans f0;have e0:=G7 f;have j5:=G7 (y.app (xV.one (x:=⟨l,name,R⟩) (f6.o.turn (zx.of c4.o))));have⟨a3,a4⟩:=D5 L v;have n5:=a1.o.size;clear f y v L c3 d9 f6
    go_upto_region 14 with fail
    go_cut [] (λwc=>∃D cap,zx (λb=>b=cb\/(Value.slice la n lc).ownBlock=some b) w wc/\(∀b,jW M (TL (some (G8 D 0)) (n+1) cap) b->M b\/w.heap.size<=b)/\xM (jW M (TL (some (G8 D 0)) (n+1) cap)) wc cb (TL (some (G8 D 0)) (n+1) cap) (r++[⟨l,name,R⟩])/\((Value.slice la n lc).ownBlock=some D\/w.heap.size<=D))
    case first=>
     go_region_law ((refine eY _ (by rfl) _ _ _ (by rfl) 0 93 i1 _ 3 48 underlying43 hj l0 l1 l2 rfl (by omega) (TL la n lc) n xs (by rfl) ((m.alloc _).drew) (G8 w4.heap.size 0) 1 1 [R9 l,S9 name,TL N Q P] (by rfl) (by rfl) (gU (cs:=#[R9 l,S9 name,TL N Q P]) (t:=93) (fr:=(0,0)) (zA w4 _)) (by simp[Value.oneCell']) (by omega) (by unfold maxLen;omega) (by omega) (by simp) (w4.heap.size+1) (by simp) ?_;intro D cap w5 e9 j a8 m7;have o3:w5.cell? (G8 cb 0)=some (TL la n lc):=(j.cell_far _ (by simp;omega) (vo nb)).trans (by simp[j7]);have n4:w5.frozen? (G8 cb 0)=false:=(j.frozen_far _ (by simp;omega) (vo nb)).trans (by simp[j8])))
     all_goals
      go_wp2_with fail
      go_meet
      case rel=>
       have g9:w5.heap[cb]?=some (L8 #[TL la n lc] 45):=(j.block cb (by simp;omega) (vo nb)).trans (((nbl w4 _).block cb c7).trans e0.o.cell)
       have c1:D≠cb:=by
        rcases a8 with e|e
        ·exact(a4.o D e).2
        omega
       have b0:∀b,jW M (TL (some (G8 D 0)) (n+1) cap) b->M b\/w4.heap.size<=b:=λb G=>G.elim .inl (λe=>by
        have e2:D=b:=by simpa [Value.ownBlock] using e
        subst e2
        rcases a8 with e|e
        ·exact .inl (a4.o D e).1
        exact .inr (by omega))
       have t45:zx (λb=>b=cb\/(Value.slice la n lc).ownBlock=some b) w4 w5:=
        (zx.of ((nbl w4 _).drew)).trans ⟨j.os,j.tape,j.output,j.size,λk hk k8=>j.block k hk (λe=>k8 (.inr e.symm))⟩
       have i4:=t45.trans (zx.set (M:=λb=>b=cb\/(Value.slice la n lc).ownBlock=some b) w5 (.inl rfl) 0 (TL (some (G8 D 0)) (n+1) cap))
       have tM:zx (jW M (TL (some (G8 D 0)) (n+1) cap)) w4 _:=i4.wide (λk _ e => .inl (by
        rcases e with e|e
        ·rw[e];exact e0.o.mine
        exact(a4.o k e).1))
       have S:(r++[(⟨l,name,R⟩:zy)]).length=n+1:=by rw[qE,a3.o];rfl
       refine⟨D,cap,(zx.of a1.o).trans i4,λb G=>(b0 b G).imp id (λe=>by omega),⟨.inl e0.o.mine,yC w5 cb 0 _ _ _ g9,⟨_,by rw[S];exact xz e9 (a:=G8 cb 0) (by simp only[Value.ownBlock];intro e;injection e with e;exact c1 e) _,(j5.o.more b0).turn tM⟩,λb G=>?_⟩,a8.imp id (λe=>by omega)⟩
       have e2:D=b:=by simpa [Value.ownBlock] using G
       subst e2;exact⟨.inr G,c1⟩
    case rest=>
     obtain⟨D,cap,i2,h6,h9,h8⟩:=hcut;have⟨j1,j3,j0,j2⟩:=M5 h8 i2 h6 h9;clear i2 h6 h9 h8;go_wp2_with fail;go_ret2
     exact⟨0,0,_,_,rfl,j3.o,j0.o,j2.o,(λg hg=>by
      have e2:D=g:=by simpa [Value.ownBlock] using hg
      subst e2;exact j1.o),(λe=>absurd hpl e),(λ_ e=>absurd d7.o e),(λ_ _ k hk=>by rw[HF.o]at hk;cases hk),λ_ _ _=>⟨f1,f8.o,.inr ⟨by rw[f9.o];omega,rfl,rfl,by rw[HR.o]⟩⟩⟩
  have b8:=hd;obtain⟨⟨c,q⟩,I⟩:∃x,Z.qC o=x:=⟨_,rfl⟩;have i8:=G7 I;rw[I]at cd b8;unfold fT at cd;simp only at cd b8;have CD:=G7 cd;have d:(c==0)=false:=by simpa using b8
  have d2:(c != 0)=true:=by simpa using b8
  clear cn cd I h hM hN;go_enter func13,ntmps13
  go_wp2_with(first
   |(go_at_call 37;apply CD.o.mono;rintro e s⟨dv,rfl,b1,_⟩;have u:=G7 b1;clear b1)
   |(go_at_call 36;apply CN.o.mono;rintro e s⟨rfl,e1⟩;rw[e1];clear e1))
  go_ret2;exact⟨c,q,lv,r,rfl,zx.of u.o,z.o.sameM,(z.o.below u.o).same,(λg hg => .inl hg),(λe=>absurd hpl e),(λ_ _=>by rw[i8.o];exact⟨rfl,rfl,rfl⟩),(λ_ e=>absurd e hd),λ_ e=>absurd e hd⟩
 obtain⟨E,hE⟩:=Nm (qN l name);have HE:=G7 hE;rw[hE]at cn;have b2:=hpl;rw[hE]at b2;have CN:=G7 cn;have d:(E==0)=false:=by simpa using b2
 have d2:(E != 0)=true:=by simpa using b2
 clear cn cd hE h hM hN;go_enter func13,ntmps13;go_wp2_with(go_at_call 36;apply CN.o.mono;rintro e s⟨rfl,e1⟩;rw[e1];clear e1);go_ret2;exact⟨E,0,lv,r,rfl,zx.refl _ _,z.o.sameM,z.o.same,(λg hg => .inl hg),(λ_=>⟨HE.o.symm,rfl,rfl⟩),(λe=>absurd e hpl),(λe=>absurd e hpl),λe=>absurd e hpl⟩
theorem ne_of_lt{a b:BY}(h:qI a b<0):a≠b:=λe=>by rw[e,Ji]at h;omega
theorem zcp{L:List zH}(h:vv L){k:Nat}{y:zH}(b:L[k]?=some y):qQ L y.1=k:=by
 have d:k<L.length:=(zU.1 b).1;refine pq (ltN y.1) L k (JW d) (λj x c a=>?_) (λj x c a=>?_)
 ·unfold ltN;rw[vJ];exact h.at c a b
 unfold ltN;rw[iU]
 by_cases e:j=k
 ·subst e;rw[b]at a;injection a with a
  rw[<- a,Ji];omega
 have:=h.at (show k<j by omega) b a
 rw[iN]at this;omega
theorem lM{L:List zH}(h:vv L){y:zH}(c:y ∈ L):zq L y.1=true/\L[qQ L y.1]?=some y:=by
 obtain⟨k,a⟩:=Q8 c;have b:=zcp h a;unfold zq;rw[b,a];exact⟨by simp[Ji],rfl⟩
theorem CJ{L:List zH}{name:BY}(h:zq L name=true):∃e,(name,e) ∈ L/\L[qQ L name]?=some (name,e):=by
 unfold zq at h;split at h
 ·rename_i x c;have d:x.1=name:=iO (by simpa using h);obtain⟨a,b⟩:=x;simp only at d;subst d;exact⟨b,xC c,c⟩
 cases h
theorem zdZ{L:List zH}{p:Nat}{x:zH}(h:L[p]?=some x):L=L.take p++x::L.drop (p+1):=by
 obtain⟨a,rfl⟩:=zU.1 h;rw[<- jD a,VK]
theorem CU{L:List zH}(h:vv L){name:BY}{y:zH}:(y ∈ L.take (qQ L name)++L.drop (if zq L name then qQ L name+1 else qQ L name))↔y ∈ L/\y.1≠name:=by
 cases hh:zq L name with
 | true=>
  obtain⟨g,f,b⟩:=CJ hh;have d:=zdZ b;rw[zb rfl]
  constructor
  ·intro a
   rcases vg.1 a with a|a
   ·exact⟨UT a,ne_of_lt (gV a)⟩
   exact⟨aP a,vo (ne_of_lt (il h (by rw[hh,zb rfl];exact a)))⟩
  ·rintro⟨a,c⟩;rw[d]at a
   rcases vg.1 a with a|a
   ·exact aN _ a
   ·rcases Zt.1 a with rfl|a
    ·exact absurd rfl c
    ·exact rD _ a
 | false=>
  simp only[yu,xX];rw[VK];refine⟨λa=>⟨a,λe=>?_⟩,λa=>a.1⟩
  have:=(lM h a).1
  rw[e,hh]at this
  cases this
theorem CZ{L:List zH}(h:vv L){name:BY}{b:List zS}{y:zH}:y ∈ Zo L name b↔y=(name,b)\/(y ∈ L/\y.1≠name):=by
 rw[<- CU h];unfold Zo;simp only[vg,yx]
 constructor
 ·rintro ((a|a)|a)
  ·exact .inr (.inl a)
  ·exact .inl a
  exact .inr (.inr a)
 rintro (a|a|a)
 ·exact .inl (.inr a)
 ·exact .inl (.inl a)
 exact .inr a
theorem zaZ{L:List zH}(h:vv L){name:BY}(a:zq L name=true){y:zH}:y ∈ Qp L (qQ L name)↔y ∈ L/\y.1≠name:=by
 rw[<- CU h,a,zb rfl]
 rfl
theorem FN:∀(A B:List zH),vv A->vv B->(∀y,y ∈ A↔y ∈ B)->A=B
 | [],[],_,_,_=>rfl
 | [],b::B,_,_,h=>by have:=(h b).2 (by simp);simp at this
 | a::A,[],_,_,h=>by have:=(h a).1 (by simp);simp at this
 | a::A,b::B,hA,hB,h=>by
  have c:=rF.1 hA;have d:=rF.1 hB
  have e:a=b:=by
   have g:=(h a).1 (by simp);have i:=(h b).2 (by simp)
   rcases Zt.1 g with e|g
   ·exact e
   rcases Zt.1 i with e|i
   ·exact e.symm
   have p:=c.1 b i;have q:=d.1 a g
   have:=Kc p q
   rw[Ji]at this;omega
  subst e
  have k:=FN A B c.2 d.2 (λy=>by
   have j:=h y
   constructor
   ·intro f
    rcases Zt.1 (j.1 (by simp[f])) with e|e
    ·subst e
     have:=c.1 _ f
     rw[Ji]at this;omega
    exact e
   intro f
   rcases Zt.1 (j.2 (by simp[f])) with e|e
   ·subst e
    have:=d.1 _ f
    rw[Ji]at this;omega
   exact e)
  rw[k]
def Xi(x:zy):zH:=(x.name,x.rs.map vQ)
structure Agree (st:StO) (ks:List zy):Prop where
 sorted:∀i,i<4->vv (st i)
 mem:∀i,i<4->∀y,y ∈ st i↔∃x ∈ ks,x.layer=(i:Int)/\y=Xi x
 keys:ks.Pairwise λx y=>¬(x.layer=y.layer/\x.name=y.name)
 lay:∀x ∈ ks,∃i:Nat,i<4/\x.layer=(i:Int)
 ok:∀x ∈ ks,U.ql x.name=true/\x.rs.length<=10/\(∀r ∈ x.rs,U.ZP r)/\Xj (x.rs.map vQ)=U.QU x.rs
theorem Agree.start:Agree Xl []:=
 ⟨λ_ _=>fV,λi _ y=>by simp[Xl],fV,λx a=>by simp at a,λx a=>by simp at a⟩
theorem BG{l:Int}{name:BY}{x:zy}:isR l name x=true↔x.layer=l/\x.name=name:=by
 unfold isR;rw[jX,vC,vC]
 constructor
 ·rintro⟨b,a⟩;refine⟨b,?_⟩;rw[ko,ko]at a;exact XJ (Y3.1 a)
 rintro⟨b,a⟩;exact⟨b,by rw[a]⟩
theorem Ko{a:List zy}{l:Int}{name:BY}{k:Nat}(h:a.findIdx? (isR l name)=some k):∃x,a[k]?=some x/\x.layer=l/\x.name=name:=by
 obtain⟨b,c,_⟩:=VH.1 h;exact⟨_,zn b,BG.1 c⟩
theorem Bf{a:List zy}{l:Int}{name:BY}(h:a.findIdx? (isR l name)=none):∀x ∈ a,¬(x.layer=l/\x.name=name):=by
 intro x b e
 have:=gu.1 h x b
 rw[BG.2 e]at this
 cases this
theorem Agree.has{g:StO}{f:List zy}(h:Agree g f){i:Nat}(a:i<4){name:BY}:zq (g i) name=true↔∃k,f.findIdx? (isR (i:Int) name)=some k:=by
 constructor
 ·intro l;obtain⟨n,c,_⟩:=CJ l;obtain⟨x,e,b,j⟩:=(h.mem i a _).1 c
  cases hf:f.findIdx? (isR (i:Int) name) with
  | some k=>exact⟨k,rfl⟩
  | none=>
   have d:x.name=name:=by
    have:=congrArg Prod.fst j
    exact this.symm
   exact absurd ⟨b,d⟩ (Bf hf x e)
 rintro⟨k,m⟩;obtain⟨x,e,b,d⟩:=Ko m;have c:Xi x ∈ g i:=(h.mem i a _).2 ⟨x,xC e,b,rfl⟩
 have:=(lM (h.sorted i a) c).1
 rw[show (Xi x).1=x.name from rfl,d]at this
 exact this
theorem Agree.shown{c:StO}{e:List zy}(h:Agree c e){i:Nat}(f:i<4){name:BY}{k:Nat}{x:zy}(g:e.findIdx? (isR (i:Int) name)=some k)(d:e[k]?=some x):Xj (Vb c (i:Int) name)=U.QU x.rs:=by
 obtain⟨n,a,j,m⟩:=Ko g;rw[d]at a;injection a with a
 subst a;have l:Xi x ∈ c i:=(h.mem i f _).2 ⟨x,xC d,j,rfl⟩;have b:=(lM (h.sorted i f) l).2;rw[show (Xi x).1=x.name from rfl,m]at b
 have:Vb c (i:Int) name=x.rs.map vQ:=by
  unfold Vb;simp only[yE];rw[b]
  rfl
 rw[this];exact(h.ok x (xC d)).2.2.2
theorem Ky{c:List zy}(h:c.Pairwise λx y=>¬(x.layer=y.layer/\x.name=y.name)){a b:Nat}{x y:zy}(j:c[a]?=some x)(k:c[b]?=some y)(g:x.layer=y.layer)(i:x.name=y.name):a=b:=by
 obtain⟨d,rfl⟩:=zU.1 j;obtain⟨f,rfl⟩:=zU.1 k
 rcases Nat.lt_trichotomy a b with e|e|e
 ·exact absurd ⟨g,i⟩ (aQ.1 h a b d f e)
 ·exact e
 exact absurd ⟨g.symm,i.symm⟩ (aQ.1 h b a f d e)
theorem Agree.layer{t:StO}{q:List zy}(h:Agree t q){i:Nat}(s:i<4){out:List zy}(A:VB q (i:Int) out):t i=out.map Xi:=by
 obtain⟨D,u,r,v,rfl⟩:=A
 have d:∀p ∈ D,∃x,q[p]?=some x/\x.layer=(i:Int):=by
  intro p j;obtain⟨k,l⟩:=(r p).1 j;refine⟨_,zn k,?_⟩;rw[mr (zn k)]at l
  simpa using l
 refine FN _ _ (h.sorted i s) ?_ (λy=>?_)
 ·show List.Pairwise _ _;unfold QT;rw[List.pairwise_map,List.pairwise_filterMap];refine List.Pairwise.imp_of_mem (λ{a b} w z m=>?_) (u.and v);intro x g y l;obtain⟨o,n⟩:=m;rw[dM g,dM l]at n;have F:=wG y.name x.name;show qI x.name y.name<0;rw[iN]
  have G:qI y.name x.name≠0:=λe=>by
   obtain⟨E,c,B⟩:=d a w;obtain⟨H,f,C⟩:=d b z;rw[g]at c;injection c with c;subst c
   rw[l]at f;injection f with f;subst f
   exact o (Ky h.keys g l (B.trans C.symm) (iO e).symm)
  omega
 rw[h.mem i s];unfold QT;simp only[xI,List.mem_filterMap]
 constructor
 ·rintro⟨x,g,k,rfl⟩;obtain⟨p,j⟩:=Q8 g;refine⟨x,⟨p,(r p).2 ⟨(zU.1 j).1,by rw[mr j];simpa using k⟩,j⟩,rfl⟩
 rintro⟨x,⟨p,j,g⟩,rfl⟩;obtain⟨E,c,k⟩:=d p j;rw[g]at c;injection c with c;subst c
 exact⟨x,xC g,k,rfl⟩
theorem Vk{c:List zy}{k:Nat}(f:k<c.length){d x:zy}:x ∈ c.set k d↔x=d\/∃j,j≠k/\c[j]?=some x:=by
 constructor
 ·intro g;obtain⟨j,a⟩:=Q8 g;rw[zu]at a
  by_cases e:k=j
  ·rw[zb e,zb f]at a;injection a with a
   exact .inl a.symm
  rw[za e]at a;exact .inr ⟨j,λx=>e x.symm,a⟩
 rintro (rfl|⟨j,b,a⟩)
 ·exact xC (i:=k) (by rw[zu,zb rfl,zb f])
 exact xC (i:=j) (by rw[zu,za (λe=>b e.symm)];exact a)
theorem mem_erase_iff{a:List zy}{k:Nat}{x:zy}:x ∈ a.take k++a.drop (k+1)↔∃j,j≠k/\a[j]?=some x:=by
 rw[<- ru];rw[List.mem_eraseIdx_iff_getElem?]
theorem Dq(a:BY)(d:(Z.qC a).1=0):(yo a).length<=10/\(∀r ∈ yo a,U.ZP r)/\Xj ((yo a).map vQ)=U.QU (yo a)/\jK a=(yo a).map vQ:=by
 obtain⟨c,e,f⟩:=eZ a d;exact⟨e,λr b=>(c r b).2,(Ey _ (λr b=>(c r b).1)).symm,f⟩
theorem Agree.set{A:StO}{s:List zy}(h:Agree A s){i:Nat}(B:i<4){name f:BY}(F:U.ql name=true)(D:(Z.qC f).1=0){k:Nat}(E:s.findIdx? (isR (i:Int) name)=some k):Agree (upd A i (Zo (A i) name (jK f))) (s.set k ⟨i,name,yo f⟩):=by
 obtain⟨H,I,K,C⟩:=Dq f D;obtain⟨L,g,n,o⟩:=Ko E;have c:k<s.length:=(zU.1 g).1;refine⟨λj q=>?_,λj q y=>?_,?_,λx l=>?_,λx l=>?_⟩
 ·unfold upd;split
  ·exact(h.sorted i B).with name _
  exact h.sorted j q
 ·unfold upd
  by_cases e:j=i
  ·subst e;rw[zb rfl,CZ (h.sorted j q)]
   constructor
   ·rintro (rfl|⟨G,z⟩)
    ·exact⟨_,(Vk c).2 (.inl rfl),rfl,by unfold Xi;rw[C]⟩
    obtain⟨x,l,m,rfl⟩:=(h.mem j q _).1 G;obtain⟨p,d⟩:=Q8 l;refine⟨x,(Vk c).2 (.inr ⟨p,λe=>?_,d⟩),m,rfl⟩;subst e;rw[g]at d;injection d with d
    subst d;exact z o
   rintro⟨x,l,m,rfl⟩
   rcases (Vk c).1 l with rfl|⟨p,d,hpx⟩
   ·exact .inl (by unfold Xi;rw[C])
   refine .inr ⟨(h.mem j q _).2 ⟨x,xC hpx,m,rfl⟩,λe=>d ?_⟩;exact Ky h.keys hpx g (m.trans n.symm) (e.trans o.symm)
  rw[za e,h.mem j q]
  constructor
  ·rintro⟨x,l,m,rfl⟩;obtain⟨p,d⟩:=Q8 l;refine⟨x,(Vk c).2 (.inr ⟨p,λr=>?_,d⟩),m,rfl⟩;subst r;rw[g]at d;injection d with d
   subst d;rw[n]at m;omega
  rintro⟨x,l,m,rfl⟩
  rcases (Vk c).1 l with rfl|⟨p,d,hpx⟩
  ·simp only at m;omega
  exact⟨x,xC hpx,m,rfl⟩
 ·rw[aQ];intro a b u w v;rw[ZL]at u w;rw[List.getElem_set,List.getElem_set]
  by_cases ea:k=a
  ·subst ea;rw[zb rfl,N8];rintro⟨t,r⟩
   have:=Ky h.keys g (zn w) (n.trans t) (o.trans r)
   omega
  rw[za ea]
  by_cases eb:k=b
  ·subst eb;rw[zb rfl];rintro⟨t,r⟩
   have:=Ky h.keys (zn u) g (t.trans n.symm) (r.trans o.symm)
   omega
  rw[za eb];exact aQ.1 h.keys a b u w v
 ·rcases (Vk c).1 l with rfl|⟨p,_,hpx⟩
  ·exact⟨i,B,rfl⟩
  exact h.lay x (xC hpx)
 rcases (Vk c).1 l with rfl|⟨p,_,hpx⟩
 ·exact⟨F,H,I,K⟩
 exact h.ok x (xC hpx)
theorem Agree.add{l:StO}{k:List zy}(h:Agree l k){i:Nat}(m:i<4){name b:BY}(q:U.ql name=true)(o:(Z.qC b).1=0)(p:k.findIdx? (isR (i:Int) name)=none):Agree (upd l i (Zo (l i) name (jK b))) (k++[⟨i,name,yo b⟩]):=by
 obtain⟨s,t,u,n⟩:=Dq b o;have f:=Bf p;refine⟨λj d=>?_,λj d y=>?_,?_,λx a=>?_,λx a=>?_⟩
 ·unfold upd;split
  ·exact(h.sorted i m).with name _
  exact h.sorted j d
 ·unfold upd
  by_cases e:j=i
  ·subst e;rw[zb rfl,CZ (h.sorted j d)]
   constructor
   ·rintro (rfl|⟨g,r⟩)
    ·exact⟨⟨(j:Int),name,yo b⟩,rD _ (by simp),rfl,by unfold Xi;rw[n]⟩
    obtain⟨x,a,c,rfl⟩:=(h.mem j d _).1 g;exact⟨x,aN _ a,c,rfl⟩
   rintro⟨x,a,c,rfl⟩
   rcases vg.1 a with a|a
   ·exact .inr ⟨(h.mem j d _).2 ⟨x,a,c,rfl⟩,λe=>f x a ⟨c,e⟩⟩
   rw[yx]at a;subst a;exact .inl (by unfold Xi;rw[n])
  rw[za e,h.mem j d]
  constructor
  ·rintro⟨x,a,c,rfl⟩;exact⟨x,aN _ a,c,rfl⟩
  rintro⟨x,a,c,rfl⟩
  rcases vg.1 a with a|a
  ·exact⟨x,a,c,rfl⟩
  rw[yx]at a;subst a;simp only at c;omega
 ·rw[rE];refine⟨h.keys,by simp,λx a y g=>?_⟩;rw[yx]at g;subst g;exact f x a
 ·rcases vg.1 a with a|a
  ·exact h.lay x a
  rw[yx]at a;subst a;exact⟨i,m,rfl⟩
 rcases vg.1 a with a|a
 ·exact h.ok x a
 rw[yx]at a;subst a;exact⟨q,s,t,u⟩
theorem Agree.less{n:StO}{o:List zy}(h:Agree n o){i:Nat}(r:i<4){name:BY}{k:Nat}(s:o.findIdx? (isR (i:Int) name)=some k):Agree (upd n i (Qp (n i) (qQ (n i) name))) (o.take k++o.drop (k+1)):=by
 obtain⟨w,f,l,m⟩:=Ko s;have u:zq (n i) name=true:=(h.has r).2 ⟨k,s⟩;refine⟨λj g=>?_,λj g y=>?_,?_,λx c=>?_,λx c=>?_⟩
 ·unfold upd;split
  ·exact(h.sorted i r).less _
  exact h.sorted j g
 ·unfold upd
  by_cases e:j=i
  ·subst e;rw[zb rfl,zaZ (h.sorted j g) u]
   constructor
   ·rintro⟨v,q⟩;obtain⟨x,c,d,rfl⟩:=(h.mem j g _).1 v;obtain⟨p,b⟩:=Q8 c;refine⟨x,mem_erase_iff.2 ⟨p,λe=>?_,b⟩,d,rfl⟩;subst e;rw[f]at b;injection b with b
    subst b;exact q m
   rintro⟨x,c,d,rfl⟩;obtain⟨p,b,a⟩:=mem_erase_iff.1 c;exact⟨(h.mem j g _).2 ⟨x,xC a,d,rfl⟩,λe=>b (Ky h.keys a f (d.trans l.symm) (e.trans m.symm))⟩
  rw[za e,h.mem j g]
  constructor
  ·rintro⟨x,c,d,rfl⟩;obtain⟨p,b⟩:=Q8 c;refine⟨x,mem_erase_iff.2 ⟨p,λt=>?_,b⟩,d,rfl⟩;subst t;rw[f]at b;injection b with b
   subst b;rw[l]at d;omega
  rintro⟨x,c,d,rfl⟩;obtain⟨p,b,a⟩:=mem_erase_iff.1 c;exact⟨x,xC a,d,rfl⟩
 ·rw[<- ru];exact h.keys.sublist (List.eraseIdx_sublist _ _)
 ·obtain⟨p,_,a⟩:=mem_erase_iff.1 c;exact h.lay x (xC a)
 obtain⟨p,_,a⟩:=mem_erase_iff.1 c;exact h.ok x (xC a)
theorem Agree.few{b:StO}{f:List zy}(h:Agree b f)(d:∀i,i<4->(b i).length<=4):f.length<=16:=by
 have g:(f.map λx=>(x.layer,x.name)).Nodup:=by
  rw[List.nodup_iff_pairwise_ne,List.pairwise_map];refine h.keys.imp (λj e=>j ?_);injection e with e1 e2
  exact⟨e1,e2⟩
 have c:(f.map λx=>(x.layer,x.name)) ⊆ ((b 0).map λy=>((0:Int),y.1))++((b 1).map λy=>((1:Int),y.1))++((b 2).map λy=>((2:Int),y.1))++((b 3).map λy=>((3:Int),y.1)):=by
  intro z o;obtain⟨x,m,rfl⟩:=xI.1 o;obtain⟨i,k,l⟩:=h.lay x m;have n:=(h.mem i k _).2 ⟨x,m,l,rfl⟩;have a:(x.layer,x.name) ∈ (b i).map λy=>((i:Int),y.1):=xI.2 ⟨_,n,by rw[l];rfl⟩;simp only[vg]
  rcases lt4 k with rfl|rfl|rfl|rfl
  ·exact .inl (.inl (.inl a))
  ·exact .inl (.inl (.inr a))
  ·exact .inl (.inr a)
  exact .inr a
 have:=g.length_le_of_subset c
 simp only[qf,qE]at this;have p:=d 0 (by omega);have q:=d 1 (by omega);have r:=d 2 (by omega);have s:=d 3 (by omega);omega
end Go.Proofs.YtfjpcldndaiifaaGreatDoor
