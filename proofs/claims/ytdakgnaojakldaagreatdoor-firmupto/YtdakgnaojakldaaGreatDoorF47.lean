/- P -/
import Derived.Test.YtdakgnaojakldaaGreatDoorF46
open Go.Proofs.Tryz
set_option maxRecDepth 100000
set_option maxHeartbeats 4000000
namespace Go.Proofs.YtdakgnaojakldaaGreatDoor
open Go.RowKit
theorem DJ{α:Type}(l:List α)(d:α)(p:α->Bool):zn (λj=>p (l.getD j d)) l.length=l.findIdx? p:=by
 have c:∀j,(h:j<l.length)->l.getD j d=l[j]:=λj h=>by rw[List.getD_eq_getElem?_getD,List.getElem?_eq_getElem h];rfl
 cases h:l.findIdx? p with
 | none=>
  have b:=List.findIdx?_eq_none_iff.1 h;exact kX _ _ (λj a=>by show p (l.getD j d)=false;rw[c j a];exact b _ (List.getElem_mem a))
 | some k=>
  obtain⟨e,f,b⟩:=List.findIdx?_eq_some_iff_getElem.1 h;exact kW _ _ k e (λj a=>by show p (l.getD j d)=false;rw[c j (by omega)];simpa using b j a) (by show p (l.getD k d)=true;rw[c k e];exact f)
theorem BD(s:zA)(g h i j:Value)(eff:BA)(r:Ref.Req)(ao:Option Addr)(cap o p:Nat)(w:World)(a:QT w g h i j s)(v:XC s)(x:XA s)(y:∀c ∈ s.ifs,c.vals.length<=1000)(d:qL w ao r.marks)(f:Ref.xP r=true)(u:qP w)
  (q:w.cell? ⟨o,0,none⟩=some (.string eff))(G:Z6 w p r ao cap) :
  Calls prog 226 #[.agg #[.string s.eff,.bool s.who.1,g,.bool s.act.1,h,.bool s.on.1,i,j],.pointer (some ⟨o,0,none⟩),.pointer (some ⟨p,0,none⟩)] w λe H=>e = .returned (.bool (De.yO eff r s))/\Below w.heap.size w H:=by
 have b0:=λO:Obj=>nB w O;have b:=λO:Obj=>sO s g h i j r ao cap (w.alloc O) (a.below (b0 O)) v x y (vw d (b0 O)) f (u.below (b0 O));have Q:=λO:Obj=>zb (b0 O) q;obtain⟨q2,z,B,C⟩:=G;have k:=λO:Obj=>zb (b0 O) q2;have l:=λO:Obj=>zb (b0 O) z;have m:=λO:Obj=>zb (b0 O) B;have n:=λO:Obj=>zb (b0 O) C;obtain⟨I,V,rfl,_⟩:=a.who;obtain⟨J,W,rfl,_⟩:=a.act;obtain⟨K,X,rfl,_⟩:=a.on;obtain⟨L,Y,rfl,_⟩:=a.ifs;unfold De.yO;obtain⟨A,t⟩:=Nm (De.JD s r);rw[t] at b |-;clear t a v x y d f u q q2 z B C;obtain⟨who,act,on,ms⟩:=r;obtain⟨F,⟨M,R⟩,⟨N,S⟩,⟨P,T⟩,cs⟩:=s;unfold Ref.qy at b;simp only at b k l m n |-;have D:=hid b;clear b
 cases hh:(F.toList==eff.toList) with
 | false=>
  rw[Bool.false_and];go_enter func226,ntmps226;go_wp2_with fail;go_ret;exact⟨rfl,b0 _⟩
 | true=>
  rw[Bool.true_and];go_enter func226,ntmps226
  go_wp2_with (go_at_call 227;refine (D.out _).mono ?_;rintro e U ⟨rfl,E⟩)
  go_ret;exact⟨rfl,(b0 _).trans (E.mono (b0 _).size)⟩
theorem Q6.few{b:List zA}(h:Q6 b):∀s ∈ b,XC s/\XA s/\∀c ∈ s.ifs,c.vals.length<=1000:=
 λs a=>⟨h.2.2 s a,XA.of (h.2.1 s a),λc d=>by have:=((h.2.1 s a).cs c d).2.2.1;omega⟩
theorem BF(b:List zA)(h:Value)(eff:BA)(r:Ref.Req)(ao:Option Addr)(cap:Nat)(w:World)(J:QU w h b)(hd:Q6 b)(o:qL w ao r.marks)(p:Ref.xP r=true)(H:qP w) :
  Calls prog 189 #[.agg #[h],.string eff,Ref.qy r ao cap] w λe U=>e = .returned (.tuple #[.int .i64 (match De.kU eff r b with|none=>0|some k=>((k+1:Nat):Int)),.bool (De.kU eff r b).isSome])/\Below w.heap.size w U:=by
 obtain⟨d,j⟩:∃W,w.alloc (.cells #[h] 72)=W:=⟨_,rfl⟩;have D:d.heap.size=w.heap.size+1:=by rw[<- j];simp
 have K:d.heap[w.heap.size]?=some (.cells #[h] 72):=by rw[<- j];exact heap_alloc_new w _
 have z:Below w.heap.size w d:=by rw[<- j];exact nB w _
 obtain⟨f,l⟩:∃W,d.alloc (.cells #[.string eff] 9)=W:=⟨_,rfl⟩;have M:f.heap.size=w.heap.size+2:=by rw[<- l];simp[D]
 have L:f.heap[w.heap.size+1]?=some (.cells #[.string eff] 9):=by rw[<- l,<- D];exact heap_alloc_new d _
 have u:Below d.heap.size d f:=by rw[<- l];exact nB d _
 obtain⟨g,x⟩:∃W,f.alloc (.cells #[.string r.who,.string r.act,.string r.on,.slice ao r.marks.length cap] 53)=W:=⟨_,rfl⟩;have q:g.heap[w.heap.size+2]?=some (.cells #[.string r.who,.string r.act,.string r.on,.slice ao r.marks.length cap] 53):=by rw[<- x,<- M];exact heap_alloc_new f _
 have v:Below f.heap.size f g:=by rw[<- x];exact nB f _
 have i:Below w.heap.size w g:=z.trans ((u.trans (v.mono u.size)).mono z.size);have X:g.cell? ⟨w.heap.size,0,none⟩=some h:=zb v (zb u (za K 0).1);have E:g.cell? ⟨w.heap.size+1,0,none⟩=some (.string eff):=zb v (za L 0).1;have G:Z6 g (w.heap.size+2) r ao cap:=⟨(za q 0).1,(za q 1).1,(za q 2).1,(za q 3).1⟩
 have c:=DT b h 226 #[.pointer (some ⟨w.heap.size+1,0,none⟩),.pointer (some ⟨w.heap.size+2,0,none⟩)] (De.yO eff r) g (by have:=hd.1;omega) (enters_of func226 (by kernel_rfl) rfl) (J.below i)
  (λW s Q R S T P hb B=>by
    obtain⟨f1,f2,O⟩:=hd.few s P;have m:Below w.heap.size w W:=i.trans (hb.mono i.size);exact BD s Q R S T eff r ao cap (w.heap.size+1) (w.heap.size+2) W B f1 f2 O (vw o m) p (H.below m) (zb hb E) (Xc G hb))
 rw[DJ] at c;have n:De.kU eff r b=b.findIdx? (De.yO eff r):=rfl;rw[n]
 have hle:∀k,b.findIdx? (De.yO eff r)=some k->k<100:=λk I=>by
  have:=(List.findIdx?_eq_some_iff_getElem.1 I).1
  have:=hd.1
  omega
 obtain⟨F,hF⟩:=Nm (b.findIdx? (De.yO eff r));rw[hF] at c hle |-;obtain⟨a,N,rfl,_⟩:=J;have C:=hid c;have y:Hid (((w.alloc (.cells #[.slice a b.length N] 72)).alloc (.cells #[.string eff] 9)).alloc (.cells #[.string r.who,.string r.act,.string r.on,.slice ao r.marks.length cap] 53)=g):=hid (by rw[j,l,x]);have t:=hid i;obtain⟨who,act,on,ms⟩:=r;unfold Ref.qy;simp only at y |-;clear c hF n hd o p H j l x K L q z u v i D M E G
 cases F with
 | none=>
  simp only[Option.getD_none,Option.isSome_none] at C |-;go_enter func189,ntmps189
  go_upto_region 1 with fail
  rw[y.out]
  go_wp2_with (go_at_call 225;refine C.out.mono ?_;rintro e V ⟨rfl,A⟩)
  go_ret2;exact⟨rfl,t.out.trans (A.mono t.out.size)⟩
 | some k=>
  have I:=hle k rfl;simp only[Option.getD_some,Option.isSome_some] at C |-;go_enter func189,ntmps189
  go_upto_region 1 with fail
  rw[y.out]
  go_wp2_with (go_at_call 225;refine C.out.mono ?_;rintro e V ⟨rfl,A⟩)
  go_ret2;exact⟨by go_num,t.out.trans (A.mono t.out.size)⟩
def UV(F:Option (BA×Nat)):Value:=match F with
 | none => .tuple #[.string ⟨#[]⟩,.int .i64 0,.bool false]
 | some (n,k) => .tuple #[.string n,.int .i64 ((k:Nat):Int),.bool true]
theorem DD(eff:BA)(r:Ref.Req)(L:List zk)(k:Nat)(h:k<L.length):De.jo eff r (L.drop k)=match De.kU eff r L[k].2 with
  | some i=>some (L[k].1,i+1)
  | none=>De.jo eff r (L.drop (k+1)):=by
 rw[List.drop_eq_getElem_cons h]
 rfl
theorem He(L:List zk)(X:Value)(eff:BA)(r:Ref.Req)(ao:Option Addr)(cap:Nat)(M:Nat->Prop)(w:World)(hl:qO M w X L)(hd:∀x ∈ L,Q6 x.2)(hn:L.length<=1000)(v:qL w ao r.marks)(y:Ref.xP r=true)(S:qP w) :
  Calls prog 142 #[X,.string eff,Ref.qy r ao cap] w λe w'=>e = .returned (UV (De.jo eff r L))/\Below w.heap.size w w':=by
 obtain⟨la,lc,rfl,_,_,_,T⟩:=hl;have P:=λ(W:World) (hb:Below w.heap.size w W) (I:Value) (x:zk) (A:x ∈ L) (a:xQ M w I x.2)=>BF x.2 I eff r ao cap W ((oG a).below hb) (hd x A) (vw v hb) y (S.below hb);obtain⟨F,hF⟩:=Nm (De.jo eff r L);rw[hF];have f:=λk h=>DD eff r L k h;have b0:Below w.heap.size w (w.alloc (.cells #[.string r.who,.string r.act,.string r.on,.slice ao r.marks.length cap] 53)):=nB w _;have Q:Z6 (w.alloc (.cells #[.string r.who,.string r.act,.string r.on,.slice ao r.marks.length cap] 53)) w.heap.size r ao cap:=⟨by simp,by simp,by simp,by simp⟩;have C:=hid P;have HC:=hid T;have HF:=hid hF;have HD:=hid f;have B:=hid b0;have E:=hid Q;clear P T hF f b0 Q v y S hd;obtain⟨q,hq⟩:=Nm r;obtain⟨who,act,on,ms⟩:=r;unfold Ref.qy at C |-;simp only at C B E |-;go_enter func142,ntmps142
 go_wp2
 go_loopw [15] (λi wr=>∃k:Nat,k<=L.length/\i = .int .i64 k/\De.jo eff ⟨who,act,on,ms⟩ (L.drop k)=F/\Below w.heap.size w wr/\Z6 wr w.heap.size ⟨who,act,on,ms⟩ ao cap) (λi _=>L.length-(intOf i).toNat)
 case atStart=>exact⟨0,Nat.zero_le _,rfl,HF.out,B.out,E.out⟩
 case round=>
  obtain⟨k,hk,rfl,u,V,t⟩:=hrel;have n:=hid u;have s:=hid V;have G:=hid t;obtain⟨z0,z1,z2,z3⟩:=t;clear u V B E
  by_cases hlt:k<L.length
  ·obtain⟨gb,o,I,rfl,_,Z,q1,a⟩:=HC.out k L[k] (List.getElem?_eq_getElem hlt);obtain⟨da,dc,rfl,_⟩:=oG a;have Y:=zb s.out Z;have K:=zb s.out q1;have b:=HD.out k hlt;rw[n.out] at b;have l:=λ(W:World) (hb:Below w.heap.size w W)=>C.out W hb _ L[k] (List.getElem_mem hlt) a;obtain⟨x,A⟩:=Nm (L[k]);simp only[A] at Y K b l;obtain⟨nm,ss⟩:=x;simp only at Y K b l;obtain⟨m,U⟩:=Nm ss.length;simp only[U] at K l;obtain⟨D,R⟩:=Nm (De.kU eff ⟨who,act,on,ms⟩ ss);simp only[R] at b l;have c:=λO=>s.out.alloc s.out.size O;have d:=λO:Obj=>Xc G.out (nB wr O);have v0:=λO:Obj=>(d O).1;have v1:=λO:Obj=>(d O).2.1;have v2:=λO:Obj=>(d O).2.2.1;have v3:=λO:Obj=>(d O).2.2.2;simp only at v0 v1 v2 v3;have z:=hid l;have p:=hid b;clear l b a Z q1 A U R
   cases D with
   | none=>
    simp only[Option.isSome_none] at z
    go_wp2_with (go_at_call 189;refine (z.out _ (c _)).mono ?_;rintro e N ⟨rfl,j⟩;have g:Hid (Below w.heap.size w N):=(c _).trans (j.mono (c _).size);have H:=hid (Xc (d _) j);clear j)
    refine⟨⟨k+1,by omega,by go_num,p.out.symm,g.out,H.out⟩,by simp[intOf];omega⟩
   | some i=>
    simp only[Option.isSome_some] at z
    go_wp2_with (go_at_call 189;refine (z.out _ (c _)).mono ?_;rintro e N ⟨rfl,j⟩;have g:Hid (Below w.heap.size w N):=(c _).trans (j.mono (c _).size);have a9:=zb j (za (heap_alloc_new wr (.cells #[.string nm,.slice da m dc] 187)) 0).1;clear j)
    go_ret3;exact⟨by rw[p.out];rfl,g.out⟩
  ·have J:k=L.length:=by omega
   subst J;have e:=n.out;rw[List.drop_length] at e;have HE:=hid e;clear e
   go_wp2
   go_ret3;exact⟨by rw[<- HE.out];rfl,s.out⟩
def kH(v l:Int)(n:BA)(k:Int):Value := .agg #[.int .i64 v,.int .i64 l,.string n,.int .i64 k]
def QD(F:Option (Nat×BA×Nat)):Value:=match F with
 | none => .tuple #[kH 0 0 ⟨#[]⟩ 0,.bool false]
 | some (i,n,k) => .tuple #[kH 0 ((i:Nat):Int) n ((k:Nat):Int),.bool true]
def yB(a b c d:Value):Obj := .cells #[a,b,c,d] 48
def QZ:Obj:=yB (.int .i64 0) (.int .i64 0) (.string ⟨#[]⟩) (.int .i64 0)
theorem UE{W:World}{b:Nat}{f g i j:Value}(h:W.heap[b]?=some (yB f g i j))(a c d e:Value) :
  ((((W.setCell ⟨b,0,none⟩ a).setCell ⟨b,1,none⟩ c).setCell ⟨b,2,none⟩ d).setCell ⟨b,3,none⟩ e).heap[b]?=some (yB a c d e):=by
 have k:=heap_setCell_same W b 0 _ _ a h;have l:=heap_setCell_same _ b 1 _ _ c k;have m:=heap_setCell_same _ b 2 _ _ d l;exact heap_setCell_same _ b 3 _ _ e m
theorem DF(a:Nat->List zk)(eff:BA)(r:Ref.Req)(is:List Nat)(k:Nat)(h:k<is.length):De.xK a eff r (is.drop k)=match De.jo eff r (a is[k]) with
  | some (n,i)=>some (is[k],n,i)
  | none=>De.xK a eff r (is.drop (k+1)):=by
 rw[List.drop_eq_getElem_cons h]
 rfl
theorem Kw(G:Nat)(A:StO)(eff:BA)(r:Ref.Req)(ao so:Option Addr)(cap sc:Nat)(is:List Nat)(M:Nat->Prop)(w:World)(h:qf M w G A)(hi:∀i ∈ is,i<4)(hn:is.length<=100)(hs:∀j,(hj:j<is.length)->∃gb o,so=some ⟨gb,o,none⟩/\w.cell? ⟨gb,o+j,none⟩=some (.int .i64 ((is[j]:Nat):Int)))(S:qL w ao r.marks)(T:Ref.xP r=true)(hE:qP w) :
  Calls prog 89 #[.pointer (some ⟨G,0,none⟩),.string eff,Ref.qy r ao cap,.slice so is.length sc] w λe g=>e = .returned (QD (De.xK A eff r is))/\Below w.heap.size w g:=by
 have cL:=λ(W:World) (hb:Below w.heap.size w W) (i:Nat) (y:i<4) (lv:Value) (hl:qO M W lv (A i))=>He (A i) lv eff r ao cap M W hl (λx hx=>(h.good i y).2.2 x hx) (by have:=(h.good i y).2.1;omega) (vw S hb) T (hE.below hb);obtain⟨F,hF⟩:=Nm (De.xK A eff r is);rw[hF];have l:=λk h=>DF A eff r is k h;obtain⟨u,O⟩:∃W,w.alloc (.cells #[.string r.who,.string r.act,.string r.on,.slice ao r.marks.length cap] 53)=W:=⟨_,rfl⟩;have s1:u.heap.size=w.heap.size+1:=by rw[<- O];simp
 have U:u.heap[w.heap.size]?=some (.cells #[.string r.who,.string r.act,.string r.on,.slice ao r.marks.length cap] 53):=by rw[<- O];exact heap_alloc_new w _
 have b1:Below w.heap.size w u:=by rw[<- O];exact nB w _
 obtain⟨L,Z⟩:∃W,u.alloc QZ=W:=⟨_,rfl⟩;have n2:L.heap[w.heap.size+1]?=some QZ:=by rw[<- Z,<- s1];exact heap_alloc_new u _
 have b2:Below u.heap.size u L:=by rw[<- Z];exact nB u _
 have bw:Below w.heap.size w L:=b1.trans (b2.mono b1.size);have g2:Z6 L w.heap.size r ao cap:=Xc ⟨(za U 0).1,(za U 1).1,(za U 2).1,(za U 3).1⟩ b2;have HW:Hid ((w.alloc (.cells #[.string r.who,.string r.act,.string r.on,.slice ao r.marks.length cap] 53)).alloc (.cells #[.int .i64 0,.int .i64 0,.string ⟨#[]⟩,.int .i64 0] 48)=L):=hid (by rw[O];exact Z);have g3:G<w.heap.size:=by obtain⟨vs,hv,_⟩:=h.row;exact lt_of_block hv
 have CL:=hid cL;have HF:=hid hF;have HD:=hid l;have HO:=hid h;have HI:=hid hi;have HS:=hid hs;have BW:=hid bw;have G2:=hid g2;have N2:=hid n2;clear cL hF l h hi hs bw g2 n2 b1 b2 U O Z s1 S T hE;obtain⟨who,act,on,ms⟩:=r;unfold Ref.qy at CL |-;simp only at CL HW |-;go_enter func89,ntmps89
 go_upto_region 1 with fail
 rw[HW.out];go_wp2_with fail
 go_loopw [17] (λi wr=>∃k:Nat,k<=is.length/\i = .int .i64 k/\De.xK A eff ⟨who,act,on,ms⟩ (is.drop k)=F/\Below w.heap.size w wr/\Z6 wr w.heap.size ⟨who,act,on,ms⟩ ao cap/\wr.heap[w.heap.size+1]?=some QZ) (λi _=>is.length-(intOf i).toNat)
 case atStart=>exact⟨0,Nat.zero_le _,rfl,HF.out,BW.out,G2.out,N2.out⟩
 case round=>
  obtain⟨k,hk,rfl,Q,hw,P,s⟩:=hrel;have I:=hid Q;have t:=hid hw;have a4:=hid P;have K:=hid s;obtain⟨z0,z1,z2,z3⟩:=P;simp only at z0 z1 z2 z3;have y0:=(za s 0).1;have y1:=(za s 1).1;have y2:=(za s 2).1;have y3:=(za s 3).1;have t0:=(za s 0).2;have t1:=(za s 1).2;have t2:=(za s 2).2;have t3:=(za s 3).2;simp at y0 y1 y2 y3 t0 t1 t2 t3;clear Q hw s BW G2 N2
  by_cases hlt:k<is.length
  ·obtain⟨gb,o,rfl,q0⟩:=HS.out k hlt;have p0:=zb t.out q0;have q:=HD.out k hlt;rw[I.out] at q;have y:=HI.out is[k] (List.getElem_mem hlt);obtain⟨i,R⟩:=Nm (is[k]);simp only[R] at p0 q y;obtain⟨vs,z,m⟩:=(HO.out.below t.out).row;have c0:wr.cell? ⟨G,i,none⟩=some (vs i):=(za z i).1.trans (QE vs y);obtain⟨la,ln,lc,hv⟩:∃a n c,vs i = .slice a n c:=by obtain⟨a,c,e,_⟩:=m i y;exact⟨a,_,c,e⟩
   have E:=m i y;rw[hv] at c0 E;have B:=hid (CL.out wr.drew t.out.drew i y _ (E.turn (zx.of (Below.refl _ wr).drew)));obtain⟨D,hD⟩:=Nm (De.jo eff ⟨who,act,on,ms⟩ (A i));rw[hD] at B q;have J:=hid q;have k0:(0:Int)<=(i:Int):=Int.natCast_nonneg _;have k1:(i:Int)<4:=by omega
   clear z m hv E q0 q R hD
   cases D with
   | none=>
    unfold UV at B;simp only at B;go_wp2_with fail
    go_region_held3 (λg=>g.cell? ⟨G,i,none⟩=some (.slice la ln lc)/\g.cell? ⟨w.heap.size,0,none⟩=some (.string who)/\g.cell? ⟨w.heap.size,1,none⟩=some (.string act)/\g.cell? ⟨w.heap.size,2,none⟩=some (.string on)/\g.cell? ⟨w.heap.size,3,none⟩=some (.slice ao ms.length cap)) (go_keep) (first
     | ((go_at_call 142);refine B.out.mono ?_;rintro e H ⟨rfl,N⟩;have f:Below wr.heap.size wr H:=(Below.refl _ wr).drew.trans N;have e0:=zb f c0;have e1:=zb f z0;have e2:=zb f z1;have e3:=zb f z2;have e4:=zb f z3;have b:=hid ((f.block (w.heap.size+1) (lt_of_block K.out)).trans K.out);have a5:=hid (Xc a4.out f);have C:Hid (Below w.heap.size w H):=t.out.trans (f.mono t.out.size);clear N f))
    all_goals
     go_wp2_with fail
     go_roundw
     case rel=>exact⟨k+1,by omega,by go_num,J.out.symm,C.out,a5.out,b.out⟩
     case measure=>simp[intOf];omega
   | some d=>
    obtain⟨nm,num⟩:=d;unfold UV at B;simp only at B;go_wp2_with fail
    go_region_held3 (λg=>g.cell? ⟨G,i,none⟩=some (.slice la ln lc)/\g.cell? ⟨w.heap.size,0,none⟩=some (.string who)/\g.cell? ⟨w.heap.size,1,none⟩=some (.string act)/\g.cell? ⟨w.heap.size,2,none⟩=some (.string on)/\g.cell? ⟨w.heap.size,3,none⟩=some (.slice ao ms.length cap)) (go_keep) (first
     | ((go_at_call 142);refine B.out.mono ?_;rintro e H ⟨rfl,N⟩;have f:Below wr.heap.size wr H:=(Below.refl _ wr).drew.trans N;have e0:=zb f c0;have e1:=zb f z0;have e2:=zb f z1;have e3:=zb f z2;have e4:=zb f z3;have b:=hid ((f.block (w.heap.size+1) (lt_of_block K.out)).trans K.out);have C:Hid (Below w.heap.size w H):=t.out.trans (f.mono t.out.size);clear N f))
    all_goals
     have y0:=(za b.out 0).1;have y1:=(za b.out 1).1;have y2:=(za b.out 2).1;have y3:=(za b.out 3).1;have t0:=(za b.out 0).2;have t1:=(za b.out 1).2;have t2:=(za b.out 2).2;have t3:=(za b.out 3).2;simp at y0 y1 y2 y3 t0 t1 t2 t3;have p:=UE b.out (.int .i64 0) (.int .i64 (i:Int)) (.string nm) (.int .i64 (num:Int));have r0:=(za p 0).1;have V:=(za p 1).1;have X:=(za p 2).1;have Y:=(za p 3).1;simp at r0 V X Y;have a3:Hid (Below w.heap.size w ((((H.setCell ⟨w.heap.size+1,0,none⟩ (.int .i64 0)).setCell ⟨w.heap.size+1,1,none⟩ (.int .i64 (i:Int))).setCell ⟨w.heap.size+1,2,none⟩ (.string nm)).setCell ⟨w.heap.size+1,3,none⟩ (.int .i64 (num:Int)))):=hid ((((C.out.setCell (by simp) _).setCell (by simp) _).setCell (by simp) _).setCell (by simp) _);clear p;go_wp2_with fail;exact bodyPost_ret (v := .tuple #[.agg #[.int .i64 0,.int .i64 (i:Int),.string nm,.int .i64 (num:Int)],.bool true]) (by simp[results,results89,go_sem,r0,V,X,Y]) rfl ⟨by rw[J.out];rfl,a3.out⟩
  ·have a9:k=is.length:=by omega
   subst a9;have e:=I.out;rw[List.drop_length] at e;have HE:=hid e;have p:=UE K.out (.int .i64 0) (.int .i64 0) (.string ⟨#[]⟩) (.int .i64 0);have r0:=(za p 0).1;have V:=(za p 1).1;have X:=(za p 2).1;have Y:=(za p 3).1;simp at r0 V X Y;clear e p;go_wp2_with fail;exact bodyPost_ret (v := .tuple #[.agg #[.int .i64 0,.int .i64 0,.string ⟨#[]⟩,.int .i64 0],.bool false]) (by simp[results,results89,go_sem,r0,V,X,Y]) rfl ⟨by rw[<- HE.out];rfl,(((t.out.setCell (by simp) _).setCell (by simp) _).setCell (by simp) _).setCell (by simp) _⟩
theorem DI(a:Nat->List zk)(eff:BA)(r:Ref.Req)(i:Nat):(De.xK a eff r [i]).isSome=(De.jo eff r (a i)).isSome:=by
 simp only[De.xK]
 cases De.jo eff r (a i) with
 | none=>rfl
 | some d=>rfl
theorem Hu(z:Nat)(k:StO)(i:Nat)(r:Ref.Req)(ao:Option Addr)(cap:Nat)(M:Nat->Prop)(w:World)(h:qf M w z k)(K:i<4)(t:qL w ao r.marks)(u:Ref.xP r=true)(L:qP w) :
  Calls prog 90 #[.pointer (some ⟨z,0,none⟩),.int .i64 ((i:Nat):Int),Ref.qy r ao cap] w λe U=>e = .returned (.bool (De.jq k r i))/\Below w.heap.size w U:=by
 obtain⟨f,x⟩:∃W,w.alloc (.cells #[.string r.who,.string r.act,.string r.on,.slice ao r.marks.length cap] 53)=W:=⟨_,rfl⟩;have v:f.heap[w.heap.size]?=some (.cells #[.string r.who,.string r.act,.string r.on,.slice ao r.marks.length cap] 53):=by rw[<- x];exact heap_alloc_new w _
 have p:Below w.heap.size w f:=by rw[<- x];exact nB w _
 obtain⟨V,X,Y,Z⟩:Z6 f w.heap.size r ao cap:=⟨(za v 0).1,(za v 1).1,(za v 2).1,(za v 3).1⟩;have G:Below f.heap.size f (f.alloc (.cells #[.int .i64 ((i:Nat):Int)] 3)):=nB f _;have q:Below w.heap.size w (f.alloc (.cells #[.int .i64 ((i:Nat):Int)] 3)):=p.trans (G.mono p.size)
 have C:=Kw z k De.yh r ao (some ⟨f.heap.size,0,none⟩) cap 1 [i] M (f.alloc (.cells #[.int .i64 ((i:Nat):Int)] 3)) (h.below q) (λj y=>by simp at y;omega) (by simp) (λj y=>by
   simp at y;subst y;exact⟨_,_,rfl,by simp⟩) (vw t q) u (L.below q)
 obtain⟨E,m,l⟩:=(h.below p).row;have c0:f.cell? ⟨z,i,none⟩=some (E i):=(za m i).1.trans (QE E K);obtain⟨la,lc,O⟩:∃a c,E i = .slice a (k i).length c:=by obtain⟨a,c,e,_⟩:=l i K;exact⟨a,c,e⟩
 rw[O] at c0;have k0:(0:Int)<=(i:Int):=Int.natCast_nonneg _;have k1:(i:Int)<4:=by omega
 have g:=DI k De.yh r i;unfold De.jq;rw[<- g];obtain⟨F,hF⟩:=Nm (De.xK k De.yh r [i]);rw[hF] at C |-;have s:(k i).isEmpty=decide ((k i).length=0):=by cases k i<;>simp
 rw[s];obtain⟨n,N⟩:=Nm ((k i).length);rw[N] at c0 |-;have B:=hid x;have o:=hid C;have T:=hid p;have A:=hid q;obtain⟨who,act,on,ms⟩:=r;unfold Ref.qy at o |-;simp only at o B V X Y Z |-;unfold De.yh at o;clear C hF g m l O h t u L x p G q v s N
 by_cases hz:n=0
 ·subst hz;go_enter func90,ntmps90
  go_upto_region 1 with fail
  rw[B.out];go_wp2_with fail;go_ret;exact⟨rfl,T.out⟩
 ·have d:((n:Int)==0)=false:=by simp;omega
  rw[decide_eq_false hz,Bool.false_or]
  have e:∃D b,QD F = .tuple #[D,.bool b]/\b=F.isSome/\∃P Q R S,D=kH P Q R S:=by
   cases F with
   | none=>exact⟨_,_,rfl,rfl,_,_,_,_,rfl⟩
   | some d=>exact⟨_,_,rfl,rfl,_,_,_,_,rfl⟩
  obtain⟨D,b,I,J,P,Q,R,S,rfl⟩:=e;rw[I] at o;rw[<- J];unfold kH at o;clear I J;go_enter func90,ntmps90
  go_upto_region 1 with fail
  rw[B.out]
  go_wp2_with (go_at_call 89;refine o.out.mono ?_;rintro e w3 ⟨rfl,H⟩)
  go_ret;exact⟨rfl,(A.out.trans (H.mono A.out.size)).alloc (by have:=A.out.size;have:=H.size;omega) _⟩
def Pg.reqLen(r:Ref.Req):Prop:=r.who.size<=maxLen/\r.act.size<=maxLen/\r.on.size<=maxLen/\r.marks.length<=100000000000/\∀m ∈ r.marks,m.1.size<=maxLen/\m.2.size<=maxLen
theorem IC(r:Ref.Req)(ao:Option Addr)(cap:Nat)(w:World)(C:qL w ao r.marks)(J:Pg.reqLen r)(A:jW w) :
  Calls prog 45 #[Ref.qy r ao cap] w λe L=>e = .returned (.bool (Ref.xP r))/\Below w.heap.size w L:=by
 obtain⟨who,act,on,ms⟩:=r;obtain⟨E,F,G,H,I⟩:=J;simp only at E F G H I C
 have v:=λW hb=>rO ms ao cap W H (λj D=>by
  exact I (vv ms j) (by rw[Xp ms j D];exact List.getElem_mem D)) (vw C hb) (A.below hb)
 generalize m:Ref.xP ⟨who,act,on,ms⟩=Q;unfold Ref.xP at m;simp only at m;unfold Ref.qy;simp only;have b0:=λO=>nB w O;have c1:=Va who _ rfl E;have c2:=Va act _ rfl F;have c3:=Va on _ rfl G;have l:∀g,Below w.heap.size w g->jW g:=λg h=>A.below h;clear C A
 cases d1:Ref.yX who with
 | false=>
  have e:Q=false:=by rw[<- m,d1];simp
  subst e;rw[d1] at c1;clear m d1 v c2 c3;go_enter func45,ntmps45
  go_wp2_with (go_at_call 86;refine (c1 _ (l _ (b0 _))).mono ?_;rintro e g ⟨rfl,a⟩)
  go_ret;exact⟨rfl,(b0 _).trans (a.mono (by simp))⟩
 | true=>
 rw[d1] at c1
 cases d2:Ref.yX act with
 | false=>
  have e:Q=false:=by rw[<- m,d2];simp
  subst e;rw[d2] at c2;clear m d1 d2 v c3;go_enter func45,ntmps45
  go_wp2_with (first
   | (go_at_call 86;refine (c2 g (l _ b)).mono ?_;rintro e k ⟨rfl,c⟩;have d:Below w.heap.size w k:=b.trans (c.mono b.size);obtain⟨p,s⟩:=xV c;have u:w.heap.size<k.heap.size:=by (have:=c.size;omega))
   | (go_at_call 86;refine (c1 _ (l _ (b0 _))).mono ?_;rintro e g ⟨rfl,a⟩;have b:Below w.heap.size w g:=(b0 _).trans (a.mono (by simp));obtain⟨o,q⟩:=xV a;have t:w.heap.size<g.heap.size:=by (have:=a.size;simp at this;omega)))
  go_ret;exact⟨rfl,d⟩
 | true=>
 rw[d2] at c2
 cases d3:Ref.yX on with
 | false=>
  have e:Q=false:=by rw[<- m,d3];simp
  subst e;rw[d3] at c3;clear m d1 d2 d3 v;go_enter func45,ntmps45
  go_wp2_with (first
   | (go_at_call 86;refine (c3 k (l _ d)).mono ?_;rintro e n ⟨rfl,f⟩;have i:Below w.heap.size w n:=d.trans (f.mono d.size);obtain⟨x,y⟩:=xV f;have z:w.heap.size<n.heap.size:=by (have:=f.size;omega))
   | (go_at_call 86;refine (c2 g (l _ b)).mono ?_;rintro e k ⟨rfl,c⟩;have d:Below w.heap.size w k:=b.trans (c.mono b.size);obtain⟨p,s⟩:=xV c;have u:w.heap.size<k.heap.size:=by (have:=c.size;omega))
   | (go_at_call 86;refine (c1 _ (l _ (b0 _))).mono ?_;rintro e g ⟨rfl,a⟩;have b:Below w.heap.size w g:=(b0 _).trans (a.mono (by simp));obtain⟨o,q⟩:=xV a;have t:w.heap.size<g.heap.size:=by (have:=a.size;simp at this;omega)))
  go_ret;exact⟨rfl,i⟩
 | true=>
 rw[d3] at c3
 by_cases d4:ms.length<=10
 ·have e:Q=ms.all Ref.kg:=by rw[<- m,d1,d2,d3,decide_eq_true d4];simp
  have K:decide ((ms.length:Int)<=10)=true:=decide_eq_true (by omega);rw[<- e] at v;clear m d1 d2 d3 d4 e;go_enter func45,ntmps45
  go_wp2_with (first
   | (go_at_call 87;refine (v n i).mono ?_;rintro e M ⟨rfl,B⟩)
   | (go_at_call 86;refine (c3 k (l _ d)).mono ?_;rintro e n ⟨rfl,f⟩;have i:Below w.heap.size w n:=d.trans (f.mono d.size);obtain⟨x,y⟩:=xV f;have z:w.heap.size<n.heap.size:=by (have:=f.size;omega))
   | (go_at_call 86;refine (c2 g (l _ b)).mono ?_;rintro e k ⟨rfl,c⟩;have d:Below w.heap.size w k:=b.trans (c.mono b.size);obtain⟨p,s⟩:=xV c;have u:w.heap.size<k.heap.size:=by (have:=c.size;omega))
   | (go_at_call 86;refine (c1 _ (l _ (b0 _))).mono ?_;rintro e g ⟨rfl,a⟩;have b:Below w.heap.size w g:=(b0 _).trans (a.mono (by simp));obtain⟨o,q⟩:=xV a;have t:w.heap.size<g.heap.size:=by (have:=a.size;simp at this;omega)))
  go_ret;exact⟨rfl,i.trans (B.mono i.size)⟩
 ·have e:Q=false:=by rw[<- m,decide_eq_false d4];simp
  have K:decide ((ms.length:Int)<=10)=false:=decide_eq_false (by omega);subst e;clear m d1 d2 d3 d4 v;go_enter func45,ntmps45
  go_wp2_with (first
   | (go_at_call 86;refine (c3 k (l _ d)).mono ?_;rintro e n ⟨rfl,f⟩;have i:Below w.heap.size w n:=d.trans (f.mono d.size);obtain⟨x,y⟩:=xV f;have z:w.heap.size<n.heap.size:=by (have:=f.size;omega))
   | (go_at_call 86;refine (c2 g (l _ b)).mono ?_;rintro e k ⟨rfl,c⟩;have d:Below w.heap.size w k:=b.trans (c.mono b.size);obtain⟨p,s⟩:=xV c;have u:w.heap.size<k.heap.size:=by (have:=c.size;omega))
   | (go_at_call 86;refine (c1 _ (l _ (b0 _))).mono ?_;rintro e g ⟨rfl,a⟩;have b:Below w.heap.size w g:=(b0 _).trans (a.mono (by simp));obtain⟨o,q⟩:=xV a;have t:w.heap.size<g.heap.size:=by (have:=a.size;simp at this;omega)))
  go_ret;exact⟨rfl,i⟩
end Go.Proofs.YtdakgnaojakldaaGreatDoor
