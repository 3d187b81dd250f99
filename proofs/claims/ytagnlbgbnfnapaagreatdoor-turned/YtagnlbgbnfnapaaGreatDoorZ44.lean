/- P -/
import Derived.Test.YtagnlbgbnfnapaaGreatDoorZ43
open Go.Proofs.Tryz
set_option maxRecDepth 100000
set_option maxHeartbeats 4000000
namespace Go.Proofs.YtagnlbgbnfnapaaGreatDoor
open Go.RowKit
theorem IR{α:Type}(l:List α)(d:α)(p:α->Bool):zD (λj=>p (l.getD j d)) l.length=l.findIdx? p:=by
 have c:∀j,(h:j<l.length)->l.getD j d=l[j]:=λj h=>by rw[zQ,zt h];rfl
 cases h:l.findIdx? p with
 | none=>
  have b:=List.findIdx?_eq_none_iff.1 h;exact QB _ _ (λj a=>by show p (l.getD j d)=false;rw[c j a];exact b _ (xg a))
 | some k=>
  obtain⟨e,f,b⟩:=Cy.1 h;exact QA _ _ k e (λj a=>by show p (l.getD j d)=false;rw[c j (by omega)];simpa using b j a) (by show p (l.getD k d)=true;rw[c k e];exact f)
theorem Gt(s:zT)(h i j k:Value)(eff:BA)(r:Ref.Req)(ao:Option Addr)(cap p q:Nat)(w:World)(b:Yz w h i j k s)(x:Jq s)(y:Jo s)(z:∀c ∈ s.ifs,c.vals.length<=1000)(f:xD w ao r.marks)(g:Ref.yT r=true)(v:xK w)
  (t:w.cell? ⟨p,0,none⟩=some (.string eff))(H:XJ w q r ao cap) :
  Calls prog 180 #[.agg #[.string s.eff,.bool s.who.1,h,.bool s.act.1,i,.bool s.on.1,j,k],.pointer (some ⟨p,0,none⟩),.pointer (some ⟨q,0,none⟩)] w λe I=>e = .returned (.bool (De.yH eff r s))/\Below w.heap.size w I:=by
 have a:=λO:Obj=>nB w O;have d:=λO:Obj=>DZ s h i j k r ao cap (w.alloc O) (b.below (a O)) x y z (kF f (a O)) g (v.below (a O));have R:=λO:Obj=>zh (a O) t;obtain⟨q2,B,C,D⟩:=H;have l:=λO:Obj=>zh (a O) q2;have m:=λO:Obj=>zh (a O) B;have n:=λO:Obj=>zh (a O) C;have o:=λO:Obj=>zh (a O) D;obtain⟨J,W,rfl,_⟩:=b.who;obtain⟨K,X,rfl,_⟩:=b.act;obtain⟨L,Y,rfl,_⟩:=b.on;obtain⟨M,Z,rfl,_⟩:=b.ifs;unfold De.yH;obtain⟨A,u⟩:=Nm (De.VJ s r);rw[u] at d |-;clear u b x y z f g v t q2 B C D;obtain⟨who,act,on,ms⟩:=r;obtain⟨G,⟨N,S⟩,⟨P,T⟩,⟨Q,U⟩,cs⟩:=s;unfold Ref.qY at d;simp only at d l m n o |-;have E:=hid d;clear d
 cases hh:(G.toList==eff.toList) with
 | false=>
  rw[X8];go_enter func180,ntmps180;go_wp2_with fail;go_ret;exact⟨rfl,a _⟩
 | true=>
  rw[Qg];go_enter func180,ntmps180
  go_wp2_with (go_at_call 181;refine (E.out _).mono ?_;rintro e V ⟨rfl,F⟩)
  go_ret;exact⟨rfl,(a _).trans (F.mono (a _).size)⟩
theorem YS.few{b:List zT}(h:YS b):∀s ∈ b,Jq s/\Jo s/\∀c ∈ s.ifs,c.vals.length<=1000:=
 λs a=>⟨h.2.2 s a,Jo.of (h.2.1 s a),λc d=>by have:=((h.2.1 s a).cs c d).2.2.1;omega⟩
theorem Gu(b:List zT)(h:Value)(eff:BA)(r:Ref.Req)(ao:Option Addr)(cap:Nat)(w:World)(J:YA w h b)(hd:YS b)(o:xD w ao r.marks)(p:Ref.yT r=true)(H:xK w) :
  Calls prog 137 #[.agg #[h],.string eff,Ref.qY r ao cap] w λe U=>e = .returned (.tuple #[.int .i64 (match De.uA eff r b with|none=>0|some k=>((k+1:Nat):Int)),.bool (De.uA eff r b).isSome])/\Below w.heap.size w U:=by
 obtain⟨d,j⟩:∃W,w.alloc (.cells #[h] 84)=W:=⟨_,rfl⟩;have D:d.heap.size=w.heap.size+1:=by rw[<- j];simp
 have K:d.heap[w.heap.size]?=some (.cells #[h] 84):=by rw[<- j];exact zL w _
 have z:Below w.heap.size w d:=by rw[<- j];exact nB w _
 obtain⟨f,l⟩:∃W,d.alloc (.cells #[.string eff] 9)=W:=⟨_,rfl⟩;have M:f.heap.size=w.heap.size+2:=by rw[<- l];simp[D]
 have L:f.heap[w.heap.size+1]?=some (.cells #[.string eff] 9):=by rw[<- l,<- D];exact zL d _
 have u:Below d.heap.size d f:=by rw[<- l];exact nB d _
 obtain⟨g,x⟩:∃W,f.alloc (.cells #[.string r.who,.string r.act,.string r.on,.slice ao r.marks.length cap] 34)=W:=⟨_,rfl⟩;have q:g.heap[w.heap.size+2]?=some (.cells #[.string r.who,.string r.act,.string r.on,.slice ao r.marks.length cap] 34):=by rw[<- x,<- M];exact zL f _
 have v:Below f.heap.size f g:=by rw[<- x];exact nB f _
 have i:Below w.heap.size w g:=z.trans ((u.trans (v.mono u.size)).mono z.size);have X:g.cell? ⟨w.heap.size,0,none⟩=some h:=zh v (zh u (zf K 0).1);have E:g.cell? ⟨w.heap.size+1,0,none⟩=some (.string eff):=zh v (zf L 0).1;have G:XJ g (w.heap.size+2) r ao cap:=⟨(zf q 0).1,(zf q 1).1,(zf q 2).1,(zf q 3).1⟩
 have c:=IY b h 180 #[.pointer (some ⟨w.heap.size+1,0,none⟩),.pointer (some ⟨w.heap.size+2,0,none⟩)] (De.yH eff r) g (by have:=hd.1;omega) (qx func180 (by kernel_rfl) rfl) (J.below i)
  (λW s Q R S T P hb B=>by
    obtain⟨f1,f2,O⟩:=hd.few s P;have m:Below w.heap.size w W:=i.trans (hb.mono i.size);exact Gt s Q R S T eff r ao cap (w.heap.size+1) (w.heap.size+2) W B f1 f2 O (kF o m) p (H.below m) (zh hb E) (YZ G hb))
 rw[IR] at c;have n:De.uA eff r b=b.findIdx? (De.yH eff r):=rfl;rw[n]
 have hle:∀k,b.findIdx? (De.yH eff r)=some k->k<100:=λk I=>by
  have:=(Cy.1 I).1
  have:=hd.1
  omega
 obtain⟨F,hF⟩:=Nm (b.findIdx? (De.yH eff r));rw[hF] at c hle |-;obtain⟨a,N,rfl,_⟩:=J;have C:=hid c;have y:Hid (((w.alloc (.cells #[.slice a b.length N] 84)).alloc (.cells #[.string eff] 9)).alloc (.cells #[.string r.who,.string r.act,.string r.on,.slice ao r.marks.length cap] 34)=g):=hid (by rw[j,l,x]);have t:=hid i;obtain⟨who,act,on,ms⟩:=r;unfold Ref.qY;simp only at y |-;clear c hF n hd o p H j l x K L q z u v i D M E G
 cases F with
 | none=>
  simp only[Q0,kU] at C |-;go_enter func137,ntmps137
  go_upto_region 1 with fail
  rw[y.out]
  go_wp2_with (go_at_call 179;refine C.out.mono ?_;rintro e V ⟨rfl,A⟩)
  go_ret2;exact⟨rfl,t.out.trans (A.mono t.out.size)⟩
 | some k=>
  have I:=hle k rfl;simp only[yO,uw] at C |-;go_enter func137,ntmps137
  go_upto_region 1 with fail
  rw[y.out]
  go_wp2_with (go_at_call 179;refine C.out.mono ?_;rintro e V ⟨rfl,A⟩)
  go_ret2;exact⟨by go_num,t.out.trans (A.mono t.out.size)⟩
def dw(F:Option (BA×Nat)):Value:=match F with
 | none => .tuple #[.string ⟨#[]⟩,.int .i64 0,.bool false]
 | some (n,k) => .tuple #[.string n,.int .i64 ((k:Nat):Int),.bool true]
theorem IM(eff:BA)(r:Ref.Req)(L:List zu)(k:Nat)(h:k<L.length):De.yc eff r (L.drop k)=match De.uA eff r L[k].2 with
  | some i=>some (L[k].1,i+1)
  | none=>De.yc eff r (L.drop (k+1)):=by
 rw[ZQ h]
 rfl
theorem Ni(L:List zu)(Y:Value)(eff:BA)(r:Ref.Req)(ao:Option Addr)(cap:Nat)(M:Nat->Prop)(w:World)(hl:xO M w Y L)(hd:∀x ∈ L,YS x.2)(hn:L.length<=1000)(v:xD w ao r.marks)(y:Ref.yT r=true)(T:xK w) :
  Calls prog 88 #[Y,.string eff,Ref.qY r ao cap] w λe w'=>e = .returned (dw (De.yc eff r L))/\Below w.heap.size w w':=by
 obtain⟨la,lc,rfl,_,_,_,U⟩:=hl;have Q:=λ(W:World) (hb:Below w.heap.size w W) (I:Value) (x:zu) (A:x ∈ L) (a:yV M w I x.2)=>Gu x.2 I eff r ao cap W ((BL a).below hb) (hd x A) (kF v hb) y (T.below hb);obtain⟨F,hF⟩:=Nm (De.yc eff r L);rw[hF];have f:=λk h=>IM eff r L k h;have P:Below w.heap.size w (w.alloc (.cells #[.string r.who,.string r.act,.string r.on,.slice ao r.marks.length cap] 34)):=nB w _;have R:XJ (w.alloc (.cells #[.string r.who,.string r.act,.string r.on,.slice ao r.marks.length cap] 34)) w.heap.size r ao cap:=⟨by simp,by simp,by simp,by simp⟩;have C:=hid Q;have HC:=hid U;have HF:=hid hF;have HD:=hid f;have B:=hid P;have E:=hid R;clear Q U hF f P R v y T hd;obtain⟨q,hq⟩:=Nm r;obtain⟨who,act,on,ms⟩:=r;unfold Ref.qY at C |-;simp only at C B E |-;go_enter func88,ntmps88
 go_wp2
 go_loopw [15] (λi wr=>∃k:Nat,k<=L.length/\i = .int .i64 k/\De.yc eff ⟨who,act,on,ms⟩ (L.drop k)=F/\Below w.heap.size w wr/\XJ wr w.heap.size ⟨who,act,on,ms⟩ ao cap) (λi _=>L.length-(intOf i).toNat)
 case atStart=>exact⟨0,zU _,rfl,HF.out,B.out,E.out⟩
 case round=>
  obtain⟨k,hk,rfl,u,X,t⟩:=hrel;have n:=hid u;have s:=hid X;have G:=hid t;obtain⟨z0,z1,z2,z3⟩:=t;clear u X B E
  by_cases hlt:k<L.length
  ·obtain⟨gb,o,I,rfl,_,q0,q1,a⟩:=HC.out k L[k] (zt hlt);obtain⟨da,dc,rfl,_⟩:=BL a;have Z:=zh s.out q0;have K:=zh s.out q1;have b:=HD.out k hlt;rw[n.out] at b;have l:=λ(W:World) (hb:Below w.heap.size w W)=>C.out W hb _ L[k] (xg hlt) a;obtain⟨x,A⟩:=Nm (L[k]);simp only[A] at Z K b l;obtain⟨nm,ss⟩:=x;simp only at Z K b l;obtain⟨m,V⟩:=Nm ss.length;simp only[V] at K l;obtain⟨D,S⟩:=Nm (De.uA eff ⟨who,act,on,ms⟩ ss);simp only[S] at b l;have c:=λO=>s.out.alloc s.out.size O;have d:=λO:Obj=>YZ G.out (nB wr O);have v0:=λO:Obj=>(d O).1;have v1:=λO:Obj=>(d O).2.1;have v2:=λO:Obj=>(d O).2.2.1;have v3:=λO:Obj=>(d O).2.2.2;simp only at v0 v1 v2 v3;have z:=hid l;have p:=hid b;clear l b a q0 q1 A V S
   cases D with
   | none=>
    simp only[kU] at z
    go_wp2_with (go_at_call 137;refine (z.out _ (c _)).mono ?_;rintro e N ⟨rfl,j⟩;have g:Hid (Below w.heap.size w N):=(c _).trans (j.mono (c _).size);have H:=hid (YZ (d _) j);clear j)
    refine⟨⟨k+1,by omega,by go_num,p.out.symm,g.out,H.out⟩,by simp[intOf];omega⟩
   | some i=>
    simp only[uw] at z
    go_wp2_with (go_at_call 137;refine (z.out _ (c _)).mono ?_;rintro e N ⟨rfl,j⟩;have g:Hid (Below w.heap.size w N):=(c _).trans (j.mono (c _).size);have b2:=zh j (zf (zL wr (.cells #[.string nm,.slice da m dc] 156)) 0).1;clear j)
    go_ret3;exact⟨by rw[p.out];rfl,g.out⟩
  ·have J:k=L.length:=by omega
   subst J;have e:=n.out;rw[Vw] at e;have HE:=hid e;clear e
   go_wp2
   go_ret3;exact⟨by rw[<- HE.out];rfl,s.out⟩
def ZX(v l:Int)(n:BA)(k:Int):Value := .agg #[.int .i64 v,.int .i64 l,.string n,.int .i64 k]
def Ym(F:Option (Nat×BA×Nat)):Value:=match F with
 | none => .tuple #[ZX 0 0 ⟨#[]⟩ 0,.bool false]
 | some (i,n,k) => .tuple #[ZX 0 ((i:Nat):Int) n ((k:Nat):Int),.bool true]
def jE(a b c d:Value):Obj := .cells #[a,b,c,d] 37
def YH:Obj:=jE (.int .i64 0) (.int .i64 0) (.string ⟨#[]⟩) (.int .i64 0)
theorem bM{W:World}{b:Nat}{f g i j:Value}(h:W.heap[b]?=some (jE f g i j))(a c d e:Value) :
  ((((W.setCell ⟨b,0,none⟩ a).setCell ⟨b,1,none⟩ c).setCell ⟨b,2,none⟩ d).setCell ⟨b,3,none⟩ e).heap[b]?=some (jE a c d e):=by
 have k:=uC W b 0 _ _ a h;have l:=uC _ b 1 _ _ c k;have m:=uC _ b 2 _ _ d l;exact uC _ b 3 _ _ e m
theorem IP(a:Nat->List zu)(eff:BA)(r:Ref.Req)(is:List Nat)(k:Nat)(h:k<is.length):De.qX a eff r (is.drop k)=match De.yc eff r (a is[k]) with
  | some (n,i)=>some (is[k],n,i)
  | none=>De.qX a eff r (is.drop (k+1)):=by
 rw[ZQ h]
 rfl
theorem gp(G:Nat)(A:StO)(eff:BA)(r:Ref.Req)(ao so:Option Addr)(cap sc:Nat)(is:List Nat)(M:Nat->Prop)(w:World)(h:qN M w G A)(hi:∀i ∈ is,i<4)(hn:is.length<=100)(hs:∀j,(hj:j<is.length)->∃gb o,so=some ⟨gb,o,none⟩/\w.cell? ⟨gb,o+j,none⟩=some (.int .i64 ((is[j]:Nat):Int)))(R:xD w ao r.marks)(S:Ref.yT r=true)(hE:xK w) :
  Calls prog 49 #[.pointer (some ⟨G,0,none⟩),.string eff,Ref.qY r ao cap,.slice so is.length sc] w λe g=>e = .returned (Ym (De.qX A eff r is))/\Below w.heap.size w g:=by
 have cL:=λ(W:World) (hb:Below w.heap.size w W) (i:Nat) (y:i<4) (lv:Value) (hl:xO M W lv (A i))=>Ni (A i) lv eff r ao cap M W hl (λx hx=>(h.good i y).2.2 x hx) (by have:=(h.good i y).2.1;omega) (kF R hb) S (hE.below hb);obtain⟨F,hF⟩:=Nm (De.qX A eff r is);rw[hF];have l:=λk h=>IP A eff r is k h;obtain⟨u,N⟩:∃W,w.alloc (.cells #[.string r.who,.string r.act,.string r.on,.slice ao r.marks.length cap] 34)=W:=⟨_,rfl⟩;have s1:u.heap.size=w.heap.size+1:=by rw[<- N];simp
 have T:u.heap[w.heap.size]?=some (.cells #[.string r.who,.string r.act,.string r.on,.slice ao r.marks.length cap] 34):=by rw[<- N];exact zL w _
 have b1:Below w.heap.size w u:=by rw[<- N];exact nB w _
 obtain⟨L,Y⟩:∃W,u.alloc YH=W:=⟨_,rfl⟩;have n2:L.heap[w.heap.size+1]?=some YH:=by rw[<- Y,<- s1];exact zL u _
 have b2:Below u.heap.size u L:=by rw[<- Y];exact nB u _
 have bw:Below w.heap.size w L:=b1.trans (b2.mono b1.size);have g2:XJ L w.heap.size r ao cap:=YZ ⟨(zf T 0).1,(zf T 1).1,(zf T 2).1,(zf T 3).1⟩ b2;have HW:Hid ((w.alloc (.cells #[.string r.who,.string r.act,.string r.on,.slice ao r.marks.length cap] 34)).alloc (.cells #[.int .i64 0,.int .i64 0,.string ⟨#[]⟩,.int .i64 0] 37)=L):=hid (by rw[N];exact Y);have g1:G<w.heap.size:=by obtain⟨vs,Z,_⟩:=h.row;exact zY Z
 have CL:=hid cL;have HF:=hid hF;have HD:=hid l;have HO:=hid h;have HI:=hid hi;have HS:=hid hs;have BW:=hid bw;have G2:=hid g2;have N2:=hid n2;clear cL hF l h hi hs bw g2 n2 b1 b2 T N Y s1 R S hE;obtain⟨who,act,on,ms⟩:=r;unfold Ref.qY at CL |-;simp only at CL HW |-;go_enter func49,ntmps49
 go_upto_region 1 with fail
 rw[HW.out];go_wp2_with fail
 go_loopw [17] (λi wr=>∃k:Nat,k<=is.length/\i = .int .i64 k/\De.qX A eff ⟨who,act,on,ms⟩ (is.drop k)=F/\Below w.heap.size w wr/\XJ wr w.heap.size ⟨who,act,on,ms⟩ ao cap/\wr.heap[w.heap.size+1]?=some YH) (λi _=>is.length-(intOf i).toNat)
 case atStart=>exact⟨0,zU _,rfl,HF.out,BW.out,G2.out,N2.out⟩
 case round=>
  obtain⟨k,hk,rfl,P,hw,O,s⟩:=hrel;have I:=hid P;have t:=hid hw;have a3:=hid O;have K:=hid s;obtain⟨z0,z1,z2,z3⟩:=O;simp only at z0 z1 z2 z3;have y0:=(zf s 0).1;have y1:=(zf s 1).1;have y2:=(zf s 2).1;have y3:=(zf s 3).1;have t0:=(zf s 0).2;have t1:=(zf s 1).2;have t2:=(zf s 2).2;have t3:=(zf s 3).2;simp at y0 y1 y2 y3 t0 t1 t2 t3;clear P hw s BW G2 N2
  by_cases hlt:k<is.length
  ·obtain⟨gb,o,rfl,q0⟩:=HS.out k hlt;have p0:=zh t.out q0;have q:=HD.out k hlt;rw[I.out] at q;have y:=HI.out is[k] (xg hlt);obtain⟨i,Q⟩:=Nm (is[k]);simp only[Q] at p0 q y;obtain⟨vs,z,m⟩:=(HO.out.below t.out).row;have c0:wr.cell? ⟨G,i,none⟩=some (vs i):=(zf z i).1.trans (Yn vs y);obtain⟨la,ln,lc,Z⟩:∃a n c,vs i = .slice a n c:=by obtain⟨a,c,e,_⟩:=m i y;exact⟨a,_,c,e⟩
   have E:=m i y;rw[Z] at c0 E;have B:=hid (CL.out wr.drew t.out.drew i y _ (E.turn (zC.of (zi _ wr).drew)));obtain⟨D,hD⟩:=Nm (De.yc eff ⟨who,act,on,ms⟩ (A i));rw[hD] at B q;have J:=hid q;have k0:(0:Int)<=(i:Int):=jL _;have k1:(i:Int)<4:=by omega
   clear z m Z E q0 q Q hD
   cases D with
   | none=>
    unfold dw at B;simp only at B;go_wp2_with fail
    go_region_held3 (λg=>g.cell? ⟨G,i,none⟩=some (.slice la ln lc)/\g.cell? ⟨w.heap.size,0,none⟩=some (.string who)/\g.cell? ⟨w.heap.size,1,none⟩=some (.string act)/\g.cell? ⟨w.heap.size,2,none⟩=some (.string on)/\g.cell? ⟨w.heap.size,3,none⟩=some (.slice ao ms.length cap)) (go_keep) (first
     | ((go_at_call 88);refine B.out.mono ?_;rintro e H ⟨rfl,bb⟩;have f:Below wr.heap.size wr H:=(zi _ wr).drew.trans bb;have e0:=zh f c0;have e1:=zh f z0;have e2:=zh f z1;have e3:=zh f z2;have e4:=zh f z3;have b:=hid ((f.block (w.heap.size+1) (zY K.out)).trans K.out);have a4:=hid (YZ a3.out f);have C:Hid (Below w.heap.size w H):=t.out.trans (f.mono t.out.size);clear bb f))
    all_goals
     go_wp2_with fail
     go_roundw
     case rel=>exact⟨k+1,by omega,by go_num,J.out.symm,C.out,a4.out,b.out⟩
     case measure=>simp[intOf];omega
   | some d=>
    obtain⟨nm,num⟩:=d;unfold dw at B;simp only at B;go_wp2_with fail
    go_region_held3 (λg=>g.cell? ⟨G,i,none⟩=some (.slice la ln lc)/\g.cell? ⟨w.heap.size,0,none⟩=some (.string who)/\g.cell? ⟨w.heap.size,1,none⟩=some (.string act)/\g.cell? ⟨w.heap.size,2,none⟩=some (.string on)/\g.cell? ⟨w.heap.size,3,none⟩=some (.slice ao ms.length cap)) (go_keep) (first
     | ((go_at_call 88);refine B.out.mono ?_;rintro e H ⟨rfl,bb⟩;have f:Below wr.heap.size wr H:=(zi _ wr).drew.trans bb;have e0:=zh f c0;have e1:=zh f z0;have e2:=zh f z1;have e3:=zh f z2;have e4:=zh f z3;have b:=hid ((f.block (w.heap.size+1) (zY K.out)).trans K.out);have C:Hid (Below w.heap.size w H):=t.out.trans (f.mono t.out.size);clear bb f))
    all_goals
     have y0:=(zf b.out 0).1;have y1:=(zf b.out 1).1;have y2:=(zf b.out 2).1;have y3:=(zf b.out 3).1;have t0:=(zf b.out 0).2;have t1:=(zf b.out 1).2;have t2:=(zf b.out 2).2;have t3:=(zf b.out 3).2;simp at y0 y1 y2 y3 t0 t1 t2 t3;have p:=bM b.out (.int .i64 0) (.int .i64 (i:Int)) (.string nm) (.int .i64 (num:Int));have r0:=(zf p 0).1;have U:=(zf p 1).1;have V:=(zf p 2).1;have X:=(zf p 3).1;simp at r0 U V X;have a2:Hid (Below w.heap.size w ((((H.setCell ⟨w.heap.size+1,0,none⟩ (.int .i64 0)).setCell ⟨w.heap.size+1,1,none⟩ (.int .i64 (i:Int))).setCell ⟨w.heap.size+1,2,none⟩ (.string nm)).setCell ⟨w.heap.size+1,3,none⟩ (.int .i64 (num:Int)))):=hid ((((C.out.setCell (by simp) _).setCell (by simp) _).setCell (by simp) _).setCell (by simp) _);clear p;go_wp2_with fail;exact qa (v := .tuple #[.agg #[.int .i64 0,.int .i64 (i:Int),.string nm,.int .i64 (num:Int)],.bool true]) (by simp[results,results49,go_sem,r0,U,V,X]) rfl ⟨by rw[J.out];rfl,a2.out⟩
  ·have a8:k=is.length:=by omega
   subst a8;have e:=I.out;rw[Vw] at e;have HE:=hid e;have p:=bM K.out (.int .i64 0) (.int .i64 0) (.string ⟨#[]⟩) (.int .i64 0);have r0:=(zf p 0).1;have U:=(zf p 1).1;have V:=(zf p 2).1;have X:=(zf p 3).1;simp at r0 U V X;clear e p;go_wp2_with fail;exact qa (v := .tuple #[.agg #[.int .i64 0,.int .i64 0,.string ⟨#[]⟩,.int .i64 0],.bool false]) (by simp[results,results49,go_sem,r0,U,V,X]) rfl ⟨by rw[<- HE.out];rfl,(((t.out.setCell (by simp) _).setCell (by simp) _).setCell (by simp) _).setCell (by simp) _⟩
theorem IQ(a:Nat->List zu)(eff:BA)(r:Ref.Req)(i:Nat):(De.qX a eff r [i]).isSome=(De.yc eff r (a i)).isSome:=by
 simp only[De.qX]
 cases De.yc eff r (a i) with
 | none=>rfl
 | some d=>rfl
theorem Nt(z:Nat)(k:StO)(i:Nat)(r:Ref.Req)(ao:Option Addr)(cap:Nat)(M:Nat->Prop)(w:World)(h:qN M w z k)(K:i<4)(t:xD w ao r.marks)(u:Ref.yT r=true)(L:xK w) :
  Calls prog 50 #[.pointer (some ⟨z,0,none⟩),.int .i64 ((i:Nat):Int),Ref.qY r ao cap] w λe U=>e = .returned (.bool (De.jH k r i))/\Below w.heap.size w U:=by
 obtain⟨f,x⟩:∃W,w.alloc (.cells #[.string r.who,.string r.act,.string r.on,.slice ao r.marks.length cap] 34)=W:=⟨_,rfl⟩;have v:f.heap[w.heap.size]?=some (.cells #[.string r.who,.string r.act,.string r.on,.slice ao r.marks.length cap] 34):=by rw[<- x];exact zL w _
 have p:Below w.heap.size w f:=by rw[<- x];exact nB w _
 obtain⟨V,X,Y,Z⟩:XJ f w.heap.size r ao cap:=⟨(zf v 0).1,(zf v 1).1,(zf v 2).1,(zf v 3).1⟩;have G:Below f.heap.size f (f.alloc (.cells #[.int .i64 ((i:Nat):Int)] 3)):=nB f _;have q:Below w.heap.size w (f.alloc (.cells #[.int .i64 ((i:Nat):Int)] 3)):=p.trans (G.mono p.size)
 have C:=gp z k De.xR r ao (some ⟨f.heap.size,0,none⟩) cap 1 [i] M (f.alloc (.cells #[.int .i64 ((i:Nat):Int)] 3)) (h.below q) (λj y=>by simp at y;omega) (by simp) (λj y=>by
   simp at y;subst y;exact⟨_,_,rfl,by simp⟩) (kF t q) u (L.below q)
 obtain⟨E,m,l⟩:=(h.below p).row;have c0:f.cell? ⟨z,i,none⟩=some (E i):=(zf m i).1.trans (Yn E K);obtain⟨la,lc,O⟩:∃a c,E i = .slice a (k i).length c:=by obtain⟨a,c,e,_⟩:=l i K;exact⟨a,c,e⟩
 rw[O] at c0;have k0:(0:Int)<=(i:Int):=jL _;have k1:(i:Int)<4:=by omega
 have g:=IQ k De.xR r i;unfold De.jH;rw[<- g];obtain⟨F,hF⟩:=Nm (De.qX k De.xR r [i]);rw[hF] at C |-;have s:(k i).isEmpty=decide ((k i).length=0):=by cases k i<;>simp
 rw[s];obtain⟨n,N⟩:=Nm ((k i).length);rw[N] at c0 |-;have B:=hid x;have o:=hid C;have T:=hid p;have A:=hid q;obtain⟨who,act,on,ms⟩:=r;unfold Ref.qY at o |-;simp only at o B V X Y Z |-;unfold De.xR at o;clear C hF g m l O h t u L x p G q v s N
 by_cases hz:n=0
 ·subst hz;go_enter func50,ntmps50
  go_upto_region 1 with fail
  rw[B.out];go_wp2_with fail;go_ret;exact⟨rfl,T.out⟩
 ·have d:((n:Int)==0)=false:=by simp;omega
  rw[zH hz,Xo]
  have e:∃D b,Ym F = .tuple #[D,.bool b]/\b=F.isSome/\∃P Q R S,D=ZX P Q R S:=by
   cases F with
   | none=>exact⟨_,_,rfl,rfl,_,_,_,_,rfl⟩
   | some d=>exact⟨_,_,rfl,rfl,_,_,_,_,rfl⟩
  obtain⟨D,b,I,J,P,Q,R,S,rfl⟩:=e;rw[I] at o;rw[<- J];unfold ZX at o;clear I J;go_enter func50,ntmps50
  go_upto_region 1 with fail
  rw[B.out]
  go_wp2_with (go_at_call 49;refine o.out.mono ?_;rintro e w3 ⟨rfl,H⟩)
  go_ret;exact⟨rfl,(A.out.trans (H.mono A.out.size)).alloc (by have:=A.out.size;have:=H.size;omega) _⟩
def Pg.reqLen(r:Ref.Req):Prop:=r.who.size<=maxLen/\r.act.size<=maxLen/\r.on.size<=maxLen/\r.marks.length<=100000000000/\∀m ∈ r.marks,m.1.size<=maxLen/\m.2.size<=maxLen
theorem Oc(r:Ref.Req)(ao:Option Addr)(cap:Nat)(w:World)(D:xD w ao r.marks)(K:Pg.reqLen r)(B:uZ w) :
  Calls prog 22 #[Ref.qY r ao cap] w λe M=>e = .returned (.bool (Ref.yT r))/\Below w.heap.size w M:=by
 obtain⟨who,act,on,ms⟩:=r;obtain⟨F,G,H,I,J⟩:=K;simp only at F G H I J D
 have x:=λW hb=>Dm ms ao cap W I (λj E=>by
  exact J (kE ms j) (by rw[Ja ms j E];exact xg E)) (kF D hb) (B.below hb)
 generalize m:Ref.yT ⟨who,act,on,ms⟩=Q;unfold Ref.yT at m;simp only at m;unfold Ref.qY;simp only;have n:=λO=>nB w O;have c1:=Kc who _ rfl F;have c2:=Kc act _ rfl G;have c3:=Kc on _ rfl H;have l:∀g,Below w.heap.size w g->uZ g:=λg h=>B.below h;clear D B
 cases d1:Ref.vg who with
 | false=>
  have e:Q=false:=by rw[<- m,d1];simp
  subst e;rw[d1] at c1;clear m d1 x c2 c3;go_enter func22,ntmps22
  go_wp2_with (go_at_call 46;refine (c1 _ (l _ (n _))).mono ?_;rintro e g ⟨rfl,a⟩)
  go_ret;exact⟨rfl,(n _).trans (a.mono (by simp))⟩
 | true=>
 rw[d1] at c1
 cases d2:Ref.vg act with
 | false=>
  have e:Q=false:=by rw[<- m,d2];simp
  subst e;rw[d2] at c2;clear m d1 d2 x c3;go_enter func22,ntmps22
  go_wp2_with (first
   | (go_at_call 46;refine (c2 g (l _ b)).mono ?_;rintro e k ⟨rfl,c⟩;have d:Below w.heap.size w k:=b.trans (c.mono b.size);obtain⟨q,t⟩:=y8 c;have v:w.heap.size<k.heap.size:=by (have:=c.size;omega))
   | (go_at_call 46;refine (c1 _ (l _ (n _))).mono ?_;rintro e g ⟨rfl,a⟩;have b:Below w.heap.size w g:=(n _).trans (a.mono (by simp));obtain⟨p,s⟩:=y8 a;have u:w.heap.size<g.heap.size:=by (have:=a.size;simp at this;omega)))
  go_ret;exact⟨rfl,d⟩
 | true=>
 rw[d2] at c2
 cases d3:Ref.vg on with
 | false=>
  have e:Q=false:=by rw[<- m,d3];simp
  subst e;rw[d3] at c3;clear m d1 d2 d3 x;go_enter func22,ntmps22
  go_wp2_with (first
   | (go_at_call 46;refine (c3 k (l _ d)).mono ?_;rintro e o ⟨rfl,f⟩;have i:Below w.heap.size w o:=d.trans (f.mono d.size);obtain⟨y,z⟩:=y8 f;have A:w.heap.size<o.heap.size:=by (have:=f.size;omega))
   | (go_at_call 46;refine (c2 g (l _ b)).mono ?_;rintro e k ⟨rfl,c⟩;have d:Below w.heap.size w k:=b.trans (c.mono b.size);obtain⟨q,t⟩:=y8 c;have v:w.heap.size<k.heap.size:=by (have:=c.size;omega))
   | (go_at_call 46;refine (c1 _ (l _ (n _))).mono ?_;rintro e g ⟨rfl,a⟩;have b:Below w.heap.size w g:=(n _).trans (a.mono (by simp));obtain⟨p,s⟩:=y8 a;have u:w.heap.size<g.heap.size:=by (have:=a.size;simp at this;omega)))
  go_ret;exact⟨rfl,i⟩
 | true=>
 rw[d3] at c3
 by_cases d4:ms.length<=10
 ·have e:Q=ms.all Ref.Z8:=by rw[<- m,d1,d2,d3,zF d4];simp
  have L:decide ((ms.length:Int)<=10)=true:=zF (by omega);rw[<- e] at x;clear m d1 d2 d3 d4 e;go_enter func22,ntmps22
  go_wp2_with (first
   | (go_at_call 47;refine (x o i).mono ?_;rintro e N ⟨rfl,C⟩)
   | (go_at_call 46;refine (c3 k (l _ d)).mono ?_;rintro e o ⟨rfl,f⟩;have i:Below w.heap.size w o:=d.trans (f.mono d.size);obtain⟨y,z⟩:=y8 f;have A:w.heap.size<o.heap.size:=by (have:=f.size;omega))
   | (go_at_call 46;refine (c2 g (l _ b)).mono ?_;rintro e k ⟨rfl,c⟩;have d:Below w.heap.size w k:=b.trans (c.mono b.size);obtain⟨q,t⟩:=y8 c;have v:w.heap.size<k.heap.size:=by (have:=c.size;omega))
   | (go_at_call 46;refine (c1 _ (l _ (n _))).mono ?_;rintro e g ⟨rfl,a⟩;have b:Below w.heap.size w g:=(n _).trans (a.mono (by simp));obtain⟨p,s⟩:=y8 a;have u:w.heap.size<g.heap.size:=by (have:=a.size;simp at this;omega)))
  go_ret;exact⟨rfl,i.trans (C.mono i.size)⟩
 ·have e:Q=false:=by rw[<- m,zH d4];simp
  have L:decide ((ms.length:Int)<=10)=false:=zH (by omega);subst e;clear m d1 d2 d3 d4 x;go_enter func22,ntmps22
  go_wp2_with (first
   | (go_at_call 46;refine (c3 k (l _ d)).mono ?_;rintro e o ⟨rfl,f⟩;have i:Below w.heap.size w o:=d.trans (f.mono d.size);obtain⟨y,z⟩:=y8 f;have A:w.heap.size<o.heap.size:=by (have:=f.size;omega))
   | (go_at_call 46;refine (c2 g (l _ b)).mono ?_;rintro e k ⟨rfl,c⟩;have d:Below w.heap.size w k:=b.trans (c.mono b.size);obtain⟨q,t⟩:=y8 c;have v:w.heap.size<k.heap.size:=by (have:=c.size;omega))
   | (go_at_call 46;refine (c1 _ (l _ (n _))).mono ?_;rintro e g ⟨rfl,a⟩;have b:Below w.heap.size w g:=(n _).trans (a.mono (by simp));obtain⟨p,s⟩:=y8 a;have u:w.heap.size<g.heap.size:=by (have:=a.size;simp at this;omega)))
  go_ret;exact⟨rfl,i⟩
end Go.Proofs.YtagnlbgbnfnapaaGreatDoor
