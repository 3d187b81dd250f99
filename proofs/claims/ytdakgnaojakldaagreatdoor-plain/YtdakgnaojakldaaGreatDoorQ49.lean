/- P -/
import Derived.Test.YtdakgnaojakldaaGreatDoorQ48
open Go.Proofs.Tryz
set_option maxRecDepth 100000
set_option maxHeartbeats 4000000
namespace Go.Proofs.YtdakgnaojakldaaGreatDoor
open Go.RowKit
theorem GD{α:Type}(l:List α)(d:α)(p:α->Bool):zw (λj=>p (l.getD j d)) l.length=l.findIdx? p:=by
 have c:∀j,(h:j<l.length)->l.getD j d=l[j]:=λj h=>by rw[zL,zl h];rfl
 cases h:l.findIdx? p with
 | none=>
  have b:=List.findIdx?_eq_none_iff.1 h;exact ZZ _ _ (λj a=>by show p (l.getD j d)=false;rw[c j a];exact b _ (qH a))
 | some k=>
  obtain⟨e,f,b⟩:=Bd.1 h;exact ZY _ _ k e (λj a=>by show p (l.getD j d)=false;rw[c j (by omega)];simpa using b j a) (by show p (l.getD k d)=true;rw[c k e];exact f)
theorem EW(s:zB)(h i j k:Value)(eff:BA)(r:Ref.Req)(ao:Option Addr)(cap p q:Nat)(w:World)(b:X4 w h i j k s)(x:YY s)(y:YW s)(z:∀c ∈ s.ifs,c.vals.length<=1000)(f:yK w ao r.marks)(g:Ref.yN r=true)(v:xH w)
  (t:w.cell? ⟨p,0,none⟩=some (.string eff))(H:Xd w q r ao cap) :
  Calls prog 226 #[.agg #[.string s.eff,.bool s.who.1,h,.bool s.act.1,i,.bool s.on.1,j,k],.pointer (some ⟨p,0,none⟩),.pointer (some ⟨q,0,none⟩)] w λe I=>e = .returned (.bool (De.Xm eff r s))/\Below w.heap.size w I:=by
 have a:=λO:Obj=>nB w O;have d:=λO:Obj=>Cb s h i j k r ao cap (w.alloc O) (b.below (a O)) x y z (uG f (a O)) g (v.below (a O));have R:=λO:Obj=>zg (a O) t;obtain⟨q2,B,C,D⟩:=H;have l:=λO:Obj=>zg (a O) q2;have m:=λO:Obj=>zg (a O) B;have n:=λO:Obj=>zg (a O) C;have o:=λO:Obj=>zg (a O) D;obtain⟨J,W,rfl,_⟩:=b.who;obtain⟨K,X,rfl,_⟩:=b.act;obtain⟨L,Y,rfl,_⟩:=b.on;obtain⟨M,Z,rfl,_⟩:=b.ifs;unfold De.Xm;obtain⟨A,u⟩:=Nm (De.Uh s r);rw[u] at d |-;clear u b x y z f g v t q2 B C D;obtain⟨who,act,on,ms⟩:=r;obtain⟨G,⟨N,S⟩,⟨P,T⟩,⟨Q,U⟩,cs⟩:=s;unfold Ref.qR at d;simp only at d l m n o |-;have E:=hid d;clear d
 cases hh:(G.toList==eff.toList) with
 | false=>
  rw[XA];go_enter func226,ntmps226;go_wp2_with fail;go_ret;exact⟨rfl,a _⟩
 | true=>
  rw[Qi];go_enter func226,ntmps226
  go_wp2_with (go_at_call 227;refine (E.out _).mono ?_;rintro e V ⟨rfl,F⟩)
  go_ret;exact⟨rfl,(a _).trans (F.mono (a _).size)⟩
theorem XI.few{b:List zB}(h:XI b):∀s ∈ b,YY s/\YW s/\∀c ∈ s.ifs,c.vals.length<=1000:=
 λs a=>⟨h.2.2 s a,YW.of (h.2.1 s a),λc d=>by have:=((h.2.1 s a).cs c d).2.2.1;omega⟩
theorem EX(b:List zB)(h:Value)(eff:BA)(r:Ref.Req)(ao:Option Addr)(cap:Nat)(w:World)(J:X5 w h b)(hd:XI b)(o:yK w ao r.marks)(p:Ref.yN r=true)(H:xH w) :
  Calls prog 189 #[.agg #[h],.string eff,Ref.qR r ao cap] w λe U=>e = .returned (.tuple #[.int .i64 (match De.XT eff r b with|none=>0|some k=>((k+1:Nat):Int)),.bool (De.XT eff r b).isSome])/\Below w.heap.size w U:=by
 obtain⟨d,j⟩:∃W,w.alloc (.cells #[h] 72)=W:=⟨_,rfl⟩;have D:d.heap.size=w.heap.size+1:=by rw[<- j];simp
 have K:d.heap[w.heap.size]?=some (.cells #[h] 72):=by rw[<- j];exact zM w _
 have z:Below w.heap.size w d:=by rw[<- j];exact nB w _
 obtain⟨f,l⟩:∃W,d.alloc (.cells #[.string eff] 9)=W:=⟨_,rfl⟩;have M:f.heap.size=w.heap.size+2:=by rw[<- l];simp[D]
 have L:f.heap[w.heap.size+1]?=some (.cells #[.string eff] 9):=by rw[<- l,<- D];exact zM d _
 have u:Below d.heap.size d f:=by rw[<- l];exact nB d _
 obtain⟨g,x⟩:∃W,f.alloc (.cells #[.string r.who,.string r.act,.string r.on,.slice ao r.marks.length cap] 53)=W:=⟨_,rfl⟩;have q:g.heap[w.heap.size+2]?=some (.cells #[.string r.who,.string r.act,.string r.on,.slice ao r.marks.length cap] 53):=by rw[<- x,<- M];exact zM f _
 have v:Below f.heap.size f g:=by rw[<- x];exact nB f _
 have i:Below w.heap.size w g:=z.trans ((u.trans (v.mono u.size)).mono z.size);have X:g.cell? ⟨w.heap.size,0,none⟩=some h:=zg v (zg u (zf K 0).1);have E:g.cell? ⟨w.heap.size+1,0,none⟩=some (.string eff):=zg v (zf L 0).1;have G:Xd g (w.heap.size+2) r ao cap:=⟨(zf q 0).1,(zf q 1).1,(zf q 2).1,(zf q 3).1⟩
 have c:=GK b h 226 #[.pointer (some ⟨w.heap.size+1,0,none⟩),.pointer (some ⟨w.heap.size+2,0,none⟩)] (De.Xm eff r) g (by have:=hd.1;omega) (enters_of func226 (by kernel_rfl) rfl) (J.below i)
  (λW s Q R S T P hb B=>by
    obtain⟨f1,f2,O⟩:=hd.few s P;have m:Below w.heap.size w W:=i.trans (hb.mono i.size);exact EW s Q R S T eff r ao cap (w.heap.size+1) (w.heap.size+2) W B f1 f2 O (uG o m) p (H.below m) (zg hb E) (Yu G hb))
 rw[GD] at c;have n:De.XT eff r b=b.findIdx? (De.Xm eff r):=rfl;rw[n]
 have hle:∀k,b.findIdx? (De.Xm eff r)=some k->k<100:=λk I=>by
  have:=(Bd.1 I).1
  have:=hd.1
  omega
 obtain⟨F,hF⟩:=Nm (b.findIdx? (De.Xm eff r));rw[hF] at c hle |-;obtain⟨a,N,rfl,_⟩:=J;have C:=hid c;have y:Hid (((w.alloc (.cells #[.slice a b.length N] 72)).alloc (.cells #[.string eff] 9)).alloc (.cells #[.string r.who,.string r.act,.string r.on,.slice ao r.marks.length cap] 53)=g):=hid (by rw[j,l,x]);have t:=hid i;obtain⟨who,act,on,ms⟩:=r;unfold Ref.qR;simp only at y |-;clear c hF n hd o p H j l x K L q z u v i D M E G
 cases F with
 | none=>
  simp only[Qu,kS] at C |-;go_enter func189,ntmps189
  go_upto_region 1 with fail
  rw[y.out]
  go_wp2_with (go_at_call 225;refine C.out.mono ?_;rintro e V ⟨rfl,A⟩)
  go_ret2;exact⟨rfl,t.out.trans (A.mono t.out.size)⟩
 | some k=>
  have I:=hle k rfl;simp only[yE,vT] at C |-;go_enter func189,ntmps189
  go_upto_region 1 with fail
  rw[y.out]
  go_wp2_with (go_at_call 225;refine C.out.mono ?_;rintro e V ⟨rfl,A⟩)
  go_ret2;exact⟨by go_num,t.out.trans (A.mono t.out.size)⟩
def bq(F:Option (BA×Nat)):Value:=match F with
 | none => .tuple #[.string ⟨#[]⟩,.int .i64 0,.bool false]
 | some (n,k) => .tuple #[.string n,.int .i64 ((k:Nat):Int),.bool true]
theorem Gy(eff:BA)(r:Ref.Req)(L:List zy)(k:Nat)(h:k<L.length):De.kr eff r (L.drop k)=match De.XT eff r L[k].2 with
  | some i=>some (L[k].1,i+1)
  | none=>De.kr eff r (L.drop (k+1)):=by
 rw[uS h]
 rfl
theorem ME(L:List zy)(Y:Value)(eff:BA)(r:Ref.Req)(ao:Option Addr)(cap:Nat)(M:Nat->Prop)(w:World)(hl:xk M w Y L)(hd:∀x ∈ L,XI x.2)(hn:L.length<=1000)(v:yK w ao r.marks)(y:Ref.yN r=true)(T:xH w) :
  Calls prog 142 #[Y,.string eff,Ref.qR r ao cap] w λe w'=>e = .returned (bq (De.kr eff r L))/\Below w.heap.size w w':=by
 obtain⟨la,lc,rfl,_,_,_,U⟩:=hl;have Q:=λ(W:World) (hb:Below w.heap.size w W) (I:Value) (x:zy) (A:x ∈ L) (a:ym M w I x.2)=>EX x.2 I eff r ao cap W ((Ae a).below hb) (hd x A) (uG v hb) y (T.below hb);obtain⟨F,hF⟩:=Nm (De.kr eff r L);rw[hF];have f:=λk h=>Gy eff r L k h;have P:Below w.heap.size w (w.alloc (.cells #[.string r.who,.string r.act,.string r.on,.slice ao r.marks.length cap] 53)):=nB w _;have R:Xd (w.alloc (.cells #[.string r.who,.string r.act,.string r.on,.slice ao r.marks.length cap] 53)) w.heap.size r ao cap:=⟨by simp,by simp,by simp,by simp⟩;have C:=hid Q;have HC:=hid U;have HF:=hid hF;have HD:=hid f;have B:=hid P;have E:=hid R;clear Q U hF f P R v y T hd;obtain⟨q,hq⟩:=Nm r;obtain⟨who,act,on,ms⟩:=r;unfold Ref.qR at C |-;simp only at C B E |-;go_enter func142,ntmps142
 go_wp2
 go_loopw [15] (λi wr=>∃k:Nat,k<=L.length/\i = .int .i64 k/\De.kr eff ⟨who,act,on,ms⟩ (L.drop k)=F/\Below w.heap.size w wr/\Xd wr w.heap.size ⟨who,act,on,ms⟩ ao cap) (λi _=>L.length-(intOf i).toNat)
 case atStart=>exact⟨0,zO _,rfl,HF.out,B.out,E.out⟩
 case round=>
  obtain⟨k,hk,rfl,u,X,t⟩:=hrel;have n:=hid u;have s:=hid X;have G:=hid t;obtain⟨z0,z1,z2,z3⟩:=t;clear u X B E
  by_cases hlt:k<L.length
  ·obtain⟨gb,o,I,rfl,_,q0,q1,a⟩:=HC.out k L[k] (zl hlt);obtain⟨da,dc,rfl,_⟩:=Ae a;have Z:=zg s.out q0;have K:=zg s.out q1;have b:=HD.out k hlt;rw[n.out] at b;have l:=λ(W:World) (hb:Below w.heap.size w W)=>C.out W hb _ L[k] (qH hlt) a;obtain⟨x,A⟩:=Nm (L[k]);simp only[A] at Z K b l;obtain⟨nm,ss⟩:=x;simp only at Z K b l;obtain⟨m,V⟩:=Nm ss.length;simp only[V] at K l;obtain⟨D,S⟩:=Nm (De.XT eff ⟨who,act,on,ms⟩ ss);simp only[S] at b l;have c:=λO=>s.out.alloc s.out.size O;have d:=λO:Obj=>Yu G.out (nB wr O);have v0:=λO:Obj=>(d O).1;have v1:=λO:Obj=>(d O).2.1;have v2:=λO:Obj=>(d O).2.2.1;have v3:=λO:Obj=>(d O).2.2.2;simp only at v0 v1 v2 v3;have z:=hid l;have p:=hid b;clear l b a q0 q1 A V S
   cases D with
   | none=>
    simp only[kS] at z
    go_wp2_with (go_at_call 189;refine (z.out _ (c _)).mono ?_;rintro e N ⟨rfl,j⟩;have g:Hid (Below w.heap.size w N):=(c _).trans (j.mono (c _).size);have H:=hid (Yu (d _) j);clear j)
    refine⟨⟨k+1,by omega,by go_num,p.out.symm,g.out,H.out⟩,by simp[intOf];omega⟩
   | some i=>
    simp only[vT] at z
    go_wp2_with (go_at_call 189;refine (z.out _ (c _)).mono ?_;rintro e N ⟨rfl,j⟩;have g:Hid (Below w.heap.size w N):=(c _).trans (j.mono (c _).size);have b2:=zg j (zf (zM wr (.cells #[.string nm,.slice da m dc] 187)) 0).1;clear j)
    go_ret3;exact⟨by rw[p.out];rfl,g.out⟩
  ·have J:k=L.length:=by omega
   subst J;have e:=n.out;rw[J6] at e;have HE:=hid e;clear e
   go_wp2
   go_ret3;exact⟨by rw[<- HE.out];rfl,s.out⟩
def ZT(v l:Int)(n:BA)(k:Int):Value := .agg #[.int .i64 v,.int .i64 l,.string n,.int .i64 k]
def XV(F:Option (Nat×BA×Nat)):Value:=match F with
 | none => .tuple #[ZT 0 0 ⟨#[]⟩ 0,.bool false]
 | some (i,n,k) => .tuple #[ZT 0 ((i:Nat):Int) n ((k:Nat):Int),.bool true]
def jq(a b c d:Value):Obj := .cells #[a,b,c,d] 48
def Yb:Obj:=jq (.int .i64 0) (.int .i64 0) (.string ⟨#[]⟩) (.int .i64 0)
theorem aR{W:World}{b:Nat}{f g i j:Value}(h:W.heap[b]?=some (jq f g i j))(a c d e:Value) :
  ((((W.setCell ⟨b,0,none⟩ a).setCell ⟨b,1,none⟩ c).setCell ⟨b,2,none⟩ d).setCell ⟨b,3,none⟩ e).heap[b]?=some (jq a c d e):=by
 have k:=vZ W b 0 _ _ a h;have l:=vZ _ b 1 _ _ c k;have m:=vZ _ b 2 _ _ d l;exact vZ _ b 3 _ _ e m
theorem Gz(st:Nat->List zy)(eff:BA)(r:Ref.Req)(is:List Nat)(k:Nat)(h:k<is.length):De.yH st eff r (is.drop k)=match De.kr eff r (st is[k]) with
  | some (n,i)=>some (is[k],n,i)
  | none=>De.yH st eff r (is.drop (k+1)):=by
 rw[uS h]
 rfl
theorem dE(E:Nat)(st:StO)(eff:BA)(r:Ref.Req)(ao so:Option Addr)(cap sc:Nat)(is:List Nat)(M:Nat->Prop)(w:World)(h:qP M w E st)(hi:∀i ∈ is,i<4)(hn:is.length<=100)(hs:∀j,(hj:j<is.length)->∃gb o,so=some ⟨gb,o,none⟩/\w.cell? ⟨gb,o+j,none⟩=some (.int .i64 ((is[j]:Nat):Int)))(R:yK w ao r.marks)(S:Ref.yN r=true)(hE:xH w) :
  Calls prog 89 #[.pointer (some ⟨E,0,none⟩),.string eff,Ref.qR r ao cap,.slice so is.length sc] w λe g=>e = .returned (XV (De.yH st eff r is))/\Below w.heap.size w g:=by
 have cL:=λ(W:World) (hb:Below w.heap.size w W) (i:Nat) (y:i<4) (lv:Value) (hl:xk M W lv (st i))=>ME (st i) lv eff r ao cap M W hl (λx hx=>(h.good i y).2.2 x hx) (by have:=(h.good i y).2.1;omega) (uG R hb) S (hE.below hb);obtain⟨F,hF⟩:=Nm (De.yH st eff r is);rw[hF];have l:=λk h=>Gz st eff r is k h;obtain⟨u,N⟩:∃W,w.alloc (.cells #[.string r.who,.string r.act,.string r.on,.slice ao r.marks.length cap] 53)=W:=⟨_,rfl⟩;have s1:u.heap.size=w.heap.size+1:=by rw[<- N];simp
 have T:u.heap[w.heap.size]?=some (.cells #[.string r.who,.string r.act,.string r.on,.slice ao r.marks.length cap] 53):=by rw[<- N];exact zM w _
 have b1:Below w.heap.size w u:=by rw[<- N];exact nB w _
 obtain⟨K,Y⟩:∃W,u.alloc Yb=W:=⟨_,rfl⟩;have n2:K.heap[w.heap.size+1]?=some Yb:=by rw[<- Y,<- s1];exact zM u _
 have b2:Below u.heap.size u K:=by rw[<- Y];exact nB u _
 have bw:Below w.heap.size w K:=b1.trans (b2.mono b1.size);have g2:Xd K w.heap.size r ao cap:=Yu ⟨(zf T 0).1,(zf T 1).1,(zf T 2).1,(zf T 3).1⟩ b2;have HW:Hid ((w.alloc (.cells #[.string r.who,.string r.act,.string r.on,.slice ao r.marks.length cap] 53)).alloc (.cells #[.int .i64 0,.int .i64 0,.string ⟨#[]⟩,.int .i64 0] 48)=K):=hid (by rw[N];exact Y);have g1:E<w.heap.size:=by obtain⟨vs,Z,_⟩:=h.row;exact qF Z
 have CL:=hid cL;have HF:=hid hF;have HD:=hid l;have HO:=hid h;have HI:=hid hi;have HS:=hid hs;have BW:=hid bw;have G2:=hid g2;have N2:=hid n2;clear cL hF l h hi hs bw g2 n2 b1 b2 T N Y s1 R S hE;obtain⟨who,act,on,ms⟩:=r;unfold Ref.qR at CL |-;simp only at CL HW |-;go_enter func89,ntmps89
 go_upto_region 1 with fail
 rw[HW.out];go_wp2_with fail
 go_loopw [17] (λi wr=>∃k:Nat,k<=is.length/\i = .int .i64 k/\De.yH st eff ⟨who,act,on,ms⟩ (is.drop k)=F/\Below w.heap.size w wr/\Xd wr w.heap.size ⟨who,act,on,ms⟩ ao cap/\wr.heap[w.heap.size+1]?=some Yb) (λi _=>is.length-(intOf i).toNat)
 case atStart=>exact⟨0,zO _,rfl,HF.out,BW.out,G2.out,N2.out⟩
 case round=>
  obtain⟨k,hk,rfl,P,hw,O,s⟩:=hrel;have H:=hid P;have t:=hid hw;have a3:=hid O;have J:=hid s;obtain⟨z0,z1,z2,z3⟩:=O;simp only at z0 z1 z2 z3;have y0:=(zf s 0).1;have y1:=(zf s 1).1;have y2:=(zf s 2).1;have y3:=(zf s 3).1;have t0:=(zf s 0).2;have t1:=(zf s 1).2;have t2:=(zf s 2).2;have t3:=(zf s 3).2;simp at y0 y1 y2 y3 t0 t1 t2 t3;clear P hw s BW G2 N2
  by_cases hlt:k<is.length
  ·obtain⟨gb,o,rfl,q0⟩:=HS.out k hlt;have p0:=zg t.out q0;have q:=HD.out k hlt;rw[H.out] at q;have y:=HI.out is[k] (qH hlt);obtain⟨i,Q⟩:=Nm (is[k]);simp only[Q] at p0 q y;obtain⟨vs,z,m⟩:=(HO.out.below t.out).row;have c0:wr.cell? ⟨E,i,none⟩=some (vs i):=(zf z i).1.trans (QE vs y);obtain⟨la,ln,lc,Z⟩:∃a n c,vs i = .slice a n c:=by obtain⟨a,c,e,_⟩:=m i y;exact⟨a,_,c,e⟩
   have C:=m i y;rw[Z] at c0 C;have A:=hid (CL.out wr.drew t.out.drew i y _ (C.turn (zT.of (zh _ wr).drew)));obtain⟨D,hD⟩:=Nm (De.kr eff ⟨who,act,on,ms⟩ (st i));rw[hD] at A q;have I:=hid q;have k0:(0:Int)<=(i:Int):=vP _;have k1:(i:Int)<4:=by omega
   clear z m Z C q0 q Q hD
   cases D with
   | none=>
    unfold bq at A;simp only at A;go_wp2_with fail
    go_region_held3 (λg=>g.cell? ⟨E,i,none⟩=some (.slice la ln lc)/\g.cell? ⟨w.heap.size,0,none⟩=some (.string who)/\g.cell? ⟨w.heap.size,1,none⟩=some (.string act)/\g.cell? ⟨w.heap.size,2,none⟩=some (.string on)/\g.cell? ⟨w.heap.size,3,none⟩=some (.slice ao ms.length cap)) (go_keep) (first
     | ((go_at_call 142);refine A.out.mono ?_;rintro e G ⟨rfl,L⟩;have f:Below wr.heap.size wr G:=(zh _ wr).drew.trans L;have e0:=zg f c0;have e1:=zg f z0;have e2:=zg f z1;have e3:=zg f z2;have e4:=zg f z3;have b:=hid ((f.block (w.heap.size+1) (qF J.out)).trans J.out);have a4:=hid (Yu a3.out f);have B:Hid (Below w.heap.size w G):=t.out.trans (f.mono t.out.size);clear L f))
    all_goals
     go_wp2_with fail
     go_roundw
     case rel=>exact⟨k+1,by omega,by go_num,I.out.symm,B.out,a4.out,b.out⟩
     case measure=>simp[intOf];omega
   | some d=>
    obtain⟨nm,num⟩:=d;unfold bq at A;simp only at A;go_wp2_with fail
    go_region_held3 (λg=>g.cell? ⟨E,i,none⟩=some (.slice la ln lc)/\g.cell? ⟨w.heap.size,0,none⟩=some (.string who)/\g.cell? ⟨w.heap.size,1,none⟩=some (.string act)/\g.cell? ⟨w.heap.size,2,none⟩=some (.string on)/\g.cell? ⟨w.heap.size,3,none⟩=some (.slice ao ms.length cap)) (go_keep) (first
     | ((go_at_call 142);refine A.out.mono ?_;rintro e G ⟨rfl,L⟩;have f:Below wr.heap.size wr G:=(zh _ wr).drew.trans L;have e0:=zg f c0;have e1:=zg f z0;have e2:=zg f z1;have e3:=zg f z2;have e4:=zg f z3;have b:=hid ((f.block (w.heap.size+1) (qF J.out)).trans J.out);have B:Hid (Below w.heap.size w G):=t.out.trans (f.mono t.out.size);clear L f))
    all_goals
     have y0:=(zf b.out 0).1;have y1:=(zf b.out 1).1;have y2:=(zf b.out 2).1;have y3:=(zf b.out 3).1;have t0:=(zf b.out 0).2;have t1:=(zf b.out 1).2;have t2:=(zf b.out 2).2;have t3:=(zf b.out 3).2;simp at y0 y1 y2 y3 t0 t1 t2 t3;have p:=aR b.out (.int .i64 0) (.int .i64 (i:Int)) (.string nm) (.int .i64 (num:Int));have r0:=(zf p 0).1;have U:=(zf p 1).1;have V:=(zf p 2).1;have X:=(zf p 3).1;simp at r0 U V X;have a2:Hid (Below w.heap.size w ((((G.setCell ⟨w.heap.size+1,0,none⟩ (.int .i64 0)).setCell ⟨w.heap.size+1,1,none⟩ (.int .i64 (i:Int))).setCell ⟨w.heap.size+1,2,none⟩ (.string nm)).setCell ⟨w.heap.size+1,3,none⟩ (.int .i64 (num:Int)))):=hid ((((B.out.setCell (by simp) _).setCell (by simp) _).setCell (by simp) _).setCell (by simp) _);clear p;go_wp2_with fail;exact zS (v := .tuple #[.agg #[.int .i64 0,.int .i64 (i:Int),.string nm,.int .i64 (num:Int)],.bool true]) (by simp[results,results89,go_sem,r0,U,V,X]) rfl ⟨by rw[I.out];rfl,a2.out⟩
  ·have a8:k=is.length:=by omega
   subst a8;have e:=H.out;rw[J6] at e;have HE:=hid e;have p:=aR J.out (.int .i64 0) (.int .i64 0) (.string ⟨#[]⟩) (.int .i64 0);have r0:=(zf p 0).1;have U:=(zf p 1).1;have V:=(zf p 2).1;have X:=(zf p 3).1;simp at r0 U V X;clear e p;go_wp2_with fail;exact zS (v := .tuple #[.agg #[.int .i64 0,.int .i64 0,.string ⟨#[]⟩,.int .i64 0],.bool false]) (by simp[results,results89,go_sem,r0,U,V,X]) rfl ⟨by rw[<- HE.out];rfl,(((t.out.setCell (by simp) _).setCell (by simp) _).setCell (by simp) _).setCell (by simp) _⟩
theorem GA(st:Nat->List zy)(eff:BA)(r:Ref.Req)(i:Nat):(De.yH st eff r [i]).isSome=(De.kr eff r (st i)).isSome:=by
 simp only[De.yH]
 cases De.kr eff r (st i) with
 | none=>rfl
 | some d=>rfl
theorem ML(y:Nat)(st:StO)(i:Nat)(r:Ref.Req)(ao:Option Addr)(cap:Nat)(M:Nat->Prop)(w:World)(h:qP M w y st)(J:i<4)(s:yK w ao r.marks)(t:Ref.yN r=true)(K:xH w) :
  Calls prog 90 #[.pointer (some ⟨y,0,none⟩),.int .i64 ((i:Nat):Int),Ref.qR r ao cap] w λe T=>e = .returned (.bool (De.XW st r i))/\Below w.heap.size w T:=by
 obtain⟨f,v⟩:∃W,w.alloc (.cells #[.string r.who,.string r.act,.string r.on,.slice ao r.marks.length cap] 53)=W:=⟨_,rfl⟩;have u:f.heap[w.heap.size]?=some (.cells #[.string r.who,.string r.act,.string r.on,.slice ao r.marks.length cap] 53):=by rw[<- v];exact zM w _
 have o:Below w.heap.size w f:=by rw[<- v];exact nB w _
 obtain⟨U,V,X,Y⟩:Xd f w.heap.size r ao cap:=⟨(zf u 0).1,(zf u 1).1,(zf u 2).1,(zf u 3).1⟩;have E:Below f.heap.size f (f.alloc (.cells #[.int .i64 ((i:Nat):Int)] 3)):=nB f _;have p:Below w.heap.size w (f.alloc (.cells #[.int .i64 ((i:Nat):Int)] 3)):=o.trans (E.mono o.size)
 have B:=dE y st De.vX r ao (some ⟨f.heap.size,0,none⟩) cap 1 [i] M (f.alloc (.cells #[.int .i64 ((i:Nat):Int)] 3)) (h.below p) (λj x=>by simp at x;omega) (by simp) (λj x=>by
   simp at x;subst x;exact⟨_,_,rfl,by simp⟩) (uG s p) t (K.below p)
 obtain⟨D,l,k⟩:=(h.below o).row;have c0:f.cell? ⟨y,i,none⟩=some (D i):=(zf l i).1.trans (QE D J);obtain⟨la,lc,N⟩:∃a c,D i = .slice a (st i).length c:=by obtain⟨a,c,e,_⟩:=k i J;exact⟨a,c,e⟩
 rw[N] at c0;have Z:(0:Int)<=(i:Int):=vP _;have k1:(i:Int)<4:=by omega
 have g:=GA st De.vX r i;unfold De.XW;rw[<- g];obtain⟨F,hF⟩:=Nm (De.yH st De.vX r [i]);rw[hF] at B |-;have q:(st i).isEmpty=decide ((st i).length=0):=by cases st i<;>simp
 rw[q];obtain⟨n,L⟩:=Nm ((st i).length);rw[L] at c0 |-;have A:=hid v;have m:=hid B;have S:=hid o;have z:=hid p;obtain⟨who,act,on,ms⟩:=r;unfold Ref.qR at m |-;simp only at m A U V X Y |-;unfold De.vX at m;clear B hF g l k N h s t K v o E p u q L
 by_cases hz:n=0
 ·subst hz;go_enter func90,ntmps90
  go_upto_region 1 with fail
  rw[A.out];go_wp2_with fail;go_ret;exact⟨rfl,S.out⟩
 ·have d:((n:Int)==0)=false:=by simp;omega
  rw[zH hz,Yd]
  have e:∃C b,XV F = .tuple #[C,.bool b]/\b=F.isSome/\∃O P Q R,C=ZT O P Q R:=by
   cases F with
   | none=>exact⟨_,_,rfl,rfl,_,_,_,_,rfl⟩
   | some d=>exact⟨_,_,rfl,rfl,_,_,_,_,rfl⟩
  obtain⟨C,b,H,I,O,P,Q,R,rfl⟩:=e;rw[H] at m;rw[<- I];unfold ZT at m;clear H I;go_enter func90,ntmps90
  go_upto_region 1 with fail
  rw[A.out]
  go_wp2_with (go_at_call 89;refine m.out.mono ?_;rintro e w3 ⟨rfl,G⟩)
  go_ret;exact⟨rfl,(z.out.trans (G.mono z.out.size)).alloc (by have:=z.out.size;have:=G.size;omega) _⟩
def Pg.reqLen(r:Ref.Req):Prop:=r.who.size<=maxLen/\r.act.size<=maxLen/\r.on.size<=maxLen/\r.marks.length<=100000000000/\∀m ∈ r.marks,m.1.size<=maxLen/\m.2.size<=maxLen
theorem Nv(r:Ref.Req)(ao:Option Addr)(cap:Nat)(w:World)(D:yK w ao r.marks)(K:Pg.reqLen r)(B:ut w) :
  Calls prog 45 #[Ref.qR r ao cap] w λe M=>e = .returned (.bool (Ref.yN r))/\Below w.heap.size w M:=by
 obtain⟨who,act,on,ms⟩:=r;obtain⟨F,G,H,I,J⟩:=K;simp only at F G H I J D
 have x:=λW hb=>Bt ms ao cap W I (λj E=>by
  exact J (uD ms j) (by rw[YH ms j E];exact qH E)) (uG D hb) (B.below hb)
 generalize m:Ref.yN ⟨who,act,on,ms⟩=Q;unfold Ref.yN at m;simp only at m;unfold Ref.qR;simp only;have n:=λO=>nB w O;have c1:=UQ who _ rfl F;have c2:=UQ act _ rfl G;have c3:=UQ on _ rfl H;have l:∀g,Below w.heap.size w g->ut g:=λg h=>B.below h;clear D B
 cases d1:Ref.jM who with
 | false=>
  have e:Q=false:=by rw[<- m,d1];simp
  subst e;rw[d1] at c1;clear m d1 x c2 c3;go_enter func45,ntmps45
  go_wp2_with (go_at_call 86;refine (c1 _ (l _ (n _))).mono ?_;rintro e g ⟨rfl,a⟩)
  go_ret;exact⟨rfl,(n _).trans (a.mono (by simp))⟩
 | true=>
 rw[d1] at c1
 cases d2:Ref.jM act with
 | false=>
  have e:Q=false:=by rw[<- m,d2];simp
  subst e;rw[d2] at c2;clear m d1 d2 x c3;go_enter func45,ntmps45
  go_wp2_with (first
   | (go_at_call 86;refine (c2 g (l _ b)).mono ?_;rintro e k ⟨rfl,c⟩;have d:Below w.heap.size w k:=b.trans (c.mono b.size);obtain⟨q,t⟩:=yR c;have v:w.heap.size<k.heap.size:=by (have:=c.size;omega))
   | (go_at_call 86;refine (c1 _ (l _ (n _))).mono ?_;rintro e g ⟨rfl,a⟩;have b:Below w.heap.size w g:=(n _).trans (a.mono (by simp));obtain⟨p,s⟩:=yR a;have u:w.heap.size<g.heap.size:=by (have:=a.size;simp at this;omega)))
  go_ret;exact⟨rfl,d⟩
 | true=>
 rw[d2] at c2
 cases d3:Ref.jM on with
 | false=>
  have e:Q=false:=by rw[<- m,d3];simp
  subst e;rw[d3] at c3;clear m d1 d2 d3 x;go_enter func45,ntmps45
  go_wp2_with (first
   | (go_at_call 86;refine (c3 k (l _ d)).mono ?_;rintro e o ⟨rfl,f⟩;have i:Below w.heap.size w o:=d.trans (f.mono d.size);obtain⟨y,z⟩:=yR f;have A:w.heap.size<o.heap.size:=by (have:=f.size;omega))
   | (go_at_call 86;refine (c2 g (l _ b)).mono ?_;rintro e k ⟨rfl,c⟩;have d:Below w.heap.size w k:=b.trans (c.mono b.size);obtain⟨q,t⟩:=yR c;have v:w.heap.size<k.heap.size:=by (have:=c.size;omega))
   | (go_at_call 86;refine (c1 _ (l _ (n _))).mono ?_;rintro e g ⟨rfl,a⟩;have b:Below w.heap.size w g:=(n _).trans (a.mono (by simp));obtain⟨p,s⟩:=yR a;have u:w.heap.size<g.heap.size:=by (have:=a.size;simp at this;omega)))
  go_ret;exact⟨rfl,i⟩
 | true=>
 rw[d3] at c3
 by_cases d4:ms.length<=10
 ·have e:Q=ms.all Ref.ZA:=by rw[<- m,d1,d2,d3,zF d4];simp
  have L:decide ((ms.length:Int)<=10)=true:=zF (by omega);rw[<- e] at x;clear m d1 d2 d3 d4 e;go_enter func45,ntmps45
  go_wp2_with (first
   | (go_at_call 87;refine (x o i).mono ?_;rintro e N ⟨rfl,C⟩)
   | (go_at_call 86;refine (c3 k (l _ d)).mono ?_;rintro e o ⟨rfl,f⟩;have i:Below w.heap.size w o:=d.trans (f.mono d.size);obtain⟨y,z⟩:=yR f;have A:w.heap.size<o.heap.size:=by (have:=f.size;omega))
   | (go_at_call 86;refine (c2 g (l _ b)).mono ?_;rintro e k ⟨rfl,c⟩;have d:Below w.heap.size w k:=b.trans (c.mono b.size);obtain⟨q,t⟩:=yR c;have v:w.heap.size<k.heap.size:=by (have:=c.size;omega))
   | (go_at_call 86;refine (c1 _ (l _ (n _))).mono ?_;rintro e g ⟨rfl,a⟩;have b:Below w.heap.size w g:=(n _).trans (a.mono (by simp));obtain⟨p,s⟩:=yR a;have u:w.heap.size<g.heap.size:=by (have:=a.size;simp at this;omega)))
  go_ret;exact⟨rfl,i.trans (C.mono i.size)⟩
 ·have e:Q=false:=by rw[<- m,zH d4];simp
  have L:decide ((ms.length:Int)<=10)=false:=zH (by omega);subst e;clear m d1 d2 d3 d4 x;go_enter func45,ntmps45
  go_wp2_with (first
   | (go_at_call 86;refine (c3 k (l _ d)).mono ?_;rintro e o ⟨rfl,f⟩;have i:Below w.heap.size w o:=d.trans (f.mono d.size);obtain⟨y,z⟩:=yR f;have A:w.heap.size<o.heap.size:=by (have:=f.size;omega))
   | (go_at_call 86;refine (c2 g (l _ b)).mono ?_;rintro e k ⟨rfl,c⟩;have d:Below w.heap.size w k:=b.trans (c.mono b.size);obtain⟨q,t⟩:=yR c;have v:w.heap.size<k.heap.size:=by (have:=c.size;omega))
   | (go_at_call 86;refine (c1 _ (l _ (n _))).mono ?_;rintro e g ⟨rfl,a⟩;have b:Below w.heap.size w g:=(n _).trans (a.mono (by simp));obtain⟨p,s⟩:=yR a;have u:w.heap.size<g.heap.size:=by (have:=a.size;simp at this;omega)))
  go_ret;exact⟨rfl,i⟩
end Go.Proofs.YtdakgnaojakldaaGreatDoor
