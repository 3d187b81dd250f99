/- P -/
import Derived.Test.YtdakgnaojakldaaGreatDoorG48
open Go.Proofs.Tryz
set_option maxRecDepth 100000
set_option maxHeartbeats 4000000
namespace Go.Proofs.YtdakgnaojakldaaGreatDoor
open Go.RowKit
theorem EG{α:Type}(l:List α)(d:α)(p:α->Bool):zn (λj=>p (l.getD j d)) l.length=l.findIdx? p:=by
 have c:∀j,(h:j<l.length)->l.getD j d=l[j]:=λj h=>by rw[List.getD_eq_getElem?_getD,List.getElem?_eq_getElem h];rfl
 cases h:l.findIdx? p with
 | none=>
  have b:=List.findIdx?_eq_none_iff.1 h;exact kU _ _ (λj a=>by show p (l.getD j d)=false;rw[c j a];exact b _ (List.getElem_mem a))
 | some k=>
  obtain⟨e,f,b⟩:=List.findIdx?_eq_some_iff_getElem.1 h;exact kS _ _ k e (λj a=>by show p (l.getD j d)=false;rw[c j (by omega)];simpa using b j a) (by show p (l.getD k d)=true;rw[c k e];exact f)
theorem CZ(s:zw)(g h i j:Value)(eff:BA)(r:Ref.Req)(ao:Option Addr)(cap o p:Nat)(w:World)(a:QY w g h i j s)(v:XK s)(x:XI s)(y:∀c ∈ s.ifs,c.vals.length<=1000)(d:xB w ao r.marks)(f:Ref.xY r=true)(u:qW w)
  (q:w.cell? ⟨o,0,none⟩=some (.string eff))(G:Qa w p r ao cap) :
  Calls prog 226 #[.agg #[.string s.eff,.bool s.who.1,g,.bool s.act.1,h,.bool s.on.1,i,j],.pointer (some ⟨o,0,none⟩),.pointer (some ⟨p,0,none⟩)] w λe H=>e = .returned (.bool (De.Qm eff r s))/\Below w.heap.size w H:=by
 have b0:=λO:Obj=>nB w O;have b:=λO:Obj=>wP s g h i j r ao cap (w.alloc O) (a.below (b0 O)) v x y (vo d (b0 O)) f (u.below (b0 O));have Q:=λO:Obj=>zb (b0 O) q;obtain⟨q2,z,B,C⟩:=G;have k:=λO:Obj=>zb (b0 O) q2;have l:=λO:Obj=>zb (b0 O) z;have m:=λO:Obj=>zb (b0 O) B;have n:=λO:Obj=>zb (b0 O) C;obtain⟨I,V,rfl,_⟩:=a.who;obtain⟨J,W,rfl,_⟩:=a.act;obtain⟨K,X,rfl,_⟩:=a.on;obtain⟨L,Y,rfl,_⟩:=a.ifs;unfold De.Qm;obtain⟨A,t⟩:=Nm (De.JU s r);rw[t] at b |-;clear t a v x y d f u q q2 z B C;obtain⟨who,act,on,ms⟩:=r;obtain⟨F,⟨M,R⟩,⟨N,S⟩,⟨P,T⟩,cs⟩:=s;unfold Ref.qi at b;simp only at b k l m n |-;have D:=hid b;clear b
 cases hh:(F.toList==eff.toList) with
 | false=>
  rw[Bool.false_and];go_enter func226,ntmps226;go_wp2_with fail;go_ret;exact⟨rfl,b0 _⟩
 | true=>
  rw[Bool.true_and];go_enter func226,ntmps226
  go_wp2_with (go_at_call 227;refine (D.out _).mono ?_;rintro e U ⟨rfl,E⟩)
  go_ret;exact⟨rfl,(b0 _).trans (E.mono (b0 _).size)⟩
theorem Qz.few{b:List zw}(h:Qz b):∀s ∈ b,XK s/\XI s/\∀c ∈ s.ifs,c.vals.length<=1000:=
 λs a=>⟨h.2.2 s a,XI.of (h.2.1 s a),λc d=>by have:=((h.2.1 s a).cs c d).2.2.1;omega⟩
theorem Da(b:List zw)(h:Value)(eff:BA)(r:Ref.Req)(ao:Option Addr)(cap:Nat)(w:World)(J:QZ w h b)(hd:Qz b)(o:xB w ao r.marks)(p:Ref.xY r=true)(H:qW w) :
  Calls prog 189 #[.agg #[h],.string eff,Ref.qi r ao cap] w λe U=>e = .returned (.tuple #[.int .i64 (match De.QJ eff r b with|none=>0|some k=>((k+1:Nat):Int)),.bool (De.QJ eff r b).isSome])/\Below w.heap.size w U:=by
 obtain⟨d,j⟩:∃W,w.alloc (.cells #[h] 72)=W:=⟨_,rfl⟩;have D:d.heap.size=w.heap.size+1:=by rw[<- j];simp
 have K:d.heap[w.heap.size]?=some (.cells #[h] 72):=by rw[<- j];exact heap_alloc_new w _
 have z:Below w.heap.size w d:=by rw[<- j];exact nB w _
 obtain⟨f,l⟩:∃W,d.alloc (.cells #[.string eff] 9)=W:=⟨_,rfl⟩;have M:f.heap.size=w.heap.size+2:=by rw[<- l];simp[D]
 have L:f.heap[w.heap.size+1]?=some (.cells #[.string eff] 9):=by rw[<- l,<- D];exact heap_alloc_new d _
 have u:Below d.heap.size d f:=by rw[<- l];exact nB d _
 obtain⟨g,x⟩:∃W,f.alloc (.cells #[.string r.who,.string r.act,.string r.on,.slice ao r.marks.length cap] 53)=W:=⟨_,rfl⟩;have q:g.heap[w.heap.size+2]?=some (.cells #[.string r.who,.string r.act,.string r.on,.slice ao r.marks.length cap] 53):=by rw[<- x,<- M];exact heap_alloc_new f _
 have v:Below f.heap.size f g:=by rw[<- x];exact nB f _
 have i:Below w.heap.size w g:=z.trans ((u.trans (v.mono u.size)).mono z.size);have X:g.cell? ⟨w.heap.size,0,none⟩=some h:=zb v (zb u (za K 0).1);have E:g.cell? ⟨w.heap.size+1,0,none⟩=some (.string eff):=zb v (za L 0).1;have G:Qa g (w.heap.size+2) r ao cap:=⟨(za q 0).1,(za q 1).1,(za q 2).1,(za q 3).1⟩
 have c:=EM b h 226 #[.pointer (some ⟨w.heap.size+1,0,none⟩),.pointer (some ⟨w.heap.size+2,0,none⟩)] (De.Qm eff r) g (by have:=hd.1;omega) (enters_of func226 (by kernel_rfl) rfl) (J.below i)
  (λW s Q R S T P hb B=>by
    obtain⟨f1,f2,O⟩:=hd.few s P;have m:Below w.heap.size w W:=i.trans (hb.mono i.size);exact CZ s Q R S T eff r ao cap (w.heap.size+1) (w.heap.size+2) W B f1 f2 O (vo o m) p (H.below m) (zb hb E) (Xf G hb))
 rw[EG] at c;have n:De.QJ eff r b=b.findIdx? (De.Qm eff r):=rfl;rw[n]
 have hle:∀k,b.findIdx? (De.Qm eff r)=some k->k<100:=λk I=>by
  have:=(List.findIdx?_eq_some_iff_getElem.1 I).1
  have:=hd.1
  omega
 obtain⟨F,hF⟩:=Nm (b.findIdx? (De.Qm eff r));rw[hF] at c hle |-;obtain⟨a,N,rfl,_⟩:=J;have C:=hid c;have y:Hid (((w.alloc (.cells #[.slice a b.length N] 72)).alloc (.cells #[.string eff] 9)).alloc (.cells #[.string r.who,.string r.act,.string r.on,.slice ao r.marks.length cap] 53)=g):=hid (by rw[j,l,x]);have t:=hid i;obtain⟨who,act,on,ms⟩:=r;unfold Ref.qi;simp only at y |-;clear c hF n hd o p H j l x K L q z u v i D M E G
 cases F with
 | none=>
  simp only[Option.getD_none,Option.isSome_none] at C |-;go_enter func189,ntmps189
  go_upto_region 1 with fail
  rw[y.out]
  go_wp2_with (go_at_call 225;refine C.out.mono ?_;rintro e V ⟨rfl,A⟩)
  go_ret2;exact⟨rfl,t.out.trans (A.mono t.out.size)⟩
 | some k=>
  have I:=hle k rfl;simp only[Option.getD_some,Option.isSome_some] at C |-;go_enter func189,ntmps189
  go_upto_region 1 with fail
  rw[y.out]
  go_wp2_with (go_at_call 225;refine C.out.mono ?_;rintro e V ⟨rfl,A⟩)
  go_ret2;exact⟨by go_num,t.out.trans (A.mono t.out.size)⟩
def Ke(F:Option (BA×Nat)):Value:=match F with
 | none => .tuple #[.string ⟨#[]⟩,.int .i64 0,.bool false]
 | some (n,k) => .tuple #[.string n,.int .i64 ((k:Nat):Int),.bool true]
theorem ED(eff:BA)(r:Ref.Req)(L:List zt)(k:Nat)(h:k<L.length):De.vV eff r (L.drop k)=match De.QJ eff r L[k].2 with
  | some i=>some (L[k].1,i+1)
  | none=>De.vV eff r (L.drop (k+1)):=by
 rw[List.drop_eq_getElem_cons h]
 rfl
theorem IL(L:List zt)(lv:Value)(eff:BA)(r:Ref.Req)(ao:Option Addr)(cap:Nat)(M:Nat->Prop)(w:World)(hl:qR M w lv L)(hd:∀x ∈ L,Qz x.2)(hn:L.length<=1000)(v:xB w ao r.marks)(y:Ref.xY r=true)(S:qW w) :
  Calls prog 142 #[lv,.string eff,Ref.qi r ao cap] w λe w'=>e = .returned (Ke (De.vV eff r L))/\Below w.heap.size w w':=by
 obtain⟨la,lc,rfl,_,_,_,T⟩:=hl;have P:=λ(W:World) (hb:Below w.heap.size w W) (I:Value) (x:zt) (A:x ∈ L) (a:xH M w I x.2)=>Da x.2 I eff r ao cap W ((rA a).below hb) (hd x A) (vo v hb) y (S.below hb);obtain⟨F,hF⟩:=Nm (De.vV eff r L);rw[hF];have f:=λk h=>ED eff r L k h;have b0:Below w.heap.size w (w.alloc (.cells #[.string r.who,.string r.act,.string r.on,.slice ao r.marks.length cap] 53)):=nB w _;have Q:Qa (w.alloc (.cells #[.string r.who,.string r.act,.string r.on,.slice ao r.marks.length cap] 53)) w.heap.size r ao cap:=⟨by simp,by simp,by simp,by simp⟩;have C:=hid P;have HC:=hid T;have HF:=hid hF;have HD:=hid f;have B:=hid b0;have E:=hid Q;clear P T hF f b0 Q v y S hd;obtain⟨q,hq⟩:=Nm r;obtain⟨who,act,on,ms⟩:=r;unfold Ref.qi at C |-;simp only at C B E |-;go_enter func142,ntmps142
 go_wp2
 go_loopw [15] (λi wr=>∃k:Nat,k<=L.length/\i = .int .i64 k/\De.vV eff ⟨who,act,on,ms⟩ (L.drop k)=F/\Below w.heap.size w wr/\Qa wr w.heap.size ⟨who,act,on,ms⟩ ao cap) (λi _=>L.length-(intOf i).toNat)
 case atStart=>exact⟨0,Nat.zero_le _,rfl,HF.out,B.out,E.out⟩
 case round=>
  obtain⟨k,hk,rfl,u,V,t⟩:=hrel;have n:=hid u;have s:=hid V;have G:=hid t;obtain⟨z0,z1,z2,z3⟩:=t;clear u V B E
  by_cases hlt:k<L.length
  ·obtain⟨gb,o,I,rfl,_,Y,Z,a⟩:=HC.out k L[k] (List.getElem?_eq_getElem hlt);obtain⟨da,dc,rfl,_⟩:=rA a;have X:=zb s.out Y;have K:=zb s.out Z;have b:=HD.out k hlt;rw[n.out] at b;have l:=λ(W:World) (hb:Below w.heap.size w W)=>C.out W hb _ L[k] (List.getElem_mem hlt) a;obtain⟨x,A⟩:=Nm (L[k]);simp only[A] at X K b l;obtain⟨nm,ss⟩:=x;simp only at X K b l;obtain⟨m,U⟩:=Nm ss.length;simp only[U] at K l;obtain⟨D,R⟩:=Nm (De.QJ eff ⟨who,act,on,ms⟩ ss);simp only[R] at b l;have c:=λO=>s.out.alloc s.out.size O;have d:=λO:Obj=>Xf G.out (nB wr O);have v0:=λO:Obj=>(d O).1;have v1:=λO:Obj=>(d O).2.1;have v2:=λO:Obj=>(d O).2.2.1;have v3:=λO:Obj=>(d O).2.2.2;simp only at v0 v1 v2 v3;have z:=hid l;have p:=hid b;clear l b a Y Z A U R
   cases D with
   | none=>
    simp only[Option.isSome_none] at z
    go_wp2_with (go_at_call 189;refine (z.out _ (c _)).mono ?_;rintro e N ⟨rfl,j⟩;have g:Hid (Below w.heap.size w N):=(c _).trans (j.mono (c _).size);have H:=hid (Xf (d _) j);clear j)
    refine⟨⟨k+1,by omega,by go_num,p.out.symm,g.out,H.out⟩,by simp[intOf];omega⟩
   | some i=>
    simp only[Option.isSome_some] at z
    go_wp2_with (go_at_call 189;refine (z.out _ (c _)).mono ?_;rintro e N ⟨rfl,j⟩;have g:Hid (Below w.heap.size w N):=(c _).trans (j.mono (c _).size);have a8:=zb j (za (heap_alloc_new wr (.cells #[.string nm,.slice da m dc] 187)) 0).1;clear j)
    go_ret3;exact⟨by rw[p.out];rfl,g.out⟩
  ·have J:k=L.length:=by omega
   subst J;have e:=n.out;rw[List.drop_length] at e;have HE:=hid e;clear e
   go_wp2
   go_ret3;exact⟨by rw[<- HE.out];rfl,s.out⟩
def vT(v l:Int)(n:BA)(k:Int):Value := .agg #[.int .i64 v,.int .i64 l,.string n,.int .i64 k]
def QK(F:Option (Nat×BA×Nat)):Value:=match F with
 | none => .tuple #[vT 0 0 ⟨#[]⟩ 0,.bool false]
 | some (i,n,k) => .tuple #[vT 0 ((i:Nat):Int) n ((k:Nat):Int),.bool true]
def yK(a b c d:Value):Obj := .cells #[a,b,c,d] 48
def Q6:Obj:=yK (.int .i64 0) (.int .i64 0) (.string ⟨#[]⟩) (.int .i64 0)
theorem U2{W:World}{b:Nat}{f g i j:Value}(h:W.heap[b]?=some (yK f g i j))(a c d e:Value) :
  ((((W.setCell ⟨b,0,none⟩ a).setCell ⟨b,1,none⟩ c).setCell ⟨b,2,none⟩ d).setCell ⟨b,3,none⟩ e).heap[b]?=some (yK a c d e):=by
 have k:=heap_setCell_same W b 0 _ _ a h;have l:=heap_setCell_same _ b 1 _ _ c k;have m:=heap_setCell_same _ b 2 _ _ d l;exact heap_setCell_same _ b 3 _ _ e m
theorem EE(st:Nat->List zt)(eff:BA)(r:Ref.Req)(is:List Nat)(k:Nat)(h:k<is.length):De.yY st eff r (is.drop k)=match De.vV eff r (st is[k]) with
  | some (n,i)=>some (is[k],n,i)
  | none=>De.yY st eff r (is.drop (k+1)):=by
 rw[List.drop_eq_getElem_cons h]
 rfl
theorem KV(E:Nat)(st:StO)(eff:BA)(r:Ref.Req)(ao so:Option Addr)(cap sc:Nat)(is:List Nat)(M:Nat->Prop)(w:World)(h:ql M w E st)(hi:∀i ∈ is,i<4)(hn:is.length<=100)(hs:∀j,(hj:j<is.length)->∃gb o,so=some ⟨gb,o,none⟩/\w.cell? ⟨gb,o+j,none⟩=some (.int .i64 ((is[j]:Nat):Int)))(R:xB w ao r.marks)(S:Ref.xY r=true)(hE:qW w) :
  Calls prog 89 #[.pointer (some ⟨E,0,none⟩),.string eff,Ref.qi r ao cap,.slice so is.length sc] w λe g=>e = .returned (QK (De.yY st eff r is))/\Below w.heap.size w g:=by
 have cL:=λ(W:World) (hb:Below w.heap.size w W) (i:Nat) (y:i<4) (lv:Value) (hl:qR M W lv (st i))=>IL (st i) lv eff r ao cap M W hl (λx hx=>(h.good i y).2.2 x hx) (by have:=(h.good i y).2.1;omega) (vo R hb) S (hE.below hb);obtain⟨F,hF⟩:=Nm (De.yY st eff r is);rw[hF];have l:=λk h=>EE st eff r is k h;obtain⟨u,N⟩:∃W,w.alloc (.cells #[.string r.who,.string r.act,.string r.on,.slice ao r.marks.length cap] 53)=W:=⟨_,rfl⟩;have s1:u.heap.size=w.heap.size+1:=by rw[<- N];simp
 have T:u.heap[w.heap.size]?=some (.cells #[.string r.who,.string r.act,.string r.on,.slice ao r.marks.length cap] 53):=by rw[<- N];exact heap_alloc_new w _
 have b1:Below w.heap.size w u:=by rw[<- N];exact nB w _
 obtain⟨K,Y⟩:∃W,u.alloc Q6=W:=⟨_,rfl⟩;have n2:K.heap[w.heap.size+1]?=some Q6:=by rw[<- Y,<- s1];exact heap_alloc_new u _
 have b2:Below u.heap.size u K:=by rw[<- Y];exact nB u _
 have bw:Below w.heap.size w K:=b1.trans (b2.mono b1.size);have g2:Qa K w.heap.size r ao cap:=Xf ⟨(za T 0).1,(za T 1).1,(za T 2).1,(za T 3).1⟩ b2;have HW:Hid ((w.alloc (.cells #[.string r.who,.string r.act,.string r.on,.slice ao r.marks.length cap] 53)).alloc (.cells #[.int .i64 0,.int .i64 0,.string ⟨#[]⟩,.int .i64 0] 48)=K):=hid (by rw[N];exact Y);have g0:E<w.heap.size:=by obtain⟨vs,Z,_⟩:=h.row;exact lt_of_block Z
 have CL:=hid cL;have HF:=hid hF;have HD:=hid l;have HO:=hid h;have HI:=hid hi;have HS:=hid hs;have BW:=hid bw;have G2:=hid g2;have N2:=hid n2;clear cL hF l h hi hs bw g2 n2 b1 b2 T N Y s1 R S hE;obtain⟨who,act,on,ms⟩:=r;unfold Ref.qi at CL |-;simp only at CL HW |-;go_enter func89,ntmps89
 go_upto_region 1 with fail
 rw[HW.out];go_wp2_with fail
 go_loopw [17] (λi wr=>∃k:Nat,k<=is.length/\i = .int .i64 k/\De.yY st eff ⟨who,act,on,ms⟩ (is.drop k)=F/\Below w.heap.size w wr/\Qa wr w.heap.size ⟨who,act,on,ms⟩ ao cap/\wr.heap[w.heap.size+1]?=some Q6) (λi _=>is.length-(intOf i).toNat)
 case atStart=>exact⟨0,Nat.zero_le _,rfl,HF.out,BW.out,G2.out,N2.out⟩
 case round=>
  obtain⟨k,hk,rfl,P,hw,O,s⟩:=hrel;have H:=hid P;have t:=hid hw;have a3:=hid O;have J:=hid s;obtain⟨z0,z1,z2,z3⟩:=O;simp only at z0 z1 z2 z3;have y0:=(za s 0).1;have y1:=(za s 1).1;have y2:=(za s 2).1;have y3:=(za s 3).1;have t0:=(za s 0).2;have t1:=(za s 1).2;have t2:=(za s 2).2;have t3:=(za s 3).2;simp at y0 y1 y2 y3 t0 t1 t2 t3;clear P hw s BW G2 N2
  by_cases hlt:k<is.length
  ·obtain⟨gb,o,rfl,q0⟩:=HS.out k hlt;have p0:=zb t.out q0;have q:=HD.out k hlt;rw[H.out] at q;have y:=HI.out is[k] (List.getElem_mem hlt);obtain⟨i,Q⟩:=Nm (is[k]);simp only[Q] at p0 q y;obtain⟨vs,z,m⟩:=(HO.out.below t.out).row;have c0:wr.cell? ⟨E,i,none⟩=some (vs i):=(za z i).1.trans (Qi vs y);obtain⟨la,ln,lc,Z⟩:∃a n c,vs i = .slice a n c:=by obtain⟨a,c,e,_⟩:=m i y;exact⟨a,_,c,e⟩
   have C:=m i y;rw[Z] at c0 C;have A:=hid (CL.out wr.drew t.out.drew i y _ (C.turn (zu.of (Below.refl _ wr).drew)));obtain⟨D,hD⟩:=Nm (De.vV eff ⟨who,act,on,ms⟩ (st i));rw[hD] at A q;have I:=hid q;have k0:(0:Int)<=(i:Int):=Int.natCast_nonneg _;have k1:(i:Int)<4:=by omega
   clear z m Z C q0 q Q hD
   cases D with
   | none=>
    unfold Ke at A;simp only at A;go_wp2_with fail
    go_region_held3 (λg=>g.cell? ⟨E,i,none⟩=some (.slice la ln lc)/\g.cell? ⟨w.heap.size,0,none⟩=some (.string who)/\g.cell? ⟨w.heap.size,1,none⟩=some (.string act)/\g.cell? ⟨w.heap.size,2,none⟩=some (.string on)/\g.cell? ⟨w.heap.size,3,none⟩=some (.slice ao ms.length cap)) (go_keep) (first
     | ((go_at_call 142);refine A.out.mono ?_;rintro e G ⟨rfl,L⟩;have f:Below wr.heap.size wr G:=(Below.refl _ wr).drew.trans L;have e0:=zb f c0;have e1:=zb f z0;have e2:=zb f z1;have e3:=zb f z2;have e4:=zb f z3;have b:=hid ((f.block (w.heap.size+1) (lt_of_block J.out)).trans J.out);have a4:=hid (Xf a3.out f);have B:Hid (Below w.heap.size w G):=t.out.trans (f.mono t.out.size);clear L f))
    all_goals
     go_wp2_with fail
     go_roundw
     case rel=>exact⟨k+1,by omega,by go_num,I.out.symm,B.out,a4.out,b.out⟩
     case measure=>simp[intOf];omega
   | some d=>
    obtain⟨nm,num⟩:=d;unfold Ke at A;simp only at A;go_wp2_with fail
    go_region_held3 (λg=>g.cell? ⟨E,i,none⟩=some (.slice la ln lc)/\g.cell? ⟨w.heap.size,0,none⟩=some (.string who)/\g.cell? ⟨w.heap.size,1,none⟩=some (.string act)/\g.cell? ⟨w.heap.size,2,none⟩=some (.string on)/\g.cell? ⟨w.heap.size,3,none⟩=some (.slice ao ms.length cap)) (go_keep) (first
     | ((go_at_call 142);refine A.out.mono ?_;rintro e G ⟨rfl,L⟩;have f:Below wr.heap.size wr G:=(Below.refl _ wr).drew.trans L;have e0:=zb f c0;have e1:=zb f z0;have e2:=zb f z1;have e3:=zb f z2;have e4:=zb f z3;have b:=hid ((f.block (w.heap.size+1) (lt_of_block J.out)).trans J.out);have B:Hid (Below w.heap.size w G):=t.out.trans (f.mono t.out.size);clear L f))
    all_goals
     have y0:=(za b.out 0).1;have y1:=(za b.out 1).1;have y2:=(za b.out 2).1;have y3:=(za b.out 3).1;have t0:=(za b.out 0).2;have t1:=(za b.out 1).2;have t2:=(za b.out 2).2;have t3:=(za b.out 3).2;simp at y0 y1 y2 y3 t0 t1 t2 t3;have p:=U2 b.out (.int .i64 0) (.int .i64 (i:Int)) (.string nm) (.int .i64 (num:Int));have r0:=(za p 0).1;have U:=(za p 1).1;have V:=(za p 2).1;have X:=(za p 3).1;simp at r0 U V X;have a2:Hid (Below w.heap.size w ((((G.setCell ⟨w.heap.size+1,0,none⟩ (.int .i64 0)).setCell ⟨w.heap.size+1,1,none⟩ (.int .i64 (i:Int))).setCell ⟨w.heap.size+1,2,none⟩ (.string nm)).setCell ⟨w.heap.size+1,3,none⟩ (.int .i64 (num:Int)))):=hid ((((B.out.setCell (by simp) _).setCell (by simp) _).setCell (by simp) _).setCell (by simp) _);clear p;go_wp2_with fail;exact bodyPost_ret (v := .tuple #[.agg #[.int .i64 0,.int .i64 (i:Int),.string nm,.int .i64 (num:Int)],.bool true]) (by simp[results,results89,go_sem,r0,U,V,X]) rfl ⟨by rw[I.out];rfl,a2.out⟩
  ·have a8:k=is.length:=by omega
   subst a8;have e:=H.out;rw[List.drop_length] at e;have HE:=hid e;have p:=U2 J.out (.int .i64 0) (.int .i64 0) (.string ⟨#[]⟩) (.int .i64 0);have r0:=(za p 0).1;have U:=(za p 1).1;have V:=(za p 2).1;have X:=(za p 3).1;simp at r0 U V X;clear e p;go_wp2_with fail;exact bodyPost_ret (v := .tuple #[.agg #[.int .i64 0,.int .i64 0,.string ⟨#[]⟩,.int .i64 0],.bool false]) (by simp[results,results89,go_sem,r0,U,V,X]) rfl ⟨by rw[<- HE.out];rfl,(((t.out.setCell (by simp) _).setCell (by simp) _).setCell (by simp) _).setCell (by simp) _⟩
theorem EF(st:Nat->List zt)(eff:BA)(r:Ref.Req)(i:Nat):(De.yY st eff r [i]).isSome=(De.vV eff r (st i)).isSome:=by
 simp only[De.yY]
 cases De.vV eff r (st i) with
 | none=>rfl
 | some d=>rfl
theorem IX(y:Nat)(st:StO)(i:Nat)(r:Ref.Req)(ao:Option Addr)(cap:Nat)(M:Nat->Prop)(w:World)(h:ql M w y st)(J:i<4)(s:xB w ao r.marks)(t:Ref.xY r=true)(K:qW w) :
  Calls prog 90 #[.pointer (some ⟨y,0,none⟩),.int .i64 ((i:Nat):Int),Ref.qi r ao cap] w λe T=>e = .returned (.bool (De.Xt st r i))/\Below w.heap.size w T:=by
 obtain⟨f,v⟩:∃W,w.alloc (.cells #[.string r.who,.string r.act,.string r.on,.slice ao r.marks.length cap] 53)=W:=⟨_,rfl⟩;have u:f.heap[w.heap.size]?=some (.cells #[.string r.who,.string r.act,.string r.on,.slice ao r.marks.length cap] 53):=by rw[<- v];exact heap_alloc_new w _
 have o:Below w.heap.size w f:=by rw[<- v];exact nB w _
 obtain⟨U,V,X,Y⟩:Qa f w.heap.size r ao cap:=⟨(za u 0).1,(za u 1).1,(za u 2).1,(za u 3).1⟩;have E:Below f.heap.size f (f.alloc (.cells #[.int .i64 ((i:Nat):Int)] 3)):=nB f _;have p:Below w.heap.size w (f.alloc (.cells #[.int .i64 ((i:Nat):Int)] 3)):=o.trans (E.mono o.size)
 have B:=KV y st De.jX r ao (some ⟨f.heap.size,0,none⟩) cap 1 [i] M (f.alloc (.cells #[.int .i64 ((i:Nat):Int)] 3)) (h.below p) (λj x=>by simp at x;omega) (by simp) (λj x=>by
   simp at x;subst x;exact⟨_,_,rfl,by simp⟩) (vo s p) t (K.below p)
 obtain⟨D,l,k⟩:=(h.below o).row;have c0:f.cell? ⟨y,i,none⟩=some (D i):=(za l i).1.trans (Qi D J);obtain⟨la,lc,N⟩:∃a c,D i = .slice a (st i).length c:=by obtain⟨a,c,e,_⟩:=k i J;exact⟨a,c,e⟩
 rw[N] at c0;have Z:(0:Int)<=(i:Int):=Int.natCast_nonneg _;have k1:(i:Int)<4:=by omega
 have g:=EF st De.jX r i;unfold De.Xt;rw[<- g];obtain⟨F,hF⟩:=Nm (De.yY st De.jX r [i]);rw[hF] at B |-;have q:(st i).isEmpty=decide ((st i).length=0):=by cases st i<;>simp
 rw[q];obtain⟨n,L⟩:=Nm ((st i).length);rw[L] at c0 |-;have A:=hid v;have m:=hid B;have S:=hid o;have z:=hid p;obtain⟨who,act,on,ms⟩:=r;unfold Ref.qi at m |-;simp only at m A U V X Y |-;unfold De.jX at m;clear B hF g l k N h s t K v o E p u q L
 by_cases hz:n=0
 ·subst hz;go_enter func90,ntmps90
  go_upto_region 1 with fail
  rw[A.out];go_wp2_with fail;go_ret;exact⟨rfl,S.out⟩
 ·have d:((n:Int)==0)=false:=by simp;omega
  rw[decide_eq_false hz,Bool.false_or]
  have e:∃C b,QK F = .tuple #[C,.bool b]/\b=F.isSome/\∃O P Q R,C=vT O P Q R:=by
   cases F with
   | none=>exact⟨_,_,rfl,rfl,_,_,_,_,rfl⟩
   | some d=>exact⟨_,_,rfl,rfl,_,_,_,_,rfl⟩
  obtain⟨C,b,H,I,O,P,Q,R,rfl⟩:=e;rw[H] at m;rw[<- I];unfold vT at m;clear H I;go_enter func90,ntmps90
  go_upto_region 1 with fail
  rw[A.out]
  go_wp2_with (go_at_call 89;refine m.out.mono ?_;rintro e w3 ⟨rfl,G⟩)
  go_ret;exact⟨rfl,(z.out.trans (G.mono z.out.size)).alloc (by have:=z.out.size;have:=G.size;omega) _⟩
def Pg.reqLen(r:Ref.Req):Prop:=r.who.size<=maxLen/\r.act.size<=maxLen/\r.on.size<=maxLen/\r.marks.length<=100000000000/\∀m ∈ r.marks,m.1.size<=maxLen/\m.2.size<=maxLen
theorem LJ(r:Ref.Req)(ao:Option Addr)(cap:Nat)(w:World)(C:xB w ao r.marks)(J:Pg.reqLen r)(A:jW w) :
  Calls prog 45 #[Ref.qi r ao cap] w λe L=>e = .returned (.bool (Ref.xY r))/\Below w.heap.size w L:=by
 obtain⟨who,act,on,ms⟩:=r;obtain⟨E,F,G,H,I⟩:=J;simp only at E F G H I C
 have v:=λW hb=>tN ms ao cap W H (λj D=>by
  exact I (vk ms j) (by rw[Xv ms j D];exact List.getElem_mem D)) (vo C hb) (A.below hb)
 generalize m:Ref.xY ⟨who,act,on,ms⟩=Q;unfold Ref.xY at m;simp only at m;unfold Ref.qi;simp only;have b0:=λO=>nB w O;have c1:=Vw who _ rfl E;have c2:=Vw act _ rfl F;have c3:=Vw on _ rfl G;have l:∀g,Below w.heap.size w g->jW g:=λg h=>A.below h;clear C A
 cases d1:Ref.je who with
 | false=>
  have e:Q=false:=by rw[<- m,d1];simp
  subst e;rw[d1] at c1;clear m d1 v c2 c3;go_enter func45,ntmps45
  go_wp2_with (go_at_call 86;refine (c1 _ (l _ (b0 _))).mono ?_;rintro e g ⟨rfl,a⟩)
  go_ret;exact⟨rfl,(b0 _).trans (a.mono (by simp))⟩
 | true=>
 rw[d1] at c1
 cases d2:Ref.je act with
 | false=>
  have e:Q=false:=by rw[<- m,d2];simp
  subst e;rw[d2] at c2;clear m d1 d2 v c3;go_enter func45,ntmps45
  go_wp2_with (first
   | (go_at_call 86;refine (c2 g (l _ b)).mono ?_;rintro e k ⟨rfl,c⟩;have d:Below w.heap.size w k:=b.trans (c.mono b.size);obtain⟨p,s⟩:=yf c;have u:w.heap.size<k.heap.size:=by (have:=c.size;omega))
   | (go_at_call 86;refine (c1 _ (l _ (b0 _))).mono ?_;rintro e g ⟨rfl,a⟩;have b:Below w.heap.size w g:=(b0 _).trans (a.mono (by simp));obtain⟨o,q⟩:=yf a;have t:w.heap.size<g.heap.size:=by (have:=a.size;simp at this;omega)))
  go_ret;exact⟨rfl,d⟩
 | true=>
 rw[d2] at c2
 cases d3:Ref.je on with
 | false=>
  have e:Q=false:=by rw[<- m,d3];simp
  subst e;rw[d3] at c3;clear m d1 d2 d3 v;go_enter func45,ntmps45
  go_wp2_with (first
   | (go_at_call 86;refine (c3 k (l _ d)).mono ?_;rintro e n ⟨rfl,f⟩;have i:Below w.heap.size w n:=d.trans (f.mono d.size);obtain⟨x,y⟩:=yf f;have z:w.heap.size<n.heap.size:=by (have:=f.size;omega))
   | (go_at_call 86;refine (c2 g (l _ b)).mono ?_;rintro e k ⟨rfl,c⟩;have d:Below w.heap.size w k:=b.trans (c.mono b.size);obtain⟨p,s⟩:=yf c;have u:w.heap.size<k.heap.size:=by (have:=c.size;omega))
   | (go_at_call 86;refine (c1 _ (l _ (b0 _))).mono ?_;rintro e g ⟨rfl,a⟩;have b:Below w.heap.size w g:=(b0 _).trans (a.mono (by simp));obtain⟨o,q⟩:=yf a;have t:w.heap.size<g.heap.size:=by (have:=a.size;simp at this;omega)))
  go_ret;exact⟨rfl,i⟩
 | true=>
 rw[d3] at c3
 by_cases d4:ms.length<=10
 ·have e:Q=ms.all Ref.ku:=by rw[<- m,d1,d2,d3,decide_eq_true d4];simp
  have K:decide ((ms.length:Int)<=10)=true:=decide_eq_true (by omega);rw[<- e] at v;clear m d1 d2 d3 d4 e;go_enter func45,ntmps45
  go_wp2_with (first
   | (go_at_call 87;refine (v n i).mono ?_;rintro e M ⟨rfl,B⟩)
   | (go_at_call 86;refine (c3 k (l _ d)).mono ?_;rintro e n ⟨rfl,f⟩;have i:Below w.heap.size w n:=d.trans (f.mono d.size);obtain⟨x,y⟩:=yf f;have z:w.heap.size<n.heap.size:=by (have:=f.size;omega))
   | (go_at_call 86;refine (c2 g (l _ b)).mono ?_;rintro e k ⟨rfl,c⟩;have d:Below w.heap.size w k:=b.trans (c.mono b.size);obtain⟨p,s⟩:=yf c;have u:w.heap.size<k.heap.size:=by (have:=c.size;omega))
   | (go_at_call 86;refine (c1 _ (l _ (b0 _))).mono ?_;rintro e g ⟨rfl,a⟩;have b:Below w.heap.size w g:=(b0 _).trans (a.mono (by simp));obtain⟨o,q⟩:=yf a;have t:w.heap.size<g.heap.size:=by (have:=a.size;simp at this;omega)))
  go_ret;exact⟨rfl,i.trans (B.mono i.size)⟩
 ·have e:Q=false:=by rw[<- m,decide_eq_false d4];simp
  have K:decide ((ms.length:Int)<=10)=false:=decide_eq_false (by omega);subst e;clear m d1 d2 d3 d4 v;go_enter func45,ntmps45
  go_wp2_with (first
   | (go_at_call 86;refine (c3 k (l _ d)).mono ?_;rintro e n ⟨rfl,f⟩;have i:Below w.heap.size w n:=d.trans (f.mono d.size);obtain⟨x,y⟩:=yf f;have z:w.heap.size<n.heap.size:=by (have:=f.size;omega))
   | (go_at_call 86;refine (c2 g (l _ b)).mono ?_;rintro e k ⟨rfl,c⟩;have d:Below w.heap.size w k:=b.trans (c.mono b.size);obtain⟨p,s⟩:=yf c;have u:w.heap.size<k.heap.size:=by (have:=c.size;omega))
   | (go_at_call 86;refine (c1 _ (l _ (b0 _))).mono ?_;rintro e g ⟨rfl,a⟩;have b:Below w.heap.size w g:=(b0 _).trans (a.mono (by simp));obtain⟨o,q⟩:=yf a;have t:w.heap.size<g.heap.size:=by (have:=a.size;simp at this;omega)))
  go_ret;exact⟨rfl,i⟩
end Go.Proofs.YtdakgnaojakldaaGreatDoor
