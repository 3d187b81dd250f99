/- P -/
import Derived.Test.YtdakgnaojakldabGreatDoorT45
open Go.Proofs.Tryz
set_option maxRecDepth 100000
set_option maxHeartbeats 4000000
namespace Go.Proofs.YtdakgnaojakldabGreatDoor
open Go.RowKit
theorem Cg{α:Type}(l:List α)(d:α)(p:α->Bool):zm (λj=>p (l.getD j d)) l.length=l.findIdx? p:=by
 have c:∀j,(h:j<l.length)->l.getD j d=l[j]:=λj h=>by rw[List.getD_eq_getElem?_getD,List.getElem?_eq_getElem h];rfl
 cases h:l.findIdx? p with
 | none=>
  have b:=List.findIdx?_eq_none_iff.1 h;exact kE _ _ (λj a=>by show p (l.getD j d)=false;rw[c j a];exact b _ (List.getElem_mem a))
 | some k=>
  obtain⟨e,f,b⟩:=List.findIdx?_eq_some_iff_getElem.1 h;exact kD _ _ k e (λj a=>by show p (l.getD j d)=false;rw[c j (by omega)];simpa using b j a) (by show p (l.getD k d)=true;rw[c k e];exact f)
theorem Ai(s:zD)(g h i j:Value)(eff:BA)(r:Ref.Req)(ao:Option Addr)(cap o p:Nat)(w:World)(a:Qz w g h i j s)(v:Xl s)(x:Xj s)(y:∀c ∈ s.ifs,c.vals.length<=1000)(d:xL w ao r.marks)(f:Ref.xO r=true)(u:qR w)
  (q:w.cell? ⟨o,0,none⟩=some (.string eff))(G:ZP w p r ao cap) :
  Calls prog 100 #[.agg #[.string s.eff,.bool s.who.1,g,.bool s.act.1,h,.bool s.on.1,i,j],.pointer (some ⟨o,0,none⟩),.pointer (some ⟨p,0,none⟩)] w λe H=>e = .returned (.bool (De.yH eff r s))/\Below w.heap.size w H:=by
 have b0:=λO:Obj=>nB w O;have b:=λO:Obj=>pJ s g h i j r ao cap (w.alloc O) (a.below (b0 O)) v x y (jY d (b0 O)) f (u.below (b0 O));have Q:=λO:Obj=>zb (b0 O) q;obtain⟨q2,z,B,C⟩:=G;have k:=λO:Obj=>zb (b0 O) q2;have l:=λO:Obj=>zb (b0 O) z;have m:=λO:Obj=>zb (b0 O) B;have n:=λO:Obj=>zb (b0 O) C;obtain⟨I,V,rfl,_⟩:=a.who;obtain⟨J,W,rfl,_⟩:=a.act;obtain⟨K,X,rfl,_⟩:=a.on;obtain⟨L,Y,rfl,_⟩:=a.ifs;unfold De.yH;obtain⟨A,t⟩:=Nm (De.Yi s r);rw[t] at b |-;clear t a v x y d f u q q2 z B C;obtain⟨who,act,on,ms⟩:=r;obtain⟨F,⟨M,R⟩,⟨N,S⟩,⟨P,T⟩,cs⟩:=s;unfold Ref.qo at b;simp only at b k l m n |-;have D:=hid b;clear b
 cases hh:(F.toList==eff.toList) with
 | false=>
  rw[Bool.false_and];go_enter func100,ntmps100;go_wp2_with fail;go_ret;exact⟨rfl,b0 _⟩
 | true=>
  rw[Bool.true_and];go_enter func100,ntmps100
  go_wp2_with (go_at_call 101;refine (D.out _).mono ?_;rintro e U ⟨rfl,E⟩)
  go_ret;exact⟨rfl,(b0 _).trans (E.mono (b0 _).size)⟩
theorem QL.few{b:List zD}(h:QL b):∀s ∈ b,Xl s/\Xj s/\∀c ∈ s.ifs,c.vals.length<=1000:=
 λs a=>⟨h.2.2 s a,Xj.of (h.2.1 s a),λc d=>by have:=((h.2.1 s a).cs c d).2.2.1;omega⟩
theorem Aj(b:List zD)(h:Value)(eff:BA)(r:Ref.Req)(ao:Option Addr)(cap:Nat)(w:World)(K:QA w h b)(hd:QL b)(o:xL w ao r.marks)(p:Ref.xO r=true)(I:qR w) :
  Calls prog 79 #[.agg #[h],.string eff,Ref.qo r ao cap] w λe V=>e = .returned (.tuple #[.int .i64 (match De.jU eff r b with|none=>0|some k=>((k+1:Nat):Int)),.bool (De.jU eff r b).isSome])/\Below w.heap.size w V:=by
 obtain⟨d,j⟩:∃W,w.alloc (.cells #[h] 68)=W:=⟨_,rfl⟩;have E:d.heap.size=w.heap.size+1:=by rw[<- j];simp
 have L:d.heap[w.heap.size]?=some (.cells #[h] 68):=by rw[<- j];exact heap_alloc_new w _
 have z:Below w.heap.size w d:=by rw[<- j];exact nB w _
 obtain⟨f,l⟩:∃W,d.alloc (.cells #[.string eff] 9)=W:=⟨_,rfl⟩;have N:f.heap.size=w.heap.size+2:=by rw[<- l];simp[E]
 have M:f.heap[w.heap.size+1]?=some (.cells #[.string eff] 9):=by rw[<- l,<- E];exact heap_alloc_new d _
 have u:Below d.heap.size d f:=by rw[<- l];exact nB d _
 obtain⟨g,x⟩:∃W,f.alloc (.cells #[.string r.who,.string r.act,.string r.on,.slice ao r.marks.length cap] 42)=W:=⟨_,rfl⟩;have q:g.heap[w.heap.size+2]?=some (.cells #[.string r.who,.string r.act,.string r.on,.slice ao r.marks.length cap] 42):=by rw[<- x,<- N];exact heap_alloc_new f _
 have v:Below f.heap.size f g:=by rw[<- x];exact nB f _
 have i:Below w.heap.size w g:=z.trans ((u.trans (v.mono u.size)).mono z.size);have Y:g.cell? ⟨w.heap.size,0,none⟩=some h:=zb v (zb u (za L 0).1);have G:g.cell? ⟨w.heap.size+1,0,none⟩=some (.string eff):=zb v (za M 0).1;have H:ZP g (w.heap.size+2) r ao cap:=⟨(za q 0).1,(za q 1).1,(za q 2).1,(za q 3).1⟩
 have c:=Cm b h 100 #[.pointer (some ⟨w.heap.size+1,0,none⟩),.pointer (some ⟨w.heap.size+2,0,none⟩)] (De.yH eff r) g (by have:=hd.1;omega) (enters_of func100 (by kernel_rfl) rfl) (K.below i)
  (λW s R S T U Q B D=>by
    obtain⟨f1,f2,P⟩:=hd.few s Q;have m:Below w.heap.size w W:=i.trans (B.mono i.size);exact Ai s R S T U eff r ao cap (w.heap.size+1) (w.heap.size+2) W D f1 f2 P (jY o m) p (I.below m) (zb B G) (QS H B))
 rw[Cg] at c;have n:De.jU eff r b=b.findIdx? (De.yH eff r):=rfl;rw[n]
 have hle:∀k,b.findIdx? (De.yH eff r)=some k->k<100:=λk J=>by
  have:=(List.findIdx?_eq_some_iff_getElem.1 J).1
  have:=hd.1
  omega
 obtain⟨F,hF⟩:=Nm (b.findIdx? (De.yH eff r));rw[hF] at c hle |-;obtain⟨a,O,rfl,_⟩:=K;have C:=hid c;have y:Hid (((w.alloc (.cells #[.slice a b.length O] 68)).alloc (.cells #[.string eff] 9)).alloc (.cells #[.string r.who,.string r.act,.string r.on,.slice ao r.marks.length cap] 42)=g):=hid (by rw[j,l,x]);have t:=hid i;obtain⟨who,act,on,ms⟩:=r;unfold Ref.qo;simp only at y |-;clear c hF n hd o p I j l x L M q z u v i E N G H
 cases F with
 | none=>
  simp only[Option.getD_none,Option.isSome_none] at C |-;go_enter func79,ntmps79
  go_upto_region 1 with fail
  rw[y.out]
  go_wp2_with (go_at_call 99;refine C.out.mono ?_;rintro e X ⟨rfl,A⟩)
  go_ret2;exact⟨rfl,t.out.trans (A.mono t.out.size)⟩
 | some k=>
  have J:=hle k rfl;simp only[Option.getD_some,Option.isSome_some] at C |-;go_enter func79,ntmps79
  go_upto_region 1 with fail
  rw[y.out]
  go_wp2_with (go_at_call 99;refine C.out.mono ?_;rintro e X ⟨rfl,A⟩)
  go_ret2;exact⟨by go_num,t.out.trans (A.mono t.out.size)⟩
def Uj(F:Option (BA×Nat)):Value:=match F with
 | none => .tuple #[.string ⟨#[]⟩,.int .i64 0,.bool false]
 | some (n,k) => .tuple #[.string n,.int .i64 ((k:Nat):Int),.bool true]
theorem Cc(eff:BA)(r:Ref.Req)(L:List zl)(k:Nat)(h:k<L.length):De.xH eff r (L.drop k)=match De.jU eff r L[k].2 with
  | some i=>some (L[k].1,i+1)
  | none=>De.xH eff r (L.drop (k+1)):=by
 rw[List.drop_eq_getElem_cons h]
 rfl
theorem FQ(L:List zl)(Y:Value)(eff:BA)(r:Ref.Req)(ao:Option Addr)(cap:Nat)(M:Nat->Prop)(w:World)(hl:xD M w Y L)(hd:∀x ∈ L,QL x.2)(hn:L.length<=1000)(y:xL w ao r.marks)(z:Ref.xO r=true)(T:qR w) :
  Calls prog 48 #[Y,.string eff,Ref.qo r ao cap] w λe w'=>e = .returned (Uj (De.xH eff r L))/\Below w.heap.size w w':=by
 obtain⟨la,lc,rfl,_,_,_,U⟩:=hl;have Q:=λ(W:World) (t:Below w.heap.size w W) (J:Value) (x:zl) (B:x ∈ L) (a:xP M w J x.2)=>Aj x.2 J eff r ao cap W ((mD a).below t) (hd x B) (jY y t) z (T.below t);obtain⟨F,hF⟩:=Nm (De.xH eff r L);rw[hF];have f:=λk h=>Cc eff r L k h;have b0:Below w.heap.size w (w.alloc (.cells #[.string r.who,.string r.act,.string r.on,.slice ao r.marks.length cap] 42)):=nB w _;have R:ZP (w.alloc (.cells #[.string r.who,.string r.act,.string r.on,.slice ao r.marks.length cap] 42)) w.heap.size r ao cap:=⟨by simp,by simp,by simp,by simp⟩;have E:=hid Q;have HC:=hid U;have HF:=hid hF;have HD:=hid f;have C:=hid b0;have G:=hid R;clear Q U hF f b0 R y z T hd;obtain⟨q,hq⟩:=Nm r;obtain⟨who,act,on,ms⟩:=r;unfold Ref.qo at E |-;simp only at E C G |-;go_enter func48,ntmps48
 go_wp2
 go_loopw [15] (λi wr=>∃k:Nat,k<=L.length/\i = .int .i64 k/\De.xH eff ⟨who,act,on,ms⟩ (L.drop k)=F/\Below w.heap.size w wr/\ZP wr w.heap.size ⟨who,act,on,ms⟩ ao cap) (λi _=>L.length-(intOf i).toNat)
 case atStart=>exact⟨0,Nat.zero_le _,rfl,HF.out,C.out,G.out⟩
 case round=>
  obtain⟨k,hk,rfl,v,X,u⟩:=hrel;have n:=hid v;have s:=hid X;have H:=hid u;obtain⟨z0,z1,z2,z3⟩:=u;clear v X C G
  by_cases hlt:k<L.length
  ·obtain⟨gb,o,J,rfl,_,q0,q1,a⟩:=HC.out k L[k] (List.getElem?_eq_getElem hlt);obtain⟨da,dc,rfl,_⟩:=mD a;have Z:=zb s.out q0;have N:=zb s.out q1;have b:=HD.out k hlt;rw[n.out] at b;have l:=λ(W:World) (t:Below w.heap.size w W)=>E.out W t _ L[k] (List.getElem_mem hlt) a;obtain⟨x,B⟩:=Nm (L[k]);simp only[B] at Z N b l;obtain⟨nm,ss⟩:=x;simp only at Z N b l;obtain⟨m,V⟩:=Nm ss.length;simp only[V] at N l;obtain⟨D,S⟩:=Nm (De.jU eff ⟨who,act,on,ms⟩ ss);simp only[S] at b l;have c:=λO=>s.out.alloc s.out.size O;have d:=λO:Obj=>QS H.out (nB wr O);have v0:=λO:Obj=>(d O).1;have v1:=λO:Obj=>(d O).2.1;have v2:=λO:Obj=>(d O).2.2.1;have v3:=λO:Obj=>(d O).2.2.2;simp only at v0 v1 v2 v3;have A:=hid l;have p:=hid b;clear l b a q0 q1 B V S
   cases D with
   | none=>
    simp only[Option.isSome_none] at A
    go_wp2_with (go_at_call 79;refine (A.out _ (c _)).mono ?_;rintro e P ⟨rfl,j⟩;have g:Hid (Below w.heap.size w P):=(c _).trans (j.mono (c _).size);have I:=hid (QS (d _) j);clear j)
    refine⟨⟨k+1,by omega,by go_num,p.out.symm,g.out,I.out⟩,by simp[intOf];omega⟩
   | some i=>
    simp only[Option.isSome_some] at A
    go_wp2_with (go_at_call 79;refine (A.out _ (c _)).mono ?_;rintro e P ⟨rfl,j⟩;have g:Hid (Below w.heap.size w P):=(c _).trans (j.mono (c _).size);have b2:=zb j (za (heap_alloc_new wr (.cells #[.string nm,.slice da m dc] 123)) 0).1;clear j)
    go_ret3;exact⟨by rw[p.out];rfl,g.out⟩
  ·have K:k=L.length:=by omega
   subst K;have e:=n.out;rw[List.drop_length] at e;have HE:=hid e;clear e
   go_wp2
   go_ret3;exact⟨by rw[<- HE.out];rfl,s.out⟩
def kr(v l:Int)(n:BA)(k:Int):Value := .agg #[.int .i64 v,.int .i64 l,.string n,.int .i64 k]
def Qo(F:Option (Nat×BA×Nat)):Value:=match F with
 | none => .tuple #[kr 0 0 ⟨#[]⟩ 0,.bool false]
 | some (i,n,k) => .tuple #[kr 0 ((i:Nat):Int) n ((k:Nat):Int),.bool true]
def yo(a b c d:Value):Obj := .cells #[a,b,c,d] 36
def QF:Obj:=yo (.int .i64 0) (.int .i64 0) (.string ⟨#[]⟩) (.int .i64 0)
theorem V7{W:World}{b:Nat}{f g i j:Value}(h:W.heap[b]?=some (yo f g i j))(a c d e:Value) :
  ((((W.setCell ⟨b,0,none⟩ a).setCell ⟨b,1,none⟩ c).setCell ⟨b,2,none⟩ d).setCell ⟨b,3,none⟩ e).heap[b]?=some (yo a c d e):=by
 have k:=heap_setCell_same W b 0 _ _ a h;have l:=heap_setCell_same _ b 1 _ _ c k;have m:=heap_setCell_same _ b 2 _ _ d l;exact heap_setCell_same _ b 3 _ _ e m
theorem Ce(a:Nat->List zl)(eff:BA)(r:Ref.Req)(is:List Nat)(k:Nat)(h:k<is.length):De.qA a eff r (is.drop k)=match De.xH eff r (a is[k]) with
  | some (n,i)=>some (is[k],n,i)
  | none=>De.qA a eff r (is.drop (k+1)):=by
 rw[List.drop_eq_getElem_cons h]
 rfl
theorem UN(G:Nat)(A:StO)(eff:BA)(r:Ref.Req)(ao so:Option Addr)(cap sc:Nat)(is:List Nat)(M:Nat->Prop)(w:World)(h:qL M w G A)(hi:∀i ∈ is,i<4)(hn:is.length<=100)(hs:∀j,(hj:j<is.length)->∃gb o,so=some ⟨gb,o,none⟩/\w.cell? ⟨gb,o+j,none⟩=some (.int .i64 ((is[j]:Nat):Int)))(R:xL w ao r.marks)(S:Ref.xO r=true)(hE:qR w) :
  Calls prog 25 #[.pointer (some ⟨G,0,none⟩),.string eff,Ref.qo r ao cap,.slice so is.length sc] w λe g=>e = .returned (Qo (De.qA A eff r is))/\Below w.heap.size w g:=by
 have cL:=λ(W:World) (hb:Below w.heap.size w W) (i:Nat) (y:i<4) (lv:Value) (hl:xD M W lv (A i))=>FQ (A i) lv eff r ao cap M W hl (λx hx=>(h.good i y).2.2 x hx) (by have:=(h.good i y).2.1;omega) (jY R hb) S (hE.below hb);obtain⟨F,hF⟩:=Nm (De.qA A eff r is);rw[hF];have l:=λk h=>Ce A eff r is k h;obtain⟨u,N⟩:∃W,w.alloc (.cells #[.string r.who,.string r.act,.string r.on,.slice ao r.marks.length cap] 42)=W:=⟨_,rfl⟩;have s1:u.heap.size=w.heap.size+1:=by rw[<- N];simp
 have T:u.heap[w.heap.size]?=some (.cells #[.string r.who,.string r.act,.string r.on,.slice ao r.marks.length cap] 42):=by rw[<- N];exact heap_alloc_new w _
 have b1:Below w.heap.size w u:=by rw[<- N];exact nB w _
 obtain⟨L,Y⟩:∃W,u.alloc QF=W:=⟨_,rfl⟩;have n2:L.heap[w.heap.size+1]?=some QF:=by rw[<- Y,<- s1];exact heap_alloc_new u _
 have b2:Below u.heap.size u L:=by rw[<- Y];exact nB u _
 have bw:Below w.heap.size w L:=b1.trans (b2.mono b1.size);have g2:ZP L w.heap.size r ao cap:=QS ⟨(za T 0).1,(za T 1).1,(za T 2).1,(za T 3).1⟩ b2;have HW:Hid ((w.alloc (.cells #[.string r.who,.string r.act,.string r.on,.slice ao r.marks.length cap] 42)).alloc (.cells #[.int .i64 0,.int .i64 0,.string ⟨#[]⟩,.int .i64 0] 36)=L):=hid (by rw[N];exact Y);have g4:G<w.heap.size:=by obtain⟨vs,Z,_⟩:=h.row;exact lt_of_block Z
 have CL:=hid cL;have HF:=hid hF;have HD:=hid l;have HO:=hid h;have HI:=hid hi;have HS:=hid hs;have BW:=hid bw;have G2:=hid g2;have N2:=hid n2;clear cL hF l h hi hs bw g2 n2 b1 b2 T N Y s1 R S hE;obtain⟨who,act,on,ms⟩:=r;unfold Ref.qo at CL |-;simp only at CL HW |-;go_enter func25,ntmps25
 go_upto_region 1 with fail
 rw[HW.out];go_wp2_with fail
 go_loopw [17] (λi wr=>∃k:Nat,k<=is.length/\i = .int .i64 k/\De.qA A eff ⟨who,act,on,ms⟩ (is.drop k)=F/\Below w.heap.size w wr/\ZP wr w.heap.size ⟨who,act,on,ms⟩ ao cap/\wr.heap[w.heap.size+1]?=some QF) (λi _=>is.length-(intOf i).toNat)
 case atStart=>exact⟨0,Nat.zero_le _,rfl,HF.out,BW.out,G2.out,N2.out⟩
 case round=>
  obtain⟨k,hk,rfl,P,hw,O,s⟩:=hrel;have I:=hid P;have t:=hid hw;have a3:=hid O;have K:=hid s;obtain⟨z0,z1,z2,z3⟩:=O;simp only at z0 z1 z2 z3;have y0:=(za s 0).1;have y1:=(za s 1).1;have y2:=(za s 2).1;have y3:=(za s 3).1;have t0:=(za s 0).2;have t1:=(za s 1).2;have t2:=(za s 2).2;have t3:=(za s 3).2;simp at y0 y1 y2 y3 t0 t1 t2 t3;clear P hw s BW G2 N2
  by_cases hlt:k<is.length
  ·obtain⟨gb,o,rfl,q0⟩:=HS.out k hlt;have p0:=zb t.out q0;have q:=HD.out k hlt;rw[I.out] at q;have y:=HI.out is[k] (List.getElem_mem hlt);obtain⟨i,Q⟩:=Nm (is[k]);simp only[Q] at p0 q y;obtain⟨vs,z,m⟩:=(HO.out.below t.out).row;have c0:wr.cell? ⟨G,i,none⟩=some (vs i):=(za z i).1.trans (Ju vs y);obtain⟨la,ln,lc,Z⟩:∃a n c,vs i = .slice a n c:=by obtain⟨a,c,e,_⟩:=m i y;exact⟨a,_,c,e⟩
   have E:=m i y;rw[Z] at c0 E;have B:=hid (CL.out wr.drew t.out.drew i y _ (E.turn (zA.of (Below.refl _ wr).drew)));obtain⟨D,hD⟩:=Nm (De.xH eff ⟨who,act,on,ms⟩ (A i));rw[hD] at B q;have J:=hid q;have k0:(0:Int)<=(i:Int):=Int.natCast_nonneg _;have k1:(i:Int)<4:=by omega
   clear z m Z E q0 q Q hD
   cases D with
   | none=>
    unfold Uj at B;simp only at B;go_wp2_with fail
    go_region_held3 (λg=>g.cell? ⟨G,i,none⟩=some (.slice la ln lc)/\g.cell? ⟨w.heap.size,0,none⟩=some (.string who)/\g.cell? ⟨w.heap.size,1,none⟩=some (.string act)/\g.cell? ⟨w.heap.size,2,none⟩=some (.string on)/\g.cell? ⟨w.heap.size,3,none⟩=some (.slice ao ms.length cap)) (go_keep) (first
     | ((go_at_call 48);refine B.out.mono ?_;rintro e H ⟨rfl,bb⟩;have f:Below wr.heap.size wr H:=(Below.refl _ wr).drew.trans bb;have e0:=zb f c0;have e1:=zb f z0;have e2:=zb f z1;have e3:=zb f z2;have e4:=zb f z3;have b:=hid ((f.block (w.heap.size+1) (lt_of_block K.out)).trans K.out);have a4:=hid (QS a3.out f);have C:Hid (Below w.heap.size w H):=t.out.trans (f.mono t.out.size);clear bb f))
    all_goals
     go_wp2_with fail
     go_roundw
     case rel=>exact⟨k+1,by omega,by go_num,J.out.symm,C.out,a4.out,b.out⟩
     case measure=>simp[intOf];omega
   | some d=>
    obtain⟨nm,num⟩:=d;unfold Uj at B;simp only at B;go_wp2_with fail
    go_region_held3 (λg=>g.cell? ⟨G,i,none⟩=some (.slice la ln lc)/\g.cell? ⟨w.heap.size,0,none⟩=some (.string who)/\g.cell? ⟨w.heap.size,1,none⟩=some (.string act)/\g.cell? ⟨w.heap.size,2,none⟩=some (.string on)/\g.cell? ⟨w.heap.size,3,none⟩=some (.slice ao ms.length cap)) (go_keep) (first
     | ((go_at_call 48);refine B.out.mono ?_;rintro e H ⟨rfl,bb⟩;have f:Below wr.heap.size wr H:=(Below.refl _ wr).drew.trans bb;have e0:=zb f c0;have e1:=zb f z0;have e2:=zb f z1;have e3:=zb f z2;have e4:=zb f z3;have b:=hid ((f.block (w.heap.size+1) (lt_of_block K.out)).trans K.out);have C:Hid (Below w.heap.size w H):=t.out.trans (f.mono t.out.size);clear bb f))
    all_goals
     have y0:=(za b.out 0).1;have y1:=(za b.out 1).1;have y2:=(za b.out 2).1;have y3:=(za b.out 3).1;have t0:=(za b.out 0).2;have t1:=(za b.out 1).2;have t2:=(za b.out 2).2;have t3:=(za b.out 3).2;simp at y0 y1 y2 y3 t0 t1 t2 t3;have p:=V7 b.out (.int .i64 0) (.int .i64 (i:Int)) (.string nm) (.int .i64 (num:Int));have r0:=(za p 0).1;have U:=(za p 1).1;have V:=(za p 2).1;have X:=(za p 3).1;simp at r0 U V X;have a2:Hid (Below w.heap.size w ((((H.setCell ⟨w.heap.size+1,0,none⟩ (.int .i64 0)).setCell ⟨w.heap.size+1,1,none⟩ (.int .i64 (i:Int))).setCell ⟨w.heap.size+1,2,none⟩ (.string nm)).setCell ⟨w.heap.size+1,3,none⟩ (.int .i64 (num:Int)))):=hid ((((C.out.setCell (by simp) _).setCell (by simp) _).setCell (by simp) _).setCell (by simp) _);clear p;go_wp2_with fail;exact bodyPost_ret (v := .tuple #[.agg #[.int .i64 0,.int .i64 (i:Int),.string nm,.int .i64 (num:Int)],.bool true]) (by simp[results,results25,go_sem,r0,U,V,X]) rfl ⟨by rw[J.out];rfl,a2.out⟩
  ·have a8:k=is.length:=by omega
   subst a8;have e:=I.out;rw[List.drop_length] at e;have HE:=hid e;have p:=V7 K.out (.int .i64 0) (.int .i64 0) (.string ⟨#[]⟩) (.int .i64 0);have r0:=(za p 0).1;have U:=(za p 1).1;have V:=(za p 2).1;have X:=(za p 3).1;simp at r0 U V X;clear e p;go_wp2_with fail;exact bodyPost_ret (v := .tuple #[.agg #[.int .i64 0,.int .i64 0,.string ⟨#[]⟩,.int .i64 0],.bool false]) (by simp[results,results25,go_sem,r0,U,V,X]) rfl ⟨by rw[<- HE.out];rfl,(((t.out.setCell (by simp) _).setCell (by simp) _).setCell (by simp) _).setCell (by simp) _⟩
theorem Cf(a:Nat->List zl)(eff:BA)(r:Ref.Req)(i:Nat):(De.qA a eff r [i]).isSome=(De.xH eff r (a i)).isSome:=by
 simp only[De.qA]
 cases De.xH eff r (a i) with
 | none=>rfl
 | some d=>rfl
theorem FX(z:Nat)(k:StO)(i:Nat)(r:Ref.Req)(ao:Option Addr)(cap:Nat)(M:Nat->Prop)(w:World)(h:qL M w z k)(K:i<4)(t:xL w ao r.marks)(u:Ref.xO r=true)(L:qR w) :
  Calls prog 26 #[.pointer (some ⟨z,0,none⟩),.int .i64 ((i:Nat):Int),Ref.qo r ao cap] w λe U=>e = .returned (.bool (De.uM k r i))/\Below w.heap.size w U:=by
 obtain⟨f,x⟩:∃W,w.alloc (.cells #[.string r.who,.string r.act,.string r.on,.slice ao r.marks.length cap] 42)=W:=⟨_,rfl⟩;have v:f.heap[w.heap.size]?=some (.cells #[.string r.who,.string r.act,.string r.on,.slice ao r.marks.length cap] 42):=by rw[<- x];exact heap_alloc_new w _
 have p:Below w.heap.size w f:=by rw[<- x];exact nB w _
 obtain⟨V,X,Y,Z⟩:ZP f w.heap.size r ao cap:=⟨(za v 0).1,(za v 1).1,(za v 2).1,(za v 3).1⟩;have G:Below f.heap.size f (f.alloc (.cells #[.int .i64 ((i:Nat):Int)] 3)):=nB f _;have q:Below w.heap.size w (f.alloc (.cells #[.int .i64 ((i:Nat):Int)] 3)):=p.trans (G.mono p.size)
 have C:=UN z k De.xE r ao (some ⟨f.heap.size,0,none⟩) cap 1 [i] M (f.alloc (.cells #[.int .i64 ((i:Nat):Int)] 3)) (h.below q) (λj y=>by simp at y;omega) (by simp) (λj y=>by
   simp at y;subst y;exact⟨_,_,rfl,by simp⟩) (jY t q) u (L.below q)
 obtain⟨E,m,l⟩:=(h.below p).row;have c0:f.cell? ⟨z,i,none⟩=some (E i):=(za m i).1.trans (Ju E K);obtain⟨la,lc,O⟩:∃a c,E i = .slice a (k i).length c:=by obtain⟨a,c,e,_⟩:=l i K;exact⟨a,c,e⟩
 rw[O] at c0;have k0:(0:Int)<=(i:Int):=Int.natCast_nonneg _;have k1:(i:Int)<4:=by omega
 have g:=Cf k De.xE r i;unfold De.uM;rw[<- g];obtain⟨F,hF⟩:=Nm (De.qA k De.xE r [i]);rw[hF] at C |-;have s:(k i).isEmpty=decide ((k i).length=0):=by cases k i<;>simp
 rw[s];obtain⟨n,N⟩:=Nm ((k i).length);rw[N] at c0 |-;have B:=hid x;have o:=hid C;have T:=hid p;have A:=hid q;obtain⟨who,act,on,ms⟩:=r;unfold Ref.qo at o |-;simp only at o B V X Y Z |-;unfold De.xE at o;clear C hF g m l O h t u L x p G q v s N
 by_cases hz:n=0
 ·subst hz;go_enter func26,ntmps26
  go_upto_region 1 with fail
  rw[B.out];go_wp2_with fail;go_ret;exact⟨rfl,T.out⟩
 ·have d:((n:Int)==0)=false:=by simp;omega
  rw[decide_eq_false hz,Bool.false_or]
  have e:∃D b,Qo F = .tuple #[D,.bool b]/\b=F.isSome/\∃P Q R S,D=kr P Q R S:=by
   cases F with
   | none=>exact⟨_,_,rfl,rfl,_,_,_,_,rfl⟩
   | some d=>exact⟨_,_,rfl,rfl,_,_,_,_,rfl⟩
  obtain⟨D,b,I,J,P,Q,R,S,rfl⟩:=e;rw[I] at o;rw[<- J];unfold kr at o;clear I J;go_enter func26,ntmps26
  go_upto_region 1 with fail
  rw[B.out]
  go_wp2_with (go_at_call 25;refine o.out.mono ?_;rintro e w3 ⟨rfl,H⟩)
  go_ret;exact⟨rfl,(A.out.trans (H.mono A.out.size)).alloc (by have:=A.out.size;have:=H.size;omega) _⟩
def Pg.reqLen(r:Ref.Req):Prop:=r.who.size<=maxLen/\r.act.size<=maxLen/\r.on.size<=maxLen/\r.marks.length<=100000000000/\∀m ∈ r.marks,m.1.size<=maxLen/\m.2.size<=maxLen
theorem GA(r:Ref.Req)(ao:Option Addr)(cap:Nat)(w:World)(C:xL w ao r.marks)(K:Pg.reqLen r)(A:jQ w) :
  Calls prog 14 #[Ref.qo r ao cap] w λe M=>e = .returned (.bool (Ref.xO r))/\Below w.heap.size w M:=by
 obtain⟨who,act,on,ms⟩:=r;obtain⟨F,G,H,I,J⟩:=K;simp only at F G H I J C
 have v:=λW D=>ou ms ao cap W I (λj E=>by
  exact J (jX ms j) (by rw[Q6 ms j E];exact List.getElem_mem E)) (jY C D) (A.below D)
 generalize m:Ref.xO ⟨who,act,on,ms⟩=Q;unfold Ref.xO at m;simp only at m;unfold Ref.qo;simp only;have b0:=λO=>nB w O;have c1:=JD who _ rfl F;have c2:=JD act _ rfl G;have c3:=JD on _ rfl H;have l:∀g,Below w.heap.size w g->jQ g:=λg h=>A.below h;clear C A
 cases d1:Ref.yQ who with
 | false=>
  have e:Q=false:=by rw[<- m,d1];simp
  subst e;rw[d1] at c1;clear m d1 v c2 c3;go_enter func14,ntmps14
  go_wp2_with (go_at_call 22;refine (c1 _ (l _ (b0 _))).mono ?_;rintro e g ⟨rfl,a⟩)
  go_ret;exact⟨rfl,(b0 _).trans (a.mono (by simp))⟩
 | true=>
 rw[d1] at c1
 cases d2:Ref.yQ act with
 | false=>
  have e:Q=false:=by rw[<- m,d2];simp
  subst e;rw[d2] at c2;clear m d1 d2 v c3;go_enter func14,ntmps14
  go_wp2_with (first
   | (go_at_call 22;refine (c2 g (l _ b)).mono ?_;rintro e k ⟨rfl,c⟩;have d:Below w.heap.size w k:=b.trans (c.mono b.size);obtain⟨p,s⟩:=xR c;have u:w.heap.size<k.heap.size:=by (have:=c.size;omega))
   | (go_at_call 22;refine (c1 _ (l _ (b0 _))).mono ?_;rintro e g ⟨rfl,a⟩;have b:Below w.heap.size w g:=(b0 _).trans (a.mono (by simp));obtain⟨o,q⟩:=xR a;have t:w.heap.size<g.heap.size:=by (have:=a.size;simp at this;omega)))
  go_ret;exact⟨rfl,d⟩
 | true=>
 rw[d2] at c2
 cases d3:Ref.yQ on with
 | false=>
  have e:Q=false:=by rw[<- m,d3];simp
  subst e;rw[d3] at c3;clear m d1 d2 d3 v;go_enter func14,ntmps14
  go_wp2_with (first
   | (go_at_call 22;refine (c3 k (l _ d)).mono ?_;rintro e n ⟨rfl,f⟩;have i:Below w.heap.size w n:=d.trans (f.mono d.size);obtain⟨x,y⟩:=xR f;have z:w.heap.size<n.heap.size:=by (have:=f.size;omega))
   | (go_at_call 22;refine (c2 g (l _ b)).mono ?_;rintro e k ⟨rfl,c⟩;have d:Below w.heap.size w k:=b.trans (c.mono b.size);obtain⟨p,s⟩:=xR c;have u:w.heap.size<k.heap.size:=by (have:=c.size;omega))
   | (go_at_call 22;refine (c1 _ (l _ (b0 _))).mono ?_;rintro e g ⟨rfl,a⟩;have b:Below w.heap.size w g:=(b0 _).trans (a.mono (by simp));obtain⟨o,q⟩:=xR a;have t:w.heap.size<g.heap.size:=by (have:=a.size;simp at this;omega)))
  go_ret;exact⟨rfl,i⟩
 | true=>
 rw[d3] at c3
 by_cases d4:ms.length<=10
 ·have e:Q=ms.all Ref.uP:=by rw[<- m,d1,d2,d3,decide_eq_true d4];simp
  have L:decide ((ms.length:Int)<=10)=true:=decide_eq_true (by omega);rw[<- e] at v;clear m d1 d2 d3 d4 e;go_enter func14,ntmps14
  go_wp2_with (first
   | (go_at_call 23;refine (v n i).mono ?_;rintro e N ⟨rfl,B⟩)
   | (go_at_call 22;refine (c3 k (l _ d)).mono ?_;rintro e n ⟨rfl,f⟩;have i:Below w.heap.size w n:=d.trans (f.mono d.size);obtain⟨x,y⟩:=xR f;have z:w.heap.size<n.heap.size:=by (have:=f.size;omega))
   | (go_at_call 22;refine (c2 g (l _ b)).mono ?_;rintro e k ⟨rfl,c⟩;have d:Below w.heap.size w k:=b.trans (c.mono b.size);obtain⟨p,s⟩:=xR c;have u:w.heap.size<k.heap.size:=by (have:=c.size;omega))
   | (go_at_call 22;refine (c1 _ (l _ (b0 _))).mono ?_;rintro e g ⟨rfl,a⟩;have b:Below w.heap.size w g:=(b0 _).trans (a.mono (by simp));obtain⟨o,q⟩:=xR a;have t:w.heap.size<g.heap.size:=by (have:=a.size;simp at this;omega)))
  go_ret;exact⟨rfl,i.trans (B.mono i.size)⟩
 ·have e:Q=false:=by rw[<- m,decide_eq_false d4];simp
  have L:decide ((ms.length:Int)<=10)=false:=decide_eq_false (by omega);subst e;clear m d1 d2 d3 d4 v;go_enter func14,ntmps14
  go_wp2_with (first
   | (go_at_call 22;refine (c3 k (l _ d)).mono ?_;rintro e n ⟨rfl,f⟩;have i:Below w.heap.size w n:=d.trans (f.mono d.size);obtain⟨x,y⟩:=xR f;have z:w.heap.size<n.heap.size:=by (have:=f.size;omega))
   | (go_at_call 22;refine (c2 g (l _ b)).mono ?_;rintro e k ⟨rfl,c⟩;have d:Below w.heap.size w k:=b.trans (c.mono b.size);obtain⟨p,s⟩:=xR c;have u:w.heap.size<k.heap.size:=by (have:=c.size;omega))
   | (go_at_call 22;refine (c1 _ (l _ (b0 _))).mono ?_;rintro e g ⟨rfl,a⟩;have b:Below w.heap.size w g:=(b0 _).trans (a.mono (by simp));obtain⟨o,q⟩:=xR a;have t:w.heap.size<g.heap.size:=by (have:=a.size;simp at this;omega)))
  go_ret;exact⟨rfl,i⟩
end Go.Proofs.YtdakgnaojakldabGreatDoor
