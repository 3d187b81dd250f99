/- P -/
import Derived.Test.YtdakgnaojakldaaGreatDoorS46
open Go.Proofs.Tryz
set_option maxRecDepth 100000
set_option maxHeartbeats 4000000
namespace Go.Proofs.YtdakgnaojakldaaGreatDoor
open Go.RowKit
def kr(v l:Int)(n:BY)(k:Int):Value := .agg #[.int .i64 v,.int .i64 l,.string n,.int .i64 k]
def ZM(F:Option (Nat×BY×Nat)):Value:=match F with
 | none => .tuple #[kr 0 0 ⟨#[]⟩ 0,.bool false]
 | some (i,n,k) => .tuple #[kr 0 ((i:Nat):Int) n ((k:Nat):Int),.bool true]
def xN(a b c d:Value):Obj := .cells #[a,b,c,d] 48
def Z5:Obj:=xN (.int .i64 0) (.int .i64 0) (.string ⟨#[]⟩) (.int .i64 0)
theorem J8{W:World}{b:Nat}{f g i j:Value}(h:W.heap[b]?=some (xN f g i j))(a c d e:Value) :
  ((((W.setCell ⟨b,0,none⟩ a).setCell ⟨b,1,none⟩ c).setCell ⟨b,2,none⟩ d).setCell ⟨b,3,none⟩ e).heap[b]?=some (xN a c d e):=by
 have k:=heap_setCell_same W b 0 _ _ a h;have l:=heap_setCell_same _ b 1 _ _ c k;have m:=heap_setCell_same _ b 2 _ _ d l;exact heap_setCell_same _ b 3 _ _ e m
theorem tq(a:Nat->List zm)(eff:BY)(r:Ref.Req)(is:List Nat)(k:Nat)(h:k<is.length):De.xD a eff r (is.drop k)=match De.yx eff r (a is[k]) with
  | some (n,i)=>some (is[k],n,i)
  | none=>De.xD a eff r (is.drop (k+1)):=by
 rw[List.drop_eq_getElem_cons h]
 rfl
theorem VL(G:Nat)(A:StO)(eff:BY)(r:Ref.Req)(ao so:Option Addr)(cap sc:Nat)(is:List Nat)(M:Nat->Prop)(w:World)(h:qU M w G A)(hi:∀i ∈ is,i<4)(hn:is.length<=100)(hs:∀j,(hj:j<is.length)->∃gb o,so=some ⟨gb,o,none⟩/\w.cell? ⟨gb,o+j,none⟩=some (.int .i64 ((is[j]:Nat):Int)))(S:qO w ao r.marks)(T:Ref.xe r=true)(hE:qD w) :
  Calls prog 89 #[.pointer (some ⟨G,0,none⟩),.string eff,Ref.qP r ao cap,.slice so is.length sc] w λe g=>e = .returned (ZM (De.xD A eff r is))/\Below w.heap.size w g:=by
 have cL:=λ(W:World) (hb:Below w.heap.size w W) (i:Nat) (y:i<4) (lv:Value) (hl:xh M W lv (A i))=>Cw (A i) lv eff r ao cap M W hl (λx hx=>(h.good i y).2.2 x hx) (by have:=(h.good i y).2.1;omega) (jm S hb) T (hE.below hb);obtain⟨F,hF⟩:=Nm (De.xD A eff r is);rw[hF];have l:=λk h=>tq A eff r is k h;obtain⟨u,O⟩:∃W,w.alloc (.cells #[.string r.who,.string r.act,.string r.on,.slice ao r.marks.length cap] 53)=W:=⟨_,rfl⟩;have s1:u.heap.size=w.heap.size+1:=by rw[<- O];simp
 have U:u.heap[w.heap.size]?=some (.cells #[.string r.who,.string r.act,.string r.on,.slice ao r.marks.length cap] 53):=by rw[<- O];exact heap_alloc_new w _
 have b1:Below w.heap.size w u:=by rw[<- O];exact nb w _
 obtain⟨L,Z⟩:∃W,u.alloc Z5=W:=⟨_,rfl⟩;have n2:L.heap[w.heap.size+1]?=some Z5:=by rw[<- Z,<- s1];exact heap_alloc_new u _
 have b2:Below u.heap.size u L:=by rw[<- Z];exact nb u _
 have bw:Below w.heap.size w L:=b1.trans (b2.mono b1.size);have g2:Zf L w.heap.size r ao cap:=Qh ⟨(ze U 0).1,(ze U 1).1,(ze U 2).1,(ze U 3).1⟩ b2;have HW:Hid ((w.alloc (.cells #[.string r.who,.string r.act,.string r.on,.slice ao r.marks.length cap] 53)).alloc (.cells #[.int .i64 0,.int .i64 0,.string ⟨#[]⟩,.int .i64 0] 48)=L):=hid (by rw[O];exact Z);have g3:G<w.heap.size:=by obtain⟨vs,hv,_⟩:=h.row;exact lt_of_block hv
 have CL:=hid cL;have HF:=hid hF;have HD:=hid l;have HO:=hid h;have HI:=hid hi;have HS:=hid hs;have BW:=hid bw;have G2:=hid g2;have N2:=hid n2;clear cL hF l h hi hs bw g2 n2 b1 b2 U O Z s1 S T hE;obtain⟨who,act,on,ms⟩:=r;unfold Ref.qP at CL |-;simp only at CL HW |-;go_enter func89,ntmps89
 go_upto_region 1 with fail
 rw[HW.out];go_wp2_with fail
 go_loopw [17] (λi wr=>∃k:Nat,k<=is.length/\i = .int .i64 k/\De.xD A eff ⟨who,act,on,ms⟩ (is.drop k)=F/\Below w.heap.size w wr/\Zf wr w.heap.size ⟨who,act,on,ms⟩ ao cap/\wr.heap[w.heap.size+1]?=some Z5) (λi _=>is.length-(intOf i).toNat)
 case atStart=>exact⟨0,Nat.zero_le _,rfl,HF.out,BW.out,G2.out,N2.out⟩
 case round=>
  obtain⟨k,hk,rfl,Q,hw,P,s⟩:=hrel;have I:=hid Q;have t:=hid hw;have a4:=hid P;have K:=hid s;obtain⟨z0,z1,z2,z3⟩:=P;simp only at z0 z1 z2 z3;have y0:=(ze s 0).1;have y1:=(ze s 1).1;have y2:=(ze s 2).1;have y3:=(ze s 3).1;have t0:=(ze s 0).2;have t1:=(ze s 1).2;have t2:=(ze s 2).2;have t3:=(ze s 3).2;simp at y0 y1 y2 y3 t0 t1 t2 t3;clear Q hw s BW G2 N2
  by_cases hlt:k<is.length
  ·obtain⟨gb,o,rfl,q0⟩:=HS.out k hlt;have p0:=zg t.out q0;have q:=HD.out k hlt;rw[I.out] at q;have y:=HI.out is[k] (List.getElem_mem hlt);obtain⟨i,R⟩:=Nm (is[k]);simp only[R] at p0 q y;obtain⟨vs,z,m⟩:=(HO.out.below t.out).row;have c0:wr.cell? ⟨G,i,none⟩=some (vs i):=(ze z i).1.trans (YP vs y);obtain⟨la,ln,lc,hv⟩:∃a n c,vs i = .slice a n c:=by obtain⟨a,c,e,_⟩:=m i y;exact⟨a,_,c,e⟩
   have E:=m i y;rw[hv] at c0 E;have B:=hid (CL.out wr.drew t.out.drew i y _ (E.turn (zy.of (Below.refl _ wr).drew)));obtain⟨D,hD⟩:=Nm (De.yx eff ⟨who,act,on,ms⟩ (A i));rw[hD] at B q;have J:=hid q;have k0:(0:Int)<=(i:Int):=Int.natCast_nonneg _;have k1:(i:Int)<4:=by omega
   clear z m hv E q0 q R hD
   cases D with
   | none=>
    unfold Vm at B;simp only at B;go_wp2_with fail
    go_region_held3 (λg=>g.cell? ⟨G,i,none⟩=some (.slice la ln lc)/\g.cell? ⟨w.heap.size,0,none⟩=some (.string who)/\g.cell? ⟨w.heap.size,1,none⟩=some (.string act)/\g.cell? ⟨w.heap.size,2,none⟩=some (.string on)/\g.cell? ⟨w.heap.size,3,none⟩=some (.slice ao ms.length cap)) (go_keep) (first
     | ((go_at_call 142);refine B.out.mono ?_;rintro e H ⟨rfl,N⟩;have f:Below wr.heap.size wr H:=(Below.refl _ wr).drew.trans N;have e0:=zg f c0;have e1:=zg f z0;have e2:=zg f z1;have e3:=zg f z2;have e4:=zg f z3;have b:=hid ((f.block (w.heap.size+1) (lt_of_block K.out)).trans K.out);have a5:=hid (Qh a4.out f);have C:Hid (Below w.heap.size w H):=t.out.trans (f.mono t.out.size);clear N f))
    all_goals
     go_wp2_with fail
     go_roundw
     case rel=>exact⟨k+1,by omega,by go_num,J.out.symm,C.out,a5.out,b.out⟩
     case measure=>simp[intOf];omega
   | some d=>
    obtain⟨nm,num⟩:=d;unfold Vm at B;simp only at B;go_wp2_with fail
    go_region_held3 (λg=>g.cell? ⟨G,i,none⟩=some (.slice la ln lc)/\g.cell? ⟨w.heap.size,0,none⟩=some (.string who)/\g.cell? ⟨w.heap.size,1,none⟩=some (.string act)/\g.cell? ⟨w.heap.size,2,none⟩=some (.string on)/\g.cell? ⟨w.heap.size,3,none⟩=some (.slice ao ms.length cap)) (go_keep) (first
     | ((go_at_call 142);refine B.out.mono ?_;rintro e H ⟨rfl,N⟩;have f:Below wr.heap.size wr H:=(Below.refl _ wr).drew.trans N;have e0:=zg f c0;have e1:=zg f z0;have e2:=zg f z1;have e3:=zg f z2;have e4:=zg f z3;have b:=hid ((f.block (w.heap.size+1) (lt_of_block K.out)).trans K.out);have C:Hid (Below w.heap.size w H):=t.out.trans (f.mono t.out.size);clear N f))
    all_goals
     have y0:=(ze b.out 0).1;have y1:=(ze b.out 1).1;have y2:=(ze b.out 2).1;have y3:=(ze b.out 3).1;have t0:=(ze b.out 0).2;have t1:=(ze b.out 1).2;have t2:=(ze b.out 2).2;have t3:=(ze b.out 3).2;simp at y0 y1 y2 y3 t0 t1 t2 t3;have p:=J8 b.out (.int .i64 0) (.int .i64 (i:Int)) (.string nm) (.int .i64 (num:Int));have r0:=(ze p 0).1;have V:=(ze p 1).1;have X:=(ze p 2).1;have Y:=(ze p 3).1;simp at r0 V X Y;have a3:Hid (Below w.heap.size w ((((H.setCell ⟨w.heap.size+1,0,none⟩ (.int .i64 0)).setCell ⟨w.heap.size+1,1,none⟩ (.int .i64 (i:Int))).setCell ⟨w.heap.size+1,2,none⟩ (.string nm)).setCell ⟨w.heap.size+1,3,none⟩ (.int .i64 (num:Int)))):=hid ((((C.out.setCell (by simp) _).setCell (by simp) _).setCell (by simp) _).setCell (by simp) _);clear p;go_wp2_with fail;exact bodyPost_ret (v := .tuple #[.agg #[.int .i64 0,.int .i64 (i:Int),.string nm,.int .i64 (num:Int)],.bool true]) (by simp[results,results89,go_sem,r0,V,X,Y]) rfl ⟨by rw[J.out];rfl,a3.out⟩
  ·have a9:k=is.length:=by omega
   subst a9;have e:=I.out;rw[List.drop_length] at e;have HE:=hid e;have p:=J8 K.out (.int .i64 0) (.int .i64 0) (.string ⟨#[]⟩) (.int .i64 0);have r0:=(ze p 0).1;have V:=(ze p 1).1;have X:=(ze p 2).1;have Y:=(ze p 3).1;simp at r0 V X Y;clear e p;go_wp2_with fail;exact bodyPost_ret (v := .tuple #[.agg #[.int .i64 0,.int .i64 0,.string ⟨#[]⟩,.int .i64 0],.bool false]) (by simp[results,results89,go_sem,r0,V,X,Y]) rfl ⟨by rw[<- HE.out];rfl,(((t.out.setCell (by simp) _).setCell (by simp) _).setCell (by simp) _).setCell (by simp) _⟩
theorem tu(a:Nat->List zm)(eff:BY)(r:Ref.Req)(i:Nat):(De.xD a eff r [i]).isSome=(De.yx eff r (a i)).isSome:=by
 simp only[De.xD]
 cases De.yx eff r (a i) with
 | none=>rfl
 | some d=>rfl
theorem CK(z:Nat)(k:StO)(i:Nat)(r:Ref.Req)(ao:Option Addr)(cap:Nat)(M:Nat->Prop)(w:World)(h:qU M w z k)(K:i<4)(t:qO w ao r.marks)(u:Ref.xe r=true)(L:qD w) :
  Calls prog 90 #[.pointer (some ⟨z,0,none⟩),.int .i64 ((i:Nat):Int),Ref.qP r ao cap] w λe U=>e = .returned (.bool (De.ji k r i))/\Below w.heap.size w U:=by
 obtain⟨f,x⟩:∃W,w.alloc (.cells #[.string r.who,.string r.act,.string r.on,.slice ao r.marks.length cap] 53)=W:=⟨_,rfl⟩;have v:f.heap[w.heap.size]?=some (.cells #[.string r.who,.string r.act,.string r.on,.slice ao r.marks.length cap] 53):=by rw[<- x];exact heap_alloc_new w _
 have p:Below w.heap.size w f:=by rw[<- x];exact nb w _
 obtain⟨V,X,Y,Z⟩:Zf f w.heap.size r ao cap:=⟨(ze v 0).1,(ze v 1).1,(ze v 2).1,(ze v 3).1⟩;have G:Below f.heap.size f (f.alloc (.cells #[.int .i64 ((i:Nat):Int)] 3)):=nb f _;have q:Below w.heap.size w (f.alloc (.cells #[.int .i64 ((i:Nat):Int)] 3)):=p.trans (G.mono p.size)
 have C:=VL z k De.xm r ao (some ⟨f.heap.size,0,none⟩) cap 1 [i] M (f.alloc (.cells #[.int .i64 ((i:Nat):Int)] 3)) (h.below q) (λj y=>by simp at y;omega) (by simp) (λj y=>by
   simp at y;subst y;exact⟨_,_,rfl,by simp⟩) (jm t q) u (L.below q)
 obtain⟨E,m,l⟩:=(h.below p).row;have c0:f.cell? ⟨z,i,none⟩=some (E i):=(ze m i).1.trans (YP E K);obtain⟨la,lc,O⟩:∃a c,E i = .slice a (k i).length c:=by obtain⟨a,c,e,_⟩:=l i K;exact⟨a,c,e⟩
 rw[O] at c0;have k0:(0:Int)<=(i:Int):=Int.natCast_nonneg _;have k1:(i:Int)<4:=by omega
 have g:=tu k De.xm r i;unfold De.ji;rw[<- g];obtain⟨F,hF⟩:=Nm (De.xD k De.xm r [i]);rw[hF] at C |-;have s:(k i).isEmpty=decide ((k i).length=0):=by cases k i<;>simp
 rw[s];obtain⟨n,N⟩:=Nm ((k i).length);rw[N] at c0 |-;have B:=hid x;have o:=hid C;have T:=hid p;have A:=hid q;obtain⟨who,act,on,ms⟩:=r;unfold Ref.qP at o |-;simp only at o B V X Y Z |-;unfold De.xm at o;clear C hF g m l O h t u L x p G q v s N
 by_cases hz:n=0
 ·subst hz;go_enter func90,ntmps90
  go_upto_region 1 with fail
  rw[B.out];go_wp2_with fail;go_ret;exact⟨rfl,T.out⟩
 ·have d:((n:Int)==0)=false:=by simp;omega
  rw[decide_eq_false hz,Bool.false_or]
  have e:∃D b,ZM F = .tuple #[D,.bool b]/\b=F.isSome/\∃P Q R S,D=kr P Q R S:=by
   cases F with
   | none=>exact⟨_,_,rfl,rfl,_,_,_,_,rfl⟩
   | some d=>exact⟨_,_,rfl,rfl,_,_,_,_,rfl⟩
  obtain⟨D,b,I,J,P,Q,R,S,rfl⟩:=e;rw[I] at o;rw[<- J];unfold kr at o;clear I J;go_enter func90,ntmps90
  go_upto_region 1 with fail
  rw[B.out]
  go_wp2_with (go_at_call 89;refine o.out.mono ?_;rintro e w3 ⟨rfl,H⟩)
  go_ret;exact⟨rfl,(A.out.trans (H.mono A.out.size)).alloc (by have:=A.out.size;have:=H.size;omega) _⟩
def Pg.reqLen(r:Ref.Req):Prop:=r.who.size<=maxLen/\r.act.size<=maxLen/\r.on.size<=maxLen/\r.marks.length<=100000000000/\∀m ∈ r.marks,m.1.size<=maxLen/\m.2.size<=maxLen
theorem Du(r:Ref.Req)(ao:Option Addr)(cap:Nat)(w:World)(C:qO w ao r.marks)(J:Pg.reqLen r)(A:jd w) :
  Calls prog 45 #[Ref.qP r ao cap] w λe L=>e = .returned (.bool (Ref.xe r))/\Below w.heap.size w L:=by
 obtain⟨who,act,on,ms⟩:=r;obtain⟨E,F,G,H,I⟩:=J;simp only at E F G H I C
 have v:=λW hb=>iX ms ao cap W H (λj D=>by
  exact I (jl ms j) (by rw[Qt ms j D];exact List.getElem_mem D)) (jm C hb) (A.below hb)
 generalize m:Ref.xe ⟨who,act,on,ms⟩=Q;unfold Ref.xe at m;simp only at m;unfold Ref.qP;simp only;have b0:=λO=>nb w O;have c1:=YU who _ rfl E;have c2:=YU act _ rfl F;have c3:=YU on _ rfl G;have l:∀g,Below w.heap.size w g->jd g:=λg h=>A.below h;clear C A
 cases d1:Ref.yH who with
 | false=>
  have e:Q=false:=by rw[<- m,d1];simp
  subst e;rw[d1] at c1;clear m d1 v c2 c3;go_enter func45,ntmps45
  go_wp2_with (go_at_call 86;refine (c1 _ (l _ (b0 _))).mono ?_;rintro e g ⟨rfl,a⟩)
  go_ret;exact⟨rfl,(b0 _).trans (a.mono (by simp))⟩
 | true=>
 rw[d1] at c1
 cases d2:Ref.yH act with
 | false=>
  have e:Q=false:=by rw[<- m,d2];simp
  subst e;rw[d2] at c2;clear m d1 d2 v c3;go_enter func45,ntmps45
  go_wp2_with (first
   | (go_at_call 86;refine (c2 g (l _ b)).mono ?_;rintro e k ⟨rfl,c⟩;have d:Below w.heap.size w k:=b.trans (c.mono b.size);obtain⟨p,s⟩:=xB c;have u:w.heap.size<k.heap.size:=by (have:=c.size;omega))
   | (go_at_call 86;refine (c1 _ (l _ (b0 _))).mono ?_;rintro e g ⟨rfl,a⟩;have b:Below w.heap.size w g:=(b0 _).trans (a.mono (by simp));obtain⟨o,q⟩:=xB a;have t:w.heap.size<g.heap.size:=by (have:=a.size;simp at this;omega)))
  go_ret;exact⟨rfl,d⟩
 | true=>
 rw[d2] at c2
 cases d3:Ref.yH on with
 | false=>
  have e:Q=false:=by rw[<- m,d3];simp
  subst e;rw[d3] at c3;clear m d1 d2 d3 v;go_enter func45,ntmps45
  go_wp2_with (first
   | (go_at_call 86;refine (c3 k (l _ d)).mono ?_;rintro e n ⟨rfl,f⟩;have i:Below w.heap.size w n:=d.trans (f.mono d.size);obtain⟨x,y⟩:=xB f;have z:w.heap.size<n.heap.size:=by (have:=f.size;omega))
   | (go_at_call 86;refine (c2 g (l _ b)).mono ?_;rintro e k ⟨rfl,c⟩;have d:Below w.heap.size w k:=b.trans (c.mono b.size);obtain⟨p,s⟩:=xB c;have u:w.heap.size<k.heap.size:=by (have:=c.size;omega))
   | (go_at_call 86;refine (c1 _ (l _ (b0 _))).mono ?_;rintro e g ⟨rfl,a⟩;have b:Below w.heap.size w g:=(b0 _).trans (a.mono (by simp));obtain⟨o,q⟩:=xB a;have t:w.heap.size<g.heap.size:=by (have:=a.size;simp at this;omega)))
  go_ret;exact⟨rfl,i⟩
 | true=>
 rw[d3] at c3
 by_cases d4:ms.length<=10
 ·have e:Q=ms.all Ref.vo:=by rw[<- m,d1,d2,d3,decide_eq_true d4];simp
  have K:decide ((ms.length:Int)<=10)=true:=decide_eq_true (by omega);rw[<- e] at v;clear m d1 d2 d3 d4 e;go_enter func45,ntmps45
  go_wp2_with (first
   | (go_at_call 87;refine (v n i).mono ?_;rintro e M ⟨rfl,B⟩)
   | (go_at_call 86;refine (c3 k (l _ d)).mono ?_;rintro e n ⟨rfl,f⟩;have i:Below w.heap.size w n:=d.trans (f.mono d.size);obtain⟨x,y⟩:=xB f;have z:w.heap.size<n.heap.size:=by (have:=f.size;omega))
   | (go_at_call 86;refine (c2 g (l _ b)).mono ?_;rintro e k ⟨rfl,c⟩;have d:Below w.heap.size w k:=b.trans (c.mono b.size);obtain⟨p,s⟩:=xB c;have u:w.heap.size<k.heap.size:=by (have:=c.size;omega))
   | (go_at_call 86;refine (c1 _ (l _ (b0 _))).mono ?_;rintro e g ⟨rfl,a⟩;have b:Below w.heap.size w g:=(b0 _).trans (a.mono (by simp));obtain⟨o,q⟩:=xB a;have t:w.heap.size<g.heap.size:=by (have:=a.size;simp at this;omega)))
  go_ret;exact⟨rfl,i.trans (B.mono i.size)⟩
 ·have e:Q=false:=by rw[<- m,decide_eq_false d4];simp
  have K:decide ((ms.length:Int)<=10)=false:=decide_eq_false (by omega);subst e;clear m d1 d2 d3 d4 v;go_enter func45,ntmps45
  go_wp2_with (first
   | (go_at_call 86;refine (c3 k (l _ d)).mono ?_;rintro e n ⟨rfl,f⟩;have i:Below w.heap.size w n:=d.trans (f.mono d.size);obtain⟨x,y⟩:=xB f;have z:w.heap.size<n.heap.size:=by (have:=f.size;omega))
   | (go_at_call 86;refine (c2 g (l _ b)).mono ?_;rintro e k ⟨rfl,c⟩;have d:Below w.heap.size w k:=b.trans (c.mono b.size);obtain⟨p,s⟩:=xB c;have u:w.heap.size<k.heap.size:=by (have:=c.size;omega))
   | (go_at_call 86;refine (c1 _ (l _ (b0 _))).mono ?_;rintro e g ⟨rfl,a⟩;have b:Below w.heap.size w g:=(b0 _).trans (a.mono (by simp));obtain⟨o,q⟩:=xB a;have t:w.heap.size<g.heap.size:=by (have:=a.size;simp at this;omega)))
  go_ret;exact⟨rfl,i⟩
end Go.Proofs.YtdakgnaojakldaaGreatDoor
