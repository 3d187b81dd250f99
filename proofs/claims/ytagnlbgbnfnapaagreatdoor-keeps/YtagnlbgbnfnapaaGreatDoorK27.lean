/- P -/
import Derived.Test.YtagnlbgbnfnapaaGreatDoorK26
open Go.Proofs.Tryz
set_option maxRecDepth 100000
set_option maxHeartbeats 1000000
namespace Go.Proofs.YtagnlbgbnfnapaaGreatDoor
open Go.RowKit
def XN(w:World)(outs:List BY)(e:Ending)(w':World):Prop:=∃lv,e = .returned lv/\zz w' w.heap.size lv outs/\Below w.heap.size w w'
theorem Jd:(prog.info? 9).map (λi=>(i.zero,i.size,i.bytes))=some (some (.string ⟨#[]⟩),1,16):=by kernel_rfl
theorem Vj{w:World}{B:Nat}{a:Value}{l:List BY}{s:BY}(h:w.ownsRow B 9 1 a (l.length+1) (l.map Value.string++[.string s])):zz w B a (l++[s]):=by
 unfold zz;rw[uG,qA];exact h
theorem Lx(b:List BY)(lv:Value)(base g:Nat)(out:BY->BY)(w:World)(h:zz w base lv b)(hn:b.length<=1000)(eg:∀args w,(callFunc g args).run prog w = .ok (.enter g args) w)
  (Q:∀W s,s ∈ b->Below w.heap.size w W->Calls prog g #[.string s] W λe w'=>e = .returned (.string (out s))/\Below W.heap.size W w') :
  Calls prog 242 #[lv,.func (.func g) #[] #[]] w (XN w (b.map out)):=by
 obtain⟨V,hi,E,F,G⟩:=qP Jd;obtain⟨a,c,rfl⟩:=qG h;obtain⟨n,l⟩:=Nm b.length
 have f:∀(k:Nat) (x:BY),b[k]?=some x->∃v,a=some ⟨v,0,none⟩/\w.cell? ⟨v,k,none⟩=some (.string x):=by
  intro k x T;have C:k<b.length:=(zR.1 T).1
  rcases h.2 with ⟨e,h0⟩|⟨v,cap,cur,e,_⟩
  ·omega
  ·have hc:=World.ownsRow.cellAt (g:=v) (cap:=cap) (by rw[<- e];exact h) k (by omega);injection e with e1 e2 e3
   exact⟨v,e1,by rw[hc];simp[List.getElem?_map,T]⟩
 rw[l];rw[l] at hn;have Z:=hid f;have HP:=hid Q;have O:=hid l;clear f Q l h;go_enter func242,ntmps242
 go_wp2_with (at_make;refine eu _ rfl _ _ 48 rfl w.heap.size 9 V (.string ⟨#[]⟩) 1 underlying48 hi E F _ _ _ n rfl rfl rfl ?_ ?_ ?_ ?_)
 ·rw[G];omega
 ·unfold maxLen;omega
 ·omega
 intro w1 m d;have B:=hid m;have z:Hid (Below w.heap.size w w1):=(zf _ w).grown d (ze _) (λk C=>by cases C);clear m d;go_wp2_with fail
 go_loopw [5,7,13] (λov _ kv wr=>∃(k:Nat),k<=n/\kv = .int .i64 k/\zz wr w.heap.size ov ((b.take k).map out)/\Below w.heap.size w wr) (λ_ _ kv _=>n-(intOf kv).toNat)
 case atStart=>exact⟨0,zG _,rfl,B.out,z.out⟩
 case round=>
  obtain⟨k,C,rfl,y,hb⟩:=hrel;have H:=hid y;have t:=hid hb;clear y hb B z
  by_cases hlt:k<n
  ·have p:k<b.length:=by rw[O.out];exact hlt
   obtain⟨v,rfl,q⟩:=Z.out k _ (zn p);have q2:=zi t.out q;have M:=HP.out wr b[k] (xB p) t.out;have r:Hid ((b.take (k+1)).map out=(b.take k).map out++[out b[k]]):=hid (by rw[Xe,zn p,uG];rfl);have D:((b.take k).map out).length=k:=by rw[qB,yZ];omega
   obtain⟨s,R⟩:=Nm (b[k]);rw[R] at q2 M r;have Y:=hid M;obtain⟨L,P⟩:=Nm ((b.take k).map out);rw[P] at H r D;clear q M R P
   go_wp2_with (first
    | (go_at_fn g;refine Y.out.mono ?_;rintro e w2 ⟨rfl,o⟩;have A:=hid o;have U:=o.size;have a3:=t.out.size;clear o)
    | (at_builtin;refine yK _ rfl _ _ 48 rfl w.heap.size 9 V (.string ⟨#[]⟩) 1 16 underlying48 hi E F G rfl (by decide) _ L.length (L.map Value.string) rfl (World.ownsRow.alloc (ownsRow_below H.out A.out) _) ⟨w2.heap.size,0,none⟩ 1 1 [.string (out s)] rfl rfl ?_ ?_ ?_ ?_ ?_ ?_))
   ·exact vG _ _ _
   ·intro u S;simp at S;rcases S with rfl;rfl
   ·unfold maxLen;omega
   ·omega
   ·simp;omega
   ·intro v' X j i _;have K:Hid (zz X w.heap.size v' ((b.take (k+1)).map out)):=by rw[r.out];exact Vj (by rw[D];exact j)
    have I:Hid (Below w.heap.size w X):=((t.out.trans (A.out.mono t.out.size)).alloc (by omega) _).grown i (by simp;omega) (λk C=>(World.ownsRow.lt H.out k C).1);clear j i
    go_wp2
    go_roundw
    case rel=>exact⟨k+1,by omega,by go_num,K.out,I.out⟩
    case measure=>simp[intOf];omega
  ·have N:k=n:=by omega
   subst N;have y:=H.out;rw[Zd (by rw[O.out];omega)] at y;have J:=hid y;clear y
   go_wp2
   go_ret;exact⟨_,rfl,J.out,t.out⟩
theorem Lu(b:List xG)(lv:Value)(base g:Nat)(out:xG->BY)(w:World)(h:qR w base lv b)(hn:b.length<=1000)(eg:∀args w,(callFunc g args).run prog w = .ok (.enter g args) w)
  (hp:∀W x t,x ∈ b->Below w.heap.size w W->zz W base t x.vals->Calls prog g #[.agg #[.string x.op,.string x.key,t,.bool x.no]] W λe w'=>e = .returned (.string (out x))/\Below W.heap.size W w') :
  Calls prog 218 #[lv,.func (.func g) #[] #[]] w (XN w (b.map out)):=by
 obtain⟨i0,hi,K,M,N⟩:=qP Jd;obtain⟨xs,I,hc⟩:=h
 obtain⟨a,c,rfl⟩:∃a c,lv = .slice a b.length c:=by
  rcases I.2 with ⟨rfl,F⟩|⟨d,c,cur,rfl,_⟩
  ·exact⟨_,_,by rw[F]⟩
  ·exact⟨_,_,rfl⟩
 obtain⟨n,r⟩:=Nm b.length
 have j:∀(k:Nat) (x:xG),b[k]?=some x->∃d t,a=some ⟨d,0,none⟩/\(w.cell? ⟨d,k*4,none⟩=some (.string x.op)/\w.cell? ⟨d,k*4+1,none⟩=some (.string x.key)/\w.cell? ⟨d,k*4+2,none⟩=some t/\w.cell? ⟨d,k*4+3,none⟩=some (.bool x.no))/\zz w base t x.vals:=by
  intro k x J;have B:k<b.length:=(zR.1 J).1;have hl:xs.length=b.length*4:=I.1
  rcases I.2 with ⟨e,F⟩|⟨d,cap,cur,e,_⟩
  ·omega
  ·have q:∀i,i<b.length*4->w.cell? ⟨d,i,none⟩=xs[i]?:=λi hi=>World.ownsRow.cellAt (g:=d) (cap:=cap) (by rw[<- e];exact I) i (by omega);injection e with e1 e2 e3
   obtain⟨t,F,Z,h2,h3,h4⟩:=hc k B;have T:b[k]=x:=(zR.1 J).2;rw[T] at F Z h3 h4;exact⟨d,t,e1,⟨(q _ (by omega)).trans F,(q _ (by omega)).trans Z,(q _ (by omega)).trans h2,(q _ (by omega)).trans h3⟩,h4⟩
 rw[r];rw[r] at hn;have HC:=hid j;have HP:=hid hp;have X:=hid r;clear j hp r I hc;go_enter func218,ntmps218
 go_wp2_with (at_make;refine eu _ rfl _ _ 48 rfl w.heap.size 9 i0 (.string ⟨#[]⟩) 1 underlying48 hi K M _ _ _ n rfl rfl rfl ?_ ?_ ?_ ?_)
 ·rw[N];omega
 ·unfold maxLen;omega
 ·omega
 intro w1 v f;have E:=hid v;have D:Hid (Below w.heap.size w w1):=(zf _ w).grown f (ze _) (λk B=>by cases B);clear v f;go_wp2_with fail
 go_loopw [5,7,13] (λov _ kv wr=>∃(k:Nat),k<=n/\kv = .int .i64 k/\zz wr w.heap.size ov ((b.take k).map out)/\Below w.heap.size w wr) (λ_ _ kv _=>n-(intOf kv).toNat)
 case atStart=>exact⟨0,zG _,rfl,E.out,D.out⟩
 case round=>
  obtain⟨k,B,rfl,C,hb⟩:=hrel;have O:=hid C;have p:=hid hb;clear C hb E D
  by_cases hlt:k<n
  ·have z:k<b.length:=by rw[X.out];exact hlt
   obtain⟨d,t,rfl,⟨q0,q1,q2,q3⟩,V⟩:=HC.out k _ (zn z);have p0:=zi p.out q0;have p1:=zi p.out q1;have p2:=zi p.out q2;have p3:=zi p.out q3;have A:Hid ((b.take (k+1)).map out=(b.take k).map out++[out b[k]]):=hid (by rw[Xe,zn z,uG];rfl);have H:((b.take k).map out).length=k:=by rw[qB,yZ];omega
   have m:b[k] ∈ b:=xB z;obtain⟨s,hs⟩:=Nm (b[k]);rw[hs] at q0 q1 q3 p0 p1 p3 V A m;obtain⟨xa,xc,rfl⟩:=qG V;have o5:=ownsRow_below V p.out;have U:=p.out.size;have Y:=HP.out (wr.alloc (.cells #[.string s.op,.string s.key,.slice xa s.vals.length xc,.bool s.no] 286)) s _ m (p.out.alloc U _) (World.ownsRow.alloc o5 _);have CC:=hid Y;obtain⟨L,hL⟩:=Nm ((b.take k).map out);rw[hL] at O A H;clear Y hs hL m
   go_wp2_with (first
    | (go_at_fn g;refine CC.out.mono ?_;rintro e w2 ⟨rfl,G⟩;have y:Hid (Below wr.heap.size wr w2):=(nbl wr _).trans (G.mono (by simp));have a7:=y.out.size;clear G)
    | (at_builtin;refine yK _ rfl _ _ 48 rfl w.heap.size 9 i0 (.string ⟨#[]⟩) 1 16 underlying48 hi K M N rfl (by decide) _ L.length (L.map Value.string) rfl (World.ownsRow.alloc (ownsRow_below O.out y.out) _) ⟨w2.heap.size,0,none⟩ 1 1 [.string (out s)] rfl rfl ?_ ?_ ?_ ?_ ?_ ?_))
   ·exact vG _ _ _
   ·intro u hu;simp at hu;rcases hu with rfl;rfl
   ·unfold maxLen;omega
   ·omega
   ·simp;omega
   ·intro v' w3 o l _;have R:Hid (zz w3 w.heap.size v' ((b.take (k+1)).map out)):=by rw[A.out];exact Vj (by rw[H];exact o)
    have P:Hid (Below w.heap.size w w3):=((p.out.trans (y.out.mono p.out.size)).alloc (by omega) _).grown l (by simp;omega) (λk B=>(World.ownsRow.lt O.out k B).1);clear o l
    go_wp2
    go_roundw
    case rel=>exact⟨k+1,by omega,by go_num,R.out,P.out⟩
    case measure=>simp[intOf];omega
  ·have S:k=n:=by omega
   subst S;have C:=O.out;rw[Zd (by rw[X.out];omega)] at C;have Q:=hid C;clear C
   go_wp2
   go_ret;exact⟨_,rfl,Q.out,p.out⟩
theorem Lv(b:List qp)(lv:Value)(base g:Nat)(out:qp->BY)(w:World)(h:jc w base lv b)(hn:b.length<=1000)(eg:∀args w,(callFunc g args).run prog w = .ok (.enter g args) w)
  (hp:∀W x v y z t,x ∈ b->Below w.heap.size w W->zz W base v x.who.2->zz W base y x.act.2->zz W base z x.on.2->qR W base t x.ifs->Calls prog g #[.agg #[.string x.eff,.bool x.who.1,v,.bool x.act.1,y,.bool x.on.1,z,t]] W λe w'=>e = .returned (.string (out x))/\Below W.heap.size W w') :
  Calls prog 172 #[lv,.func (.func g) #[] #[]] w (XN w (b.map out)):=by
 obtain⟨i0,hi,P,Q,R⟩:=qP Jd;obtain⟨xs,M,hc⟩:=h
 obtain⟨a,c,rfl⟩:∃a c,lv = .slice a b.length c:=by
  rcases M.2 with ⟨rfl,C⟩|⟨f,c,cur,rfl,_⟩
  ·exact⟨_,_,by rw[C]⟩
  ·exact⟨_,_,rfl⟩
 obtain⟨n,r⟩:=Nm b.length
 have m:∀(k:Nat) (x:qp),b[k]?=some x->∃f v y z t,a=some ⟨f,0,none⟩/\(w.cell? ⟨f,k*8,none⟩=some (.string x.eff)/\w.cell? ⟨f,k*8+1,none⟩=some (.bool x.who.1)/\w.cell? ⟨f,k*8+2,none⟩=some v/\w.cell? ⟨f,k*8+3,none⟩=some (.bool x.act.1)/\w.cell? ⟨f,k*8+4,none⟩=some y/\w.cell? ⟨f,k*8+5,none⟩=some (.bool x.on.1)/\w.cell? ⟨f,k*8+6,none⟩=some z/\w.cell? ⟨f,k*8+7,none⟩=some t)/\zz w base v x.who.2/\zz w base y x.act.2/\zz w base z x.on.2/\qR w base t x.ifs:=by
  intro k x N;have F:k<b.length:=(zR.1 N).1;have hl:xs.length=b.length*8:=M.1
  rcases M.2 with ⟨e,C⟩|⟨f,cap,cur,e,_⟩
  ·omega
  ·have d:∀i,i<b.length*8->w.cell? ⟨f,i,none⟩=xs[i]?:=λi hi=>World.ownsRow.cellAt (g:=f) (cap:=cap) (by rw[<- e];exact M) i (by omega);injection e with e1 e2 e3
   obtain⟨v,y,z,t,C,h1,h2,h3,h4,h5,h6,h7,g1,g2,g3,g4⟩:=hc k F;have Z:b[k]=x:=(zR.1 N).2;rw[Z] at C h1 h3 h5 g1 g2 g3 g4;exact⟨f,v,y,z,t,e1,⟨(d _ (by omega)).trans C,(d _ (by omega)).trans h1,(d _ (by omega)).trans h2,(d _ (by omega)).trans h3,(d _ (by omega)).trans h4,(d _ (by omega)).trans h5,(d _ (by omega)).trans h6,(d _ (by omega)).trans h7⟩,g1,g2,g3,g4⟩
 rw[r];rw[r] at hn;have HC:=hid m;have HP:=hid hp;have HN:=hid r;clear m hp r M hc;go_enter func172,ntmps172
 go_wp2_with (at_make;refine eu _ rfl _ _ 48 rfl w.heap.size 9 i0 (.string ⟨#[]⟩) 1 underlying48 hi P Q _ _ _ n rfl rfl rfl ?_ ?_ ?_ ?_)
 ·rw[R];omega
 ·unfold maxLen;omega
 ·omega
 intro w1 A l;have I:=hid A;have H:Hid (Below w.heap.size w w1):=(zf _ w).grown l (ze _) (λk F=>by cases F);clear A l;go_wp2_with fail
 go_loopw [5,7,13] (λov _ kv wr=>∃(k:Nat),k<=n/\kv = .int .i64 k/\zz wr w.heap.size ov ((b.take k).map out)/\Below w.heap.size w wr) (λ_ _ kv _=>n-(intOf kv).toNat)
 case atStart=>exact⟨0,zG _,rfl,I.out,H.out⟩
 case round=>
  obtain⟨k,F,rfl,G,hb⟩:=hrel;have S:=hid G;have j:=hid hb;clear G hb I H
  by_cases hlt:k<n
  ·have D:k<b.length:=by rw[HN.out];exact hlt
   obtain⟨f,v,y,z,t,rfl,⟨q0,q1,q2,q3,q4,q5,q6,q7⟩,o1,o2,o3,o4⟩:=HC.out k _ (zn D);have p0:=zi j.out q0;have p1:=zi j.out q1;have p2:=zi j.out q2;have p3:=zi j.out q3;have p4:=zi j.out q4;have p5:=zi j.out q5;have p6:=zi j.out q6;have p7:=zi j.out q7;have E:Hid ((b.take (k+1)).map out=(b.take k).map out++[out b[k]]):=hid (by rw[Xe,zn D,uG];rfl);have K:((b.take k).map out).length=k:=by rw[qB,yZ];omega
   have p:b[k] ∈ b:=xB D;obtain⟨s,hs⟩:=Nm (b[k]);rw[hs] at q0 q1 q3 q5 p0 p1 p3 p5 o1 o2 o3 o4 E p;obtain⟨x1,y1,rfl⟩:=qG o1;obtain⟨x2,y2,rfl⟩:=qG o2;obtain⟨x3,y3,rfl⟩:=qG o3
   obtain⟨x4,y4,rfl⟩:∃a c,t = .slice a s.ifs.length c:=by
    obtain⟨ys,hy,_⟩:=o4
    rcases hy.2 with ⟨rfl,C⟩|⟨f,c,cur,rfl,_⟩
    ·exact⟨_,_,by rw[C]⟩
    ·exact⟨_,_,rfl⟩
   have T:=λO:Obj=>(j.out.alloc j.out.size O);have a0:=j.out.size;have cc:=HP.out (wr.alloc (.cells #[.string s.eff,.bool s.who.1,.slice x1 s.who.2.length y1,.bool s.act.1,.slice x2 s.act.2.length y2,.bool s.on.1,.slice x3 s.on.2.length y3,.slice x4 s.ifs.length y4] 137)) s _ _ _ _ p (j.out.alloc a0 _) (o1.below (T _)) (o2.below (T _)) (o3.below (T _)) (o4.below (T _));have CC:=hid cc;obtain⟨L,hL⟩:=Nm ((b.take k).map out);rw[hL] at S E K;clear cc hs hL p
   go_wp2_with (first
    | (go_at_fn g;refine CC.out.mono ?_;rintro e w2 ⟨rfl,J⟩;have B:Hid (Below wr.heap.size wr w2):=(nbl wr _).trans (J.mono (by simp));have b9:=B.out.size;clear J)
    | (at_builtin;refine yK _ rfl _ _ 48 rfl w.heap.size 9 i0 (.string ⟨#[]⟩) 1 16 underlying48 hi P Q R rfl (by decide) _ L.length (L.map Value.string) rfl (World.ownsRow.alloc (ownsRow_below S.out B.out) _) ⟨w2.heap.size,0,none⟩ 1 1 [.string (out s)] rfl rfl ?_ ?_ ?_ ?_ ?_ ?_))
   ·exact vG _ _ _
   ·intro u hu;simp at hu;rcases hu with rfl;rfl
   ·unfold maxLen;omega
   ·omega
   ·simp;omega
   ·intro v' w3 q o _;have X:Hid (zz w3 w.heap.size v' ((b.take (k+1)).map out)):=by rw[E.out];exact Vj (by rw[K];exact q)
    have U:Hid (Below w.heap.size w w3):=((j.out.trans (B.out.mono j.out.size)).alloc (by omega) _).grown o (by simp;omega) (λk F=>(World.ownsRow.lt S.out k F).1);clear q o
    go_wp2
    go_roundw
    case rel=>exact⟨k+1,by omega,by go_num,X.out,U.out⟩
    case measure=>simp[intOf];omega
  ·have Y:k=n:=by omega
   subst Y;have G:=S.out;rw[Zd (by rw[HN.out];omega)] at G;have V:=hid G;clear G
   go_wp2
   go_ret;exact⟨_,rfl,V.out,j.out⟩
end Go.Proofs.YtagnlbgbnfnapaaGreatDoor
namespace Go.Proofs.YtagnlbgbnfnapaaGreatDoor
open Go.Shelf
def Tryz.lays156_ren:Go.Shelf.Ren:=⟨λ|156=>171|165=>213|166=>214|169=>215|240=>240|241=>241|276=>253|277=>254|n=>n,λ|31=>48|9=>9|3=>3|4=>4|0=>0|20=>20|72=>367|76=>369|70=>365|37=>181|75=>86|127=>301|164=>206|5=>5|80=>176|n=>n,λ|n=>n⟩
theorem Tryz.lays156:Go.Proofs.Lays.n156 prog Tryz.lays156_ren:={
 mixed:=by kernel_rfl
 f156:=func171.trans (congrArg some (by kernel_rfl))
 f165:=func213.trans (congrArg some (by kernel_rfl))
 f166:=func214.trans (congrArg some (by kernel_rfl))
 f169:=func215.trans (congrArg some (by kernel_rfl))
 f240:=func240.trans (congrArg some (by kernel_rfl))
 f241:=func241.trans (congrArg some (by kernel_rfl))
 f276:=func253.trans (congrArg some (by kernel_rfl))
 f277:=func254.trans (congrArg some (by kernel_rfl))
 t0:=underlying0
 a0:=Tryz.isAgg0
 z0:=Tryz.sizeOf0
 v0:=Tryz.zeroValue0
 t3:=underlying3
 a3:=Tryz.isAgg3
 z3:=Tryz.sizeOf3
 v3:=Tryz.zeroValue3
 t4:=underlying4
 a4:=Tryz.isAgg4
 z4:=Tryz.sizeOf4
 v4:=Tryz.zeroValue4
 t9:=underlying9
 a9:=Tryz.isAgg9
 z9:=Tryz.sizeOf9
 v9:=Tryz.zeroValue9
 t20:=underlying20
 a20:=Tryz.isAgg20
 z20:=Tryz.sizeOf20
 v20:=Tryz.zeroValue20
 t31:=underlying48
 a31:=Tryz.isAgg48
 z31:=Tryz.sizeOf48
 v31:=Tryz.zeroValue48
 t37:=underlying181
 a37:=Tryz.isAgg181
 z37:=Tryz.sizeOf181
 v37:=Tryz.zeroValue181
 t70:=underlying365
 a70:=Tryz.isAgg365
 z70:=Tryz.sizeOf365
 v70:=Tryz.zeroValue365
 t72:=underlying367
 a72:=Tryz.isAgg367
 z72:=Tryz.sizeOf367
 v72:=Tryz.zeroValue367
 t75:=underlying86
 a75:=Tryz.isAgg86
 z75:=Tryz.sizeOf86
 v75:=Tryz.zeroValue86
 t76:=underlying369
 a76:=Tryz.isAgg369
 z76:=Tryz.sizeOf369
 v76:=Tryz.zeroValue369
 t127:=underlying301
 a127:=Tryz.isAgg301
 z127:=Tryz.sizeOf301
 v127:=Tryz.zeroValue301
 t164:=underlying206
 a164:=Tryz.isAgg206
 z164:=Tryz.sizeOf206
 v164:=Tryz.zeroValue206 }
end Go.Proofs.YtagnlbgbnfnapaaGreatDoor
