/- P -/
import Derived.Test.YtdakgnaojakldaaGreatDoorG33
import Derived.Shelf.Strings.OnBuilder
open Go.Proofs.Tryz
set_option maxRecDepth 100000
set_option maxHeartbeats 2000000
namespace Go.Proofs.YtdakgnaojakldaaGreatDoor
open Go.RowKit
def Uj(w:World)(outs:List BA)(e:Ending)(a:World):Prop:=∃lv,e = .returned lv/\zx a w.heap.size lv outs/\Below w.heap.size w a
theorem bg:(prog.info? 9).map (λi=>(i.zero,i.size,i.bytes))=some (some (.string ⟨#[]⟩),1,16):=by kernel_rfl
theorem bu{w:World}{B:Nat}{a:Value}{l:List BA}{s:BA}(h:w.ownsRow B 9 1 a (l.length+1) (l.map Value.string++[.string s])):zx w B a (l++[s]):=by
 unfold zx;rw[List.map_append,List.length_append];exact h
theorem Lt(b:List BA)(lv:Value)(base g:Nat)(out:BA->BA)(w:World)(h:zx w base lv b)(hn:b.length<=1000)(eg:∀args w,(callFunc g args).run prog w = .ok (.enter g args) w)
  (R:∀W s,s ∈ b->Below w.heap.size w W->Calls prog g #[.string s] W λe w'=>e = .returned (.string (out s))/\Below W.heap.size W w') :
  Calls prog 211 #[lv,.func (.func g) #[] #[]] w (Uj w (b.map out)):=by
 obtain⟨X,hi,E,F,G⟩:=info_parts bg;obtain⟨a,c,rfl⟩:=qJ h;obtain⟨n,l⟩:=Nm b.length
 have f:∀(k:Nat) (x:BA),b[k]?=some x->∃v,a=some ⟨v,0,none⟩/\w.cell? ⟨v,k,none⟩=some (.string x):=by
  intro k x U;have C:k<b.length:=(List.getElem?_eq_some_iff.1 U).1
  rcases h.2 with ⟨e,h0⟩|⟨v,cap,cur,e,_⟩
  ·omega
  ·have hc:=World.ownsRow.cellAt (g:=v) (cap:=cap) (by rw[<- e];exact h) k (by omega);injection e with e1 e2 e3
   exact⟨v,e1,by rw[hc];simp[List.getElem?_map,U]⟩
 rw[l];rw[l] at hn;have HC:=hid f;have HP:=hid R;have P:=hid l;clear f R l h;go_enter func211,ntmps211
 go_wp2_with (at_make;refine wpList_make_own _ rfl _ _ 42 rfl w.heap.size 9 X (.string ⟨#[]⟩) 1 underlying42 hi E F _ _ _ n rfl rfl rfl ?_ ?_ ?_ ?_)
 ·rw[G];omega
 ·unfold maxLen;omega
 ·omega
 intro w1 m d;have B:=hid m;have z:Hid (Below w.heap.size w w1):=(Below.refl _ w).grown d (Nat.le_refl _) (λk C=>by cases C);clear m d;go_wp2_with fail
 go_loopw [5,7,13] (λov _ O wr=>∃(k:Nat),k<=n/\O = .int .i64 k/\zx wr w.heap.size ov ((b.take k).map out)/\Below w.heap.size w wr) (λ_ _ O _=>n-(intOf O).toNat)
 case atStart=>exact⟨0,Nat.zero_le _,rfl,B.out,z.out⟩
 case round=>
  obtain⟨k,C,rfl,y,hb⟩:=hrel;have H:=hid y;have t:=hid hb;clear y hb B z
  by_cases hlt:k<n
  ·have p:k<b.length:=by rw[P.out];exact hlt
   obtain⟨v,rfl,q⟩:=HC.out k _ (List.getElem?_eq_getElem p);have q2:=zb t.out q;have M:=HP.out wr b[k] (List.getElem_mem p) t.out;have r:Hid ((b.take (k+1)).map out=(b.take k).map out++[out b[k]]):=hid (by rw[List.take_add_one,List.getElem?_eq_getElem p,List.map_append];rfl);have D:((b.take k).map out).length=k:=by rw[List.length_map,List.length_take];omega
   obtain⟨s,S⟩:=Nm (b[k]);rw[S] at q2 M r;have Z:=hid M;obtain⟨L,Q⟩:=Nm ((b.take k).map out);rw[Q] at H r D;clear q M S Q
   go_wp2_with (first
    | (go_at_fn g;refine Z.out.mono ?_;rintro e w2 ⟨rfl,o⟩;have A:=hid o;have V:=o.size;have a4:=t.out.size;clear o)
    | (at_builtin;refine wpList_append_own _ rfl _ _ 42 rfl w.heap.size 9 X (.string ⟨#[]⟩) 1 16 underlying42 hi E F G rfl (by decide) _ L.length (L.map Value.string) rfl (World.ownsRow.alloc (ownsRow_below H.out A.out) _) ⟨w2.heap.size,0,none⟩ 1 1 [.string (out s)] rfl rfl ?_ ?_ ?_ ?_ ?_ ?_))
   ·exact kW _ _ _
   ·intro u T;simp at T;rcases T with rfl;rfl
   ·unfold maxLen;omega
   ·omega
   ·simp;omega
   ·intro v' Y j i _;have K:Hid (zx Y w.heap.size v' ((b.take (k+1)).map out)):=by rw[r.out];exact bu (by rw[D];exact j)
    have I:Hid (Below w.heap.size w Y):=((t.out.trans (A.out.mono t.out.size)).alloc (by omega) _).grown i (by simp;omega) (λk C=>(World.ownsRow.lt H.out k C).1);clear j i
    go_wp2
    go_roundw
    case rel=>exact⟨k+1,by omega,by go_num,K.out,I.out⟩
    case measure=>simp[intOf];omega
  ·have N:k=n:=by omega
   subst N;have y:=H.out;rw[List.take_of_length_le (by rw[P.out];omega)] at y;have J:=hid y;clear y
   go_wp2
   go_ret;exact⟨_,rfl,J.out,t.out⟩
theorem Lr(b:List zJ)(lv:Value)(base g:Nat)(out:zJ->BA)(w:World)(h:qx w base lv b)(hn:b.length<=1000)(eg:∀args w,(callFunc g args).run prog w = .ok (.enter g args) w)
  (hp:∀W x t,x ∈ b->Below w.heap.size w W->zx W base t x.vals->Calls prog g #[.agg #[.string x.op,.string x.key,t,.bool x.no]] W λe w'=>e = .returned (.string (out x))/\Below W.heap.size W w') :
  Calls prog 172 #[lv,.func (.func g) #[] #[]] w (Uj w (b.map out)):=by
 obtain⟨i0,hi,K,M,N⟩:=info_parts bg;obtain⟨xs,I,hc⟩:=h
 obtain⟨a,c,rfl⟩:∃a c,lv = .slice a b.length c:=by
  rcases I.2 with ⟨rfl,F⟩|⟨d,c,cur,rfl,_⟩
  ·exact⟨_,_,by rw[F]⟩
  ·exact⟨_,_,rfl⟩
 obtain⟨n,r⟩:=Nm b.length
 have j:∀(k:Nat) (x:zJ),b[k]?=some x->∃d t,a=some ⟨d,0,none⟩/\(w.cell? ⟨d,k*4,none⟩=some (.string x.op)/\w.cell? ⟨d,k*4+1,none⟩=some (.string x.key)/\w.cell? ⟨d,k*4+2,none⟩=some t/\w.cell? ⟨d,k*4+3,none⟩=some (.bool x.no))/\zx w base t x.vals:=by
  intro k x J;have B:k<b.length:=(List.getElem?_eq_some_iff.1 J).1;have hl:xs.length=b.length*4:=I.1
  rcases I.2 with ⟨e,F⟩|⟨d,cap,cur,e,_⟩
  ·omega
  ·have q:∀i,i<b.length*4->w.cell? ⟨d,i,none⟩=xs[i]?:=λi hi=>World.ownsRow.cellAt (g:=d) (cap:=cap) (by rw[<- e];exact I) i (by omega);injection e with e1 e2 e3
   obtain⟨t,F,h1,h2,h3,h4⟩:=hc k B;have T:b[k]=x:=(List.getElem?_eq_some_iff.1 J).2;rw[T] at F h1 h3 h4;exact⟨d,t,e1,⟨(q _ (by omega)).trans F,(q _ (by omega)).trans h1,(q _ (by omega)).trans h2,(q _ (by omega)).trans h3⟩,h4⟩
 rw[r];rw[r] at hn;have HC:=hid j;have HP:=hid hp;have Y:=hid r;clear j hp r I hc;go_enter func172,ntmps172
 go_wp2_with (at_make;refine wpList_make_own _ rfl _ _ 42 rfl w.heap.size 9 i0 (.string ⟨#[]⟩) 1 underlying42 hi K M _ _ _ n rfl rfl rfl ?_ ?_ ?_ ?_)
 ·rw[N];omega
 ·unfold maxLen;omega
 ·omega
 intro w1 v f;have E:=hid v;have D:Hid (Below w.heap.size w w1):=(Below.refl _ w).grown f (Nat.le_refl _) (λk B=>by cases B);clear v f;go_wp2_with fail
 go_loopw [5,7,13] (λov _ V wr=>∃(k:Nat),k<=n/\V = .int .i64 k/\zx wr w.heap.size ov ((b.take k).map out)/\Below w.heap.size w wr) (λ_ _ V _=>n-(intOf V).toNat)
 case atStart=>exact⟨0,Nat.zero_le _,rfl,E.out,D.out⟩
 case round=>
  obtain⟨k,B,rfl,C,hb⟩:=hrel;have O:=hid C;have p:=hid hb;clear C hb E D
  by_cases hlt:k<n
  ·have z:k<b.length:=by rw[Y.out];exact hlt
   obtain⟨d,t,rfl,⟨q0,q1,q2,q3⟩,X⟩:=HC.out k _ (List.getElem?_eq_getElem z);have p0:=zb p.out q0;have p1:=zb p.out q1;have p2:=zb p.out q2;have p3:=zb p.out q3;have A:Hid ((b.take (k+1)).map out=(b.take k).map out++[out b[k]]):=hid (by rw[List.take_add_one,List.getElem?_eq_getElem z,List.map_append];rfl);have H:((b.take k).map out).length=k:=by rw[List.length_map,List.length_take];omega
   have m:b[k] ∈ b:=List.getElem_mem z;obtain⟨s,hs⟩:=Nm (b[k]);rw[hs] at q0 q1 q3 p0 p1 p3 X A m;obtain⟨xa,xc,rfl⟩:=qJ X;have o5:=ownsRow_below X p.out;have U:=p.out.size;have Z:=HP.out (wr.alloc (.cells #[.string s.op,.string s.key,.slice xa s.vals.length xc,.bool s.no] 241)) s _ m (p.out.alloc U _) (World.ownsRow.alloc o5 _);have CC:=hid Z;obtain⟨L,hL⟩:=Nm ((b.take k).map out);rw[hL] at O A H;clear Z hs hL m
   go_wp2_with (first
    | (go_at_fn g;refine CC.out.mono ?_;rintro e w2 ⟨rfl,G⟩;have y:Hid (Below wr.heap.size wr w2):=(nB wr _).trans (G.mono (by simp));have a8:=y.out.size;clear G)
    | (at_builtin;refine wpList_append_own _ rfl _ _ 42 rfl w.heap.size 9 i0 (.string ⟨#[]⟩) 1 16 underlying42 hi K M N rfl (by decide) _ L.length (L.map Value.string) rfl (World.ownsRow.alloc (ownsRow_below O.out y.out) _) ⟨w2.heap.size,0,none⟩ 1 1 [.string (out s)] rfl rfl ?_ ?_ ?_ ?_ ?_ ?_))
   ·exact kW _ _ _
   ·intro u hu;simp at hu;rcases hu with rfl;rfl
   ·unfold maxLen;omega
   ·omega
   ·simp;omega
   ·intro v' w3 o l _;have R:Hid (zx w3 w.heap.size v' ((b.take (k+1)).map out)):=by rw[A.out];exact bu (by rw[H];exact o)
    have P:Hid (Below w.heap.size w w3):=((p.out.trans (y.out.mono p.out.size)).alloc (by omega) _).grown l (by simp;omega) (λk B=>(World.ownsRow.lt O.out k B).1);clear o l
    go_wp2
    go_roundw
    case rel=>exact⟨k+1,by omega,by go_num,R.out,P.out⟩
    case measure=>simp[intOf];omega
  ·have S:k=n:=by omega
   subst S;have C:=O.out;rw[List.take_of_length_le (by rw[Y.out];omega)] at C;have Q:=hid C;clear C
   go_wp2
   go_ret;exact⟨_,rfl,Q.out,p.out⟩
theorem Ls(b:List zw)(lv:Value)(base g:Nat)(out:zw->BA)(w:World)(h:yc w base lv b)(hn:b.length<=1000)(eg:∀args w,(callFunc g args).run prog w = .ok (.enter g args) w)
  (hp:∀W x v y z t,x ∈ b->Below w.heap.size w W->zx W base v x.who.2->zx W base y x.act.2->zx W base z x.on.2->qx W base t x.ifs->Calls prog g #[.agg #[.string x.eff,.bool x.who.1,v,.bool x.act.1,y,.bool x.on.1,z,t]] W λe w'=>e = .returned (.string (out x))/\Below W.heap.size W w') :
  Calls prog 114 #[lv,.func (.func g) #[] #[]] w (Uj w (b.map out)):=by
 obtain⟨i0,hi,P,Q,R⟩:=info_parts bg;obtain⟨xs,M,hc⟩:=h
 obtain⟨a,c,rfl⟩:∃a c,lv = .slice a b.length c:=by
  rcases M.2 with ⟨rfl,C⟩|⟨f,c,cur,rfl,_⟩
  ·exact⟨_,_,by rw[C]⟩
  ·exact⟨_,_,rfl⟩
 obtain⟨n,r⟩:=Nm b.length
 have m:∀(k:Nat) (x:zw),b[k]?=some x->∃f v y z t,a=some ⟨f,0,none⟩/\(w.cell? ⟨f,k*8,none⟩=some (.string x.eff)/\w.cell? ⟨f,k*8+1,none⟩=some (.bool x.who.1)/\w.cell? ⟨f,k*8+2,none⟩=some v/\w.cell? ⟨f,k*8+3,none⟩=some (.bool x.act.1)/\w.cell? ⟨f,k*8+4,none⟩=some y/\w.cell? ⟨f,k*8+5,none⟩=some (.bool x.on.1)/\w.cell? ⟨f,k*8+6,none⟩=some z/\w.cell? ⟨f,k*8+7,none⟩=some t)/\zx w base v x.who.2/\zx w base y x.act.2/\zx w base z x.on.2/\qx w base t x.ifs:=by
  intro k x N;have F:k<b.length:=(List.getElem?_eq_some_iff.1 N).1;have hl:xs.length=b.length*8:=M.1
  rcases M.2 with ⟨e,C⟩|⟨f,cap,cur,e,_⟩
  ·omega
  ·have d:∀i,i<b.length*8->w.cell? ⟨f,i,none⟩=xs[i]?:=λi hi=>World.ownsRow.cellAt (g:=f) (cap:=cap) (by rw[<- e];exact M) i (by omega);injection e with e1 e2 e3
   obtain⟨v,y,z,t,C,h1,h2,h3,h4,h5,h6,h7,g1,g2,g3,g4⟩:=hc k F;have Z:b[k]=x:=(List.getElem?_eq_some_iff.1 N).2;rw[Z] at C h1 h3 h5 g1 g2 g3 g4;exact⟨f,v,y,z,t,e1,⟨(d _ (by omega)).trans C,(d _ (by omega)).trans h1,(d _ (by omega)).trans h2,(d _ (by omega)).trans h3,(d _ (by omega)).trans h4,(d _ (by omega)).trans h5,(d _ (by omega)).trans h6,(d _ (by omega)).trans h7⟩,g1,g2,g3,g4⟩
 rw[r];rw[r] at hn;have HC:=hid m;have HP:=hid hp;have HN:=hid r;clear m hp r M hc;go_enter func114,ntmps114
 go_wp2_with (at_make;refine wpList_make_own _ rfl _ _ 42 rfl w.heap.size 9 i0 (.string ⟨#[]⟩) 1 underlying42 hi P Q _ _ _ n rfl rfl rfl ?_ ?_ ?_ ?_)
 ·rw[R];omega
 ·unfold maxLen;omega
 ·omega
 intro w1 A l;have I:=hid A;have H:Hid (Below w.heap.size w w1):=(Below.refl _ w).grown l (Nat.le_refl _) (λk F=>by cases F);clear A l;go_wp2_with fail
 go_loopw [5,7,13] (λov _ kv wr=>∃(k:Nat),k<=n/\kv = .int .i64 k/\zx wr w.heap.size ov ((b.take k).map out)/\Below w.heap.size w wr) (λ_ _ kv _=>n-(intOf kv).toNat)
 case atStart=>exact⟨0,Nat.zero_le _,rfl,I.out,H.out⟩
 case round=>
  obtain⟨k,F,rfl,G,hb⟩:=hrel;have S:=hid G;have j:=hid hb;clear G hb I H
  by_cases hlt:k<n
  ·have D:k<b.length:=by rw[HN.out];exact hlt
   obtain⟨f,v,y,z,t,rfl,⟨q0,q1,q2,q3,q4,q5,q6,q7⟩,o1,o2,o3,o4⟩:=HC.out k _ (List.getElem?_eq_getElem D);have p0:=zb j.out q0;have p1:=zb j.out q1;have p2:=zb j.out q2;have p3:=zb j.out q3;have p4:=zb j.out q4;have p5:=zb j.out q5;have p6:=zb j.out q6;have p7:=zb j.out q7;have E:Hid ((b.take (k+1)).map out=(b.take k).map out++[out b[k]]):=hid (by rw[List.take_add_one,List.getElem?_eq_getElem D,List.map_append];rfl);have K:((b.take k).map out).length=k:=by rw[List.length_map,List.length_take];omega
   have p:b[k] ∈ b:=List.getElem_mem D;obtain⟨s,hs⟩:=Nm (b[k]);rw[hs] at q0 q1 q3 q5 p0 p1 p3 p5 o1 o2 o3 o4 E p;obtain⟨x1,y1,rfl⟩:=qJ o1;obtain⟨x2,y2,rfl⟩:=qJ o2;obtain⟨x3,y3,rfl⟩:=qJ o3
   obtain⟨x4,y4,rfl⟩:∃a c,t = .slice a s.ifs.length c:=by
    obtain⟨ys,hy,_⟩:=o4
    rcases hy.2 with ⟨rfl,C⟩|⟨f,c,cur,rfl,_⟩
    ·exact⟨_,_,by rw[C]⟩
    ·exact⟨_,_,rfl⟩
   have T:=λO:Obj=>(j.out.alloc j.out.size O);have a0:=j.out.size;have cc:=HP.out (wr.alloc (.cells #[.string s.eff,.bool s.who.1,.slice x1 s.who.2.length y1,.bool s.act.1,.slice x2 s.act.2.length y2,.bool s.on.1,.slice x3 s.on.2.length y3,.slice x4 s.ifs.length y4] 133)) s _ _ _ _ p (j.out.alloc a0 _) (o1.below (T _)) (o2.below (T _)) (o3.below (T _)) (o4.below (T _));have CC:=hid cc;obtain⟨L,hL⟩:=Nm ((b.take k).map out);rw[hL] at S E K;clear cc hs hL p
   go_wp2_with (first
    | (go_at_fn g;refine CC.out.mono ?_;rintro e w2 ⟨rfl,J⟩;have B:Hid (Below wr.heap.size wr w2):=(nB wr _).trans (J.mono (by simp));have c0:=B.out.size;clear J)
    | (at_builtin;refine wpList_append_own _ rfl _ _ 42 rfl w.heap.size 9 i0 (.string ⟨#[]⟩) 1 16 underlying42 hi P Q R rfl (by decide) _ L.length (L.map Value.string) rfl (World.ownsRow.alloc (ownsRow_below S.out B.out) _) ⟨w2.heap.size,0,none⟩ 1 1 [.string (out s)] rfl rfl ?_ ?_ ?_ ?_ ?_ ?_))
   ·exact kW _ _ _
   ·intro u hu;simp at hu;rcases hu with rfl;rfl
   ·unfold maxLen;omega
   ·omega
   ·simp;omega
   ·intro v' w3 q o _;have X:Hid (zx w3 w.heap.size v' ((b.take (k+1)).map out)):=by rw[E.out];exact bu (by rw[K];exact q)
    have U:Hid (Below w.heap.size w w3):=((j.out.trans (B.out.mono j.out.size)).alloc (by omega) _).grown o (by simp;omega) (λk F=>(World.ownsRow.lt S.out k F).1);clear q o
    go_wp2
    go_roundw
    case rel=>exact⟨k+1,by omega,by go_num,X.out,U.out⟩
    case measure=>simp[intOf];omega
  ·have Y:k=n:=by omega
   subst Y;have G:=S.out;rw[List.take_of_length_le (by rw[HN.out];omega)] at G;have V:=hid G;clear G
   go_wp2
   go_ret;exact⟨_,rfl,V.out,j.out⟩
end Go.Proofs.YtdakgnaojakldaaGreatDoor
namespace Go.Proofs.YtdakgnaojakldaaGreatDoor
open Go.Shelf
def Tryz.lays156_ren:Go.Shelf.Ren:=⟨λ|156=>113|165=>167|166=>168|169=>169|240=>209|241=>210|276=>234|277=>235|n=>n,λ|31=>42|9=>9|3=>3|4=>4|0=>0|20=>20|72=>299|76=>301|70=>297|37=>256|75=>74|127=>322|164=>218|5=>5|80=>81|n=>n,λ|n=>n⟩
theorem Tryz.lays156:Go.Proofs.Lays.n156 prog Tryz.lays156_ren:={
 mixed:=by kernel_rfl
 f156:=func113.trans (congrArg some (by kernel_rfl))
 f165:=func167.trans (congrArg some (by kernel_rfl))
 f166:=func168.trans (congrArg some (by kernel_rfl))
 f169:=func169.trans (congrArg some (by kernel_rfl))
 f240:=func209.trans (congrArg some (by kernel_rfl))
 f241:=func210.trans (congrArg some (by kernel_rfl))
 f276:=func234.trans (congrArg some (by kernel_rfl))
 f277:=func235.trans (congrArg some (by kernel_rfl))
 t0:=underlying0
 a0:=Tryz.isAgg0
 z0:=Tryz.sizeOf0
 v0:=Tryz.zeroValue0
 t3:=underlying3
 a3:=Tryz.isAgg3
 z3:=Tryz.sizeOf3
 v3:=Tryz.zeroValue3
 t4:=underlying4
 a4:=Tryz.isAgg4
 z4:=Tryz.sizeOf4
 v4:=Tryz.zeroValue4
 t9:=underlying9
 a9:=Tryz.isAgg9
 z9:=Tryz.sizeOf9
 v9:=Tryz.zeroValue9
 t20:=underlying20
 a20:=Tryz.isAgg20
 z20:=Tryz.sizeOf20
 v20:=Tryz.zeroValue20
 t31:=underlying42
 a31:=Tryz.isAgg42
 z31:=Tryz.sizeOf42
 v31:=Tryz.zeroValue42
 t37:=underlying256
 a37:=Tryz.isAgg256
 z37:=Tryz.sizeOf256
 v37:=Tryz.zeroValue256
 t70:=underlying297
 a70:=Tryz.isAgg297
 z70:=Tryz.sizeOf297
 v70:=Tryz.zeroValue297
 t72:=underlying299
 a72:=Tryz.isAgg299
 z72:=Tryz.sizeOf299
 v72:=Tryz.zeroValue299
 t75:=underlying74
 a75:=Tryz.isAgg74
 z75:=Tryz.sizeOf74
 v75:=Tryz.zeroValue74
 t76:=underlying301
 a76:=Tryz.isAgg301
 z76:=Tryz.sizeOf301
 v76:=Tryz.zeroValue301
 t127:=underlying322
 a127:=Tryz.isAgg322
 z127:=Tryz.sizeOf322
 v127:=Tryz.zeroValue322
 t164:=underlying218
 a164:=Tryz.isAgg218
 z164:=Tryz.sizeOf218
 v164:=Tryz.zeroValue218 }
end Go.Proofs.YtdakgnaojakldaaGreatDoor
namespace Go.Proofs.YtdakgnaojakldaaGreatDoor
open Go.RowKit
theorem lg(M:Nat):∀(r:List (List UInt8)),(∀x ∈ r,x.length<=M)->Lib.lens r<=r.length*M
 | [],_=>by simp[Lib.lens]
 | x::r,h=>by
  have c:=h x (by simp);have a:=lg M r (λy b=>h y (by simp[b]));simp only[Lib.lens,List.map_cons,List.sum_cons,List.length_cons] at a |-;rw[Nat.succ_mul];omega
theorem iK(xs:List BA):(yC xs).size=(Lib.join (xs.map (·.data.toList)) [44]).length:=by simp[yC,ByteArray.size]
theorem Vx(xs:List BA)(M:Nat)(h:∀x ∈ xs,x.size<=M):(yC xs).size<=xs.length*(M+1):=by
 rw[iK]
 cases xs with
 | nil=>simp[Lib.join_nil]
 | cons x r=>
  have d:x.data.toList.length<=M:=by rw[Ref.zz];exact h x (by simp)
  have b:=lg M (r.map (·.data.toList)) (λy a=>by
   rw[List.mem_map] at a;obtain⟨z,c,rfl⟩:=a;rw[Ref.zz];exact h z (by simp[c]))
  rw[List.map_cons,Lib.join_cons,List.length_append,Lib.joinTail_length];simp only[List.length_map,List.length_cons,List.length_nil] at b |-;have e:(r.length+1)*(M+1)=r.length*M+r.length+M+1:=by rw[Nat.add_mul,Nat.mul_add];omega
  rw[e];omega
theorem Tryz.bx:Builder.Extra prog Tryz.lays156_ren:={
 sizeBuilder:=by kernel_rfl
 liesBuilder:=by kernel_rfl
 t5:=underlying5
 a5:=Tryz.isAgg5
 z5:=Tryz.sizeOf5
 v5:=Tryz.zeroValue5
 infoByte:=by kernel_rfl
 cellsByte:=by kernel_rfl
 sizeByte:=by kernel_rfl
 neB5:=by decide }
theorem KA(xs:List BA)(lv:Value)(base:Nat)(w:World)(h:zx w base lv xs)(k:xs.length<=1000)(b:(yC xs).size<=1000000000) :
  Calls prog 113 #[lv,.string ⟨#[44]⟩] w λe c=>e = .returned (.string (yC xs))/\Below w.heap.size w c:=by
 rcases h.2 with ⟨rfl,h0⟩|⟨g,cap,cur,rfl,_,hb,hle,_⟩
 ·have a:xs=[]:=List.length_eq_zero_iff.1 h0;subst a;exact (Any.strings_Join_none Tryz.lays156 Tryz.bx none 0 ⟨#[44]⟩ w).mono λe c ⟨d,f⟩=>⟨d,f ▸ Below.refl _ _⟩
 ·exact Any.strings_Join Tryz.lays156 Tryz.bx g 0 cap xs ⟨#[44]⟩ w (λj x a=>by
   have i:j<xs.length:=(List.getElem?_eq_some_iff.1 a).1;rw[Nat.zero_add,World.ownsRow.cellAt h j (by omega)];simp[List.getElem?_map,a]) (lt_of_block hb) (by omega) hle (by rw[iK] at b;exact Nat.le_trans b (by decide))
theorem Oj:∀args w,(callFunc 115 args).run prog w = .ok (.enter 115 args) w:=enters_of func115 (by kernel_rfl) rfl
theorem nU(b:List BA)(lv:Value)(base:Nat)(w:World)(h:zx w base lv b)(j:Ref.vP b) :
  Calls prog 171 #[lv,.func (.func 115) #[] #[]] w λe B=>e = .returned (.string (Ref.qO b))/\Below w.heap.size w B:=by
 have q:=j.1;have c1:=Lt b lv base 115 Ref.zG w h (by omega) Oj (λW s o _=>az s W (by have:=j.2 s o;omega))
 have r:∀x ∈ b.map Ref.zG,x.size<=80000:=by
  intro x t;rw[List.mem_map] at t;obtain⟨s,o,rfl⟩:=t
  have:=Ref.QS s
  have:=j.2 s o
  omega
 have u:=Vx _ _ r;rw[List.length_map] at u
 have p:(yC (b.map Ref.zG)).size<=1000000:=by
  have:b.length*(80000+1)<=10*(80000+1):=Nat.mul_le_mul_right _ q
  omega
 have c2:=λW i (k:zx W w.heap.size i (b.map Ref.zG))=>KA (b.map Ref.zG) i w.heap.size W k (by rw[List.length_map];omega) (by omega);rw[Jj];unfold qX;obtain⟨J,m⟩:=Nm (yC (b.map Ref.zG));rw[m] at p |-;simp only[m] at c2;obtain⟨M,n⟩:=Nm (b.map Ref.zG);rw[n] at c1;simp only[n] at c2;have v:=hid c1;have y:=hid c2;obtain⟨a,c,rfl⟩:=qJ h;clear c1 c2 m n r u h j q;go_enter func171,ntmps171
 go_wp2_with (first
  | (go_at_call 113;refine (y.out C _ z.out).mono ?_;rintro e D ⟨rfl,g⟩;have l:=hid (d.out.trans (g.mono d.out.size));clear g)
  | (go_at_call 211;refine v.out.mono ?_;rintro e C ⟨A,rfl,k,f⟩;have z:=hid k;have d:=hid f;clear k f))
 go_ret;exact⟨rfl,l.out⟩
theorem ai(c:Bool×List BA)(lv:Value)(base:Nat)(w:World)(h:zx w base lv c.2)(f:Ref.vP c.2) :
  Calls prog 116 #[.agg #[.bool c.1,lv]] w λe o=>e = .returned (.string (Ref.uT c))/\Below w.heap.size w o:=by
 obtain⟨nt,l⟩:=c;simp only at h f |-;have c1:=λO:Obj=>nU l lv base (w.alloc O) (World.ownsRow.alloc h O) f;have n:=Ref.VA f;unfold Ref.uT;obtain⟨J,g⟩:=Nm (Ref.qO l);rw[g] at n |-;simp only[g] at c1 |-;have k:=hid c1;obtain⟨a,c,rfl⟩:=qJ h;clear c1 g h f;have m:∀O:Obj,Below w.heap.size w (w.alloc O):=λO=>nB w O;have j:=hid m;clear m
 cases nt with
 | true=>
  go_enter func116,ntmps116;go_wp2_with fail;refine (k.out _).mono ?_;rintro e i ⟨rfl,b⟩;have r0:i.cell? ⟨w.heap.size,0,none⟩=some (.bool true):=zb b ((za (heap_alloc_new w _) 0).1);have d:=hid ((j.out _).trans (b.mono (by simp)));clear b
  go_wp2
  go_ret;exact⟨rfl,d.out⟩
 | false=>
  go_enter func116,ntmps116;go_wp2_with fail;refine (k.out _).mono ?_;rintro e i ⟨rfl,b⟩;have r0:i.cell? ⟨w.heap.size,0,none⟩=some (.bool false):=zb b ((za (heap_alloc_new w _) 0).1);have d:=hid ((j.out _).trans (b.mono (by simp)));clear b
  go_wp2
  go_ret;exact⟨rfl,d.out⟩
theorem Below.chain{B:Nat}{a b c:World}(h:Below B a b)(k:Below b.heap.size b c)(d:B<=a.heap.size):Below B a c:=h.trans (k.mono (Nat.le_trans d h.size))
theorem NR(c:zJ)(lv:Value)(base:Nat)(w:World)(h:zx w base lv c.vals)(u:c.op.size<=12000)(j:c.key.size<=12000)(q:Ref.vP c.vals) :
  Calls prog 118 #[.agg #[.string c.op,.string c.key,lv,.bool c.no]] w λe T=>e = .returned (.string (xK c))/\Below w.heap.size w T:=by
 obtain⟨op,key,vals,no⟩:=c;simp only at h u j q |-;unfold xK;simp only;rw[<- Jj];have Q:=Ref.VA q;have V:=Ref.QS op;have X:=Ref.QS key;have c1:=λW (hb:Below w.heap.size w W)=>nU vals lv base W (ownsRow_below h hb) q;obtain⟨J,B⟩:=Nm (Ref.qO vals);rw[B] at Q;simp only[B] at c1;simp only[B];have C:=hid c1;have k:op.size<=100000:=by omega
 have f:key.size<=100000:=by omega
 obtain⟨y,z,rfl⟩:=qJ h;obtain⟨n,E⟩:=Nm vals.length;rw[E] at C |-;have G:n<=10:=by rw[<- E];exact q.1
 clear c1 B h q E;obtain⟨A,D⟩:=Nm (w.alloc (.cells #[.string op,.string key,.slice y n z,.bool no] 241));have bl:=heap_alloc_new w (.cells #[.string op,.string key,.slice y n z,.bool no] 241);have p:Below w.heap.size w A:=by rw[<- D];exact nB w _
 rw[D] at bl;have K:A.drew.cell? ⟨w.heap.size,0,none⟩=some (.string op):=(za bl 0).1;have L:A.drew.cell? ⟨w.heap.size,1,none⟩=some (.string key):=(za bl 1).1;have M:A.drew.cell? ⟨w.heap.size,2,none⟩=some (.slice y n z):=(za bl 2).1;have N:A.drew.cell? ⟨w.heap.size,3,none⟩=some (.bool no):=(za bl 3).1;have O:Below A.heap.size A A.drew:=(Below.refl _ A).drew;have m:=hid p;clear bl p;go_enter func118,ntmps118
 go_upto_region 1 with fail
 go_cut [3] (λs F=>s = .string (⟨#[123,34,111,112,34,58]⟩++Ref.zG op++⟨#[44,34,107,101,121,34,58]⟩++Ref.zG key)/\Below A.heap.size A F/\F.cell? ⟨w.heap.size,2,none⟩=some (.slice y n z)/\F.cell? ⟨w.heap.size,3,none⟩=some (.bool no))
 case first=>
  go_region_with (go_at_call 115;refine (az _ _ ?_).mono ?_;(first|exact k|exact f);rintro e v ⟨rfl,b⟩;have Z:v.cell? ⟨w.heap.size,0,none⟩=some (.string op):=zb b (by assumption);have k1:v.cell? ⟨w.heap.size,1,none⟩=some (.string key):=zb b (by assumption);have k2:v.cell? ⟨w.heap.size,2,none⟩=some (.slice y n z):=zb b (by assumption);have k3:v.cell? ⟨w.heap.size,3,none⟩=some (.bool no):=zb b (by assumption);have Y:Below A.heap.size A v:=Below.chain (by assumption) b (Nat.le_refl _);clear b)
  all_goals
   go_wp2_with fail
   go_meet
   case rel=>exact⟨rfl,by assumption,by assumption,by assumption⟩
 case rest=>
  obtain⟨rfl,r,r2,H⟩:=hcut;have d:Hid (Below w.heap.size w wc):=m.out.trans (r.mono m.out.size);clear r K L M N O D;have t:=C.out wc d.out;have o:=hid t;clear t C;obtain⟨I,i⟩:∃x,(⟨#[123,34,111,112,34,58]⟩++Ref.zG op++⟨#[44,34,107,101,121,34,58]⟩++Ref.zG key:BA)=x:=⟨_,rfl⟩
  have R:I.size<=200000:=by
   have y1:(⟨#[123,34,111,112,34,58]⟩:BA).size=6:=rfl;have y2:(⟨#[44,34,107,101,121,34,58]⟩:BA).size=7:=rfl;rw[<- i,ByteArray.size_append,ByteArray.size_append,ByteArray.size_append];omega
  rw[i];have g:=hid i;clear i V X u j k f
  by_cases hn0:0<n
  ·have P:decide (0<(n:Int))=true:=by simp;omega
   cases no with
   | true=>
    go_wp2_with (go_at_call 171;refine o.out.mono ?_;rintro e U ⟨rfl,a⟩;have S:=zb a H;have l:=hid (Below.chain d.out a (Nat.le_refl _));clear a)
    go_ret;exact⟨by simp;exact g.out.symm,l.out⟩
   | false=>
    go_wp2_with (go_at_call 171;refine o.out.mono ?_;rintro e U ⟨rfl,a⟩;have S:=zb a H;have l:=hid (Below.chain d.out a (Nat.le_refl _));clear a)
    go_ret;exact⟨by simp;exact g.out.symm,l.out⟩
  ·have P:decide (0<(n:Int))=false:=by simp;omega
   cases no with
   | true=>
    go_wp2
    go_ret;exact⟨by simp;exact g.out.symm,d.out⟩
   | false=>
    go_wp2
    go_ret;exact⟨by simp;exact g.out.symm,d.out⟩
def JP(c:zJ):Prop:=c.op.size<=12000/\c.key.size<=12000/\Ref.vP c.vals
structure QA (s:zw):Prop where
 eff:s.eff.size<=12000
 who:Ref.vP s.who.2
 act:Ref.vP s.act.2
 on:Ref.vP s.on.2
 len:s.ifs.length<=5
 cs:∀c ∈ s.ifs,JP c
theorem fB{c:zJ}(h:JP c):(xK c).size<=1300000:=by
 obtain⟨f,g,b⟩:=h;have i:=Ref.QS c.op;have q2:=Ref.QS c.key;have e:=Ref.VA b;rw[Jj] at e;have j:(⟨#[123,34,111,112,34,58]⟩:BA).size=6:=rfl;have k:(⟨#[44,34,107,101,121,34,58]⟩:BA).size=7:=rfl;have l:(⟨#[44,34,118,97,108,117,101,34,58]⟩:BA).size=9:=rfl;have m:(⟨#[44,34,110,111,34,58,116,114,117,101]⟩:BA).size=10:=rfl;have n:(⟨#[125]⟩:BA).size=1:=rfl
 have a:(⟨#[123,34,111,112,34,58]⟩++Ref.zG c.op++⟨#[44,34,107,101,121,34,58]⟩++Ref.zG c.key).size<=200000:=by
  rw[ByteArray.size_append,ByteArray.size_append,ByteArray.size_append];omega
 have d:(⟨#[123,34,111,112,34,58]⟩++Ref.zG c.op++⟨#[44,34,107,101,121,34,58]⟩++Ref.zG c.key++(⟨#[44,34,118,97,108,117,101,34,58]⟩++qX (c.vals.map Ref.zG))).size<=1200000:=by
  rw[ByteArray.size_append,ByteArray.size_append (a:=⟨#[44,34,118,97,108,117,101,34,58]⟩)];omega
 unfold xK;rw[ByteArray.size_append]
 split
 ·rw[ByteArray.size_append]
  split
  ·omega
  ·omega
 ·split
  ·omega
  ·omega
theorem lm(l:List BA)(M n:Nat)(h:∀x ∈ l,x.size<=M)(a:l.length<=n):(qX l).size<=n*(M+1)+2:=by
 have b:=Vx l M h;have c:l.length*(M+1)<=n*(M+1):=Nat.mul_le_mul_right _ a;have d:(⟨#[91]⟩:BA).size=1:=rfl;have e:(⟨#[93]⟩:BA).size=1:=rfl;unfold qX;rw[ByteArray.size_append,ByteArray.size_append];omega
theorem BM:∀args w,(callFunc 118 args).run prog w = .ok (.enter 118 args) w:=enters_of func118 (by kernel_rfl) rfl
theorem NS(cs:List zJ)(lv:Value)(base:Nat)(w:World)(h:qx w base lv cs)(y:cs.length<=5)(f:∀c ∈ cs,JP c) :
  Calls prog 117 #[lv,.func (.func 118) #[] #[]] w λe C=>e = .returned (.string (uU cs))/\Below w.heap.size w C:=by
 have c1:=Lr cs lv base 118 xK w h (by omega) BM (λW c B o _ b=>NR c B base W b (f c o).1 (f c o).2.1 (f c o).2.2)
 have q:∀x ∈ cs.map xK,x.size<=1300000:=by
  intro x k;rw[List.mem_map] at k;obtain⟨s,z,rfl⟩:=k;exact fB (f s z)
 have r:=Vx _ _ q;rw[List.length_map] at r
 have p:(yC (cs.map xK)).size<=10000000:=by
  have:cs.length*(1300000+1)<=5*(1300000+1):=Nat.mul_le_mul_right _ y
  omega
 have c2:=λW j (b:zx W w.heap.size j (cs.map xK))=>KA (cs.map xK) j w.heap.size W b (by rw[List.length_map];omega) (by omega);unfold uU qX;obtain⟨J,m⟩:=Nm (yC (cs.map xK));rw[m] at p |-;simp only[m] at c2;obtain⟨M,n⟩:=Nm (cs.map xK);rw[n] at c1;simp only[n] at c2;have t:=hid c1;have u:=hid c2
 obtain⟨a,c,rfl⟩:∃a c,lv = .slice a cs.length c:=by
  obtain⟨xs,k,_⟩:=h
  rcases k.2 with ⟨rfl,h0⟩|⟨gb,c,cur,rfl,_⟩
  ·exact⟨_,_,by rw[h0]⟩
  ·exact⟨_,_,rfl⟩
 clear c1 c2 m n q r h f;go_enter func117,ntmps117
 go_wp2_with (first
  | (go_at_call 113;refine (u.out D _ v.out).mono ?_;rintro e E ⟨rfl,i⟩;have l:=hid (d.out.trans (i.mono d.out.size));clear i)
  | (go_at_call 172;refine t.out.mono ?_;rintro e D ⟨A,rfl,b,g⟩;have v:=hid b;have d:=hid g;clear b g))
 go_ret;exact⟨rfl,l.out⟩
theorem fF{cs:List zJ}(d:cs.length<=5)(b:∀c ∈ cs,JP c):(uU cs).size<=7000000:=by
 have:=lm (cs.map xK) 1300000 5 (λx a=>by
  rw[List.mem_map] at a;obtain⟨s,e,rfl⟩:=a;exact fB (b s e)) (by rw[List.length_map];exact d)
 unfold uU;omega
theorem NY(s:zw)(l1 l2 l3 V:Value)(base:Nat)(w:World)(E:zx w base l1 s.who.2)(F:zx w base l2 s.act.2)(G:zx w base l3 s.on.2)(U:qx w base V s.ifs)(hS:QA s) :
  Calls prog 63 #[.agg #[.string s.eff,.bool s.who.1,l1,.bool s.act.1,l2,.bool s.on.1,l3,V]] w λe w'=>e = .returned (.string (xh s))/\Below w.heap.size w w':=by
 obtain⟨eff,who,act,on,ifs⟩:=s;obtain⟨z1,M,N,O,X,Y⟩:=hS;simp only at E F G U z1 M N O X Y |-;unfold xh;simp only[<- Va];have Z:=λW=>az eff W (by omega);have B:=λW (hb:Below w.heap.size w W)=>ai who l1 base W (ownsRow_below E hb) M;have C:=λW (hb:Below w.heap.size w W)=>ai act l2 base W (ownsRow_below F hb) N;have D:=λW (hb:Below w.heap.size w W)=>ai on l3 base W (ownsRow_below G hb) O;have T:=λW (hb:Below w.heap.size w W)=>NS ifs V base W (U.below hb) X Y;have y1:=Ref.QS eff;have y2:=Ref.X0 M;have y3:=Ref.X0 N;have y4:=Ref.X0 O;have y5:=fF X Y;obtain⟨P,L1⟩:=who;obtain⟨R,L2⟩:=act;obtain⟨S,L3⟩:=on;simp only at E F G M N O B C D;obtain⟨x1,c1,rfl⟩:=qJ E;obtain⟨x2,c2,rfl⟩:=qJ F;obtain⟨x3,c3,rfl⟩:=qJ G
 obtain⟨x4,c4,rfl⟩:∃a c,V = .slice a ifs.length c:=by
  obtain⟨xs,hx,_⟩:=U
  rcases hx.2 with ⟨rfl,h0⟩|⟨gb,c,cur,rfl,_⟩
  ·exact⟨_,_,by rw[h0]⟩
  ·exact⟨_,_,rfl⟩
 obtain⟨Q,hQ⟩:∃x,Ref.zG eff=x:=⟨_,rfl⟩;obtain⟨G1,t⟩:∃x,Ref.uT (P,L1)=x:=⟨_,rfl⟩;obtain⟨G2,u⟩:∃x,Ref.uT (R,L2)=x:=⟨_,rfl⟩;obtain⟨G3,v⟩:∃x,Ref.uT (S,L3)=x:=⟨_,rfl⟩;obtain⟨G4,y⟩:∃x,uU ifs=x:=⟨_,rfl⟩;simp only[hQ] at Z y1;simp only[t] at B y2;simp only[u] at C y3;simp only[v] at D y4;simp only[y] at T y5;simp only[hQ,t,u,v,y];obtain⟨n,hn⟩:=Nm ifs.length;obtain⟨n1,J⟩:∃n,L1.length=n:=⟨_,rfl⟩;obtain⟨n2,K⟩:∃n,L2.length=n:=⟨_,rfl⟩;obtain⟨n3,L⟩:∃n,L3.length=n:=⟨_,rfl⟩;rw[hn] at T X |-;rw[J] at B |-;rw[K] at C |-;rw[L] at D |-;have CQ:=hid Z;have CA:=hid B;have CB:=hid C;have CC:=hid D;have CD:=hid T;clear Z B C D T E F G U M N O Y hQ t u v y hn J K L;obtain⟨A,hA⟩:=Nm (w.alloc (.cells #[.string eff,.bool P,.slice x1 n1 c1,.bool R,.slice x2 n2 c2,.bool S,.slice x3 n3 c3,.slice x4 n c4] 133));have bl:=heap_alloc_new w (.cells #[.string eff,.bool P,.slice x1 n1 c1,.bool R,.slice x2 n2 c2,.bool S,.slice x3 n3 c3,.slice x4 n c4] 133);have r:Below w.heap.size w A:=by rw[<- hA];exact nB w _
 rw[hA] at bl;have I:w.heap.size<A.heap.size:=lt_of_block bl
 have b:Hid (∀W,Below A.heap.size A W->(W.cell? ⟨w.heap.size,0,none⟩=some (.string eff)/\W.cell? ⟨w.heap.size,1,none⟩=some (.bool P)/\W.cell? ⟨w.heap.size,2,none⟩=some (.slice x1 n1 c1)/\W.cell? ⟨w.heap.size,3,none⟩=some (.bool R)/\W.cell? ⟨w.heap.size,4,none⟩=some (.slice x2 n2 c2)/\W.cell? ⟨w.heap.size,5,none⟩=some (.bool S)/\W.cell? ⟨w.heap.size,6,none⟩=some (.slice x3 n3 c3)/\W.cell? ⟨w.heap.size,7,none⟩=some (.slice x4 n c4))/\Below w.heap.size w W):=by
  refine hid (λW hb=>?_);have l:=(hb.block _ I).trans bl;exact⟨⟨(za l 0).1,(za l 1).1,(za l 2).1,(za l 3).1,(za l 4).1,(za l 5).1,(za l 6).1,(za l 7).1⟩,r.trans (hb.mono r.size)⟩
 obtain⟨⟨a0,a1,a2,a3,a4,a5,a6,a7⟩,_⟩:=b.out A (Below.refl _ _);clear bl r I
 by_cases hn0:0<n
 ·have dn:decide (0<(n:Int))=true:=by simp;omega
  rw[if_pos hn0];go_enter func63,ntmps63
  go_wp2_with (first
   | (go_at_call 117;refine (CD.out m (b.out m z).2).mono ?_;rintro e w5 ⟨rfl,H⟩;have B5:Below A.heap.size A w5:=Below.chain z H (Nat.le_refl _);clear H)
   | (go_at_call 116;refine (CC.out k (b.out k q).2).mono ?_;rintro e m ⟨rfl,h⟩;have z:Below A.heap.size A m:=Below.chain q h (Nat.le_refl _);obtain⟨⟨e0,e1,e2,e3,e4,e5,e6,e7⟩,_⟩:=b.out m z;clear h)
   | (go_at_call 116;refine (CB.out j (b.out j p).2).mono ?_;rintro e k ⟨rfl,g⟩;have q:Below A.heap.size A k:=Below.chain p g (Nat.le_refl _);obtain⟨⟨d0,d1,d2,d3,d4,d5,d6,d7⟩,_⟩:=b.out k q;clear g)
   | (go_at_call 116;refine (CA.out i (b.out i o).2).mono ?_;rintro e j ⟨rfl,f⟩;have p:Below A.heap.size A j:=Below.chain o f (Nat.le_refl _);obtain⟨⟨g0,g1,g2,g3,g4,g5,g6,g7⟩,_⟩:=b.out j p;clear f)
   | (go_at_call 115;refine (CQ.out A).mono ?_;rintro e i ⟨rfl,d⟩;have o:Below A.heap.size A i:=d;obtain⟨⟨b0,b1,b2,b3,b4,b5,b6,b7⟩,_⟩:=b.out i o;clear d))
  go_ret;exact⟨rfl,(b.out w5 B5).2⟩
 ·have dn:decide (0<(n:Int))=false:=by simp;omega
  rw[if_neg hn0];go_enter func63,ntmps63
  go_wp2_with (first
   | (go_at_call 116;refine (CC.out k (b.out k q).2).mono ?_;rintro e m ⟨rfl,h⟩;have z:Below A.heap.size A m:=Below.chain q h (Nat.le_refl _);obtain⟨⟨e0,e1,e2,e3,e4,e5,e6,e7⟩,_⟩:=b.out m z;clear h)
   | (go_at_call 116;refine (CB.out j (b.out j p).2).mono ?_;rintro e k ⟨rfl,g⟩;have q:Below A.heap.size A k:=Below.chain p g (Nat.le_refl _);obtain⟨⟨d0,d1,d2,d3,d4,d5,d6,d7⟩,_⟩:=b.out k q;clear g)
   | (go_at_call 116;refine (CA.out i (b.out i o).2).mono ?_;rintro e j ⟨rfl,f⟩;have p:Below A.heap.size A j:=Below.chain o f (Nat.le_refl _);obtain⟨⟨g0,g1,g2,g3,g4,g5,g6,g7⟩,_⟩:=b.out j p;clear f)
   | (go_at_call 115;refine (CQ.out A).mono ?_;rintro e i ⟨rfl,d⟩;have o:Below A.heap.size A i:=d;obtain⟨⟨b0,b1,b2,b3,b4,b5,b6,b7⟩,_⟩:=b.out i o;clear d))
  go_ret;exact⟨rfl,(b.out m z).2⟩
end Go.Proofs.YtdakgnaojakldaaGreatDoor
