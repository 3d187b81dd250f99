/- P -/
import Derived.Test.YtfjpcldndaiifaaGreatDoorA21
open Go.Proofs.Tryz
set_option maxRecDepth 100000
set_option maxHeartbeats 3200000
namespace Go.Proofs.YtfjpcldndaiifaaGreatDoor
open Go.RowKit
attribute [local go_sem ↓] Go.wp_at_zero Go.wp_at_succ
theorem Tryz.infoNode:(prog.info? 165).map (λi=>(i.zero,i.size,i.bytes))=some (some (.agg #[R9 0,R5,R4,R4]),4,72):=by kernel_rfl
theorem Tryz.infoInt:(prog.info? 3).map (λi=>(i.zero,i.size,i.bytes))=some (some (R9 0),1,8):=by kernel_rfl
theorem WU(m:U.zl)(f:Int)(i:BY)(base b:Nat)(ov nv:Y)(vs:List (Y×Y))(w:J)(h:zW w base b m ov nv vs)(a6:base<=w.heap.size)
  (f0:m.nodes.length<=100000)(N:∀n ∈ m.nodes,n.kids.length<=100000)(b8:∀o ∈ m.opn,o<m.nodes.length)(a8:m.opn.length<=100000):R8 204 #[RG b 0,.agg #[R9 f,S9 i,R4,R4]] w λe w'=>
   e=.returned (R9 (m.nodes.length:Nat))/\Below base w w'/\∃b1 b2,zW w' base b (U.lay m ⟨f,i,[],[]⟩) ov b1 b2:=by
 obtain⟨i0,b6,c0,c3,c4⟩:=qU Tryz.infoNode;have HM:=G7 h;have lb:b<w.heap.size:=zt h.blk;have c2:w.cell? (G8 b 2)=some nv:=(h.cell 2).1;have f2:w.frozen? (G8 b 2)=false:=(h.cell 2).2;have z:=h.ownN;have nb:nv.ownBlock≠some b:=uu h.ownN h.blk (by decide);have f9:nv.ownBlock≠some w.heap.size:=λe=>by have:=(h.ownN.lt _ e).2;omega
 obtain⟨A,L⟩:=Nm m.nodes.length;obtain⟨xs,b0⟩:=Nm (uf m.nodes vs);rw[L,b0]at z;rw[L]at f0;have⟨D,d9,d2,d7⟩:=M5 L b0 N b8;rw[L];clear h L b0 N b8
 obtain⟨X,e9⟩:∃a c,nv=TL a A c:=by
  rcases z.2 with⟨rfl,rfl⟩|⟨g,c,cur,rfl,_⟩
  ·exact⟨_,_,rfl⟩
  exact⟨_,_,rfl⟩
 obtain⟨cc,rfl⟩:=e9;have e0:=λO:Obj=>zi (nbl w O) c2;have e3:=λO:Obj=>((nbl w O).frozen (p:=G8 b 2) lb).trans f2;have T:=λO O':Obj=>zi ((nbl w O).alloc (by simp) O') c2;have V:=λO O':Obj=>(((nbl w O).alloc (by simp) O').frozen (p:=G8 b 2) lb).trans f2;go_enter func204,ntmps204;go_wp2_with fail
 go_cut [] (λwc=>∃y B,zW wc base b { m with nodes:=m.nodes++[⟨f,i,[],[]⟩] } ov (TL (some (G8 y 0)) (A+1) B) (vs++[(TL none 0 0,TL none 0 0)])/\Below base w wc)
 case first=>
  go_region_law ((refine eY _ (by rfl) _ _ _ (by rfl) base 165 i0 _ 4 72 underlying166 b6 c0 c3 c4 rfl (by omega) (TL X A cc) A xs (by rfl) (((z.alloc _).alloc _).drew) (G8 (w.heap.size+1) 0) 1 1 [R9 f,S9 i,R4,R4] (by rfl) (by rfl) (gU (cs:=#[R9 f,S9 i,R4,R4]) (t:=165) (fr:=(0,0)) (Zn w _ _).2) (by simp[Value.oneCell']) (by omega) (by unfold maxLen;omega) (by omega) (by simp;omega) (w.heap.size+2) (by simp) ?_;intro y B w1 a9 x h4 h8;have f5:w1.cell? (G8 b 2)=some (TL X A cc):=(x.cell_far _ (by simp;omega) (vo nb)).trans (by simp[T]);have e4:w1.frozen? (G8 b 2)=false:=(x.frozen_far _ (by simp;omega) (vo nb)).trans (by simp[V])))
  all_goals
   go_wp2_with fail
   go_meet
   case rel=>
    have bX:=λO O':Obj=>(((nbl w O).alloc (by simp) O').drew);have hh:=zW.addNode (HM.below (bX _ _)) x ⟨f,i,[],[]⟩ rfl rfl (by rw[D.o,d9.o];exact a9);refine⟨y,B,hh,?_⟩;exact(((bX _ _).mono a6).grown x (by have:=(bX (Obj.cells #[] 0) (Obj.cells #[] 0)).size;simp at this |-;omega) (λk hk=>(z.lt k hk).1)).setCell HM.o.hb _
 case rest=>
  obtain⟨y,B,s,a5⟩:=hcut;clear c2 f2 e0 e3 T V nb f9 z;have r:=s.ownO;simp only at r;have a3:=G7 s;have b3:=G7 a5
  cases hopn:m.opn with
  | nil=>
   rw[hopn]at r
   obtain⟨ao,oc,rfl⟩:∃a c,ov=TL a 0 c:=by
    rcases r.2 with⟨rfl,_⟩|⟨g,c,cur,rfl,_⟩
    ·exact⟨_,_,rfl⟩
    exact⟨_,_,rfl⟩
   have c1:wc.cell? (G8 b 1)=some (TL ao 0 oc):=(s.cell 1).1;have h0:wc.cell? (G8 b 10)=some (R9 m.root):=(s.cell 10).1;have f10:wc.frozen? (G8 b 10)=false:=(s.cell 10).2;have fin:=s.store 10 (R9 A) (m':=U.lay m ⟨f,i,[],[]⟩) (by simp[U.lay,hopn,YL,<- D.o]) (by simp[U.lay,hopn]) (by simp[U.lay,hopn]);have a1:=G7 fin;clear fin s a5 r hopn;go_wp2;go_ret;exact⟨rfl,b3.setCell a3.o.hb _,_,_,a1⟩
  | cons o0 l0=>
   obtain⟨l,o,K⟩:∃l o,m.opn=l++[o]:=by
    rcases List.eq_nil_or_concat m.opn with h|⟨l,o,h⟩
    ·rw[h]at hopn;cases hopn
    exact⟨l,o,by rw[h,List.concat_eq_append]⟩
   clear hopn;have ho:o<m.nodes.length:=d7 o (by rw[K];simp);have H:m.opn.getLastD 0=o:=by rw[K];simp
   rw[K]at r a8;simp only[qE,kX]at r a8;obtain⟨q,hq⟩:=Nm l.length;rw[hq]at r a8
   obtain⟨go,oc,rfl⟩:∃g c,ov=TL (some (G8 g 0)) (q+1) c:=by
    rcases r.2 with⟨_,h⟩|⟨g,c,cur,rfl,_⟩
    ·omega
    exact⟨_,_,rfl⟩
   have c1:wc.cell? (G8 b 1)=some (TL (some (G8 go 0)) (q+1) oc):=(s.cell 1).1;have cN:wc.cell? (G8 b 2)=some (TL (some (G8 y 0)) (A+1) B):=(s.cell 2).1
   have co:wc.cell? (G8 go q)=some (R9 (o:Int)):=by
    rw[r.cellAt q (by omega)];unfold yK;rw[ui,P8,hq]
    simp
   have R:(m.nodes++[(⟨f,i,[],[]⟩:U.Node)])[o]?=some m.nodes[o]:=by rw[yw ho,zn ho]
   have b9:o<vs.length:=by rw[HM.o.len];exact ho
   have S:(vs++[(Value.slice none 0 0,Value.slice none 0 0)])[o]?=some vs[o]:=by rw[yw b9,zn b9]
   have I:(vs++[(Value.slice none 0 0,Value.slice none 0 0)]).length=(m.nodes++[(⟨f,i,[],[]⟩:U.Node)]).length:=by simp[HM.o.len]
   have G:=dN _ _ I o _ _ R S;have j:=s.ownN;simp only[qE,kX,D.o]at j;have ck:=(j.cellAt (o*4+3) (by have:=D.o;omega)).trans G.2.2.2;have fk:wc.frozen? (G8 y (o*4+3))=false:=j.frozenAt _;have u:=s.kids o _ _ R S;have N:=d2 m.nodes[o] (qm ho);obtain⟨kv,P⟩:=Nm (vs[o].2);obtain⟨E,Q⟩:=Nm (m.nodes[o].kids.length);obtain⟨ks,a7⟩:=Nm (yK m.nodes[o].kids);rw[P,Q,a7]at u;rw[P]at ck;rw[Q]at N;have h9:o<A+1:=by have:=D.o;omega
   have kg:kv.ownBlock≠some y:=λe=>Vo u j (by decide) e rfl;have kb:kv.ownBlock≠some b:=uu u s.blk (by decide)
   obtain⟨ka,kc,rfl⟩:∃a c,kv=TL a E c:=by
    rcases u.2 with⟨rfl,rfl⟩|⟨g,c,cur,rfl,_⟩
    ·exact⟨_,_,rfl⟩
    exact⟨_,_,rfl⟩
   have f7:y<wc.heap.size:=(j.lt y rfl).2;have f6:b<wc.heap.size:=zt s.blk;have h5:base<=wc.heap.size:=xD s.hb (JW f6);obtain⟨j0,e7,f1,f3,f4⟩:=qU Tryz.infoInt;have⟨d6,d8,b4,d5,d3,d4,a2,HO⟩:=M9 R S P Q a7 K H ho;clear s a5 r K G R S P Q a7 H I j c0 b6 c3 c4;have o0:(0:Int)<=(o:Int):=qd _;have o1:(o:Int)<(A:Int)+1:=by omega
   have a1:G6 (∀(O:Obj) (W v:Nat) (M:J),M.ownsRow base 3 1 (TL (some (G8 W 0)) (E+1) v) (E+1) (ks++[R9 (A:Int)])->(wc.alloc O).drew.drew.grownBy M (Value.slice ka E kc).ownBlock ->
     ((Value.slice ka E kc).ownBlock=some W\/W=wc.heap.size+1)->Below base w (M.setCell (G8 y (o*4+3)) (TL (some (G8 W 0)) (E+1) v)) /\
     ∃b1 b2,zW (M.setCell (G8 y (o*4+3)) (TL (some (G8 W 0)) (E+1) v)) base b (U.lay m ⟨f,i,[],[]⟩) (TL (some (G8 go 0)) (q+1) oc) b1 b2):=by
    intro O W v M C d F;have bX:BQ wc (wc.alloc O).drew.drew:=(nbl wc O).drew.drew;have hX:=a3.below bX
    have hr:=zW.yH hX o _ _ d6 d8 (w1:=M) (kv := TL (some (G8 W 0)) (E+1) v) (by rw[b4.o];exact d) A (by rw[d5.o,d3.o];exact C)
     (by rw[b4.o];rcases F with e|e
         ·exact .inl e.symm
         right;simp[Value.ownBlock,e]) y (A+1) B rfl
    refine⟨((b3.trans (bX.mono (by omega))).grown d (by have:=bX.size;omega) (λk e8=>(u.lt k e8).1)).setCell (a3.ownN.lt y rfl).1 _,?_⟩
    have e:U.lay m ⟨f,i,[],[]⟩={ m with nodes:=U.yH o A (m.nodes++[⟨f,i,[],[]⟩]) }:=by
     unfold U.lay;rw[za (by rw[d4.o];simp),a2.o,D.o]
    rw[e];exact⟨_,_,hr⟩
   go_wp2_with fail;go_region;have e1:=λO:Obj=>zi (nbl wc O) cN;have e2:=λO:Obj=>zi (nbl wc O) ck;have e5:=λO:Obj=>((nbl wc O).frozen (p:=(G8 y (o*4+3))) f7).trans fk;go_wp2_with fail;go_region_law ((refine eY _ (by rfl) _ _ _ (by rfl) base 3 j0 _ 1 8 underlying24 e7 f1 f3 f4 rfl (by omega) (TL ka E kc) E ks (by rfl) ((u.alloc _).drew.drew) (R6 wc 0) 1 1 [R9 (A:Int)] (by rfl) (by rfl) (gU (cs:=#[R9 (A:Int)]) (t:=3) (fr:=(0,0)) (zA wc _)) (by simp[Value.oneCell']) (by omega) (by unfold maxLen;omega) (by omega) (by simp;omega) (wc.heap.size+1) (by simp) ?_;intro W v M C d F g4;have i5:M.cell? (G8 b 2)=some (TL (some (G8 y 0)) (A+1) B):=(d.cell_far _ (by simp;omega) (vo kb)).trans (by simp[e1]);have f5:M.cell? (G8 y (o*4+3))=some (TL ka E kc):=(d.cell_far _ (by simp;omega) (vo kg)).trans (by simp[e2]);have e4:M.frozen? (G8 y (o*4+3))=false:=(d.frozen_far _ (by simp;omega) (vo kg)).trans (by simp[e5])))
   all_goals
    go_wp2;go_ret;exact⟨rfl,a1 _ _ _ _ C d F⟩
attribute [local go_sem ↓] Go.wp_at_zero Go.wp_at_succ
def Stepped(base b:Nat)(r:Int×U.zl)(w:J)(e:Ending)(w':J):Prop:=
 e=.returned (R9 r.1)/\Below base w w'/\(r.1=0->∃c a d,zW w' base b r.2 c a d)
structure Small (m:U.zl):Prop where
 nodes:m.nodes.length<=100000
 opn:m.opn.length<=100000
 kids:∀n ∈ m.nodes,n.kids.length<=100000
 names:∀n ∈ m.nodes,n.names.length<=100000
 got:m.got.size<=1000000
 top:∀o ∈ m.opn,o<m.nodes.length
theorem zW.drew{w:J}{base b:Nat}{m:U.zl}{c a:Y}{d:List (Y×Y)}(h:zW w base b m c a d):zW w.drew base b m c a d:=h.below (E9).drew
theorem zW.top{w:J}{base b:Nat}{m:U.zl}{B A:Y}{p:List (Y×Y)}(h:zW w base b m B A p)(z:∀o ∈ m.opn,o<m.nodes.length)(x:m.opn≠[]):∃(o q s u e j:Nat) (n:U.Node) (v:Y×Y),m.opn.length=q+1/\m.opn.getLastD 0=o/\o<m.nodes.length/\B=TL (some (G8 s 0)) (q+1) u/\A=TL (some (G8 e 0)) m.nodes.length j /\
   m.nodes[o]?=some n/\p[o]?=some v/\w.cell? (G8 s q)=some (R9 (o:Int))/\w.cell? (G8 e (o*4))=some (R9 n.kind)/\w.cell? (G8 e (o*4+2))=some v.1/\w.cell? (G8 e (o*4+3))=some v.2 /\
   (∀k,w.frozen? (G8 e k)=false)/\q+1<=u/\e<w.heap.size/\base<=e:=by
 obtain⟨l,o,f⟩:∃l o,m.opn=l++[o]:=by
  rcases List.eq_nil_or_concat m.opn with h|⟨l,o,h⟩
  ·exact absurd h x
  exact⟨l,o,by rw[h,List.concat_eq_append]⟩
 have t:o<m.nodes.length:=z o (by rw[f];simp);have d:=h.ownO;have i:m.opn.length=l.length+1:=by rw[f];simp
 rw[i]at d
 obtain⟨s,u,rfl,y⟩:∃g c,B=TL (some (G8 g 0)) (l.length+1) c/\l.length+1<=c:=by
  rcases d.2 with⟨_,h⟩|⟨g,c,cur,rfl,_,_,h,_⟩
  ·omega
  exact⟨_,_,rfl,h⟩
 obtain⟨e,j,rfl⟩:∃g c,A=TL (some (G8 g 0)) m.nodes.length c:=by
  rcases h.ownN.2 with⟨_,h⟩|⟨g,c,cur,rfl,_⟩
  ·omega
  exact⟨_,_,rfl⟩
 have r:o<p.length:=by rw[h.len];exact t
 have a:=dN m.nodes p h.len o m.nodes[o] p[o] (zn t) (zn r);have C:=h.ownN.lt e rfl;refine⟨o,l.length,s,u,e,j,m.nodes[o],p[o],i,by rw[f];simp,t,rfl,rfl,zn t,zn r,?_,(h.ownN.cellAt _ (by omega)).trans a.1,(h.ownN.cellAt _ (by omega)).trans a.2.2.1,(h.ownN.cellAt _ (by omega)).trans a.2.2.2,λk=>h.ownN.frozenAt k,y,C.2,C.1⟩;rw[d.cellAt l.length (by omega),f];unfold yK;rw[ui,P8]
 simp
theorem Ap(m:U.zl)(x:Int)(base b:Nat)(I T:Y)(G:List (Y×Y))(w:J)(h:zW w base b m I T G)(t:Small m):R8 170 #[RG b 0,.int .u8 x] w (Stepped base b (U.yc m x) w):=by
 obtain⟨R,j⟩:=Nm (U.yc m x);rw[j];unfold U.yc at j
 by_cases hnil:m.opn=[]
 ·rw[zb hnil]at j;subst j;have f:=h.ownO;rw[hnil]at f
  obtain⟨K,r,rfl⟩:∃a c,I=TL a 0 c:=by
   rcases f.2 with⟨rfl,_⟩|⟨g,c,cur,rfl,_⟩
   ·exact⟨_,_,rfl⟩
   exact⟨_,_,rfl⟩
  have c1:w.cell? (G8 b 1)=some (TL K 0 r):=(h.cell 1).1;clear f h t hnil;go_enter func170,ntmps170;go_wp2;go_ret;exact⟨rfl,zf _ _,by simp⟩
 rw[za hnil]at j;obtain⟨o,q,z,r,C,l,n,v,A,e,O,rfl,rfl,H,Q,X,L,_,_,fz,P,S,N⟩:=h.top t.top hnil;have D:=t.nodes;have u:U.Zm m=n.kind:=by unfold U.Zm;rw[e,H];rfl
 rw[u]at j;have E:=t.opn;rw[A]at E;obtain⟨B,p⟩:=Nm m.nodes.length;rw[p]at O D;obtain⟨F,s⟩:=Nm n.kind;rw[s]at j L;have c1:w.cell? (G8 b 1)=some (TL (some (G8 z 0)) (q+1) r):=(h.cell 1).1;have W:w.cell? (G8 b 2)=some (TL (some (G8 C 0)) B l):=by rw[<- p];exact(h.cell 2).1
 have f1:w.frozen? (G8 b 1)=false:=(h.cell 1).2;have V:w.cell? (G8 b 0)=some (R9 m.state):=(h.cell 0).1;have f0:w.frozen? (G8 b 0)=false:=(h.cell 0).2;have o0:(0:Int)<=(o:Int):=qd _;have o1:(o:Int)<(B:Int):=by omega
 have i:G6 (zW ((w.setCell (G8 b 1) (TL (some (G8 z 0)) q r)).setCell (G8 b 0) (R9 6)) base b { m with opn:=m.opn.dropLast,state:=6 } (TL (some (G8 z 0)) q r) (TL (some (G8 C 0)) m.nodes.length l) G):=by
  have M:zW w base b m (TL (some (G8 z 0)) m.opn.length r) (TL (some (G8 C 0)) m.nodes.length l) G:=by rw[A];exact h
  have:=M.pop 6
  rw[A,VM]at this;exact this
 have y:=G7 h.hb;have k:=G7 j;clear h t hnil e H Q u s p j A
 cases hk:(F==1) with
 | true=>
  cases hx:(x==125) with
  | true=>
   have d:=k.o;rw[hk,hx]at d;rw[za (by decide)]at d;subst d;clear k;go_enter func170,ntmps170;go_wp2_with fail;go_region;go_wp2_with fail;go_region
   all_goals
    go_wp2;go_ret;exact⟨rfl,((((zf _ w).setCell y.o _).setCell y.o _).drew).drew,λ_=>⟨_,_,_,i.drew.drew⟩⟩
  | false=>
   have d:=k.o;rw[hk,hx]at d;rw[zb (by decide)]at d;subst d;clear k i;go_enter func170,ntmps170;go_wp2_with fail;go_region
   all_goals
    go_wp2;go_ret;exact⟨rfl,(zf _ w).drew,by simp⟩
 | false=>
  cases hx:(x==125) with
  | true=>
   have d:=k.o;rw[hk,hx]at d;rw[zb (by decide)]at d;subst d;clear k i;go_enter func170,ntmps170;go_wp2_with fail;go_region
   all_goals
    go_wp2;go_ret;exact⟨rfl,(zf _ w).drew,by simp⟩
  | false=>
   have d:=k.o;rw[hk,hx]at d;rw[za (by decide)]at d;subst d;clear k;go_enter func170,ntmps170;go_wp2_with fail;go_region;go_wp2_with fail;go_region
   all_goals
    go_wp2;go_ret;exact⟨rfl,((((zf _ w).setCell y.o _).setCell y.o _).drew).drew,λ_=>⟨_,_,_,i.drew.drew⟩⟩
attribute [local go_sem ↓] Go.wp_at_zero Go.wp_at_succ
theorem GZ(m:U.zl)(x:Int)(base b:Nat)(ov nv:Y)(vs:List (Y×Y))(w:J)(h:zW w base b m ov nv vs)(k:Small m):R8 169 #[RG b 0,.int .u8 x] w (Stepped base b (U.after m x) w):=by
 obtain⟨R,f⟩:=Nm (U.after m x);rw[f];unfold U.after at f;have c0:w.cell? (G8 b 0)=some (R9 m.state):=(h.cell 0).1;have f0:w.frozen? (G8 b 0)=false:=(h.cell 0).2;have c1:w.cell? (G8 b 1)=some ov:=(h.cell 1).1;obtain⟨G,j⟩:=Nm m.state;rw[j]at c0 f;have A:=G7 h.hb
 by_cases h5:G=5
 ·have T:(G==5)=true:=by simp[h5]
  by_cases hx:x=58
  ·rw[zb ⟨h5,hx⟩]at f;subst f;have p:(x==58)=true:=by simp[hx]
   have O:=G7 (h.store 0 (R9 1) (m':={ m with state:=1 }) rfl rfl rfl)
   clear h k h5 hx j;go_enter func169,ntmps169;go_wp2;go_ret;exact⟨rfl,(zf _ w).setCell A.o _,λ_=>⟨_,_,_,O⟩⟩
  rw[za (λe=>hx e.2),zb (.inl h5)]at f;subst f;have p:(x==58)=false:=by simp[hx]
  clear h k h5 hx j;go_enter func169,ntmps169;go_wp2;go_ret;exact⟨rfl,zf _ w,by simp⟩
 have T:(G==5)=false:=by simp[h5]
 rw[za (λe=>h5 e.1)]at f
 by_cases hnil:m.opn=[]
 ·rw[zb (.inr hnil)]at f;subst f;have r:=h.ownO;rw[hnil]at r
  obtain⟨ao,oc,rfl⟩:∃a c,ov=TL a 0 c:=by
   rcases r.2 with⟨rfl,_⟩|⟨g,c,cur,rfl,_⟩
   ·exact⟨_,_,rfl⟩
   exact⟨_,_,rfl⟩
  clear h k h5 j hnil r;go_enter func169,ntmps169;go_wp2;go_ret;exact⟨rfl,zf _ w,by simp⟩
 rw[za (λe=>e.elim h5 hnil)]at f;have ht:=h.top k.top hnil;obtain⟨o,q,go,oc,gg,Q,n,v,C,d,ho,rfl,rfl,z,L,I,H,_,_,K,d3,d7,c7⟩:=ht;have a3:=k.opn;rw[C]at a3
 by_cases hx1:x=125\/x=93
 ·rw[zb hx1]at f;subst f;have HM:=G7 h;have HS:=G7 k
  have p:(x==125)=true\/(x==125)=false/\(x==93)=true:=by
   rcases hx1 with e|e
   ·exact .inl (by simp[e])
   exact .inr ⟨by simp[e],by simp[e]⟩
  clear h k h5 j hnil hx1 d z L C I H K
  rcases p with p|⟨p,a5⟩
  all_goals
   go_enter func169,ntmps169;go_wp2_with fail;apply(Ap m x base b _ _ _ _ HM HS).mono;rintro e w1⟨rfl,V,B⟩;have P:=G7 B;clear B;go_wp2;go_ret;exact⟨rfl,V,P⟩
 rw[za hx1]at f;have d6:(x==125)=false:=by simp;omega
 have a5:(x==93)=false:=by simp;omega
 by_cases hx2:x=44
 ·rw[za (by simp[hx2])]at f;have a6:(x != 44)=false:=by simp[hx2]
  have t:=h.store 0 (R9 1) (m':={ m with state:=1 }) rfl rfl rfl
  have y:U.Zm m=n.kind:=by unfold U.Zm;rw[d,z];rfl
  rw[y]at f;have a4:=t.top k.top hnil;obtain⟨o',q',c6,d9,c4,a9,n',v',D,i,c9,e1,e2,l,E,c2,S,_,_,_,_,_,_⟩:=a4;simp only[Value.slice.injEq,Option.some.injEq,Addr.mk.injEq,J4]at e1 e2;obtain⟨rfl,d4,rfl⟩:=e1;obtain⟨rfl,_,rfl⟩:=e2;have a2:q'=q:=by omega
  subst a2;have a1:o'=o:=by rw[<- d,<- i]
  subst a1;have X:n'=n:=by simp only at l;rw[z]at l;simpa using l.symm
  subst X;obtain⟨M,s⟩:=Nm m.nodes.length;have a0:=k.nodes;have d1:(w.setCell (G8 b 0) (R9 1)).cell? (G8 b 1)=some (TL (some (G8 go 0)) (q'+1) oc):=(t.cell 1).1;have d2:(w.setCell (G8 b 0) (R9 1)).cell? (G8 b 2)=some (TL (some (G8 gg 0)) M Q):=by rw[<- s];exact(t.cell 2).1
  have d0:(w.setCell (G8 b 0) (R9 1)).cell? (G8 b 0)=some (R9 1):=(t.cell 0).1;rw[s]at ho a0;have o0:(0:Int)<=(o':Int):=qd _;have o1:(o':Int)<(M:Int):=by omega
  obtain⟨F,u⟩:=Nm (n'.kind);rw[u]at S f;have F1:=G7 t;have N:=G7 (h.store 0 (R9 4) (m':={ m with state:=4 }) rfl rfl rfl)
  have F4:=G7 (t.store 0 (R9 4) (m':={ m with state:=4 }) rfl rfl rfl)
  by_cases hk:F=1
  ·rw[zb hk]at f;subst f;have W:(F==1)=true:=by simp[hk]
   clear h k h5 j hnil hx1 hx2 d z L C I H K t D i l E y u s hk;go_enter func169,ntmps169;go_wp2_with fail;go_region
   all_goals
    go_wp2;go_ret
    first
     | exact⟨rfl,(((zf _ w).setCell A.o _).setCell A.o _).drew,λ_=>⟨_,_,_,F4.drew⟩⟩
     | exact⟨rfl,((zf _ w).setCell A.o _).drew,λ_=>⟨_,_,_,N.drew⟩⟩
  rw[za hk]at f;subst f;have W:(F==1)=false:=by simp[hk]
  clear h k h5 j hnil hx1 hx2 d z L C I H K t D i l E y u s hk;go_enter func169,ntmps169;go_wp2_with fail;go_region
  all_goals
   go_wp2;go_ret;exact⟨rfl,((zf _ w).setCell A.o _).drew,λ_=>⟨_,_,_,F1.drew⟩⟩
 rw[zb hx2]at f;subst f;have a6:(x != 44)=true:=by simp[hx2]
 clear h k h5 j hnil hx1 hx2 d z L C I H K;go_enter func169,ntmps169;go_wp2;go_ret;exact⟨rfl,zf _ w,by simp⟩
theorem Uf(m:U.zl)(n:U.Node):(U.lay m n).opn=m.opn:=by unfold U.lay;split<;>rfl
theorem KA(m:U.zl)(a:Int)(c:BY)(base b:Nat)(g j:Y)(k:List (Y×Y))(w:J)(h:zW w base b m g j k)(d:Small m):R8 204 #[RG b 0,.agg #[R9 a,S9 c,R4,R4]] w λe l=>
   e=.returned (R9 (m.nodes.length:Nat))/\Below base w l/\∃f i,zW l base b (U.lay m ⟨a,c,[],[]⟩) g f i:=
 WU m a c base b g j k w h (xD h.hb (JW (zt h.blk))) d.nodes d.kids d.top d.opn
theorem Lh(m:U.zl)(x:Int)(base b:Nat)(ov nv:Y)(vs:List (Y×Y))(w:J)(h:zW w base b m ov nv vs)(o:Small m):R8 171 #[RG b 0,.int .u8 x] w (Stepped base b (U.vz m x) w):=by
 obtain⟨R,n⟩:=Nm (U.vz m x);rw[n];unfold U.vz at n;have v:=G7 h.hb;have c0:w.cell? (G8 b 0)=some (R9 m.state):=(h.cell 0).1;have f0:w.frozen? (G8 b 0)=false:=(h.cell 0).2;have c1:w.cell? (G8 b 1)=some ov:=(h.cell 1).1;have lb:b<w.heap.size:=zt h.blk
 by_cases h1:x=123\/x=91
 ·rw[zb h1]at n;have A:=h.ownO;obtain⟨q,F⟩:=Nm m.opn.length;rw[F]at A n
  obtain⟨H,I,rfl⟩:∃a c,ov=TL a q c:=by
   rcases A.2 with⟨rfl,rfl⟩|⟨g,c,cur,rfl,_⟩
   ·exact⟨_,_,rfl⟩
   exact⟨_,_,rfl⟩
  by_cases h8:8<=q
  ·rw[zb h8]at n;subst n;have c7:decide (8<=(q:Int))=true:=by simp;omega
   have C:(x==123)=true\/(x==123)=false/\(x==91)=true:=by
    rcases h1 with e|e
    ·exact .inl (by simp[e])
    exact .inr ⟨by simp[e],by simp[e]⟩
   have E:=o.opn;rw[F]at E;clear h o h1 A F
   rcases C with C|⟨C,P⟩
   all_goals
    go_enter func171,ntmps171;go_wp2;go_ret;exact⟨rfl,zf _ _,by simp⟩
  rw[za h8]at n;have c7:decide (8<=(q:Int))=false:=by simp;omega
  obtain⟨j0,a6,a9,b0,b1⟩:=qU Tryz.infoInt
  rcases h1 with h1|h1
  ·have C:(x==123)=true:=by simp[h1]
   have P:(x==91)=false:=by simp[h1]
   rw[N8,N8]at n;have hM:=(h.store 0 (R9 3) (m':={ m with state:=3 }) rfl rfl rfl)
   have L:=G7 hM;have O:G6 (Small { m with state:=3 }):=⟨o.nodes,o.opn,o.kids,o.names,o.got,o.top⟩
   have⟨HR,X⟩:=D5 n F;have E:=o.opn;rw[F]at E;clear h o h1 A hM n F;go_enter func171,ntmps171;go_wp2_with fail;refine(KA { m with state:=3 } 1 ⟨#[]⟩ base b (TL H q I) nv vs _ ?_ O).mono ?_
   ·exact L.below (nbl _ _)
   rintro e j⟨rfl,r,S,V,d⟩;have b2:Below base w j:=((((zf _ w).setCell v.o _).alloc (by simp[World.setCell];have:=v.o;omega) _)).trans r;have d1:j.cell? (G8 b 1)=some (TL H q I):=(d.cell 1).1;have g1:j.frozen? (G8 b 1)=false:=(d.cell 1).2;have f:=d.ownO;rw[Uf]at f;simp only at f;rw[X.o]at f;obtain⟨T,s⟩:=Nm (yK m.opn);rw[s]at f;obtain⟨G,B⟩:=Nm m.nodes.length;have Q:b<j.heap.size:=zt d.blk;have⟨D,N,M⟩:=M4 d s B;simp only[B];clear d s B r c0 f0 c1 lb;have ob:(Value.slice H q I).ownBlock≠some b:=uu f D.blk (by decide);go_wp2_with (at_builtin;refine Yp _ rfl _ _ 24 rfl base 3 j0 (R9 0) 1 8 underlying24 a6 a9 b0 b1 rfl (by decide) _ q T rfl (f.alloc _) (R6 j 0) 1 1 [R9 (G:Int)] rfl rfl ?_ ?_ ?_ ?_ ?_ ?_)
   ·exact VW _ _ _
   ·intro u hu;simp at hu;subst hu;rfl
   ·unfold maxLen;omega
   ·omega
   ·have:=v.o;simp;omega
   intro v' W t i _ z
   obtain⟨g3,c3,rfl⟩:∃g c,v'=TL (some (G8 g 0)) (q+1) c:=by
    rcases t.2 with⟨_,h⟩|⟨g,c,cur,rfl,_⟩
    ·omega
    exact⟨_,_,rfl⟩
   have e1:W.cell? (G8 b 1)=some (TL H q I):=(i.cell_far _ (by simp;omega) (vo ob)).trans (zi (nbl j _) d1);have e2:W.frozen? (G8 b 1)=false:=(i.frozen_far _ (by simp;omega) (vo ob)).trans (((nbl j _).frozen (p:=G8 b 1) Q).trans g1);have y:=G7 (zW.push (D.below (nbl j _)) i G (by rw[Uf];simp only;rw[X.o,N.o];exact t) (by simpa using z));have B3:G6 (Below base w (W.setCell (G8 b 1) (TL (some (G8 g3 0)) (q+1) c3))):=((b2.trans (((zf base j).alloc (by have:=v.o;omega) _))).grown i (by simp;have:=v.o;omega) (λk hk=>(f.lt k hk).1)).setCell v.o _;have hr:=HR.o;subst hr;clear HR t i z f d1 g1 b2;go_wp2;go_ret;refine⟨rfl,B3,λ_=>?_⟩;have hf:=y.o;rw[Uf]at hf;rw[M.o];exact⟨_,_,_,hf⟩
  have C:(x==123)=false:=by simp[h1]
  have P:(x==91)=true:=by simp[h1]
  rw[zb h1,zb h1]at n;have hM:=((h.store 0 (R9 3) (m':={ m with state:=3 }) rfl rfl rfl).store 0 (R9 2) (m':={ m with state:=2 }) rfl rfl rfl)
  have L:=G7 hM;have O:G6 (Small { m with state:=2 }):=⟨o.nodes,o.opn,o.kids,o.names,o.got,o.top⟩
  have⟨HR,X⟩:=D5 n F;have E:=o.opn;rw[F]at E;clear h o h1 A hM n F;go_enter func171,ntmps171;go_wp2_with fail;refine(KA { m with state:=2 } 2 ⟨#[]⟩ base b (TL H q I) nv vs _ ?_ O).mono ?_
  ·exact L.below (nbl _ _)
  rintro e j⟨rfl,r,S,V,d⟩;have b2:Below base w j:=(((((zf _ w).setCell v.o _).setCell v.o _).alloc (by simp[World.setCell];have:=v.o;omega) _)).trans r;have d1:j.cell? (G8 b 1)=some (TL H q I):=(d.cell 1).1;have g1:j.frozen? (G8 b 1)=false:=(d.cell 1).2;have f:=d.ownO;rw[Uf]at f;simp only at f;rw[X.o]at f;obtain⟨T,s⟩:=Nm (yK m.opn);rw[s]at f;obtain⟨G,B⟩:=Nm m.nodes.length;have Q:b<j.heap.size:=zt d.blk;have⟨D,N,M⟩:=M4 d s B;simp only[B];clear d s B r c0 f0 c1 lb;have ob:(Value.slice H q I).ownBlock≠some b:=uu f D.blk (by decide);go_wp2_with (at_builtin;refine Yp _ rfl _ _ 24 rfl base 3 j0 (R9 0) 1 8 underlying24 a6 a9 b0 b1 rfl (by decide) _ q T rfl (f.alloc _) (R6 j 0) 1 1 [R9 (G:Int)] rfl rfl ?_ ?_ ?_ ?_ ?_ ?_)
  ·exact VW _ _ _
  ·intro u hu;simp at hu;subst hu;rfl
  ·unfold maxLen;omega
  ·omega
  ·have:=v.o;simp;omega
  intro v' W t i _ z
  obtain⟨g3,c3,rfl⟩:∃g c,v'=TL (some (G8 g 0)) (q+1) c:=by
   rcases t.2 with⟨_,h⟩|⟨g,c,cur,rfl,_⟩
   ·omega
   exact⟨_,_,rfl⟩
  have e1:W.cell? (G8 b 1)=some (TL H q I):=(i.cell_far _ (by simp;omega) (vo ob)).trans (zi (nbl j _) d1);have e2:W.frozen? (G8 b 1)=false:=(i.frozen_far _ (by simp;omega) (vo ob)).trans (((nbl j _).frozen (p:=G8 b 1) Q).trans g1);have y:=G7 (zW.push (D.below (nbl j _)) i G (by rw[Uf];simp only;rw[X.o,N.o];exact t) (by simpa using z));have B3:G6 (Below base w (W.setCell (G8 b 1) (TL (some (G8 g3 0)) (q+1) c3))):=((b2.trans (((zf base j).alloc (by have:=v.o;omega) _))).grown i (by simp;have:=v.o;omega) (λk hk=>(f.lt k hk).1)).setCell v.o _;have hr:=HR.o;subst hr;clear HR t i z f d1 g1 b2;go_wp2;go_ret;refine⟨rfl,B3,λ_=>?_⟩;have hf:=y.o;rw[Uf]at hf;rw[M.o];exact⟨_,_,_,hf⟩
 rw[za h1]at n;have C:(x==123)=false:=by simp;omega
 have P:(x==91)=false:=by simp;omega
 by_cases hx34:x=34
 ·rw[zb hx34]at n;subst n;have a8:(x==34)=true:=by simp[hx34]
  have c3:w.cell? (G8 b 3)=some (.bool m.named):=(h.cell 3).1;have f3:w.frozen? (G8 b 3)=false:=(h.cell 3).2;have c4:w.cell? (G8 b 4)=some (S9 m.got):=(h.cell 4).1;have f4:w.frozen? (G8 b 4)=false:=(h.cell 4).2;have y:=G7 (((h.store 0 (R9 8) (m':={ m with state:=8 }) rfl rfl rfl).store 3 T9 (m':={ m with state:=8,named:=false }) rfl rfl rfl).store 4 R5 (m':={ m with state:=8,named:=false,got:=⟨#[]⟩ }) rfl rfl rfl)
  clear h o h1 hx34;go_enter func171,ntmps171;go_wp2;go_ret;exact⟨rfl,(((zf _ w).setCell v.o _).setCell v.o _).setCell v.o _,λ_=>⟨_,_,_,y⟩⟩
 rw[za hx34]at n;have d2:(x==34)=false:=by simp[hx34]
 by_cases hx116:x=116
 ·rw[zb hx116]at n;subst n;have a8:(x==116)=true:=by simp[hx116]
  have⟨L,HS⟩:=D5 h o;clear h o h1 hx116 c0 f0 c1 lb hx34;go_enter func171,ntmps171;go_wp2_with fail;apply(KA m 4 ⟨#[]⟩ base b ov nv vs _ L HS).mono;rintro e j⟨rfl,r,S,V,d⟩;have d0:j.cell? (G8 b 0)=some (R9 (U.lay m ⟨4,⟨#[]⟩,[],[]⟩).state):=(d.cell 0).1;have g0:j.frozen? (G8 b 0)=false:=(d.cell 0).2;have d9:j.cell? (G8 b 9)=some (S9 (U.lay m ⟨4,⟨#[]⟩,[],[]⟩).word):=(d.cell 9).1;have g9:j.frozen? (G8 b 9)=false:=(d.cell 9).2;have y:=G7 ((d.store 0 (R9 7) (m':={ U.lay m ⟨4,⟨#[]⟩,[],[]⟩ with state:=7 }) rfl rfl rfl).store 9 (S9 ⟨#[114,117,101]⟩) (m':={ U.lay m ⟨4,⟨#[]⟩,[],[]⟩ with state:=7,word:=⟨#[114,117,101]⟩ }) rfl rfl rfl)
  have K:=G7 r;clear d r;go_wp2;go_ret;exact⟨rfl,(K.setCell v.o _).setCell v.o _,λ_=>⟨_,_,_,y⟩⟩
 rw[za hx116]at n;have b9:(x==116)=false:=by simp[hx116]
 by_cases hx102:x=102
 ·rw[zb hx102]at n;subst n;have a8:(x==102)=true:=by simp[hx102]
  have⟨L,HS⟩:=D5 h o;clear h o h1 hx102 c0 f0 c1 lb hx34 hx116;go_enter func171,ntmps171;go_wp2_with fail;apply(KA m 5 ⟨#[]⟩ base b ov nv vs _ L HS).mono;rintro e j⟨rfl,r,S,V,d⟩;have d0:j.cell? (G8 b 0)=some (R9 (U.lay m ⟨5,⟨#[]⟩,[],[]⟩).state):=(d.cell 0).1;have g0:j.frozen? (G8 b 0)=false:=(d.cell 0).2;have d9:j.cell? (G8 b 9)=some (S9 (U.lay m ⟨5,⟨#[]⟩,[],[]⟩).word):=(d.cell 9).1;have g9:j.frozen? (G8 b 9)=false:=(d.cell 9).2;have y:=G7 ((d.store 0 (R9 7) (m':={ U.lay m ⟨5,⟨#[]⟩,[],[]⟩ with state:=7 }) rfl rfl rfl).store 9 (S9 ⟨#[97,108,115,101]⟩) (m':={ U.lay m ⟨5,⟨#[]⟩,[],[]⟩ with state:=7,word:=⟨#[97,108,115,101]⟩ }) rfl rfl rfl)
  have K:=G7 r;clear d r;go_wp2;go_ret;exact⟨rfl,(K.setCell v.o _).setCell v.o _,λ_=>⟨_,_,_,y⟩⟩
 rw[za hx102]at n;have b8:(x==102)=false:=by simp[hx102]
 subst n;clear h o h1 hx34 hx116 hx102 c0 f0 c1 lb;go_enter func171,ntmps171;go_wp2;go_ret;exact⟨rfl,zf _ w,by simp⟩
attribute [local go_sem ↓] Go.wp_at_zero Go.wp_at_succ
theorem Tryz.infoStr:(prog.info? 9).map (λi=>(i.zero,i.size,i.bytes))=some (some R5,1,16):=by kernel_rfl
theorem MF(m:U.zl)(base b:Nat)(ov nv:Y)(vs:List (Y×Y))(w:J)(h:zW w base b m ov nv vs)(C:Small m)(a5:m.named=true->m.opn≠[]):R8 201 #[RG b 0] w (Stepped base b (U.closed m) w):=by
 obtain⟨R,N⟩:=Nm (U.closed m);rw[N];unfold U.closed at N;have HB:=G7 h.hb;have c3:w.cell? (G8 b 3)=some (.bool m.named):=(h.cell 3).1;have c4:w.cell? (G8 b 4)=some (S9 m.got):=(h.cell 4).1
 cases hnm:m.named with
 | false=>
  rw[zb hnm]at N;subst N;rw[hnm]at c3;have⟨HM,HS⟩:=D5 h C;clear h C a5 hnm;go_enter func201,ntmps201;go_wp2_with fail;apply(KA m 3 m.got base b ov nv vs _ HM HS).mono;rintro e E⟨rfl,b4,j4,j5,T⟩;have d0:E.cell? (G8 b 0)=some (R9 (U.lay m ⟨3,m.got,[],[]⟩).state):=(T.cell 0).1;have g0:E.frozen? (G8 b 0)=false:=(T.cell 0).2;have Q:=G7 (T.store 0 (R9 6) (m':={ U.lay m ⟨3,m.got,[],[]⟩ with state:=6 }) rfl rfl rfl)
  have d2:=G7 b4;clear T b4;go_wp2;go_ret;exact⟨rfl,d2.setCell HB.o _,λ_=>⟨_,_,_,Q⟩⟩
 | true=>
  rw[za (by simp[hnm])]at N;rw[hnm]at c3;have X:=a5 hnm;obtain⟨o,q,go,oc,y,H,n,v,hq,x,ho,rfl,rfl,hn,hv,co,_,b3,_,fz,i8,j3,i5⟩:=h.top C.top X;have b7:U.ah m=n.names:=by unfold U.ah;rw[x,hn];rfl
  rw[b7,x]at N;have e3:=C.nodes;have e4:=C.opn;rw[hq]at e4;have l:=h.names o n v hn hv;have a0:=C.names n (xC hn);obtain⟨n0,K⟩:=Nm m.nodes.length;rw[K]at ho e3;obtain⟨i,V⟩:=Nm n.names;rw[V]at N l a0
  obtain⟨P,W,L⟩:∃a c,v.1=TL a i.length c:=by
   rcases l.2 with⟨e,e0⟩|⟨g,c,cur,e,_⟩
   ·rw[e0];exact⟨_,_,e⟩
   exact⟨_,_,e⟩
  rw[L]at l b3;have c1:w.cell? (G8 b 1)=some (TL (some (G8 go 0)) (q+1) oc):=(h.cell 1).1;have o0:(0:Int)<=(o:Int):=qd _;have o1:(o:Int)<(n0:Int):=by omega
  obtain⟨r,F⟩:=Nm m.got;rw[F]at c4 N
  have u:G6 (∀wr:J,zW wr base b m (TL (some (G8 go 0)) (q+1) oc) (TL (some (G8 y 0)) m.nodes.length H) vs ->
    wr.cell? (G8 b 2)=some (TL (some (G8 y 0)) n0 H)/\wr.cell? (G8 b 4)=some (S9 r)/\wr.cell? (G8 y (o*4+2))=some (TL P i.length W)/\wr.frozen? (G8 y (o*4+2))=false /\
    (∀k (hk:k<i.length),∃gn,P=some (G8 gn 0)/\wr.cell? (G8 gn k)=some (S9 i[k]))/\wr.ownsRow base 9 1 (TL P i.length W) i.length (U.strCells i)):=by
   intro wr A;have a3:=dN m.nodes vs A.len o n v hn hv;have G:=A.names o n v hn hv;rw[V,L]at G;refine⟨by rw[<- K];exact(A.cell 2).1,by rw[<- F];exact(A.cell 4).1,?_,A.ownN.frozenAt _,?_,G⟩
   ·rw[<- L];exact(A.ownN.cellAt _ (by rw[K];omega)).trans a3.2.2.1
   intro k hk
   obtain⟨gn,c,e⟩:∃gn c,(Value.slice P i.length W)=TL (some (G8 gn 0)) i.length c:=by
    rcases G.2 with⟨_,e0⟩|⟨g,c,cur,e,_⟩
    ·omega
    exact⟨g,c,e⟩
   simp only[Value.slice.injEq,QW]at e;obtain⟨rfl,rfl⟩:=e;exact⟨gn,rfl,(G.cellAt k (by omega)).trans (U.JE i k hk)⟩
  have⟨HM,HR,HN,HV,d4,b1,h5,HG,d3⟩:=W9 h N hn hv V L K F x;clear h C a5 hnm X N b7 hn hv V L K F x l b3 fz hq;go_enter func201,ntmps201;go_wp2_with fail;go_region;go_wp2_with fail
  go_loopw [4] (λiv wr=>∃k:Nat,k<=i.length/\iv=R9 k/\zW wr base b m (TL (some (G8 go 0)) (q+1) oc) (TL (some (G8 y 0)) m.nodes.length H) vs/\Below base w wr/\∀j (hj:j<i.length),j<k->(i[j].toList==r.toList)=false) (λiv _=>i.length-(intOf iv).toNat)
  case atStart=>exact⟨0,by omega,rfl,HM.drew,(E9).drew,λj _ h=>by omega⟩
  case round=>
   obtain⟨k,hk,rfl,rM,rB,c0⟩:=hrel;obtain⟨x2,x4,xn,xf,xk,xo⟩:=u wr rM;have⟨RM,RB,S,XK⟩:=M5 rM rB c0 xk;clear rM rB c0 xk HM c1 c3 c4 co
   by_cases hlt:k<i.length
   ·obtain⟨gn,rfl,ck⟩:=XK k hlt;obtain⟨s,C⟩:=Nm (i[k]);rw[C]at ck
    cases heq:(s.toList==r.toList) with
    | true=>
     have A:=HR.o;rw[zb (by rw[Q3];exact⟨i[k],qm hlt,by rw[C];exact heq⟩)]at A;subst A;clear HR C u;go_wp2_with fail;go_region
     all_goals
      go_wp2;go_ret;exact⟨rfl,RB.drew,by simp⟩
    | false=>
     have b2:G6 (∀j (hj:j<i.length),j<k+1->(i[j].toList==r.toList)=false):=by
      intro j hj i6
      by_cases e:j=k
      ·subst e;rw[C];exact heq
      exact S j hj (by omega)
     clear HR C u S;go_wp2_with fail;go_region
     all_goals
      go_wp2;go_roundw
      case rel=>exact⟨k+1,by omega,by go_num,RM.drew,RB.drew,b2⟩
      case measure=>simp[intOf];omega
   have A:=HR.o
   rw[za (by
    rw[Q3];rintro⟨s,C,he⟩;obtain⟨j,hj,rfl⟩:=QB C;rw[S.o j hj (by omega)]at he
    cases he)]at A
   subst A;clear HR u S XK;obtain⟨j0,d9,e7,e8,e9⟩:=qU Tryz.infoStr;have f2:y<wr.heap.size:=(RM.ownN.lt y rfl).2;have f1:b<wr.heap.size:=zt RM.blk;have d8:base<=wr.heap.size:=xD HB (JW f1);have kg:(Value.slice P i.length W).ownBlock≠some y:=λe=>Vo xo RM.ownN (by decide) e rfl;have kb:(Value.slice P i.length W).ownBlock≠some b:=uu xo RM.blk (by decide);obtain⟨D,z⟩:=Nm i.length;obtain⟨ks,b6⟩:=Nm (U.strCells i);have XO:=G7 xo;rw[z,b6]at xo;rw[z]at xn kg kb a0
   have Q:G6 (∀(O:Obj) (M f:Nat) (E:J),E.ownsRow base 9 1 (TL (some (G8 M 0)) (D+1) f) (D+1) (ks++[S9 r])->(wr.alloc O).drew.grownBy E (Value.slice P D W).ownBlock ->
     ((Value.slice P D W).ownBlock=some M\/M=wr.heap.size+1)->Below base w ((E.setCell (G8 y (o*4+2)) (TL (some (G8 M 0)) (D+1) f)).setCell (G8 b 0) (R9 5)) /\
     (∃a7 a6 a8,zW ((E.setCell (G8 y (o*4+2)) (TL (some (G8 M 0)) (D+1) f)).setCell (G8 b 0) (R9 5)) base b { m with nodes:=U.yU o r m.nodes,state:=5 } a7 a6 a8) /\
     (E.setCell (G8 y (o*4+2)) (TL (some (G8 M 0)) (D+1) f)).cell? (G8 b 0)=some (R9 m.state)/\(E.setCell (G8 y (o*4+2)) (TL (some (G8 M 0)) (D+1) f)).frozen? (G8 b 0)=false):=by
    intro O M f E B d I;have bX:BQ wr (wr.alloc O).drew:=(nbl wr O).drew;have hX:=RM.below bX
    have A:=zW.yU hX o _ _ HN HV (w1:=E) (kv := TL (some (G8 M 0)) (D+1) f) (by rw[b1.o,z];exact d) r (by rw[d4.o,z,b6];exact B)
     (by rw[b1.o,z];rcases I with e|e
         ·exact .inl e.symm
         right;simp[Value.ownBlock,e]) y m.nodes.length H rfl
    have e5:=A.store 0 (R9 5) (m':={ m with nodes:=U.yU o r m.nodes,state:=5 }) rfl rfl rfl
    exact⟨(((RB.trans (bX.mono d8)).grown d (by have:=bX.size;omega) (λk e2=>(xo.lt k e2).1)).setCell (RM.ownN.lt y rfl).1 _).setCell HB.o _,⟨_,_,_,e5⟩,(A.cell 0).1,(A.cell 0).2⟩
   have c5:=λO:Obj=>zi (nbl wr O) x2;have c7:=λO:Obj=>zi (nbl wr O) xn;have c6:=λO:Obj=>((nbl wr O).frozen (p:=(G8 y (o*4+2))) f2).trans xf;have f9:¬k<D:=by omega
   go_wp2_with fail
   go_cut [] (λwc=>Below base w (wc.setCell (G8 b 0) (R9 5))/\(∃a7 a6 a8,zW (wc.setCell (G8 b 0) (R9 5)) base b { m with nodes:=U.yU o r m.nodes,state:=5 } a7 a6 a8)/\wc.cell? (G8 b 0)=some (R9 m.state)/\wc.frozen? (G8 b 0)=false)
   case first=>
    go_region_law ((refine eY _ (by rfl) _ _ _ (by rfl) base 9 j0 _ 1 16 underlying57 d9 e7 e8 e9 rfl (by omega) (TL P D W) D ks (by rfl) ((xo.alloc _).drew) (R6 wr 0) 1 1 [S9 r] (by rfl) (by rfl) (gU (cs:=#[S9 r]) (t:=9) (fr:=(0,0)) (zA wr _)) (by simp[Value.oneCell']) (by omega) (by unfold maxLen;omega) (by omega) (by simp;omega) (wr.heap.size+1) (by simp) ?_;intro M f E B d I f8;have j2:E.cell? (G8 b 2)=some (TL (some (G8 y 0)) n0 H):=(d.cell_far _ (by simp;omega) (vo kb)).trans (by simp[c5]);have j1:E.cell? (G8 y (o*4+2))=some (TL P D W):=(d.cell_far _ (by simp;omega) (vo kg)).trans (by simp[c7]);have i2:E.frozen? (G8 y (o*4+2))=false:=(d.frozen_far _ (by simp;omega) (vo kg)).trans (by simp[c6])))
    all_goals
     go_wp2_with fail
     go_meet
     case rel=>exact Q _ _ _ _ B d I
   case rest=>
    obtain⟨r1,r2,r3,r4⟩:=hcut;have⟨R1,R2⟩:=D5 r1 r2;clear r1 r2 c5 c7 c6 x2 x4 xn xf xo Q;go_wp2;go_ret;exact⟨rfl,R1,λ_=>by have hx:=R2.o;rw[HG.o]at hx;exact hx⟩
end Go.Proofs.YtfjpcldndaiifaaGreatDoor
