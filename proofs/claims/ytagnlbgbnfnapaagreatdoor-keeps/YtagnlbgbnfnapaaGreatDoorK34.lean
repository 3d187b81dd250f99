/- P -/
import Derived.Test.YtagnlbgbnfnapaaGreatDoorK33
open Go.Proofs.Tryz
set_option maxRecDepth 100000
set_option maxHeartbeats 3200000
namespace Go.Proofs.YtagnlbgbnfnapaaGreatDoor
open Go.RowKit
attribute [local go_sem ↓] Go.wp_at_zero Go.wp_at_succ
theorem Tryz.infoNode:(prog.info? 241).map (λi=>(i.zero,i.size,i.bytes))=some (some (.agg #[.int .i64 0,.string ⟨#[]⟩,.slice none 0 0,.slice none 0 0]),4,72):=by kernel_rfl
theorem Tryz.infoInt:(prog.info? 3).map (λi=>(i.zero,i.size,i.bytes))=some (some (.int .i64 0),1,8):=by kernel_rfl
theorem IG(m:Ref.zl)(kind:Int)(text:BY)(base b:Nat)(ov nv:Value)(R:List (Value×Value))(w:World)(h:zP w base b m ov nv R)(X:base<=w.heap.size)
  (e0:m.nodes.length<=100000)(H:∀n ∈ m.nodes,n.kids.length<=100000)(a9:∀o ∈ m.opn,o<m.nodes.length)(Z:m.opn.length<=100000) :
  Calls prog 237 #[.pointer (some ⟨b,0,none⟩),.agg #[.int .i64 kind,.string text,.slice none 0 0,.slice none 0 0]] w λe w'=>
   e = .returned (.int .i64 (m.nodes.length:Nat))/\Below base w w'/\∃a2 a3,zP w' base b (Ref.lay m ⟨kind,text,[],[]⟩) ov a2 a3:=by
 obtain⟨i0,a7,b1,b2,b3⟩:=qP Tryz.infoNode;have HM:=hid h;have lb:b<w.heap.size:=zy h.blk;have c2:w.cell? ⟨b,2,none⟩=some nv:=(h.cell 2).1;have f2:w.frozen? ⟨b,2,none⟩=false:=(h.cell 2).2;have ownN:=h.ownN;have nb:nv.ownBlock≠some b:=jQ h.ownN h.blk (by decide);have e8:nv.ownBlock≠some w.heap.size:=λe=>by have:=(h.ownN.lt _ e).2;omega
 obtain⟨v,F⟩:∃n,m.nodes.length=n:=⟨_,rfl⟩;obtain⟨xs,a1⟩:=Nm (jF m.nodes R);rw[F,a1] at ownN;rw[F] at e0;have y:=hid F;have c9:=hid a1;have c0:=hid H;have c7:=hid a9;rw[F];clear h F a1 H a9
 obtain⟨Q,d9⟩:∃a c,nv = .slice a v c:=by
  rcases ownN.2 with ⟨rfl,rfl⟩|⟨g,c,cur,rfl,_⟩
  ·exact⟨_,_,rfl⟩
  ·exact⟨_,_,rfl⟩
 obtain⟨cc,rfl⟩:=d9;have d0:=λO:Obj=>zi (nbl w O) c2;have d3:=λO:Obj=>((nbl w O).frozen (p:=⟨b,2,none⟩) lb).trans f2;have M:=λO O':Obj=>zi ((nbl w O).alloc (by simp) O') c2;have N:=λO O':Obj=>(((nbl w O).alloc (by simp) O').frozen (p:=⟨b,2,none⟩) lb).trans f2;go_enter func237,ntmps237;go_wp2_with fail
 go_cut [] (λwc=>∃u cap,zP wc base b { m with nodes:=m.nodes++[⟨kind,text,[],[]⟩] } ov (.slice (some ⟨u,0,none⟩) (v+1) cap) (R++[(.slice none 0 0,.slice none 0 0)])/\Below base w wc)
 case first=>
  go_region_law ((refine UU _ (by rfl) _ _ _ (by rfl) base 241 i0 _ 4 72 underlying242 a7 b1 b2 b3 rfl (by omega) (.slice Q v cc) v xs (by rfl) (((ownN.alloc _).alloc _).drew) ⟨w.heap.size+1,0,none⟩ 1 1 [.int .i64 kind,.string text,.slice none 0 0,.slice none 0 0] (by rfl) (by rfl) (KA (cs:=#[.int .i64 kind,.string text,.slice none 0 0,.slice none 0 0]) (t:=241) (fr:=(0,0)) (uy w _ _).2) (by simp[Value.oneCell']) (by omega) (by unfold maxLen;omega) (by omega) (by simp;omega) (w.heap.size+2) (by simp) ?_;intro u cap w1 a0 s g1 g6;have e4:w1.cell? ⟨b,2,none⟩=some (.slice Q v cc):=(s.cell_far _ (by simp;omega) (ja nb)).trans (by simp[M]);have d4:w1.frozen? ⟨b,2,none⟩=false:=(s.frozen_far _ (by simp;omega) (ja nb)).trans (by simp[N])))
  all_goals
   go_wp2_with fail
   go_meet
   case rel=>
    have V:=λO O':Obj=>(((nbl w O).alloc (by simp) O').drew);have hh:=zP.addNode (HM.out.below (V _ _)) s ⟨kind,text,[],[]⟩ rfl rfl (by rw[y.out,c9.out];exact a0);refine⟨u,cap,hh,?_⟩;exact (((V _ _).mono X).grown s (by have:=(V (Obj.cells #[] 0) (Obj.cells #[] 0)).size;simp at this |-;omega) (λk hk=>(ownN.lt k hk).1)).setCell HM.out.hb _
 case rest=>
  obtain⟨u,cap,i,W⟩:=hcut;clear c2 f2 d0 d3 M N nb e8 ownN;have ownO:=i.ownO;simp only at ownO;have U:=hid i;have a4:=hid W
  cases hopn:m.opn with
  | nil=>
   rw[hopn] at ownO
   obtain⟨ao,oc,rfl⟩:∃a c,ov = .slice a 0 c:=by
    rcases ownO.2 with ⟨rfl,_⟩|⟨g,c,cur,rfl,_⟩
    ·exact⟨_,_,rfl⟩
    ·exact⟨_,_,rfl⟩
   have c1:wc.cell? ⟨b,1,none⟩=some (.slice ao 0 oc):=(i.cell 1).1;have f7:wc.cell? ⟨b,10,none⟩=some (.int .i64 m.root):=(i.cell 10).1;have f10:wc.frozen? ⟨b,10,none⟩=false:=(i.cell 10).2;have fin:=i.store 10 (.int .i64 v) (m':=Ref.lay m ⟨kind,text,[],[]⟩) (by simp[Ref.lay,hopn,QR,<- y.out]) (by simp[Ref.lay,hopn]) (by simp[Ref.lay,hopn]);have S:=hid fin;clear fin i W ownO hopn
   go_wp2
   go_ret;exact⟨rfl,a4.out.setCell U.out.hb _,_,_,S.out⟩
  | cons o0 l0=>
   obtain⟨l,o,E⟩:∃l o,m.opn=l++[o]:=by
    rcases List.eq_nil_or_concat m.opn with h|⟨l,o,h⟩
    ·rw[h] at hopn;cases hopn
    ·exact⟨l,o,by rw[h,List.concat_eq_append]⟩
   clear hopn;have ho:o<m.nodes.length:=c7.out o (by rw[E];simp);have C:m.opn.getLastD 0=o:=by rw[E];simp
   rw[E] at ownO Z;simp only[qA,vQ] at ownO Z;obtain⟨q,hq⟩:=Nm l.length;rw[hq] at ownO Z
   obtain⟨go,oc,rfl⟩:∃g c,ov = .slice (some ⟨g,0,none⟩) (q+1) c:=by
    rcases ownO.2 with ⟨_,h⟩|⟨g,c,cur,rfl,_⟩
    ·omega
    ·exact⟨_,_,rfl⟩
   have c1:wc.cell? ⟨b,1,none⟩=some (.slice (some ⟨go,0,none⟩) (q+1) oc):=(i.cell 1).1;have cN:wc.cell? ⟨b,2,none⟩=some (.slice (some ⟨u,0,none⟩) (v+1) cap):=(i.cell 2).1
   have co:wc.cell? ⟨go,q,none⟩=some (.int .i64 (o:Int)):=by
    rw[ownO.cellAt q (by omega)];unfold xY;rw[vz,xZ (by omega),hq]
    simp
   have K:(m.nodes++[(⟨kind,text,[],[]⟩:Ref.Node)])[o]?=some m.nodes[o]:=by rw[xK ho,zn ho]
   have b0:o<R.length:=by rw[HM.out.len];exact ho
   have L:(R++[(Value.slice none 0 0,Value.slice none 0 0)])[o]?=some R[o]:=by rw[xK b0,zn b0]
   have D:(R++[(Value.slice none 0 0,Value.slice none 0 0)]).length=(m.nodes++[(⟨kind,text,[],[]⟩:Ref.Node)]).length:=by simp[HM.out.len]
   have B:=Us _ _ D o _ _ K L;have f:=i.ownN;simp only[qA,vQ,y.out] at f;have ck:=(f.cellAt (o*4+3) (by have:=y.out;omega)).trans B.2.2.2;have fk:wc.frozen? ⟨u,o*4+3,none⟩=false:=f.frozenAt _;have j:=i.kids o _ _ K L;have H:=c0.out m.nodes[o] (xB ho);obtain⟨kv,I⟩:=Nm (R[o].2);obtain⟨z,J⟩:=Nm (m.nodes[o].kids.length);obtain⟨ks,Y⟩:=Nm (xY m.nodes[o].kids);rw[I,J,Y] at j;rw[I] at ck;rw[J] at H;have g7:o<v+1:=by have:=y.out;omega
   have kg:kv.ownBlock≠some u:=λe=>Yh j f (by decide) e rfl;have kb:kv.ownBlock≠some b:=jQ j i.blk (by decide)
   obtain⟨ka,kc,rfl⟩:∃a c,kv = .slice a z c:=by
    rcases j.2 with ⟨rfl,rfl⟩|⟨g,c,cur,rfl,_⟩
    ·exact⟨_,_,rfl⟩
    ·exact⟨_,_,rfl⟩
   have e6:u<wc.heap.size:=(f.lt u rfl).2;have e5:b<wc.heap.size:=zy i.blk;have g3:base<=wc.heap.size:=qZ i.hb (XP e5);obtain⟨j0,d7,e1,e2,e3⟩:=qP Tryz.infoInt;have c6:=hid K;have c8:=hid L;have a5:=hid I;have c5:=hid J;have c3:=hid Y;have c4:=hid E;have T:=hid C;have HO:=hid ho;clear i W ownO E B K L I J Y C D f b1 a7 b2 b3;have o0:(0:Int)<=(o:Int):=zZ _;have o1:(o:Int)<(v:Int)+1:=by omega
   have S:Hid (∀(O:Obj) (P r:Nat) (G:World),G.ownsRow base 3 1 (.slice (some ⟨P,0,none⟩) (z+1) r) (z+1) (ks++[.int .i64 (v:Int)])->(wc.alloc O).drew.drew.grownBy G (Value.slice ka z kc).ownBlock ->
     ((Value.slice ka z kc).ownBlock=some P\/P=wc.heap.size+1)->Below base w (G.setCell ⟨u,o*4+3,none⟩ (.slice (some ⟨P,0,none⟩) (z+1) r)) /\
     ∃a2 a3,zP (G.setCell ⟨u,o*4+3,none⟩ (.slice (some ⟨P,0,none⟩) (z+1) r)) base b (Ref.lay m ⟨kind,text,[],[]⟩) (.slice (some ⟨go,0,none⟩) (q+1) oc) a2 a3):=by
    intro O P r G x d A;have V:Below wc.heap.size wc (wc.alloc O).drew.drew:=(nbl wc O).drew.drew;have hX:=U.out.below V
    have hr:=zP.xV hX o _ _ c6.out c8.out (w1:=G) (kv := .slice (some ⟨P,0,none⟩) (z+1) r) (by rw[a5.out];exact d) v (by rw[c5.out,c3.out];exact x)
     (by rw[a5.out];rcases A with e|e
         ·exact .inl e.symm
         ·right;simp[Value.ownBlock,e]) u (v+1) cap rfl
    refine⟨((a4.out.trans (V.mono (by omega))).grown d (by have:=V.size;omega) (λk d8=>(j.lt k d8).1)).setCell (U.out.ownN.lt u rfl).1 _,?_⟩
    have e:Ref.lay m ⟨kind,text,[],[]⟩={ m with nodes:=Ref.xV o v (m.nodes++[⟨kind,text,[],[]⟩]) }:=by
     unfold Ref.lay;rw[za (by rw[c4.out];simp),T.out,y.out]
    rw[e];exact⟨_,_,hr⟩
   go_wp2_with fail
   go_region
   have d1:=λO:Obj=>zi (nbl wc O) cN;have d2:=λO:Obj=>zi (nbl wc O) ck;have d5:=λO:Obj=>((nbl wc O).frozen (p:=⟨u,o*4+3,none⟩) e6).trans fk;go_wp2_with fail
   go_region_law ((refine UU _ (by rfl) _ _ _ (by rfl) base 3 j0 _ 1 8 underlying24 d7 e1 e2 e3 rfl (by omega) (.slice ka z kc) z ks (by rfl) ((j.alloc _).drew.drew) ⟨wc.heap.size,0,none⟩ 1 1 [.int .i64 (v:Int)] (by rfl) (by rfl) (KA (cs:=#[.int .i64 (v:Int)]) (t:=3) (fr:=(0,0)) (zQ wc _)) (by simp[Value.oneCell']) (by omega) (by unfold maxLen;omega) (by omega) (by simp;omega) (wc.heap.size+1) (by simp) ?_;intro P r G x d A f1;have h2:G.cell? ⟨b,2,none⟩=some (.slice (some ⟨u,0,none⟩) (v+1) cap):=(d.cell_far _ (by simp;omega) (ja kb)).trans (by simp[d1]);have e4:G.cell? ⟨u,o*4+3,none⟩=some (.slice ka z kc):=(d.cell_far _ (by simp;omega) (ja kg)).trans (by simp[d2]);have d4:G.frozen? ⟨u,o*4+3,none⟩=false:=(d.frozen_far _ (by simp;omega) (ja kg)).trans (by simp[d5])))
   all_goals
    go_wp2
    go_ret;exact⟨rfl,S.out _ _ _ _ x d A⟩
attribute [local go_sem ↓] Go.wp_at_zero Go.wp_at_succ
def Stepped(base b:Nat)(r:Int×Ref.zl)(w:World)(e:Ending)(w':World):Prop:=
 e = .returned (.int .i64 r.1)/\Below base w w'/\(r.1=0->∃c a d,zP w' base b r.2 c a d)
structure Small (m:Ref.zl):Prop where
 nodes:m.nodes.length<=100000
 opn:m.opn.length<=100000
 kids:∀n ∈ m.nodes,n.kids.length<=100000
 names:∀n ∈ m.nodes,n.names.length<=100000
 got:m.got.size<=1000000
 top:∀o ∈ m.opn,o<m.nodes.length
theorem zP.drew{w:World}{base b:Nat}{m:Ref.zl}{c a:Value}{d:List (Value×Value)}(h:zP w base b m c a d):zP w.drew base b m c a d:=h.below (zf _ _).drew
theorem zP.top{w:World}{base b:Nat}{m:Ref.zl}{y x:Value}{f:List (Value×Value)}(h:zP w base b m y x f)(u:∀o ∈ m.opn,o<m.nodes.length)(s:m.opn≠[]) :
  ∃(o q j r d cap:Nat) (n:Ref.Node) (v:Value×Value),m.opn.length=q+1/\m.opn.getLastD 0=o/\o<m.nodes.length/\y = .slice (some ⟨j,0,none⟩) (q+1) r/\x = .slice (some ⟨d,0,none⟩) m.nodes.length cap /\
   m.nodes[o]?=some n/\f[o]?=some v/\w.cell? ⟨j,q,none⟩=some (.int .i64 (o:Int))/\w.cell? ⟨d,o*4,none⟩=some (.int .i64 n.kind)/\w.cell? ⟨d,o*4+2,none⟩=some v.1/\w.cell? ⟨d,o*4+3,none⟩=some v.2 /\
   (∀k,w.frozen? ⟨d,k,none⟩=false)/\q+1<=r/\d<w.heap.size/\base<=d:=by
 obtain⟨l,o,e⟩:∃l o,m.opn=l++[o]:=by
  rcases List.eq_nil_or_concat m.opn with h|⟨l,o,h⟩
  ·exact absurd h s
  ·exact⟨l,o,by rw[h,List.concat_eq_append]⟩
 have p:o<m.nodes.length:=u o (by rw[e];simp);have ownO:=h.ownO;have hlen:m.opn.length=l.length+1:=by rw[e];simp
 rw[hlen] at ownO
 obtain⟨j,r,rfl,t⟩:∃g c,y = .slice (some ⟨g,0,none⟩) (l.length+1) c/\l.length+1<=c:=by
  rcases ownO.2 with ⟨_,h⟩|⟨g,c,cur,rfl,_,_,h,_⟩
  ·omega
  ·exact⟨_,_,rfl,h⟩
 obtain⟨d,cap,rfl⟩:∃g c,x = .slice (some ⟨g,0,none⟩) m.nodes.length c:=by
  rcases h.ownN.2 with ⟨_,h⟩|⟨g,c,cur,rfl,_⟩
  ·omega
  ·exact⟨_,_,rfl⟩
 have i:o<f.length:=by rw[h.len];exact p
 have a:=Us m.nodes f h.len o m.nodes[o] f[o] (zn p) (zn i);have z:=h.ownN.lt d rfl;refine⟨o,l.length,j,r,d,cap,m.nodes[o],f[o],hlen,by rw[e];simp,p,rfl,rfl,zn p,zn i,?_,(h.ownN.cellAt _ (by omega)).trans a.1,(h.ownN.cellAt _ (by omega)).trans a.2.2.1,(h.ownN.cellAt _ (by omega)).trans a.2.2.2,λk=>h.ownN.frozenAt k,t,z.2,z.1⟩;rw[ownO.cellAt l.length (by omega),e];unfold xY;rw[vz,xZ (by omega)]
 simp
theorem lg(m:Ref.zl)(x:Int)(base b:Nat)(G P:Value)(E:List (Value×Value))(w:World)(h:zP w base b m G P E)(r:Small m) :
  Calls prog 209 #[.pointer (some ⟨b,0,none⟩),.int .u8 x] w (Stepped base b (Ref.xx m x) w):=by
 obtain⟨R,i⟩:=Nm (Ref.xx m x);rw[i];unfold Ref.xx at i
 by_cases hnil:m.opn=[]
 ·rw[zb hnil] at i;subst i;have ownO:=h.ownO;rw[hnil] at ownO
  obtain⟨H,l,rfl⟩:∃a c,G = .slice a 0 c:=by
   rcases ownO.2 with ⟨rfl,_⟩|⟨g,c,cur,rfl,_⟩
   ·exact⟨_,_,rfl⟩
   ·exact⟨_,_,rfl⟩
  have c1:w.cell? ⟨b,1,none⟩=some (.slice H 0 l):=(h.cell 1).1;clear ownO h r hnil;go_enter func209,ntmps209
  go_wp2
  go_ret;exact⟨rfl,zf _ _,by simp⟩
 ·rw[za hnil] at i;obtain⟨o,q,u,l,A,cap,n,v,y,e,L,rfl,rfl,F,N,T,I,_,_,V,M,O,K⟩:=h.top r.top hnil;have B:=r.nodes;have s:Ref.uf m=n.kind:=by unfold Ref.uf;rw[e,F];rfl
  rw[s] at i;have C:=r.opn;rw[y] at C;obtain⟨z,k⟩:=Nm m.nodes.length;rw[k] at L B;obtain⟨D,p⟩:=Nm n.kind;rw[p] at i I;have c1:w.cell? ⟨b,1,none⟩=some (.slice (some ⟨u,0,none⟩) (q+1) l):=(h.cell 1).1;have S:w.cell? ⟨b,2,none⟩=some (.slice (some ⟨A,0,none⟩) z cap):=by rw[<- k];exact (h.cell 2).1
  have f1:w.frozen? ⟨b,1,none⟩=false:=(h.cell 1).2;have Q:w.cell? ⟨b,0,none⟩=some (.int .i64 m.state):=(h.cell 0).1;have U:w.frozen? ⟨b,0,none⟩=false:=(h.cell 0).2;have W:(0:Int)<=(o:Int):=zZ _;have X:(o:Int)<(z:Int):=by omega
  have f:Hid (zP ((w.setCell ⟨b,1,none⟩ (.slice (some ⟨u,0,none⟩) q l)).setCell ⟨b,0,none⟩ (.int .i64 6)) base b { m with opn:=m.opn.dropLast,state:=6 } (.slice (some ⟨u,0,none⟩) q l) (.slice (some ⟨A,0,none⟩) m.nodes.length cap) E):=by
   have J:zP w base b m (.slice (some ⟨u,0,none⟩) m.opn.length l) (.slice (some ⟨A,0,none⟩) m.nodes.length cap) E:=by rw[y];exact h
   have:=J.pop 6
   rw[y,fJ] at this;exact this
  have t:=hid h.hb;have j:=hid i;clear h r hnil e F N s p k i y
  cases hk:(D==1) with
  | true=>
   cases hx:(x==125) with
   | true=>
    have d:=j.out;rw[hk,hx] at d;rw[za (by decide)] at d;subst d;clear j;go_enter func209,ntmps209;go_wp2_with fail
    go_region
    go_wp2_with fail
    go_region
    all_goals
     go_wp2
     go_ret;exact⟨rfl,((((zf _ w).setCell t.out _).setCell t.out _).drew).drew,λ_=>⟨_,_,_,f.out.drew.drew⟩⟩
   | false=>
    have d:=j.out;rw[hk,hx] at d;rw[zb (by decide)] at d;subst d;clear j f;go_enter func209,ntmps209;go_wp2_with fail
    go_region
    all_goals
     go_wp2
     go_ret;exact⟨rfl,(zf _ w).drew,by simp⟩
  | false=>
   cases hx:(x==125) with
   | true=>
    have d:=j.out;rw[hk,hx] at d;rw[zb (by decide)] at d;subst d;clear j f;go_enter func209,ntmps209;go_wp2_with fail
    go_region
    all_goals
     go_wp2
     go_ret;exact⟨rfl,(zf _ w).drew,by simp⟩
   | false=>
    have d:=j.out;rw[hk,hx] at d;rw[za (by decide)] at d;subst d;clear j;go_enter func209,ntmps209;go_wp2_with fail
    go_region
    go_wp2_with fail
    go_region
    all_goals
     go_wp2
     go_ret;exact⟨rfl,((((zf _ w).setCell t.out _).setCell t.out _).drew).drew,λ_=>⟨_,_,_,f.out.drew.drew⟩⟩
attribute [local go_sem ↓] Go.wp_at_zero Go.wp_at_succ
theorem wI(m:Ref.zl)(x:Int)(base b:Nat)(ov nv:Value)(vs:List (Value×Value))(w:World)(h:zP w base b m ov nv vs)(k:Small m) :
  Calls prog 208 #[.pointer (some ⟨b,0,none⟩),.int .u8 x] w (Stepped base b (Ref.after m x) w):=by
 obtain⟨R,f⟩:=Nm (Ref.after m x);rw[f];unfold Ref.after at f;have c0:w.cell? ⟨b,0,none⟩=some (.int .i64 m.state):=(h.cell 0).1;have f0:w.frozen? ⟨b,0,none⟩=false:=(h.cell 0).2;have c1:w.cell? ⟨b,1,none⟩=some ov:=(h.cell 1).1;obtain⟨st,j⟩:=Nm m.state;rw[j] at c0 f;have z:=hid h.hb
 by_cases h5:st=5
 ·have O:(st==5)=true:=by simp[h5]
  by_cases hx:x=58
  ·rw[zb ⟨h5,hx⟩] at f;subst f;have p:(x==58)=true:=by simp[hx]
   have L:=hid (h.store 0 (.int .i64 1) (m':={ m with state:=1 }) rfl rfl rfl)
   clear h k h5 hx j;go_enter func208,ntmps208
   go_wp2
   go_ret;exact⟨rfl,(zf _ w).setCell z.out _,λ_=>⟨_,_,_,L.out⟩⟩
  ·rw[za (λe=>hx e.2),zb (.inl h5)] at f;subst f;have p:(x==58)=false:=by simp[hx]
   clear h k h5 hx j;go_enter func208,ntmps208
   go_wp2
   go_ret;exact⟨rfl,zf _ w,by simp⟩
 have O:(st==5)=false:=by simp[h5]
 rw[za (λe=>h5 e.1)] at f
 by_cases hnil:m.opn=[]
 ·rw[zb (.inr hnil)] at f;subst f;have ownO:=h.ownO;rw[hnil] at ownO
  obtain⟨ao,oc,rfl⟩:∃a c,ov = .slice a 0 c:=by
   rcases ownO.2 with ⟨rfl,_⟩|⟨g,c,cur,rfl,_⟩
   ·exact⟨_,_,rfl⟩
   ·exact⟨_,_,rfl⟩
  clear h k h5 j hnil ownO;go_enter func208,ntmps208
  go_wp2
  go_ret;exact⟨rfl,zf _ w,by simp⟩
 rw[za (λe=>e.elim h5 hnil)] at f;have ht:=h.top k.top hnil;obtain⟨o,q,go,oc,gg,cap,n,v,B,d,ho,rfl,rfl,y,I,G,F,_,_,H,c2,c6,b7⟩:=ht;have W:=k.opn;rw[B] at W
 by_cases hx1:x=125\/x=93
 ·rw[zb hx1] at f;subst f;have HM:=hid h;have HS:=hid k
  have p:(x==125)=true\/(x==125)=false/\(x==93)=true:=by
   rcases hx1 with e|e
   ·exact .inl (by simp[e])
   ·exact .inr ⟨by simp[e],by simp[e]⟩
  clear h k h5 j hnil hx1 d y I B G F H
  rcases p with p|⟨p,Y⟩
  all_goals
   go_enter func208,ntmps208;go_wp2_with fail;refine (lg m x base b _ _ _ _ HM.out HS.out).mono ?_;rintro e w1 ⟨rfl,P,A⟩;have M:=hid A;clear A
   go_wp2
   go_ret;exact⟨rfl,P,M.out⟩
 rw[za hx1] at f;have c5:(x==125)=false:=by simp;omega
 have Y:(x==93)=false:=by simp;omega
 by_cases hx2:x=44
 ·rw[za (by simp[hx2])] at f;have Z:(x != 44)=false:=by simp[hx2]
  have s:=h.store 0 (.int .i64 1) (m':={ m with state:=1 }) rfl rfl rfl
  have u:Ref.uf m=n.kind:=by unfold Ref.uf;rw[d,y];rfl
  rw[u] at f;have X:=s.top k.top hnil;obtain⟨o',q',go',c8,b5,a2,n',v',C,i,b9,e1,e2,l,D,b3,N,_,_,_,_,_,_⟩:=X;simp only[Value.slice.injEq,Option.some.injEq,Addr.mk.injEq,and_true] at e1 e2;obtain⟨rfl,c3,rfl⟩:=e1;obtain⟨rfl,_,rfl⟩:=e2;have V:q'=q:=by omega
  subst V;have U:o'=o:=by rw[<- d,<- i]
  subst U;have S:n'=n:=by simp only at l;rw[y] at l;simpa using l.symm
  subst S;obtain⟨J,r⟩:=Nm m.nodes.length;have T:=k.nodes;have d1:(w.setCell ⟨b,0,none⟩ (.int .i64 1)).cell? ⟨b,1,none⟩=some (.slice (some ⟨go,0,none⟩) (q'+1) oc):=(s.cell 1).1;have d2:(w.setCell ⟨b,0,none⟩ (.int .i64 1)).cell? ⟨b,2,none⟩=some (.slice (some ⟨gg,0,none⟩) J cap):=by rw[<- r];exact (s.cell 2).1
  have d0:(w.setCell ⟨b,0,none⟩ (.int .i64 1)).cell? ⟨b,0,none⟩=some (.int .i64 1):=(s.cell 0).1;rw[r] at ho T;have o0:(0:Int)<=(o':Int):=zZ _;have o1:(o':Int)<(J:Int):=by omega
  obtain⟨E,t⟩:=Nm (n'.kind);rw[t] at N f;have F1:=hid s;have K:=hid (h.store 0 (.int .i64 4) (m':={ m with state:=4 }) rfl rfl rfl)
  have F4:=hid (s.store 0 (.int .i64 4) (m':={ m with state:=4 }) rfl rfl rfl)
  by_cases hk:E=1
  ·rw[zb hk] at f;subst f;have Q:(E==1)=true:=by simp[hk]
   clear h k h5 j hnil hx1 hx2 d y I B G F H s C i l D u t r hk;go_enter func208,ntmps208;go_wp2_with fail
   go_region
   all_goals
    go_wp2
    go_ret
    first
     | exact⟨rfl,(((zf _ w).setCell z.out _).setCell z.out _).drew,λ_=>⟨_,_,_,F4.out.drew⟩⟩
     | exact⟨rfl,((zf _ w).setCell z.out _).drew,λ_=>⟨_,_,_,K.out.drew⟩⟩
  ·rw[za hk] at f;subst f;have Q:(E==1)=false:=by simp[hk]
   clear h k h5 j hnil hx1 hx2 d y I B G F H s C i l D u t r hk;go_enter func208,ntmps208;go_wp2_with fail
   go_region
   all_goals
    go_wp2
    go_ret;exact⟨rfl,((zf _ w).setCell z.out _).drew,λ_=>⟨_,_,_,F1.out.drew⟩⟩
 ·rw[zb hx2] at f;subst f;have Z:(x != 44)=true:=by simp[hx2]
  clear h k h5 j hnil hx1 hx2 d y I B G F H;go_enter func208,ntmps208
  go_wp2
  go_ret;exact⟨rfl,zf _ w,by simp⟩
theorem YX(m:Ref.zl)(n:Ref.Node):(Ref.lay m n).opn=m.opn:=by unfold Ref.lay;split<;>rfl
theorem JZ(m:Ref.zl)(kind:Int)(text:BY)(base b:Nat)(d g:Value)(i:List (Value×Value))(w:World)(h:zP w base b m d g i)(a:Small m) :
  Calls prog 237 #[.pointer (some ⟨b,0,none⟩),.agg #[.int .i64 kind,.string text,.slice none 0 0,.slice none 0 0]] w λe w'=>
   e = .returned (.int .i64 (m.nodes.length:Nat))/\Below base w w'/\∃c f,zP w' base b (Ref.lay m ⟨kind,text,[],[]⟩) d c f:=
 IG m kind text base b d g i w h (qZ h.hb (XP (zy h.blk))) a.nodes a.kids a.top a.opn
theorem Aw(m:Ref.zl)(x:Int)(base b:Nat)(ov nv:Value)(vs:List (Value×Value))(w:World)(h:zP w base b m ov nv vs)(o:Small m) :
  Calls prog 210 #[.pointer (some ⟨b,0,none⟩),.int .u8 x] w (Stepped base b (Ref.jf m x) w):=by
 obtain⟨R,n⟩:=Nm (Ref.jf m x);rw[n];unfold Ref.jf at n;have v:=hid h.hb;have X:w.cell? ⟨b,0,none⟩=some (.int .i64 m.state):=(h.cell 0).1;have Z:w.frozen? ⟨b,0,none⟩=false:=(h.cell 0).2;have c1:w.cell? ⟨b,1,none⟩=some ov:=(h.cell 1).1;have lb:b<w.heap.size:=zy h.blk
 by_cases h1:x=123\/x=91
 ·rw[zb h1] at n;have ownO:=h.ownO;obtain⟨q,E⟩:=Nm m.opn.length;rw[E] at ownO n
  obtain⟨G,H,rfl⟩:∃a c,ov = .slice a q c:=by
   rcases ownO.2 with ⟨rfl,rfl⟩|⟨g,c,cur,rfl,_⟩
   ·exact⟨_,_,rfl⟩
   ·exact⟨_,_,rfl⟩
  by_cases h8:8<=q
  ·rw[zb h8] at n;subst n;have b9:decide (8<=(q:Int))=true:=by simp;omega
   have B:(x==123)=true\/(x==123)=false/\(x==91)=true:=by
    rcases h1 with e|e
    ·exact .inl (by simp[e])
    ·exact .inr ⟨by simp[e],by simp[e]⟩
   have D:=o.opn;rw[E] at D;clear h o h1 ownO E
   rcases B with B|⟨B,N⟩
   all_goals
    go_enter func210,ntmps210
    go_wp2
    go_ret;exact⟨rfl,zf _ _,by simp⟩
  ·rw[za h8] at n;have b9:decide (8<=(q:Int))=false:=by simp;omega
   obtain⟨j0,a3,a6,a7,a8⟩:=qP Tryz.infoInt
   rcases h1 with h1|h1
   ·have B:(x==123)=true:=by simp[h1]
    have N:(x==91)=false:=by simp[h1]
    rw[za (by omega),za (by omega)] at n;have hM:=(h.store 0 (.int .i64 3) (m':={ m with state:=3 }) rfl rfl rfl)
    have J:=hid hM;have M:Hid (Small { m with state:=3 }):=⟨o.nodes,o.opn,o.kids,o.names,o.got,o.top⟩
    have V:=hid n;have U:=hid E;have D:=o.opn;rw[E] at D;clear h o h1 ownO hM n E;go_enter func210,ntmps210;go_wp2_with fail;refine (JZ { m with state:=3 } 1 ⟨#[]⟩ base b (.slice G q H) nv vs _ ?_ M.out).mono ?_
    ·exact J.out.below (nbl _ _)
    rintro e j ⟨rfl,r,P,S,d⟩;have W:Below base w j:=((((zf _ w).setCell v.out _).alloc (by simp[World.setCell];have:=v.out;omega) _)).trans r;have Y:j.cell? ⟨b,1,none⟩=some (.slice G q H):=(d.cell 1).1;have g1:j.frozen? ⟨b,1,none⟩=false:=(d.cell 1).2;have f:=d.ownO;rw[YX] at f;simp only at f;rw[U.out] at f;obtain⟨Q,s⟩:∃l,xY m.opn=l:=⟨_,rfl⟩;rw[s] at f;obtain⟨F,A⟩:=Nm m.nodes.length;have O:b<j.heap.size:=zy d.blk;have C:=hid d;have L:=hid s;have K:=hid A;simp only[A];clear d s A r X Z c1 lb;have ob:(Value.slice G q H).ownBlock≠some b:=jQ f C.out.blk (by decide)
    go_wp2_with (at_builtin;refine Xa _ rfl _ _ 24 rfl base 3 j0 (.int .i64 0) 1 8 underlying24 a3 a6 a7 a8 rfl (by decide) _ q Q rfl (f.alloc _) ⟨j.heap.size,0,none⟩ 1 1 [.int .i64 (F:Int)] rfl rfl ?_ ?_ ?_ ?_ ?_ ?_)
    ·exact JH _ _ _
    ·intro u hu;simp at hu;subst hu;rfl
    ·unfold maxLen;omega
    ·omega
    ·have:=v.out;simp;omega
    intro v' T t i _ z
    obtain⟨g3,c3,rfl⟩:∃g c,v' = .slice (some ⟨g,0,none⟩) (q+1) c:=by
     rcases t.2 with ⟨_,h⟩|⟨g,c,cur,rfl,_⟩
     ·omega
     ·exact⟨_,_,rfl⟩
    have e1:T.cell? ⟨b,1,none⟩=some (.slice G q H):=(i.cell_far _ (by simp;omega) (ja ob)).trans (zi (nbl j _) Y);have e2:T.frozen? ⟨b,1,none⟩=false:=(i.frozen_far _ (by simp;omega) (ja ob)).trans (((nbl j _).frozen (p:=⟨b,1,none⟩) O).trans g1);have y:=hid (zP.push (C.out.below (nbl j _)) i F (by rw[YX];simp only;rw[U.out,L.out];exact t) (by simpa using z));have B3:Hid (Below base w (T.setCell ⟨b,1,none⟩ (.slice (some ⟨g3,0,none⟩) (q+1) c3))):=((W.trans (((zf base j).alloc (by have:=v.out;omega) _))).grown i (by simp;have:=v.out;omega) (λk hk=>(f.lt k hk).1)).setCell v.out _;have hr:=V.out;subst hr;clear V t i z f Y g1 W
    go_wp2
    go_ret;refine⟨rfl,B3.out,λ_=>?_⟩;have hf:=y.out;rw[YX] at hf;rw[K.out];exact⟨_,_,_,hf⟩
   ·have B:(x==123)=false:=by simp[h1]
    have N:(x==91)=true:=by simp[h1]
    rw[zb h1,zb h1] at n;have hM:=((h.store 0 (.int .i64 3) (m':={ m with state:=3 }) rfl rfl rfl).store 0 (.int .i64 2) (m':={ m with state:=2 }) rfl rfl rfl)
    have J:=hid hM;have M:Hid (Small { m with state:=2 }):=⟨o.nodes,o.opn,o.kids,o.names,o.got,o.top⟩
    have V:=hid n;have U:=hid E;have D:=o.opn;rw[E] at D;clear h o h1 ownO hM n E;go_enter func210,ntmps210;go_wp2_with fail;refine (JZ { m with state:=2 } 2 ⟨#[]⟩ base b (.slice G q H) nv vs _ ?_ M.out).mono ?_
    ·exact J.out.below (nbl _ _)
    rintro e j ⟨rfl,r,P,S,d⟩;have W:Below base w j:=(((((zf _ w).setCell v.out _).setCell v.out _).alloc (by simp[World.setCell];have:=v.out;omega) _)).trans r;have Y:j.cell? ⟨b,1,none⟩=some (.slice G q H):=(d.cell 1).1;have g1:j.frozen? ⟨b,1,none⟩=false:=(d.cell 1).2;have f:=d.ownO;rw[YX] at f;simp only at f;rw[U.out] at f;obtain⟨Q,s⟩:∃l,xY m.opn=l:=⟨_,rfl⟩;rw[s] at f;obtain⟨F,A⟩:=Nm m.nodes.length;have O:b<j.heap.size:=zy d.blk;have C:=hid d;have L:=hid s;have K:=hid A;simp only[A];clear d s A r X Z c1 lb;have ob:(Value.slice G q H).ownBlock≠some b:=jQ f C.out.blk (by decide)
    go_wp2_with (at_builtin;refine Xa _ rfl _ _ 24 rfl base 3 j0 (.int .i64 0) 1 8 underlying24 a3 a6 a7 a8 rfl (by decide) _ q Q rfl (f.alloc _) ⟨j.heap.size,0,none⟩ 1 1 [.int .i64 (F:Int)] rfl rfl ?_ ?_ ?_ ?_ ?_ ?_)
    ·exact JH _ _ _
    ·intro u hu;simp at hu;subst hu;rfl
    ·unfold maxLen;omega
    ·omega
    ·have:=v.out;simp;omega
    intro v' T t i _ z
    obtain⟨g3,c3,rfl⟩:∃g c,v' = .slice (some ⟨g,0,none⟩) (q+1) c:=by
     rcases t.2 with ⟨_,h⟩|⟨g,c,cur,rfl,_⟩
     ·omega
     ·exact⟨_,_,rfl⟩
    have e1:T.cell? ⟨b,1,none⟩=some (.slice G q H):=(i.cell_far _ (by simp;omega) (ja ob)).trans (zi (nbl j _) Y);have e2:T.frozen? ⟨b,1,none⟩=false:=(i.frozen_far _ (by simp;omega) (ja ob)).trans (((nbl j _).frozen (p:=⟨b,1,none⟩) O).trans g1);have y:=hid (zP.push (C.out.below (nbl j _)) i F (by rw[YX];simp only;rw[U.out,L.out];exact t) (by simpa using z));have B3:Hid (Below base w (T.setCell ⟨b,1,none⟩ (.slice (some ⟨g3,0,none⟩) (q+1) c3))):=((W.trans (((zf base j).alloc (by have:=v.out;omega) _))).grown i (by simp;have:=v.out;omega) (λk hk=>(f.lt k hk).1)).setCell v.out _;have hr:=V.out;subst hr;clear V t i z f Y g1 W
    go_wp2
    go_ret;refine⟨rfl,B3.out,λ_=>?_⟩;have hf:=y.out;rw[YX] at hf;rw[K.out];exact⟨_,_,_,hf⟩
 rw[za h1] at n;have B:(x==123)=false:=by simp;omega
 have N:(x==91)=false:=by simp;omega
 by_cases hx34:x=34
 ·rw[zb hx34] at n;subst n;have a5:(x==34)=true:=by simp[hx34]
  have c3:w.cell? ⟨b,3,none⟩=some (.bool m.named):=(h.cell 3).1;have f3:w.frozen? ⟨b,3,none⟩=false:=(h.cell 3).2;have c4:w.cell? ⟨b,4,none⟩=some (.string m.got):=(h.cell 4).1;have f4:w.frozen? ⟨b,4,none⟩=false:=(h.cell 4).2;have y:=hid (((h.store 0 (.int .i64 8) (m':={ m with state:=8 }) rfl rfl rfl).store 3 (.bool false) (m':={ m with state:=8,named:=false }) rfl rfl rfl).store 4 (.string ⟨#[]⟩) (m':={ m with state:=8,named:=false,got:=⟨#[]⟩ }) rfl rfl rfl)
  clear h o h1 hx34;go_enter func210,ntmps210
  go_wp2
  go_ret;exact⟨rfl,(((zf _ w).setCell v.out _).setCell v.out _).setCell v.out _,λ_=>⟨_,_,_,y.out⟩⟩
 rw[za hx34] at n;have c6:(x==34)=false:=by simp[hx34]
 by_cases hx116:x=116
 ·rw[zb hx116] at n;subst n;have a5:(x==116)=true:=by simp[hx116]
  have J:=hid h;have HS:=hid o;clear h o h1 hx116 X Z c1 lb hx34;go_enter func210,ntmps210;go_wp2_with fail;refine (JZ m 4 ⟨#[]⟩ base b ov nv vs _ J.out HS.out).mono ?_;rintro e j ⟨rfl,r,P,S,d⟩;have d0:j.cell? ⟨b,0,none⟩=some (.int .i64 (Ref.lay m ⟨4,⟨#[]⟩,[],[]⟩).state):=(d.cell 0).1;have g0:j.frozen? ⟨b,0,none⟩=false:=(d.cell 0).2;have d9:j.cell? ⟨b,9,none⟩=some (.string (Ref.lay m ⟨4,⟨#[]⟩,[],[]⟩).word):=(d.cell 9).1;have g9:j.frozen? ⟨b,9,none⟩=false:=(d.cell 9).2;have y:=hid ((d.store 0 (.int .i64 7) (m':={ Ref.lay m ⟨4,⟨#[]⟩,[],[]⟩ with state:=7 }) rfl rfl rfl).store 9 (.string ⟨#[114,117,101]⟩) (m':={ Ref.lay m ⟨4,⟨#[]⟩,[],[]⟩ with state:=7,word:=⟨#[114,117,101]⟩ }) rfl rfl rfl)
  have I:=hid r;clear d r
  go_wp2
  go_ret;exact⟨rfl,(I.out.setCell v.out _).setCell v.out _,λ_=>⟨_,_,_,y.out⟩⟩
 rw[za hx116] at n;have b5:(x==116)=false:=by simp[hx116]
 by_cases hx102:x=102
 ·rw[zb hx102] at n;subst n;have a5:(x==102)=true:=by simp[hx102]
  have J:=hid h;have HS:=hid o;clear h o h1 hx102 X Z c1 lb hx34 hx116;go_enter func210,ntmps210;go_wp2_with fail;refine (JZ m 5 ⟨#[]⟩ base b ov nv vs _ J.out HS.out).mono ?_;rintro e j ⟨rfl,r,P,S,d⟩;have d0:j.cell? ⟨b,0,none⟩=some (.int .i64 (Ref.lay m ⟨5,⟨#[]⟩,[],[]⟩).state):=(d.cell 0).1;have g0:j.frozen? ⟨b,0,none⟩=false:=(d.cell 0).2;have d9:j.cell? ⟨b,9,none⟩=some (.string (Ref.lay m ⟨5,⟨#[]⟩,[],[]⟩).word):=(d.cell 9).1;have g9:j.frozen? ⟨b,9,none⟩=false:=(d.cell 9).2;have y:=hid ((d.store 0 (.int .i64 7) (m':={ Ref.lay m ⟨5,⟨#[]⟩,[],[]⟩ with state:=7 }) rfl rfl rfl).store 9 (.string ⟨#[97,108,115,101]⟩) (m':={ Ref.lay m ⟨5,⟨#[]⟩,[],[]⟩ with state:=7,word:=⟨#[97,108,115,101]⟩ }) rfl rfl rfl)
  have I:=hid r;clear d r
  go_wp2
  go_ret;exact⟨rfl,(I.out.setCell v.out _).setCell v.out _,λ_=>⟨_,_,_,y.out⟩⟩
 rw[za hx102] at n;have b4:(x==102)=false:=by simp[hx102]
 subst n;clear h o h1 hx34 hx116 hx102 X Z c1 lb;go_enter func210,ntmps210
 go_wp2
 go_ret;exact⟨rfl,zf _ w,by simp⟩
end Go.Proofs.YtagnlbgbnfnapaaGreatDoor
