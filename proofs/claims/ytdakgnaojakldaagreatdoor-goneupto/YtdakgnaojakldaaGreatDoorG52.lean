/- P -/
import Derived.Test.YtdakgnaojakldaaGreatDoorG51
open Go.Proofs.Tryz
set_option maxRecDepth 100000
set_option maxHeartbeats 8000000
namespace Go.Proofs.YtdakgnaojakldaaGreatDoor
open Go.RowKit
theorem ql.moved{M N:Nat->Prop}{W d:World}{a:Nat}{st:StO}(h:ql M W a st)(f:zu N W d)(c:¬N a)(j:∀b,N b->M b):ql M d a st:=by
 obtain⟨m,e,g⟩:=h.row;exact⟨h.mine,⟨m,(f.block a (lt_of_block e) c).trans e,λi hi=>(g i hi).turn (f.wide (λk _ l=>j k l))⟩,h.good⟩
structure x8 (w wr:World) (oa:Nat) (M:Nat->Prop) (st:StO):Prop where
 below:Below w.heap.size w wr
 a:ql M wr oa st
 old:w.heap.size<=oa
 top:oa<wr.heap.size
theorem x8.step{w wr b:World}{c:Nat}{M:Nat->Prop}{st:StO}(h:x8 w wr c M st)(hb:Below wr.heap.size wr b):x8 w b c M st:=
 ⟨h.below.trans (hb.mono h.below.size),h.a.below hb,h.old,Nat.lt_of_lt_of_le h.top hb.size⟩
theorem x8.put{w wr a:World}{c:Nat}{M:Nat->Prop}{st d:StO}(h:x8 w wr c M st)(f:zu (λb=>b=c) wr a)(g:ql M a c d):x8 w a c M d:=
 ⟨h.below.trans (f.below (λk hk (e:k=c)=>by have:=h.old;omega) h.below.size),g,h.old,Nat.lt_of_lt_of_le h.top f.size⟩
def Mv(a:Nat)(v:Value)(b:Nat):Prop:=b=a\/v.ownBlock=some b
theorem x8.grow{w wr g:World}{f B:Nat}{v i:Value}{st:StO}(h:x8 w wr f (Mv f v) st)(d:wr.grownBy g v.ownBlock)(p:i.ownBlock=v.ownBlock\/i.ownBlock=some wr.heap.size)(q:f<B)(hb:∀k,v.ownBlock=some k->B<=k):x8 w g f (Mv f i) st:=by
 have o:zu (λb=>v.ownBlock=some b) wr g:=⟨d.os,d.tape,d.output,d.size,λk j l=>d.block k j (λe=>l e.symm)⟩;refine⟨h.below.grown d h.below.size (λk j=>by have:=hb k j;have:=h.old;omega),?_,h.old,Nat.lt_of_lt_of_le h.top d.size⟩
 have m:ql (λb=>Mv f v b\/i.ownBlock=some b) wr f st:=h.a.more (λb c=>by
  rcases c with h|h
  ·exact .inl h
  ·rcases p with e|e
   ·exact .inl (.inr (e.symm.trans h))
   ·rw[e] at h;injection h with h;exact .inr (by omega)) (.inl (.inl rfl))
 have n:=m.moved o (λe=>by have:=hb _ e;omega) (λb e => .inl (.inr e));exact n.more (λb c => .inl (c.elim (λe => .inl (.inl e)) .inr)) (.inl rfl)
def kF(w:World)(B:Nat)(lv:Value)(n:Nat)(L:List De.Dec):Prop:=∃a c,lv = .slice a n c/\∀(i:Nat) (d:De.Dec),L[i]?=some d->∃b,a=some ⟨b,0,none⟩/\B<=b/\∀t,t<4->w.cell? ⟨b,i*4+t,none⟩=(yj d)[t]?
theorem kF.own{w:World}{B:Nat}{lv:Value}{L:List De.Dec}(h:w.ownsRow B 48 4 lv L.length (L.flatMap yj)):kF w B lv L.length L:=by
 have a:=h
 rcases h.2 with ⟨e,h0⟩|⟨gb,cap,cur,e,_⟩
 ·have b:L=[]:=List.length_eq_zero_iff.1 h0;subst b;exact⟨none,0,e,λi d hd=>by simp at hd⟩
 ·rw[e] at a;refine⟨some ⟨gb,0,none⟩,cap,e,λi d hd=>⟨gb,rfl,(World.ownsRow.lt a gb (by rfl)).1,λt c=>?_⟩⟩;have hi:i<L.length:=(List.getElem?_eq_some_iff.1 hd).1;rw[World.ownsRow.cellAt a (i*4+t) (by omega),Cn hd t c]
theorem kF.turn{w k:World}{B n:Nat}{lv:Value}{L:List De.Dec}{M:Nat->Prop}(h:kF w B lv n L)(o:zu M w k)(l:∀b,B<=b->¬M b):kF k B lv n L:=by
 obtain⟨a,c,rfl,h⟩:=h;refine⟨a,c,rfl,λi d hd=>?_⟩;obtain⟨g,e,hb,m⟩:=h i d hd;refine⟨g,e,hb,λt j=>?_⟩
 have f:∃v,(yj d)[t]?=some v:=by
  have:t<(yj d).length:=by simp[yj];omega
  exact⟨_,List.getElem?_eq_getElem this⟩
 obtain⟨v,f⟩:=f;rw[f];exact o.cell (x:=⟨g,i*4+t,none⟩) (l g hb) ((m t j).trans f)
theorem FE(l:List Kp.qK)(rules:List Kp.zl)(layer name:Int)(asks:List (List Int))(lv rv av:Value)(aL:Addr)(w:World)(hC:ZU w aL)(hE:qW w)(h:XQ w lv l)(hm:l.length<=maxLen)(hR:kH w rv rules)(q9:rules.length<=maxLen)(q6:I64 layer)(q7:I64 name)(hA:YI w av asks)(hn:asks.length<=1048576) :
  Calls prog 10 #[lv,rv,.int .i64 layer,.int .i64 name,av] w λe w'=>e = .returned (.bool true)/\Below w.heap.size w w':=by
 have co:=λ(W:World) (hb:Below w.heap.size w W)=>Nc l lv aL W (hC.below hb) (h.below hb) hm;obtain⟨hG,hM⟩:=Kp.MX l;obtain⟨st,k0⟩:∃s,Kp.Yr l=s:=⟨_,rfl⟩;rw[k0] at hG hM;unfold dm at co;simp only[k0] at co;have CO:=hid co;have g1:=hid (Iy aL w hC hE);have c1:=λW=>uf layer 4 W q6 (by decide) (by decide);have c2:=λW=>uf name 6 W q7 (by decide) (by decide);have hi4:=Kp.qP layer 4 (by decide);have f7:=Kp.qP name 6 (by decide);obtain⟨i,hi⟩:=Nm (Kp.zk layer 4);obtain⟨j,hj⟩:=Nm (Kp.zk name 6);rw[hi] at hi4;rw[hj] at f7;simp only[hi] at c1;simp only[hj] at c2;have C1:Hid (∀W,Calls prog 19 #[.int .i64 layer,.int .i64 4] W λe w'=>e = .returned (.int .i64 (i:Int))/\w'=W):=hid c1;have C2:Hid (∀W,Calls prog 19 #[.int .i64 name,.int .i64 6] W λe w'=>e = .returned (.int .i64 (j:Int))/\w'=W):=hid c2;have l9:=hid (λW=>lX W);have CP:=hid (λ(W:World) (hb:Below w.heap.size w W)=>K7 rules rv W (hR.below hb) q9);have HC:=hid hC;have HE:=hid hE;have HG:=hid hG;have HM:=hid hM;have HA:=hid hA;have HR:=hid hR;obtain⟨a,cc,rfl,_⟩:=h;obtain⟨a2,c2,rfl,_⟩:=hA;obtain⟨a3,c3,rfl,_⟩:=hR;obtain⟨m,j9⟩:=Nm asks.length;rw[j9] at hn HA |-;have f6:=hid j9;obtain⟨i0,q3,r0,r3,r4⟩:=info_parts Cm;have y6:(0:Int)<=(i:Int):=Int.natCast_nonneg _;have y7:(0:Int)<=(j:Int):=Int.natCast_nonneg _;have t9:(j:Int)<6:=by omega
 clear co hG hM k0 hC hE j9 c1 hi hj HR;go_enter func10,ntmps10
 go_upto_region 5 with (first
  | (go_at_call 20;refine (CO.out w1 B1.out).mono ?_;rintro e w2 ⟨n,rfl,h1,h2,b2,o2⟩;have B2:=hid b2;have O2:=hid o2;clear b2 o2)
  | (go_at_call 27;refine g1.out.mono ?_;rintro e w1 ⟨rfl,b1⟩;have B1:=hid b1;clear b1))
 go_upto_region 6 with (go_at_call 19;refine (C1.out w2).mono ?_;rintro e w3 ⟨rfl,e3⟩;rw[e3];clear e3)
 obtain⟨W3,h9⟩:∃W,w2.alloc (.cells (Kp.Qf.map Value.string).toArray 9)=W:=⟨_,rfl⟩;have b3:Below w2.heap.size w2 W3:=by rw[<- h9];exact nB w2 _
 have n3:W3.cell? ⟨w2.heap.size,j,none⟩=some (.string (Kp.zF j)):=by
  rw[<- h9,(za (heap_alloc_new w2 _) j).1]
  have:j=0\/j=1\/j=2\/j=3\/j=4\/j=5:=by omega
  rcases this with rfl|rfl|rfl|rfl|rfl|rfl<;>rfl
 have g2:x8 w w2 n (Mv n (.slice none 0 0)) st:=⟨B1.out.trans (B2.out.mono B1.out.size),O2.out.more (λb hb=>by rcases hb with h|h;exact .inl h;simp[Value.ownBlock] at h) (.inl rfl),Nat.le_trans B1.out.size h1,h2⟩
 have F:=hid (g2.step b3);have z3:n+1<=W3.heap.size:=Nat.le_trans h2 b3.size;have m4:Hid (w2.alloc (.cells (Kp.Qf.map Value.string).toArray 9)=W3):=hid h9;obtain⟨nm,i1⟩:∃x,Kp.zF j=x:=⟨_,rfl⟩;rw[i1] at n3;have d1:=hid i1;have jz:nm.size<=12:=by rw[<- i1];exact Kp.lW j f7
 clear h9 b3 g2 O2 B1 B2 CO g1 i1
 go_upto_region 9 with (first
  | (go_at_call 19;refine (C2.out W3).mono ?_;rintro e w4 ⟨rfl,e4⟩;rw[e4];clear e4)
  | (go_at_call 28;refine (l9.out w2).mono ?_;rintro e w3 ⟨rfl,e3⟩;rw[e3,m4.out];clear e3))
 obtain⟨B,hB⟩:∃x,n+1=x:=⟨_,rfl⟩;have q8:n<B:=by omega
 have zB:B<=W3.heap.size:=by omega
 clear z3 n3 m4 l9 C1 C2 h1 h2
 go_loopw [16,17] (λov iv wr=>∃k:Nat,k<=m/\iv = .int .i64 k/\x8 w wr n (Mv n ov) st/\B<=wr.heap.size/\wr.ownsRow B 48 4 ov k ((yX st asks k).flatMap yj)) (λ_ iv _=>m-(intOf iv).toNat)
 case atStart=>exact⟨0,Nat.zero_le _,rfl,F.out,zB,World.ownsRow_nil _ _ _ _⟩
 case round=>
  clear F;obtain⟨k,hk,rfl,O,y5,ho⟩:=hrel
  by_cases hkm:k<m
  ·have a7:k<asks.length:=by rw[f6.out];exact hkm
   obtain⟨_,_,a9,g⟩:=HA.out;obtain⟨gb,o,rv,ea,q,E⟩:=g k _ (List.getElem?_eq_getElem a7);have e2:a2=some ⟨gb,o,none⟩:=by injection a9 with e1;rw[e1];exact ea
   subst e2;have i2:=Cx st asks a7;obtain⟨raw,A⟩:∃r,asks[k]=r:=⟨_,rfl⟩;rw[A] at E i2;have q0:=zb O.below q;have cA:=λ(W:World) (hb:Below w.heap.size w W)=>JX raw rv W (E.below hb);have b0:(De.yh st (Kp.qy raw)).2=0:=by unfold De.yh;rw[if_pos (JV raw)]
   have a8:=JW raw;have D:=λ(W:World) (ao:Option Addr) (cap:Nat) (hW:x8 w W n (Mv n u16) st) (e5:xB W ao (Kp.qy raw).marks)=>Jy n st (Kp.qy raw) ao cap (Mv n u16) W hW.a e5 a8 (HE.out.below hW.below);rw[b0] at D;obtain⟨dc,Z⟩:∃d,(De.yh st (Kp.qy raw)).1=d:=⟨_,rfl⟩;rw[Z] at i2;simp only[Z] at D;unfold Xi vT at D;have k1:yj dc=[.int .i64 ((dc.verdict:Nat):Int),.int .i64 ((dc.layer:Nat):Int),.string dc.doc,.int .i64 ((dc.stmt:Nat):Int)]:=rfl;obtain⟨v0,G⟩:∃x,((dc.verdict:Nat):Int)=x:=⟨_,rfl⟩;obtain⟨v1,H⟩:∃x,((dc.layer:Nat):Int)=x:=⟨_,rfl⟩;obtain⟨v3,J⟩:∃x,((dc.stmt:Nat):Int)=x:=⟨_,rfl⟩;obtain⟨v2,I⟩:∃x,dc.doc=x:=⟨_,rfl⟩;simp only[G,H,I,J] at D k1;unfold Ref.qi at D;have g7:(yX st asks (k+1)).flatMap yj=(yX st asks k).flatMap yj++[.int .i64 v0,.int .i64 v1,.string v2,.int .i64 v3]:=by rw[i2,List.flatMap_append,List.flatMap_singleton,k1]
   obtain⟨X,hX⟩:=Nm ((yX st asks k).flatMap yj);rw[hX] at ho g7;have CA:=hid cA;have CD:=hid D;have HI:=hid O;have HO:=hid ho;have m3:=hid g7;clear cA D O g E q a9 ea b0 a8 Z G H I J A HA f6 HG HM ho i2 g7 k1 hX CP
   go_upto_region 12 with (first
    | (go_at_call 25;refine (CD.out w5 ao cap f.out b9).mono ?_;rintro e C ⟨rfl,M⟩;have y:=hid (f.out.step M);have O6:=hid (ownsRow_below O5.out M);have z6:=M.size;clear M)
    | (go_at_call 26;refine (CA.out wr HI.out.below).mono ?_;rintro e w5 ⟨ao,cap,rfl,b9,K⟩;have f:=hid (HI.out.step K);have O5:=hid (ownsRow_below HO.out K);have z5:=K.size;clear K;unfold Ref.qi))
   obtain⟨W7,z⟩:∃W,C.alloc (.cells #[.int .i64 v0,.int .i64 v1,.string v2,.int .i64 v3] 48)=W:=⟨_,rfl⟩;have v:Below C.heap.size C W7:=by rw[<- z];exact nB C _
   have N:W7.heap[C.heap.size]?=some (.cells #[.int .i64 v0,.int .i64 v1,.string v2,.int .i64 v3] 48):=by rw[<- z];exact heap_alloc_new C _
   have z7:=v.size;have a4:=hid (y.out.step v);have O7:=hid (ownsRow_below O6.out v);obtain⟨db,a6⟩:∃x,C.heap.size=x:=⟨_,rfl⟩;rw[a6] at N |-;rw[z];have x0:=(za N 0).1;have x1:=(za N 1).1;have x2:=(za N 2).1;have x3:=(za N 3).1;simp at x0 x1 x2 x3;have A1:B<=W7.heap.size:=by omega
   clear z v N a6 y f CD CA b9 O6 O5 HO q0
   go_wp2_with (at_builtin;refine wpList_append_own_at _ rfl _ _ 58 rfl B 48 i0 (.agg #[.int .i64 0,.int .i64 0,.string ⟨#[]⟩,.int .i64 0]) 4 40 underlying58 q3 r0 r3 r4 rfl (by decide) _ k X rfl (World.ownsRow.alloc O7.out _) ⟨W7.heap.size,0,none⟩ 1 1 [.int .i64 v0,.int .i64 v1,.string v2,.int .i64 v3] rfl rfl ?_ ?_ ?_ ?_ ?_ ?_)
   ·exact World.news_of_block (cs:=#[.int .i64 v0,.int .i64 v1,.string v2,.int .i64 v3]) (t:=48) (fr:=(0,0)) (heap_alloc_new W7 _)
   ·intro u hu;simp at hu;rcases hu with rfl|rfl|rfl|rfl<;>rfl
   ·unfold maxLen;omega
   ·omega
   ·simp;omega
   ·intro v' w8 g8 c7 _ j0;have i7:=a4.out.step (nB W7 (.cells #[.int .i64 v0,.int .i64 v1,.string v2,.int .i64 v3] 48));have o8:=hid (i7.grow c7 (j0.imp id (λe=>e.trans (by simp))) q8 (λk hk=>(World.ownsRow.lt O7.out k hk).1));have o9:Hid (w8.ownsRow B 48 4 v' (k+1) ((yX st asks (k+1)).flatMap yj)):=by rw[m3.out];exact hid g8
    have r5:B<=w8.heap.size:=by have:=c7.size;simp at this;omega
    clear i7 g8 c7 j0 a4 O7 m3
    go_wp2
    go_roundw
    case rel=>exact⟨k+1,by omega,by go_num,o8.out,r5,o9.out⟩
    case measure=>simp[intOf];omega
  ·have q5:k=m:=by omega
   subst q5;have j8:(yX st asks k).length=k:=Cw st asks (by rw[f6.out];exact Nat.le_refl _)
   have m9:kF wr B u16 k (yX st asks k):=by
    have:=kF.own (w:=wr) (B:=B) (lv:=u16) (L:=yX st asks k) (by rw[j8];exact ho)
    rw[j8] at this;exact this
   have hi1:x8 w wr n (λb=>b=n) st:=⟨O.below,O.a.more (λb hb => .inl (.inl hb)) rfl,O.old,O.top⟩;have m8:kF wr B u16 k (yX st asks k):=m9;obtain⟨ba,bc,rfl,q2⟩:=m9;have c6:=hid hi1;have D1:=hid m8;have cS:=λ(W:World) (hW:x8 w W n (λb=>b=n) st)=>Rp n st (i:Int) nm (λb=>b=n) W hW.a (by unfold maxLen;omega);have cU:=λ(s1:StO) (T:BA) (W:World) (hW:x8 w W n (λb=>b=n) s1)=>au n s1 (i:Int) nm T (λb=>b=n) aL W (HC.out.below hW.below) hW.a (λb hb=>by rw[hb];exact hW.top) (by unfold maxLen;omega);have cX:=λ(s1:StO) (W:World) (hW:x8 w W n (λb=>b=n) s1)=>Dt n s1 (i:Int) nm (λb=>b=n) W hW.a (λb hb=>by rw[hb];exact hW.top) (by unfold maxLen;omega);have c:∀b,B<=b->¬(λb=>b=n) b:=λb hb (e:b=n)=>by omega
   clear hi1 q2 O ho j8 m8
   cases hh:zh (st i) nm with
   | true=>
    obtain⟨S,k5,s1,s2,p1,p2,r1,r2⟩:=Kp.FC HG.out HM.out hi4 f7 rules (by rw[d1.out];exact hh);rw[d1.out] at s1 s2 p1 p2 r1 r2;simp only[s1,s2] at cS;have a5:=cU st (Kp.qp rules);rw[p1,p2] at a5;have j5:=cU k5 S;rw[r1,r2] at j5;have CS:=hid cS;have c8:=hid a5;have m0:=hid j5;clear cS cU a5 j5 cX s1 s2 p1 p2 r1 r2
    go_upto_region 16 with (go_at_call 23;refine (CS.out wr c6.out).mono ?_;rintro e w3 ⟨rfl,b3⟩;have F:=hid (c6.out.step b3);have D3:=hid (D1.out.turn (zu.of b3) c);clear b3)
    go_upto_region 17 with (first
     | (go_at_call 24;refine (c8.out w4 a1.out).mono ?_;rintro e w5 ⟨rfl,t5,o5⟩;have f:=hid (a1.out.put t5 o5);have D5:=hid (D4.out.turn t5 c);clear t5 o5)
     | (go_at_call 18;refine (CP.out w3 F.out.below).mono ?_;rintro e w4 ⟨rfl,b4⟩;have a1:=hid (F.out.step b4);have D4:=hid (D3.out.turn (zu.of b4) c);clear b4))
    go_upto_region 27 with (go_at_call 24;refine (m0.out w5 f.out).mono ?_;rintro e C ⟨rfl,t6,o6⟩;have y:=hid (f.out.put t6 o6);have D6:=hid (D5.out.turn t6 c);clear t6 o6)
    go_upto_region 29 with (go_at_call 23;refine (CS.out C y.out).mono ?_;rintro e w7 ⟨rfl,v⟩;have d0:=hid (y.out.step v);have DZ:=hid (D6.out.turn (zu.of v) c);clear v)
    clear c6 D1 F D3 a1 D4 f D5 y D6 CS c8 m0 CP
    go_loopw [29] (λiv wr=>∃t:Nat,t<=k/\iv = .int .i64 t/\x8 w wr n (λb=>b=n) st/\kF wr B (.slice ba k bc) k (yX st asks k)) (λiv _=>k-(intOf iv).toNat)
    case atStart=>exact⟨0,Nat.zero_le _,rfl,d0.out,DZ.out⟩
    case round=>
     clear d0 DZ;obtain⟨t,ht,rfl,O,hD⟩:=hrel
     by_cases htk:t<k
     ·have a7:t<asks.length:=by rw[f6.out];exact htk
      obtain⟨_,_,a9,g⟩:=HA.out;obtain⟨gb,o,rv,ea,q,E⟩:=g t _ (List.getElem?_eq_getElem a7);have e2:a2=some ⟨gb,o,none⟩:=by injection a9 with e1;rw[e1];exact ea
      subst e2;have P:=U3 st asks (k:=k) htk (List.getElem?_eq_getElem a7);have d4:=hD;obtain⟨_,_,Q,p⟩:=hD;obtain⟨fb,d2,n0,hq⟩:=p t _ P;have d3:ba=some ⟨fb,0,none⟩:=by injection Q with e1;rw[e1];exact d2
      subst d3;obtain⟨raw,A⟩:∃r,asks[t]=r:=⟨_,rfl⟩;rw[A] at E hq;have q0:=zb O.below q;have cA:=λ(W:World) (hb:Below w.heap.size w W)=>JX raw rv W (E.below hb);have b0:(De.yh st (Kp.qy raw)).2=0:=by unfold De.yh;rw[if_pos (JV raw)]
      have a8:=JW raw;have D:=λ(W:World) (ao:Option Addr) (cap:Nat) (hW:x8 w W n (λb=>b=n) st) (e5:xB W ao (Kp.qy raw).marks)=>Jy n st (Kp.qy raw) ao cap (λb=>b=n) W hW.a e5 a8 (HE.out.below hW.below);rw[b0] at D;obtain⟨dc,Z⟩:∃d,(De.yh st (Kp.qy raw)).1=d:=⟨_,rfl⟩;simp only[Z] at D hq;unfold Xi vT at D;have y0:=hq 0 (by decide);have y1:=hq 1 (by decide);have y2:=hq 2 (by decide);have y3:=hq 3 (by decide);simp only[yj,List.getElem?_cons_zero,List.getElem?_cons_succ,Nat.add_zero] at y0 y1 y2 y3;obtain⟨v0,G⟩:∃x,((dc.verdict:Nat):Int)=x:=⟨_,rfl⟩;obtain⟨v1,H⟩:∃x,((dc.layer:Nat):Int)=x:=⟨_,rfl⟩;obtain⟨v3,J⟩:∃x,((dc.stmt:Nat):Int)=x:=⟨_,rfl⟩;obtain⟨v2,I⟩:∃x,dc.doc=x:=⟨_,rfl⟩;simp only[G,H,I,J] at D;rw[G] at y0;rw[H] at y1;rw[I] at y2;rw[J] at y3;unfold Ref.qi at D;have CA:=hid cA;have CD:=hid D;have HI:=hid O;have HD:=hid d4;clear cA D O g E q a9 ea b0 a8 Z G H I J A d4 Q p d2 hq P
      go_upto_region 32 with (first
       | (go_at_call 25;refine (CD.out w5 ao cap f.out b9).mono ?_;rintro e C ⟨rfl,M⟩;have y:=hid (f.out.step M);have D6:=hid (D5.out.turn (zu.of M) c);have R:=zb M d6;have U:=zb M d7;have V:=zb M d8;have Y:=zb M d9;clear M)
       | (go_at_call 26;refine (CA.out wr HI.out.below).mono ?_;rintro e w5 ⟨ao,cap,rfl,b9,K⟩;have f:=hid (HI.out.step K);have D5:=hid (HD.out.turn (zu.of K) c);have d6:=zb K y0;have d7:=zb K y1;have d8:=zb K y2;have d9:=zb K y3;clear K;unfold Ref.qi))
      obtain⟨W7,z⟩:∃W,C.alloc (.cells #[.int .i64 v0,.int .i64 v1,.string v2,.int .i64 v3] 48)=W:=⟨_,rfl⟩;have v:Below C.heap.size C W7:=by rw[<- z];exact nB C _
      have N:W7.heap[C.heap.size]?=some (.cells #[.int .i64 v0,.int .i64 v1,.string v2,.int .i64 v3] 48):=by rw[<- z];exact heap_alloc_new C _
      have a4:=hid (y.out.step v);have D7:=hid (D6.out.turn (zu.of v) c);have s0:=zb v R;have s1:=zb v U;have s2:=zb v V;have s3:=zb v Y;obtain⟨db,a6⟩:∃x,C.heap.size=x:=⟨_,rfl⟩;rw[a6] at N |-;rw[z];have x0:=(za N 0).1;have x1:=(za N 1).1;have x2:=(za N 2).1;have x3:=(za N 3).1;simp at x0 x1 x2 x3;have n2:(0:Int)<=(t:Int):=Int.natCast_nonneg _;have j1:(t:Int)<(k:Int):=by omega
      have DN:=hid (λnq=>D7.out.turn (zu.of (below_drewN (Below.refl _ W7) nq)) c);have IN:=hid (λnq=>a4.out.step (below_drewN (Below.refl _ W7) nq));clear z v N a6 y f CD CA b9 D6 D5 HD HI a4 D7 q0 y0 y1 y2 y3 d6 d7 d8 d9 R U V Y
      go_quiet (fail)
      go_wp2_with fail
      go_roundw
      case rel=>exact⟨t+1,by omega,by go_num,IN.out nq,DN.out nq⟩
      case measure=>simp[intOf];omega
     ·have g9:t=k:=by omega
      have HI:=hid O;have n4:¬((t:Int)<(k:Int)):=by omega
      clear O hD g9;go_wp2_with fail;go_ret;exact⟨rfl,HI.out.below⟩
   | false=>
    have s1:=Kp.Ro (st:=st) hi4 f7 (by rw[d1.out];exact hh);rw[d1.out] at s1;simp only[s1] at cS;obtain⟨S,hS⟩:=Nm (XC st (i:Int) nm);simp only[hS] at cS;have CS:=hid cS
    by_cases h4:(st i).length<4
    ·obtain⟨k5,p1,p2,r1,r2⟩:=Kp.FD HG.out hi4 f7 rules (by rw[d1.out];exact hh) h4;rw[d1.out] at p1 p2 r1 r2;have a5:=cU st (Kp.qp rules);rw[p1,p2] at a5;have j6:=cX k5;rw[r1,r2] at j6;have c8:=hid a5;have m1:=hid j6;clear cS cU a5 cX j6 s1 p1 p2 r1 r2 hS
     go_upto_region 16 with (go_at_call 23;refine (CS.out wr c6.out).mono ?_;rintro e w3 ⟨rfl,b3⟩;have F:=hid (c6.out.step b3);have D3:=hid (D1.out.turn (zu.of b3) c);clear b3)
     go_upto_region 17 with (first
      | (go_at_call 24;refine (c8.out w4 a1.out).mono ?_;rintro e w5 ⟨rfl,t5,o5⟩;have f:=hid (a1.out.put t5 o5);have D5:=hid (D4.out.turn t5 c);clear t5 o5)
      | (go_at_call 18;refine (CP.out w3 F.out.below).mono ?_;rintro e w4 ⟨rfl,b4⟩;have a1:=hid (F.out.step b4);have D4:=hid (D3.out.turn (zu.of b4) c);clear b4))
     go_upto_region 27 with (go_at_call 29;refine (m1.out w5 f.out).mono ?_;rintro e C ⟨rfl,t6,o6⟩;have y:=hid (f.out.put t6 o6);have D6:=hid (D5.out.turn t6 c);clear t6 o6)
     go_upto_region 29 with (go_at_call 23;refine (CS.out C y.out).mono ?_;rintro e w7 ⟨rfl,v⟩;have d0:=hid (y.out.step v);have DZ:=hid (D6.out.turn (zu.of v) c);clear v)
     clear c6 D1 F D3 a1 D4 f D5 y D6 CS c8 m1 CP
     go_loopw [29] (λiv wr=>∃t:Nat,t<=k/\iv = .int .i64 t/\x8 w wr n (λb=>b=n) st/\kF wr B (.slice ba k bc) k (yX st asks k)) (λiv _=>k-(intOf iv).toNat)
     case atStart=>exact⟨0,Nat.zero_le _,rfl,d0.out,DZ.out⟩
     case round=>
      clear d0 DZ;obtain⟨t,ht,rfl,O,hD⟩:=hrel
      by_cases htk:t<k
      ·have a7:t<asks.length:=by rw[f6.out];exact htk
       obtain⟨_,_,a9,g⟩:=HA.out;obtain⟨gb,o,rv,ea,q,E⟩:=g t _ (List.getElem?_eq_getElem a7);have e2:a2=some ⟨gb,o,none⟩:=by injection a9 with e1;rw[e1];exact ea
       subst e2;have P:=U3 st asks (k:=k) htk (List.getElem?_eq_getElem a7);have d4:=hD;obtain⟨_,_,Q,p⟩:=hD;obtain⟨fb,d2,n0,hq⟩:=p t _ P;have d3:ba=some ⟨fb,0,none⟩:=by injection Q with e1;rw[e1];exact d2
       subst d3;obtain⟨raw,A⟩:∃r,asks[t]=r:=⟨_,rfl⟩;rw[A] at E hq;have q0:=zb O.below q;have cA:=λ(W:World) (hb:Below w.heap.size w W)=>JX raw rv W (E.below hb);have b0:(De.yh st (Kp.qy raw)).2=0:=by unfold De.yh;rw[if_pos (JV raw)]
       have a8:=JW raw;have D:=λ(W:World) (ao:Option Addr) (cap:Nat) (hW:x8 w W n (λb=>b=n) st) (e5:xB W ao (Kp.qy raw).marks)=>Jy n st (Kp.qy raw) ao cap (λb=>b=n) W hW.a e5 a8 (HE.out.below hW.below);rw[b0] at D;obtain⟨dc,Z⟩:∃d,(De.yh st (Kp.qy raw)).1=d:=⟨_,rfl⟩;simp only[Z] at D hq;unfold Xi vT at D;have y0:=hq 0 (by decide);have y1:=hq 1 (by decide);have y2:=hq 2 (by decide);have y3:=hq 3 (by decide);simp only[yj,List.getElem?_cons_zero,List.getElem?_cons_succ,Nat.add_zero] at y0 y1 y2 y3;obtain⟨v0,G⟩:∃x,((dc.verdict:Nat):Int)=x:=⟨_,rfl⟩;obtain⟨v1,H⟩:∃x,((dc.layer:Nat):Int)=x:=⟨_,rfl⟩;obtain⟨v3,J⟩:∃x,((dc.stmt:Nat):Int)=x:=⟨_,rfl⟩;obtain⟨v2,I⟩:∃x,dc.doc=x:=⟨_,rfl⟩;simp only[G,H,I,J] at D;rw[G] at y0;rw[H] at y1;rw[I] at y2;rw[J] at y3;unfold Ref.qi at D;have CA:=hid cA;have CD:=hid D;have HI:=hid O;have HD:=hid d4;clear cA D O g E q a9 ea b0 a8 Z G H I J A d4 Q p d2 hq P
       go_upto_region 32 with (first
        | (go_at_call 25;refine (CD.out w5 ao cap f.out b9).mono ?_;rintro e C ⟨rfl,M⟩;have y:=hid (f.out.step M);have D6:=hid (D5.out.turn (zu.of M) c);have R:=zb M d6;have U:=zb M d7;have V:=zb M d8;have Y:=zb M d9;clear M)
        | (go_at_call 26;refine (CA.out wr HI.out.below).mono ?_;rintro e w5 ⟨ao,cap,rfl,b9,K⟩;have f:=hid (HI.out.step K);have D5:=hid (HD.out.turn (zu.of K) c);have d6:=zb K y0;have d7:=zb K y1;have d8:=zb K y2;have d9:=zb K y3;clear K;unfold Ref.qi))
       obtain⟨W7,z⟩:∃W,C.alloc (.cells #[.int .i64 v0,.int .i64 v1,.string v2,.int .i64 v3] 48)=W:=⟨_,rfl⟩;have v:Below C.heap.size C W7:=by rw[<- z];exact nB C _
       have N:W7.heap[C.heap.size]?=some (.cells #[.int .i64 v0,.int .i64 v1,.string v2,.int .i64 v3] 48):=by rw[<- z];exact heap_alloc_new C _
       have a4:=hid (y.out.step v);have D7:=hid (D6.out.turn (zu.of v) c);have s0:=zb v R;have s1:=zb v U;have s2:=zb v V;have s3:=zb v Y;obtain⟨db,a6⟩:∃x,C.heap.size=x:=⟨_,rfl⟩;rw[a6] at N |-;rw[z];have x0:=(za N 0).1;have x1:=(za N 1).1;have x2:=(za N 2).1;have x3:=(za N 3).1;simp at x0 x1 x2 x3;have n2:(0:Int)<=(t:Int):=Int.natCast_nonneg _;have j1:(t:Int)<(k:Int):=by omega
       have DN:=hid (λnq=>D7.out.turn (zu.of (below_drewN (Below.refl _ W7) nq)) c);have IN:=hid (λnq=>a4.out.step (below_drewN (Below.refl _ W7) nq));clear z v N a6 y f CD CA b9 D6 D5 HD HI a4 D7 q0 y0 y1 y2 y3 d6 d7 d8 d9 R U V Y
       go_quiet (fail)
       go_wp2_with fail
       go_roundw
       case rel=>exact⟨t+1,by omega,by go_num,IN.out nq,DN.out nq⟩
       case measure=>simp[intOf];omega
      ·have g9:t=k:=by omega
       have HI:=hid O;have n4:¬((t:Int)<(k:Int)):=by omega
       clear O hD g9;go_wp2_with fail;go_ret;exact⟨rfl,HI.out.below⟩
    ·obtain⟨p1,p2⟩:=Kp.FB (st:=st) hi4 f7 rules (by rw[d1.out];exact hh) h4;rw[d1.out] at p1 p2;have a5:=cU st (Kp.qp rules);rw[p1,p2] at a5;have c8:=hid a5;clear cS cU a5 cX s1 p1 p2 hS
     go_upto_region 16 with (go_at_call 23;refine (CS.out wr c6.out).mono ?_;rintro e w3 ⟨rfl,b3⟩;have F:=hid (c6.out.step b3);have D3:=hid (D1.out.turn (zu.of b3) c);clear b3)
     go_upto_region 17 with (first
      | (go_at_call 24;refine (c8.out w4 a1.out).mono ?_;rintro e w5 ⟨rfl,t5,o5⟩;have f:=hid (a1.out.put t5 o5);have D5:=hid (D4.out.turn t5 c);clear t5 o5)
      | (go_at_call 18;refine (CP.out w3 F.out.below).mono ?_;rintro e w4 ⟨rfl,b4⟩;have a1:=hid (F.out.step b4);have D4:=hid (D3.out.turn (zu.of b4) c);clear b4))
     go_upto_region 27 with fail
     go_upto_region 29 with (go_at_call 23;refine (CS.out w5 f.out).mono ?_;rintro e w7 ⟨rfl,v⟩;have d0:=hid (f.out.step v);have DZ:=hid (D5.out.turn (zu.of v) c);clear v)
     clear c6 D1 F D3 a1 D4 f D5 CS c8 CP
     go_loopw [29] (λiv wr=>∃t:Nat,t<=k/\iv = .int .i64 t/\x8 w wr n (λb=>b=n) st/\kF wr B (.slice ba k bc) k (yX st asks k)) (λiv _=>k-(intOf iv).toNat)
     case atStart=>exact⟨0,Nat.zero_le _,rfl,d0.out,DZ.out⟩
     case round=>
      clear d0 DZ;obtain⟨t,ht,rfl,O,hD⟩:=hrel
      by_cases htk:t<k
      ·have a7:t<asks.length:=by rw[f6.out];exact htk
       obtain⟨_,_,a9,g⟩:=HA.out;obtain⟨gb,o,rv,ea,q,E⟩:=g t _ (List.getElem?_eq_getElem a7);have e2:a2=some ⟨gb,o,none⟩:=by injection a9 with e1;rw[e1];exact ea
       subst e2;have P:=U3 st asks (k:=k) htk (List.getElem?_eq_getElem a7);have d4:=hD;obtain⟨_,_,Q,p⟩:=hD;obtain⟨fb,d2,n0,hq⟩:=p t _ P;have d3:ba=some ⟨fb,0,none⟩:=by injection Q with e1;rw[e1];exact d2
       subst d3;obtain⟨raw,A⟩:∃r,asks[t]=r:=⟨_,rfl⟩;rw[A] at E hq;have q0:=zb O.below q;have cA:=λ(W:World) (hb:Below w.heap.size w W)=>JX raw rv W (E.below hb);have b0:(De.yh st (Kp.qy raw)).2=0:=by unfold De.yh;rw[if_pos (JV raw)]
       have a8:=JW raw;have D:=λ(W:World) (ao:Option Addr) (cap:Nat) (hW:x8 w W n (λb=>b=n) st) (e5:xB W ao (Kp.qy raw).marks)=>Jy n st (Kp.qy raw) ao cap (λb=>b=n) W hW.a e5 a8 (HE.out.below hW.below);rw[b0] at D;obtain⟨dc,Z⟩:∃d,(De.yh st (Kp.qy raw)).1=d:=⟨_,rfl⟩;simp only[Z] at D hq;unfold Xi vT at D;have y0:=hq 0 (by decide);have y1:=hq 1 (by decide);have y2:=hq 2 (by decide);have y3:=hq 3 (by decide);simp only[yj,List.getElem?_cons_zero,List.getElem?_cons_succ,Nat.add_zero] at y0 y1 y2 y3;obtain⟨v0,G⟩:∃x,((dc.verdict:Nat):Int)=x:=⟨_,rfl⟩;obtain⟨v1,H⟩:∃x,((dc.layer:Nat):Int)=x:=⟨_,rfl⟩;obtain⟨v3,J⟩:∃x,((dc.stmt:Nat):Int)=x:=⟨_,rfl⟩;obtain⟨v2,I⟩:∃x,dc.doc=x:=⟨_,rfl⟩;simp only[G,H,I,J] at D;rw[G] at y0;rw[H] at y1;rw[I] at y2;rw[J] at y3;unfold Ref.qi at D;have CA:=hid cA;have CD:=hid D;have HI:=hid O;have HD:=hid d4;clear cA D O g E q a9 ea b0 a8 Z G H I J A d4 Q p d2 hq P
       go_upto_region 32 with (first
        | (go_at_call 25;refine (CD.out w5 ao cap f.out b9).mono ?_;rintro e C ⟨rfl,M⟩;have y:=hid (f.out.step M);have D6:=hid (D5.out.turn (zu.of M) c);have R:=zb M d6;have U:=zb M d7;have V:=zb M d8;have Y:=zb M d9;clear M)
        | (go_at_call 26;refine (CA.out wr HI.out.below).mono ?_;rintro e w5 ⟨ao,cap,rfl,b9,K⟩;have f:=hid (HI.out.step K);have D5:=hid (HD.out.turn (zu.of K) c);have d6:=zb K y0;have d7:=zb K y1;have d8:=zb K y2;have d9:=zb K y3;clear K;unfold Ref.qi))
       obtain⟨W7,z⟩:∃W,C.alloc (.cells #[.int .i64 v0,.int .i64 v1,.string v2,.int .i64 v3] 48)=W:=⟨_,rfl⟩;have v:Below C.heap.size C W7:=by rw[<- z];exact nB C _
       have N:W7.heap[C.heap.size]?=some (.cells #[.int .i64 v0,.int .i64 v1,.string v2,.int .i64 v3] 48):=by rw[<- z];exact heap_alloc_new C _
       have a4:=hid (y.out.step v);have D7:=hid (D6.out.turn (zu.of v) c);have s0:=zb v R;have s1:=zb v U;have s2:=zb v V;have s3:=zb v Y;obtain⟨db,a6⟩:∃x,C.heap.size=x:=⟨_,rfl⟩;rw[a6] at N |-;rw[z];have x0:=(za N 0).1;have x1:=(za N 1).1;have x2:=(za N 2).1;have x3:=(za N 3).1;simp at x0 x1 x2 x3;have n2:(0:Int)<=(t:Int):=Int.natCast_nonneg _;have j1:(t:Int)<(k:Int):=by omega
       have DN:=hid (λnq=>D7.out.turn (zu.of (below_drewN (Below.refl _ W7) nq)) c);have IN:=hid (λnq=>a4.out.step (below_drewN (Below.refl _ W7) nq));clear z v N a6 y f CD CA b9 D6 D5 HD HI a4 D7 q0 y0 y1 y2 y3 d6 d7 d8 d9 R U V Y
       go_quiet (fail)
       go_wp2_with fail
       go_roundw
       case rel=>exact⟨t+1,by omega,by go_num,IN.out nq,DN.out nq⟩
       case measure=>simp[intOf];omega
      ·have g9:t=k:=by omega
       have HI:=hid O;have n4:¬((t:Int)<(k:Int)):=by omega
       clear O hD g9;go_wp2_with fail;go_ret;exact⟨rfl,HI.out.below⟩
end Go.Proofs.YtdakgnaojakldaaGreatDoor
namespace Go.Proofs.YtdakgnaojakldaaGreatDoor.gone
theorem Iq:(Rows.goneUptoRow.wf (OpenSpec.ofChange (Rows.OpenSpec.upto Rows.goneSpec).bare))=true:=by kernel_rfl
theorem Hy:(Tryz.f10.params.all (prog.readableRec ·))=true:=by kernel_rfl
theorem Ht:(namedTie prog Rows.goneUptoRow.named (Rows.OpenSpec.upto Rows.goneSpec).bare.vars)=true:=by kernel_rfl
theorem Ic:((Rows.goneUptoRow.stops==[]))=true:=by kernel_rfl
theorem Ig:((Rows.goneUptoRow.knobs==[]))=true:=by kernel_rfl
theorem GV:((Rows.goneUptoRow.inPlace==prog.inPlace 10))=true:=by kernel_rfl
theorem Ik:((Rows.goneUptoRow.unfollowed==prog.unfollowed 10))=true:=by kernel_rfl
theorem Ib:((Rows.goneUptoRow.recurses==prog.recurses 10))=true:=by kernel_rfl
theorem Ip:((Rows.goneUptoRow.named==prog.varsNamed 10))=true:=by kernel_rfl
theorem Ha:((Rows.goneUptoRow.maps==(Tryz.f10.params.toList++(Rows.OpenSpec.upto Rows.goneSpec).bare.plain.varTypes prog).any (prog.mapsRec ·)))=true:=by kernel_rfl
theorem He:((Rows.goneUptoRow.ifaces==(Tryz.f10.params.toList++(Rows.OpenSpec.upto Rows.goneSpec).bare.plain.varTypes prog).any (prog.ifacesRec ·)))=true:=by kernel_rfl
theorem Hf:((Rows.goneUptoRow.mapsOut==prog.mapsAmong Tryz.f10.resultTypes.toList))=true:=by kernel_rfl
theorem Hg:((Rows.goneUptoRow.loops==(Tryz.f10.params.toList++(Rows.OpenSpec.upto Rows.goneSpec).bare.plain.varTypes prog).any (prog.loopsFrom ·)))=true:=by kernel_rfl
theorem Hl:((Rows.goneUptoRow.wideKeys==(Tryz.f10.params.toList++(Rows.OpenSpec.upto Rows.goneSpec).bare.plain.varTypes prog++Tryz.f10.resultTypes.toList).any (prog.wideKeysFrom ·)))=true:=by kernel_rfl
theorem Il:((Rows.OpenSpec.upto Rows.goneSpec).bare.vars.all (prog.varReadable ·))=true:=by kernel_rfl
theorem Hz:(Tryz.f10.resultTypes.all (λt=>prog.readableRec t&&decide (t<prog.types.size)))=true:=by kernel_rfl
theorem HY:((Rows.goneUptoRow.ifacesOut==Tryz.f10.resultTypes.toList.any (prog.ifacesRec ·)))=true:=by kernel_rfl
theorem Ia:((Rows.goneUptoRow.loopsOut==Tryz.f10.resultTypes.toList.any (prog.loopsFrom ·)))=true:=by kernel_rfl
theorem Hw:((Rows.goneUptoRow.plainKeys==prog.plainKeys))=true:=by kernel_rfl
theorem Ij:(Rows.goneUptoRow.shortTexts.isNone)=true:=by kernel_rfl
theorem GY:((Rows.goneUptoRow.lifted==prog.liftsFinal))=true:=by kernel_rfl
theorem Ho:((prog.make==some Rows.goneUptoRow.make))=true:=by kernel_rfl
theorem GX:((Rows.goneUptoRow.kinds==(if Rows.goneUptoRow.domain.isEmpty then [] else Tryz.f10.params.toList.map λt=>match prog.underlying t with|some (.int k)=>some k|_=>none)))=true:=by kernel_rfl
theorem Hu:((Rows.goneUptoRow.pinned==Rows.goneUptoRow.pinnedBy))=true:=by kernel_rfl
theorem Im:((Rows.goneUptoRow.veiled==(Tryz.f10.params.toList++(Rows.OpenSpec.upto Rows.goneSpec).bare.plain.varTypes prog++Tryz.f10.resultTypes.toList).any (prog.veiledRec ·)))=true:=by kernel_rfl
theorem Io:(Rows.goneUptoRow.veiledFits prog Tryz.f10.params.toList (Tryz.f10.params.toList++(Rows.OpenSpec.upto Rows.goneSpec).bare.plain.varTypes prog++Tryz.f10.resultTypes.toList))=true:=by kernel_rfl
theorem GU:Tryz.f10.isInstance prog Rows.goneUptoRow.origin Rows.goneUptoRow.targs:=of_decide_eq_true (by kernel_rfl)
theorem Ir:Tryz.f10.isWrapper prog Rows.goneUptoRow.wrapper Rows.goneUptoRow.mainSum:=by unfold Func.isWrapper;first|(rw[if_pos (by decide +kernel)];kernel_rfl)|(rw[if_neg (by decide +kernel)];exact⟨rfl,rfl⟩)
theorem Hr:prog.funcNamed Rows.goneUptoRow.func=some 10:=by kernel_rfl
end Go.Proofs.YtdakgnaojakldaaGreatDoor.gone
namespace Go.Proofs.YtdakgnaojakldaaGreatDoor.laws
theorem GZ:(laidOutB prog)=true:=by kernel_rfl
theorem Hq:(mapsRowed prog)=true:=by kernel_rfl
theorem Ie:((prog.stops==[]))=true:=by kernel_rfl
theorem Ih:((prog.stopKnobs==[]))=true:=by kernel_rfl
theorem Ii:(prog.stopsHeard)=true:=by kernel_rfl
theorem Hm:(prog.mayEnter)=true:=by kernel_rfl
theorem qM{a b:Bool}(h:a=true)(k:b=true):(a&&b)=true:=by rw[h,k];rfl
end Go.Proofs.YtdakgnaojakldaaGreatDoor.laws
