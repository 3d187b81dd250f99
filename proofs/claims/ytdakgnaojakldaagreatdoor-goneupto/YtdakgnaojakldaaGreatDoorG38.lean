/- P -/
import Derived.Test.YtdakgnaojakldaaGreatDoorG37
open Go.Proofs.Tryz
set_option maxRecDepth 100000
set_option maxHeartbeats 4000000
namespace Go.Proofs.YtdakgnaojakldaaGreatDoor
def XJ(c:zJ):Prop:=(Ref.xq c.op=true/\c.vals=[])\/(Ref.xq c.op=false/\Ref.Qh c.op c.vals=true/\(Ref.qG c.op=true->∀v ∈ c.vals,Ref.xg v=true))
structure XK (s:zw):Prop where
 who:∀p ∈ s.who.2,Ref.xg p=true
 act:∀p ∈ s.act.2,Ref.xg p=true
 on:∀p ∈ s.on.2,Ref.xg p=true
 ifs:∀c ∈ s.ifs,XJ c
theorem BL(v:Rd.V)(c:(Rd.qD v).sh=false)(e:(Rd.qD v).pt=false):XJ (toS (Rd.qD v)):=by
 match v with
 | .str s=>exact absurd c (by simp[Rd.qD,Ref.yQ])
 | .word b=>exact absurd c (by simp[Rd.qD,Ref.yQ])
 | .list l=>exact absurd c (by simp[Rd.qD,Ref.yQ])
 | .obj ms=>
  obtain⟨R,a⟩:=Nm (Rd.qD (.obj ms));rw[a] at c e |-;simp only[Rd.qD,Rd.QH] at a
  cases h1:Rd.opV (Rd.zf ms Ref.bOp) with
  | none=>rw[h1] at a;subst a;simp[Ref.yQ] at c
  | some op=>
   rw[h1] at a
   cases h2:Rd.opV (Rd.zf ms Ref.zm) with
   | none=>rw[h2] at a;subst a;simp[Ref.yQ] at c
   | some key=>
    rw[h2] at a;simp only at a
    by_cases ca:Ref.xq op=true
    ·rw[if_pos ca] at a;subst a;exact .inl ⟨ca,rfl⟩
    ·rw[if_neg ca] at a;subst a;simp only[Bool.or_eq_false_iff,Bool.not_eq_false'] at c;refine .inr ⟨Bool.eq_false_iff.2 ca,c.1.1.2.2,λf v g=>?_⟩;have d:Ref.qG op=true:=f;simp only[d,Bool.true_and,Bool.not_eq_false'] at e;exact List.all_eq_true.1 e v g
theorem UA{c:Bool×Option (List BA)}(h:Rd.chP c=false):∀p ∈ (Rd.chD c).2,Ref.xg p=true:=by
 unfold Rd.chP at h;rw[Bool.not_eq_false'] at h;exact λp a=>List.all_eq_true.1 h p a
theorem BS(x:Option Rd.V)(a:(Rd.qL x).sh=false)(e:(Rd.qL x).pt=false):∀c ∈ (Rd.qL x).cs.map toS,XJ c:=by
 intro c d
 match x with
 | none=>simp[Rd.qL] at d
 | some (.str s)=>simp[Rd.qL] at a
 | some (.word b)=>simp[Rd.qL] at a
 | some (.obj ms)=>simp[Rd.qL] at a
 | some (.list vs)=>
  simp only[Rd.qL] at a e d
  by_cases c5:5<vs.length
  ·rw[if_pos c5] at a;simp at a
  ·rw[if_neg c5] at a e d;simp only[List.any_map,List.any_eq_false,Function.comp] at a e;simp only[List.map_map,List.mem_map,Function.comp] at d;obtain⟨v,f,rfl⟩:=d;exact BL v (by simpa using a v f) (by simpa using e v f)
theorem Sk(v:Rd.V)(a:(Rd.xG v).sh=false)(c:(Rd.xG v).pt=false):XK (jI (Rd.xG v)):=by
 match v with
 | .str s=>exact absurd a (by simp[Rd.xG,Rd.vw])
 | .word b=>exact absurd a (by simp[Rd.xG,Rd.vw])
 | .list l=>exact absurd a (by simp[Rd.xG,Rd.vw])
 | .obj ms=>
  simp only[Rd.xG,Rd.YC] at a c |-
  split at a
  ·rename_i eff d e;rw[d,e] at c;simp only[Rd.Yk,Bool.or_eq_false_iff] at a c;obtain⟨⟨⟨f,g⟩,h⟩,i⟩:=c;exact⟨UA f,UA g,UA h,BS _ a.2 i⟩
  ·simp[Rd.vw] at a
theorem EA(s:BA)(h:(Rd.xS s).1=0):∀r ∈ vI s,XK (jI r):=by
 unfold Rd.xS at h;unfold vI
 by_cases h1:4000<s.size
 ·rw[if_pos h1] at h;simp at h
 rw[if_neg h1] at h;rw[if_neg h1]
 cases hm:Rd.xD s.data.toList with
 | err e q=>intro r d;simp at d
 | ok v q=>
  rw[hm] at h;simp only at h |-
  match v with
  | .str t=>simp[Rd.uu] at h
  | .word b=>simp[Rd.uu] at h
  | .list l=>simp[Rd.uu] at h
  | .obj ms=>
   simp only[Rd.uu] at h
   match hx:Rd.zf ms Rd.yU with
   | none=>rw[hx] at h;simp at h
   | some (.str t)=>rw[hx] at h;simp at h
   | some (.word b)=>rw[hx] at h;simp at h
   | some (.obj ms)=>rw[hx] at h;simp at h
   | some (.list vs)=>
    rw[hx] at h;simp only at h;have f:qd (stX (.obj ms))=vs:=by simp[qd,stX,hx]
    rw[f]
    by_cases c:ms.length≠1\/vs.length<1\/10<vs.length
    ·rw[if_pos c] at h;simp at h
    rw[if_neg c] at h;intro r d;obtain⟨a,b⟩:=Kc _ _ h r d;rw[List.mem_map] at d;obtain⟨v,f,rfl⟩:=d;exact Sk v a b
end Go.Proofs.YtdakgnaojakldaaGreatDoor
namespace Go.Proofs.YtdakgnaojakldaaGreatDoor
open Go.RowKit
abbrev StO:=Nat->List zt
def upd(st:StO)(i:Nat)(L:List zt):StO:=λj=>if j=i then L else st j
def Qz(a:List zw):Prop:=a.length<=10/\(∀s ∈ a,QA s)/\∀s ∈ a,XK s
def Zo(L:List zt):Prop:=xy L/\L.length<=4/\∀x ∈ L,Qz x.2
theorem Zo.less{L:List zt}(h:Zo L)(p:Nat):Zo (vX L p):=
 ⟨h.1.less p,IV p h.2.1,λx a=>h.2.2 x (by
  unfold vX at a
  rcases List.mem_append.1 a with a|a
  ·exact List.mem_of_mem_take a
  ·exact List.mem_of_mem_drop a)⟩
theorem Zo.with{L:List zt}(h:Zo L){name:BA}{b:List zw}(c:(zh L name||decide (L.length<4))=true)(d:Qz b):Zo (qY L name b):=
 ⟨h.1.with name b,Wd h.2.1 c,λx a=>by
  unfold qY at a
  rcases List.mem_append.1 a with a|a
  ·rcases List.mem_append.1 a with a|a
   ·exact h.2.2 x (List.mem_of_mem_take a)
   ·rw[List.mem_singleton] at a;subst a;exact d
  ·exact h.2.2 x (List.mem_of_mem_drop a)⟩
structure ql (M:Nat->Prop) (W:World) (ob:Nat) (st:StO):Prop where
 mine:M ob
 row:∃vs:Nat->Value,W.heap[ob]?=some (.cells #[vs 0,vs 1,vs 2,vs 3] 101)/\∀i,i<4->qR M W (vs i) (st i)
 good:∀i,i<4->Zo (st i)
theorem lt4{i:Nat}(h:i<4):i=0\/i=1\/i=2\/i=3:=by omega
theorem ql.below{M:Nat->Prop}{W b:World}{a:Nat}{st:StO}(h:ql M W a st)(hb:Below W.heap.size W b):ql M b a st:=by
 obtain⟨e,c,d⟩:=h.row;exact⟨h.mine,⟨e,(hb.block a (lt_of_block c)).trans c,λi hi=>(d i hi).turn (zu.of hb)⟩,h.good⟩
theorem ql.other{M:Nat->Prop}{W f:World}{c a:Nat}{st:StO}(h:ql M W c st)(j:zu (λb=>b=a) W f)(d:c≠a)(m:M a):ql M f c st:=by
 obtain⟨n,g,l⟩:=h.row;exact⟨h.mine,⟨n,(j.block c (lt_of_block g) d).trans g,λi hi=>(l i hi).turn (j.wide (λk _ e=>by rw[e];exact m))⟩,h.good⟩
theorem ql.more{M a:Nat->Prop}{W:World}{c:Nat}{st:StO}(h:ql M W c st)(f:∀b,a b->M b\/W.heap.size<=b)(g:a c):ql a W c st:=by
 obtain⟨j,d,e⟩:=h.row;exact⟨g,⟨j,d,λi hi=>(e i hi).more f⟩,h.good⟩
theorem Qi(a:Nat->Value){i:Nat}(h:i<4):(#[a 0,a 1,a 2,a 3]:Array Value)[i]?=some (a i):=by
 rcases lt4 h with rfl|rfl|rfl|rfl<;>rfl
theorem EX(a:Nat->Value)(v:Value){i:Nat}(h:i<4):(#[a 0,a 1,a 2,a 3]:Array Value).setIfInBounds i v=#[if 0=i then v else a 0,if 1=i then v else a 1,if 2=i then v else a 2,if 3=i then v else a 3]:=by
 rcases lt4 h with rfl|rfl|rfl|rfl<;>rfl
theorem ql.set{M:Nat->Prop}{W:World}{a:Nat}{st:StO}(h:ql M W a st){i:Nat}(hi:i<4){v:Value}{L:List zt}(l:qR M W v L)(k:Zo L):ql M (W.setCell ⟨a,i,none⟩ v) a (upd st i L):=by
 obtain⟨c,f,g⟩:=h.row;have d:=zu.set (M:=M) W h.mine i v;refine⟨h.mine,⟨λj=>if j=i then v else c j,?_,λj b=>?_⟩,λj b=>?_⟩
 ·have:=heap_setCell_same W a i _ _ v f
  rw[EX c v hi] at this;exact this
 ·show qR M _ (if j=i then v else c j) (if j=i then L else st j)
  by_cases e:j=i
  ·rw[if_pos e,if_pos e];exact l.turn d
  ·rw[if_neg e,if_neg e];exact (g j b).turn d
 ·unfold upd
  by_cases e:j=i
  ·rw[if_pos e];exact k
  ·rw[if_neg e];exact h.good j b
def xe:StO:=λ_=>[]
theorem mr(M:Nat->Prop)(w:World)(d:M w.heap.size) :
  Calls prog 21 #[] w λe b=>e = .returned (.pointer (some ⟨w.heap.size,0,none⟩))/\Below w.heap.size w b/\ql M b w.heap.size xe:=by
 have a:ql M (w.alloc (.cells #[.slice none 0 0,.slice none 0 0,.slice none 0 0,.slice none 0 0] 101)) w.heap.size xe:=
  ⟨d,⟨λ_ => .slice none 0 0,heap_alloc_new w _,λi _=>iZ M _⟩,λi _=>⟨List.Pairwise.nil,by simp[xe],λx f=>by simp[xe] at f⟩⟩
 have c:=hid a;clear a;go_enter func21,ntmps21
 go_wp2
 go_ret;exact⟨rfl,nB w _,c.out⟩
def X5(st:StO)(l:Int)(name:BA):Int:=if yE l name=0 then (if zh (st l.toNat) name then 0 else 9) else yE l name
def X6(st:StO)(l:Int)(name:BA):StO:=if yE l name=0/\zh (st l.toNat) name=true then upd st l.toNat (vX (st l.toNat) (qa (st l.toNat) name)) else st
theorem ag{l:Int}{name:BA}(h:yE l name=0):∃i:Nat,l=(i:Int)/\i<4/\Ref.zO name=true:=by
 unfold yE at h
 cases h1:QL l with
 | false=>rw[h1] at h;simp at h
 | true=>
  rw[h1] at h
  cases h2:Ref.zO name with
  | false=>rw[h2] at h;simp at h
  | true=>
   unfold QL at h1;rw[Bool.and_eq_true,decide_eq_true_eq,decide_eq_true_eq] at h1;exact⟨l.toNat,by omega,by omega,rfl⟩
theorem Dt(o:Nat)(st:StO)(l:Int)(name:BA)(M:Nat->Prop)(w:World)(h:ql M w o st)(D:∀b,M b->b<w.heap.size)(hs:name.size<=maxLen) :
  Calls prog 29 #[.pointer (some ⟨o,0,none⟩),.int .i64 l,.string name] w λe G=>e = .returned (.int .i64 (X5 st l name))/\zu (λb=>b=o) w G/\ql M G o (X6 st l name):=by
 have z:=ah l name w hs
 by_cases hpl:yE l name=0
 ·obtain⟨i,rfl,hi,O⟩:=ag hpl;have S:X5 st (i:Int) name=if zh (st i) name then 0 else 9:=by unfold X5;rw[if_pos hpl];rfl
  have V:X6 st (i:Int) name=if zh (st i) name=true then upd st i (vX (st i) (qa (st i) name)) else st:=by
   unfold X6;simp only[Int.toNat_natCast,hpl,true_and]
  rw[S,V];rw[hpl] at z;have H:=hid z;have s:=hid h;have HM:=hid D;have a3:o<w.heap.size:=D o h.mine
  have L:∀(W:World) (v:Value),ql M W o st->Below w.heap.size w W->qR M W v (st i)->Calls prog 48 #[v,.string name] W λe G=>∃v,e = .returned (.tuple #[v,.bool (zh (st i) name)])/\Below W.heap.size W G/\(zh (st i) name=true->qR M G v (vX (st i) (qa (st i) name))):=λW v U hb hl=>
   Wi (st i) v name M W hl (by have:=(U.good i hi).2.1;omega) ((U.good i hi).1.down name) (λb N=>Nat.lt_of_lt_of_le (D b N) hb.size)
  have X:=(h.good i hi);have u:=X.less (qa (st i) name);obtain⟨b,hb⟩:=Nm (zh (st i) name);obtain⟨LN,q⟩:∃x,vX (st i) (qa (st i) name)=x:=⟨_,rfl⟩;simp only[hb,q] at L;simp only[hb,q];rw[q] at u;clear S V;have I:=hid L;have Z:=hid u;have k0:(0:Int)<=(i:Int):=Int.natCast_nonneg _;have k1:(i:Int)<4:=by omega
  clear z L X u hpl hb q D O
  cases b with
  | false=>
   simp only[Bool.false_eq_true,if_false];go_enter func29,ntmps29
   go_upto_region 4 with (go_at_call 42;refine H.out.mono ?_;rintro e B ⟨rfl,t⟩;have f:=hid t;clear t)
   obtain⟨r,j,g⟩:=(s.out.below f.out).row;have c0:B.cell? ⟨o,i,none⟩=some (r i):=(za j i).1.trans (Qi r hi);obtain⟨la,ln,lc,A⟩:∃a n c,r i = .slice a n c:=by obtain⟨a,c,e,_⟩:=g i hi;exact⟨a,_,c,e⟩
   have k:=g i hi;rw[A] at c0 k;have J:=hid (I.out B _ (s.out.below f.out) f.out k);clear j g A k I
   go_wp2_with (go_at_call 48;refine J.out.mono ?_;rintro e Q ⟨v,rfl,y,_⟩;have p:=hid (f.out.trans (y.mono f.out.size));clear y)
   go_ret;exact⟨rfl,zu.of p.out,s.out.below p.out⟩
  | true=>
   simp only[if_true];go_enter func29,ntmps29
   go_upto_region 4 with (go_at_call 42;refine H.out.mono ?_;rintro e B ⟨rfl,t⟩;have f:=hid t;clear t)
   obtain⟨r,j,g⟩:=(s.out.below f.out).row;have c0:B.cell? ⟨o,i,none⟩=some (r i):=(za j i).1.trans (Qi r hi);obtain⟨la,ln,lc,A⟩:∃a n c,r i = .slice a n c:=by obtain⟨a,c,e,_⟩:=g i hi;exact⟨a,_,c,e⟩
   have k:=g i hi;have K:=hid j;rw[A] at c0 k;have J:=hid (I.out B _ (s.out.below f.out) f.out k);have f1:=(za j i).2;clear j g k I
   go_upto_region 7 with (go_at_call 48;refine J.out.mono ?_;rintro e Q ⟨v,rfl,y,F⟩;have R:=hid (F (by trivial));have C:=hid y;have p:=hid (f.out.trans (y.mono f.out.size));clear y F)
   have m:=(C.out.block o (by have:=f.out.size;omega)).trans K.out;have d0:Q.cell? ⟨o,i,none⟩=some (r i):=(za m i).1.trans (Qi r hi);have f2:=(za m i).2;obtain⟨va,vn,vc,P⟩:∃a n c,v = .slice a n c:=by obtain⟨a,c,e,_⟩:=R.out;exact⟨a,_,c,e⟩
   subst P;have Y:=hid ((s.out.below p.out).set hi R.out Z.out);have HT:=hid ((zu.of (M:=λb=>b=o) p.out).trans (zu.set (M:=λb=>b=o) Q rfl i (.slice va vn vc)));rw[A] at d0;clear m A c0 f1;go_wp2_with fail;go_ret;exact⟨rfl,HT.out,Y.out⟩
 ·unfold X5 X6;rw[if_neg hpl,if_neg (λe=>hpl e.1)];obtain⟨E,T⟩:∃x,yE l name=x:=⟨_,rfl⟩;rw[T] at z hpl |-;have H:=hid z;have s:=hid h;have d:(E==0)=false:=by simpa using hpl
  have d2:(E != 0)=true:=by simpa using hpl
  clear z T h D;go_enter func29,ntmps29
  go_wp2_with (go_at_call 42;refine H.out.mono ?_;rintro e B ⟨rfl,t⟩;have f:=hid t;clear t)
  go_ret;exact⟨rfl,zu.of f.out,s.out.below f.out⟩
def QW(st:StO)(l:Int)(name:BA):Int:=if yE l name=0 then (if zh (st l.toNat) name then 0 else 9) else yE l name
def Y5(st:StO)(l:Int)(name:BA):List zw:=match (st l.toNat)[qa (st l.toNat) name]? with
 | some x=>x.2
 | none=>[]
def XC(st:StO)(l:Int)(name:BA):BA:=if yE l name=0/\zh (st l.toNat) name=true then yA (Y5 st l name) else ⟨#[]⟩
theorem Rp(R:Nat)(st:StO)(l:Int)(name:BA)(M:Nat->Prop)(w:World)(h:ql M w R st)(hs:name.size<=maxLen) :
  Calls prog 23 #[.pointer (some ⟨R,0,none⟩),.int .i64 l,.string name] w λe S=>e = .returned (.tuple #[.string (XC st l name),.int .i64 (QW st l name)])/\Below w.heap.size w S:=by
 have u:=ah l name w hs
 by_cases hpl:yE l name=0
 ·obtain⟨i,rfl,hi,Y⟩:=ag hpl;have G:QW st (i:Int) name=if zh (st i) name then 0 else 9:=by unfold QW;rw[if_pos hpl];rfl
  have hA:XC st (i:Int) name=if zh (st i) name=true then yA (Y5 st (i:Int) name) else ⟨#[]⟩:=by
   unfold XC;simp only[Int.toNat_natCast,hpl,true_and]
  rw[G,hA];rw[hpl] at u;have O:=hid u;have Z:=hid h;have p:∀x,(st i)[qa (st i) name]?=some x->Y5 st (i:Int) name=x.2:=λx s=>by unfold Y5;simp only[Int.toNat_natCast];rw[s]
  have K:∀x,(st i)[qa (st i) name]?=some x->Qz x.2:=λx s=>(h.good i hi).2.2 x (List.mem_of_getElem? s)
  have X:∀(W:World) (v:Value),Below w.heap.size w W->qR M W v (st i)->Calls prog 43 #[v,.string name] W λe S=>∃C F D,e = .returned (.tuple #[.agg #[.slice C F D],.bool (zh (st i) name)])/\Below W.heap.size W S/\(zh (st i) name=true->∃x,(st i)[qa (st i) name]?=some x/\xH M S (.slice C F D) x.2):=λW v hb hl=>
   IM (st i) v name M W hl (by have:=(h.good i hi).2.1;omega) ((h.good i hi).1.down name)
  obtain⟨b,hb⟩:=Nm (zh (st i) name);simp only[hb] at X;simp only[hb];have Q:=hid X;have HD:=hid p;have HS:=hid K;have k0:(0:Int)<=(i:Int):=Int.natCast_nonneg _;have k1:(i:Int)<4:=by omega
  clear u X p K hpl hb Y hA G
  cases b with
  | false=>
   simp only[Bool.false_eq_true,if_false];go_enter func23,ntmps23
   go_upto_region 4 with (go_at_call 42;refine O.out.mono ?_;rintro e y ⟨rfl,o⟩;have f:=hid o;clear o)
   obtain⟨t,j,g⟩:=(Z.out.below f.out).row;have c0:y.cell? ⟨R,i,none⟩=some (t i):=(za j i).1.trans (Qi t hi);obtain⟨la,ln,lc,L⟩:∃a n c,t i = .slice a n c:=by obtain⟨a,c,e,_⟩:=g i hi;exact⟨a,_,c,e⟩
   have k:=g i hi;rw[L] at c0 k;have P:=hid (Q.out y _ f.out k);clear j g L k Q
   go_wp2_with (go_at_call 43;refine P.out.mono ?_;rintro e N ⟨C,F,D,rfl,B,_⟩;have m:=hid (f.out.trans (B.mono f.out.size));clear B)
   go_ret2;exact⟨rfl,m.out.alloc m.out.size _⟩
  | true=>
   simp only[if_true];go_enter func23,ntmps23
   go_upto_region 4 with (go_at_call 42;refine O.out.mono ?_;rintro e y ⟨rfl,o⟩;have f:=hid o;clear o)
   obtain⟨t,j,g⟩:=(Z.out.below f.out).row;have c0:y.cell? ⟨R,i,none⟩=some (t i):=(za j i).1.trans (Qi t hi);obtain⟨la,ln,lc,L⟩:∃a n c,t i = .slice a n c:=by obtain⟨a,c,e,_⟩:=g i hi;exact⟨a,_,c,e⟩
   have k:=g i hi;rw[L] at c0 k;have P:=hid (Q.out y _ f.out k);clear j g L k Q
   go_upto_region 7 with (go_at_call 43;refine P.out.mono ?_;rintro e N ⟨C,F,D,rfl,B,J⟩;have A:=hid (J (by trivial));have m:=hid (f.out.trans (B.mono f.out.size));clear B J)
   obtain⟨x,s,I⟩:=A.out;have V:Below N.heap.size N (N.alloc (.cells #[.slice C F D] 72)):=nB N _;obtain⟨base,H⟩:=(I.turn (zu.of V)).at;have r:=HS.out x s;have q:=NT x.2 _ base _ H r.1 r.2.1;rw[<- HD.out x s] at q;have T:=hid q;have z:=hid (m.out.trans (V.mono m.out.size));clear q H r I s V A P
   go_wp2_with (go_at_call 35;refine T.out.mono ?_;rintro e w5 ⟨rfl,b5⟩;have U:=hid (z.out.trans (b5.mono z.out.size));clear b5)
   go_ret2;exact⟨rfl,U.out⟩
 ·unfold QW XC;rw[if_neg hpl,if_neg (λe=>hpl e.1)];obtain⟨E,G⟩:∃x,yE l name=x:=⟨_,rfl⟩;rw[G] at u hpl |-;have O:=hid u;have d:(E==0)=false:=by simpa using hpl
  have d2:(E != 0)=true:=by simpa using hpl
  clear u G h;go_enter func23,ntmps23
  go_wp2_with (go_at_call 42;refine O.out.mono ?_;rintro e y ⟨rfl,o⟩;have f:=hid o;clear o)
  go_ret2;exact⟨rfl,f.out⟩
def Jz(st:StO)(l:Int)(name text:BA):Bool:=decide (yE l name=0)&&decide ((Rd.xS text).1=0)&&(zh (st l.toNat) name||decide ((st l.toNat).length<4))
def vC(st:StO)(l:Int)(name text:BA):Int×Nat:=if yE l name=0 then (if (Rd.xS text).1=0 then (if zh (st l.toNat) name||decide ((st l.toNat).length<4) then (0,0) else (10,0)) else Rd.xS text) else (yE l name,0)
def yS(st:StO)(l:Int)(name text:BA):StO:=if Jz st l name text then upd st l.toNat (qY (st l.toNat) name (xP text)) else st
theorem rX(s:BA)(c:(Rd.xS s).1=0):Qz (xP s):=by
 obtain⟨d,e,f⟩:=rD s c;have g:xP s=(vI s).map jI:=f;rw[g];refine⟨by rw[List.length_map];exact e,λx a=>?_,λx a=>?_⟩
 ·rw[List.mem_map] at a;obtain⟨r,b,rfl⟩:=a;exact Rt (d r b).2
 ·rw[List.mem_map] at a;obtain⟨r,b,rfl⟩:=a;exact EA s c r b
theorem au(I:Nat)(st:StO)(l:Int)(name text:BA)(M:Nat->Prop)(aL:Addr)(w:World)(hC:ZU w aL)(h:ql M w I st)(hM:∀b,M b->b<w.heap.size)(hs:name.size<=maxLen) :
  Calls prog 24 #[.pointer (some ⟨I,0,none⟩),.int .i64 l,.string name,.string text] w λe S=>e = .returned (.tuple #[.int .i64 (vC st l name text).1,.int .i64 ((vC st l name text).2:Int)])/\zu (λb=>b=I) w S/\ql M S I (yS st l name text):=by
 have cp:=ah l name w hs
 by_cases hpl:yE l name=0
 ·obtain⟨i,rfl,hi,X⟩:=ag hpl;rw[hpl] at cp;have CP:=hid cp;have HO:=hid h;have d9:=hid hC;have e7:I<w.heap.size:=hM I h.mine;have U:=λW (hb:Below w.heap.size w W)=>Dl text W _ _ _ rfl (hC.below hb).q;have r:=rX text;have k0:(0:Int)<=(i:Int):=Int.natCast_nonneg _;have k1:(i:Int)<4:=by omega
  by_cases hd:(Rd.xS text).1=0
  ·have hA:vC st (i:Int) name text=if (zh (st i) name||decide ((st i).length<4))=true then (0,0) else (10,0):=by
    unfold vC;rw[if_pos hpl,if_pos hd]
    rfl
   have hS:yS st (i:Int) name text=if (zh (st i) name||decide ((st i).length<4))=true then upd st i (qY (st i) name (xP text)) else st:=by
    unfold yS Jz;rw[decide_eq_true hpl,decide_eq_true hd];simp only[Int.toNat_natCast,Bool.true_and]
   rw[hA,hS]
   have b7:name.size<=281474976710656:=by
    by_cases e:1<=name.size/\name.size<=12
    ·omega
    ·rw[Ref.Kv name e] at X;cases X
   have cw:∀(W:World) (v:Value) (s:Option Addr) (n t:Nat),Below w.heap.size w W->qR M W v (st i)->xH M W (.slice s n t) (xP text)->Calls prog 44 #[v,.string name,.agg #[.slice s n t]] W λe S=>∃v,e = .returned (.tuple #[v,.bool (zh (st i) name||decide ((st i).length<4))])/\Below W.heap.size W S/\((zh (st i) name||decide ((st i).length<4))=true->qR M S v (qY (st i) name (xP text))):=λW v s n t hb hl c7=>
    Wh (st i) v name s n t (xP text) M W hl (by have:=(h.good i hi).2.1;omega) ((h.good i hi).1.down name) (λb c6=>Nat.lt_of_lt_of_le (hM b c6) hb.size) c7 b7
   have a8:(zh (st i) name||decide ((st i).length<4))=true->Zo (qY (st i) name (xP text)):=λho=>(h.good i hi).with ho (r hd)
   obtain⟨b,hb⟩:=Nm ((zh (st i) name||decide ((st i).length<4)));simp only[hb] at cw a8;simp only[hb];obtain⟨⟨c,q⟩,F⟩:∃x,Rd.xS text=x:=⟨_,rfl⟩;rw[F] at hd;simp only[F] at U;unfold Q9 at U;simp only at hd U;subst hd;have CR:=hid U;have HW:=hid cw;have c2:=hid a8;have HM:=hid hM;clear cp U cw a8 hA hS hb F r h hC hM hpl X
   cases b with
   | false=>
    simp only[Bool.false_eq_true,if_false];go_enter func24,ntmps24
    go_upto_region 4 with (go_at_call 42;refine CP.out.mono ?_;rintro e w1 ⟨rfl,N⟩;have f:=hid N;clear N)
    have Z:=hid (CR.out w1 f.out);clear CR
    go_upto_region 5 with (go_at_call 32;refine Z.out.mono ?_;rintro e D ⟨s,n,t,u,rfl,C,b2,R⟩;have K:=hid (R (by trivial));have H:=hid C;have z:=hid (f.out.trans (b2.mono f.out.size));clear b2 C R)
    obtain rfl:u = .nilIface:=by
     rcases U8 rfl H.out with ⟨_,e⟩|⟨e,_⟩
     ·exact e
     ·exact absurd rfl e
    obtain⟨g,k⟩:∃W,D.alloc (.cells #[.slice s n t] 72)=W:=⟨_,rfl⟩;have j:Hid (Below w.heap.size w g):=hid (by rw[<- k];exact z.out.alloc z.out.size _);have O:Below D.heap.size D g:=by rw[<- k];exact nB D _
    have e0:g.cell? ⟨D.heap.size,0,none⟩=some (.slice s n t):=by rw[<- k];exact (za (heap_alloc_new D _) 0).1
    have B:xH M g (.slice s n t) (xP text):=xH.of (K.out.below O) (λb hb=>Nat.lt_of_lt_of_le (HM.out b hb) f.out.size);obtain⟨Y,o,m⟩:=(HO.out.below j.out).row;have c0:g.cell? ⟨I,i,none⟩=some (Y i):=(za o i).1.trans (Qi Y hi);obtain⟨xa,xn,xc,hv⟩:∃a n c,Y i = .slice a n c:=by obtain⟨a,c,e,_⟩:=m i hi;exact⟨a,_,c,e⟩
    have V:Below g.heap.size g g.drew:=(Below.refl _ g).drew;have L:=hid (HW.out g.drew (Y i) s n t (j.out.trans (V.mono j.out.size)) ((m i hi).turn (zu.of V)) (B.turn (zu.of V)));have b4:=hid o;rw[hv] at c0 L;rw[k];clear o m B HW K Z V O k
    go_upto_region 7 with fail
    go_region_held3 (λS=>S.cell? ⟨I,i,none⟩=some (.slice xa xn xc)/\S.cell? ⟨D.heap.size,0,none⟩=some (.slice s n t)) (go_keep) (first|((go_at_call 44);refine L.out.mono ?_;rintro e w5 ⟨v,rfl,J,P⟩;have a4:=hid P;have g0:=zb J c0;have g1:=zb J e0;have G:Hid (Below g.heap.size g w5):=(((Below.refl _ g).drew).trans J);have A:=hid (j.out.trans (G.out.mono j.out.size));clear J P))
    go_wp2_with fail;go_ret2;exact⟨rfl,zu.of A.out,HO.out.below A.out⟩
   | true=>
    simp only[if_true];go_enter func24,ntmps24
    go_upto_region 4 with (go_at_call 42;refine CP.out.mono ?_;rintro e w1 ⟨rfl,N⟩;have f:=hid N;clear N)
    have Z:=hid (CR.out w1 f.out);clear CR
    go_upto_region 5 with (go_at_call 32;refine Z.out.mono ?_;rintro e D ⟨s,n,t,u,rfl,C,b2,R⟩;have K:=hid (R (by trivial));have H:=hid C;have z:=hid (f.out.trans (b2.mono f.out.size));clear b2 C R)
    obtain rfl:u = .nilIface:=by
     rcases U8 rfl H.out with ⟨_,e⟩|⟨e,_⟩
     ·exact e
     ·exact absurd rfl e
    obtain⟨g,k⟩:∃W,D.alloc (.cells #[.slice s n t] 72)=W:=⟨_,rfl⟩;have j:Hid (Below w.heap.size w g):=hid (by rw[<- k];exact z.out.alloc z.out.size _);have O:Below D.heap.size D g:=by rw[<- k];exact nB D _
    have e0:g.cell? ⟨D.heap.size,0,none⟩=some (.slice s n t):=by rw[<- k];exact (za (heap_alloc_new D _) 0).1
    have B:xH M g (.slice s n t) (xP text):=xH.of (K.out.below O) (λb hb=>Nat.lt_of_lt_of_le (HM.out b hb) f.out.size);obtain⟨Y,o,m⟩:=(HO.out.below j.out).row;have c0:g.cell? ⟨I,i,none⟩=some (Y i):=(za o i).1.trans (Qi Y hi);obtain⟨xa,xn,xc,hv⟩:∃a n c,Y i = .slice a n c:=by obtain⟨a,c,e,_⟩:=m i hi;exact⟨a,_,c,e⟩
    have V:Below g.heap.size g g.drew:=(Below.refl _ g).drew;have L:=hid (HW.out g.drew (Y i) s n t (j.out.trans (V.mono j.out.size)) ((m i hi).turn (zu.of V)) (B.turn (zu.of V)));have b4:=hid o;rw[hv] at c0 L;rw[k];clear o m B HW K Z V O k
    go_upto_region 7 with fail
    go_region_held3 (λS=>S.cell? ⟨I,i,none⟩=some (.slice xa xn xc)/\S.cell? ⟨D.heap.size,0,none⟩=some (.slice s n t)) (go_keep) (first|((go_at_call 44);refine L.out.mono ?_;rintro e w5 ⟨v,rfl,J,P⟩;have a4:=hid P;have g0:=zb J c0;have g1:=zb J e0;have G:Hid (Below g.heap.size g w5):=(((Below.refl _ g).drew).trans J);have A:=hid (j.out.trans (G.out.mono j.out.size));clear J P))
    have HL:=hid (a4.out (by trivial));have Q:=(G.out.block I (by have:=j.out.size;omega)).trans b4.out;have f2:=(za Q i).2;obtain⟨va,vn,vc,c9⟩:∃a n c,v = .slice a n c:=by obtain⟨a,c,e,_⟩:=HL.out;exact⟨a,_,c,e⟩
    subst c9;have HF:=hid ((HO.out.below A.out).set hi HL.out (c2.out (by trivial)));have HT:=hid ((zu.of (M:=λb=>b=I) A.out).trans (zu.set (M:=λb=>b=I) w5 rfl i (.slice va vn vc)));clear Q a4 HL;go_wp2_with fail;go_ret2;exact⟨rfl,HT.out,HF.out⟩
  ·have hA:vC st (i:Int) name text=Rd.xS text:=by
    unfold vC;rw[if_pos hpl,if_neg hd]
   have hS:yS st (i:Int) name text=st:=by
    unfold yS Jz;rw[decide_eq_false hd]
    simp
   rw[hA,hS];obtain⟨⟨c,q⟩,F⟩:∃x,Rd.xS text=x:=⟨_,rfl⟩;rw[F] at hd |-;simp only[F] at U;unfold Q9 at U;simp only at hd U |-;have ce:=λW u (hb:Below w.heap.size w W) h=>Ee c q u aL W (hC.below hb).q.p.d.err (hC.below hb).q.long h;have CR:=hid U;have CE:=hid ce;clear cp U ce hA hS F r h hC hM hpl X;go_enter func24,ntmps24
   go_upto_region 4 with (go_at_call 42;refine CP.out.mono ?_;rintro e w1 ⟨rfl,N⟩;have f:=hid N;clear N)
   have Z:=hid (CR.out w1 f.out);clear CR
   go_upto_region 5 with (go_at_call 32;refine Z.out.mono ?_;rintro e D ⟨s,n,t,u,rfl,C,b2,_⟩;have H:=hid C;have z:=hid (f.out.trans (b2.mono f.out.size));clear b2 C)
   obtain⟨T,y,rfl⟩:∃T y,u = .iface T y:=by
    rcases U8 rfl H.out with ⟨e,_⟩|⟨_,T,y,e⟩
    ·exact absurd e hd
    ·exact⟨T,y,e⟩
   have a3:=hid (z.out.alloc z.out.size (.cells #[.slice s n t] 72));have c1:=hid (CE.out _ _ a3.out H.out);clear CE Z
   go_wp2_with (go_at_call 33;refine c1.out.mono ?_;rintro e w5 ⟨rfl,J⟩;have A:=hid (a3.out.trans (J.mono a3.out.size));clear J)
   go_ret2;exact⟨rfl,zu.of A.out,HO.out.below A.out⟩
 ·unfold vC
  have hS:yS st l name text=st:=by
   unfold yS Jz;rw[decide_eq_false hpl]
   simp
  rw[if_neg hpl,hS];obtain⟨E,hE⟩:∃x,yE l name=x:=⟨_,rfl⟩;rw[hE] at cp hpl |-;have CP:=hid cp;have HO:=hid h;have d:(E==0)=false:=by simpa using hpl
  have d2:(E != 0)=true:=by simpa using hpl
  clear cp hE h hM hC hS;go_enter func24,ntmps24
  go_wp2_with (go_at_call 42;refine CP.out.mono ?_;rintro e w1 ⟨rfl,N⟩;have f:=hid N;clear N)
  go_ret2;exact⟨rfl,zu.of f.out,HO.out.below f.out⟩
end Go.Proofs.YtdakgnaojakldaaGreatDoor
