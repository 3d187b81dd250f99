/- P -/
import Derived.Test.YtdakgnaojakldaaGreatDoorF34
open Go.Proofs.Tryz
set_option maxRecDepth 100000
set_option maxHeartbeats 4000000
namespace Go.Proofs.YtdakgnaojakldaaGreatDoor
def XB(c:zW):Prop:=(Ref.qZ c.op=true/\c.vals=[])\/(Ref.qZ c.op=false/\Ref.Qe c.op c.vals=true/\(Ref.qE c.op=true->∀v ∈ c.vals,Ref.qX v=true))
structure XC (s:zA):Prop where
 who:∀p ∈ s.who.2,Ref.qX p=true
 act:∀p ∈ s.act.2,Ref.qX p=true
 on:∀p ∈ s.on.2,Ref.qX p=true
 ifs:∀c ∈ s.ifs,XB c
theorem Aw(v:Rd.V)(c:(Rd.qB v).sh=false)(e:(Rd.qB v).pt=false):XB (toS (Rd.qB v)):=by
 match v with
 | .str s=>exact absurd c (by simp[Rd.qB,Ref.yG])
 | .word b=>exact absurd c (by simp[Rd.qB,Ref.yG])
 | .list l=>exact absurd c (by simp[Rd.qB,Ref.yG])
 | .obj ms=>
  obtain⟨R,a⟩:=Nm (Rd.qB (.obj ms));rw[a] at c e |-;simp only[Rd.qB,Rd.QB] at a
  cases h1:Rd.opV (Rd.zf ms Ref.bOp) with
  | none=>rw[h1] at a;subst a;simp[Ref.yG] at c
  | some op=>
   rw[h1] at a
   cases h2:Rd.opV (Rd.zf ms Ref.zo) with
   | none=>rw[h2] at a;subst a;simp[Ref.yG] at c
   | some key=>
    rw[h2] at a;simp only at a
    by_cases ca:Ref.qZ op=true
    ·rw[if_pos ca] at a;subst a;exact .inl ⟨ca,rfl⟩
    ·rw[if_neg ca] at a;subst a;simp only[Bool.or_eq_false_iff,Bool.not_eq_false'] at c;refine .inr ⟨Bool.eq_false_iff.2 ca,c.1.1.2.2,λf v g=>?_⟩;have d:Ref.qE op=true:=f;simp only[d,Bool.true_and,Bool.not_eq_false'] at e;exact List.all_eq_true.1 e v g
theorem Ui{c:Bool×Option (List BA)}(h:Rd.chP c=false):∀p ∈ (Rd.chD c).2,Ref.qX p=true:=by
 unfold Rd.chP at h;rw[Bool.not_eq_false'] at h;exact λp a=>List.all_eq_true.1 h p a
theorem AP(x:Option Rd.V)(a:(Rd.qH x).sh=false)(e:(Rd.qH x).pt=false):∀c ∈ (Rd.qH x).cs.map toS,XB c:=by
 intro c d
 match x with
 | none=>simp[Rd.qH] at d
 | some (.str s)=>simp[Rd.qH] at a
 | some (.word b)=>simp[Rd.qH] at a
 | some (.obj ms)=>simp[Rd.qH] at a
 | some (.list vs)=>
  simp only[Rd.qH] at a e d
  by_cases c5:5<vs.length
  ·rw[if_pos c5] at a;simp at a
  ·rw[if_neg c5] at a e d;simp only[List.any_map,List.any_eq_false,Function.comp] at a e;simp only[List.map_map,List.mem_map,Function.comp] at d;obtain⟨v,f,rfl⟩:=d;exact Aw v (by simpa using a v f) (by simpa using e v f)
theorem Ra(v:Rd.V)(a:(Rd.xw v).sh=false)(c:(Rd.xw v).pt=false):XC (jF (Rd.xw v)):=by
 match v with
 | .str s=>exact absurd a (by simp[Rd.xw,Rd.vz])
 | .word b=>exact absurd a (by simp[Rd.xw,Rd.vz])
 | .list l=>exact absurd a (by simp[Rd.xw,Rd.vz])
 | .obj ms=>
  simp only[Rd.xw,Rd.Yp] at a c |-
  split at a
  ·rename_i eff d e;rw[d,e] at c;simp only[Rd.X7,Bool.or_eq_false_iff] at a c;obtain⟨⟨⟨f,g⟩,h⟩,i⟩:=c;exact⟨Ui f,Ui g,Ui h,AP _ a.2 i⟩
  ·simp[Rd.vz] at a
theorem Dy(s:BA)(h:(Rd.xW s).1=0):∀r ∈ vI s,XC (jF r):=by
 unfold Rd.xW at h;unfold vI
 by_cases h1:4000<s.size
 ·rw[if_pos h1] at h;simp at h
 rw[if_neg h1] at h;rw[if_neg h1]
 cases hm:Rd.xO s.data.toList with
 | err e q=>intro r d;simp at d
 | ok v q=>
  rw[hm] at h;simp only at h |-
  match v with
  | .str t=>simp[Rd.ut] at h
  | .word b=>simp[Rd.ut] at h
  | .list l=>simp[Rd.ut] at h
  | .obj ms=>
   simp only[Rd.ut] at h
   match hx:Rd.zf ms Rd.y8 with
   | none=>rw[hx] at h;simp at h
   | some (.str t)=>rw[hx] at h;simp at h
   | some (.word b)=>rw[hx] at h;simp at h
   | some (.obj ms)=>rw[hx] at h;simp at h
   | some (.list vs)=>
    rw[hx] at h;simp only at h;have f:qb (stX (.obj ms))=vs:=by simp[qb,stX,hx]
    rw[f]
    by_cases c:ms.length≠1\/vs.length<1\/10<vs.length
    ·rw[if_pos c] at h;simp at h
    rw[if_neg c] at h;intro r d;obtain⟨a,b⟩:=UO _ _ h r d;rw[List.mem_map] at d;obtain⟨v,f,rfl⟩:=d;exact Ra v a b
end Go.Proofs.YtdakgnaojakldaaGreatDoor
namespace Go.Proofs.YtdakgnaojakldaaGreatDoor
open Go.RowKit
abbrev StO:=Nat->List zk
def upd(a:StO)(i:Nat)(L:List zk):StO:=λj=>if j=i then L else a j
def Q6(a:List zA):Prop:=a.length<=10/\(∀s ∈ a,V5 s)/\∀s ∈ a,XC s
def Zn(L:List zk):Prop:=xI L/\L.length<=4/\∀x ∈ L,Q6 x.2
theorem Zn.less{L:List zk}(h:Zn L)(p:Nat):Zn (vk L p):=
 ⟨h.1.less p,Hq p h.2.1,λx a=>h.2.2 x (by
  unfold vk at a
  rcases List.mem_append.1 a with a|a
  ·exact List.mem_of_mem_take a
  ·exact List.mem_of_mem_drop a)⟩
theorem Zn.with{L:List zk}(h:Zn L){name:BA}{b:List zA}(c:(zl L name||decide (L.length<4))=true)(d:Q6 b):Zn (yt L name b):=
 ⟨h.1.with name b,SV h.2.1 c,λx a=>by
  unfold yt at a
  rcases List.mem_append.1 a with a|a
  ·rcases List.mem_append.1 a with a|a
   ·exact h.2.2 x (List.mem_of_mem_take a)
   ·rw[List.mem_singleton] at a;subst a;exact d
  ·exact h.2.2 x (List.mem_of_mem_drop a)⟩
structure qf (M:Nat->Prop) (W:World) (ob:Nat) (st:StO):Prop where
 mine:M ob
 row:∃vs:Nat->Value,W.heap[ob]?=some (.cells #[vs 0,vs 1,vs 2,vs 3] 101)/\∀i,i<4->qO M W (vs i) (st i)
 good:∀i,i<4->Zn (st i)
theorem lt4{i:Nat}(h:i<4):i=0\/i=1\/i=2\/i=3:=by omega
theorem qf.below{M:Nat->Prop}{W b:World}{a:Nat}{d:StO}(h:qf M W a d)(hb:Below W.heap.size W b):qf M b a d:=by
 obtain⟨f,c,e⟩:=h.row;exact⟨h.mine,⟨f,(hb.block a (lt_of_block c)).trans c,λi hi=>(e i hi).turn (zx.of hb)⟩,h.good⟩
theorem qf.other{M:Nat->Prop}{W f:World}{c a:Nat}{l:StO}(h:qf M W c l)(j:zx (λb=>b=a) W f)(d:c≠a)(n:M a):qf M f c l:=by
 obtain⟨o,g,m⟩:=h.row;exact⟨h.mine,⟨o,(j.block c (lt_of_block g) d).trans g,λi hi=>(m i hi).turn (j.wide (λk _ e=>by rw[e];exact n))⟩,h.good⟩
theorem qf.more{M a:Nat->Prop}{W:World}{c:Nat}{d:StO}(h:qf M W c d)(g:∀b,a b->M b\/W.heap.size<=b)(j:a c):qf a W c d:=by
 obtain⟨k,e,f⟩:=h.row;exact⟨j,⟨k,e,λi hi=>(f i hi).more g⟩,h.good⟩
theorem QE(a:Nat->Value){i:Nat}(h:i<4):(#[a 0,a 1,a 2,a 3]:Array Value)[i]?=some (a i):=by
 rcases lt4 h with rfl|rfl|rfl|rfl<;>rfl
theorem Ed(a:Nat->Value)(v:Value){i:Nat}(h:i<4):(#[a 0,a 1,a 2,a 3]:Array Value).setIfInBounds i v=#[if 0=i then v else a 0,if 1=i then v else a 1,if 2=i then v else a 2,if 3=i then v else a 3]:=by
 rcases lt4 h with rfl|rfl|rfl|rfl<;>rfl
theorem qf.set{M:Nat->Prop}{W:World}{a:Nat}{c:StO}(h:qf M W a c){i:Nat}(hi:i<4){v:Value}{L:List zk}(m:qO M W v L)(l:Zn L):qf M (W.setCell ⟨a,i,none⟩ v) a (upd c i L):=by
 obtain⟨d,g,k⟩:=h.row;have f:=zx.set (M:=M) W h.mine i v;refine⟨h.mine,⟨λj=>if j=i then v else d j,?_,λj b=>?_⟩,λj b=>?_⟩
 ·have:=heap_setCell_same W a i _ _ v g
  rw[Ed d v hi] at this;exact this
 ·show qO M _ (if j=i then v else d j) (if j=i then L else c j)
  by_cases e:j=i
  ·rw[if_pos e,if_pos e];exact m.turn f
  ·rw[if_neg e,if_neg e];exact (k j b).turn f
 ·unfold upd
  by_cases e:j=i
  ·rw[if_pos e];exact l
  ·rw[if_neg e];exact h.good j b
def qm:StO:=λ_=>[]
theorem Kq(M:Nat->Prop)(w:World)(d:M w.heap.size) :
  Calls prog 21 #[] w λe b=>e = .returned (.pointer (some ⟨w.heap.size,0,none⟩))/\Below w.heap.size w b/\qf M b w.heap.size qm:=by
 have a:qf M (w.alloc (.cells #[.slice none 0 0,.slice none 0 0,.slice none 0 0,.slice none 0 0] 101)) w.heap.size qm:=
  ⟨d,⟨λ_ => .slice none 0 0,heap_alloc_new w _,λi _=>gX M _⟩,λi _=>⟨List.Pairwise.nil,by simp[qm],λx f=>by simp[qm] at f⟩⟩
 have c:=hid a;clear a;go_enter func21,ntmps21
 go_wp2
 go_ret;exact⟨rfl,nB w _,c.out⟩
def JW(a:StO)(l:Int)(name:BA):Int:=if jf l name=0 then (if zl (a l.toNat) name then 0 else 9) else jf l name
def XT(a:StO)(l:Int)(name:BA):StO:=if jf l name=0/\zl (a l.toNat) name=true then upd a l.toNat (vk (a l.toNat) (qj (a l.toNat) name)) else a
theorem mM{l:Int}{name:BA}(h:jf l name=0):∃i:Nat,l=(i:Int)/\i<4/\Ref.zI name=true:=by
 unfold jf at h
 cases h1:vg l with
 | false=>rw[h1] at h;simp at h
 | true=>
  rw[h1] at h
  cases h2:Ref.zI name with
  | false=>rw[h2] at h;simp at h
  | true=>
   unfold vg at h1;rw[Bool.and_eq_true,decide_eq_true_eq,decide_eq_true_eq] at h1;exact⟨l.toNat,by omega,by omega,rfl⟩
theorem BU(p:Nat)(k:StO)(l:Int)(name:BA)(M:Nat->Prop)(w:World)(h:qf M w p k)(F:∀b,M b->b<w.heap.size)(hs:name.size<=maxLen) :
  Calls prog 29 #[.pointer (some ⟨p,0,none⟩),.int .i64 l,.string name] w λe H=>e = .returned (.int .i64 (JW k l name))/\zx (λb=>b=p) w H/\qf M H p (XT k l name):=by
 have A:=mO l name w hs
 by_cases hpl:jf l name=0
 ·obtain⟨i,rfl,hi,P⟩:=mM hpl;have T:JW k (i:Int) name=if zl (k i) name then 0 else 9:=by unfold JW;rw[if_pos hpl];rfl
  have X:XT k (i:Int) name=if zl (k i) name=true then upd k i (vk (k i) (qj (k i) name)) else k:=by
   unfold XT;simp only[Int.toNat_natCast,hpl,true_and]
  rw[T,X];rw[hpl] at A;have I:=hid A;have t:=hid h;have HM:=hid F;have a4:p<w.heap.size:=F p h.mine
  have N:∀(W:World) (v:Value),qf M W p k->Below w.heap.size w W->qO M W v (k i)->Calls prog 48 #[v,.string name] W λe H=>∃v,e = .returned (.tuple #[v,.bool (zl (k i) name)])/\Below W.heap.size W H/\(zl (k i) name=true->qO M H v (vk (k i) (qj (k i) name))):=λW v V hb hl=>
   SY (k i) v name M W hl (by have:=(V.good i hi).2.1;omega) ((V.good i hi).1.down name) (λb O=>Nat.lt_of_lt_of_le (F b O) hb.size)
  have Y:=(h.good i hi);have y:=Y.less (qj (k i) name);obtain⟨b,hb⟩:=Nm (zl (k i) name);obtain⟨LN,r⟩:∃x,vk (k i) (qj (k i) name)=x:=⟨_,rfl⟩;simp only[hb,r] at N;simp only[hb,r];rw[r] at y;clear T X;have J:=hid N;have HG:=hid y;have k0:(0:Int)<=(i:Int):=Int.natCast_nonneg _;have k1:(i:Int)<4:=by omega
  clear A N Y y hpl hb r F P
  cases b with
  | false=>
   simp only[Bool.false_eq_true,if_false];go_enter func29,ntmps29
   go_upto_region 4 with (go_at_call 42;refine I.out.mono ?_;rintro e C ⟨rfl,u⟩;have f:=hid u;clear u)
   obtain⟨s,j,g⟩:=(t.out.below f.out).row;have c0:C.cell? ⟨p,i,none⟩=some (s i):=(za j i).1.trans (QE s hi);obtain⟨la,ln,lc,B⟩:∃a n c,s i = .slice a n c:=by obtain⟨a,c,e,_⟩:=g i hi;exact⟨a,_,c,e⟩
   have m:=g i hi;rw[B] at c0 m;have K:=hid (J.out C _ (t.out.below f.out) f.out m);clear j g B m J
   go_wp2_with (go_at_call 48;refine K.out.mono ?_;rintro e R ⟨v,rfl,z,_⟩;have q:=hid (f.out.trans (z.mono f.out.size));clear z)
   go_ret;exact⟨rfl,zx.of q.out,t.out.below q.out⟩
  | true=>
   simp only[if_true];go_enter func29,ntmps29
   go_upto_region 4 with (go_at_call 42;refine I.out.mono ?_;rintro e C ⟨rfl,u⟩;have f:=hid u;clear u)
   obtain⟨s,j,g⟩:=(t.out.below f.out).row;have c0:C.cell? ⟨p,i,none⟩=some (s i):=(za j i).1.trans (QE s hi);obtain⟨la,ln,lc,B⟩:∃a n c,s i = .slice a n c:=by obtain⟨a,c,e,_⟩:=g i hi;exact⟨a,_,c,e⟩
   have m:=g i hi;have L:=hid j;rw[B] at c0 m;have K:=hid (J.out C _ (t.out.below f.out) f.out m);have f1:=(za j i).2;clear j g m J
   go_upto_region 7 with (go_at_call 48;refine K.out.mono ?_;rintro e R ⟨v,rfl,z,G⟩;have S:=hid (G (by trivial));have D:=hid z;have q:=hid (f.out.trans (z.mono f.out.size));clear z G)
   have o:=(D.out.block p (by have:=f.out.size;omega)).trans L.out;have d0:R.cell? ⟨p,i,none⟩=some (s i):=(za o i).1.trans (QE s hi);have f2:=(za o i).2;obtain⟨va,vn,vc,Q⟩:∃a n c,v = .slice a n c:=by obtain⟨a,c,e,_⟩:=S.out;exact⟨a,_,c,e⟩
   subst Q;have Z:=hid ((t.out.below q.out).set hi S.out HG.out);have HT:=hid ((zx.of (M:=λb=>b=p) q.out).trans (zx.set (M:=λb=>b=p) R rfl i (.slice va vn vc)));rw[B] at d0;clear o B c0 f1;go_wp2_with fail;go_ret;exact⟨rfl,HT.out,Z.out⟩
 ·unfold JW XT;rw[if_neg hpl,if_neg (λe=>hpl e.1)];obtain⟨E,U⟩:∃x,jf l name=x:=⟨_,rfl⟩;rw[U] at A hpl |-;have I:=hid A;have t:=hid h;have d:(E==0)=false:=by simpa using hpl
  have d2:(E != 0)=true:=by simpa using hpl
  clear A U h F;go_enter func29,ntmps29
  go_wp2_with (go_at_call 42;refine I.out.mono ?_;rintro e C ⟨rfl,u⟩;have f:=hid u;clear u)
  go_ret;exact⟨rfl,zx.of f.out,t.out.below f.out⟩
def Vj(l:Int):Int:=if vg l then 0 else 7
def Vi(a:StO)(l:Int):List BA:=if vg l then (a l.toNat).map Prod.fst else []
theorem Lb(o:Nat)(p:StO)(l:Int)(M:Nat->Prop)(w:World)(h:qf M w o p) :
  Calls prog 22 #[.pointer (some ⟨o,0,none⟩),.int .i64 l] w λe t=>∃j,e = .returned (.tuple #[j,.int .i64 (Vj l)])/\zF t w.heap.size j (Vi p l)/\Below w.heap.size w t:=by
 have c1:=gF l w;unfold Vj Vi
 cases hl:vg l with
 | false=>
  rw[hl] at c1;have m:=hid c1;simp only[Bool.false_eq_true,if_false];clear c1 h hl;go_enter func22,ntmps22
  go_wp2_with (go_at_call 40;refine m.out.mono ?_;rintro e y ⟨rfl,f⟩;rw[f];clear f)
  go_ret2;exact⟨_,rfl,⟨rfl,.inl ⟨rfl,rfl⟩⟩,Below.refl _ _⟩
 | true=>
  rw[hl] at c1;have m:=hid c1;simp only[if_true];unfold vg at hl;rw[Bool.and_eq_true,decide_eq_true_eq,decide_eq_true_eq] at hl;obtain⟨i,rfl⟩:∃i:Nat,l=(i:Int):=⟨l.toNat,by omega⟩;have hi:i<4:=by omega
  obtain⟨k,d,b⟩:=h.row;have c0:w.cell? ⟨o,i,none⟩=some (k i):=(za d i).1.trans (QE k hi);have g:=Hf (p i) (k i) M w (b i hi) (by have:=(h.good i hi).2.1;omega);obtain⟨B,D,C,s⟩:∃a n c,k i = .slice a n c:=by obtain⟨a,c,e,_⟩:=b i hi;exact⟨a,_,c,e⟩
  rw[s] at c0 g;unfold Jw at g;have q:((i:Int)).toNat=i:=Int.toNat_natCast i;rw[q];have u:=hid g;have z:(0:Int)<=(i:Int):=Int.natCast_nonneg _;have A:(i:Int)<4:=by omega
  clear c1 h hl d b g s q;go_enter func22,ntmps22
  go_wp2_with (first
   | (go_at_call 41;refine u.out.mono ?_;rintro e E ⟨j,rfl,r,hb⟩;have x:=hid r;have v:=hid hb;clear r hb)
   | (go_at_call 40;refine m.out.mono ?_;rintro e y ⟨rfl,f⟩;rw[f];clear f))
  go_ret2;exact⟨j,rfl,x.out,v.out⟩
def Yi(a:StO)(l:Int)(name text:BA):Bool:=decide (jf l name=0)&&decide ((Rd.xW text).1=0)&&(zl (a l.toNat) name||decide ((a l.toNat).length<4))
def yR(a:StO)(l:Int)(name text:BA):Int×Nat:=if jf l name=0 then (if (Rd.xW text).1=0 then (if zl (a l.toNat) name||decide ((a l.toNat).length<4) then (0,0) else (10,0)) else Rd.xW text) else (jf l name,0)
def xE(a:StO)(l:Int)(name text:BA):StO:=if Yi a l name text then upd a l.toNat (yt (a l.toNat) name (yI text)) else a
theorem VQ(s:BA)(c:(Rd.xW s).1=0):Q6 (yI s):=by
 obtain⟨d,e,f⟩:=oJ s c;have g:yI s=(vI s).map jF:=f;rw[g];refine⟨by rw[List.length_map];exact e,λx a=>?_,λx a=>?_⟩
 ·rw[List.mem_map] at a;obtain⟨r,b,rfl⟩:=a;exact Pm (d r b).2
 ·rw[List.mem_map] at a;obtain⟨r,b,rfl⟩:=a;exact Dy s c r b
theorem Je(J:Nat)(g:StO)(l:Int)(name text:BA)(M:Nat->Prop)(aL:Addr)(w:World)(hC:ZP w aL)(h:qf M w J g)(hM:∀b,M b->b<w.heap.size)(hs:name.size<=maxLen) :
  Calls prog 24 #[.pointer (some ⟨J,0,none⟩),.int .i64 l,.string name,.string text] w λe U=>e = .returned (.tuple #[.int .i64 (yR g l name text).1,.int .i64 ((yR g l name text).2:Int)])/\zx (λb=>b=J) w U/\qf M U J (xE g l name text):=by
 have cp:=mO l name w hs
 by_cases hpl:jf l name=0
 ·obtain⟨i,rfl,hi,Y⟩:=mM hpl;rw[hpl] at cp;have CP:=hid cp;have HO:=hid h;have e1:=hid hC;have e8:J<w.heap.size:=hM J h.mine;have V:=λW (hb:Below w.heap.size w W)=>BM text W _ _ _ rfl (hC.below hb).q;have s:=VQ text;have k0:(0:Int)<=(i:Int):=Int.natCast_nonneg _;have k1:(i:Int)<4:=by omega
  by_cases hd:(Rd.xW text).1=0
  ·have hA:yR g (i:Int) name text=if (zl (g i) name||decide ((g i).length<4))=true then (0,0) else (10,0):=by
    unfold yR;rw[if_pos hpl,if_pos hd]
    rfl
   have hS:xE g (i:Int) name text=if (zl (g i) name||decide ((g i).length<4))=true then upd g i (yt (g i) name (yI text)) else g:=by
    unfold xE Yi;rw[decide_eq_true hpl,decide_eq_true hd];simp only[Int.toNat_natCast,Bool.true_and]
   rw[hA,hS]
   have b8:name.size<=281474976710656:=by
    by_cases e:1<=name.size/\name.size<=12
    ·omega
    ·rw[Ref.U9 name e] at Y;cases Y
   have cw:∀(W:World) (v:Value) (t:Option Addr) (n z:Nat),Below w.heap.size w W->qO M W v (g i)->xQ M W (.slice t n z) (yI text)->Calls prog 44 #[v,.string name,.agg #[.slice t n z]] W λe U=>∃v,e = .returned (.tuple #[v,.bool (zl (g i) name||decide ((g i).length<4))])/\Below W.heap.size W U/\((zl (g i) name||decide ((g i).length<4))=true->qO M U v (yt (g i) name (yI text))):=λW v t n z hb hl c8=>
    SX (g i) v name t n z (yI text) M W hl (by have:=(h.good i hi).2.1;omega) ((h.good i hi).1.down name) (λb c7=>Nat.lt_of_lt_of_le (hM b c7) hb.size) c8 b8
   have a9:(zl (g i) name||decide ((g i).length<4))=true->Zn (yt (g i) name (yI text)):=λho=>(h.good i hi).with ho (s hd)
   obtain⟨b,hb⟩:=Nm ((zl (g i) name||decide ((g i).length<4)));simp only[hb] at cw a9;simp only[hb];obtain⟨⟨c,q⟩,G⟩:∃x,Rd.xW text=x:=⟨_,rfl⟩;rw[G] at hd;simp only[G] at V;unfold Q4 at V;simp only at hd V;subst hd;have CR:=hid V;have HW:=hid cw;have c3:=hid a9;have HM:=hid hM;clear cp V cw a9 hA hS hb G s h hC hM hpl Y
   cases b with
   | false=>
    simp only[Bool.false_eq_true,if_false];go_enter func24,ntmps24
    go_upto_region 4 with (go_at_call 42;refine CP.out.mono ?_;rintro e w1 ⟨rfl,O⟩;have f:=hid O;clear O)
    have HR:=hid (CR.out w1 f.out);clear CR
    go_upto_region 5 with (go_at_call 32;refine HR.out.mono ?_;rintro e F ⟨t,n,z,u,rfl,D,b2,S⟩;have L:=hid (S (by trivial));have I:=hid D;have A:=hid (f.out.trans (b2.mono f.out.size));clear b2 D S)
    obtain rfl:u = .nilIface:=by
     rcases UK rfl I.out with ⟨_,e⟩|⟨e,_⟩
     ·exact e
     ·exact absurd rfl e
    obtain⟨j,m⟩:∃W,F.alloc (.cells #[.slice t n z] 72)=W:=⟨_,rfl⟩;have k:Hid (Below w.heap.size w j):=hid (by rw[<- m];exact A.out.alloc A.out.size _);have P:Below F.heap.size F j:=by rw[<- m];exact nB F _
    have e0:j.cell? ⟨F.heap.size,0,none⟩=some (.slice t n z):=by rw[<- m];exact (za (heap_alloc_new F _) 0).1
    have C:xQ M j (.slice t n z) (yI text):=xQ.of (L.out.below P) (λb hb=>Nat.lt_of_lt_of_le (HM.out b hb) f.out.size);obtain⟨Z,r,o⟩:=(HO.out.below k.out).row;have c0:j.cell? ⟨J,i,none⟩=some (Z i):=(za r i).1.trans (QE Z hi);obtain⟨xa,xn,xc,hv⟩:∃a n c,Z i = .slice a n c:=by obtain⟨a,c,e,_⟩:=o i hi;exact⟨a,_,c,e⟩
    have X:Below j.heap.size j j.drew:=(Below.refl _ j).drew;have N:=hid (HW.out j.drew (Z i) t n z (k.out.trans (X.mono k.out.size)) ((o i hi).turn (zx.of X)) (C.turn (zx.of X)));have b6:=hid r;rw[hv] at c0 N;rw[m];clear r o C HW L HR X P m
    go_upto_region 7 with fail
    go_region_held3 (λU=>U.cell? ⟨J,i,none⟩=some (.slice xa xn xc)/\U.cell? ⟨F.heap.size,0,none⟩=some (.slice t n z)) (go_keep) (first|((go_at_call 44);refine N.out.mono ?_;rintro e w5 ⟨v,rfl,K,Q⟩;have a5:=hid Q;have g0:=zb K c0;have g1:=zb K e0;have H:Hid (Below j.heap.size j w5):=(((Below.refl _ j).drew).trans K);have B:=hid (k.out.trans (H.out.mono k.out.size));clear K Q))
    go_wp2_with fail;go_ret2;exact⟨rfl,zx.of B.out,HO.out.below B.out⟩
   | true=>
    simp only[if_true];go_enter func24,ntmps24
    go_upto_region 4 with (go_at_call 42;refine CP.out.mono ?_;rintro e w1 ⟨rfl,O⟩;have f:=hid O;clear O)
    have HR:=hid (CR.out w1 f.out);clear CR
    go_upto_region 5 with (go_at_call 32;refine HR.out.mono ?_;rintro e F ⟨t,n,z,u,rfl,D,b2,S⟩;have L:=hid (S (by trivial));have I:=hid D;have A:=hid (f.out.trans (b2.mono f.out.size));clear b2 D S)
    obtain rfl:u = .nilIface:=by
     rcases UK rfl I.out with ⟨_,e⟩|⟨e,_⟩
     ·exact e
     ·exact absurd rfl e
    obtain⟨j,m⟩:∃W,F.alloc (.cells #[.slice t n z] 72)=W:=⟨_,rfl⟩;have k:Hid (Below w.heap.size w j):=hid (by rw[<- m];exact A.out.alloc A.out.size _);have P:Below F.heap.size F j:=by rw[<- m];exact nB F _
    have e0:j.cell? ⟨F.heap.size,0,none⟩=some (.slice t n z):=by rw[<- m];exact (za (heap_alloc_new F _) 0).1
    have C:xQ M j (.slice t n z) (yI text):=xQ.of (L.out.below P) (λb hb=>Nat.lt_of_lt_of_le (HM.out b hb) f.out.size);obtain⟨Z,r,o⟩:=(HO.out.below k.out).row;have c0:j.cell? ⟨J,i,none⟩=some (Z i):=(za r i).1.trans (QE Z hi);obtain⟨xa,xn,xc,hv⟩:∃a n c,Z i = .slice a n c:=by obtain⟨a,c,e,_⟩:=o i hi;exact⟨a,_,c,e⟩
    have X:Below j.heap.size j j.drew:=(Below.refl _ j).drew;have N:=hid (HW.out j.drew (Z i) t n z (k.out.trans (X.mono k.out.size)) ((o i hi).turn (zx.of X)) (C.turn (zx.of X)));have b6:=hid r;rw[hv] at c0 N;rw[m];clear r o C HW L HR X P m
    go_upto_region 7 with fail
    go_region_held3 (λU=>U.cell? ⟨J,i,none⟩=some (.slice xa xn xc)/\U.cell? ⟨F.heap.size,0,none⟩=some (.slice t n z)) (go_keep) (first|((go_at_call 44);refine N.out.mono ?_;rintro e w5 ⟨v,rfl,K,Q⟩;have a5:=hid Q;have g0:=zb K c0;have g1:=zb K e0;have H:Hid (Below j.heap.size j w5):=(((Below.refl _ j).drew).trans K);have B:=hid (k.out.trans (H.out.mono k.out.size));clear K Q))
    have HL:=hid (a5.out (by trivial));have R:=(H.out.block J (by have:=k.out.size;omega)).trans b6.out;have f2:=(za R i).2;obtain⟨va,vn,vc,d0⟩:∃a n c,v = .slice a n c:=by obtain⟨a,c,e,_⟩:=HL.out;exact⟨a,_,c,e⟩
    subst d0;have HF:=hid ((HO.out.below B.out).set hi HL.out (c3.out (by trivial)));have HT:=hid ((zx.of (M:=λb=>b=J) B.out).trans (zx.set (M:=λb=>b=J) w5 rfl i (.slice va vn vc)));clear R a5 HL;go_wp2_with fail;go_ret2;exact⟨rfl,HT.out,HF.out⟩
  ·have hA:yR g (i:Int) name text=Rd.xW text:=by
    unfold yR;rw[if_pos hpl,if_neg hd]
   have hS:xE g (i:Int) name text=g:=by
    unfold xE Yi;rw[decide_eq_false hd]
    simp
   rw[hA,hS];obtain⟨⟨c,q⟩,G⟩:∃x,Rd.xW text=x:=⟨_,rfl⟩;rw[G] at hd |-;simp only[G] at V;unfold Q4 at V;simp only at hd V |-;have ce:=λW u (hb:Below w.heap.size w W) h=>CY c q u aL W (hC.below hb).q.p.d.err (hC.below hb).q.long h;have CR:=hid V;have CE:=hid ce;clear cp V ce hA hS G s h hC hM hpl Y;go_enter func24,ntmps24
   go_upto_region 4 with (go_at_call 42;refine CP.out.mono ?_;rintro e w1 ⟨rfl,O⟩;have f:=hid O;clear O)
   have HR:=hid (CR.out w1 f.out);clear CR
   go_upto_region 5 with (go_at_call 32;refine HR.out.mono ?_;rintro e F ⟨t,n,z,u,rfl,D,b2,_⟩;have I:=hid D;have A:=hid (f.out.trans (b2.mono f.out.size));clear b2 D)
   obtain⟨T,y,rfl⟩:∃T y,u = .iface T y:=by
    rcases UK rfl I.out with ⟨e,_⟩|⟨_,T,y,e⟩
    ·exact absurd e hd
    ·exact⟨T,y,e⟩
   have a4:=hid (A.out.alloc A.out.size (.cells #[.slice t n z] 72));have c2:=hid (CE.out _ _ a4.out I.out);clear CE HR
   go_wp2_with (go_at_call 33;refine c2.out.mono ?_;rintro e w5 ⟨rfl,K⟩;have B:=hid (a4.out.trans (K.mono a4.out.size));clear K)
   go_ret2;exact⟨rfl,zx.of B.out,HO.out.below B.out⟩
 ·unfold yR
  have hS:xE g l name text=g:=by
   unfold xE Yi;rw[decide_eq_false hpl]
   simp
  rw[if_neg hpl,hS];obtain⟨E,hE⟩:∃x,jf l name=x:=⟨_,rfl⟩;rw[hE] at cp hpl |-;have CP:=hid cp;have HO:=hid h;have d:(E==0)=false:=by simpa using hpl
  have d2:(E != 0)=true:=by simpa using hpl
  clear cp hE h hM hC hS;go_enter func24,ntmps24
  go_wp2_with (go_at_call 42;refine CP.out.mono ?_;rintro e w1 ⟨rfl,O⟩;have f:=hid O;clear O)
  go_ret2;exact⟨rfl,zx.of f.out,HO.out.below f.out⟩
end Go.Proofs.YtdakgnaojakldaaGreatDoor
