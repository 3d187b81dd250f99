/- P -/
import Derived.Test.YtdakgnaojakldaaGreatDoorS32
open Go.Proofs.Tryz
set_option maxRecDepth 100000
set_option maxHeartbeats 4000000
namespace Go.Proofs.YtdakgnaojakldaaGreatDoor
def QF(c:zQ):Prop:=(Ref.zX c.op=true/\c.vals=[])\/(Ref.zX c.op=false/\Ref.Zk c.op c.vals=true/\(Ref.qp c.op=true->∀v ∈ c.vals,Ref.qf v=true))
structure QG (s:zz):Prop where
 who:∀p ∈ s.who.2,Ref.qf p=true
 act:∀p ∈ s.act.2,Ref.qf p=true
 on:∀p ∈ s.on.2,Ref.qf p=true
 ifs:∀c ∈ s.ifs,QF c
theorem nZ(v:Rd.V)(c:(Rd.qi v).sh=false)(e:(Rd.qi v).pt=false):QF (toS (Rd.qi v)):=by
 match v with
 | .str s=>exact absurd c (by simp[Rd.qi,Ref.xZ])
 | .word b=>exact absurd c (by simp[Rd.qi,Ref.xZ])
 | .list l=>exact absurd c (by simp[Rd.qi,Ref.xZ])
 | .obj ms=>
  obtain⟨R,a⟩:=Nm (Rd.qi (.obj ms));rw[a] at c e |-;simp only[Rd.qi,Rd.ZI] at a
  cases h1:Rd.opV (Rd.zh ms Ref.bOp) with
  | none=>rw[h1] at a;subst a;simp[Ref.xZ] at c
  | some op=>
   rw[h1] at a
   cases h2:Rd.opV (Rd.zh ms Ref.zw) with
   | none=>rw[h2] at a;subst a;simp[Ref.xZ] at c
   | some key=>
    rw[h2] at a;simp only at a
    by_cases ca:Ref.zX op=true
    ·rw[if_pos ca] at a;subst a;exact .inl ⟨ca,rfl⟩
    ·rw[if_neg ca] at a;subst a;simp only[Bool.or_eq_false_iff,Bool.not_eq_false'] at c;refine .inr ⟨Bool.eq_false_iff.2 ca,c.1.1.2.2,λf v g=>?_⟩;have d:Ref.qp op=true:=f;simp only[d,Bool.true_and,Bool.not_eq_false'] at e;exact List.all_eq_true.1 e v g
theorem JO{c:Bool×Option (List BY)}(h:Rd.chP c=false):∀p ∈ (Rd.chD c).2,Ref.qf p=true:=by
 unfold Rd.chP at h;rw[Bool.not_eq_false'] at h;exact λp a=>List.all_eq_true.1 h p a
theorem oq(x:Option Rd.V)(a:(Rd.qy x).sh=false)(e:(Rd.qy x).pt=false):∀c ∈ (Rd.qy x).cs.map toS,QF c:=by
 intro c d
 match x with
 | none=>simp[Rd.qy] at d
 | some (.str s)=>simp[Rd.qy] at a
 | some (.word b)=>simp[Rd.qy] at a
 | some (.obj ms)=>simp[Rd.qy] at a
 | some (.list vs)=>
  simp only[Rd.qy] at a e d
  by_cases c5:5<vs.length
  ·rw[if_pos c5] at a;simp at a
  ·rw[if_neg c5] at a e d;simp only[List.any_map,List.any_eq_false,Function.comp] at a e;simp only[List.map_map,List.mem_map,Function.comp] at d;obtain⟨v,f,rfl⟩:=d;exact nZ v (by simpa using a v f) (by simpa using e v f)
theorem IY(v:Rd.V)(a:(Rd.qR v).sh=false)(c:(Rd.qR v).pt=false):QG (yP (Rd.qR v)):=by
 match v with
 | .str s=>exact absurd a (by simp[Rd.qR,Rd.jo])
 | .word b=>exact absurd a (by simp[Rd.qR,Rd.jo])
 | .list l=>exact absurd a (by simp[Rd.qR,Rd.jo])
 | .obj ms=>
  simp only[Rd.qR,Rd.Xh] at a c |-
  split at a
  ·rename_i eff d e;rw[d,e] at c;simp only[Rd.Q3,Bool.or_eq_false_iff] at a c;obtain⟨⟨⟨f,g⟩,h⟩,i⟩:=c;exact⟨JO f,JO g,JO h,oq _ a.2 i⟩
  ·simp[Rd.jo] at a
theorem sU(s:BY)(h:(Rd.xV s).1=0):∀r ∈ jA s,QG (yP r):=by
 unfold Rd.xV at h;unfold jA
 by_cases h1:4000<s.size
 ·rw[if_pos h1] at h;simp at h
 rw[if_neg h1] at h;rw[if_neg h1]
 cases hm:Rd.xI s.data.toList with
 | err e q=>intro r d;simp at d
 | ok v q=>
  rw[hm] at h;simp only at h |-
  match v with
  | .str t=>simp[Rd.uh] at h
  | .word b=>simp[Rd.uh] at h
  | .list l=>simp[Rd.uh] at h
  | .obj ms=>
   simp only[Rd.uh] at h
   match hx:Rd.zh ms Rd.xS with
   | none=>rw[hx] at h;simp at h
   | some (.str t)=>rw[hx] at h;simp at h
   | some (.word b)=>rw[hx] at h;simp at h
   | some (.obj ms)=>rw[hx] at h;simp at h
   | some (.list vs)=>
    rw[hx] at h;simp only at h;have f:zV (stX (.obj ms))=vs:=by simp[zV,stX,hx]
    rw[f]
    by_cases c:ms.length≠1\/vs.length<1\/10<vs.length
    ·rw[if_pos c] at h;simp at h
    rw[if_neg c] at h;intro r d;obtain⟨a,b⟩:=Vh _ _ h r d;rw[List.mem_map] at d;obtain⟨v,f,rfl⟩:=d;exact IY v a b
end Go.Proofs.YtdakgnaojakldaaGreatDoor
namespace Go.Proofs.YtdakgnaojakldaaGreatDoor
open Go.RowKit
abbrev StO:=Nat->List zm
def upd(a:StO)(i:Nat)(L:List zm):StO:=λj=>if j=i then L else a j
def Qc(a:List zz):Prop:=a.length<=10/\(∀s ∈ a,JA s)/\∀s ∈ a,QG s
def Z9(L:List zm):Prop:=yJ L/\L.length<=4/\∀x ∈ L,Qc x.2
theorem Z9.with{L:List zm}(h:Z9 L){name:BY}{b:List zz}(c:(zt L name||decide (L.length<4))=true)(d:Qc b):Z9 (yQ L name b):=
 ⟨h.1.with name b,MN h.2.1 c,λx a=>by
  unfold yQ at a
  rcases List.mem_append.1 a with a|a
  ·rcases List.mem_append.1 a with a|a
   ·exact h.2.2 x (List.mem_of_mem_take a)
   ·rw[List.mem_singleton] at a;subst a;exact d
  ·exact h.2.2 x (List.mem_of_mem_drop a)⟩
structure qU (M:Nat->Prop) (W:World) (ob:Nat) (st:StO):Prop where
 mine:M ob
 row:∃vs:Nat->Value,W.heap[ob]?=some (.cells #[vs 0,vs 1,vs 2,vs 3] 101)/\∀i,i<4->xh M W (vs i) (st i)
 good:∀i,i<4->Z9 (st i)
theorem lt4{i:Nat}(h:i<4):i=0\/i=1\/i=2\/i=3:=by omega
theorem qU.below{M:Nat->Prop}{W b:World}{a:Nat}{d:StO}(h:qU M W a d)(hb:Below W.heap.size W b):qU M b a d:=by
 obtain⟨f,c,e⟩:=h.row;exact⟨h.mine,⟨f,(hb.block a (lt_of_block c)).trans c,λi hi=>(e i hi).turn (zy.of hb)⟩,h.good⟩
theorem qU.more{M a:Nat->Prop}{W:World}{c:Nat}{d:StO}(h:qU M W c d)(g:∀b,a b->M b\/W.heap.size<=b)(j:a c):qU a W c d:=by
 obtain⟨k,e,f⟩:=h.row;exact⟨j,⟨k,e,λi hi=>(f i hi).more g⟩,h.good⟩
theorem YP(a:Nat->Value){i:Nat}(h:i<4):(#[a 0,a 1,a 2,a 3]:Array Value)[i]?=some (a i):=by
 rcases lt4 h with rfl|rfl|rfl|rfl<;>rfl
theorem wz(a:Nat->Value)(v:Value){i:Nat}(h:i<4):(#[a 0,a 1,a 2,a 3]:Array Value).setIfInBounds i v=#[if 0=i then v else a 0,if 1=i then v else a 1,if 2=i then v else a 2,if 3=i then v else a 3]:=by
 rcases lt4 h with rfl|rfl|rfl|rfl<;>rfl
theorem qU.set{M:Nat->Prop}{W:World}{a:Nat}{c:StO}(h:qU M W a c){i:Nat}(hi:i<4){v:Value}{L:List zm}(m:xh M W v L)(l:Z9 L):qU M (W.setCell ⟨a,i,none⟩ v) a (upd c i L):=by
 obtain⟨d,g,k⟩:=h.row;have f:=zy.set (M:=M) W h.mine i v;refine⟨h.mine,⟨λj=>if j=i then v else d j,?_,λj b=>?_⟩,λj b=>?_⟩
 ·have:=heap_setCell_same W a i _ _ v g
  rw[wz d v hi] at this;exact this
 ·show xh M _ (if j=i then v else d j) (if j=i then L else c j)
  by_cases e:j=i
  ·rw[if_pos e,if_pos e];exact m.turn f
  ·rw[if_neg e,if_neg e];exact (k j b).turn f
 ·unfold upd
  by_cases e:j=i
  ·rw[if_pos e];exact l
  ·rw[if_neg e];exact h.good j b
def qI:StO:=λ_=>[]
theorem DV(M:Nat->Prop)(w:World)(d:M w.heap.size) :
  Calls prog 21 #[] w λe b=>e = .returned (.pointer (some ⟨w.heap.size,0,none⟩))/\Below w.heap.size w b/\qU M b w.heap.size qI:=by
 have a:qU M (w.alloc (.cells #[.slice none 0 0,.slice none 0 0,.slice none 0 0,.slice none 0 0] 101)) w.heap.size qI:=
  ⟨d,⟨λ_ => .slice none 0 0,heap_alloc_new w _,λi _=>bB M _⟩,λi _=>⟨List.Pairwise.nil,by simp[qI],λx f=>by simp[qI] at f⟩⟩
 have c:=hid a;clear a;go_enter func21,ntmps21
 go_wp2
 go_ret;exact⟨rfl,nb w _,c.out⟩
theorem Fz{l:Int}{name:BY}(h:uC l name=0):∃i:Nat,l=(i:Int)/\i<4/\Ref.zH name=true:=by
 unfold uC at h
 cases h1:ZO l with
 | false=>rw[h1] at h;simp at h
 | true=>
  rw[h1] at h
  cases h2:Ref.zH name with
  | false=>rw[h2] at h;simp at h
  | true=>
   unfold ZO at h1;rw[Bool.and_eq_true,decide_eq_true_eq,decide_eq_true_eq] at h1;exact⟨l.toNat,by omega,by omega,rfl⟩
def Ya(a:StO)(l:Int)(name text:BY):Bool:=decide (uC l name=0)&&decide ((Rd.xV text).1=0)&&(zt (a l.toNat) name||decide ((a l.toNat).length<4))
def uD(a:StO)(l:Int)(name text:BY):Int×Nat:=if uC l name=0 then (if (Rd.xV text).1=0 then (if zt (a l.toNat) name||decide ((a l.toNat).length<4) then (0,0) else (10,0)) else Rd.xV text) else (uC l name,0)
def uG(a:StO)(l:Int)(name text:BY):StO:=if Ya a l name text then upd a l.toNat (yQ (a l.toNat) name (yF text)) else a
theorem Me(s:BY)(c:(Rd.xV s).1=0):Qc (yF s):=by
 obtain⟨d,e,f⟩:=gV s c;have g:yF s=(jA s).map yP:=f;rw[g];refine⟨by rw[List.length_map];exact e,λx a=>?_,λx a=>?_⟩
 ·rw[List.mem_map] at a;obtain⟨r,b,rfl⟩:=a;exact Iq (d r b).2
 ·rw[List.mem_map] at a;obtain⟨r,b,rfl⟩:=a;exact sU s c r b
theorem fA(J:Nat)(g:StO)(l:Int)(name text:BY)(M:Nat->Prop)(aL:Addr)(w:World)(hC:Z6 w aL)(h:qU M w J g)(hM:∀b,M b->b<w.heap.size)(hs:name.size<=maxLen) :
  Calls prog 24 #[.pointer (some ⟨J,0,none⟩),.int .i64 l,.string name,.string text] w λe U=>e = .returned (.tuple #[.int .i64 (uD g l name text).1,.int .i64 ((uD g l name text).2:Int)])/\zy (λb=>b=J) w U/\qU M U J (uG g l name text):=by
 have cp:=FB l name w hs
 by_cases hpl:uC l name=0
 ·obtain⟨i,rfl,hi,Y⟩:=Fz hpl;rw[hpl] at cp;have CP:=hid cp;have HO:=hid h;have e1:=hid hC;have e8:J<w.heap.size:=hM J h.mine;have V:=λW (hb:Below w.heap.size w W)=>pM text W _ _ _ rfl (hC.below hb).q;have s:=Me text;have k0:(0:Int)<=(i:Int):=Int.natCast_nonneg _;have k1:(i:Int)<4:=by omega
  by_cases hd:(Rd.xV text).1=0
  ·have hA:uD g (i:Int) name text=if (zt (g i) name||decide ((g i).length<4))=true then (0,0) else (10,0):=by
    unfold uD;rw[if_pos hpl,if_pos hd]
    rfl
   have hS:uG g (i:Int) name text=if (zt (g i) name||decide ((g i).length<4))=true then upd g i (yQ (g i) name (yF text)) else g:=by
    unfold uG Ya;rw[decide_eq_true hpl,decide_eq_true hd];simp only[Int.toNat_natCast,Bool.true_and]
   rw[hA,hS]
   have b8:name.size<=281474976710656:=by
    by_cases e:1<=name.size/\name.size<=12
    ·omega
    ·rw[Ref.Vy name e] at Y;cases Y
   have cw:∀(W:World) (v:Value) (t:Option Addr) (n z:Nat),Below w.heap.size w W->xh M W v (g i)->xx M W (.slice t n z) (yF text)->Calls prog 44 #[v,.string name,.agg #[.slice t n z]] W λe U=>∃v,e = .returned (.tuple #[v,.bool (zt (g i) name||decide ((g i).length<4))])/\Below W.heap.size W U/\((zt (g i) name||decide ((g i).length<4))=true->xh M U v (yQ (g i) name (yF text))):=λW v t n z hb hl c8=>
    MO (g i) v name t n z (yF text) M W hl (by have:=(h.good i hi).2.1;omega) ((h.good i hi).1.down name) (λb c7=>Nat.lt_of_lt_of_le (hM b c7) hb.size) c8 b8
   have a9:(zt (g i) name||decide ((g i).length<4))=true->Z9 (yQ (g i) name (yF text)):=λho=>(h.good i hi).with ho (s hd)
   obtain⟨b,hb⟩:=Nm ((zt (g i) name||decide ((g i).length<4)));simp only[hb] at cw a9;simp only[hb];obtain⟨⟨c,q⟩,G⟩:∃x,Rd.xV text=x:=⟨_,rfl⟩;rw[G] at hd;simp only[G] at V;unfold Z8 at V;simp only at hd V;subst hd;have CR:=hid V;have HW:=hid cw;have c3:=hid a9;have HM:=hid hM;clear cp V cw a9 hA hS hb G s h hC hM hpl Y
   cases b with
   | false=>
    simp only[Bool.false_eq_true,if_false];go_enter func24,ntmps24
    go_upto_region 4 with (go_at_call 42;refine CP.out.mono ?_;rintro e w1 ⟨rfl,O⟩;have f:=hid O;clear O)
    have HR:=hid (CR.out w1 f.out);clear CR
    go_upto_region 5 with (go_at_call 32;refine HR.out.mono ?_;rintro e F ⟨t,n,z,u,rfl,D,b2,S⟩;have L:=hid (S (by trivial));have I:=hid D;have A:=hid (f.out.trans (b2.mono f.out.size));clear b2 D S)
    obtain rfl:u = .nilIface:=by
     rcases Ve rfl I.out with ⟨_,e⟩|⟨e,_⟩
     ·exact e
     ·exact absurd rfl e
    obtain⟨j,m⟩:∃W,F.alloc (.cells #[.slice t n z] 72)=W:=⟨_,rfl⟩;have k:Hid (Below w.heap.size w j):=hid (by rw[<- m];exact A.out.alloc A.out.size _);have P:Below F.heap.size F j:=by rw[<- m];exact nb F _
    have e0:j.cell? ⟨F.heap.size,0,none⟩=some (.slice t n z):=by rw[<- m];exact (ze (heap_alloc_new F _) 0).1
    have C:xx M j (.slice t n z) (yF text):=xx.of (L.out.below P) (λb hb=>Nat.lt_of_lt_of_le (HM.out b hb) f.out.size);obtain⟨Z,r,o⟩:=(HO.out.below k.out).row;have c0:j.cell? ⟨J,i,none⟩=some (Z i):=(ze r i).1.trans (YP Z hi);obtain⟨xa,xn,xc,hv⟩:∃a n c,Z i = .slice a n c:=by obtain⟨a,c,e,_⟩:=o i hi;exact⟨a,_,c,e⟩
    have X:Below j.heap.size j j.drew:=(Below.refl _ j).drew;have N:=hid (HW.out j.drew (Z i) t n z (k.out.trans (X.mono k.out.size)) ((o i hi).turn (zy.of X)) (C.turn (zy.of X)));have b6:=hid r;rw[hv] at c0 N;rw[m];clear r o C HW L HR X P m
    go_upto_region 7 with fail
    go_region_held3 (λU=>U.cell? ⟨J,i,none⟩=some (.slice xa xn xc)/\U.cell? ⟨F.heap.size,0,none⟩=some (.slice t n z)) (go_keep) (first|((go_at_call 44);refine N.out.mono ?_;rintro e w5 ⟨v,rfl,K,Q⟩;have a5:=hid Q;have g0:=zg K c0;have g1:=zg K e0;have H:Hid (Below j.heap.size j w5):=(((Below.refl _ j).drew).trans K);have B:=hid (k.out.trans (H.out.mono k.out.size));clear K Q))
    go_wp2_with fail;go_ret2;exact⟨rfl,zy.of B.out,HO.out.below B.out⟩
   | true=>
    simp only[if_true];go_enter func24,ntmps24
    go_upto_region 4 with (go_at_call 42;refine CP.out.mono ?_;rintro e w1 ⟨rfl,O⟩;have f:=hid O;clear O)
    have HR:=hid (CR.out w1 f.out);clear CR
    go_upto_region 5 with (go_at_call 32;refine HR.out.mono ?_;rintro e F ⟨t,n,z,u,rfl,D,b2,S⟩;have L:=hid (S (by trivial));have I:=hid D;have A:=hid (f.out.trans (b2.mono f.out.size));clear b2 D S)
    obtain rfl:u = .nilIface:=by
     rcases Ve rfl I.out with ⟨_,e⟩|⟨e,_⟩
     ·exact e
     ·exact absurd rfl e
    obtain⟨j,m⟩:∃W,F.alloc (.cells #[.slice t n z] 72)=W:=⟨_,rfl⟩;have k:Hid (Below w.heap.size w j):=hid (by rw[<- m];exact A.out.alloc A.out.size _);have P:Below F.heap.size F j:=by rw[<- m];exact nb F _
    have e0:j.cell? ⟨F.heap.size,0,none⟩=some (.slice t n z):=by rw[<- m];exact (ze (heap_alloc_new F _) 0).1
    have C:xx M j (.slice t n z) (yF text):=xx.of (L.out.below P) (λb hb=>Nat.lt_of_lt_of_le (HM.out b hb) f.out.size);obtain⟨Z,r,o⟩:=(HO.out.below k.out).row;have c0:j.cell? ⟨J,i,none⟩=some (Z i):=(ze r i).1.trans (YP Z hi);obtain⟨xa,xn,xc,hv⟩:∃a n c,Z i = .slice a n c:=by obtain⟨a,c,e,_⟩:=o i hi;exact⟨a,_,c,e⟩
    have X:Below j.heap.size j j.drew:=(Below.refl _ j).drew;have N:=hid (HW.out j.drew (Z i) t n z (k.out.trans (X.mono k.out.size)) ((o i hi).turn (zy.of X)) (C.turn (zy.of X)));have b6:=hid r;rw[hv] at c0 N;rw[m];clear r o C HW L HR X P m
    go_upto_region 7 with fail
    go_region_held3 (λU=>U.cell? ⟨J,i,none⟩=some (.slice xa xn xc)/\U.cell? ⟨F.heap.size,0,none⟩=some (.slice t n z)) (go_keep) (first|((go_at_call 44);refine N.out.mono ?_;rintro e w5 ⟨v,rfl,K,Q⟩;have a5:=hid Q;have g0:=zg K c0;have g1:=zg K e0;have H:Hid (Below j.heap.size j w5):=(((Below.refl _ j).drew).trans K);have B:=hid (k.out.trans (H.out.mono k.out.size));clear K Q))
    have HL:=hid (a5.out (by trivial));have R:=(H.out.block J (by have:=k.out.size;omega)).trans b6.out;have f2:=(ze R i).2;obtain⟨va,vn,vc,d0⟩:∃a n c,v = .slice a n c:=by obtain⟨a,c,e,_⟩:=HL.out;exact⟨a,_,c,e⟩
    subst d0;have HF:=hid ((HO.out.below B.out).set hi HL.out (c3.out (by trivial)));have HT:=hid ((zy.of (M:=λb=>b=J) B.out).trans (zy.set (M:=λb=>b=J) w5 rfl i (.slice va vn vc)));clear R a5 HL;go_wp2_with fail;go_ret2;exact⟨rfl,HT.out,HF.out⟩
  ·have hA:uD g (i:Int) name text=Rd.xV text:=by
    unfold uD;rw[if_pos hpl,if_neg hd]
   have hS:uG g (i:Int) name text=g:=by
    unfold uG Ya;rw[decide_eq_false hd]
    simp
   rw[hA,hS];obtain⟨⟨c,q⟩,G⟩:∃x,Rd.xV text=x:=⟨_,rfl⟩;rw[G] at hd |-;simp only[G] at V;unfold Z8 at V;simp only at hd V |-;have ce:=λW u (hb:Below w.heap.size w W) h=>rY c q u aL W (hC.below hb).q.p.d.err (hC.below hb).q.long h;have CR:=hid V;have CE:=hid ce;clear cp V ce hA hS G s h hC hM hpl Y;go_enter func24,ntmps24
   go_upto_region 4 with (go_at_call 42;refine CP.out.mono ?_;rintro e w1 ⟨rfl,O⟩;have f:=hid O;clear O)
   have HR:=hid (CR.out w1 f.out);clear CR
   go_upto_region 5 with (go_at_call 32;refine HR.out.mono ?_;rintro e F ⟨t,n,z,u,rfl,D,b2,_⟩;have I:=hid D;have A:=hid (f.out.trans (b2.mono f.out.size));clear b2 D)
   obtain⟨T,y,rfl⟩:∃T y,u = .iface T y:=by
    rcases Ve rfl I.out with ⟨e,_⟩|⟨_,T,y,e⟩
    ·exact absurd e hd
    ·exact⟨T,y,e⟩
   have a4:=hid (A.out.alloc A.out.size (.cells #[.slice t n z] 72));have c2:=hid (CE.out _ _ a4.out I.out);clear CE HR
   go_wp2_with (go_at_call 33;refine c2.out.mono ?_;rintro e w5 ⟨rfl,K⟩;have B:=hid (a4.out.trans (K.mono a4.out.size));clear K)
   go_ret2;exact⟨rfl,zy.of B.out,HO.out.below B.out⟩
 ·unfold uD
  have hS:uG g l name text=g:=by
   unfold uG Ya;rw[decide_eq_false hpl]
   simp
  rw[if_neg hpl,hS];obtain⟨E,hE⟩:∃x,uC l name=x:=⟨_,rfl⟩;rw[hE] at cp hpl |-;have CP:=hid cp;have HO:=hid h;have d:(E==0)=false:=by simpa using hpl
  have d2:(E != 0)=true:=by simpa using hpl
  clear cp hE h hM hC hS;go_enter func24,ntmps24
  go_wp2_with (go_at_call 42;refine CP.out.mono ?_;rintro e w1 ⟨rfl,O⟩;have f:=hid O;clear O)
  go_ret2;exact⟨rfl,zy.of f.out,HO.out.below f.out⟩
end Go.Proofs.YtdakgnaojakldaaGreatDoor
