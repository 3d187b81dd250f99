/- P -/
import Derived.Test.YtdakgnaojakldabGreatDoorT36
import Derived.Deep.DrawnRows
open Go.Proofs.Tryz
set_option maxRecDepth 100000
set_option maxHeartbeats 4000000
namespace Go.Proofs.YtdakgnaojakldabGreatDoor
def Xk(c:zX):Prop:=(Ref.xI c.op=true/\c.vals=[])\/(Ref.xI c.op=false/\Ref.ZY c.op c.vals=true/\(Ref.qD c.op=true->∀v ∈ c.vals,Ref.qX v=true))
structure Xl (s:zD):Prop where
 who:∀p ∈ s.who.2,Ref.qX p=true
 act:∀p ∈ s.act.2,Ref.qX p=true
 on:∀p ∈ s.on.2,Ref.qX p=true
 ifs:∀c ∈ s.ifs,Xk c
theorem wB(v:Rd.V)(c:(Rd.qz v).sh=false)(e:(Rd.qz v).pt=false):Xk (toS (Rd.qz v)):=by
 match v with
 | .str s=>exact absurd c (by simp[Rd.qz,Ref.ji])
 | .word b=>exact absurd c (by simp[Rd.qz,Ref.ji])
 | .list l=>exact absurd c (by simp[Rd.qz,Ref.ji])
 | .obj ms=>
  obtain⟨R,a⟩:=Nm (Rd.qz (.obj ms));rw[a] at c e |-;simp only[Rd.qz,Rd.Qm] at a
  cases h1:Rd.opV (Rd.zf ms Ref.bOp) with
  | none=>rw[h1] at a;subst a;simp[Ref.ji] at c
  | some op=>
   rw[h1] at a
   cases h2:Rd.opV (Rd.zf ms Ref.zt) with
   | none=>rw[h2] at a;subst a;simp[Ref.ji] at c
   | some key=>
    rw[h2] at a;simp only at a
    by_cases ca:Ref.xI op=true
    ·rw[if_pos ca] at a;subst a;exact .inl ⟨ca,rfl⟩
    ·rw[if_neg ca] at a;subst a;simp only[Bool.or_eq_false_iff,Bool.not_eq_false'] at c;refine .inr ⟨Bool.eq_false_iff.2 ca,c.1.1.2.2,λf v g=>?_⟩;have d:Ref.qD op=true:=f;simp only[d,Bool.true_and,Bool.not_eq_false'] at e;exact List.all_eq_true.1 e v g
theorem VL{c:Bool×Option (List BA)}(h:Rd.chP c=false):∀p ∈ (Rd.chD c).2,Ref.qX p=true:=by
 unfold Rd.chP at h;rw[Bool.not_eq_false'] at h;exact λp a=>List.all_eq_true.1 h p a
theorem wJ(x:Option Rd.V)(a:(Rd.qG x).sh=false)(e:(Rd.qG x).pt=false):∀c ∈ (Rd.qG x).cs.map toS,Xk c:=by
 intro c d
 match x with
 | none=>simp[Rd.qG] at d
 | some (.str s)=>simp[Rd.qG] at a
 | some (.word b)=>simp[Rd.qG] at a
 | some (.obj ms)=>simp[Rd.qG] at a
 | some (.list vs)=>
  simp only[Rd.qG] at a e d
  by_cases c5:5<vs.length
  ·rw[if_pos c5] at a;simp at a
  ·rw[if_neg c5] at a e d;simp only[List.any_map,List.any_eq_false,Function.comp] at a e;simp only[List.map_map,List.mem_map,Function.comp] at d;obtain⟨v,f,rfl⟩:=d;exact wB v (by simpa using a v f) (by simpa using e v f)
theorem OM(v:Rd.V)(a:(Rd.xq v).sh=false)(c:(Rd.xq v).pt=false):Xl (Zv (Rd.xq v)):=by
 match v with
 | .str s=>exact absurd a (by simp[Rd.xq,Rd.ug])
 | .word b=>exact absurd a (by simp[Rd.xq,Rd.ug])
 | .list l=>exact absurd a (by simp[Rd.xq,Rd.ug])
 | .obj ms=>
  simp only[Rd.xq,Rd.XX] at a c |-
  split at a
  ·rename_i eff d e;rw[d,e] at c;simp only[Rd.XI,Bool.or_eq_false_iff] at a c;obtain⟨⟨⟨f,g⟩,h⟩,i⟩:=c;exact⟨VL f,VL g,VL h,wJ _ a.2 i⟩
  ·simp[Rd.ug] at a
theorem Ca(s:BA)(h:(Rd.yU s).1=0):∀r ∈ Xf s,Xl (Zv r):=by
 unfold Rd.yU at h;unfold Xf
 by_cases h1:4000<s.size
 ·rw[if_pos h1] at h;simp at h
 rw[if_neg h1] at h;rw[if_neg h1]
 cases hm:Rd.xN s.data.toList with
 | err e q=>intro r d;simp at d
 | ok v q=>
  rw[hm] at h;simp only at h |-
  match v with
  | .str t=>simp[Rd.vX] at h
  | .word b=>simp[Rd.vX] at h
  | .list l=>simp[Rd.vX] at h
  | .obj ms=>
   simp only[Rd.vX] at h
   match hx:Rd.zf ms Rd.yS with
   | none=>rw[hx] at h;simp at h
   | some (.str t)=>rw[hx] at h;simp at h
   | some (.word b)=>rw[hx] at h;simp at h
   | some (.obj ms)=>rw[hx] at h;simp at h
   | some (.list vs)=>
    rw[hx] at h;simp only at h;have f:qd (stX (.obj ms))=vs:=by simp[qd,stX,hx]
    rw[f]
    by_cases c:ms.length≠1\/vs.length<1\/10<vs.length
    ·rw[if_pos c] at h;simp at h
    rw[if_neg c] at h;intro r d;obtain⟨a,b⟩:=Uf _ _ h r d;rw[List.mem_map] at d;obtain⟨v,f,rfl⟩:=d;exact OM v a b
end Go.Proofs.YtdakgnaojakldabGreatDoor
namespace Go.Proofs.YtdakgnaojakldabGreatDoor
open Go.RowKit
abbrev StO:=Nat->List zl
def upd(a:StO)(i:Nat)(L:List zl):StO:=λj=>if j=i then L else a j
def QL(a:List zD):Prop:=a.length<=10/\(∀s ∈ a,Vy s)/\∀s ∈ a,Xl s
def QJ(L:List zl):Prop:=yC L/\L.length<=4/\∀x ∈ L,QL x.2
theorem QJ.with{L:List zl}(h:QJ L){name:BA}{b:List zD}(c:(zu L name||decide (L.length<4))=true)(d:QL b):QJ (yh L name b):=
 ⟨h.1.with name b,RG h.2.1 c,λx a=>by
  unfold yh at a
  rcases List.mem_append.1 a with a|a
  ·rcases List.mem_append.1 a with a|a
   ·exact h.2.2 x (List.mem_of_mem_take a)
   ·rw[List.mem_singleton] at a;subst a;exact d
  ·exact h.2.2 x (List.mem_of_mem_drop a)⟩
structure qL (M:Nat->Prop) (W:World) (ob:Nat) (st:StO):Prop where
 mine:M ob
 row:∃vs:Nat->Value,W.heap[ob]?=some (.cells #[vs 0,vs 1,vs 2,vs 3] 64)/\∀i,i<4->xD M W (vs i) (st i)
 good:∀i,i<4->QJ (st i)
theorem lt4{i:Nat}(h:i<4):i=0\/i=1\/i=2\/i=3:=by omega
theorem qL.below{M:Nat->Prop}{W b:World}{a:Nat}{e:StO}(h:qL M W a e)(d:Below W.heap.size W b):qL M b a e:=by
 obtain⟨j,c,f⟩:=h.row;exact⟨h.mine,⟨j,(d.block a (lt_of_block c)).trans c,λi g=>(f i g).turn (zA.of d)⟩,h.good⟩
theorem qL.other{M:Nat->Prop}{W f:World}{c a:Nat}{l:StO}(h:qL M W c l)(j:zA (λb=>b=a) W f)(d:c≠a)(o:M a):qL M f c l:=by
 obtain⟨p,g,m⟩:=h.row;exact⟨h.mine,⟨p,(j.block c (lt_of_block g) d).trans g,λi n=>(m i n).turn (j.wide (λk _ e=>by rw[e];exact o))⟩,h.good⟩
theorem qL.more{M M':Nat->Prop}{W:World}{a:Nat}{c:StO}(h:qL M W a c)(f:∀b,M' b->M b\/W.heap.size<=b)(j:M' a):qL M' W a c:=by
 obtain⟨k,d,e⟩:=h.row;exact⟨j,⟨k,d,λi g=>(e i g).more f⟩,h.good⟩
theorem Ju(a:Nat->Value){i:Nat}(h:i<4):(#[a 0,a 1,a 2,a 3]:Array Value)[i]?=some (a i):=by
 rcases lt4 h with rfl|rfl|rfl|rfl<;>rfl
theorem Cx(a:Nat->Value)(v:Value){i:Nat}(h:i<4):(#[a 0,a 1,a 2,a 3]:Array Value).setIfInBounds i v=#[if 0=i then v else a 0,if 1=i then v else a 1,if 2=i then v else a 2,if 3=i then v else a 3]:=by
 rcases lt4 h with rfl|rfl|rfl|rfl<;>rfl
theorem qL.set{M:Nat->Prop}{W:World}{a:Nat}{c:StO}(h:qL M W a c){i:Nat}(m:i<4){v:Value}{L:List zl}(n:xD M W v L)(l:QJ L):qL M (W.setCell ⟨a,i,none⟩ v) a (upd c i L):=by
 obtain⟨d,g,k⟩:=h.row;have f:=zA.set (M:=M) W h.mine i v;refine⟨h.mine,⟨λj=>if j=i then v else d j,?_,λj b=>?_⟩,λj b=>?_⟩
 ·have:=heap_setCell_same W a i _ _ v g
  rw[Cx d v m] at this;exact this
 ·show xD M _ (if j=i then v else d j) (if j=i then L else c j)
  by_cases e:j=i
  ·rw[if_pos e,if_pos e];exact n.turn f
  ·rw[if_neg e,if_neg e];exact (k j b).turn f
 ·unfold upd
  by_cases e:j=i
  ·rw[if_pos e];exact l
  ·rw[if_neg e];exact h.good j b
def qW:StO:=λ_=>[]
theorem gz(M:Nat->Prop)(w:World)(d:M w.heap.size) :
  Calls prog 10 #[] w λe b=>e = .returned (.pointer (some ⟨w.heap.size,0,none⟩))/\Below w.heap.size w b/\qL M b w.heap.size qW:=by
 have a:qL M (w.alloc (.cells #[.slice none 0 0,.slice none 0 0,.slice none 0 0,.slice none 0 0] 64)) w.heap.size qW:=
  ⟨d,⟨λ_ => .slice none 0 0,heap_alloc_new w _,λi _=>fw M _⟩,λi _=>⟨List.Pairwise.nil,by simp[qW],λx f=>by simp[qW] at f⟩⟩
 have c:=hid a;clear a;go_enter func10,ntmps10
 go_wp2
 go_ret;exact⟨rfl,nB w _,c.out⟩
theorem Lv{l:Int}{name:BA}(h:kQ l name=0):∃i:Nat,l=(i:Int)/\i<4/\Ref.zM name=true:=by
 unfold kQ at h
 cases h1:Qq l with
 | false=>rw[h1] at h;simp at h
 | true=>
  rw[h1] at h
  cases h2:Ref.zM name with
  | false=>rw[h2] at h;simp at h
  | true=>
   unfold Qq at h1;rw[Bool.and_eq_true,decide_eq_true_eq,decide_eq_true_eq] at h1;exact⟨l.toNat,by omega,by omega,rfl⟩
def YN(a:StO)(l:Int)(name text:BA):Bool:=decide (kQ l name=0)&&decide ((Rd.yU text).1=0)&&(zu (a l.toNat) name||decide ((a l.toNat).length<4))
def kS(a:StO)(l:Int)(name text:BA):Int×Nat:=if kQ l name=0 then (if (Rd.yU text).1=0 then (if zu (a l.toNat) name||decide ((a l.toNat).length<4) then (0,0) else (10,0)) else Rd.yU text) else (kQ l name,0)
def y9(a:StO)(l:Int)(name text:BA):StO:=if YN a l name text then upd a l.toNat (yh (a l.toNat) name (jP text)) else a
theorem ni(s:BA)(c:(Rd.yU s).1=0):QL (jP s):=by
 obtain⟨d,e,f⟩:=OT s c;have g:jP s=(Xf s).map Zv:=f;rw[g];refine⟨by rw[List.length_map];exact e,λx a=>?_,λx a=>?_⟩
 ·rw[List.mem_map] at a;obtain⟨r,b,rfl⟩:=a;exact NR (d r b).2
 ·rw[List.mem_map] at a;obtain⟨r,b,rfl⟩:=a;exact Ca s c r b
theorem iQ(K:Nat)(g:StO)(l:Int)(name text:BA)(M:Nat->Prop)(aL:Addr)(w:World)(hC:Zz w aL)(h:qL M w K g)(hM:∀b,M b->b<w.heap.size)(hs:name.size<=maxLen) :
  Calls prog 12 #[.pointer (some ⟨K,0,none⟩),.int .i64 l,.string name,.string text] w λe V=>e = .returned (.tuple #[.int .i64 (kS g l name text).1,.int .i64 ((kS g l name text).2:Int)])/\zA (λb=>b=K) w V/\qL M V K (y9 g l name text):=by
 have cp:=Lx l name w hs
 by_cases hpl:kQ l name=0
 ·obtain⟨i,rfl,Y,a0⟩:=Lv hpl;rw[hpl] at cp;have CP:=hid cp;have HO:=hid h;have e3:=hid hC;have f0:K<w.heap.size:=hM K h.mine;have X:=λW (I:Below w.heap.size w W)=>Ar text W _ _ _ rfl (hC.below I).q;have s:=ni text;have k0:(0:Int)<=(i:Int):=Int.natCast_nonneg _;have k1:(i:Int)<4:=by omega
  by_cases hd:(Rd.yU text).1=0
  ·have hA:kS g (i:Int) name text=if (zu (g i) name||decide ((g i).length<4))=true then (0,0) else (10,0):=by
    unfold kS;rw[if_pos hpl,if_pos hd]
    rfl
   have hS:y9 g (i:Int) name text=if (zu (g i) name||decide ((g i).length<4))=true then upd g i (yh (g i) name (jP text)) else g:=by
    unfold y9 YN;rw[decide_eq_true hpl,decide_eq_true hd];simp only[Int.toNat_natCast,Bool.true_and]
   rw[hA,hS]
   have c1:name.size<=281474976710656:=by
    by_cases e:1<=name.size/\name.size<=12
    ·omega
    ·rw[Ref.Ux name e] at a0;cases a0
   have cw:∀(W:World) (v:Value) (t:Option Addr) (n z:Nat),Below w.heap.size w W->xD M W v (g i)->xP M W (.slice t n z) (jP text)->Calls prog 20 #[v,.string name,.agg #[.slice t n z]] W λe V=>∃v,e = .returned (.tuple #[v,.bool (zu (g i) name||decide ((g i).length<4))])/\Below W.heap.size W V/\((zu (g i) name||decide ((g i).length<4))=true->xD M V v (yh (g i) name (jP text))):=λW v t n z I hl d0=>
    RH (g i) v name t n z (jP text) M W hl (by have:=(h.good i Y).2.1;omega) ((h.good i Y).1.down name) (λb c9=>Nat.lt_of_lt_of_le (hM b c9) I.size) d0 c1
   have b3:(zu (g i) name||decide ((g i).length<4))=true->QJ (yh (g i) name (jP text)):=λho=>(h.good i Y).with ho (s hd)
   obtain⟨b,I⟩:=Nm ((zu (g i) name||decide ((g i).length<4)));simp only[I] at cw b3;simp only[I];obtain⟨⟨c,q⟩,G⟩:∃x,Rd.yU text=x:=⟨_,rfl⟩;rw[G] at hd;simp only[G] at X;unfold QI at X;simp only at hd X;subst hd;have CR:=hid X;have HW:=hid cw;have c5:=hid b3;have HM:=hid hM;clear cp X cw b3 hA hS I G s h hC hM hpl a0
   cases b with
   | false=>
    simp only[Bool.false_eq_true,if_false];go_enter func12,ntmps12
    go_upto_region 4 with (go_at_call 17;refine CP.out.mono ?_;rintro e w1 ⟨rfl,P⟩;have f:=hid P;clear P)
    have HR:=hid (CR.out w1 f.out);clear CR
    go_upto_region 5 with (go_at_call 18;refine HR.out.mono ?_;rintro e F ⟨t,n,z,u,rfl,D,b2,U⟩;have N:=hid (U (by trivial));have J:=hid D;have A:=hid (f.out.trans (b2.mono f.out.size));clear b2 D U)
    obtain rfl:u = .nilIface:=by
     rcases Ub rfl J.out with ⟨_,e⟩|⟨e,_⟩
     ·exact e
     ·exact absurd rfl e
    obtain⟨j,m⟩:∃W,F.alloc (.cells #[.slice t n z] 68)=W:=⟨_,rfl⟩;have k:Hid (Below w.heap.size w j):=hid (by rw[<- m];exact A.out.alloc A.out.size _);have Q:Below F.heap.size F j:=by rw[<- m];exact nB F _
    have e0:j.cell? ⟨F.heap.size,0,none⟩=some (.slice t n z):=by rw[<- m];exact (za (heap_alloc_new F _) 0).1
    have C:xP M j (.slice t n z) (jP text):=xP.of (N.out.below Q) (λb I=>Nat.lt_of_lt_of_le (HM.out b I) f.out.size);obtain⟨vs,r,o⟩:=(HO.out.below k.out).row;have c0:j.cell? ⟨K,i,none⟩=some (vs i):=(za r i).1.trans (Ju vs Y);obtain⟨xa,xn,xc,hv⟩:∃a n c,vs i = .slice a n c:=by obtain⟨a,c,e,_⟩:=o i Y;exact⟨a,_,c,e⟩
    have Z:Below j.heap.size j j.drew:=(Below.refl _ j).drew;have O:=hid (HW.out j.drew (vs i) t n z (k.out.trans (Z.mono k.out.size)) ((o i Y).turn (zA.of Z)) (C.turn (zA.of Z)));have b8:=hid r;rw[hv] at c0 O;rw[m];clear r o C HW N HR Z Q m
    go_upto_region 7 with fail
    go_region_held3 (λV=>V.cell? ⟨K,i,none⟩=some (.slice xa xn xc)/\V.cell? ⟨F.heap.size,0,none⟩=some (.slice t n z)) (go_keep) (first|((go_at_call 20);refine O.out.mono ?_;rintro e w5 ⟨v,rfl,L,R⟩;have a7:=hid R;have g0:=zb L c0;have g1:=zb L e0;have H:Hid (Below j.heap.size j w5):=(((Below.refl _ j).drew).trans L);have B:=hid (k.out.trans (H.out.mono k.out.size));clear L R))
    go_wp2_with fail;go_ret2;exact⟨rfl,zA.of B.out,HO.out.below B.out⟩
   | true=>
    simp only[if_true];go_enter func12,ntmps12
    go_upto_region 4 with (go_at_call 17;refine CP.out.mono ?_;rintro e w1 ⟨rfl,P⟩;have f:=hid P;clear P)
    have HR:=hid (CR.out w1 f.out);clear CR
    go_upto_region 5 with (go_at_call 18;refine HR.out.mono ?_;rintro e F ⟨t,n,z,u,rfl,D,b2,U⟩;have N:=hid (U (by trivial));have J:=hid D;have A:=hid (f.out.trans (b2.mono f.out.size));clear b2 D U)
    obtain rfl:u = .nilIface:=by
     rcases Ub rfl J.out with ⟨_,e⟩|⟨e,_⟩
     ·exact e
     ·exact absurd rfl e
    obtain⟨j,m⟩:∃W,F.alloc (.cells #[.slice t n z] 68)=W:=⟨_,rfl⟩;have k:Hid (Below w.heap.size w j):=hid (by rw[<- m];exact A.out.alloc A.out.size _);have Q:Below F.heap.size F j:=by rw[<- m];exact nB F _
    have e0:j.cell? ⟨F.heap.size,0,none⟩=some (.slice t n z):=by rw[<- m];exact (za (heap_alloc_new F _) 0).1
    have C:xP M j (.slice t n z) (jP text):=xP.of (N.out.below Q) (λb I=>Nat.lt_of_lt_of_le (HM.out b I) f.out.size);obtain⟨vs,r,o⟩:=(HO.out.below k.out).row;have c0:j.cell? ⟨K,i,none⟩=some (vs i):=(za r i).1.trans (Ju vs Y);obtain⟨xa,xn,xc,hv⟩:∃a n c,vs i = .slice a n c:=by obtain⟨a,c,e,_⟩:=o i Y;exact⟨a,_,c,e⟩
    have Z:Below j.heap.size j j.drew:=(Below.refl _ j).drew;have O:=hid (HW.out j.drew (vs i) t n z (k.out.trans (Z.mono k.out.size)) ((o i Y).turn (zA.of Z)) (C.turn (zA.of Z)));have b8:=hid r;rw[hv] at c0 O;rw[m];clear r o C HW N HR Z Q m
    go_upto_region 7 with fail
    go_region_held3 (λV=>V.cell? ⟨K,i,none⟩=some (.slice xa xn xc)/\V.cell? ⟨F.heap.size,0,none⟩=some (.slice t n z)) (go_keep) (first|((go_at_call 20);refine O.out.mono ?_;rintro e w5 ⟨v,rfl,L,R⟩;have a7:=hid R;have g0:=zb L c0;have g1:=zb L e0;have H:Hid (Below j.heap.size j w5):=(((Below.refl _ j).drew).trans L);have B:=hid (k.out.trans (H.out.mono k.out.size));clear L R))
    have HL:=hid (a7.out (by trivial));have S:=(H.out.block K (by have:=k.out.size;omega)).trans b8.out;have f2:=(za S i).2;obtain⟨va,vn,vc,d3⟩:∃a n c,v = .slice a n c:=by obtain⟨a,c,e,_⟩:=HL.out;exact⟨a,_,c,e⟩
    subst d3;have HF:=hid ((HO.out.below B.out).set Y HL.out (c5.out (by trivial)));have HT:=hid ((zA.of (M:=λb=>b=K) B.out).trans (zA.set (M:=λb=>b=K) w5 rfl i (.slice va vn vc)));clear S a7 HL;go_wp2_with fail;go_ret2;exact⟨rfl,HT.out,HF.out⟩
  ·have hA:kS g (i:Int) name text=Rd.yU text:=by
    unfold kS;rw[if_pos hpl,if_neg hd]
   have hS:y9 g (i:Int) name text=g:=by
    unfold y9 YN;rw[decide_eq_false hd]
    simp
   rw[hA,hS];obtain⟨⟨c,q⟩,G⟩:∃x,Rd.yU text=x:=⟨_,rfl⟩;rw[G] at hd |-;simp only[G] at X;unfold QI at X;simp only at hd X |-;have ce:=λW u (I:Below w.heap.size w W) h=>Bw c q u aL W (hC.below I).q.p.d.err (hC.below I).q.long h;have CR:=hid X;have CE:=hid ce;clear cp X ce hA hS G s h hC hM hpl a0;go_enter func12,ntmps12
   go_upto_region 4 with (go_at_call 17;refine CP.out.mono ?_;rintro e w1 ⟨rfl,P⟩;have f:=hid P;clear P)
   have HR:=hid (CR.out w1 f.out);clear CR
   go_upto_region 5 with (go_at_call 18;refine HR.out.mono ?_;rintro e F ⟨t,n,z,u,rfl,D,b2,_⟩;have J:=hid D;have A:=hid (f.out.trans (b2.mono f.out.size));clear b2 D)
   obtain⟨T,y,rfl⟩:∃T y,u = .iface T y:=by
    rcases Ub rfl J.out with ⟨e,_⟩|⟨_,T,y,e⟩
    ·exact absurd e hd
    ·exact⟨T,y,e⟩
   have a6:=hid (A.out.alloc A.out.size (.cells #[.slice t n z] 68));have c4:=hid (CE.out _ _ a6.out J.out);clear CE HR
   go_wp2_with (go_at_call 19;refine c4.out.mono ?_;rintro e w5 ⟨rfl,L⟩;have B:=hid (a6.out.trans (L.mono a6.out.size));clear L)
   go_ret2;exact⟨rfl,zA.of B.out,HO.out.below B.out⟩
 ·unfold kS
  have hS:y9 g l name text=g:=by
   unfold y9 YN;rw[decide_eq_false hpl]
   simp
  rw[if_neg hpl,hS];obtain⟨E,hE⟩:∃x,kQ l name=x:=⟨_,rfl⟩;rw[hE] at cp hpl |-;have CP:=hid cp;have HO:=hid h;have d:(E==0)=false:=by simpa using hpl
  have d2:(E != 0)=true:=by simpa using hpl
  clear cp hE h hM hC hS;go_enter func12,ntmps12
  go_wp2_with (go_at_call 17;refine CP.out.mono ?_;rintro e w1 ⟨rfl,P⟩;have f:=hid P;clear P)
  go_ret2;exact⟨rfl,zA.of f.out,HO.out.below f.out⟩
def Hf(l:List Nat):List Value:=l.map λ(n:Nat)=>Value.int .i64 (n:Int)
attribute [local go_sem ↓] Go.wp_at_zero Go.wp_at_succ
attribute [local go_sem ↓] Go.wp_at_zero Go.wp_at_succ
structure Small (m:Ref.zh):Prop where
 nodes:m.nodes.length<=100000
 opn:m.opn.length<=100000
 kids:∀n ∈ m.nodes,n.kids.length<=100000
 names:∀n ∈ m.nodes,n.names.length<=100000
 got:m.got.size<=1000000
 top:∀o ∈ m.opn,o<m.nodes.length
attribute [local go_sem ↓] Go.wp_at_zero Go.wp_at_succ
attribute [local go_sem ↓] Go.wp_at_zero Go.wp_at_succ
attribute [local go_sem ↓] Go.wp_at_zero Go.wp_at_succ
attribute [local go_sem ↓] Go.wp_at_zero Go.wp_at_succ
attribute [local go_sem ↓] Go.wp_at_zero Go.wp_at_succ
attribute [local go_sem ↓] Go.wp_at_zero Go.wp_at_succ
theorem Small.of{n:Nat}{m:Ref.zh}(h:Ref.Bnd n m)(f:n<=4000):Small m:=by
 have b:=h.nodes;have c:=h.opn;have e:=h.got;refine⟨by omega,by omega,λd hd=>?_,λd hd=>?_,by omega,h.top⟩
 ·obtain⟨i,a⟩:=List.getElem?_of_mem hd;have:=h.kids i d a;omega
 ·obtain⟨i,a⟩:=List.getElem?_of_mem hd;have:=h.kids i d a;omega
def ZE(w wr:World)(cs:Array Value)(t:TypeId):Prop:=wr.heap[w.heap.size]?=some (.cells cs t (0,0))/\Below w.heap.size w wr
theorem ZE.start(w:World)(cs:Array Value)(t:TypeId):ZE w (w.alloc (.cells cs t)) cs t:=⟨heap_alloc_new w _,nB _ _⟩
theorem ZE.drew{w wr:World}{cs:Array Value}{t:TypeId}(h:ZE w wr cs t):ZE w wr.drew cs t:=⟨h.1,h.2.drew⟩
theorem ZE.cell{w wr:World}{cs:Array Value}{t:TypeId}(h:ZE w wr cs t)(k:Nat):wr.cell? ⟨w.heap.size,k,none⟩=cs[k]?:=(za h.1 k).1
theorem ZE.old{w wr:World}{cs:Array Value}{t:TypeId}(h:ZE w wr cs t){p:Addr}{v:Value}(a:w.cell? p=some v):wr.cell? p=some v:=zb h.2 a
structure Ya (w:World) (base b gg cap:Nat) (ns:List Ref.Node):Prop where
 lt:b<w.heap.size/\gg<w.heap.size
 slice:w.cell? ⟨b,2,none⟩=some (.slice (some ⟨gg,0,none⟩) ns.length cap)
 node:∀(i:Nat) (n:Ref.Node),ns[i]?=some n->∃v:Value×Value,w.cell? ⟨gg,i*4,none⟩=some (.int .i64 n.kind)/\w.cell? ⟨gg,i*4+1,none⟩=some (.string n.text)/\w.cell? ⟨gg,i*4+2,none⟩=some v.1/\w.cell? ⟨gg,i*4+3,none⟩=some v.2 /\
  w.ownsRow base 9 1 v.1 n.names.length (Ref.strCells n.names)/\w.ownsRow base 3 1 v.2 n.kids.length (Hf n.kids)
 ev:Ref.Ev ns
 len:ns.length<=4000
 small:∀(i:Nat) (n:Ref.Node),ns[i]?=some n->n.kids.length<=4000/\n.names.length<=4000/\n.text.size<=12000
theorem Ya.below{w e:World}{base b c cap:Nat}{d:List Ref.Node}(h:Ya w base b c cap d)(a:Below w.heap.size w e):Ya e base b c cap d:=by
 have p:=a.size;refine⟨⟨by have:=h.lt.1;omega,by have:=h.lt.2;omega⟩,zb a h.slice,λi n o=>?_,h.ev,h.len,h.small⟩;obtain⟨v,f,g,j,k,l,m⟩:=h.node i n o;exact⟨v,zb a f,zb a g,zb a j,zb a k,ownsRow_below l a,ownsRow_below m a⟩
theorem But.trans{a b c:World}{r:Option Nat}(h:a.grownBy b r)(k:b.grownBy c r):a.grownBy c r:=
 ⟨k.os.trans h.os,k.tape.trans h.tape,k.output.trans h.output,Nat.le_trans h.size k.size,λi d e=>(k.block i (Nat.lt_of_lt_of_le d h.size) e).trans (h.block i d e)⟩
theorem But.of{a b:World}(r:Option Nat)(h:Below a.heap.size a b):a.grownBy b r:=⟨h.os,h.tape,h.output,h.size,λi c _=>h.block i c⟩
theorem But.set(a:World)(b o:Nat)(u:Value):a.grownBy (a.setCell ⟨b,o,none⟩ u) (some b):=
 ⟨rfl,rfl,rfl,by simp[World.setCell],λi _ c=>Below.heap_setCell _ _ _ _ (λe=>c (by simp only at e;rw[e]))⟩
theorem But.below{a b:World}{c B:Nat}(h:a.grownBy b (some c))(d:B<=a.heap.size)(f:B<=c):Below B a b:=
 ⟨h.os,h.tape,h.output,h.size,λi g=>h.block i (by omega) (λe=>by simp only[Option.some.injEq] at e;omega)⟩
structure Zc (w0:World) (base b gg cap:Nat) (ns:List Ref.Node) (w:World):Prop where
 rd:Ya w0 base b gg cap ns
 non:Ref.NoN ns
 bel:Below w0.heap.size w0 w
theorem Zc.at{d w:World}{base b a cap:Nat}{c:List Ref.Node}(h:Zc d base b a cap c w):Ya w base b a cap c:=h.rd.below h.bel
theorem Zc.below{e w d:World}{base b a cap:Nat}{c:List Ref.Node}(h:Zc e base b a cap c w)(f:Below w.heap.size w d):Zc e base b a cap c d:=⟨h.rd,h.non,h.bel.trans (f.mono h.bel.size)⟩
theorem Zc.grown{a w f:World}{base b d cap c:Nat}{e:List Ref.Node}(h:Zc a base b d cap e w)(i:w.grownBy f (some c))(g:a.heap.size<=c):Zc a base b d cap e f:=⟨h.rd,h.non,h.bel.trans (But.below i h.bel.size g)⟩
theorem Zc.names{e w:World}{base b d cap:Nat}{c:List Ref.Node}(h:Zc e base b d cap c w){i:Nat}{n:Ref.Node}(a:c[i]?=some n):n.names.length<=n.kids.length:=by
 by_cases h1:n.kind=1
 ·rw[(h.rd.ev i n a).2 h1];exact Nat.le_refl _
 ·rw[h.non i n a h1];simp
structure Kp (B:Nat) (wx wy:World):Prop where
 size:wx.heap.size<=wy.heap.size
 keep:∀i,B<=i->i<wx.heap.size->wy.heap[i]?=wx.heap[i]?
theorem Kp.trans{B:Nat}{a b c:World}(h:Kp B a b)(k:Kp B b c):Kp B a c:=⟨Nat.le_trans h.size k.size,λi d e=>(k.keep i d (Nat.lt_of_lt_of_le e h.size)).trans (h.keep i d e)⟩
theorem Kp.below{B:Nat}{a b:World}(h:Below a.heap.size a b):Kp B a b:=⟨h.size,λi _ c=>h.block i c⟩
theorem Kp.grown{B c:Nat}{a b:World}(h:a.grownBy b (some c))(e:c<B):Kp B a b:=⟨h.size,λi f d=>h.block i d (by simp;omega)⟩
theorem Kp.set{B b:Nat}(a:World)(o:Nat)(u:Value)(c:b<B):Kp B a (a.setCell ⟨b,o,none⟩ u):=⟨by simp[World.setCell],λi d _=>Below.heap_setCell _ _ _ _ (by simp only;omega)⟩
theorem Ref.Qr(l:List BA)(a:l.length<=10)(h:∀s ∈ l,s.size<=12000):(Ref.xK l).size<=900000:=by
 have:=Ref.XF l h l.length
 have z:(⟨#[93]⟩:BA).size=1:=rfl;rw[Ref.xK,ByteArray.size_append];omega
theorem Below.on{B:Nat}{a b c:World}(h:Below B a b)(k:Below b.heap.size b c)(d:B<=a.heap.size):Below B a c:=h.trans (k.mono (Nat.le_trans d h.size))
structure Grown (A:World) where
 w:World
 b:Below A.heap.size A w
end Go.Proofs.YtdakgnaojakldabGreatDoor
