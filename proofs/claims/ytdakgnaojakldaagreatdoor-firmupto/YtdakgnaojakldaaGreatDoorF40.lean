/- P -/
import Derived.Test.YtdakgnaojakldaaGreatDoorF30
import Derived.Test.YtdakgnaojakldaaGreatDoorF39
open Go.Proofs.Tryz
set_option maxRecDepth 100000
set_option maxHeartbeats 8000000
namespace Go.Proofs.YtdakgnaojakldaaGreatDoor
open Go.RowKit
theorem gu{L:List zk}(h:xI L){m:BA}:zl L m=true↔∃a,(m,a) ∈ L:=by
 constructor
 ·intro c;obtain⟨a,b,_⟩:=Vg c;exact⟨a,b⟩
 ·rintro ⟨a,d⟩;exact (J4 h d).1
theorem gz{L:List zk}(h:xI L)(n m:BA)(a:List zA):zl (yt L n a) m=(decide (m=n)||zl L m):=by
 have d:=h.with n a
 rw[Bool.eq_iff_iff,gu d,Bool.or_eq_true,decide_eq_true_eq,gu h]
 constructor
 ·rintro ⟨c,b⟩
  rcases (Qk h).1 b with e|⟨e,_⟩
  ·exact .inl (congrArg Prod.fst e)
  ·exact .inr ⟨c,e⟩
 ·rintro (rfl|⟨c,b⟩)
  ·exact⟨a,(Qk h).2 (.inl rfl)⟩
  ·by_cases e:m=n
   ·subst e;exact⟨a,(Qk h).2 (.inl rfl)⟩
   ·exact⟨c,(Qk h).2 (.inr ⟨b,e⟩)⟩
theorem pK(L:List zk)(n:BA)(a:List zA):(yt L n a).length=if zl L n then L.length else L.length+1:=by
 have b:=KO L n;unfold yt;simp only[List.length_append,List.length_take,List.length_drop,List.length_singleton]
 cases hh:zl L n with
 | true=>
  have:=XZ hh
  simp only[if_true];omega
 | false=>
  simp only[Bool.false_eq_true,if_false];omega
namespace Kp
structure qz where
 layer:Int
 name:Int
 rules:List zi
def qz.lay(p:qz):Nat:=zm p.layer 4
def qz.num(p:qz):Nat:=zm p.name 6
def zT(k:Nat):BA:=ZB.getD k ⟨#[]⟩
def qz.nam(p:qz):BA:=zT p.num
def jU(a:StO)(p:qz):StO:=xE a (p.lay:Int) p.nam (qi p.rules)
def jA(l:List qz)(n:Nat):StO:=(l.take n).foldl jU qm
def Ye(l:List qz):StO:=l.foldl jU qm
theorem X0(p:qz):p.lay<4:=qR _ 4 (by decide)
theorem QK(p:qz):p.num<6:=qR _ 6 (by decide)
theorem IX{k:Nat}(h:k<6):Ref.zI (zT k)=true:=BH k h
theorem IW:∀j,j<6->∀k,k<6->zT j=zT k->j=k:=by decide +kernel
theorem Km:∀k,k<6->(zT k).size<=12:=by decide
theorem mP{i k:Nat}(hi:i<4)(c:k<6):jf (i:Int) (zT k)=0:=by
 unfold jf vg;have a:decide ((0:Int)<=(i:Int))=true:=decide_eq_true (by omega);have b:decide ((i:Int)<4)=true:=decide_eq_true (by omega);rw[a,b,IX c]
 rfl
theorem Yj(a:StO){i k:Nat}(hi:i<4)(c:k<6)(text:BA)(b:Rd.xW text=(0,0)) :
  yR a (i:Int) (zT k) text=(if zl (a i) (zT k)||decide ((a i).length<4) then (0,0) else (10,0)) /\
  xE a (i:Int) (zT k) text=(if zl (a i) (zT k)||decide ((a i).length<4) then upd a i (yt (a i) (zT k) (yI text)) else a):=by
 have d:=mP hi c;unfold yR xE Yi;simp only[Int.toNat_natCast];rw[d,b];simp only[if_true,decide_true,Bool.true_and,and_self]
def yY(a:StO):Prop:=∀i,i<4->Zn (a i)
def kC(a:StO):Prop:=∀i,i<4->∀x ∈ a i,(∃k,k<6/\x.1=zT k)/\∃l:List zi,x.2=kJ l
theorem UG:yY qm:=λi _=>⟨List.Pairwise.nil,by simp[qm],λx a=>by simp[qm] at a⟩
theorem UH:kC qm:=λi _ x a=>by simp[qm] at a
theorem uH(a:StO)(i:Nat)(L:List zk):upd a i L i=L:=by unfold upd;rw[if_pos rfl]
theorem ZM(a:StO){i j:Nat}(h:j≠i)(L:List zk):upd a i L j=a j:=by unfold upd;rw[if_neg h]
theorem Nb{a:StO}(d:yY a)(f:kC a){i k:Nat}(hi:i<4)(h:k<6){text:BA}(g:Rd.xW text=(0,0))(m:∃l:List zi,yI text=kJ l):yY (xE a (i:Int) (zT k) text)/\kC (xE a (i:Int) (zT k) text):=by
 rw[(Yj a hi h text g).2]
 cases hb:zl (a i) (zT k)||decide ((a i).length<4) with
 | false=>exact⟨d,f⟩
 | true=>
  simp only[if_true]
  constructor
  ·intro j b
   by_cases e:j=i
   ·subst e;rw[uH];exact (d j b).with hb (VQ text (by rw[g]))
   ·rw[ZM a e];exact d j b
  ·intro j b x c
   by_cases e:j=i
   ·subst e;rw[uH] at c
    rcases (Qk (d j b).1).1 c with rfl|⟨c,_⟩
    ·exact⟨⟨k,h,rfl⟩,m⟩
    ·exact f j b x c
   ·rw[ZM a e] at c;exact f j b x c
theorem ou{a:StO}(b:yY a)(c:kC a)(p:qz):yY (jU a p)/\kC (jU a p):=
 Nb b c (X0 p) (QK p) (ZG p.rules) ⟨p.rules,aM p.rules⟩
theorem UX:∀(l:List qz) (a:StO),yY a->kC a->yY (l.foldl jU a)/\kC (l.foldl jU a)
 | [],_,hg,hm=>⟨hg,hm⟩
 | p::l,_,hg,hm=>UX l _ (ou hg hm p).1 (ou hg hm p).2
theorem Mg(l:List qz):yY (Ye l)/\kC (Ye l):=UX l _ UG UH
theorem Mi(l:List qz)(n:Nat):yY (jA l n)/\kC (jA l n):=UX _ _ UG UH
theorem Mj(l:List qz)(n:Nat)(h:n<l.length):jA l (n+1)=jU (jA l n) l[n]:=by
 unfold jA;rw[List.take_succ_eq_append_getElem h,List.foldl_append]
 rfl
theorem Mh(l:List qz)(n:Nat)(h:l.length<=n):jA l n=Ye l:=by
 unfold jA Ye;rw[List.take_of_length_le h]
theorem PM(a:StO)(p:qz)(i:Nat):(jU a p i).length=if i=p.lay/\zl (a p.lay) p.nam=false/\(a p.lay).length<4 then (a i).length+1 else (a i).length:=by
 unfold jU;show (xE a (p.lay:Int) (zT p.num) (qi p.rules) i).length=_;rw[(Yj a (X0 p) (QK p) _ (ZG p.rules)).2];unfold qz.nam
 by_cases hi:i=p.lay
 ·subst hi
  cases hh:zl (a p.lay) (zT p.num) with
  | true=>
   simp only[Bool.true_or,if_true];rw[uH,pK,hh,if_pos rfl,if_neg (by simp)]
  | false=>
   by_cases h4:(a p.lay).length<4
   ·rw[if_pos (by simp[h4]),uH,pK,hh,if_neg (by simp),if_pos ⟨rfl,rfl,h4⟩]
   ·rw[if_neg (by simp[h4]),if_neg (λh=>h4 h.2.2)]
 ·have b:¬(i=p.lay/\zl (a p.lay) (zT p.num)=false/\(a p.lay).length<4):=λh=>hi h.1;rw[if_neg b]
  cases zl (a p.lay) (zT p.num)||decide ((a p.lay).length<4) with
  | true=>simp only[if_true];rw[ZM a hi]
  | false=>rfl
theorem PK{a:StO}(c:yY a)(p:qz){i k:Nat}(hi:i<4)(d:k<6):zl (jU a p i) (zT k)=(zl (a i) (zT k)||(decide (i=p.lay)&&decide (k=p.num)&&decide ((a p.lay).length<4))):=by
 unfold jU;show zl (xE a (p.lay:Int) (zT p.num) (qi p.rules) i) (zT k)=_;rw[(Yj a (X0 p) (QK p) _ (ZG p.rules)).2]
 by_cases e:i=p.lay
 ·have b:decide (zT k=zT p.num)=decide (k=p.num):=by
   by_cases ek:k=p.num
   ·rw[ek];simp
   ·rw[decide_eq_false ek,decide_eq_false (λh=>ek (IW k d _ (QK p) h))]
  subst e;rw[decide_eq_true rfl,Bool.true_and]
  cases hh:zl (a p.lay) (zT p.num) with
  | true=>
   simp only[Bool.true_or,if_true];rw[uH,gz (c _ hi).1,b]
   by_cases ek:k=p.num
   ·rw[ek,hh];simp
   ·rw[decide_eq_false ek];simp
  | false=>
   by_cases h4:(a p.lay).length<4
   ·rw[if_pos (by simp[h4]),uH,gz (c _ hi).1,b,decide_eq_true h4,Bool.and_true,Bool.or_comm]
   ·rw[if_neg (by simp[h4]),decide_eq_false h4];simp
 ·rw[decide_eq_false e];simp only[Bool.false_and,Bool.or_false]
  split
  ·rw[ZM a e]
  ·rfl
end Kp
def Q5(w:World)(e:Value)(l:List Kp.qz):Prop:=∃a c,e = .slice a l.length c/\∀(k:Nat) (p:Kp.qz),l[k]?=some p->I64 p.layer/\I64 p.name/\p.rules.length<=maxLen /\
 ∃b o d,a=some ⟨b,o,none⟩/\w.cell? ⟨b,o+k*3,none⟩=some (.int .i64 p.layer)/\w.cell? ⟨b,o+k*3+1,none⟩=some (.int .i64 p.name)/\w.cell? ⟨b,o+k*3+2,none⟩=some d/\vO w d p.rules
theorem Q5.below{w d:World}{b:Value}{l:List Kp.qz}(h:Q5 w b l)(hb:Below w.heap.size w d):Q5 d b l:=by
 obtain⟨a,c,rfl,h⟩:=h;refine⟨a,c,rfl,λk p m=>?_⟩;obtain⟨g,i,j,f,o,q,e,c0,c1,c2,n⟩:=h k p m;exact⟨g,i,j,f,o,q,e,zb hb c0,zb hb c1,zb hb c2,n.below hb⟩
structure uL (w:World) (cb hb:Nat) (st:StO):Prop where
 cnt:∀i,i<4->w.cell? ⟨cb,i,none⟩=some (.int .i64 ((st i).length:Nat))/\w.frozen? ⟨cb,i,none⟩=false
 has:∀i,i<4->∀k,k<6->w.cell? ⟨hb,i*6+k,none⟩=some (.bool (zl (st i) (Kp.zT k)))/\w.frozen? ⟨hb,i*6+k,none⟩=false
theorem uL.turn{w f:World}{c hb:Nat}{l:StO}{M:Nat->Prop}(h:uL w c hb l)(e:zx M w f)(g:¬M c)(j:¬M hb):uL f c hb l:=by
 have fr:∀(b k:Nat) (v:Value),¬M b->w.cell? ⟨b,k,none⟩=some v->w.frozen? ⟨b,k,none⟩=false->f.frozen? ⟨b,k,none⟩=false:=λb k v o m n=>
  (World.frozen?_of_block (w:=w) (a:=⟨b,k,none⟩) (e.block b (World.block_lt_of_cell? _ _ m) o)).trans n
 exact⟨λi hi=>⟨e.cell (x:=⟨c,i,none⟩) g (h.cnt i hi).1,fr _ _ _ g (h.cnt i hi).1 (h.cnt i hi).2⟩,λi hi k d=>⟨e.cell (x:=⟨hb,i*6+k,none⟩) j (h.has i hi k d).1,fr _ _ _ j (h.has i hi k d).1 (h.has i hi k d).2⟩⟩
theorem uL.same{w:World}{e hb:Nat}{d c:StO}(h:uL w e hb d)(g:∀a,a<4->(c a).length=(d a).length)(j:∀a,a<4->∀b,b<6->zl (c a) (Kp.zT b)=zl (d a) (Kp.zT b)):uL w e hb c:=
 ⟨λi hi=>by rw[g i hi];exact h.cnt i hi,λi hi k f=>by rw[j i hi k f];exact h.has i hi k f⟩
theorem uL.more{w:World}{l hb:Nat}{k g:StO}(h:uL w l hb k)(m:l≠hb){i j:Nat}(hi:i<4)(q:j<6)(o:∀a,a<4->(g a).length=if a=i then (k a).length+1 else (k a).length)(p:∀a,a<4->∀b,b<6->zl (g a) (Kp.zT b)=(zl (k a) (Kp.zT b)||(decide (a=i)&&decide (b=j)))) :
  uL ((w.setCell ⟨l,i,none⟩ (.int .i64 (((k i).length:Int)+1))).setCell ⟨hb,i*6+j,none⟩ (.bool true)) l hb g:=by
 refine⟨λa d=>⟨?_,by rw[World.frozen?_setCell,World.frozen?_setCell];exact (h.cnt a d).2⟩,λa d b f=>⟨?_,by rw[World.frozen?_setCell,World.frozen?_setCell];exact (h.has a d b f).2⟩⟩
 ·rw[World.cell?_setCell_other _ _ _ _ (by intro e;injection e with e;exact m e.symm),o a d]
  by_cases e:a=i
  ·subst e;rw[if_pos rfl,World.cell?_setCell_same _ _ _ (h.cnt a d).1]
   simp
  ·rw[if_neg e,World.cell?_setCell_other _ _ _ _ (by intro c;injection c with _ c;exact e c.symm)]
   exact (h.cnt a d).1
 ·have n:=(World.cell?_setCell_other w ⟨l,i,none⟩ ⟨hb,a*6+b,none⟩ (.int .i64 (((k i).length:Int)+1)) (by intro e;injection e with e;exact m e)).trans (h.has a d b f).1
  rw[p a d b f]
  by_cases e:a=i/\b=j
  ·obtain⟨rfl,rfl⟩:=e;rw[World.cell?_setCell_same _ _ _ n]
   simp
  ·rw[World.cell?_setCell_other _ _ _ _ (by intro c;injection c with _ c;apply e;constructor<;>omega),n]
   have:(decide (a=i)&&decide (b=j))=false:=by
    rw[Bool.and_eq_false_iff]
    by_cases e1:a=i
    ·exact .inr (decide_eq_false (λc=>e ⟨e1,c⟩))
    ·exact .inl (decide_eq_false e1)
   rw[this,Bool.or_false]
def OpM(c a b:Nat):Prop:=b=c\/b=a+1\/b=a+1+1
structure XH (w wr:World) (nb:Nat) (st:StO):Prop where
 below:Below w.heap.size w wr
 office:qf (OpM w.heap.size nb) wr w.heap.size st
 lt:w.heap.size<nb
 top:nb+2<wr.heap.size
 names:∀j,j<6->wr.cell? ⟨nb,j,none⟩=some (.string (Kp.zT j))
 counts:uL wr (nb+1) (nb+1+1) st
def bq(w:World)(l:List Kp.qz)(e:Ending)(c:World):Prop:=∃a,e = .returned (.tuple #[.pointer (some ⟨a,0,none⟩),.bool true])/\w.heap.size<=a/\a<c.heap.size/\Below w.heap.size w c/\qf (λb=>b=a) c a (Kp.Ye l)
theorem Mk(l:List Kp.qz)(lv:Value)(aL:Addr)(w:World)(hC:ZP w aL)(h:Q5 w lv l)(hm:l.length<=maxLen) :
  Calls prog 20 #[lv] w (bq w l):=by
 have cn:=Kq (λb=>b=w.heap.size) w rfl;have cN:=λW=>iL W;obtain⟨a,cc,rfl,I⟩:=h;obtain⟨n,a0⟩:=Nm l.length;have z:=hid I;have HC:=hid hC;have CN:=hid cn;have a9:=hid cN;rw[a0] at hm |-;have HN:=hid a0;unfold maxLen at hm;clear I hC cn cN a0;go_enter func20,ntmps20
 go_upto_region 8 with (first
  | (go_at_call 28;refine (a9.out O).mono ?_;rintro e w2 ⟨rfl,R⟩;rw[R];clear R)
  | (go_at_call 21;refine CN.out.mono ?_;rintro e O ⟨rfl,b1,o1⟩;have B1:=hid b1;have O1:=hid o1;clear b1 o1))
 have h3:w.heap.size<O.heap.size:=lt_of_block O1.out.row.choose_spec.1;obtain⟨d,H⟩:∃x,O.heap.size=x:=⟨_,rfl⟩;obtain⟨W3,B⟩:∃W,((O.alloc (.cells (Kp.ZB.map Value.string).toArray 9)).alloc (.cells #[.int .i64 0,.int .i64 0,.int .i64 0,.int .i64 0] 94)).alloc (.cells #[.bool false,.bool false,.bool false,.bool false,.bool false,.bool false,.bool false,.bool false,.bool false,.bool false,.bool false,.bool false,.bool false,.bool false,.bool false,.bool false,.bool false,.bool false,.bool false,.bool false,.bool false,.bool false,.bool false,.bool false] 96)=W:=⟨_,rfl⟩
 have X:XH w W3 d (Kp.jA l 0):=by
  have hb13:Below O.heap.size O W3:=by rw[<- B];exact ((nB O _).alloc (by simp) _).alloc (by simp;omega) _
  have j6:W3.heap.size=d+3:=by rw[<- B,<- H];simp
  have e0:Kp.jA l 0=qm:=rfl;rw[e0]
  have x1:W3.heap[d]?=some (.cells (Kp.ZB.map Value.string).toArray 9):=by
   rw[<- B,<- H,Below.heap_alloc _ _ _ (by simp;omega),Below.heap_alloc _ _ _ (by simp)];exact heap_alloc_new O _
  have x2:W3.heap[d+1]?=some (.cells #[.int .i64 0,.int .i64 0,.int .i64 0,.int .i64 0] 94):=by
   rw[<- B,<- H,Below.heap_alloc _ _ _ (by simp)]
   have:=heap_alloc_new (O.alloc (.cells (Kp.ZB.map Value.string).toArray 9)) (.cells #[.int .i64 0,.int .i64 0,.int .i64 0,.int .i64 0] 94)
   simpa using this
  have x3:W3.heap[d+2]?=some (.cells #[.bool false,.bool false,.bool false,.bool false,.bool false,.bool false,.bool false,.bool false,.bool false,.bool false,.bool false,.bool false,.bool false,.bool false,.bool false,.bool false,.bool false,.bool false,.bool false,.bool false,.bool false,.bool false,.bool false,.bool false] 96):=by
   rw[<- B,<- H]
   have:=heap_alloc_new ((O.alloc (.cells (Kp.ZB.map Value.string).toArray 9)).alloc (.cells #[.int .i64 0,.int .i64 0,.int .i64 0,.int .i64 0] 94)) (.cells #[.bool false,.bool false,.bool false,.bool false,.bool false,.bool false,.bool false,.bool false,.bool false,.bool false,.bool false,.bool false,.bool false,.bool false,.bool false,.bool false,.bool false,.bool false,.bool false,.bool false,.bool false,.bool false,.bool false,.bool false] 96)
   simpa using this
  refine⟨B1.out.trans (hb13.mono B1.out.size),(O1.out.more (λb hb=>by rcases hb with h|h|h;exact .inl h;exact .inr (by omega);exact .inr (by omega)) (.inl rfl)).below hb13,by omega,by omega,λj hj=>?_,⟨λi hi=>?_,λi hi k hk=>?_⟩⟩
  ·rw[(za x1 j).1]
   have:j=0\/j=1\/j=2\/j=3\/j=4\/j=5:=by omega
   rcases this with rfl|rfl|rfl|rfl|rfl|rfl<;>rfl
  ·obtain⟨c,f⟩:=za x2 i;rw[c,f]
   have:i=0\/i=1\/i=2\/i=3:=by omega
   rcases this with rfl|rfl|rfl|rfl<;>exact⟨rfl,rfl⟩
  ·obtain⟨c,f⟩:=za x3 (i*6+k);rw[c,f]
   have b3:∀m,m<24->(#[Value.bool false,.bool false,.bool false,.bool false,.bool false,.bool false,.bool false,.bool false,.bool false,.bool false,.bool false,.bool false,.bool false,.bool false,.bool false,.bool false,.bool false,.bool false,.bool false,.bool false,.bool false,.bool false,.bool false,.bool false]:Array Value)[m]?=some (.bool false):=by
    intro m hm;have d6:(List.replicate 24 (Value.bool false))[m]?=some (.bool false):=by rw[List.getElem?_replicate,if_pos hm]
    simpa using d6
   exact⟨b3 _ (by omega),rfl⟩
 rw[B];have b0:=hid X;rw[H];clear X B H B1 O1 CN a9
 go_loopw [8] (λiv wr=>∃k:Nat,k<=n/\iv = .int .i64 k/\XH w wr d (Kp.jA l k)) (λiv _=>n-(intOf iv).toNat)
 case atStart=>exact⟨0,Nat.zero_le _,rfl,b0.out⟩
 case round=>
  clear b0;obtain⟨k,hk,rfl,A⟩:=hrel
  by_cases hlt:k<n
  ·have b4:k<l.length:=by rw[HN.out];exact hlt
   obtain⟨i1,i2,a1,gb,o,rv,rfl,q0,q1,q2,a2⟩:=z.out k _ (List.getElem?_eq_getElem b4);have g:=Kp.Mj l k b4;obtain⟨hG,_⟩:=Kp.Mi l k;obtain⟨C,b8⟩:∃s,Kp.jA l k=s:=⟨_,rfl⟩;rw[b8] at A g hG;obtain⟨p,hp⟩:=Nm (l[k]);rw[hp] at i1 i2 a1 q0 q1 a2 g;have p0:=zb A.below q0;have p1:=zb A.below q1;have p2:=zb A.below q2;have hi4:=Kp.X0 p;have G:=Kp.QK p;have c1:=λW=>vC p.layer 4 W i1 (by decide) (by decide);have c2:=λW=>vC p.name 6 W i2 (by decide) (by decide);have hlen:=Kp.PM C p;have J:=λ(a b:Nat) (N:a<4) (hb:b<6)=>Kp.PK hG p N hb;have y:=Kp.Yj C hi4 G (Kp.qi p.rules) (Kp.ZG p.rules);have K:Kp.jU C p=xE C (p.lay:Int) (Kp.zT p.num) (Kp.qi p.rules):=rfl;have cP:=λ(W:World) (hb:Below w.heap.size w W)=>Vq p.rules rv W (a2.below hb) a1;unfold Kp.qz.nam at hlen;have e1:Kp.zm p.layer 4=p.lay:=rfl;have R:Kp.zm p.name 6=p.num:=rfl;simp only[e1] at c1;simp only[R] at c2;obtain⟨i,hi⟩:=Nm p.lay;obtain⟨j,hj⟩:=Nm p.num;simp only[hi,hj] at c1 c2 hi4 G hlen J y K;obtain⟨T,hT⟩:=Nm (Kp.qi p.rules);simp only[hT] at y K cP;have nj:=A.names j G;have jz:=Kp.Km j G;obtain⟨nm,S⟩:∃x,Kp.zT j=x:=⟨_,rfl⟩;rw[S] at nj jz y K;simp only[S] at hlen;have C1:Hid (∀W,Calls prog 19 #[.int .i64 p.layer,.int .i64 4] W λe w'=>e = .returned (.int .i64 (i:Int))/\w'=W):=hid c1;have C2:Hid (∀W,Calls prog 19 #[.int .i64 p.name,.int .i64 6] W λe w'=>e = .returned (.int .i64 (j:Int))/\w'=W):=hid c2;have CP:=hid cP;have L:=hid A;have HG:=hid hG;have r:=hid hlen;have q:=hid J;have t:=hid (g.trans K);have E:=hid g;have P:=hid y.1;have U:=hid (λ(W:World) (hb:Below w.heap.size w W) (ho:qf (OpM w.heap.size d) W w.heap.size C) (hz:d+2<W.heap.size)=>Je w.heap.size C (i:Int) nm T (OpM w.heap.size d) aL W (HC.out.below hb) ho (λb hb=>by have:=A.lt;rcases hb with h|h|h<;>omega) (by unfold maxLen;omega))
   have b2:=hid S;have V:=A.top;have v:=A.lt;have j4:(0:Int)<=(k:Int):=Int.natCast_nonneg _;have j2:(0:Int)<=(i:Int):=Int.natCast_nonneg _;have j3:(0:Int)<=(j:Int):=Int.natCast_nonneg _;have h0:(i:Int)<4:=by omega
   have h1:(j:Int)<6:=by omega
   clear q0 q1 a2 hp c1 c2 cP A hG hlen J y K g b8 hi hj hT z HN S i1 i2 a1
   go_upto_region 11 with (go_at_call 19;refine (C1.out wr).mono ?_;rintro e w2 ⟨rfl,R⟩;rw[R];clear R)
   go_upto_region 12 with (go_at_call 19;refine (C2.out wr).mono ?_;rintro e w3 ⟨rfl,e3⟩;rw[e3];clear e3)
   go_cut [11] (λv11 wc=>v11 = .int .i64 (yR C (i:Int) nm T).1/\Below w.heap.size w wc/\qf (OpM w.heap.size d) wc w.heap.size (Kp.jA l (k+1))/\d+2<wc.heap.size/\(∀j,j<6->wc.cell? ⟨d,j,none⟩=some (.string (Kp.zT j)))/\uL wc (d+1) (d+1+1) C)
   case first=>
    have cp:=hid (CP.out wr.drew L.out.below.drew);have g9:gb≠w.heap.size:=by have:=World.block_lt_of_cell? _ _ q2;simp at this;omega
    go_region_held3 (λw'=>w'.cell? ⟨d,j,none⟩=some (.string nm)/\w'.cell? ⟨gb,o+k*3+2,none⟩=some rv) (go_keep) (first
     | (go_at_call 24;refine (U.out w5 B5.out O5.out z5).mono ?_;rintro e w6 ⟨rfl,t6,o6⟩;have n6:=t6.cell (x:=⟨d,j,none⟩) (by simp;omega) n5;have r6:=t6.cell (x:=⟨gb,o+k*3+2,none⟩) (by simp;omega) r5;have T6:=hid t6;have O6:=hid o6;clear t6 o6)
     | (go_at_call 18;refine cp.out.mono ?_;rintro e w5 ⟨rfl,Y⟩;have n5:=zb Y nj;have r5:=zb Y p2;have B5:=hid (L.out.below.drew.trans (Y.mono L.out.below.size));have O5:=hid ((L.out.office.below (Below.refl _ wr).drew).below Y);have z5:d+2<w5.heap.size:=Nat.lt_of_lt_of_le V Y.size;have d0:=hid Y;clear Y))
    all_goals
     go_wp2_with fail
     go_meet
     case rel=>
      have tt:=(zx.of (M:=λb=>b=w.heap.size) ((Below.refl _ wr).drew)).trans ((zx.of d0.out).trans T6.out);refine⟨rfl,B5.out.trans (T6.out.below (λk hk e=>by omega) (by omega)),by rw[t.out];exact O6.out,?_,λj' Z=>tt.cell (x:=⟨d,j',none⟩) (by simp;omega) (L.out.names j' Z),L.out.counts.turn tt (by omega) (by omega)⟩
      have:=tt.size
      omega
   case rest=>
    obtain⟨rfl,b7,o7,z7,n7,Q⟩:=hcut;have x1:=Q.cnt i hi4;have x2:=Q.has i hi4 j G;rw[b2.out] at x2;have b6:∀a3:StO,Kp.jA l (k+1)=a3->uL wc (d+1) (d+1+1) a3->XH w wc d (Kp.jA l (k+1)):=λa3 e hc=>⟨b7,o7,v,z7,n7,by rw[e];exact hc⟩;have F:=P.out;have B7:=hid b7;have O7:=hid o7;have N7:=hid n7;have D:=hid Q;obtain⟨f3,k3⟩:=x1;obtain⟨c0,k4⟩:=x2;clear b7 o7 n7 Q U L CP C1 C2 b6
    cases hh:zl (C i) nm with
    | true=>
     rw[hh] at c0;rw[F,hh,Bool.true_or,if_pos rfl]
     have hinv:XH w wc d (Kp.jA l (k+1)):=by
      refine⟨B7.out,O7.out,v,z7,N7.out,?_⟩;rw[E.out];refine D.out.same (λa N=>?_) (λa N b hb=>?_)
      ·rw[r.out a,if_neg (λh=>by rw[h.2.1] at hh;cases hh)]
      ·rw[q.out a b N hb]
       by_cases e:a=i/\b=j
       ·obtain⟨rfl,rfl⟩:=e;rw[b2.out,hh,Bool.true_or]
       ·have:(decide (a=i)&&decide (b=j))=false:=by
         rw[Bool.and_eq_false_iff]
         by_cases e1:a=i
         ·exact .inr (decide_eq_false (λR=>e ⟨e1,R⟩))
         ·exact .inl (decide_eq_false e1)
        rw[this,Bool.false_and,Bool.or_false]
     have u:=hid hinv;clear hinv r q D O7 N7 B7 E t P F;go_wp2_with fail
     go_roundw
     case rel=>exact⟨k+1,by omega,by go_num,u.out⟩
     case measure=>simp[intOf];omega
    | false=>
     rw[hh] at c0
     by_cases h4:(C i).length<4
     ·rw[F,hh,Bool.false_or,decide_eq_true h4,if_pos rfl];have d4:(((C i).length:Int)==4)=false:=by simp;omega
      have hW:=((B7.out.setCell (p:=⟨d+1,i,none⟩) (by simp;omega) (.int .i64 (((C i).length:Int)+1))).setCell (p:=⟨d+1+1,i*6+j,none⟩) (by simp;omega) (.bool true));have tW:=(zx.set (M:=λb=>b=d+1\/b=d+1+1) wc (b:=d+1) (.inl rfl) i (.int .i64 (((C i).length:Int)+1))).trans (zx.set (M:=λb=>b=d+1\/b=d+1+1) _ (b:=d+1+1) (.inr rfl) (i*6+j) (.bool true))
      have hinv:XH w ((wc.setCell ⟨d+1,i,none⟩ (.int .i64 (((C i).length:Int)+1))).setCell ⟨d+1+1,i*6+j,none⟩ (.bool true)) d (Kp.jA l (k+1)):=by
       refine⟨hW,?_,v,by simp;omega,λj' Z=>tW.cell (x:=⟨d,j',none⟩) (by simp;omega) (N7.out j' Z),?_⟩
       ·exact (O7.out.other (zx.set (M:=λb=>b=d+1) wc (b:=d+1) rfl i _) (by omega) (.inr (.inl rfl))).other (zx.set (M:=λb=>b=d+1+1) _ (b:=d+1+1) rfl (i*6+j) _) (by omega) (.inr (.inr rfl))
       ·rw[E.out];refine D.out.more (by omega) hi4 G (λa N=>?_) (λa N b hb=>?_)
        ·rw[r.out a]
         by_cases e:a=i
         ·rw[if_pos ⟨e,hh,h4⟩,if_pos e]
         ·rw[if_neg (λh=>e h.1),if_neg e]
        ·rw[q.out a b N hb,decide_eq_true h4,Bool.and_true]
      have u:=hid hinv;clear hinv hW tW r q D O7 N7 B7 E t P F;go_wp2_with fail
      go_roundw
      case rel=>exact⟨k+1,by omega,by go_num,u.out⟩
      case measure=>simp[intOf];omega
     ·rw[F,hh,Bool.false_or,decide_eq_false h4,if_neg (by simp)]
      have d9:(C i).length=4:=by
       have:=(HG.out i hi4).2.1
       omega
      rw[d9] at f3
      have hinv:XH w wc d (Kp.jA l (k+1)):=by
       refine⟨B7.out,O7.out,v,z7,N7.out,?_⟩;rw[E.out];refine D.out.same (λa N=>?_) (λa N b hb=>?_)
       ·rw[r.out a,if_neg (λh=>h4 h.2.2)]
       ·rw[q.out a b N hb,decide_eq_false h4,Bool.and_false,Bool.or_false]
      have u:=hid hinv;clear hinv r q D O7 N7 B7 E t P F;go_wp2_with fail
      go_roundw
      case rel=>exact⟨k+1,by omega,by go_num,u.out⟩
      case measure=>simp[intOf];omega
  ·have d8:k=n:=by omega
   subst d8;rw[Kp.Mh l k (by rw[HN.out];exact Nat.le_refl _)] at A;have L:=hid A;have V:=A.top;have v:=A.lt;clear A z HN;go_wp2_with fail;go_ret2;exact⟨w.heap.size,rfl,Nat.le_refl _,by omega,L.out.below,L.out.office.more (λb hb => .inl (.inl hb)) rfl⟩
end Go.Proofs.YtdakgnaojakldaaGreatDoor
