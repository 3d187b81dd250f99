/- P -/
import Derived.Test.YtdakgnaojakldaaGreatDoorG30
import Derived.Test.YtdakgnaojakldaaGreatDoorG42
open Go.Proofs.Tryz
set_option maxRecDepth 100000
set_option maxHeartbeats 8000000
namespace Go.Proofs.YtdakgnaojakldaaGreatDoor
open Go.RowKit
theorem iB{L:List zt}(h:xy L){m:BA}:zh L m=true↔∃a,(m,a) ∈ L:=by
 constructor
 ·intro c;obtain⟨a,b,_⟩:=VC c;exact⟨a,b⟩
 ·rintro ⟨a,d⟩;exact (Yd h d).1
theorem Jd{L:List zt}(h:xy L)(n m:BA)(a:List zw):zh (qY L n a) m=(decide (m=n)||zh L m):=by
 have d:=h.with n a
 rw[Bool.eq_iff_iff,iB d,Bool.or_eq_true,decide_eq_true_eq,iB h]
 constructor
 ·rintro ⟨c,b⟩
  rcases (ZK h).1 b with e|⟨e,_⟩
  ·exact .inl (congrArg Prod.fst e)
  ·exact .inr ⟨c,e⟩
 ·rintro (rfl|⟨c,b⟩)
  ·exact⟨a,(ZK h).2 (.inl rfl)⟩
  ·by_cases e:m=n
   ·subst e;exact⟨a,(ZK h).2 (.inl rfl)⟩
   ·exact⟨c,(ZK h).2 (.inr ⟨b,e⟩)⟩
theorem sG(L:List zt)(n:BA)(a:List zw):(qY L n a).length=if zh L n then L.length else L.length+1:=by
 have b:=aj L n;unfold qY;simp only[List.length_append,List.length_take,List.length_drop,List.length_singleton]
 cases hh:zh L n with
 | true=>
  have:=Yc hh
  simp only[if_true];omega
 | false=>
  simp only[Bool.false_eq_true,if_false];omega
namespace Kp
structure qK where
 layer:Int
 name:Int
 rules:List zl
def qK.lay(p:qK):Nat:=zk p.layer 4
def qK.num(p:qK):Nat:=zk p.name 6
def zF(k:Nat):BA:=Qf.getD k ⟨#[]⟩
def qK.nam(p:qK):BA:=zF p.num
def ky(st:StO)(p:qK):StO:=yS st (p.lay:Int) p.nam (qp p.rules)
def jD(l:List qK)(n:Nat):StO:=(l.take n).foldl ky xe
def Yr(l:List qK):StO:=l.foldl ky xe
theorem Vy(p:qK):p.lay<4:=qP _ 4 (by decide)
theorem Jl(p:qK):p.num<6:=qP _ 6 (by decide)
theorem Me{k:Nat}(h:k<6):Ref.zO (zF k)=true:=Df k h
theorem Md:∀j,j<6->∀k,k<6->zF j=zF k->j=k:=by decide +kernel
theorem lW:∀k,k<6->(zF k).size<=12:=by decide
theorem Yx{i k:Nat}(hi:i<4)(c:k<6):yE (i:Int) (zF k)=0:=by
 unfold yE QL;have a:decide ((0:Int)<=(i:Int))=true:=decide_eq_true (by omega);have b:decide ((i:Int)<4)=true:=decide_eq_true (by omega);rw[a,b,Me c]
 rfl
theorem Qt(st:StO){i k:Nat}(hi:i<4)(b:k<6)(text:BA)(a:Rd.xS text=(0,0)) :
  vC st (i:Int) (zF k) text=(if zh (st i) (zF k)||decide ((st i).length<4) then (0,0) else (10,0)) /\
  yS st (i:Int) (zF k) text=(if zh (st i) (zF k)||decide ((st i).length<4) then upd st i (qY (st i) (zF k) (xP text)) else st):=by
 have c:=Yx hi b;unfold vC yS Jz;simp only[Int.toNat_natCast];rw[c,a];simp only[if_true,decide_true,Bool.true_and,and_self]
def uO(st:StO):Prop:=∀i,i<4->Zo (st i)
def Zt(st:StO):Prop:=∀i,i<4->∀x ∈ st i,(∃k,k<6/\x.1=zF k)/\∃l:List zl,x.2=qU l
theorem gu:uO xe:=λi _=>⟨List.Pairwise.nil,by simp[xe],λx a=>by simp[xe] at a⟩
theorem gy:Zt xe:=λi _ x a=>by simp[xe] at a
theorem Zl(st:StO)(i:Nat)(L:List zt):upd st i L i=L:=by unfold upd;rw[if_pos rfl]
theorem YF(st:StO){i j:Nat}(h:j≠i)(L:List zt):upd st i L j=st j:=by unfold upd;rw[if_neg h]
theorem Oe{st:StO}(c:uO st)(d:Zt st){i k:Nat}(hi:i<4)(g:k<6){text:BA}(f:Rd.xS text=(0,0))(h:∃l:List zl,xP text=qU l):uO (yS st (i:Int) (zF k) text)/\Zt (yS st (i:Int) (zF k) text):=by
 rw[(Qt st hi g text f).2]
 cases hb:zh (st i) (zF k)||decide ((st i).length<4) with
 | false=>exact⟨c,d⟩
 | true=>
  simp only[if_true]
  constructor
  ·intro j a
   by_cases e:j=i
   ·subst e;rw[Zl];exact (c j a).with hb (rX text (by rw[f]))
   ·rw[YF st e];exact c j a
  ·intro j a x b
   by_cases e:j=i
   ·subst e;rw[Zl] at b
    rcases (ZK (c j a).1).1 b with rfl|⟨b,_⟩
    ·exact⟨⟨k,g,rfl⟩,h⟩
    ·exact d j a x b
   ·rw[YF st e] at b;exact d j a x b
theorem pV{st:StO}(a:uO st)(b:Zt st)(p:qK):uO (ky st p)/\Zt (ky st p):=
 Oe a b (Vy p) (Jl p) (QR p.rules) ⟨p.rules,rW p.rules⟩
theorem Kh:∀(l:List qK) (st:StO),uO st->Zt st->uO (l.foldl ky st)/\Zt (l.foldl ky st)
 | [],_,hg,hm=>⟨hg,hm⟩
 | p::l,_,hg,hm=>Kh l _ (pV hg hm p).1 (pV hg hm p).2
theorem MX(l:List qK):uO (Yr l)/\Zt (Yr l):=Kh l _ gu gy
theorem Na(l:List qK)(n:Nat):uO (jD l n)/\Zt (jD l n):=Kh _ _ gu gy
theorem Nb(l:List qK)(n:Nat)(h:n<l.length):jD l (n+1)=ky (jD l n) l[n]:=by
 unfold jD;rw[List.take_succ_eq_append_getElem h,List.foldl_append]
 rfl
theorem MZ(l:List qK)(n:Nat)(h:l.length<=n):jD l n=Yr l:=by
 unfold jD Yr;rw[List.take_of_length_le h]
theorem RS(st:StO)(p:qK)(i:Nat):(ky st p i).length=if i=p.lay/\zh (st p.lay) p.nam=false/\(st p.lay).length<4 then (st i).length+1 else (st i).length:=by
 unfold ky;show (yS st (p.lay:Int) (zF p.num) (qp p.rules) i).length=_;rw[(Qt st (Vy p) (Jl p) _ (QR p.rules)).2];unfold qK.nam
 by_cases hi:i=p.lay
 ·subst hi
  cases hh:zh (st p.lay) (zF p.num) with
  | true=>
   simp only[Bool.true_or,if_true];rw[Zl,sG,hh,if_pos rfl,if_neg (by simp)]
  | false=>
   by_cases h4:(st p.lay).length<4
   ·rw[if_pos (by simp[h4]),Zl,sG,hh,if_neg (by simp),if_pos ⟨rfl,rfl,h4⟩]
   ·rw[if_neg (by simp[h4]),if_neg (λh=>h4 h.2.2)]
 ·have a:¬(i=p.lay/\zh (st p.lay) (zF p.num)=false/\(st p.lay).length<4):=λh=>hi h.1;rw[if_neg a]
  cases zh (st p.lay) (zF p.num)||decide ((st p.lay).length<4) with
  | true=>simp only[if_true];rw[YF st hi]
  | false=>rfl
theorem RQ{st:StO}(b:uO st)(p:qK){i k:Nat}(hi:i<4)(c:k<6):zh (ky st p i) (zF k)=(zh (st i) (zF k)||(decide (i=p.lay)&&decide (k=p.num)&&decide ((st p.lay).length<4))):=by
 unfold ky;show zh (yS st (p.lay:Int) (zF p.num) (qp p.rules) i) (zF k)=_;rw[(Qt st (Vy p) (Jl p) _ (QR p.rules)).2]
 by_cases e:i=p.lay
 ·have a:decide (zF k=zF p.num)=decide (k=p.num):=by
   by_cases ek:k=p.num
   ·rw[ek];simp
   ·rw[decide_eq_false ek,decide_eq_false (λh=>ek (Md k c _ (Jl p) h))]
  subst e;rw[decide_eq_true rfl,Bool.true_and]
  cases hh:zh (st p.lay) (zF p.num) with
  | true=>
   simp only[Bool.true_or,if_true];rw[Zl,Jd (b _ hi).1,a]
   by_cases ek:k=p.num
   ·rw[ek,hh];simp
   ·rw[decide_eq_false ek];simp
  | false=>
   by_cases h4:(st p.lay).length<4
   ·rw[if_pos (by simp[h4]),Zl,Jd (b _ hi).1,a,decide_eq_true h4,Bool.and_true,Bool.or_comm]
   ·rw[if_neg (by simp[h4]),decide_eq_false h4];simp
 ·rw[decide_eq_false e];simp only[Bool.false_and,Bool.or_false]
  split
  ·rw[YF st e]
  ·rfl
end Kp
def XQ(w:World)(lv:Value)(l:List Kp.qK):Prop:=∃a c,lv = .slice a l.length c/\∀(k:Nat) (p:Kp.qK),l[k]?=some p->I64 p.layer/\I64 p.name/\p.rules.length<=maxLen /\
 ∃b o d,a=some ⟨b,o,none⟩/\w.cell? ⟨b,o+k*3,none⟩=some (.int .i64 p.layer)/\w.cell? ⟨b,o+k*3+1,none⟩=some (.int .i64 p.name)/\w.cell? ⟨b,o+k*3+2,none⟩=some d/\kH w d p.rules
theorem XQ.below{w b:World}{lv:Value}{l:List Kp.qK}(h:XQ w lv l)(hb:Below w.heap.size w b):XQ b lv l:=by
 obtain⟨a,c,rfl,h⟩:=h;refine⟨a,c,rfl,λk p j=>?_⟩;obtain⟨f,g,i,d,o,n,e,c0,c1,c2,m⟩:=h k p j;exact⟨f,g,i,d,o,n,e,zb hb c0,zb hb c1,zb hb c2,m.below hb⟩
structure uL (w:World) (cb hb:Nat) (st:StO):Prop where
 cnt:∀i,i<4->w.cell? ⟨cb,i,none⟩=some (.int .i64 ((st i).length:Nat))/\w.frozen? ⟨cb,i,none⟩=false
 has:∀i,i<4->∀k,k<6->w.cell? ⟨hb,i*6+k,none⟩=some (.bool (zh (st i) (Kp.zF k)))/\w.frozen? ⟨hb,i*6+k,none⟩=false
theorem uL.turn{w f:World}{c hb:Nat}{st:StO}{M:Nat->Prop}(h:uL w c hb st)(e:zu M w f)(g:¬M c)(j:¬M hb):uL f c hb st:=by
 have fr:∀(b k:Nat) (v:Value),¬M b->w.cell? ⟨b,k,none⟩=some v->w.frozen? ⟨b,k,none⟩=false->f.frozen? ⟨b,k,none⟩=false:=λb k v n l m=>
  (World.frozen?_of_block (w:=w) (a:=⟨b,k,none⟩) (e.block b (World.block_lt_of_cell? _ _ l) n)).trans m
 exact⟨λi hi=>⟨e.cell (x:=⟨c,i,none⟩) g (h.cnt i hi).1,fr _ _ _ g (h.cnt i hi).1 (h.cnt i hi).2⟩,λi hi k d=>⟨e.cell (x:=⟨hb,i*6+k,none⟩) j (h.has i hi k d).1,fr _ _ _ j (h.has i hi k d).1 (h.has i hi k d).2⟩⟩
theorem uL.same{w:World}{d hb:Nat}{st c:StO}(h:uL w d hb st)(f:∀a,a<4->(c a).length=(st a).length)(g:∀a,a<4->∀b,b<6->zh (c a) (Kp.zF b)=zh (st a) (Kp.zF b)):uL w d hb c:=
 ⟨λi hi=>by rw[f i hi];exact h.cnt i hi,λi hi k e=>by rw[g i hi k e];exact h.has i hi k e⟩
theorem uL.more{w:World}{k hb:Nat}{st g:StO}(h:uL w k hb st)(l:k≠hb){i j:Nat}(hi:i<4)(p:j<6)(n:∀a,a<4->(g a).length=if a=i then (st a).length+1 else (st a).length)(o:∀a,a<4->∀b,b<6->zh (g a) (Kp.zF b)=(zh (st a) (Kp.zF b)||(decide (a=i)&&decide (b=j)))) :
  uL ((w.setCell ⟨k,i,none⟩ (.int .i64 (((st i).length:Int)+1))).setCell ⟨hb,i*6+j,none⟩ (.bool true)) k hb g:=by
 refine⟨λa d=>⟨?_,by rw[World.frozen?_setCell,World.frozen?_setCell];exact (h.cnt a d).2⟩,λa d b f=>⟨?_,by rw[World.frozen?_setCell,World.frozen?_setCell];exact (h.has a d b f).2⟩⟩
 ·rw[World.cell?_setCell_other _ _ _ _ (by intro e;injection e with e;exact l e.symm),n a d]
  by_cases e:a=i
  ·subst e;rw[if_pos rfl,World.cell?_setCell_same _ _ _ (h.cnt a d).1]
   simp
  ·rw[if_neg e,World.cell?_setCell_other _ _ _ _ (by intro c;injection c with _ c;exact e c.symm)]
   exact (h.cnt a d).1
 ·have m:=(World.cell?_setCell_other w ⟨k,i,none⟩ ⟨hb,a*6+b,none⟩ (.int .i64 (((st i).length:Int)+1)) (by intro e;injection e with e;exact l e)).trans (h.has a d b f).1
  rw[o a d b f]
  by_cases e:a=i/\b=j
  ·obtain⟨rfl,rfl⟩:=e;rw[World.cell?_setCell_same _ _ _ m]
   simp
  ·rw[World.cell?_setCell_other _ _ _ _ (by intro c;injection c with _ c;apply e;constructor<;>omega),m]
   have:(decide (a=i)&&decide (b=j))=false:=by
    rw[Bool.and_eq_false_iff]
    by_cases e1:a=i
    ·exact .inr (decide_eq_false (λc=>e ⟨e1,c⟩))
    ·exact .inl (decide_eq_false e1)
   rw[this,Bool.or_false]
def OpM(c a b:Nat):Prop:=b=c\/b=a+1\/b=a+1+1
structure XN (w wr:World) (nb:Nat) (st:StO):Prop where
 below:Below w.heap.size w wr
 office:ql (OpM w.heap.size nb) wr w.heap.size st
 lt:w.heap.size<nb
 top:nb+2<wr.heap.size
 names:∀j,j<6->wr.cell? ⟨nb,j,none⟩=some (.string (Kp.zF j))
 counts:uL wr (nb+1) (nb+1+1) st
def dm(w:World)(l:List Kp.qK)(e:Ending)(c:World):Prop:=∃a,e = .returned (.tuple #[.pointer (some ⟨a,0,none⟩),.bool true])/\w.heap.size<=a/\a<c.heap.size/\Below w.heap.size w c/\ql (λb=>b=a) c a (Kp.Yr l)
theorem Nc(l:List Kp.qK)(lv:Value)(aL:Addr)(w:World)(hC:ZU w aL)(h:XQ w lv l)(hm:l.length<=maxLen) :
  Calls prog 20 #[lv] w (dm w l):=by
 have cn:=mr (λb=>b=w.heap.size) w rfl;have cN:=λW=>lX W;obtain⟨a,cc,rfl,H⟩:=h;obtain⟨n,Z⟩:=Nm l.length;have z:=hid H;have HC:=hid hC;have CN:=hid cn;have a8:=hid cN;rw[Z] at hm |-;have HN:=hid Z;unfold maxLen at hm;clear H hC cn cN Z;go_enter func20,ntmps20
 go_upto_region 8 with (first
  | (go_at_call 28;refine (a8.out N).mono ?_;rintro e w2 ⟨rfl,Q⟩;rw[Q];clear Q)
  | (go_at_call 21;refine CN.out.mono ?_;rintro e N ⟨rfl,b1,o1⟩;have B1:=hid b1;have O1:=hid o1;clear b1 o1))
 have h2:w.heap.size<N.heap.size:=lt_of_block O1.out.row.choose_spec.1;obtain⟨d,G⟩:∃x,N.heap.size=x:=⟨_,rfl⟩;obtain⟨W3,B⟩:∃W,((N.alloc (.cells (Kp.Qf.map Value.string).toArray 9)).alloc (.cells #[.int .i64 0,.int .i64 0,.int .i64 0,.int .i64 0] 94)).alloc (.cells #[.bool false,.bool false,.bool false,.bool false,.bool false,.bool false,.bool false,.bool false,.bool false,.bool false,.bool false,.bool false,.bool false,.bool false,.bool false,.bool false,.bool false,.bool false,.bool false,.bool false,.bool false,.bool false,.bool false,.bool false] 96)=W:=⟨_,rfl⟩
 have V:XN w W3 d (Kp.jD l 0):=by
  have hb13:Below N.heap.size N W3:=by rw[<- B];exact ((nB N _).alloc (by simp) _).alloc (by simp;omega) _
  have j4:W3.heap.size=d+3:=by rw[<- B,<- G];simp
  have e0:Kp.jD l 0=xe:=rfl;rw[e0]
  have x1:W3.heap[d]?=some (.cells (Kp.Qf.map Value.string).toArray 9):=by
   rw[<- B,<- G,Below.heap_alloc _ _ _ (by simp;omega),Below.heap_alloc _ _ _ (by simp)];exact heap_alloc_new N _
  have x2:W3.heap[d+1]?=some (.cells #[.int .i64 0,.int .i64 0,.int .i64 0,.int .i64 0] 94):=by
   rw[<- B,<- G,Below.heap_alloc _ _ _ (by simp)]
   have:=heap_alloc_new (N.alloc (.cells (Kp.Qf.map Value.string).toArray 9)) (.cells #[.int .i64 0,.int .i64 0,.int .i64 0,.int .i64 0] 94)
   simpa using this
  have x3:W3.heap[d+2]?=some (.cells #[.bool false,.bool false,.bool false,.bool false,.bool false,.bool false,.bool false,.bool false,.bool false,.bool false,.bool false,.bool false,.bool false,.bool false,.bool false,.bool false,.bool false,.bool false,.bool false,.bool false,.bool false,.bool false,.bool false,.bool false] 96):=by
   rw[<- B,<- G]
   have:=heap_alloc_new ((N.alloc (.cells (Kp.Qf.map Value.string).toArray 9)).alloc (.cells #[.int .i64 0,.int .i64 0,.int .i64 0,.int .i64 0] 94)) (.cells #[.bool false,.bool false,.bool false,.bool false,.bool false,.bool false,.bool false,.bool false,.bool false,.bool false,.bool false,.bool false,.bool false,.bool false,.bool false,.bool false,.bool false,.bool false,.bool false,.bool false,.bool false,.bool false,.bool false,.bool false] 96)
   simpa using this
  refine⟨B1.out.trans (hb13.mono B1.out.size),(O1.out.more (λb hb=>by rcases hb with h|h|h;exact .inl h;exact .inr (by omega);exact .inr (by omega)) (.inl rfl)).below hb13,by omega,by omega,λj hj=>?_,⟨λi hi=>?_,λi hi k hk=>?_⟩⟩
  ·rw[(za x1 j).1]
   have:j=0\/j=1\/j=2\/j=3\/j=4\/j=5:=by omega
   rcases this with rfl|rfl|rfl|rfl|rfl|rfl<;>rfl
  ·obtain⟨c,f⟩:=za x2 i;rw[c,f]
   have:i=0\/i=1\/i=2\/i=3:=by omega
   rcases this with rfl|rfl|rfl|rfl<;>exact⟨rfl,rfl⟩
  ·obtain⟨c,f⟩:=za x3 (i*6+k);rw[c,f]
   have b2:∀m,m<24->(#[Value.bool false,.bool false,.bool false,.bool false,.bool false,.bool false,.bool false,.bool false,.bool false,.bool false,.bool false,.bool false,.bool false,.bool false,.bool false,.bool false,.bool false,.bool false,.bool false,.bool false,.bool false,.bool false,.bool false,.bool false]:Array Value)[m]?=some (.bool false):=by
    intro m hm;have d5:(List.replicate 24 (Value.bool false))[m]?=some (.bool false):=by rw[List.getElem?_replicate,if_pos hm]
    simpa using d5
   exact⟨b2 _ (by omega),rfl⟩
 rw[B];have a9:=hid V;rw[G];clear V B G B1 O1 CN a8
 go_loopw [8] (λiv wr=>∃k:Nat,k<=n/\iv = .int .i64 k/\XN w wr d (Kp.jD l k)) (λiv _=>n-(intOf iv).toNat)
 case atStart=>exact⟨0,Nat.zero_le _,rfl,a9.out⟩
 case round=>
  clear a9;obtain⟨k,hk,rfl,A⟩:=hrel
  by_cases hlt:k<n
  ·have b3:k<l.length:=by rw[HN.out];exact hlt
   obtain⟨i1,i2,a0,gb,o,rv,rfl,q0,q1,q2,a1⟩:=z.out k _ (List.getElem?_eq_getElem b3);have g:=Kp.Nb l k b3;obtain⟨hG,_⟩:=Kp.Na l k;obtain⟨st,b6⟩:∃s,Kp.jD l k=s:=⟨_,rfl⟩;rw[b6] at A g hG;obtain⟨p,hp⟩:=Nm (l[k]);rw[hp] at i1 i2 a0 q0 q1 a1 g;have p0:=zb A.below q0;have p1:=zb A.below q1;have p2:=zb A.below q2;have hi4:=Kp.Vy p;have F:=Kp.Jl p;have c1:=λW=>uf p.layer 4 W i1 (by decide) (by decide);have c2:=λW=>uf p.name 6 W i2 (by decide) (by decide);have hlen:=Kp.RS st p;have I:=λ(a b:Nat) (L:a<4) (hb:b<6)=>Kp.RQ hG p L hb;have y:=Kp.Qt st hi4 F (Kp.qp p.rules) (Kp.QR p.rules);have J:Kp.ky st p=yS st (p.lay:Int) (Kp.zF p.num) (Kp.qp p.rules):=rfl;have cP:=λ(W:World) (hb:Below w.heap.size w W)=>K7 p.rules rv W (a1.below hb) a0;unfold Kp.qK.nam at hlen;have e1:Kp.zk p.layer 4=p.lay:=rfl;have Q:Kp.zk p.name 6=p.num:=rfl;simp only[e1] at c1;simp only[Q] at c2;obtain⟨i,hi⟩:=Nm p.lay;obtain⟨j,hj⟩:=Nm p.num;simp only[hi,hj] at c1 c2 hi4 F hlen I y J;obtain⟨T,hT⟩:=Nm (Kp.qp p.rules);simp only[hT] at y J cP;have nj:=A.names j F;have jz:=Kp.lW j F;obtain⟨nm,R⟩:∃x,Kp.zF j=x:=⟨_,rfl⟩;rw[R] at nj jz y J;simp only[R] at hlen;have C1:Hid (∀W,Calls prog 19 #[.int .i64 p.layer,.int .i64 4] W λe w'=>e = .returned (.int .i64 (i:Int))/\w'=W):=hid c1;have C2:Hid (∀W,Calls prog 19 #[.int .i64 p.name,.int .i64 6] W λe w'=>e = .returned (.int .i64 (j:Int))/\w'=W):=hid c2;have CP:=hid cP;have K:=hid A;have HG:=hid hG;have r:=hid hlen;have q:=hid I;have t:=hid (g.trans J);have D:=hid g;have O:=hid y.1;have S:=hid (λ(W:World) (hb:Below w.heap.size w W) (ho:ql (OpM w.heap.size d) W w.heap.size st) (hz:d+2<W.heap.size)=>au w.heap.size st (i:Int) nm T (OpM w.heap.size d) aL W (HC.out.below hb) ho (λb hb=>by have:=A.lt;rcases hb with h|h|h<;>omega) (by unfold maxLen;omega))
   have b0:=hid R;have U:=A.top;have v:=A.lt;have j2:(0:Int)<=(k:Int):=Int.natCast_nonneg _;have j0:(0:Int)<=(i:Int):=Int.natCast_nonneg _;have j1:(0:Int)<=(j:Int):=Int.natCast_nonneg _;have g9:(i:Int)<4:=by omega
   have h0:(j:Int)<6:=by omega
   clear q0 q1 a1 hp c1 c2 cP A hG hlen I y J g b6 hi hj hT z HN R i1 i2 a0
   go_upto_region 11 with (go_at_call 19;refine (C1.out wr).mono ?_;rintro e w2 ⟨rfl,Q⟩;rw[Q];clear Q)
   go_upto_region 12 with (go_at_call 19;refine (C2.out wr).mono ?_;rintro e w3 ⟨rfl,e3⟩;rw[e3];clear e3)
   go_cut [11] (λv11 wc=>v11 = .int .i64 (vC st (i:Int) nm T).1/\Below w.heap.size w wc/\ql (OpM w.heap.size d) wc w.heap.size (Kp.jD l (k+1))/\d+2<wc.heap.size/\(∀j,j<6->wc.cell? ⟨d,j,none⟩=some (.string (Kp.zF j)))/\uL wc (d+1) (d+1+1) st)
   case first=>
    have cp:=hid (CP.out wr.drew K.out.below.drew);have g8:gb≠w.heap.size:=by have:=World.block_lt_of_cell? _ _ q2;simp at this;omega
    go_region_held3 (λw'=>w'.cell? ⟨d,j,none⟩=some (.string nm)/\w'.cell? ⟨gb,o+k*3+2,none⟩=some rv) (go_keep) (first
     | (go_at_call 24;refine (S.out w5 B5.out O5.out z5).mono ?_;rintro e w6 ⟨rfl,t6,o6⟩;have n6:=t6.cell (x:=⟨d,j,none⟩) (by simp;omega) n5;have r6:=t6.cell (x:=⟨gb,o+k*3+2,none⟩) (by simp;omega) r5;have T6:=hid t6;have O6:=hid o6;clear t6 o6)
     | (go_at_call 18;refine cp.out.mono ?_;rintro e w5 ⟨rfl,X⟩;have n5:=zb X nj;have r5:=zb X p2;have B5:=hid (K.out.below.drew.trans (X.mono K.out.below.size));have O5:=hid ((K.out.office.below (Below.refl _ wr).drew).below X);have z5:d+2<w5.heap.size:=Nat.lt_of_lt_of_le U X.size;have c9:=hid X;clear X))
    all_goals
     go_wp2_with fail
     go_meet
     case rel=>
      have tt:=(zu.of (M:=λb=>b=w.heap.size) ((Below.refl _ wr).drew)).trans ((zu.of c9.out).trans T6.out);refine⟨rfl,B5.out.trans (T6.out.below (λk hk e=>by omega) (by omega)),by rw[t.out];exact O6.out,?_,λj' Y=>tt.cell (x:=⟨d,j',none⟩) (by simp;omega) (K.out.names j' Y),K.out.counts.turn tt (by omega) (by omega)⟩
      have:=tt.size
      omega
   case rest=>
    obtain⟨rfl,b7,o7,z7,n7,P⟩:=hcut;have x1:=P.cnt i hi4;have x2:=P.has i hi4 j F;rw[b0.out] at x2;have b4:∀a2:StO,Kp.jD l (k+1)=a2->uL wc (d+1) (d+1+1) a2->XN w wc d (Kp.jD l (k+1)):=λa2 e hc=>⟨b7,o7,v,z7,n7,by rw[e];exact hc⟩;have E:=O.out;have B7:=hid b7;have O7:=hid o7;have N7:=hid n7;have C:=hid P;obtain⟨f2,k1⟩:=x1;obtain⟨b9,k2⟩:=x2;clear b7 o7 n7 P S K CP C1 C2 b4
    cases hh:zh (st i) nm with
    | true=>
     rw[hh] at b9;rw[E,hh,Bool.true_or,if_pos rfl]
     have hinv:XN w wc d (Kp.jD l (k+1)):=by
      refine⟨B7.out,O7.out,v,z7,N7.out,?_⟩;rw[D.out];refine C.out.same (λa L=>?_) (λa L b hb=>?_)
      ·rw[r.out a,if_neg (λh=>by rw[h.2.1] at hh;cases hh)]
      ·rw[q.out a b L hb]
       by_cases e:a=i/\b=j
       ·obtain⟨rfl,rfl⟩:=e;rw[b0.out,hh,Bool.true_or]
       ·have:(decide (a=i)&&decide (b=j))=false:=by
         rw[Bool.and_eq_false_iff]
         by_cases e1:a=i
         ·exact .inr (decide_eq_false (λQ=>e ⟨e1,Q⟩))
         ·exact .inl (decide_eq_false e1)
        rw[this,Bool.false_and,Bool.or_false]
     have u:=hid hinv;clear hinv r q C O7 N7 B7 D t O E;go_wp2_with fail
     go_roundw
     case rel=>exact⟨k+1,by omega,by go_num,u.out⟩
     case measure=>simp[intOf];omega
    | false=>
     rw[hh] at b9
     by_cases h4:(st i).length<4
     ·rw[E,hh,Bool.false_or,decide_eq_true h4,if_pos rfl];have d4:(((st i).length:Int)==4)=false:=by simp;omega
      have hW:=((B7.out.setCell (p:=⟨d+1,i,none⟩) (by simp;omega) (.int .i64 (((st i).length:Int)+1))).setCell (p:=⟨d+1+1,i*6+j,none⟩) (by simp;omega) (.bool true));have tW:=(zu.set (M:=λb=>b=d+1\/b=d+1+1) wc (b:=d+1) (.inl rfl) i (.int .i64 (((st i).length:Int)+1))).trans (zu.set (M:=λb=>b=d+1\/b=d+1+1) _ (b:=d+1+1) (.inr rfl) (i*6+j) (.bool true))
      have hinv:XN w ((wc.setCell ⟨d+1,i,none⟩ (.int .i64 (((st i).length:Int)+1))).setCell ⟨d+1+1,i*6+j,none⟩ (.bool true)) d (Kp.jD l (k+1)):=by
       refine⟨hW,?_,v,by simp;omega,λj' Y=>tW.cell (x:=⟨d,j',none⟩) (by simp;omega) (N7.out j' Y),?_⟩
       ·exact (O7.out.other (zu.set (M:=λb=>b=d+1) wc (b:=d+1) rfl i _) (by omega) (.inr (.inl rfl))).other (zu.set (M:=λb=>b=d+1+1) _ (b:=d+1+1) rfl (i*6+j) _) (by omega) (.inr (.inr rfl))
       ·rw[D.out];refine C.out.more (by omega) hi4 F (λa L=>?_) (λa L b hb=>?_)
        ·rw[r.out a]
         by_cases e:a=i
         ·rw[if_pos ⟨e,hh,h4⟩,if_pos e]
         ·rw[if_neg (λh=>e h.1),if_neg e]
        ·rw[q.out a b L hb,decide_eq_true h4,Bool.and_true]
      have u:=hid hinv;clear hinv hW tW r q C O7 N7 B7 D t O E;go_wp2_with fail
      go_roundw
      case rel=>exact⟨k+1,by omega,by go_num,u.out⟩
      case measure=>simp[intOf];omega
     ·rw[E,hh,Bool.false_or,decide_eq_false h4,if_neg (by simp)]
      have d8:(st i).length=4:=by
       have:=(HG.out i hi4).2.1
       omega
      rw[d8] at f2
      have hinv:XN w wc d (Kp.jD l (k+1)):=by
       refine⟨B7.out,O7.out,v,z7,N7.out,?_⟩;rw[D.out];refine C.out.same (λa L=>?_) (λa L b hb=>?_)
       ·rw[r.out a,if_neg (λh=>h4 h.2.2)]
       ·rw[q.out a b L hb,decide_eq_false h4,Bool.and_false,Bool.or_false]
      have u:=hid hinv;clear hinv r q C O7 N7 B7 D t O E;go_wp2_with fail
      go_roundw
      case rel=>exact⟨k+1,by omega,by go_num,u.out⟩
      case measure=>simp[intOf];omega
  ·have d7:k=n:=by omega
   subst d7;rw[Kp.MZ l k (by rw[HN.out];exact Nat.le_refl _)] at A;have K:=hid A;have U:=A.top;have v:=A.lt;clear A z HN;go_wp2_with fail;go_ret2;exact⟨w.heap.size,rfl,Nat.le_refl _,by omega,K.out.below,K.out.office.more (λb hb => .inl (.inl hb)) rfl⟩
end Go.Proofs.YtdakgnaojakldaaGreatDoor
