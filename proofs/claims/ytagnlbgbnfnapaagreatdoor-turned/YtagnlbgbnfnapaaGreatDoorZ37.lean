/- P -/
import Derived.Test.YtagnlbgbnfnapaaGreatDoorZ36
import Derived.Test.YtagnlbgbnfnapaaGreatDoorZ31
open Go.Proofs.Tryz
set_option maxRecDepth 100000
set_option maxHeartbeats 1000000
namespace Go.Proofs.YtagnlbgbnfnapaaGreatDoor
open Go.RowKit
def tK(l:List Nat):List Value:=l.map λ(n:Nat)=>Value.int .i64 (n:Int)
def wz:List Ref.Node->List (Value×Value)->List Value
 | n::ns,v::vs => .int .i64 n.kind :: .string n.text::v.1::v.2::wz ns vs
 | _,_=>[]
def NL(m:Ref.zA)(b a:Value):Array Value:=
 #[.int .i64 m.state,b,a,.bool m.named,.string m.got,.int .i64 m.need,.int .u8 m.low,.int .u8 m.high,.int .i64 m.number,.string m.word,.int .i64 m.root]
structure lX (w:World) (base b:Nat) (m:Ref.zA) (ov nv:Value) (vs:List (Value×Value)):Prop where
 hb:base<=b
 blk:w.heap[b]?=some (.cells (NL m ov nv) 244 (0,0))
 ownO:w.ownsRow base 3 1 ov m.opn.length (tK m.opn)
 ownN:w.ownsRow base 241 4 nv m.nodes.length (wz m.nodes vs)
 len:vs.length=m.nodes.length
 names:∀(i:Nat) (n:Ref.Node) (v:Value×Value),m.nodes[i]?=some n->vs[i]?=some v->w.ownsRow base 9 1 v.1 n.names.length (Ref.strCells n.names)
 kids:∀(i:Nat) (n:Ref.Node) (v:Value×Value),m.nodes[i]?=some n->vs[i]?=some v->w.ownsRow base 3 1 v.2 n.kids.length (tK n.kids)
 sepO:∀(i:Nat) (v:Value×Value) (g:Nat),vs[i]?=some v->v.2.ownBlock=some g->ov.ownBlock≠some g
 sepK:∀(i j:Nat) (v v':Value×Value) (g:Nat),vs[i]?=some v->vs[j]?=some v'->i≠j->v.2.ownBlock=some g->v'.2.ownBlock≠some g
 sepN:∀(i j:Nat) (v v':Value×Value) (g:Nat),vs[i]?=some v->vs[j]?=some v'->i≠j->v.1.ownBlock=some g->v'.1.ownBlock≠some g
attribute [local go_sem ↓] Go.wp_at_zero Go.wp_at_succ
attribute [local go_sem ↓] Go.wp_at_zero Go.wp_at_succ
def Stepped(base b:Nat)(r:Int×Ref.zA)(w:World)(e:Ending)(a:World):Prop:=
 e = .returned (.int .i64 r.1)/\Below base w a/\(r.1=0->∃d c f,lX a base b r.2 d c f)
structure Small (m:Ref.zA):Prop where
 nodes:m.nodes.length<=100000
 opn:m.opn.length<=100000
 kids:∀n ∈ m.nodes,n.kids.length<=100000
 names:∀n ∈ m.nodes,n.names.length<=100000
 got:m.got.size<=1000000
 top:∀o ∈ m.opn,o<m.nodes.length
attribute [local go_sem ↓] Go.wp_at_zero Go.wp_at_succ
attribute [local go_sem ↓] Go.wp_at_zero Go.wp_at_succ
attribute [local go_sem ↓] Go.wp_at_zero Go.wp_at_succ
theorem FO(w:World)(x:Int)(t:TypeId)(c:Nat):(convert 181 9 (.slice (some ⟨w.heap.size,0,none⟩) 1 c)).run prog (w.alloc (.cells #[.int .u8 x] t)).drew = .ok (.string ⟨#[UInt8.ofNat x.toNat]⟩) (w.alloc (.cells #[.int .u8 x] t)).drew:=by
 rw[run_convert_bytes_string _ _ _ _ _ _ _ underlying181 underlying5 underlying9];rw[run_bytesToString _ _ _ _ [x] (by simp[loadCells,go_sem])]
 rfl
attribute [local go_sem ↓] Go.wp_at_zero Go.wp_at_succ
attribute [local go_sem ↓] Go.wp_at_zero Go.wp_at_succ
attribute [local go_sem ↓] Go.wp_at_zero Go.wp_at_succ
structure Kp (B:Nat) (wx wy:World):Prop where
 size:wx.heap.size<=wy.heap.size
 keep:∀i,B<=i->i<wx.heap.size->wy.heap[i]?=wx.heap[i]?
structure Grown (A:World) where
 w:World
 b:Below A.heap.size A w
theorem ne_of_lt{a b:BA}(h:xX a b<0):a≠b:=λe=>by rw[e,bJ] at h;omega
theorem Rw{L:List zu}(h:jC L){k:Nat}{y:zu}(b:L[k]?=some y):qI L y.1=k:=by
 have d:k<L.length:=(xw.1 b).1;refine iN (ltN y.1) L k (Nat.le_of_lt d) (λj x c a=>?_) (λj x c a=>?_)
 ·unfold ltN;rw[jk];exact h.at c a b
 ·unfold ltN;rw[oD]
  by_cases e:j=k
  ·subst e;rw[b] at a;injection a with a
   rw[<- a,bJ];omega
  ·have:=h.at (show k<j by omega) b a
   rw[nS] at this;omega
theorem dH{L:List zu}(h:jC L){y:zu}(c:y ∈ L):zO L y.1=true/\L[qI L y.1]?=some y:=by
 obtain⟨k,a⟩:=lT c;have b:=Rw h a;unfold zO;rw[b,a];exact⟨by simp[bJ],rfl⟩
theorem fM{L:List zu}{name:BA}(h:zO L name=true):∃e,(name,e) ∈ L/\L[qI L name]?=some (name,e):=by
 unfold zO at h
 split at h
 ·rename_i x c;have d:x.1=name:=nT (by simpa using h);obtain⟨a,b⟩:=x;simp only at d;subst d;exact⟨b,Qm c,c⟩
 ·cases h
theorem TY{L:List zu}{p:Nat}{x:zu}(h:L[p]?=some x):L=L.take p++x::L.drop (p+1):=by
 obtain⟨a,rfl⟩:=xw.1 h;rw[<- ZQ a,UD]
theorem sZ{L:List zu}(h:jC L){name:BA}{y:zu}:(y ∈ L.take (qI L name)++L.drop (if zO L name then qI L name+1 else qI L name))↔y ∈ L/\y.1≠name:=by
 cases hh:zO L name with
 | true=>
  obtain⟨g,f,b⟩:=fM hh;have d:=TY b;rw[zb rfl]
  constructor
  ·intro a
   rcases ZT.1 a with a|a
   ·exact⟨Ju a,ne_of_lt (aN a)⟩
   ·exact⟨az a,Ne.symm (ne_of_lt (aR h (by rw[hh,zb rfl];exact a)))⟩
  ·rintro ⟨a,c⟩;rw[d] at a
   rcases ZT.1 a with a|a
   ·exact ax _ a
   ·rcases vz.1 a with rfl|a
    ·exact absurd rfl c
    ·exact List.mem_append_right _ a
 | false=>
  simp only[yB,yu];rw[UD];refine⟨λa=>⟨a,λe=>?_⟩,λa=>a.1⟩
  have:=(dH h a).1
  rw[e,hh] at this
  cases this
theorem Jb{L:List zu}(h:jC L){name:BA}{b:List zT}{y:zu}:y ∈ jg L name b↔y=(name,b)\/(y ∈ L/\y.1≠name):=by
 rw[<- sZ h];unfold jg;simp only[ZT,xP]
 constructor
 ·rintro ((a|a)|a)
  ·exact .inr (.inl a)
  ·exact .inl a
  ·exact .inr (.inr a)
 ·rintro (a|a|a)
  ·exact .inl (.inr a)
  ·exact .inl (.inl a)
  ·exact .inr a
theorem Oi{L:List zu}(h:jC L){name:BA}(a:zO L name=true){y:zu}:y ∈ Zf L (qI L name)↔y ∈ L/\y.1≠name:=by
 rw[<- sZ h,a,zb rfl]
 rfl
theorem ry{L:List zu}(h:jC L){m:BA}:zO L m=true↔∃a,(m,a) ∈ L:=by
 constructor
 ·intro c;obtain⟨a,b,_⟩:=fM c;exact⟨a,b⟩
 ·rintro ⟨a,d⟩;exact (dH h d).1
theorem rA{L:List zu}(h:jC L)(n m:BA)(a:List zT):zO (jg L n a) m=(decide (m=n)||zO L m):=by
 have d:=h.with n a
 rw[vk,ry d,Vt,jk,ry h]
 constructor
 ·rintro ⟨c,b⟩
  rcases (Jb h).1 b with e|⟨e,_⟩
  ·exact .inl (congrArg Prod.fst e)
  ·exact .inr ⟨c,e⟩
 ·rintro (rfl|⟨c,b⟩)
  ·exact⟨a,(Jb h).2 (.inl rfl)⟩
  ·by_cases e:m=n
   ·subst e;exact⟨a,(Jb h).2 (.inl rfl)⟩
   ·exact⟨c,(Jb h).2 (.inr ⟨b,e⟩)⟩
theorem Co(L:List zu)(n:BA)(a:List zT):(jg L n a).length=if zO L n then L.length else L.length+1:=by
 have b:=gN L n;unfold jg;simp only[qL,xE,Zu,xV]
 cases hh:zO L n with
 | true=>
  have:=JX hh
  simp only[qO];omega
 | false=>
  simp only[yB,yu];omega
namespace Kp
structure qp where
 layer:Int
 name:Int
 rules:List zm
def qp.lay(p:qp):Nat:=zy p.layer 4
def qp.num(p:qp):Nat:=zy p.name 6
def qy(k:Nat):BA:=Xb.getD k ⟨#[]⟩
def qp.nam(p:qp):BA:=qy p.num
def jf(a:StO)(p:qp):StO:=yj a (p.lay:Int) p.nam (qQ p.rules)
def uf(l:List qp)(n:Nat):StO:=(l.take n).foldl jf xy
def uL(l:List qp):StO:=l.foldl jf xy
theorem Yp(p:qp):p.lay<4:=xI _ 4 (by decide)
theorem Xe(p:qp):p.num<6:=xI _ 6 (by decide)
theorem Ox{k:Nat}(h:k<6):Ref.qm (qy k)=true:=Gw k h
theorem Ow:∀j,j<6->∀k,k<6->qy j=qy k->j=k:=by decide +kernel
theorem fO:∀k,k<6->(qy k).size<=12:=by decide
theorem Ap{i k:Nat}(hi:i<4)(c:k<6):vL (i:Int) (qy k)=0:=by
 unfold vL kC;have a:decide ((0:Int)<=(i:Int))=true:=zF (by omega);have b:decide ((i:Int)<4)=true:=zF (by omega);rw[a,b,Ox c]
 rfl
theorem Yw(a:StO){i k:Nat}(hi:i<4)(c:k<6)(text:BA)(b:Rd.jT text=(0,0)) :
  jW a (i:Int) (qy k) text=(if zO (a i) (qy k)||decide ((a i).length<4) then (0,0) else (10,0)) /\
  yj a (i:Int) (qy k) text=(if zO (a i) (qy k)||decide ((a i).length<4) then upd a i (jg (a i) (qy k) (um text)) else a):=by
 have d:=Ap hi c;unfold jW yj Vj;simp only[Xv];rw[d,b];simp only[qO,decide_true,Qg,and_self]
def vo(a:StO):Prop:=∀i,i<4->QS (a i)
def Qn(a:StO):Prop:=∀i,i<4->∀x ∈ a i,(∃k,k<6/\x.1=qy k)/\∃l:List zm,x.2=Zc l
theorem bQ:vo xy:=λi _=>⟨List.Pairwise.nil,by simp[xy],λx a=>by simp[xy] at a⟩
theorem bS:Qn xy:=λi _ x a=>by simp[xy] at a
theorem kJ(a:StO)(i:Nat)(L:List zu):upd a i L i=L:=by unfold upd;rw[zb rfl]
theorem Qe(a:StO){i j:Nat}(h:j≠i)(L:List zu):upd a i L j=a j:=by unfold upd;rw[za h]
theorem Ry{a:StO}(d:vo a)(f:Qn a){i k:Nat}(hi:i<4)(h:k<6){text:BA}(g:Rd.jT text=(0,0))(m:∃l:List zm,um text=Zc l):vo (yj a (i:Int) (qy k) text)/\Qn (yj a (i:Int) (qy k) text):=by
 rw[(Yw a hi h text g).2]
 cases hb:zO (a i) (qy k)||decide ((a i).length<4) with
 | false=>exact⟨d,f⟩
 | true=>
  simp only[qO]
  constructor
  ·intro j b
   by_cases e:j=i
   ·subst e;rw[kJ];exact (d j b).with hb (KZ text (by rw[g]))
   ·rw[Qe a e];exact d j b
  ·intro j b x c
   by_cases e:j=i
   ·subst e;rw[kJ] at c
    rcases (Jb (d j b).1).1 c with rfl|⟨c,_⟩
    ·exact⟨⟨k,h,rfl⟩,m⟩
    ·exact f j b x c
   ·rw[Qe a e] at c;exact f j b x c
theorem BH{a:StO}(b:vo a)(c:Qn a)(p:qp):vo (jf a p)/\Qn (jf a p):=
 Ry b c (Yp p) (Xe p) (Qb p.rules) ⟨p.rules,Uq p.rules⟩
theorem dB:∀(l:List qp) (a:StO),vo a->Qn a->vo (l.foldl jf a)/\Qn (l.foldl jf a)
 | [],_,hg,hm=>⟨hg,hm⟩
 | p::l,_,hg,hm=>dB l _ (BH hg hm p).1 (BH hg hm p).2
theorem PE(l:List qp):vo (uL l)/\Qn (uL l):=dB l _ bQ bS
theorem PH(l:List qp)(n:Nat):vo (uf l n)/\Qn (uf l n):=dB _ _ bQ bS
theorem PI(l:List qp)(n:Nat)(h:n<l.length):uf l (n+1)=jf (uf l n) l[n]:=by
 unfold uf;rw[Xy h,List.foldl_append]
 rfl
theorem PG(l:List qp)(n:Nat)(h:l.length<=n):uf l n=uL l:=by
 unfold uf uL;rw[ZU h]
theorem Ws(a:StO)(p:qp)(i:Nat):(jf a p i).length=if i=p.lay/\zO (a p.lay) p.nam=false/\(a p.lay).length<4 then (a i).length+1 else (a i).length:=by
 unfold jf;show (yj a (p.lay:Int) (qy p.num) (qQ p.rules) i).length=_;rw[(Yw a (Yp p) (Xe p) _ (Qb p.rules)).2];unfold qp.nam
 by_cases hi:i=p.lay
 ·subst hi
  cases hh:zO (a p.lay) (qy p.num) with
  | true=>
   simp only[YK,qO];rw[kJ,Co,hh,zb rfl,za (by simp)]
  | false=>
   by_cases h4:(a p.lay).length<4
   ·rw[zb (by simp[h4]),kJ,Co,hh,za (by simp),zb ⟨rfl,rfl,h4⟩]
   ·rw[za (by simp[h4]),za (λh=>h4 h.2.2)]
 ·have b:¬(i=p.lay/\zO (a p.lay) (qy p.num)=false/\(a p.lay).length<4):=λh=>hi h.1;rw[za b]
  cases zO (a p.lay) (qy p.num)||decide ((a p.lay).length<4) with
  | true=>simp only[qO];rw[Qe a hi]
  | false=>rfl
theorem Wq{a:StO}(c:vo a)(p:qp){i k:Nat}(hi:i<4)(d:k<6):zO (jf a p i) (qy k)=(zO (a i) (qy k)||(decide (i=p.lay)&&decide (k=p.num)&&decide ((a p.lay).length<4))):=by
 unfold jf;show zO (yj a (p.lay:Int) (qy p.num) (qQ p.rules) i) (qy k)=_;rw[(Yw a (Yp p) (Xe p) _ (Qb p.rules)).2]
 by_cases e:i=p.lay
 ·have b:decide (qy k=qy p.num)=decide (k=p.num):=by
   by_cases ek:k=p.num
   ·rw[ek];simp
   ·rw[zH ek,zH (λh=>ek (Ow k d _ (Xe p) h))]
  subst e;rw[zF rfl,Qg]
  cases hh:zO (a p.lay) (qy p.num) with
  | true=>
   simp only[YK,qO];rw[kJ,rA (c _ hi).1,b]
   by_cases ek:k=p.num
   ·rw[ek,hh];simp
   ·rw[zH ek];simp
  | false=>
   by_cases h4:(a p.lay).length<4
   ·rw[zb (by simp[h4]),kJ,rA (c _ hi).1,b,zF h4,YJ,Bool.or_comm]
   ·rw[za (by simp[h4]),zH h4];simp
 ·rw[zH e];simp only[X8,Xp]
  split
  ·rw[Qe a e]
  ·rfl
end Kp
end Go.Proofs.YtagnlbgbnfnapaaGreatDoor
