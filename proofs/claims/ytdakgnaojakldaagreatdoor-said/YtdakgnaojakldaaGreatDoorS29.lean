/- P -/
import Derived.Test.YtdakgnaojakldaaGreatDoorS28
set_option maxRecDepth 100000
namespace Go.Proofs.YtdakgnaojakldaaGreatDoor
open Go.RowKit
namespace Sd
open Rd Ref Kp
def zA:List BY:=[⟨#[97,110,110]⟩,⟨#[98,111,98]⟩,⟨#[114,101,97,100]⟩,⟨#[98,111,120]⟩,⟨#[98,111,120,47,49]⟩,⟨#[98,111,120,101,115]⟩,⟨#[55]⟩,⟨#[49,56]⟩,⟨#[45,51]⟩]
def kE:List BY:=[⟨#[55]⟩,⟨#[49,56]⟩,⟨#[45,51]⟩]
def dV:List BY:=[⟨#[97,98,115,101,110,116]⟩,⟨#[108,105,107,101]⟩,⟨#[115,97,109,101]⟩,⟨#[98,101,108,111,119]⟩,⟨#[117,110,100,101,114]⟩]
def opW(k:Nat):BY:=dV.getD k ⟨#[]⟩
def Zd:BY:=⟨#[116,97,103]⟩
def yg:BY:=⟨#[100,111,99]⟩
def Zc:BY:=⟨#[103,117,97,114,100]⟩
def je:BY:=⟨#[110,111,98,111,100,121]⟩
def jH:BY:=⟨#[42]⟩
def ku(deny:Bool):BY:=if deny then ⟨#[100,101,110,121]⟩ else ⟨#[97,108,108,111,119]⟩
def ZJ(k:Nat):BY:=⟨#[123,34,111,112,34,58,34]⟩++opW k++⟨#[34,44,34,107,101,121,34,58,34,116,97,103,34]⟩
def ZK(k:Nat)(v:BY):BY:=if 0<k then ZJ k++⟨#[44,34,118,97,108,117,101,34,58,34]⟩++v++⟨#[34]⟩ else ZJ k
def uZ(k:Nat)(v:BY)(no:Bool):BY:=if no then ZK k v++⟨#[44,34,110,111,34,58,116,114,117,101]⟩ else ZK k v
def Z4(nt:Bool)(a:BY):BY:=if nt then ⟨#[123,34,110,111,116,34,58,34]⟩++a++⟨#[34,125]⟩ else ⟨#[34]⟩++a++⟨#[34]⟩
def Ql(deny nt no:Bool)(k:Nat)(a b c v:BY):BY:=
 ⟨#[123,34,115,116,97,116,101,109,101,110,116,34,58,91,123,34,101,102,102,101,99,116,34,58,34]⟩++ku deny++⟨#[34,44,34,119,104,111,34,58]⟩++Z4 nt a++⟨#[44,34,100,111,34,58,34]⟩++b++⟨#[34,44,34,111,110,34,58,34]⟩++c++⟨#[34,44,34,105,102,34,58,91]⟩++uZ k v no++⟨#[125,93,125,93,125]⟩
def Qq(a:BY):BY:=
 ⟨#[123,34,115,116,97,116,101,109,101,110,116,34,58,91,123,34,101,102,102,101,99,116,34,58,34,97,108,108,111,119,34,44,34,119,104,111,34,58,34]⟩++a++⟨#[34,44,34,100,111,34,58,34,42,34,44,34,111,110,34,58,34,42,34,125,93,125]⟩
def ve(k:Nat)(v:BY)(no:Bool):List (BY×V):=(bOp,.str (opW k))::(zw,.str Zd)::((if 0<k then [(zq,.str v)] else [])++if no then [(bNo,.word true)] else [])
def QC(nt:Bool)(a:BY):V:=if nt then .obj [(qb,.str a)] else .str a
def Ye(deny nt no:Bool)(k:Nat)(a b c v:BY):List (BY×V):=[(zM,.str (ku deny)),(zU,QC nt a),(bDo,.str b),(bOn,.str c),(bIf,.list [.obj (ve k v no)])]
def XO(a:BY):List (BY×V):=[(zM,.str (ku false)),(zU,.str a),(bDo,.str jH),(bOn,.str jH)]
def u7(k:Nat)(v:BY)(no:Bool):zQ:=⟨opW k,Zd,if 0<k then [v] else [],no⟩
def stW(deny nt no:Bool)(k:Nat)(a b c v:BY):zz:=⟨ku deny,(nt,[a]),(false,[b]),(false,[c]),[u7 k v no]⟩
def gdW(a:BY):zz:=⟨ku false,(false,[a]),(false,[jH]),(false,[jH]),[]⟩
theorem X9:∀s ∈ zA,xA (bl s):=by decide
theorem Xe:∀s ∈ zA,qf s=true:=by
 have h:zA.all qf=true:=by kernel_rfl
 exact List.all_eq_true.1 h
theorem X8:∀s ∈ zA,s.size<=5:=by decide
theorem Ee:∀s ∈ kE,s ∈ zA:=λs a=>by
 unfold kE at a;unfold zA;simp only[List.mem_cons,List.not_mem_nil,or_false] at a |-
 rcases a with h|h|h<;>simp[h]
theorem dG:∀s ∈ kE,qj s=true:=by
 have h:kE.all qj=true:=by kernel_rfl
 exact List.all_eq_true.1 h
theorem eU:∀s ∈ zA,short s=true:=by
 have h:zA.all short=true:=by kernel_rfl
 exact List.all_eq_true.1 h
theorem eT:∀s ∈ zA,filled s=true:=by
 have h:zA.all filled=true:=by kernel_rfl
 exact List.all_eq_true.1 h
theorem EJ:∀k,k<5->xA (bl (opW k)):=by decide
theorem VQ:∀k,k<5->(opW k).size<=6:=by decide
theorem Zv{d:Nat}{n t a:List UInt8}{ms:List (BY×V)}(b:xA n)(f:xA t)(c:WO d a ms):WO d (34::(n++34::58::34::(t++34::44::a))) ((⟨⟨n⟩⟩,.str ⟨⟨t⟩⟩)::ms):=by
 have:=bT (d:=d) (e:=[]) (g:=[]) b (Ui f) qN qN c
 simpa only[List.append_assoc,List.cons_append,List.nil_append] using this
theorem Uh{d:Nat}{n t:List UInt8}(a:xA n)(b:xA t):WO d (34::(n++34::58::34::(t++[34,125]))) [(⟨⟨n⟩⟩,.str ⟨⟨t⟩⟩)]:=by
 have:=XW (d:=d) (e:=[]) a (Ui b) qN
 simpa only[List.append_assoc,List.cons_append,List.nil_append] using this
theorem dB{d:Nat}{n t:List UInt8}(no:Bool)(a:xA n)(b:xA t):WO d (34::(n++34::58::34::(t++34::((if no then [44,34,110,111,34,58,116,114,117,101] else [])++[125])))) ((⟨⟨n⟩⟩,.str ⟨⟨t⟩⟩)::if no then [(bNo,.word true)] else []):=by
 cases no with
 | false=>exact Uh a b
 | true=>
  have c:WO d (34::([110,111]++34::58::([116,114,117,101]++([]++[125])))) [(⟨⟨[110,111]⟩⟩,.word true)]:=XW (by decide) .yes qN;exact Zv a b c
theorem nR(k:Nat)(v:BY)(no:Bool):((ve k v no).map λm=>m.1.toList).Nodup:=by
 unfold ve
 by_cases hk:0<k
 ·rw[if_pos hk]
  cases no with
  | false=>exact (by kernel_rfl:decide ([bOp.toList,zw.toList,zq.toList].Nodup)=true) |> of_decide_eq_true
  | true=>exact (by kernel_rfl:decide ([bOp.toList,zw.toList,zq.toList,bNo.toList].Nodup)=true) |> of_decide_eq_true
 ·rw[if_neg hk]
  cases no with
  | false=>exact (by kernel_rfl:decide ([bOp.toList,zw.toList].Nodup)=true) |> of_decide_eq_true
  | true=>exact (by kernel_rfl:decide ([bOp.toList,zw.toList,bNo.toList].Nodup)=true) |> of_decide_eq_true
theorem ol{d:Nat}(hd:d<=6){k:Nat}(g:k<5){v:BY}(h:xA (bl v))(no:Bool):W d (bl (uZ k v no)++[125]) (.obj (ve k v no)):=by
 have f:=EJ k g
 have i:WO d (34::([111,112]++34::58::34::(bl (opW k)++34::44::(34::([107,101,121]++34::58::34::([116,97,103]++34::((if 0<k then 44::34::([118,97,108,117,101]++34::58::34::(bl v++[34])) else [])++((if no then [44,34,110,111,34,58,116,114,117,101] else [])++[125])))))))) (ve k v no):=by
  unfold ve;refine Zv (n:=[111,112]) (by decide) f ?_
  by_cases h0:0<k
  ·rw[if_pos h0,if_pos h0];have a:=dB (d:=d) (n:=[118,97,108,117,101]) no (by decide) h;have b:=Zv (d:=d) (n:=[107,101,121]) (t:=[116,97,103]) (by decide) (by decide) a;simp only[List.append_assoc,List.cons_append,List.nil_append] at b |-;exact b
  ·rw[if_neg h0,if_neg h0];have a:=dB (d:=d) (n:=[107,101,121]) (t:=[116,97,103]) no (by decide) (by decide);simp only[List.cons_append,List.nil_append] at a |-;exact a
 have c:=W.obj (by omega) qN i (nR k v no)
 have e:bl (uZ k v no)++[125]=[123]++[]++(34::([111,112]++34::58::34::(bl (opW k)++34::44::(34::([107,101,121]++34::58::34::([116,97,103]++34::((if 0<k then 44::34::([118,97,108,117,101]++34::58::34::(bl v++[34])) else [])++((if no then [44,34,110,111,34,58,116,114,117,101] else [])++[125])))))))):=by
  unfold uZ ZK ZJ
  by_cases h0:0<k
  ·rw[if_pos h0,if_pos h0]
   cases no<;>simp[bl]
  ·rw[if_neg h0,if_neg h0]
   cases no<;>simp[bl]
 rw[e];exact c
theorem MM{d:Nat}(hd:d<=6)(nt:Bool){a:BY}(c:xA (bl a)):W d (bl (Z4 nt a)) (QC nt a):=by
 unfold Z4 QC
 cases nt with
 | false=>
  have:=Ui (d:=d) c
  simp only[Bool.false_eq_true,if_false,YA]
  simpa only[bl,List.append_assoc,List.cons_append,List.nil_append] using this
 | true=>
  have e:=Uh (d:=d) (n:=[110,111,116]) (by decide) c;have b:=W.obj (by omega) qN e (by simp);simp only[if_true,YA];simp only[bl,List.cons_append,List.nil_append] at b |-;exact b
theorem pU(deny nt no:Bool){k:Nat}(s:k<5){a b c v:BY}(q:xA (bl a))(hb:xA (bl b))(r:xA (bl c))(x:xA (bl v)):W 1 (bl (Ql deny nt no k a b c v)) (.obj [(xS,.list [.obj (Ye deny nt no k a b c v)])]):=by
 have p:=ol (d:=5) (by omega) s x no;have o:W 4 ([91]++[]++(bl (uZ k v no)++[125]++[]++[93])) (.list [.obj (ve k v no)]) := .list (by omega) qN (.last p qN);have m:=XW (d:=3) (n:=[105,102]) (e:=[]) (by decide) o qN;have l:=Zv (d:=3) (n:=[100,111]) (by decide) hb (Zv (n:=[111,110]) (by decide) r m);have j:=bT (d:=3) (n:=[119,104,111]) (e:=[]) (g:=[]) (by decide) (MM (by omega) nt q) qN qN l;have i:WO 3 (34::([101,102,102,101,99,116]++34::58::34::(bl (ku deny)++34::44::_))) (Ye deny nt no k a b c v):=Zv (d:=3) (n:=[101,102,102,101,99,116]) (by decide) (t:=bl (ku deny)) (by cases deny<;>decide) j;have h:=W.obj (by omega) qN i ((by kernel_rfl:decide ([zM.toList,zU.toList,bDo.toList,bOn.toList,bIf.toList].Nodup)=true) |> of_decide_eq_true);have u:W 2 ([91]++[]++(_++[]++[93])) (.list [.obj (Ye deny nt no k a b c v)]) := .list (by omega) qN (.last h qN);have w:=XW (d:=1) (n:=[115,116,97,116,101,109,101,110,116]) (e:=[]) (by decide) u qN;have f:=W.obj (by omega) qN w (by simp);unfold Ql;simp only[YA];simp only[bl,List.append_assoc,List.cons_append,List.nil_append] at f |-;exact f
theorem Ah{a:BY}(i:xA (bl a)):W 1 (bl (Qq a)) (.obj [(xS,.list [.obj (XO a)])]):=by
 have h:=Zv (d:=3) (n:=[100,111]) (t:=[42]) (by decide) (by decide) (Uh (n:=[111,110]) (t:=[42]) (by decide) (by decide));have g:=Zv (d:=3) (n:=[119,104,111]) (by decide) i h;have f:WO 3 (34::([101,102,102,101,99,116]++34::58::34::([97,108,108,111,119]++34::44::_))) (XO a):=Zv (d:=3) (n:=[101,102,102,101,99,116]) (by decide) (t:=[97,108,108,111,119]) (by decide) g;have c:=W.obj (by omega) qN f ((by kernel_rfl:decide ([zM.toList,zU.toList,bDo.toList,bOn.toList].Nodup)=true) |> of_decide_eq_true);have j:W 2 ([91]++[]++(_++[]++[93])) (.list [.obj (XO a)]) := .list (by omega) qN (.last c qN);have k:=XW (d:=1) (n:=[115,116,97,116,101,109,101,110,116]) (e:=[]) (by decide) j qN;have b:=W.obj (by omega) qN k (by simp);unfold Qq;simp only[YA];simp only[bl,List.append_assoc,List.cons_append,List.nil_append] at b |-;exact b
theorem Q9{s:BY}(h:qf s=true)(nt:Bool):Yp (nt,[s]):=⟨by simp,by simp,λp a=>by rw[List.mem_singleton] at a;subst a;exact h⟩
theorem Xl{a:BY}(h:qf a=true)(nt:Bool):chS (some (QC nt a))=(nt,[a])/\chC (some (QC nt a))=0:=by
 unfold QC;have b:=eH h
 cases nt with
 | false=>
  refine⟨rfl,?_⟩;show zN [qZ (some (.str a))]=0;rw[b];rfl
 | true=>
  have c:zJ [(qb,V.str a)] [qb]=true:=by kernel_rfl
  have d:zh [(qb,V.str a)] qb=some (.str a):=by kernel_rfl
  simp only[if_true,chS,chC];rw[c,d];refine⟨rfl,?_⟩;show zN [qZ (some (.str a))]=0;rw[b];rfl
def ZA(k:Nat)(v:BY):Prop:=v ∈ zA/\(k=3->v ∈ kE)
theorem Dh{k:Nat}(f:k<5)(e:0<k){v:BY}(d:ZA k v):zY (opW k) (some (.str v))=0/\qx (opW k) (some (.str v))=[v]:=by
 obtain⟨b,c⟩:=d
 have:k=1\/k=2\/k=3\/k=4:=by omega
 rcases this with rfl|rfl|rfl|rfl
 ·have:=bN (l:=[v]) (by simp) (by simp) (λs a=>by rw[List.mem_singleton] at a;subst a;exact Xe _ b) 32
  exact this
 ·have:=bO (l:=[v]) (by simp) (by simp) (λs a=>by rw[List.mem_singleton] at a;subst a;exact eU _ b) 32
  exact this
 ·have:=bM (l:=[v]) (by simp) (by simp) (λs a=>by rw[List.mem_singleton] at a;subst a;exact dG _ (c rfl)) 32
  exact this
 ·have:=bP (l:=[v]) (by simp) (by simp) (λs a=>by rw[List.mem_singleton] at a;subst a;exact eT _ b) 32
  exact this
theorem EI:∀k,k<5->∃j,j<5/\opW k=opN j:=λk a=>by
 have:k=0\/k=1\/k=2\/k=3\/k=4:=by omega
 rcases this with rfl|rfl|rfl|rfl|rfl
 ·exact⟨4,by decide,rfl⟩
 ·exact⟨0,by decide,rfl⟩
 ·exact⟨1,by decide,rfl⟩
 ·exact⟨2,by decide,rfl⟩
 ·exact⟨3,by decide,rfl⟩
theorem ib:zH Zd=true:=by kernel_rfl
theorem KI{k:Nat}(e:k<5){v:BY}(f:ZA k v)(no:Bool):Yo (u7 k v no):=by
 unfold u7
 by_cases h0:0<k
 ·rw[if_pos h0];refine tT (EI k e) ib (by simp) (λb=>?_);obtain⟨c,d⟩:=f
  have:k=1\/k=2\/k=3\/k=4:=by omega
  rcases this with rfl|rfl|rfl|rfl
  ·exact bN (l:=[v]) (by simp) (by simp) (λs a=>by rw[List.mem_singleton] at a;subst a;exact Xe _ c) b
  ·exact bO (l:=[v]) (by simp) (by simp) (λs a=>by rw[List.mem_singleton] at a;subst a;exact eU _ c) b
  ·exact bM (l:=[v]) (by simp) (by simp) (λs a=>by rw[List.mem_singleton] at a;subst a;exact dG _ (d rfl)) b
  ·exact bP (l:=[v]) (by simp) (by simp) (λs a=>by rw[List.mem_singleton] at a;subst a;exact eT _ c) b
 ·have:k=0:=by omega
  subst this;exact⟨⟨4,by decide,rfl⟩,ib,λh=>by simp at h,λ_=>bL⟩
theorem nQ{k:Nat}(b:k<5){v:BY}(c:ZA k v)(no:Bool):yj (.obj (ve k v no))=u7 k v no/\condC (.obj (ve k v no))=0:=by
 have a:=KI b c no
 by_cases h0:0<k
 ·have d:=Dh b h0 c;refine KE a (some (.str v)) ?_ ?_ ?_ ?_ ?_ ?_
  ·unfold u7;simp only;rw[if_pos h0];exact d
  all_goals
   unfold ve;rw[if_pos h0]
   cases no<;>kernel_rfl
 ·have:k=0:=by omega
  subst this;refine KE a none bL ?_ ?_ ?_ ?_ ?_
  all_goals (cases no<;>kernel_rfl)
theorem K4(deny:Bool):xu (ku deny)=true:=by cases deny<;>kernel_rfl
theorem Iw(deny nt no:Bool){k:Nat}(g:k<5){a b c v:BY}(e:qf a=true)(hb:qf b=true)(f:qf c=true)(h:ZA k v):qG (.obj (Ye deny nt no k a b c v))=stW deny nt no k a b c v/\qB (.obj (Ye deny nt no k a b c v))=0:=by
 have d:=nQ g h no
 have i:Js (stW deny nt no k a b c v):=⟨K4 deny,Q9 e nt,Q9 hb false,Q9 f false,by simp[stW],λx j=>by
  have:x=u7 k v no:=by simpa [stW] using j
  rw[this];exact KI g h no⟩
 refine gU i (QC nt a) (.str b) (.str c) (some (.list [.obj (ve k v no)])) (Xl e nt) (Xl hb false) (Xl f false) ⟨?_,?_⟩ (by kernel_rfl) (by kernel_rfl) (by kernel_rfl) (by kernel_rfl) (by kernel_rfl) (by kernel_rfl)
 ·show [yj (.obj (ve k v no))]=[u7 k v no];rw[d.1]
 ·show zN [condC (.obj (ve k v no))]=0;rw[d.2];rfl
theorem wG{a:BY}(c:qf a=true):qG (.obj (XO a))=gdW a/\qB (.obj (XO a))=0:=by
 have b:qf jH=true:=by kernel_rfl
 have d:Js (gdW a):=⟨K4 false,Q9 c false,Q9 b false,Q9 b false,by simp[gdW],λx e=>by simp[gdW] at e⟩;exact gU d (.str a) (.str jH) (.str jH) none (Xl c false) (Xl b false) (Xl b false) ⟨rfl,rfl⟩ (by kernel_rfl) (by kernel_rfl) (by kernel_rfl) (by kernel_rfl) (by kernel_rfl) (by kernel_rfl)
theorem dO{T:BY}{m:List (BY×V)}{s:zz}(j:T.size<=4000)(i:W 1 (bl T) (.obj [(xS,.list [.obj m])]))(e:qG (.obj m)=s/\qB (.obj m)=0):xV T=(0,0)/\yF T=[s]:=by
 have b:=FU i;have g:=Yc b;have a:stX (.obj [(xS,V.list [.obj m])])=some (.list [.obj m]):=by unfold stX;kernel_rfl
 unfold bl at b
 constructor
 ·unfold xV;rw[if_neg (by omega),b];simp only;rw[KY];have f:zV (stX (.obj [(xS,V.list [.obj m])]))=[.obj m]:=by rw[a];rfl
  have h:Zq (.obj [(xS,V.list [.obj m])])=1:=rfl;rw[f,h];simp only[List.length_singleton];rw[if_neg (by omega)];rw[Vi (L:=(bl T).length) _ 0 (by have:=UD g;rw[f] at this;exact this)];refine Vj _ 0 (λc d=>?_);simp only[List.map_cons,List.map_nil,List.mem_singleton] at d;rw[d];exact e.2
 ·unfold yF;rw[if_neg (by omega),b];simp only;rw[a];show [qG (.obj m)]=[s];rw[e.1]
end Sd
end Go.Proofs.YtdakgnaojakldaaGreatDoor
