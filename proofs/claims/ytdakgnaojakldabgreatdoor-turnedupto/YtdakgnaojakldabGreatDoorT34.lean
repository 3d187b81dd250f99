/- P -/
import Derived.Test.YtdakgnaojakldabGreatDoorT33
import Derived.Shelf.Small.Strs
import Derived.Shelf.Spec.SlicesGrow
import Derived.Shelf.Pu.Clone
open Go.Proofs.Tryz
set_option maxRecDepth 100000
namespace Go.Proofs.YtdakgnaojakldabGreatDoor
open Go.RowKit
theorem mP{L:Nat}:∀(a:List Rd.V) (l:List BA),(∀v ∈ a,Rd.Good L v)->Rd.yP a=some l->l.length=a.length/\∀s ∈ l,s.size<=L
 | [],l,_,h=>by simp only[Rd.yP,Option.some.injEq] at h;subst h;simp
 | v::a,l,hg,h=>by
  cases v with
  | str s=>
   simp only[Rd.yP] at h
   cases hr:Rd.yP a with
   | none=>rw[hr] at h;simp at h
   | some r=>
    rw[hr] at h;simp only[Option.map_some,Option.some.injEq] at h;subst h;obtain⟨d,e⟩:=mP a r (λv f=>hg v (by simp[f])) hr;refine⟨by simp[d],λt c=>?_⟩
    rcases List.mem_cons.1 c with rfl|c
    ·have:=hg (.str t) (by simp)
     cases this with
     | str _ h=>exact h
    ·exact e t c
  | word b=>simp[Rd.yP] at h
  | list l=>simp[Rd.yP] at h
  | obj l=>simp[Rd.yP] at h
theorem Xg{L:Nat}(i:L<=12000)(x:Option Rd.V)(e:∀v,x=some v->Rd.Good L v):Ref.ZJ ((Rd.zz x).getD [])/\((Rd.zz x).isSome=true->0<((Rd.zz x).getD []).length):=by
 match x with
 | none=>exact⟨⟨by simp[Rd.zz],by simp[Rd.zz]⟩,λh=>by simp[Rd.zz] at h⟩
 | some (.word b)=>exact⟨⟨by simp[Rd.zz],by simp[Rd.zz]⟩,λh=>by simp[Rd.zz] at h⟩
 | some (.obj ms)=>exact⟨⟨by simp[Rd.zz],by simp[Rd.zz]⟩,λh=>by simp[Rd.zz] at h⟩
 | some (.str s)=>
  have:=e _ rfl
  cases this with
  | str _ h=>exact⟨⟨by simp[Rd.zz],by simp[Rd.zz];omega⟩,λ_=>by simp[Rd.zz]⟩
 | some (.list vs)=>
  have:=e _ rfl
  cases this with
  | list _ g f=>
   simp only[Rd.zz]
   by_cases c:vs.length<1\/10<vs.length
   ·rw[if_pos c];exact⟨⟨by simp,by simp⟩,λh=>by simp at h⟩
   ·rw[if_neg c]
    cases d:Rd.yP vs with
    | none=>exact⟨⟨by simp,by simp⟩,λh=>by simp at h⟩
    | some l=>
     obtain⟨a,b⟩:=mP vs l f d;simp only[Option.getD_some];exact⟨⟨by omega,λs d=>by have:=b s d;omega⟩,λ_=>by omega⟩
theorem VW{L:Nat}(a:L<=12000)(x:Option Rd.V)(d:∀v,x=some v->Rd.Good L v):Ref.ZJ (Rd.chD (Rd.yF x)).2:=by
 unfold Rd.chD
 match x with
 | none=>exact (Xg a none (λv h=>by cases h)).1
 | some (.word b)=>exact (Xg a _ d).1
 | some (.str s)=>exact (Xg a _ d).1
 | some (.list vs)=>exact (Xg a _ d).1
 | some (.obj ms)=>
  simp only[Rd.yF]
  by_cases c:Rd.zJ ms [Ref.zZ]=true/\ms.length=1
  ·rw[if_pos c];refine (Xg a _ (λv g=>?_)).1
   have:=d _ rfl
   cases this with
   | obj _ i j k f=>
    have e:=List.mem_of_getElem? g;rw[List.mem_map] at e;obtain⟨m,e,rfl⟩:=e;exact f m e
  ·rw[if_neg c];exact⟨by simp,by simp⟩
theorem UV{L:Nat}{x:Option Rd.V}(a:∀v,x=some v->Rd.Good L v){s:BA}(h:Rd.opV x=some s):s.size<=L:=by
 unfold Rd.opV at h
 split at h
 ·injection h with h
  subst h
  have:=a _ rfl
  cases this with
  | str _ h=>exact h
 ·cases h
theorem wD{L:Nat}(g:L<=12000)(v:Rd.V)(c:Rd.Good L v):Ref.Y3 (Rd.qz v):=by
 have a:Ref.Y3 Ref.ji:=⟨Nat.zero_le _,Nat.zero_le _,Nat.zero_le _,λs d=>by simp[Ref.ji] at d⟩
 match v,c with
 | .str s,_=>exact a
 | .word b,_=>exact a
 | .list l,_=>exact a
 | .obj ms,c=>
  simp only[Rd.qz,Rd.Qm]
  split
  ·rename_i op key e f;have i:=UV (Rd.xg c Ref.bOp) e;have j:=UV (Rd.xg c Ref.zt) f
   split
   ·exact⟨by simp only;omega,by simp only;omega,Nat.zero_le _,λs d=>by simp at d⟩
   ·obtain⟨h,_⟩:=Xg g _ (Rd.xg c Ref.zy);exact⟨by simp only;omega,by simp only;omega,h.1,h.2⟩
  ·exact a
theorem OO{L:Nat}(g:L<=12000)(v:Rd.V)(e:Rd.Good L v):Ref.Yc (Rd.xq v):=by
 have d:Ref.Yc Rd.ug:=⟨Nat.zero_le _,⟨Nat.zero_le _,λs f=>by simp[Rd.ug] at f⟩,⟨Nat.zero_le _,λs f=>by simp[Rd.ug] at f⟩,⟨Nat.zero_le _,λs f=>by simp[Rd.ug] at f⟩,Nat.zero_le _,λc a=>by simp[Rd.ug] at a⟩
 match v,e with
 | .str s,_=>exact d
 | .word b,_=>exact d
 | .list l,_=>exact d
 | .obj ms,e=>
  simp only[Rd.xq,Rd.XX]
  split
  ·rename_i eff n k;have o:=UV (Rd.xg e Rd.zQ) k
   have a:(Rd.qG (Rd.zf ms Rd.bIf)).cs.length<=5/\∀c ∈ (Rd.qG (Rd.zf ms Rd.bIf)).cs,Ref.Y3 c:=by
    have h:=Rd.xg e Rd.bIf
    match i:Rd.zf ms Rd.bIf with
    | none=>exact⟨Nat.zero_le _,λc a=>by simp[Rd.qG] at a⟩
    | some (.str s)=>exact⟨Nat.zero_le _,λc a=>by simp[Rd.qG] at a⟩
    | some (.word b)=>exact⟨Nat.zero_le _,λc a=>by simp[Rd.qG] at a⟩
    | some (.obj ms)=>exact⟨Nat.zero_le _,λc a=>by simp[Rd.qG] at a⟩
    | some (.list vs)=>
     have:=h _ i
     cases this with
     | list _ m j=>
      simp only[Rd.qG]
      split
      ·exact⟨Nat.zero_le _,λc a=>by simp at a⟩
      ·refine⟨by simp;omega,λc a=>?_⟩;simp only[List.mem_map] at a;obtain⟨x,i,rfl⟩:=a;exact wD g x (j x i)
   exact⟨by simp only[Rd.XI];omega,VW g _ (Rd.xg e Rd.zS),VW g _ (Rd.xg e Rd.bDo),VW g _ (Rd.xg e Rd.bOn),a.1,a.2⟩
  ·exact d
theorem wz(v:Rd.V)(h:Rd.condC v≠1){L:Nat}(i:L<=12000)(f:Rd.Good L v):Ref.xI (Rd.qz v).op=decide ((Rd.qz v).vals.length=0):=by
 have g:=Rd.bE v
 have a:(Rd.qz v).sh=false:=by
  cases e:(Rd.qz v).sh with
  | false=>rfl
  | true=>rw[e] at g;exact absurd g h
 match v,f with
 | .str s,_=>exact absurd a (by simp[Rd.qz,Ref.ji])
 | .word b,_=>exact absurd a (by simp[Rd.qz,Ref.ji])
 | .list l,_=>exact absurd a (by simp[Rd.qz,Ref.ji])
 | .obj ms,f=>
  obtain⟨R,c⟩:=Nm (Rd.qz (.obj ms));rw[c] at a |-;simp only[Rd.qz,Rd.Qm] at c
  cases h1:Rd.opV (Rd.zf ms Ref.bOp) with
  | none=>rw[h1] at c;subst c;simp[Ref.ji] at a
  | some op=>
   rw[h1] at c
   cases h2:Rd.opV (Rd.zf ms Ref.zt) with
   | none=>rw[h2] at c;subst c;simp[Ref.ji] at a
   | some key=>
    rw[h2] at c;simp only at c
    by_cases ca:Ref.xI op=true
    ·rw[if_pos ca] at c;subst c;simp[ca]
    ·rw[if_neg ca] at c;subst c;simp only[Bool.or_eq_false_iff,Bool.not_eq_false'] at a
     have:=(Xg i _ (Rd.xg f Ref.zy)).2 a.1.1.2.1
     have d:Ref.xI op=false:=by simpa using ca
     simp only[d];symm;simp only[decide_eq_false_iff_not];omega
theorem OL(v:Rd.V)(h:Rd.qP v≠1/\Rd.qP v≠2){L:Nat}(m:L<=12000)(f:Rd.Good L v):K4 (Rd.xq v):=by
 match v,f with
 | .str s,_=>exact absurd rfl h.1
 | .word b,_=>exact absurd rfl h.1
 | .list l,_=>exact absurd rfl h.1
 | .obj ms,f=>
  simp only[Rd.qP] at h;simp only[Rd.xq,Rd.XX]
  split
  ·rename_i eff k p;rw[k] at h;simp only[if_true] at h
   have n:Rd.zT [Rd.zL Rd.xx (Rd.zf ms Rd.zQ),Rd.chC (Rd.zf ms Rd.zS),Rd.chC (Rd.zf ms Rd.bDo),Rd.chC (Rd.zf ms Rd.bOn),Rd.ym (Rd.zf ms Rd.bIf)]=0:=by
    have:=Rd.XB [Rd.zL Rd.xx (Rd.zf ms Rd.zQ),Rd.chC (Rd.zf ms Rd.zS),Rd.chC (Rd.zf ms Rd.bDo),Rd.chC (Rd.zf ms Rd.bOn),Rd.ym (Rd.zf ms Rd.bIf)]
    omega
   have e:=(Yz n) (Rd.ym (Rd.zf ms Rd.bIf)) (by simp);have g:=Rd.xg f Rd.bIf;intro c a;simp only[Rd.XI] at a
   match hx:Rd.zf ms Rd.bIf with
   | none=>rw[hx] at a;simp[Rd.qG] at a
   | some (.str s)=>rw[hx] at a;simp[Rd.qG] at a
   | some (.word b)=>rw[hx] at a;simp[Rd.qG] at a
   | some (.obj ms)=>rw[hx] at a;simp[Rd.qG] at a
   | some (.list vs)=>
    rw[hx] at a e
    have:=g _ hx
    cases this with
    | list _ o j=>
     simp only[Rd.qG,Rd.ym] at a e
     by_cases c5:5<vs.length
     ·rw[if_pos c5] at a;simp at a
     ·rw[if_neg c5] at a e
      have i:Rd.zT (vs.map Rd.condC)=0:=by
       have:=Rd.XB (vs.map Rd.condC)
       omega
      simp only[List.mem_map] at a;obtain⟨x,d,rfl⟩:=a;exact wz x ((Yz i) _ (List.mem_map.2 ⟨x,d,rfl⟩)).1 m (j x d)
  ·intro c a;simp[Rd.ug] at a
def Xf(s:BA):List Rd.jd:=if 4000<s.size then [] else match Rd.xN s.data.toList with
 | .ok v _=>(qd (stX v)).map Rd.xq
 | .err _ _=>[]
theorem Uf:∀(rs:List Rd.jd) (i:Nat),(Rd.ZX rs i).1=0->∀r ∈ rs,r.sh=false/\r.pt=false
 | [],_,_,r,hr=>by simp at hr
 | x::xs,i,h,r,hr=>by
  unfold Rd.ZX at h
  split at h
  ·simp at h
  rename_i a
  split at h
  ·simp at h
  rename_i b
  rcases List.mem_cons.1 hr with rfl|hr
  ·exact⟨by simpa using a,by simpa using b⟩
  ·exact Uf xs (i+1) h r hr
theorem OT(s:BA)(h:(Rd.yU s).1=0):(∀r ∈ Xf s,K4 r/\Ref.Yc r)/\(Xf s).length<=10/\(if 4000<s.size then [] else match Rd.xN s.data.toList with
 | .ok v _=>(qd (stX v)).map xm
 | .err _ _=>[])=(Xf s).map Zv:=by
 unfold Rd.yU at h;unfold Xf
 by_cases h1:4000<s.size
 ·rw[if_pos h1] at h;simp at h
 rw[if_neg h1] at h;rw[if_neg h1,if_neg h1]
 cases hm:Rd.xN s.data.toList with
 | err e q=>
  rw[hm] at h
  have:=Rd.lm hm
  unfold Rd.Code at this;simp only at h;omega
 | ok v q=>
  rw[hm] at h;simp only at h |-;have j:=Rd.YP hm;have m:s.data.toList.length<=12000:=by rw[Ref.zB];omega
  match v,j with
  | .str t,_=>simp[Rd.vX] at h
  | .word b,_=>simp[Rd.vX] at h
  | .list l,_=>simp[Rd.vX] at h
  | .obj ms,j=>
   simp only[Rd.vX] at h
   match hx:Rd.zf ms Rd.yS with
   | none=>rw[hx] at h;simp at h
   | some (.str t)=>rw[hx] at h;simp at h
   | some (.word b)=>rw[hx] at h;simp at h
   | some (.obj ms)=>rw[hx] at h;simp at h
   | some (.list i)=>
    rw[hx] at h;simp only at h;have d:qd (stX (.obj ms))=i:=by simp[qd,stX,hx]
    rw[d]
    by_cases c:ms.length≠1\/i.length<1\/10<i.length
    ·rw[if_pos c] at h;simp at h
    rw[if_neg c] at h;have k:=Rd.xg j Rd.yS _ hx
    have f:∀v ∈ i,Rd.Good s.data.toList.length v:=by
     cases k with
     | list _ p o=>exact o
    have g:∀v ∈ i,Rd.qP v≠1/\Rd.qP v≠2:=by
     intro v d;obtain⟨a,b⟩:=Uf _ _ h (Rd.xq v) (List.mem_map.2 ⟨v,d,rfl⟩);rw[Rd.mo v (f v d),a,b]
     decide
    refine⟨λr n=>?_,by rw[List.length_map];omega,?_⟩
    ·rw[List.mem_map] at n;obtain⟨v,d,rfl⟩:=n;exact⟨OL v (g v d) m (f v d),OO m v (f v d)⟩
    ·rw[List.map_map];exact List.map_congr_left λv d=>OI v (f v d) (g v d)
theorem NR{r:Rd.jd}(h:Ref.Yc r):Vy (Zv r):=
 ⟨h.eff,h.who,h.act,h.on,by show (r.cs.map toS).length<=5;rw[List.length_map];exact h.len,λc e=>by
  rw[show (Zv r).ifs=r.cs.map toS from rfl,List.mem_map] at e
  obtain⟨x,f,rfl⟩:=e;obtain⟨a,b,d⟩:=h.cs x f;exact⟨a,b,d⟩⟩
theorem Ub{EL:Value}{T:TypeId}{y:Value}(a:EL = .iface T y){c:Int}{q:Nat}{u:Value}(h:uw EL c q u):(c=0/\u = .nilIface)\/(c≠0/\∃T y,u = .iface T y):=by
 cases h with
 | ok=>exact .inl ⟨rfl,rfl⟩
 | long=>exact .inr ⟨by decide,T,y,a⟩
 | text c q b=>
  refine .inr ⟨by unfold Rd.Code at b;omega,?_⟩;unfold vY
  split
  ·exact⟨_,_,rfl⟩
  ·split
   ·exact⟨_,_,rfl⟩
   ·exact⟨_,_,rfl⟩
 | doc p=>exact .inr ⟨by decide,_,_,rfl⟩
 | shape n p=>exact .inr ⟨by decide,_,_,rfl⟩
 | pat n k=>exact .inr ⟨by decide,_,_,rfl⟩
namespace Kp
open Rd Ref
end Kp
end Go.Proofs.YtdakgnaojakldabGreatDoor
namespace Go.Proofs.YtdakgnaojakldabGreatDoor
open Go.Shelf
def Tryz.lays106_ren:Go.Shelf.Ren:=⟨λ|106=>70|213=>97|265=>116|n=>n,λ|9=>9|3=>3|n=>n,λ|n=>n⟩
theorem Tryz.lays106:Go.Proofs.Lays.n106 prog Tryz.lays106_ren:={
 mixed:=by kernel_rfl
 f106:=func70.trans (congrArg some (by kernel_rfl))
 f213:=func97.trans (congrArg some (by kernel_rfl))
 f265:=func116.trans (congrArg some (by kernel_rfl))
 t3:=underlying3
 a3:=Tryz.isAgg3
 z3:=Tryz.sizeOf3
 v3:=Tryz.zeroValue3
 t9:=underlying9
 a9:=Tryz.isAgg9
 z9:=Tryz.sizeOf9
 v9:=Tryz.zeroValue9 }
def Tryz.laysPu25_ren:Go.Shelf.Ren:=⟨λ|25=>71|n=>n,λ|9=>9|3=>3|4=>4|37=>130|0=>0|47=>215|5=>5|n=>n,λ|n=>n⟩
theorem Tryz.laysPu25:Go.Proofs.LaysPu.n25 prog Tryz.laysPu25_ren:={
 mixed:=by kernel_rfl
 f25:=func71.trans (congrArg some (by kernel_rfl))
 t0:=underlying0
 a0:=Tryz.isAgg0
 z0:=Tryz.sizeOf0
 v0:=Tryz.zeroValue0
 i0:=by kernel_rfl
 t3:=underlying3
 a3:=Tryz.isAgg3
 z3:=Tryz.sizeOf3
 v3:=Tryz.zeroValue3
 i3:=by kernel_rfl
 t4:=underlying4
 a4:=Tryz.isAgg4
 z4:=Tryz.sizeOf4
 v4:=Tryz.zeroValue4
 i4:=by kernel_rfl
 t5:=underlying5
 a5:=Tryz.isAgg5
 z5:=Tryz.sizeOf5
 v5:=Tryz.zeroValue5
 i5:=by kernel_rfl
 t9:=underlying9
 a9:=Tryz.isAgg9
 z9:=Tryz.sizeOf9
 v9:=Tryz.zeroValue9
 i9:=by kernel_rfl
 t37:=underlying130
 a37:=Tryz.isAgg130
 z37:=Tryz.sizeOf130
 v37:=Tryz.zeroValue130
 i37:=by kernel_rfl
 t47:=underlying215
 a47:=Tryz.isAgg215
 z47:=Tryz.sizeOf215
 v47:=Tryz.zeroValue215
 i47:=by kernel_rfl }
def Tryz.lays8grow_ren:Go.Shelf.Ren:=⟨λ|4=>72|n=>n,λ|22=>61|25=>123|3=>3|4=>4|9=>9|20=>20|0=>0|n=>n,λ|n=>n⟩
theorem Tryz.lays8grow:Go.Proofs.Lays8.n4 prog Tryz.lays8grow_ren:={
 mixed:=by kernel_rfl
 f4:=⟨Tryz.f72.name,by decide,func72.trans (congrArg some (by kernel_rfl))⟩
 t0:=underlying0
 a0:=Tryz.isAgg0
 z0:=Tryz.sizeOf0
 v0:=Tryz.zeroValue0
 t3:=underlying3
 a3:=Tryz.isAgg3
 z3:=Tryz.sizeOf3
 v3:=Tryz.zeroValue3
 t4:=underlying4
 a4:=Tryz.isAgg4
 z4:=Tryz.sizeOf4
 v4:=Tryz.zeroValue4
 t9:=underlying9
 a9:=Tryz.isAgg9
 z9:=Tryz.sizeOf9
 v9:=Tryz.zeroValue9
 t20:=underlying20
 a20:=Tryz.isAgg20
 z20:=Tryz.sizeOf20
 v20:=Tryz.zeroValue20
 t22:=underlying61
 a22:=Tryz.isAgg61
 z22:=Tryz.sizeOf61
 v22:=Tryz.zeroValue61 }
end Go.Proofs.YtdakgnaojakldabGreatDoor
