/- P -/
import Derived.Test.YtagnlbgbnfnapaaGreatDoorZ32
open Go.Proofs.Tryz
set_option maxRecDepth 100000
namespace Go.Proofs.YtagnlbgbnfnapaaGreatDoor
open Go.RowKit
theorem BQ{L:Nat}:∀(a:List Rd.V) (l:List BA),(∀v ∈ a,Rd.Good L v)->Rd.Zn a=some l->l.length=a.length/\∀s ∈ l,s.size<=L
 | [],l,_,h=>by simp only[Rd.Zn,Option.some.injEq] at h;subst h;simp
 | v::a,l,hg,h=>by
  cases v with
  | str s=>
   simp only[Rd.Zn] at h
   cases hr:Rd.Zn a with
   | none=>rw[hr] at h;simp at h
   | some r=>
    rw[hr] at h;simp only[Q3,Option.some.injEq] at h;subst h;obtain⟨d,e⟩:=BQ a r (λv f=>hg v (by simp[f])) hr;refine⟨by simp[d],λt c=>?_⟩
    rcases vz.1 c with rfl|c
    ·have:=hg (.str t) (by simp)
     cases this with
     | str _ h=>exact h
    ·exact e t c
  | word b=>simp[Rd.Zn] at h
  | list l=>simp[Rd.Zn] at h
  | obj l=>simp[Rd.Zn] at h
theorem Jj{L:Nat}(i:L<=12000)(x:Option Rd.V)(e:∀v,x=some v->Rd.Good L v):Ref.XD ((Rd.zR x).getD [])/\((Rd.zR x).isSome=true->0<((Rd.zR x).getD []).length):=by
 match x with
 | none=>exact⟨⟨by simp[Rd.zR],by simp[Rd.zR]⟩,λh=>by simp[Rd.zR] at h⟩
 | some (.word b)=>exact⟨⟨by simp[Rd.zR],by simp[Rd.zR]⟩,λh=>by simp[Rd.zR] at h⟩
 | some (.obj ms)=>exact⟨⟨by simp[Rd.zR],by simp[Rd.zR]⟩,λh=>by simp[Rd.zR] at h⟩
 | some (.str s)=>
  have:=e _ rfl
  cases this with
  | str _ h=>exact⟨⟨by simp[Rd.zR],by simp[Rd.zR];omega⟩,λ_=>by simp[Rd.zR]⟩
 | some (.list vs)=>
  have:=e _ rfl
  cases this with
  | list _ g f=>
   simp only[Rd.zR]
   by_cases c:vs.length<1\/10<vs.length
   ·rw[zb c];exact⟨⟨by simp,by simp⟩,λh=>by simp at h⟩
   ·rw[za c]
    cases d:Rd.Zn vs with
    | none=>exact⟨⟨by simp,by simp⟩,λh=>by simp at h⟩
    | some l=>
     obtain⟨a,b⟩:=BQ vs l f d;simp only[yO];exact⟨⟨by omega,λs d=>by have:=b s d;omega⟩,λ_=>by omega⟩
theorem bF{L:Nat}(a:L<=12000)(x:Option Rd.V)(d:∀v,x=some v->Rd.Good L v):Ref.XD (Rd.chD (Rd.kr x)).2:=by
 unfold Rd.chD
 match x with
 | none=>exact (Jj a none (λv h=>by cases h)).1
 | some (.word b)=>exact (Jj a _ d).1
 | some (.str s)=>exact (Jj a _ d).1
 | some (.list vs)=>exact (Jj a _ d).1
 | some (.obj ms)=>
  simp only[Rd.kr]
  by_cases c:Rd.qh ms [Ref.qH]=true/\ms.length=1
  ·rw[zb c];refine (Jj a _ (λv g=>?_)).1
   have:=d _ rfl
   cases this with
   | obj _ i j k f=>
    have e:=Qm g;rw[qR] at e;obtain⟨m,e,rfl⟩:=e;exact f m e
  ·rw[za c];exact⟨by simp,by simp⟩
theorem gD{L:Nat}{x:Option Rd.V}(a:∀v,x=some v->Rd.Good L v){s:BA}(h:Rd.opV x=some s):s.size<=L:=by
 unfold Rd.opV at h
 split at h
 ·injection h with h
  subst h
  have:=a _ rfl
  cases this with
  | str _ h=>exact h
 ·cases h
theorem FE{L:Nat}(g:L<=12000)(v:Rd.V)(c:Rd.Good L v):Ref.UH (Rd.xG v):=by
 have a:Ref.UH Ref.Zi:=⟨zU _,zU _,zU _,λs d=>by simp[Ref.Zi] at d⟩
 match v,c with
 | .str s,_=>exact a
 | .word b,_=>exact a
 | .list l,_=>exact a
 | .obj ms,c=>
  simp only[Rd.xG,Rd.JM]
  split
  ·rename_i op key e f;have i:=gD (Rd.yt c Ref.bOp) e;have j:=gD (Rd.yt c Ref.zG) f
   split
   ·exact⟨by simp only;omega,by simp only;omega,zU _,λs d=>by simp at d⟩
   ·obtain⟨h,_⟩:=Jj g _ (Rd.yt c Ref.zJ);exact⟨by simp only;omega,by simp only;omega,h.1,h.2⟩
  ·exact a
theorem WH{L:Nat}(g:L<=12000)(v:Rd.V)(e:Rd.Good L v):Ref.UI (Rd.yz v):=by
 have d:Ref.UI Rd.Z9:=⟨zU _,⟨zU _,λs f=>by simp[Rd.Z9] at f⟩,⟨zU _,λs f=>by simp[Rd.Z9] at f⟩,⟨zU _,λs f=>by simp[Rd.Z9] at f⟩,zU _,λc a=>by simp[Rd.Z9] at a⟩
 match v,e with
 | .str s,_=>exact d
 | .word b,_=>exact d
 | .list l,_=>exact d
 | .obj ms,e=>
  simp only[Rd.yz,Rd.Vp]
  split
  ·rename_i eff n k;have o:=gD (Rd.yt e Rd.ql) k
   have a:(Rd.xY (Rd.zl ms Rd.bIf)).cs.length<=5/\∀c ∈ (Rd.xY (Rd.zl ms Rd.bIf)).cs,Ref.UH c:=by
    have h:=Rd.yt e Rd.bIf
    match i:Rd.zl ms Rd.bIf with
    | none=>exact⟨zU _,λc a=>by simp[Rd.xY] at a⟩
    | some (.str s)=>exact⟨zU _,λc a=>by simp[Rd.xY] at a⟩
    | some (.word b)=>exact⟨zU _,λc a=>by simp[Rd.xY] at a⟩
    | some (.obj ms)=>exact⟨zU _,λc a=>by simp[Rd.xY] at a⟩
    | some (.list vs)=>
     have:=h _ i
     cases this with
     | list _ m j=>
      simp only[Rd.xY]
      split
      ·exact⟨zU _,λc a=>by simp at a⟩
      ·refine⟨by simp;omega,λc a=>?_⟩;simp only[qR] at a;obtain⟨x,i,rfl⟩:=a;exact FE g x (j x i)
   exact⟨by simp only[Rd.J4];omega,bF g _ (Rd.yt e Rd.qz),bF g _ (Rd.yt e Rd.bDo),bF g _ (Rd.yt e Rd.bOn),a.1,a.2⟩
  ·exact d
theorem FC(v:Rd.V)(h:Rd.condC v≠1){L:Nat}(i:L<=12000)(f:Rd.Good L v):Ref.jm (Rd.xG v).op=decide ((Rd.xG v).vals.length=0):=by
 have g:=Rd.nX v
 have a:(Rd.xG v).sh=false:=by
  cases e:(Rd.xG v).sh with
  | false=>rfl
  | true=>rw[e] at g;exact absurd g h
 match v,f with
 | .str s,_=>exact absurd a (by simp[Rd.xG,Ref.Zi])
 | .word b,_=>exact absurd a (by simp[Rd.xG,Ref.Zi])
 | .list l,_=>exact absurd a (by simp[Rd.xG,Ref.Zi])
 | .obj ms,f=>
  obtain⟨R,c⟩:=Nm (Rd.xG (.obj ms));rw[c] at a |-;simp only[Rd.xG,Rd.JM] at c
  cases h1:Rd.opV (Rd.zl ms Ref.bOp) with
  | none=>rw[h1] at c;subst c;simp[Ref.Zi] at a
  | some op=>
   rw[h1] at c
   cases h2:Rd.opV (Rd.zl ms Ref.zG) with
   | none=>rw[h2] at c;subst c;simp[Ref.Zi] at a
   | some key=>
    rw[h2] at c;simp only at c
    by_cases ca:Ref.jm op=true
    ·rw[zb ca] at c;subst c;simp[ca]
    ·rw[za ca] at c;subst c;simp only[K9,K8] at a
     have:=(Jj i _ (Rd.yt f Ref.zJ)).2 a.1.1.2.1
     have d:Ref.jm op=false:=by simpa using ca
     simp only[d];symm;simp only[oD];omega
theorem WF(v:Rd.V)(h:Rd.xM v≠1/\Rd.xM v≠2){L:Nat}(m:L<=12000)(f:Rd.Good L v):lL (Rd.yz v):=by
 match v,f with
 | .str s,_=>exact absurd rfl h.1
 | .word b,_=>exact absurd rfl h.1
 | .list l,_=>exact absurd rfl h.1
 | .obj ms,f=>
  simp only[Rd.xM] at h;simp only[Rd.yz,Rd.Vp]
  split
  ·rename_i eff k p;rw[k] at h;simp only[qO] at h
   have n:Rd.qA [Rd.qf Rd.yG (Rd.zl ms Rd.ql),Rd.chC (Rd.zl ms Rd.qz),Rd.chC (Rd.zl ms Rd.bDo),Rd.chC (Rd.zl ms Rd.bOn),Rd.jD (Rd.zl ms Rd.bIf)]=0:=by
    have:=Rd.JV [Rd.qf Rd.yG (Rd.zl ms Rd.ql),Rd.chC (Rd.zl ms Rd.qz),Rd.chC (Rd.zl ms Rd.bDo),Rd.chC (Rd.zl ms Rd.bOn),Rd.jD (Rd.zl ms Rd.bIf)]
    omega
   have e:=(VV n) (Rd.jD (Rd.zl ms Rd.bIf)) (by simp);have g:=Rd.yt f Rd.bIf;intro c a;simp only[Rd.J4] at a
   match hx:Rd.zl ms Rd.bIf with
   | none=>rw[hx] at a;simp[Rd.xY] at a
   | some (.str s)=>rw[hx] at a;simp[Rd.xY] at a
   | some (.word b)=>rw[hx] at a;simp[Rd.xY] at a
   | some (.obj ms)=>rw[hx] at a;simp[Rd.xY] at a
   | some (.list vs)=>
    rw[hx] at a e
    have:=g _ hx
    cases this with
    | list _ o j=>
     simp only[Rd.xY,Rd.jD] at a e
     by_cases c5:5<vs.length
     ·rw[zb c5] at a;simp at a
     ·rw[za c5] at a e
      have i:Rd.qA (vs.map Rd.condC)=0:=by
       have:=Rd.JV (vs.map Rd.condC)
       omega
      simp only[qR] at a;obtain⟨x,d,rfl⟩:=a;exact FC x ((VV i) _ (qR.2 ⟨x,d,rfl⟩)).1 m (j x d)
  ·intro c a;simp[Rd.Z9] at a
def Ji(s:BA):List Rd.Qq:=if 4000<s.size then [] else match Rd.yS s.data.toList with
 | .ok v _=>(qK (stX v)).map Rd.yz
 | .err _ _=>[]
theorem cz:∀(rs:List Rd.Qq) (i:Nat),(Rd.XP rs i).1=0->∀r ∈ rs,r.sh=false/\r.pt=false
 | [],_,_,r,hr=>by simp at hr
 | x::xs,i,h,r,hr=>by
  unfold Rd.XP at h
  split at h
  ·simp at h
  rename_i a
  split at h
  ·simp at h
  rename_i b
  rcases vz.1 hr with rfl|hr
  ·exact⟨by simpa using a,by simpa using b⟩
  ·exact cz xs (i+1) h r hr
theorem WK(s:BA)(h:(Rd.jT s).1=0):(∀r ∈ Ji s,lL r/\Ref.UI r)/\(Ji s).length<=10/\(if 4000<s.size then [] else match Rd.yS s.data.toList with
 | .ok v _=>(qK (stX v)).map yx
 | .err _ _=>[])=(Ji s).map YD:=by
 unfold Rd.jT at h;unfold Ji
 by_cases h1:4000<s.size
 ·rw[zb h1] at h;simp at h
 rw[za h1] at h;rw[za h1,za h1]
 cases hm:Rd.yS s.data.toList with
 | err e q=>
  rw[hm] at h
  have:=Rd.AY hm
  unfold Rd.Code at this;simp only at h;omega
 | ok v q=>
  rw[hm] at h;simp only at h |-;have j:=Rd.Ue hm;have m:s.data.toList.length<=12000:=by rw[Ref.zP];omega
  match v,j with
  | .str t,_=>simp[Rd.ZC] at h
  | .word b,_=>simp[Rd.ZC] at h
  | .list l,_=>simp[Rd.ZC] at h
  | .obj ms,j=>
   simp only[Rd.ZC] at h
   match hx:Rd.zl ms Rd.vC with
   | none=>rw[hx] at h;simp at h
   | some (.str t)=>rw[hx] at h;simp at h
   | some (.word b)=>rw[hx] at h;simp at h
   | some (.obj ms)=>rw[hx] at h;simp at h
   | some (.list i)=>
    rw[hx] at h;simp only at h;have d:qK (stX (.obj ms))=i:=by simp[qK,stX,hx]
    rw[d]
    by_cases c:ms.length≠1\/i.length<1\/10<i.length
    ·rw[zb c] at h;simp at h
    rw[za c] at h;have k:=Rd.yt j Rd.vC _ hx
    have f:∀v ∈ i,Rd.Good s.data.toList.length v:=by
     cases k with
     | list _ p o=>exact o
    have g:∀v ∈ i,Rd.xM v≠1/\Rd.xM v≠2:=by
     intro v d;obtain⟨a,b⟩:=cz _ _ h (Rd.yz v) (qR.2 ⟨v,d,rfl⟩);rw[Rd.BI v (f v d),a,b]
     decide
    refine⟨λr n=>?_,by rw[qg];omega,?_⟩
    ·rw[qR] at n;obtain⟨v,d,rfl⟩:=n;exact⟨WF v (g v d) m (f v d),WH m v (f v d)⟩
    ·rw[jw];exact Jt λv d=>WC v (f v d) (g v d)
theorem TR{r:Rd.Qq}(h:Ref.UI r):aJ (YD r):=
 ⟨h.eff,h.who,h.act,h.on,by show (r.cs.map toS).length<=5;rw[qg];exact h.len,λc e=>by
  rw[show (YD r).ifs=r.cs.map toS from rfl,qR] at e
  obtain⟨x,f,rfl⟩:=e;obtain⟨a,b,d⟩:=h.cs x f;exact⟨a,b,d⟩⟩
theorem bW{EL:Value}{T:TypeId}{y:Value}(a:EL = .iface T y){c:Int}{q:Nat}{u:Value}(h:QR EL c q u):(c=0/\u = .nilIface)\/(c≠0/\∃T y,u = .iface T y):=by
 cases h with
 | ok=>exact .inl ⟨rfl,rfl⟩
 | long=>exact .inr ⟨by decide,T,y,a⟩
 | text c q b=>
  refine .inr ⟨by unfold Rd.Code at b;omega,?_⟩;unfold ZE
  split
  ·exact⟨_,_,rfl⟩
  ·split
   ·exact⟨_,_,rfl⟩
   ·exact⟨_,_,rfl⟩
 | doc p=>exact .inr ⟨by decide,_,_,rfl⟩
 | shape n p=>exact .inr ⟨by decide,_,_,rfl⟩
 | pat n k=>exact .inr ⟨by decide,_,_,rfl⟩
namespace Kp
open Rd Ref
end Kp
end Go.Proofs.YtagnlbgbnfnapaaGreatDoor
namespace Go.Proofs.YtagnlbgbnfnapaaGreatDoor
open Go.Shelf
def Tryz.lays106_ren:Go.Shelf.Ren:=⟨λ|106=>110|213=>155|265=>195|n=>n,λ|9=>9|3=>3|n=>n,λ|n=>n⟩
theorem Tryz.lays106:Go.Proofs.Lays.n106 prog Tryz.lays106_ren:={
 mixed:=by kernel_rfl
 f106:=func110.trans (congrArg some (by kernel_rfl))
 f213:=func155.trans (congrArg some (by kernel_rfl))
 f265:=func195.trans (congrArg some (by kernel_rfl))
 t3:=underlying3
 a3:=Tryz.isAgg3
 z3:=Tryz.sizeOf3
 v3:=Tryz.zeroValue3
 t9:=underlying9
 a9:=Tryz.isAgg9
 z9:=Tryz.sizeOf9
 v9:=Tryz.zeroValue9 }
def Tryz.laysPu25_ren:Go.Shelf.Ren:=⟨λ|25=>111|n=>n,λ|9=>9|3=>3|4=>4|37=>181|0=>0|47=>301|5=>5|n=>n,λ|n=>n⟩
theorem Tryz.laysPu25:Go.Proofs.LaysPu.n25 prog Tryz.laysPu25_ren:={
 mixed:=by kernel_rfl
 f25:=func111.trans (congrArg some (by kernel_rfl))
 t0:=underlying0
 a0:=Tryz.isAgg0
 z0:=Tryz.sizeOf0
 v0:=Tryz.zeroValue0
 i0:=by kernel_rfl
 t3:=underlying3
 a3:=Tryz.isAgg3
 z3:=Tryz.sizeOf3
 v3:=Tryz.zeroValue3
 i3:=by kernel_rfl
 t4:=underlying4
 a4:=Tryz.isAgg4
 z4:=Tryz.sizeOf4
 v4:=Tryz.zeroValue4
 i4:=by kernel_rfl
 t5:=underlying5
 a5:=Tryz.isAgg5
 z5:=Tryz.sizeOf5
 v5:=Tryz.zeroValue5
 i5:=by kernel_rfl
 t9:=underlying9
 a9:=Tryz.isAgg9
 z9:=Tryz.sizeOf9
 v9:=Tryz.zeroValue9
 i9:=by kernel_rfl
 t37:=underlying181
 a37:=Tryz.isAgg181
 z37:=Tryz.sizeOf181
 v37:=Tryz.zeroValue181
 i37:=by kernel_rfl
 t47:=underlying301
 a47:=Tryz.isAgg301
 z47:=Tryz.sizeOf301
 v47:=Tryz.zeroValue301
 i47:=by kernel_rfl }
def Tryz.lays8grow_ren:Go.Shelf.Ren:=⟨λ|4=>112|n=>n,λ|22=>78|25=>156|3=>3|4=>4|9=>9|20=>20|0=>0|n=>n,λ|n=>n⟩
theorem Tryz.lays8grow:Go.Proofs.Lays8.n4 prog Tryz.lays8grow_ren:={
 mixed:=by kernel_rfl
 f4:=⟨Tryz.f112.name,by decide,func112.trans (congrArg some (by kernel_rfl))⟩
 t0:=underlying0
 a0:=Tryz.isAgg0
 z0:=Tryz.sizeOf0
 v0:=Tryz.zeroValue0
 t3:=underlying3
 a3:=Tryz.isAgg3
 z3:=Tryz.sizeOf3
 v3:=Tryz.zeroValue3
 t4:=underlying4
 a4:=Tryz.isAgg4
 z4:=Tryz.sizeOf4
 v4:=Tryz.zeroValue4
 t9:=underlying9
 a9:=Tryz.isAgg9
 z9:=Tryz.sizeOf9
 v9:=Tryz.zeroValue9
 t20:=underlying20
 a20:=Tryz.isAgg20
 z20:=Tryz.sizeOf20
 v20:=Tryz.zeroValue20
 t22:=underlying78
 a22:=Tryz.isAgg78
 z22:=Tryz.sizeOf78
 v22:=Tryz.zeroValue78 }
end Go.Proofs.YtagnlbgbnfnapaaGreatDoor
