/- P -/
import Derived.Test.YtdakgnaojakldaaGreatDoorG34
import Derived.Shelf.Small.Strs
import Derived.Shelf.Spec.SlicesGrow
import Derived.Shelf.Pu.Clone
open Go.Proofs.Tryz
set_option maxRecDepth 100000
set_option maxHeartbeats 1000000
namespace Go.Proofs.YtdakgnaojakldaaGreatDoor
open Go.RowKit
theorem rJ{L:Nat}:∀(a:List Rd.V) (l:List BA),(∀v ∈ a,Rd.Good L v)->Rd.jd a=some l->l.length=a.length/\∀s ∈ l,s.size<=L
 | [],l,_,h=>by simp only[Rd.jd,Option.some.injEq] at h;subst h;simp
 | v::a,l,hg,h=>by
  cases v with
  | str s=>
   simp only[Rd.jd] at h
   cases hr:Rd.jd a with
   | none=>rw[hr] at h;simp at h
   | some r=>
    rw[hr] at h;simp only[Option.map_some,Option.some.injEq] at h;subst h;obtain⟨d,e⟩:=rJ a r (λv f=>hg v (by simp[f])) hr;refine⟨by simp[d],λt c=>?_⟩
    rcases List.mem_cons.1 c with rfl|c
    ·have:=hg (.str t) (by simp)
     cases this with
     | str _ h=>exact h
    ·exact e t c
  | word b=>simp[Rd.jd] at h
  | list l=>simp[Rd.jd] at h
  | obj l=>simp[Rd.jd] at h
theorem XF{L:Nat}(i:L<=12000)(x:Option Rd.V)(e:∀v,x=some v->Rd.Good L v):Ref.vP ((Rd.zy x).getD [])/\((Rd.zy x).isSome=true->0<((Rd.zy x).getD []).length):=by
 match x with
 | none=>exact⟨⟨by simp[Rd.zy],by simp[Rd.zy]⟩,λh=>by simp[Rd.zy] at h⟩
 | some (.word b)=>exact⟨⟨by simp[Rd.zy],by simp[Rd.zy]⟩,λh=>by simp[Rd.zy] at h⟩
 | some (.obj ms)=>exact⟨⟨by simp[Rd.zy],by simp[Rd.zy]⟩,λh=>by simp[Rd.zy] at h⟩
 | some (.str s)=>
  have:=e _ rfl
  cases this with
  | str _ h=>exact⟨⟨by simp[Rd.zy],by simp[Rd.zy];omega⟩,λ_=>by simp[Rd.zy]⟩
 | some (.list vs)=>
  have:=e _ rfl
  cases this with
  | list _ g f=>
   simp only[Rd.zy]
   by_cases c:vs.length<1\/10<vs.length
   ·rw[if_pos c];exact⟨⟨by simp,by simp⟩,λh=>by simp at h⟩
   ·rw[if_neg c]
    cases d:Rd.jd vs with
    | none=>exact⟨⟨by simp,by simp⟩,λh=>by simp at h⟩
    | some l=>
     obtain⟨a,b⟩:=rJ vs l f d;simp only[Option.getD_some];exact⟨⟨by omega,λs d=>by have:=b s d;omega⟩,λ_=>by omega⟩
theorem UM{L:Nat}(a:L<=12000)(x:Option Rd.V)(d:∀v,x=some v->Rd.Good L v):Ref.vP (Rd.chD (Rd.yV x)).2:=by
 unfold Rd.chD
 match x with
 | none=>exact (XF a none (λv h=>by cases h)).1
 | some (.word b)=>exact (XF a _ d).1
 | some (.str s)=>exact (XF a _ d).1
 | some (.list vs)=>exact (XF a _ d).1
 | some (.obj ms)=>
  simp only[Rd.yV]
  by_cases c:Rd.zM ms [Ref.zS]=true/\ms.length=1
  ·rw[if_pos c];refine (XF a _ (λv g=>?_)).1
   have:=d _ rfl
   cases this with
   | obj _ i j k f=>
    have e:=List.mem_of_getElem? g;rw[List.mem_map] at e;obtain⟨m,e,rfl⟩:=e;exact f m e
  ·rw[if_neg c];exact⟨by simp,by simp⟩
theorem K4{L:Nat}{x:Option Rd.V}(a:∀v,x=some v->Rd.Good L v){s:BA}(h:Rd.opV x=some s):s.size<=L:=by
 unfold Rd.opV at h
 split at h
 ·injection h with h
  subst h
  have:=a _ rfl
  cases this with
  | str _ h=>exact h
 ·cases h
theorem BO{L:Nat}(g:L<=12000)(v:Rd.V)(c:Rd.Good L v):Ref.JO (Rd.qD v):=by
 have a:Ref.JO Ref.yQ:=⟨Nat.zero_le _,Nat.zero_le _,Nat.zero_le _,λs d=>by simp[Ref.yQ] at d⟩
 match v,c with
 | .str s,_=>exact a
 | .word b,_=>exact a
 | .list l,_=>exact a
 | .obj ms,c=>
  simp only[Rd.qD,Rd.QH]
  split
  ·rename_i op key e f;have i:=K4 (Rd.xA c Ref.bOp) e;have j:=K4 (Rd.xA c Ref.zm) f
   split
   ·exact⟨by simp only;omega,by simp only;omega,Nat.zero_le _,λs d=>by simp at d⟩
   ·obtain⟨h,_⟩:=XF g _ (Rd.xA c Ref.zo);exact⟨by simp only;omega,by simp only;omega,h.1,h.2⟩
  ·exact a
theorem Sm{L:Nat}(g:L<=12000)(v:Rd.V)(e:Rd.Good L v):Ref.XU (Rd.xG v):=by
 have d:Ref.XU Rd.vw:=⟨Nat.zero_le _,⟨Nat.zero_le _,λs f=>by simp[Rd.vw] at f⟩,⟨Nat.zero_le _,λs f=>by simp[Rd.vw] at f⟩,⟨Nat.zero_le _,λs f=>by simp[Rd.vw] at f⟩,Nat.zero_le _,λc a=>by simp[Rd.vw] at a⟩
 match v,e with
 | .str s,_=>exact d
 | .word b,_=>exact d
 | .list l,_=>exact d
 | .obj ms,e=>
  simp only[Rd.xG,Rd.YC]
  split
  ·rename_i eff n k;have o:=K4 (Rd.xA e Rd.zN) k
   have a:(Rd.qL (Rd.zf ms Rd.bIf)).cs.length<=5/\∀c ∈ (Rd.qL (Rd.zf ms Rd.bIf)).cs,Ref.JO c:=by
    have h:=Rd.xA e Rd.bIf
    match i:Rd.zf ms Rd.bIf with
    | none=>exact⟨Nat.zero_le _,λc a=>by simp[Rd.qL] at a⟩
    | some (.str s)=>exact⟨Nat.zero_le _,λc a=>by simp[Rd.qL] at a⟩
    | some (.word b)=>exact⟨Nat.zero_le _,λc a=>by simp[Rd.qL] at a⟩
    | some (.obj ms)=>exact⟨Nat.zero_le _,λc a=>by simp[Rd.qL] at a⟩
    | some (.list vs)=>
     have:=h _ i
     cases this with
     | list _ m j=>
      simp only[Rd.qL]
      split
      ·exact⟨Nat.zero_le _,λc a=>by simp at a⟩
      ·refine⟨by simp;omega,λc a=>?_⟩;simp only[List.mem_map] at a;obtain⟨x,i,rfl⟩:=a;exact BO g x (j x i)
   exact⟨by simp only[Rd.Yk];omega,UM g _ (Rd.xA e Rd.zT),UM g _ (Rd.xA e Rd.bDo),UM g _ (Rd.xA e Rd.bOn),a.1,a.2⟩
  ·exact d
theorem BK(v:Rd.V)(h:Rd.condC v≠1){L:Nat}(i:L<=12000)(f:Rd.Good L v):Ref.xq (Rd.qD v).op=decide ((Rd.qD v).vals.length=0):=by
 have g:=Rd.eZ v
 have a:(Rd.qD v).sh=false:=by
  cases e:(Rd.qD v).sh with
  | false=>rfl
  | true=>rw[e] at g;exact absurd g h
 match v,f with
 | .str s,_=>exact absurd a (by simp[Rd.qD,Ref.yQ])
 | .word b,_=>exact absurd a (by simp[Rd.qD,Ref.yQ])
 | .list l,_=>exact absurd a (by simp[Rd.qD,Ref.yQ])
 | .obj ms,f=>
  obtain⟨R,c⟩:=Nm (Rd.qD (.obj ms));rw[c] at a |-;simp only[Rd.qD,Rd.QH] at c
  cases h1:Rd.opV (Rd.zf ms Ref.bOp) with
  | none=>rw[h1] at c;subst c;simp[Ref.yQ] at a
  | some op=>
   rw[h1] at c
   cases h2:Rd.opV (Rd.zf ms Ref.zm) with
   | none=>rw[h2] at c;subst c;simp[Ref.yQ] at a
   | some key=>
    rw[h2] at c;simp only at c
    by_cases ca:Ref.xq op=true
    ·rw[if_pos ca] at c;subst c;simp[ca]
    ·rw[if_neg ca] at c;subst c;simp only[Bool.or_eq_false_iff,Bool.not_eq_false'] at a
     have:=(XF i _ (Rd.xA f Ref.zo)).2 a.1.1.2.1
     have d:Ref.xq op=false:=by simpa using ca
     simp only[d];symm;simp only[decide_eq_false_iff_not];omega
theorem Sj(v:Rd.V)(h:Rd.qN v≠1/\Rd.qN v≠2){L:Nat}(m:L<=12000)(f:Rd.Good L v):YL (Rd.xG v):=by
 match v,f with
 | .str s,_=>exact absurd rfl h.1
 | .word b,_=>exact absurd rfl h.1
 | .list l,_=>exact absurd rfl h.1
 | .obj ms,f=>
  simp only[Rd.qN] at h;simp only[Rd.xG,Rd.YC]
  split
  ·rename_i eff k p;rw[k] at h;simp only[if_true] at h
   have n:Rd.zW [Rd.zQ Rd.xL (Rd.zf ms Rd.zN),Rd.chC (Rd.zf ms Rd.zT),Rd.chC (Rd.zf ms Rd.bDo),Rd.chC (Rd.zf ms Rd.bOn),Rd.yz (Rd.zf ms Rd.bIf)]=0:=by
    have:=Rd.Ya [Rd.zQ Rd.xL (Rd.zf ms Rd.zN),Rd.chC (Rd.zf ms Rd.zT),Rd.chC (Rd.zf ms Rd.bDo),Rd.chC (Rd.zf ms Rd.bOn),Rd.yz (Rd.zf ms Rd.bIf)]
    omega
   have e:=(Jc n) (Rd.yz (Rd.zf ms Rd.bIf)) (by simp);have g:=Rd.xA f Rd.bIf;intro c a;simp only[Rd.Yk] at a
   match hx:Rd.zf ms Rd.bIf with
   | none=>rw[hx] at a;simp[Rd.qL] at a
   | some (.str s)=>rw[hx] at a;simp[Rd.qL] at a
   | some (.word b)=>rw[hx] at a;simp[Rd.qL] at a
   | some (.obj ms)=>rw[hx] at a;simp[Rd.qL] at a
   | some (.list vs)=>
    rw[hx] at a e
    have:=g _ hx
    cases this with
    | list _ o j=>
     simp only[Rd.qL,Rd.yz] at a e
     by_cases c5:5<vs.length
     ·rw[if_pos c5] at a;simp at a
     ·rw[if_neg c5] at a e
      have i:Rd.zW (vs.map Rd.condC)=0:=by
       have:=Rd.Ya (vs.map Rd.condC)
       omega
      simp only[List.mem_map] at a;obtain⟨x,d,rfl⟩:=a;exact BK x ((Jc i) _ (List.mem_map.2 ⟨x,d,rfl⟩)).1 m (j x d)
  ·intro c a;simp[Rd.vw] at a
def vI(s:BA):List Rd.qC:=if 4000<s.size then [] else match Rd.xD s.data.toList with
 | .ok v _=>(qd (stX v)).map Rd.xG
 | .err _ _=>[]
theorem Kc:∀(rs:List Rd.qC) (i:Nat),(Rd.Qg rs i).1=0->∀r ∈ rs,r.sh=false/\r.pt=false
 | [],_,_,r,hr=>by simp at hr
 | x::xs,i,h,r,hr=>by
  unfold Rd.Qg at h
  split at h
  ·simp at h
  rename_i a
  split at h
  ·simp at h
  rename_i b
  rcases List.mem_cons.1 hr with rfl|hr
  ·exact⟨by simpa using a,by simpa using b⟩
  ·exact Kc xs (i+1) h r hr
theorem rD(s:BA)(h:(Rd.xS s).1=0):(∀r ∈ vI s,YL r/\Ref.XU r)/\(vI s).length<=10/\(if 4000<s.size then [] else match Rd.xD s.data.toList with
 | .ok v _=>(qd (stX v)).map xk
 | .err _ _=>[])=(vI s).map jI:=by
 unfold Rd.xS at h;unfold vI
 by_cases h1:4000<s.size
 ·rw[if_pos h1] at h;simp at h
 rw[if_neg h1] at h;rw[if_neg h1,if_neg h1]
 cases hm:Rd.xD s.data.toList with
 | err e q=>
  rw[hm] at h
  have:=Rd.oH hm
  unfold Rd.Code at this;simp only at h;omega
 | ok v q=>
  rw[hm] at h;simp only at h |-;have j:=Rd.Yz hm;have m:s.data.toList.length<=12000:=by rw[Ref.zz];omega
  match v,j with
  | .str t,_=>simp[Rd.uu] at h
  | .word b,_=>simp[Rd.uu] at h
  | .list l,_=>simp[Rd.uu] at h
  | .obj ms,j=>
   simp only[Rd.uu] at h
   match hx:Rd.zf ms Rd.yU with
   | none=>rw[hx] at h;simp at h
   | some (.str t)=>rw[hx] at h;simp at h
   | some (.word b)=>rw[hx] at h;simp at h
   | some (.obj ms)=>rw[hx] at h;simp at h
   | some (.list i)=>
    rw[hx] at h;simp only at h;have d:qd (stX (.obj ms))=i:=by simp[qd,stX,hx]
    rw[d]
    by_cases c:ms.length≠1\/i.length<1\/10<i.length
    ·rw[if_pos c] at h;simp at h
    rw[if_neg c] at h;have k:=Rd.xA j Rd.yU _ hx
    have f:∀v ∈ i,Rd.Good s.data.toList.length v:=by
     cases k with
     | list _ p o=>exact o
    have g:∀v ∈ i,Rd.qN v≠1/\Rd.qN v≠2:=by
     intro v d;obtain⟨a,b⟩:=Kc _ _ h (Rd.xG v) (List.mem_map.2 ⟨v,d,rfl⟩);rw[Rd.pW v (f v d),a,b]
     decide
    refine⟨λr n=>?_,by rw[List.length_map];omega,?_⟩
    ·rw[List.mem_map] at n;obtain⟨v,d,rfl⟩:=n;exact⟨Sj v (g v d) m (f v d),Sm m v (f v d)⟩
    ·rw[List.map_map];exact List.map_congr_left λv d=>Sg v (f v d) (g v d)
theorem rz{s:zw}(h:QA s):(xh s).size<=11000000:=by
 have q:=Ref.QS s.eff;have e:=h.eff;have c1:=Ref.X0 h.who;have c2:=Ref.X0 h.act;have c3:=Ref.X0 h.on;have c4:=fF h.len h.cs;rw[Va] at c1 c2 c3;have b:(⟨#[123,34,101,102,102,101,99,116,34,58]⟩:BA).size=10:=rfl;have c:(⟨#[44,34,119,104,111,34,58]⟩:BA).size=7:=rfl;have d:(⟨#[44,34,100,111,34,58]⟩:BA).size=6:=rfl;have f:(⟨#[44,34,111,110,34,58]⟩:BA).size=6:=rfl;have g:(⟨#[44,34,105,102,34,58]⟩:BA).size=6:=rfl;have i:(⟨#[125]⟩:BA).size=1:=rfl
 have hb:(⟨#[123,34,101,102,102,101,99,116,34,58]⟩++Ref.zG s.eff++(⟨#[44,34,119,104,111,34,58]⟩++yg s.who)++(⟨#[44,34,100,111,34,58]⟩++yg s.act)++(⟨#[44,34,111,110,34,58]⟩++yg s.on)).size<=3000000:=by
  simp only[ByteArray.size_append];omega
 unfold xh;rw[ByteArray.size_append]
 split
 ·rw[ByteArray.size_append,ByteArray.size_append (a:=⟨#[44,34,105,102,34,58]⟩)];omega
 ·omega
theorem Sl:∀args w,(callFunc 63 args).run prog w = .ok (.enter 63 args) w:=enters_of func63 (by kernel_rfl) rfl
theorem NZ(b:List zw)(lv:Value)(base:Nat)(w:World)(h:yc w base lv b)(z:b.length<=10)(o:∀s ∈ b,QA s) :
  Calls prog 62 #[lv,.func (.func 63) #[] #[]] w λe K=>e = .returned (.string (qX (b.map xh)))/\Below w.heap.size w K:=by
 have c1:=Ls b lv base 63 xh w h (by omega) Sl (λW s A B C D p _ F G H I=>NY s A B C D base W F G H I (o s p))
 have r:∀x ∈ b.map xh,x.size<=11000000:=by
  intro x k;rw[List.mem_map] at k;obtain⟨s,p,rfl⟩:=k;exact rz (o s p)
 have t:=Vx _ _ r;rw[List.length_map] at t
 have q:(yC (b.map xh)).size<=200000000:=by
  have:b.length*(11000000+1)<=10*(11000000+1):=Nat.mul_le_mul_right _ z
  omega
 have c2:=λW i (j:zx W w.heap.size i (b.map xh))=>KA (b.map xh) i w.heap.size W j (by rw[List.length_map];omega) (by omega);unfold qX;obtain⟨J,m⟩:=Nm (yC (b.map xh));rw[m] at q |-;simp only[m] at c2;obtain⟨M,n⟩:=Nm (b.map xh);rw[n] at c1;simp only[n] at c2;have u:=hid c1;have v:=hid c2
 obtain⟨a,c,rfl⟩:∃a c,lv = .slice a b.length c:=by
  obtain⟨xs,k,_⟩:=h
  rcases k.2 with ⟨rfl,h0⟩|⟨gb,c,cur,rfl,_⟩
  ·exact⟨_,_,by rw[h0]⟩
  ·exact⟨_,_,rfl⟩
 clear c1 c2 m n r t h o;go_enter func62,ntmps62
 go_wp2_with (first
  | (go_at_call 113;refine (v.out L _ y.out).mono ?_;rintro e N ⟨rfl,g⟩;have l:=hid (d.out.trans (g.mono d.out.size));clear g)
  | (go_at_call 114;refine u.out.mono ?_;rintro e L ⟨E,rfl,j,f⟩;have y:=hid j;have d:=hid f;clear j f))
 go_ret;exact⟨rfl,l.out⟩
theorem IZ{a:List zw}(d:a.length<=10)(c:∀s ∈ a,QA s):(qX (a.map xh)).size<=200000000:=by
 have:=lm (a.map xh) 11000000 10 (λx b=>by
  rw[List.mem_map] at b;obtain⟨s,e,rfl⟩:=b;exact rz (c s e)) (by rw[List.length_map];exact d)
 omega
theorem NT(b:List zw)(lv:Value)(base:Nat)(w:World)(h:yc w base lv b)(m:b.length<=10)(k:∀s ∈ b,QA s) :
  Calls prog 35 #[.agg #[lv]] w λe t=>e = .returned (.string (yA b))/\Below w.heap.size w t:=by
 have f:∀O:Obj,Below w.heap.size w (w.alloc O):=λO=>nB w O;have r:=IZ m k
 have c1:=λO:Obj=>NZ b lv base (w.alloc O) (by
  obtain⟨xs,l,p⟩:=h;exact⟨xs,ownsRow_below l (f O),λj q=>(p j q).below (f O)⟩) m k
 unfold yA;obtain⟨J,i⟩:=Nm (qX (b.map xh));rw[i] at r |-;simp only[i] at c1;have o:=hid c1;have n:=hid f
 obtain⟨a,c,rfl⟩:∃a c,lv = .slice a b.length c:=by
  obtain⟨xs,l,_⟩:=h
  rcases l.2 with ⟨rfl,h0⟩|⟨gb,c,cur,rfl,_⟩
  ·exact⟨_,_,by rw[h0]⟩
  ·exact⟨_,_,rfl⟩
 clear c1 i h k f;go_enter func35,ntmps35;go_wp2_with fail;refine (o.out _).mono ?_;rintro e u ⟨rfl,d⟩;have g:=hid ((n.out _).trans (d.mono (by simp)));clear d
 go_wp2
 go_ret;exact⟨rfl,g.out⟩
theorem Rt{r:Rd.qC}(h:Ref.XU r):QA (jI r):=
 ⟨h.eff,h.who,h.act,h.on,by show (r.cs.map toS).length<=5;rw[List.length_map];exact h.len,λc e=>by
  rw[show (jI r).ifs=r.cs.map toS from rfl,List.mem_map] at e
  obtain⟨x,f,rfl⟩:=e;obtain⟨a,b,d⟩:=h.cs x f;exact⟨a,b,d⟩⟩
theorem U8{EL:Value}{T:TypeId}{y:Value}(a:EL = .iface T y){c:Int}{q:Nat}{u:Value}(h:uM EL c q u):(c=0/\u = .nilIface)\/(c≠0/\∃T y,u = .iface T y):=by
 cases h with
 | ok=>exact .inl ⟨rfl,rfl⟩
 | long=>exact .inr ⟨by decide,T,y,a⟩
 | text c q b=>
  refine .inr ⟨by unfold Rd.Code at b;omega,?_⟩;unfold uy
  split
  ·exact⟨_,_,rfl⟩
  ·split
   ·exact⟨_,_,rfl⟩
   ·exact⟨_,_,rfl⟩
 | doc p=>exact .inr ⟨by decide,_,_,rfl⟩
 | shape n p=>exact .inr ⟨by decide,_,_,rfl⟩
 | pat n k=>exact .inr ⟨by decide,_,_,rfl⟩
namespace Kp
open Rd Ref
end Kp
end Go.Proofs.YtdakgnaojakldaaGreatDoor
namespace Go.Proofs.YtdakgnaojakldaaGreatDoor
open Go.Shelf
def Tryz.lays106_ren:Go.Shelf.Ren:=⟨λ|106=>136|213=>186|265=>224|n=>n,λ|9=>9|3=>3|n=>n,λ|n=>n⟩
theorem Tryz.lays106:Go.Proofs.Lays.n106 prog Tryz.lays106_ren:={
 mixed:=by kernel_rfl
 f106:=func136.trans (congrArg some (by kernel_rfl))
 f213:=func186.trans (congrArg some (by kernel_rfl))
 f265:=func224.trans (congrArg some (by kernel_rfl))
 t3:=underlying3
 a3:=Tryz.isAgg3
 z3:=Tryz.sizeOf3
 v3:=Tryz.zeroValue3
 t9:=underlying9
 a9:=Tryz.isAgg9
 z9:=Tryz.sizeOf9
 v9:=Tryz.zeroValue9 }
def Tryz.laysPu25_ren:Go.Shelf.Ren:=⟨λ|25=>137|n=>n,λ|9=>9|3=>3|4=>4|37=>256|0=>0|47=>322|5=>5|n=>n,λ|n=>n⟩
theorem Tryz.laysPu25:Go.Proofs.LaysPu.n25 prog Tryz.laysPu25_ren:={
 mixed:=by kernel_rfl
 f25:=func137.trans (congrArg some (by kernel_rfl))
 t0:=underlying0
 a0:=Tryz.isAgg0
 z0:=Tryz.sizeOf0
 v0:=Tryz.zeroValue0
 i0:=by kernel_rfl
 t3:=underlying3
 a3:=Tryz.isAgg3
 z3:=Tryz.sizeOf3
 v3:=Tryz.zeroValue3
 i3:=by kernel_rfl
 t4:=underlying4
 a4:=Tryz.isAgg4
 z4:=Tryz.sizeOf4
 v4:=Tryz.zeroValue4
 i4:=by kernel_rfl
 t5:=underlying5
 a5:=Tryz.isAgg5
 z5:=Tryz.sizeOf5
 v5:=Tryz.zeroValue5
 i5:=by kernel_rfl
 t9:=underlying9
 a9:=Tryz.isAgg9
 z9:=Tryz.sizeOf9
 v9:=Tryz.zeroValue9
 i9:=by kernel_rfl
 t37:=underlying256
 a37:=Tryz.isAgg256
 z37:=Tryz.sizeOf256
 v37:=Tryz.zeroValue256
 i37:=by kernel_rfl
 t47:=underlying322
 a47:=Tryz.isAgg322
 z47:=Tryz.sizeOf322
 v47:=Tryz.zeroValue322
 i47:=by kernel_rfl }
def Tryz.lays8grow_ren:Go.Shelf.Ren:=⟨λ|4=>138|n=>n,λ|22=>98|25=>187|3=>3|4=>4|9=>9|20=>20|0=>0|n=>n,λ|n=>n⟩
theorem Tryz.lays8grow:Go.Proofs.Lays8.n4 prog Tryz.lays8grow_ren:={
 mixed:=by kernel_rfl
 f4:=⟨Tryz.f138.name,by decide,func138.trans (congrArg some (by kernel_rfl))⟩
 t0:=underlying0
 a0:=Tryz.isAgg0
 z0:=Tryz.sizeOf0
 v0:=Tryz.zeroValue0
 t3:=underlying3
 a3:=Tryz.isAgg3
 z3:=Tryz.sizeOf3
 v3:=Tryz.zeroValue3
 t4:=underlying4
 a4:=Tryz.isAgg4
 z4:=Tryz.sizeOf4
 v4:=Tryz.zeroValue4
 t9:=underlying9
 a9:=Tryz.isAgg9
 z9:=Tryz.sizeOf9
 v9:=Tryz.zeroValue9
 t20:=underlying20
 a20:=Tryz.isAgg20
 z20:=Tryz.sizeOf20
 v20:=Tryz.zeroValue20
 t22:=underlying98
 a22:=Tryz.isAgg98
 z22:=Tryz.sizeOf98
 v22:=Tryz.zeroValue98 }
end Go.Proofs.YtdakgnaojakldaaGreatDoor
