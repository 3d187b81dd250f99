/- P -/
import Derived.Test.YtagnlbgbnfnapaaGreatDoorK28
open Go.Proofs.Tryz
set_option maxRecDepth 100000
set_option maxHeartbeats 1000000
namespace Go.Proofs.YtagnlbgbnfnapaaGreatDoor
open Go.RowKit
theorem sU{L:Nat}:∀(a:List Rd.V) (l:List BY),(∀v ∈ a,Rd.Good L v)->Rd.jR a=some l->l.length=a.length/\∀s ∈ l,s.size<=L
 | [],l,_,h=>by simp only[Rd.jR,Option.some.injEq] at h;subst h;simp
 | v::a,l,hg,h=>by
  cases v with
  | str s=>
   simp only[Rd.jR] at h
   cases hr:Rd.jR a with
   | none=>rw[hr] at h;simp at h
   | some r=>
    rw[hr] at h;simp only[Xg,Option.some.injEq] at h;subst h;obtain⟨d,e⟩:=sU a r (λv f=>hg v (by simp[f])) hr;refine⟨by simp[d],λt c=>?_⟩
    rcases Qc.1 c with rfl|c
    ·have:=hg (.str t) (by simp)
     cases this with
     | str _ h=>exact h
    ·exact e t c
  | word b=>simp[Rd.jR] at h
  | list l=>simp[Rd.jR] at h
  | obj l=>simp[Rd.jR] at h
theorem Yo{L:Nat}(i:L<=12000)(x:Option Rd.V)(e:∀v,x=some v->Rd.Good L v):Ref.uI ((Rd.zI x).getD [])/\((Rd.zI x).isSome=true->0<((Rd.zI x).getD []).length):=by
 match x with
 | none=>exact⟨⟨by simp[Rd.zI],by simp[Rd.zI]⟩,λh=>by simp[Rd.zI] at h⟩
 | some (.word b)=>exact⟨⟨by simp[Rd.zI],by simp[Rd.zI]⟩,λh=>by simp[Rd.zI] at h⟩
 | some (.obj ms)=>exact⟨⟨by simp[Rd.zI],by simp[Rd.zI]⟩,λh=>by simp[Rd.zI] at h⟩
 | some (.str s)=>
  have:=e _ rfl
  cases this with
  | str _ h=>exact⟨⟨by simp[Rd.zI],by simp[Rd.zI];omega⟩,λ_=>by simp[Rd.zI]⟩
 | some (.list vs)=>
  have:=e _ rfl
  cases this with
  | list _ g f=>
   simp only[Rd.zI]
   by_cases c:vs.length<1\/10<vs.length
   ·rw[zb c];exact⟨⟨by simp,by simp⟩,λh=>by simp at h⟩
   ·rw[za c]
    cases d:Rd.jR vs with
    | none=>exact⟨⟨by simp,by simp⟩,λh=>by simp at h⟩
    | some l=>
     obtain⟨a,b⟩:=sU vs l f d;simp only[QD];exact⟨⟨by omega,λs d=>by have:=b s d;omega⟩,λ_=>by omega⟩
theorem K5{L:Nat}(a:L<=12000)(x:Option Rd.V)(d:∀v,x=some v->Rd.Good L v):Ref.uI (Rd.chD (Rd.jM x)).2:=by
 unfold Rd.chD
 match x with
 | none=>exact (Yo a none (λv h=>by cases h)).1
 | some (.word b)=>exact (Yo a _ d).1
 | some (.str s)=>exact (Yo a _ d).1
 | some (.list vs)=>exact (Yo a _ d).1
 | some (.obj ms)=>
  simp only[Rd.jM]
  by_cases c:Rd.qf ms [Ref.qM]=true/\ms.length=1
  ·rw[zb c];refine (Yo a _ (λv g=>?_)).1
   have:=d _ rfl
   cases this with
   | obj _ i j k f=>
    have e:=qL g;rw[xR] at e;obtain⟨m,e,rfl⟩:=e;exact f m e
  ·rw[za c];exact⟨by simp,by simp⟩
theorem bN{L:Nat}{x:Option Rd.V}(a:∀v,x=some v->Rd.Good L v){s:BY}(h:Rd.opV x=some s):s.size<=L:=by
 unfold Rd.opV at h
 split at h
 ·injection h with h
  subst h
  have:=a _ rfl
  cases this with
  | str _ h=>exact h
 ·cases h
theorem Ca{L:Nat}(g:L<=12000)(v:Rd.V)(c:Rd.Good L v):Ref.Xi (Rd.qX v):=by
 have a:Ref.Xi Ref.yf:=⟨zG _,zG _,zG _,λs d=>by simp[Ref.yf] at d⟩
 match v,c with
 | .str s,_=>exact a
 | .word b,_=>exact a
 | .list l,_=>exact a
 | .obj ms,c=>
  simp only[Rd.qX,Rd.Xm]
  split
  ·rename_i op key e f;have i:=bN (Rd.yx c Ref.bOp) e;have j:=bN (Rd.yx c Ref.zD) f
   split
   ·exact⟨by simp only;omega,by simp only;omega,zG _,λs d=>by simp at d⟩
   ·obtain⟨h,_⟩:=Yo g _ (Rd.yx c Ref.zB);exact⟨by simp only;omega,by simp only;omega,h.1,h.2⟩
  ·exact a
theorem Rn{L:Nat}(g:L<=12000)(v:Rd.V)(e:Rd.Good L v):Ref.ky (Rd.xP v):=by
 have d:Ref.ky Rd.ji:=⟨zG _,⟨zG _,λs f=>by simp[Rd.ji] at f⟩,⟨zG _,λs f=>by simp[Rd.ji] at f⟩,⟨zG _,λs f=>by simp[Rd.ji] at f⟩,zG _,λc a=>by simp[Rd.ji] at a⟩
 match v,e with
 | .str s,_=>exact d
 | .word b,_=>exact d
 | .list l,_=>exact d
 | .obj ms,e=>
  simp only[Rd.xP,Rd.XB]
  split
  ·rename_i eff n k;have o:=bN (Rd.yx e Rd.zH) k
   have a:(Rd.xw (Rd.zm ms Rd.bIf)).cs.length<=5/\∀c ∈ (Rd.xw (Rd.zm ms Rd.bIf)).cs,Ref.Xi c:=by
    have h:=Rd.yx e Rd.bIf
    match i:Rd.zm ms Rd.bIf with
    | none=>exact⟨zG _,λc a=>by simp[Rd.xw] at a⟩
    | some (.str s)=>exact⟨zG _,λc a=>by simp[Rd.xw] at a⟩
    | some (.word b)=>exact⟨zG _,λc a=>by simp[Rd.xw] at a⟩
    | some (.obj ms)=>exact⟨zG _,λc a=>by simp[Rd.xw] at a⟩
    | some (.list vs)=>
     have:=h _ i
     cases this with
     | list _ m j=>
      simp only[Rd.xw]
      split
      ·exact⟨zG _,λc a=>by simp at a⟩
      ·refine⟨by simp;omega,λc a=>?_⟩;simp only[xR] at a;obtain⟨x,i,rfl⟩:=a;exact Ca g x (j x i)
   exact⟨by simp only[Rd.QT];omega,K5 g _ (Rd.yx e Rd.zS),K5 g _ (Rd.yx e Rd.bDo),K5 g _ (Rd.yx e Rd.bOn),a.1,a.2⟩
  ·exact d
theorem BU(v:Rd.V)(h:Rd.condC v≠1){L:Nat}(i:L<=12000)(f:Rd.Good L v):Ref.xO (Rd.qX v).op=decide ((Rd.qX v).vals.length=0):=by
 have g:=Rd.iE v
 have a:(Rd.qX v).sh=false:=by
  cases e:(Rd.qX v).sh with
  | false=>rfl
  | true=>rw[e] at g;exact absurd g h
 match v,f with
 | .str s,_=>exact absurd a (by simp[Rd.qX,Ref.yf])
 | .word b,_=>exact absurd a (by simp[Rd.qX,Ref.yf])
 | .list l,_=>exact absurd a (by simp[Rd.qX,Ref.yf])
 | .obj ms,f=>
  obtain⟨R,c⟩:=Nm (Rd.qX (.obj ms));rw[c] at a |-;simp only[Rd.qX,Rd.Xm] at c
  cases h1:Rd.opV (Rd.zm ms Ref.bOp) with
  | none=>rw[h1] at c;subst c;simp[Ref.yf] at a
  | some op=>
   rw[h1] at c
   cases h2:Rd.opV (Rd.zm ms Ref.zD) with
   | none=>rw[h2] at c;subst c;simp[Ref.yf] at a
   | some key=>
    rw[h2] at c;simp only at c
    by_cases ca:Ref.xO op=true
    ·rw[zb ca] at c;subst c;simp[ca]
    ·rw[za ca] at c;subst c;simp only[eO,U3] at a
     have:=(Yo i _ (Rd.yx f Ref.zB)).2 a.1.1.2.1
     have d:Ref.xO op=false:=by simpa using ca
     simp only[d];symm;simp only[af];omega
theorem Rj(v:Rd.V)(h:Rd.yu v≠1/\Rd.yu v≠2){L:Nat}(m:L<=12000)(f:Rd.Good L v):Jo (Rd.xP v):=by
 match v,f with
 | .str s,_=>exact absurd rfl h.1
 | .word b,_=>exact absurd rfl h.1
 | .list l,_=>exact absurd rfl h.1
 | .obj ms,f=>
  simp only[Rd.yu] at h;simp only[Rd.xP,Rd.XB]
  split
  ·rename_i eff k p;rw[k] at h;simp only[xy] at h
   have n:Rd.qE [Rd.qb Rd.xX (Rd.zm ms Rd.zH),Rd.chC (Rd.zm ms Rd.zS),Rd.chC (Rd.zm ms Rd.bDo),Rd.chC (Rd.zm ms Rd.bOn),Rd.jW (Rd.zm ms Rd.bIf)]=0:=by
    have:=Rd.YS [Rd.qb Rd.xX (Rd.zm ms Rd.zH),Rd.chC (Rd.zm ms Rd.zS),Rd.chC (Rd.zm ms Rd.bDo),Rd.chC (Rd.zm ms Rd.bOn),Rd.jW (Rd.zm ms Rd.bIf)]
    omega
   have e:=(JU n) (Rd.jW (Rd.zm ms Rd.bIf)) (by simp);have g:=Rd.yx f Rd.bIf;intro c a;simp only[Rd.QT] at a
   match hx:Rd.zm ms Rd.bIf with
   | none=>rw[hx] at a;simp[Rd.xw] at a
   | some (.str s)=>rw[hx] at a;simp[Rd.xw] at a
   | some (.word b)=>rw[hx] at a;simp[Rd.xw] at a
   | some (.obj ms)=>rw[hx] at a;simp[Rd.xw] at a
   | some (.list vs)=>
    rw[hx] at a e
    have:=g _ hx
    cases this with
    | list _ o j=>
     simp only[Rd.xw,Rd.jW] at a e
     by_cases c5:5<vs.length
     ·rw[zb c5] at a;simp at a
     ·rw[za c5] at a e
      have i:Rd.qE (vs.map Rd.condC)=0:=by
       have:=Rd.YS (vs.map Rd.condC)
       omega
      simp only[xR] at a;obtain⟨x,d,rfl⟩:=a;exact BU x ((JU i) _ (xR.2 ⟨x,d,rfl⟩)).1 m (j x d)
  ·intro c a;simp[Rd.ji] at a
def jH(s:BY):List Rd.qa:=if 4000<s.size then [] else match Rd.yC s.data.toList with
 | .ok v _=>(qo (stX v)).map Rd.xP
 | .err _ _=>[]
theorem az:∀(rs:List Rd.qa) (i:Nat),(Rd.kL rs i).1=0->∀r ∈ rs,r.sh=false/\r.pt=false
 | [],_,_,r,hr=>by simp at hr
 | x::xs,i,h,r,hr=>by
  unfold Rd.kL at h
  split at h
  ·simp at h
  rename_i a
  split at h
  ·simp at h
  rename_i b
  rcases Qc.1 hr with rfl|hr
  ·exact⟨by simpa using a,by simpa using b⟩
  ·exact az xs (i+1) h r hr
theorem sJ(s:BY)(h:(Rd.xe s).1=0):(∀r ∈ jH s,Jo r/\Ref.ky r)/\(jH s).length<=10/\(if 4000<s.size then [] else match Rd.yC s.data.toList with
 | .ok v _=>(qo (stX v)).map jm
 | .err _ _=>[])=(jH s).map vk:=by
 unfold Rd.xe at h;unfold jH
 by_cases h1:4000<s.size
 ·rw[zb h1] at h;simp at h
 rw[za h1] at h;rw[za h1,za h1]
 cases hm:Rd.yC s.data.toList with
 | err e q=>
  rw[hm] at h
  have:=Rd.UH hm
  unfold Rd.Code at this;simp only at h;omega
 | ok v q=>
  rw[hm] at h;simp only at h |-;have j:=Rd.UI hm;have m:s.data.toList.length<=12000:=by rw[Ref.zA];omega
  match v,j with
  | .str t,_=>simp[Rd.jX] at h
  | .word b,_=>simp[Rd.jX] at h
  | .list l,_=>simp[Rd.jX] at h
  | .obj ms,j=>
   simp only[Rd.jX] at h
   match hx:Rd.zm ms Rd.yF with
   | none=>rw[hx] at h;simp at h
   | some (.str t)=>rw[hx] at h;simp at h
   | some (.word b)=>rw[hx] at h;simp at h
   | some (.obj ms)=>rw[hx] at h;simp at h
   | some (.list i)=>
    rw[hx] at h;simp only at h;have d:qo (stX (.obj ms))=i:=by simp[qo,stX,hx]
    rw[d]
    by_cases c:ms.length≠1\/i.length<1\/10<i.length
    ·rw[zb c] at h;simp at h
    rw[za c] at h;have k:=Rd.yx j Rd.yF _ hx
    have f:∀v ∈ i,Rd.Good s.data.toList.length v:=by
     cases k with
     | list _ p o=>exact o
    have g:∀v ∈ i,Rd.yu v≠1/\Rd.yu v≠2:=by
     intro v d;obtain⟨a,b⟩:=az _ _ h (Rd.xP v) (xR.2 ⟨v,d,rfl⟩);rw[Rd.sG v (f v d),a,b]
     decide
    refine⟨λr n=>?_,by rw[qB];omega,?_⟩
    ·rw[xR] at n;obtain⟨v,d,rfl⟩:=n;exact⟨Rj v (g v d) m (f v d),Rn m v (f v d)⟩
    ·rw[ui];exact Kn λv d=>Ri v (f v d) (g v d)
theorem sH{s:qp}(h:XR s):(jG s).size<=11000000:=by
 have q:=Ref.ut s.eff;have e:=h.eff;have c1:=Ref.Zh h.who;have c2:=Ref.Zh h.act;have c3:=Ref.Zh h.on;have c4:=iI h.len h.cs;rw[VY] at c1 c2 c3;have b:(⟨#[123,34,101,102,102,101,99,116,34,58]⟩:BY).size=10:=rfl;have c:(⟨#[44,34,119,104,111,34,58]⟩:BY).size=7:=rfl;have d:(⟨#[44,34,100,111,34,58]⟩:BY).size=6:=rfl;have f:(⟨#[44,34,111,110,34,58]⟩:BY).size=6:=rfl;have g:(⟨#[44,34,105,102,34,58]⟩:BY).size=6:=rfl;have i:(⟨#[125]⟩:BY).size=1:=rfl
 have hb:(⟨#[123,34,101,102,102,101,99,116,34,58]⟩++Ref.zV s.eff++(⟨#[44,34,119,104,111,34,58]⟩++ZG s.who)++(⟨#[44,34,100,111,34,58]⟩++ZG s.act)++(⟨#[44,34,111,110,34,58]⟩++ZG s.on)).size<=3000000:=by
  simp only[zJ];omega
 unfold jG;rw[zJ]
 split
 ·rw[zJ,zJ (a:=⟨#[44,34,105,102,34,58]⟩)];omega
 ·omega
theorem Rl:∀args w,(callFunc 130 args).run prog w = .ok (.enter 130 args) w:=xg func130 (by kernel_rfl) rfl
theorem NA(b:List qp)(lv:Value)(base:Nat)(w:World)(h:jc w base lv b)(z:b.length<=10)(o:∀s ∈ b,XR s) :
  Calls prog 129 #[lv,.func (.func 130) #[] #[]] w λe w'=>e = .returned (.string (jP (b.map jG)))/\Below w.heap.size w w':=by
 have c1:=Lv b lv base 130 jG w h (by omega) Rl (λW s A B C D p _ F G H I=>Nz s A B C D base W F G H I (o s p))
 have r:∀x ∈ b.map jG,x.size<=11000000:=by
  intro x k;rw[xR] at k;obtain⟨s,p,rfl⟩:=k;exact sH (o s p)
 have t:=Ug _ _ r;rw[qB] at t
 have q:(jD (b.map jG)).size<=200000000:=by
  have:b.length*(11000000+1)<=10*(11000000+1):=Ju _ z
  omega
 have c2:=λW i (j:zz W w.heap.size i (b.map jG))=>aX (b.map jG) i w.heap.size W j (by rw[qB];omega) (by omega);unfold jP;obtain⟨J,m⟩:=Nm (jD (b.map jG));rw[m] at q |-;simp only[m] at c2;obtain⟨M,n⟩:=Nm (b.map jG);rw[n] at c1;simp only[n] at c2;have u:=hid c1;have v:=hid c2
 obtain⟨a,c,rfl⟩:∃a c,lv = .slice a b.length c:=by
  obtain⟨xs,k,_⟩:=h
  rcases k.2 with ⟨rfl,h0⟩|⟨gb,c,cur,rfl,_⟩
  ·exact⟨_,_,by rw[h0]⟩
  ·exact⟨_,_,rfl⟩
 clear c1 c2 m n r t h o;go_enter func129,ntmps129
 go_wp2_with (first
  | (go_at_call 171;refine (v.out w1 _ y.out).mono ?_;rintro e K ⟨rfl,g⟩;have l:=hid (d.out.trans (g.mono d.out.size));clear g)
  | (go_at_call 172;refine u.out.mono ?_;rintro e w1 ⟨E,rfl,j,f⟩;have y:=hid j;have d:=hid f;clear j f))
 go_ret;exact⟨rfl,l.out⟩
theorem Ld{a:List qp}(d:a.length<=10)(c:∀s ∈ a,XR s):(jP (a.map jG)).size<=200000000:=by
 have:=nC (a.map jG) 11000000 10 (λx b=>by
  rw[xR] at b;obtain⟨s,e,rfl⟩:=b;exact sH (c s e)) (by rw[qB];exact d)
 omega
theorem Nw(b:List qp)(lv:Value)(base:Nat)(w:World)(h:jc w base lv b)(m:b.length<=10)(k:∀s ∈ b,XR s) :
  Calls prog 82 #[.agg #[lv]] w λe w'=>e = .returned (.string (QO b))/\Below w.heap.size w w':=by
 have f:∀O:Obj,Below w.heap.size w (w.alloc O):=λO=>nbl w O;have r:=Ld m k
 have c1:=λO:Obj=>NA b lv base (w.alloc O) (by
  obtain⟨xs,l,p⟩:=h;exact⟨xs,ownsRow_below l (f O),λj q=>(p j q).below (f O)⟩) m k
 unfold QO;obtain⟨J,i⟩:=Nm (jP (b.map jG));rw[i] at r |-;simp only[i] at c1;have o:=hid c1;have n:=hid f
 obtain⟨a,c,rfl⟩:∃a c,lv = .slice a b.length c:=by
  obtain⟨xs,l,_⟩:=h
  rcases l.2 with ⟨rfl,h0⟩|⟨gb,c,cur,rfl,_⟩
  ·exact⟨_,_,by rw[h0]⟩
  ·exact⟨_,_,rfl⟩
 clear c1 i h k f;go_enter func82,ntmps82;go_wp2_with fail;refine (o.out _).mono ?_;rintro e t ⟨rfl,d⟩;have g:=hid ((n.out _).trans (d.mono (by simp)));clear d
 go_wp2
 go_ret;exact⟨rfl,g.out⟩
theorem PE{r:Rd.qa}(h:Ref.ky r):XR (vk r):=
 ⟨h.eff,h.who,h.act,h.on,by show (r.cs.map toS).length<=5;rw[qB];exact h.len,λc e=>by
  rw[show (vk r).ifs=r.cs.map toS from rfl,xR] at e
  obtain⟨x,f,rfl⟩:=e;obtain⟨a,b,d⟩:=h.cs x f;exact⟨a,b,d⟩⟩
theorem ak{EL:Value}{T:TypeId}{y:Value}(a:EL = .iface T y){c:Int}{q:Nat}{u:Value}(h:Z6 EL c q u):(c=0/\u = .nilIface)\/(c≠0/\∃T y,u = .iface T y):=by
 cases h with
 | ok=>exact .inl ⟨rfl,rfl⟩
 | long=>exact .inr ⟨by decide,T,y,a⟩
 | text c q b=>
  refine .inr ⟨by unfold Rd.Code at b;omega,?_⟩;unfold kJ
  split
  ·exact⟨_,_,rfl⟩
  ·split
   ·exact⟨_,_,rfl⟩
   ·exact⟨_,_,rfl⟩
 | doc p=>exact .inr ⟨by decide,_,_,rfl⟩
 | shape n p=>exact .inr ⟨by decide,_,_,rfl⟩
 | pat n k=>exact .inr ⟨by decide,_,_,rfl⟩
end Go.Proofs.YtagnlbgbnfnapaaGreatDoor
namespace Go.Proofs.YtagnlbgbnfnapaaGreatDoor
open Go.Shelf
def Tryz.lays106_ren:Go.Shelf.Ren:=⟨λ|106=>110|213=>155|265=>195|n=>n,λ|9=>9|3=>3|n=>n,λ|n=>n⟩
theorem Tryz.lays106:Go.Proofs.Lays.n106 prog Tryz.lays106_ren:={
 mixed:=by kernel_rfl
 f106:=func110.trans (congrArg some (by kernel_rfl))
 f213:=func155.trans (congrArg some (by kernel_rfl))
 f265:=func195.trans (congrArg some (by kernel_rfl))
 t3:=underlying3
 a3:=Tryz.isAgg3
 z3:=Tryz.sizeOf3
 v3:=Tryz.zeroValue3
 t9:=underlying9
 a9:=Tryz.isAgg9
 z9:=Tryz.sizeOf9
 v9:=Tryz.zeroValue9 }
def Tryz.laysPu25_ren:Go.Shelf.Ren:=⟨λ|25=>111|n=>n,λ|9=>9|3=>3|4=>4|37=>181|0=>0|47=>301|5=>5|n=>n,λ|n=>n⟩
theorem Tryz.laysPu25:Go.Proofs.LaysPu.n25 prog Tryz.laysPu25_ren:={
 mixed:=by kernel_rfl
 f25:=func111.trans (congrArg some (by kernel_rfl))
 t0:=underlying0
 a0:=Tryz.isAgg0
 z0:=Tryz.sizeOf0
 v0:=Tryz.zeroValue0
 i0:=by kernel_rfl
 t3:=underlying3
 a3:=Tryz.isAgg3
 z3:=Tryz.sizeOf3
 v3:=Tryz.zeroValue3
 i3:=by kernel_rfl
 t4:=underlying4
 a4:=Tryz.isAgg4
 z4:=Tryz.sizeOf4
 v4:=Tryz.zeroValue4
 i4:=by kernel_rfl
 t5:=underlying5
 a5:=Tryz.isAgg5
 z5:=Tryz.sizeOf5
 v5:=Tryz.zeroValue5
 i5:=by kernel_rfl
 t9:=underlying9
 a9:=Tryz.isAgg9
 z9:=Tryz.sizeOf9
 v9:=Tryz.zeroValue9
 i9:=by kernel_rfl
 t37:=underlying181
 a37:=Tryz.isAgg181
 z37:=Tryz.sizeOf181
 v37:=Tryz.zeroValue181
 i37:=by kernel_rfl
 t47:=underlying301
 a47:=Tryz.isAgg301
 z47:=Tryz.sizeOf301
 v47:=Tryz.zeroValue301
 i47:=by kernel_rfl }
def Tryz.lays8grow_ren:Go.Shelf.Ren:=⟨λ|4=>112|n=>n,λ|22=>78|25=>156|3=>3|4=>4|9=>9|20=>20|0=>0|n=>n,λ|n=>n⟩
theorem Tryz.lays8grow:Go.Proofs.Lays8.n4 prog Tryz.lays8grow_ren:={
 mixed:=by kernel_rfl
 f4:=⟨Tryz.f112.name,by decide,func112.trans (congrArg some (by kernel_rfl))⟩
 t0:=underlying0
 a0:=Tryz.isAgg0
 z0:=Tryz.sizeOf0
 v0:=Tryz.zeroValue0
 t3:=underlying3
 a3:=Tryz.isAgg3
 z3:=Tryz.sizeOf3
 v3:=Tryz.zeroValue3
 t4:=underlying4
 a4:=Tryz.isAgg4
 z4:=Tryz.sizeOf4
 v4:=Tryz.zeroValue4
 t9:=underlying9
 a9:=Tryz.isAgg9
 z9:=Tryz.sizeOf9
 v9:=Tryz.zeroValue9
 t20:=underlying20
 a20:=Tryz.isAgg20
 z20:=Tryz.sizeOf20
 v20:=Tryz.zeroValue20
 t22:=underlying78
 a22:=Tryz.isAgg78
 z22:=Tryz.sizeOf78
 v22:=Tryz.zeroValue78 }
end Go.Proofs.YtagnlbgbnfnapaaGreatDoor
