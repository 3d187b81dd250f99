/- P -/
import Derived.Test.YtdakgnaojakldaaGreatDoorK28
import Derived.Shelf.Small.Strs
import Derived.Shelf.Spec.SlicesGrow
import Derived.Shelf.Pu.Clone
open Go.Proofs.Tryz
set_option maxRecDepth 100000
set_option maxHeartbeats 1000000
namespace Go.Proofs.YtdakgnaojakldaaGreatDoor
open Go.RowKit
theorem rY{L:Nat}:∀(a:List Rd.V) (l:List BY),(∀v ∈ a,Rd.Good L v)->Rd.jO a=some l->l.length=a.length/\∀s ∈ l,s.size<=L
 | [],l,_,h=>by simp only[Rd.jO,Option.some.injEq] at h;subst h;simp
 | v::a,l,hg,h=>by
  cases v with
  | str s=>
   simp only[Rd.jO] at h
   cases hr:Rd.jO a with
   | none=>rw[hr] at h;simp at h
   | some r=>
    rw[hr] at h;simp only[Xc,Option.some.injEq] at h;subst h;obtain⟨d,e⟩:=rY a r (λv f=>hg v (by simp[f])) hr;refine⟨by simp[d],λt c=>?_⟩
    rcases Z7.1 c with rfl|c
    ·have:=hg (.str t) (by simp)
     cases this with
     | str _ h=>exact h
    ·exact e t c
  | word b=>simp[Rd.jO] at h
  | list l=>simp[Rd.jO] at h
  | obj l=>simp[Rd.jO] at h
theorem Yk{L:Nat}(i:L<=12000)(x:Option Rd.V)(e:∀v,x=some v->Rd.Good L v):Ref.uD ((Rd.zG x).getD [])/\((Rd.zG x).isSome=true->0<((Rd.zG x).getD []).length):=by
 match x with
 | none=>exact⟨⟨by simp[Rd.zG],by simp[Rd.zG]⟩,λh=>by simp[Rd.zG] at h⟩
 | some (.word b)=>exact⟨⟨by simp[Rd.zG],by simp[Rd.zG]⟩,λh=>by simp[Rd.zG] at h⟩
 | some (.obj ms)=>exact⟨⟨by simp[Rd.zG],by simp[Rd.zG]⟩,λh=>by simp[Rd.zG] at h⟩
 | some (.str s)=>
  have:=e _ rfl
  cases this with
  | str _ h=>exact⟨⟨by simp[Rd.zG],by simp[Rd.zG];omega⟩,λ_=>by simp[Rd.zG]⟩
 | some (.list vs)=>
  have:=e _ rfl
  cases this with
  | list _ g f=>
   simp only[Rd.zG]
   by_cases c:vs.length<1\/10<vs.length
   ·rw[zb c];exact⟨⟨by simp,by simp⟩,λh=>by simp at h⟩
   ·rw[za c]
    cases d:Rd.jO vs with
    | none=>exact⟨⟨by simp,by simp⟩,λh=>by simp at h⟩
    | some l=>
     obtain⟨a,b⟩:=rY vs l f d;simp only[QA];exact⟨⟨by omega,λs d=>by have:=b s d;omega⟩,λ_=>by omega⟩
theorem KM{L:Nat}(a:L<=12000)(x:Option Rd.V)(d:∀v,x=some v->Rd.Good L v):Ref.uD (Rd.chD (Rd.jJ x)).2:=by
 unfold Rd.chD
 match x with
 | none=>exact (Yk a none (λv h=>by cases h)).1
 | some (.word b)=>exact (Yk a _ d).1
 | some (.str s)=>exact (Yk a _ d).1
 | some (.list vs)=>exact (Yk a _ d).1
 | some (.obj ms)=>
  simp only[Rd.jJ]
  by_cases c:Rd.qd ms [Ref.qL]=true/\ms.length=1
  ·rw[zb c];refine (Yk a _ (λv g=>?_)).1
   have:=d _ rfl
   cases this with
   | obj _ i j k f=>
    have e:=qJ g;rw[xQ] at e;obtain⟨m,e,rfl⟩:=e;exact f m e
  ·rw[za c];exact⟨by simp,by simp⟩
theorem bu{L:Nat}{x:Option Rd.V}(a:∀v,x=some v->Rd.Good L v){s:BY}(h:Rd.opV x=some s):s.size<=L:=by
 unfold Rd.opV at h
 split at h
 ·injection h with h
  subst h
  have:=a _ rfl
  cases this with
  | str _ h=>exact h
 ·cases h
theorem BD{L:Nat}(g:L<=12000)(v:Rd.V)(c:Rd.Good L v):Ref.Xe (Rd.qV v):=by
 have a:Ref.Xe Ref.x9:=⟨zD _,zD _,zD _,λs d=>by simp[Ref.x9] at d⟩
 match v,c with
 | .str s,_=>exact a
 | .word b,_=>exact a
 | .list l,_=>exact a
 | .obj ms,c=>
  simp only[Rd.qV,Rd.Xi]
  split
  ·rename_i op key e f;have i:=bu (Rd.yu c Ref.bOp) e;have j:=bu (Rd.yu c Ref.zC) f
   split
   ·exact⟨by simp only;omega,by simp only;omega,zD _,λs d=>by simp at d⟩
   ·obtain⟨h,_⟩:=Yk g _ (Rd.yu c Ref.zA);exact⟨by simp only;omega,by simp only;omega,h.1,h.2⟩
  ·exact a
theorem PS{L:Nat}(g:L<=12000)(v:Rd.V)(e:Rd.Good L v):Ref.kr (Rd.xO v):=by
 have d:Ref.kr Rd.jd:=⟨zD _,⟨zD _,λs f=>by simp[Rd.jd] at f⟩,⟨zD _,λs f=>by simp[Rd.jd] at f⟩,⟨zD _,λs f=>by simp[Rd.jd] at f⟩,zD _,λc a=>by simp[Rd.jd] at a⟩
 match v,e with
 | .str s,_=>exact d
 | .word b,_=>exact d
 | .list l,_=>exact d
 | .obj ms,e=>
  simp only[Rd.xO,Rd.Xv]
  split
  ·rename_i eff n k;have o:=bu (Rd.yu e Rd.zF) k
   have a:(Rd.xm (Rd.zl ms Rd.bIf)).cs.length<=5/\∀c ∈ (Rd.xm (Rd.zl ms Rd.bIf)).cs,Ref.Xe c:=by
    have h:=Rd.yu e Rd.bIf
    match i:Rd.zl ms Rd.bIf with
    | none=>exact⟨zD _,λc a=>by simp[Rd.xm] at a⟩
    | some (.str s)=>exact⟨zD _,λc a=>by simp[Rd.xm] at a⟩
    | some (.word b)=>exact⟨zD _,λc a=>by simp[Rd.xm] at a⟩
    | some (.obj ms)=>exact⟨zD _,λc a=>by simp[Rd.xm] at a⟩
    | some (.list vs)=>
     have:=h _ i
     cases this with
     | list _ m j=>
      simp only[Rd.xm]
      split
      ·exact⟨zD _,λc a=>by simp at a⟩
      ·refine⟨by simp;omega,λc a=>?_⟩;simp only[xQ] at a;obtain⟨x,i,rfl⟩:=a;exact BD g x (j x i)
   exact⟨by simp only[Rd.QQ];omega,KM g _ (Rd.yu e Rd.zR),KM g _ (Rd.yu e Rd.bDo),KM g _ (Rd.yu e Rd.bOn),a.1,a.2⟩
  ·exact d
theorem Bw(v:Rd.V)(h:Rd.condC v≠1){L:Nat}(i:L<=12000)(f:Rd.Good L v):Ref.xN (Rd.qV v).op=decide ((Rd.qV v).vals.length=0):=by
 have g:=Rd.gU v
 have a:(Rd.qV v).sh=false:=by
  cases e:(Rd.qV v).sh with
  | false=>rfl
  | true=>rw[e] at g;exact absurd g h
 match v,f with
 | .str s,_=>exact absurd a (by simp[Rd.qV,Ref.x9])
 | .word b,_=>exact absurd a (by simp[Rd.qV,Ref.x9])
 | .list l,_=>exact absurd a (by simp[Rd.qV,Ref.x9])
 | .obj ms,f=>
  obtain⟨R,c⟩:=Nm (Rd.qV (.obj ms));rw[c] at a |-;simp only[Rd.qV,Rd.Xi] at c
  cases h1:Rd.opV (Rd.zl ms Ref.bOp) with
  | none=>rw[h1] at c;subst c;simp[Ref.x9] at a
  | some op=>
   rw[h1] at c
   cases h2:Rd.opV (Rd.zl ms Ref.zC) with
   | none=>rw[h2] at c;subst c;simp[Ref.x9] at a
   | some key=>
    rw[h2] at c;simp only at c
    by_cases ca:Ref.xN op=true
    ·rw[zb ca] at c;subst c;simp[ca]
    ·rw[za ca] at c;subst c;simp only[dV,UT] at a
     have:=(Yk i _ (Rd.yu f Ref.zA)).2 a.1.1.2.1
     have d:Ref.xN op=false:=by simpa using ca
     simp only[d];symm;simp only[KW];omega
theorem PO(v:Rd.V)(h:Rd.yo v≠1/\Rd.yo v≠2){L:Nat}(m:L<=12000)(f:Rd.Good L v):Jj (Rd.xO v):=by
 match v,f with
 | .str s,_=>exact absurd rfl h.1
 | .word b,_=>exact absurd rfl h.1
 | .list l,_=>exact absurd rfl h.1
 | .obj ms,f=>
  simp only[Rd.yo] at h;simp only[Rd.xO,Rd.Xv]
  split
  ·rename_i eff k p;rw[k] at h;simp only[xu] at h
   have n:Rd.qD [Rd.qa Rd.xW (Rd.zl ms Rd.zF),Rd.chC (Rd.zl ms Rd.zR),Rd.chC (Rd.zl ms Rd.bDo),Rd.chC (Rd.zl ms Rd.bOn),Rd.jT (Rd.zl ms Rd.bIf)]=0:=by
    have:=Rd.YN [Rd.qa Rd.xW (Rd.zl ms Rd.zF),Rd.chC (Rd.zl ms Rd.zR),Rd.chC (Rd.zl ms Rd.bDo),Rd.chC (Rd.zl ms Rd.bOn),Rd.jT (Rd.zl ms Rd.bIf)]
    omega
   have e:=(JM n) (Rd.jT (Rd.zl ms Rd.bIf)) (by simp);have g:=Rd.yu f Rd.bIf;intro c a;simp only[Rd.QQ] at a
   match hx:Rd.zl ms Rd.bIf with
   | none=>rw[hx] at a;simp[Rd.xm] at a
   | some (.str s)=>rw[hx] at a;simp[Rd.xm] at a
   | some (.word b)=>rw[hx] at a;simp[Rd.xm] at a
   | some (.obj ms)=>rw[hx] at a;simp[Rd.xm] at a
   | some (.list vs)=>
    rw[hx] at a e
    have:=g _ hx
    cases this with
    | list _ o j=>
     simp only[Rd.xm,Rd.jT] at a e
     by_cases c5:5<vs.length
     ·rw[zb c5] at a;simp at a
     ·rw[za c5] at a e
      have i:Rd.qD (vs.map Rd.condC)=0:=by
       have:=Rd.YN (vs.map Rd.condC)
       omega
      simp only[xQ] at a;obtain⟨x,d,rfl⟩:=a;exact Bw x ((JM i) _ (xQ.2 ⟨x,d,rfl⟩)).1 m (j x d)
  ·intro c a;simp[Rd.jd] at a
def jE(s:BY):List Rd.zZ:=if 4000<s.size then [] else match Rd.yA s.data.toList with
 | .ok v _=>(qo (stX v)).map Rd.xO
 | .err _ _=>[]
theorem aa:∀(rs:List Rd.zZ) (i:Nat),(Rd.kH rs i).1=0->∀r ∈ rs,r.sh=false/\r.pt=false
 | [],_,_,r,hr=>by simp at hr
 | x::xs,i,h,r,hr=>by
  unfold Rd.kH at h
  split at h
  ·simp at h
  rename_i a
  split at h
  ·simp at h
  rename_i b
  rcases Z7.1 hr with rfl|hr
  ·exact⟨by simpa using a,by simpa using b⟩
  ·exact aa xs (i+1) h r hr
theorem rP(s:BY)(h:(Rd.qX s).1=0):(∀r ∈ jE s,Jj r/\Ref.kr r)/\(jE s).length<=10/\(if 4000<s.size then [] else match Rd.yA s.data.toList with
 | .ok v _=>(qo (stX v)).map jg
 | .err _ _=>[])=(jE s).map ve:=by
 unfold Rd.qX at h;unfold jE
 by_cases h1:4000<s.size
 ·rw[zb h1] at h;simp at h
 rw[za h1] at h;rw[za h1,za h1]
 cases hm:Rd.yA s.data.toList with
 | err e q=>
  rw[hm] at h
  have:=Rd.Uz hm
  unfold Rd.Code at this;simp only at h;omega
 | ok v q=>
  rw[hm] at h;simp only at h |-;have j:=Rd.UA hm;have m:s.data.toList.length<=12000:=by rw[Ref.zz];omega
  match v,j with
  | .str t,_=>simp[Rd.jU] at h
  | .word b,_=>simp[Rd.jU] at h
  | .list l,_=>simp[Rd.jU] at h
  | .obj ms,j=>
   simp only[Rd.jU] at h
   match hx:Rd.zl ms Rd.yC with
   | none=>rw[hx] at h;simp at h
   | some (.str t)=>rw[hx] at h;simp at h
   | some (.word b)=>rw[hx] at h;simp at h
   | some (.obj ms)=>rw[hx] at h;simp at h
   | some (.list i)=>
    rw[hx] at h;simp only at h;have d:qo (stX (.obj ms))=i:=by simp[qo,stX,hx]
    rw[d]
    by_cases c:ms.length≠1\/i.length<1\/10<i.length
    ·rw[zb c] at h;simp at h
    rw[za c] at h;have k:=Rd.yu j Rd.yC _ hx
    have f:∀v ∈ i,Rd.Good s.data.toList.length v:=by
     cases k with
     | list _ p o=>exact o
    have g:∀v ∈ i,Rd.yo v≠1/\Rd.yo v≠2:=by
     intro v d;obtain⟨a,b⟩:=aa _ _ h (Rd.xO v) (xQ.2 ⟨v,d,rfl⟩);rw[Rd.rH v (f v d),a,b]
     decide
    refine⟨λr n=>?_,by rw[qB];omega,?_⟩
    ·rw[xQ] at n;obtain⟨v,d,rfl⟩:=n;exact⟨PO v (g v d) m (f v d),PS m v (f v d)⟩
    ·rw[ug];exact U9 λv d=>PN v (f v d) (g v d)
theorem rJ{s:qp}(h:XI s):(jD s).size<=11000000:=by
 have q:=Ref.um s.eff;have e:=h.eff;have c1:=Ref.Zf h.who;have c2:=Ref.Zf h.act;have c3:=Ref.Zf h.on;have c4:=gY h.len h.cs;rw[VQ] at c1 c2 c3;have b:(⟨#[123,34,101,102,102,101,99,116,34,58]⟩:BY).size=10:=rfl;have c:(⟨#[44,34,119,104,111,34,58]⟩:BY).size=7:=rfl;have d:(⟨#[44,34,100,111,34,58]⟩:BY).size=6:=rfl;have f:(⟨#[44,34,111,110,34,58]⟩:BY).size=6:=rfl;have g:(⟨#[44,34,105,102,34,58]⟩:BY).size=6:=rfl;have i:(⟨#[125]⟩:BY).size=1:=rfl
 have hb:(⟨#[123,34,101,102,102,101,99,116,34,58]⟩++Ref.zV s.eff++(⟨#[44,34,119,104,111,34,58]⟩++ZE s.who)++(⟨#[44,34,100,111,34,58]⟩++ZE s.act)++(⟨#[44,34,111,110,34,58]⟩++ZE s.on)).size<=3000000:=by
  simp only[zH];omega
 unfold jD;rw[zH]
 split
 ·rw[zH,zH (a:=⟨#[44,34,105,102,34,58]⟩)];omega
 ·omega
theorem PQ:∀args w,(callFunc 63 args).run prog w = .ok (.enter 63 args) w:=enters_of func63 (by kernel_rfl) rfl
theorem Nf(b:List qp)(lv:Value)(base:Nat)(w:World)(h:yY w base lv b)(z:b.length<=10)(o:∀s ∈ b,XI s) :
  Calls prog 62 #[lv,.func (.func 63) #[] #[]] w λe w'=>e = .returned (.string (jM (b.map jD)))/\Below w.heap.size w w':=by
 have c1:=IX b lv base 63 jD w h (by omega) PQ (λW s A B C D p _ F G H I=>Nc s A B C D base W F G H I (o s p))
 have r:∀x ∈ b.map jD,x.size<=11000000:=by
  intro x k;rw[xQ] at k;obtain⟨s,p,rfl⟩:=k;exact rJ (o s p)
 have t:=V8 _ _ r;rw[qB] at t
 have q:(jA (b.map jD)).size<=200000000:=by
  have:b.length*(11000000+1)<=10*(11000000+1):=VB _ z
  omega
 have c2:=λW i (j:zy W w.heap.size i (b.map jD))=>aJ (b.map jD) i w.heap.size W j (by rw[qB];omega) (by omega);unfold jM;obtain⟨J,m⟩:=Nm (jA (b.map jD));rw[m] at q |-;simp only[m] at c2;obtain⟨M,n⟩:=Nm (b.map jD);rw[n] at c1;simp only[n] at c2;have u:=hid c1;have v:=hid c2
 obtain⟨a,c,rfl⟩:∃a c,lv = .slice a b.length c:=by
  obtain⟨xs,k,_⟩:=h
  rcases k.2 with ⟨rfl,h0⟩|⟨gb,c,cur,rfl,_⟩
  ·exact⟨_,_,by rw[h0]⟩
  ·exact⟨_,_,rfl⟩
 clear c1 c2 m n r t h o;go_enter func62,ntmps62
 go_wp2_with (first
  | (go_at_call 113;refine (v.out w1 _ y.out).mono ?_;rintro e K ⟨rfl,g⟩;have l:=hid (d.out.trans (g.mono d.out.size));clear g)
  | (go_at_call 114;refine u.out.mono ?_;rintro e w1 ⟨E,rfl,j,f⟩;have y:=hid j;have d:=hid f;clear j f))
 go_ret;exact⟨rfl,l.out⟩
theorem IE{a:List qp}(d:a.length<=10)(c:∀s ∈ a,XI s):(jM (a.map jD)).size<=200000000:=by
 have:=mH (a.map jD) 11000000 10 (λx b=>by
  rw[xQ] at b;obtain⟨s,e,rfl⟩:=b;exact rJ (c s e)) (by rw[qB];exact d)
 omega
theorem Na(b:List qp)(lv:Value)(base:Nat)(w:World)(h:yY w base lv b)(m:b.length<=10)(k:∀s ∈ b,XI s) :
  Calls prog 35 #[.agg #[lv]] w λe w'=>e = .returned (.string (QL b))/\Below w.heap.size w w':=by
 have f:∀O:Obj,Below w.heap.size w (w.alloc O):=λO=>nbl w O;have r:=IE m k
 have c1:=λO:Obj=>Nf b lv base (w.alloc O) (by
  obtain⟨xs,l,p⟩:=h;exact⟨xs,ownsRow_below l (f O),λj q=>(p j q).below (f O)⟩) m k
 unfold QL;obtain⟨J,i⟩:=Nm (jM (b.map jD));rw[i] at r |-;simp only[i] at c1;have o:=hid c1;have n:=hid f
 obtain⟨a,c,rfl⟩:∃a c,lv = .slice a b.length c:=by
  obtain⟨xs,l,_⟩:=h
  rcases l.2 with ⟨rfl,h0⟩|⟨gb,c,cur,rfl,_⟩
  ·exact⟨_,_,by rw[h0]⟩
  ·exact⟨_,_,rfl⟩
 clear c1 i h k f;go_enter func35,ntmps35;go_wp2_with fail;refine (o.out _).mono ?_;rintro e t ⟨rfl,d⟩;have g:=hid ((n.out _).trans (d.mono (by simp)));clear d
 go_wp2
 go_ret;exact⟨rfl,g.out⟩
theorem Pf{r:Rd.zZ}(h:Ref.kr r):XI (ve r):=
 ⟨h.eff,h.who,h.act,h.on,by show (r.cs.map toS).length<=5;rw[qB];exact h.len,λc e=>by
  rw[show (ve r).ifs=r.cs.map toS from rfl,xQ] at e
  obtain⟨x,f,rfl⟩:=e;obtain⟨a,b,d⟩:=h.cs x f;exact⟨a,b,d⟩⟩
theorem K6{EL:Value}{T:TypeId}{y:Value}(a:EL = .iface T y){c:Int}{q:Nat}{u:Value}(h:kZ EL c q u):(c=0/\u = .nilIface)\/(c≠0/\∃T y,u = .iface T y):=by
 cases h with
 | ok=>exact .inl ⟨rfl,rfl⟩
 | long=>exact .inr ⟨by decide,T,y,a⟩
 | text c q b=>
  refine .inr ⟨by unfold Rd.Code at b;omega,?_⟩;unfold ky
  split
  ·exact⟨_,_,rfl⟩
  ·split
   ·exact⟨_,_,rfl⟩
   ·exact⟨_,_,rfl⟩
 | doc p=>exact .inr ⟨by decide,_,_,rfl⟩
 | shape n p=>exact .inr ⟨by decide,_,_,rfl⟩
 | pat n k=>exact .inr ⟨by decide,_,_,rfl⟩
end Go.Proofs.YtdakgnaojakldaaGreatDoor
namespace Go.Proofs.YtdakgnaojakldaaGreatDoor
open Go.Shelf
def Tryz.lays106_ren:Go.Shelf.Ren:=⟨λ|106=>136|213=>186|265=>224|n=>n,λ|9=>9|3=>3|n=>n,λ|n=>n⟩
theorem Tryz.lays106:Go.Proofs.Lays.n106 prog Tryz.lays106_ren:={
 mixed:=by kernel_rfl
 f106:=func136.trans (congrArg some (by kernel_rfl))
 f213:=func186.trans (congrArg some (by kernel_rfl))
 f265:=func224.trans (congrArg some (by kernel_rfl))
 t3:=underlying3
 a3:=Tryz.isAgg3
 z3:=Tryz.sizeOf3
 v3:=Tryz.zeroValue3
 t9:=underlying9
 a9:=Tryz.isAgg9
 z9:=Tryz.sizeOf9
 v9:=Tryz.zeroValue9 }
def Tryz.laysPu25_ren:Go.Shelf.Ren:=⟨λ|25=>137|n=>n,λ|9=>9|3=>3|4=>4|37=>256|0=>0|47=>322|5=>5|n=>n,λ|n=>n⟩
theorem Tryz.laysPu25:Go.Proofs.LaysPu.n25 prog Tryz.laysPu25_ren:={
 mixed:=by kernel_rfl
 f25:=func137.trans (congrArg some (by kernel_rfl))
 t0:=underlying0
 a0:=Tryz.isAgg0
 z0:=Tryz.sizeOf0
 v0:=Tryz.zeroValue0
 i0:=by kernel_rfl
 t3:=underlying3
 a3:=Tryz.isAgg3
 z3:=Tryz.sizeOf3
 v3:=Tryz.zeroValue3
 i3:=by kernel_rfl
 t4:=underlying4
 a4:=Tryz.isAgg4
 z4:=Tryz.sizeOf4
 v4:=Tryz.zeroValue4
 i4:=by kernel_rfl
 t5:=underlying5
 a5:=Tryz.isAgg5
 z5:=Tryz.sizeOf5
 v5:=Tryz.zeroValue5
 i5:=by kernel_rfl
 t9:=underlying9
 a9:=Tryz.isAgg9
 z9:=Tryz.sizeOf9
 v9:=Tryz.zeroValue9
 i9:=by kernel_rfl
 t37:=underlying256
 a37:=Tryz.isAgg256
 z37:=Tryz.sizeOf256
 v37:=Tryz.zeroValue256
 i37:=by kernel_rfl
 t47:=underlying322
 a47:=Tryz.isAgg322
 z47:=Tryz.sizeOf322
 v47:=Tryz.zeroValue322
 i47:=by kernel_rfl }
def Tryz.lays8grow_ren:Go.Shelf.Ren:=⟨λ|4=>138|n=>n,λ|22=>98|25=>187|3=>3|4=>4|9=>9|20=>20|0=>0|n=>n,λ|n=>n⟩
theorem Tryz.lays8grow:Go.Proofs.Lays8.n4 prog Tryz.lays8grow_ren:={
 mixed:=by kernel_rfl
 f4:=⟨Tryz.f138.name,by decide,func138.trans (congrArg some (by kernel_rfl))⟩
 t0:=underlying0
 a0:=Tryz.isAgg0
 z0:=Tryz.sizeOf0
 v0:=Tryz.zeroValue0
 t3:=underlying3
 a3:=Tryz.isAgg3
 z3:=Tryz.sizeOf3
 v3:=Tryz.zeroValue3
 t4:=underlying4
 a4:=Tryz.isAgg4
 z4:=Tryz.sizeOf4
 v4:=Tryz.zeroValue4
 t9:=underlying9
 a9:=Tryz.isAgg9
 z9:=Tryz.sizeOf9
 v9:=Tryz.zeroValue9
 t20:=underlying20
 a20:=Tryz.isAgg20
 z20:=Tryz.sizeOf20
 v20:=Tryz.zeroValue20
 t22:=underlying98
 a22:=Tryz.isAgg98
 z22:=Tryz.sizeOf98
 v22:=Tryz.zeroValue98 }
end Go.Proofs.YtdakgnaojakldaaGreatDoor
