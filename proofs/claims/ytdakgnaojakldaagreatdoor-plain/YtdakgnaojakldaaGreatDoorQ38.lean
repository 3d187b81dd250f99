/- P -/
import Derived.Test.YtdakgnaojakldaaGreatDoorQ37
import Derived.Shelf.Small.Strs
import Derived.Shelf.Spec.SlicesGrow
import Derived.Shelf.Pu.Clone
open Go.Proofs.Tryz
set_option maxRecDepth 100000
set_option maxHeartbeats 1000000
namespace Go.Proofs.YtdakgnaojakldaaGreatDoor
open Go.RowKit
theorem Aj{L:Nat}:∀(a:List Rd.V) (l:List BA),(∀v ∈ a,Rd.Good L v)->Rd.kH a=some l->l.length=a.length/\∀s ∈ l,s.size<=L
 | [],l,_,h=>by simp only[Rd.kH,Option.some.injEq] at h;subst h;simp
 | v::a,l,hg,h=>by
  cases v with
  | str s=>
   simp only[Rd.kH] at h
   cases hr:Rd.kH a with
   | none=>rw[hr] at h;simp at h
   | some r=>
    rw[hr] at h;simp only[XG,Option.some.injEq] at h;subst h;obtain⟨d,e⟩:=Aj a r (λv f=>hg v (by simp[f])) hr;refine⟨by simp[d],λt c=>?_⟩
    rcases x8.1 c with rfl|c
    ·have:=hg (.str t) (by simp)
     cases this with
     | str _ h=>exact h
    ·exact e t c
  | word b=>simp[Rd.kH] at h
  | list l=>simp[Rd.kH] at h
  | obj l=>simp[Rd.kH] at h
theorem YQ{L:Nat}(i:L<=12000)(x:Option Rd.V)(e:∀v,x=some v->Rd.Good L v):Ref.uY ((Rd.zJ x).getD [])/\((Rd.zJ x).isSome=true->0<((Rd.zJ x).getD []).length):=by
 match x with
 | none=>exact⟨⟨by simp[Rd.zJ],by simp[Rd.zJ]⟩,λh=>by simp[Rd.zJ] at h⟩
 | some (.word b)=>exact⟨⟨by simp[Rd.zJ],by simp[Rd.zJ]⟩,λh=>by simp[Rd.zJ] at h⟩
 | some (.obj ms)=>exact⟨⟨by simp[Rd.zJ],by simp[Rd.zJ]⟩,λh=>by simp[Rd.zJ] at h⟩
 | some (.str s)=>
  have:=e _ rfl
  cases this with
  | str _ h=>exact⟨⟨by simp[Rd.zJ],by simp[Rd.zJ];omega⟩,λ_=>by simp[Rd.zJ]⟩
 | some (.list vs)=>
  have:=e _ rfl
  cases this with
  | list _ g f=>
   simp only[Rd.zJ]
   by_cases c:vs.length<1\/10<vs.length
   ·rw[zb c];exact⟨⟨by simp,by simp⟩,λh=>by simp at h⟩
   ·rw[za c]
    cases d:Rd.kH vs with
    | none=>exact⟨⟨by simp,by simp⟩,λh=>by simp at h⟩
    | some l=>
     obtain⟨a,b⟩:=Aj vs l f d;simp only[yE];exact⟨⟨by omega,λs d=>by have:=b s d;omega⟩,λ_=>by omega⟩
theorem aF{L:Nat}(a:L<=12000)(x:Option Rd.V)(d:∀v,x=some v->Rd.Good L v):Ref.uY (Rd.chD (Rd.uy x)).2:=by
 unfold Rd.chD
 match x with
 | none=>exact (YQ a none (λv h=>by cases h)).1
 | some (.word b)=>exact (YQ a _ d).1
 | some (.str s)=>exact (YQ a _ d).1
 | some (.list vs)=>exact (YQ a _ d).1
 | some (.obj ms)=>
  simp only[Rd.uy]
  by_cases c:Rd.qc ms [Ref.qm]=true/\ms.length=1
  ·rw[zb c];refine (YQ a _ (λv g=>?_)).1
   have:=d _ rfl
   cases this with
   | obj _ i j k f=>
    have e:=ZN g;rw[ql] at e;obtain⟨m,e,rfl⟩:=e;exact f m e
  ·rw[za c];exact⟨by simp,by simp⟩
theorem dJ{L:Nat}{x:Option Rd.V}(a:∀v,x=some v->Rd.Good L v){s:BA}(h:Rd.opV x=some s):s.size<=L:=by
 unfold Rd.opV at h
 split at h
 ·injection h with h
  subst h
  have:=a _ rfl
  cases this with
  | str _ h=>exact h
 ·cases h
theorem Em{L:Nat}(g:L<=12000)(v:Rd.V)(c:Rd.Good L v):Ref.Ub (Rd.xq v):=by
 have a:Ref.Ub Ref.jU:=⟨zO _,zO _,zO _,λs d=>by simp[Ref.jU] at d⟩
 match v,c with
 | .str s,_=>exact a
 | .word b,_=>exact a
 | .list l,_=>exact a
 | .obj ms,c=>
  simp only[Rd.xq,Rd.Jg]
  split
  ·rename_i op key e f;have i:=dJ (Rd.yc c Ref.bOp) e;have j:=dJ (Rd.yc c Ref.zx) f
   split
   ·exact⟨by simp only;omega,by simp only;omega,zO _,λs d=>by simp at d⟩
   ·obtain⟨h,_⟩:=YQ g _ (Rd.yc c Ref.zz);exact⟨by simp only;omega,by simp only;omega,h.1,h.2⟩
  ·exact a
theorem Wd{L:Nat}(g:L<=12000)(v:Rd.V)(e:Rd.Good L v):Ref.Ud (Rd.yl v):=by
 have d:Ref.Ud Rd.uI:=⟨zO _,⟨zO _,λs f=>by simp[Rd.uI] at f⟩,⟨zO _,λs f=>by simp[Rd.uI] at f⟩,⟨zO _,λs f=>by simp[Rd.uI] at f⟩,zO _,λc a=>by simp[Rd.uI] at a⟩
 match v,e with
 | .str s,_=>exact d
 | .word b,_=>exact d
 | .list l,_=>exact d
 | .obj ms,e=>
  simp only[Rd.yl,Rd.JU]
  split
  ·rename_i eff n k;have o:=dJ (Rd.yc e Rd.qa) k
   have a:(Rd.xS (Rd.zk ms Rd.bIf)).cs.length<=5/\∀c ∈ (Rd.xS (Rd.zk ms Rd.bIf)).cs,Ref.Ub c:=by
    have h:=Rd.yc e Rd.bIf
    match i:Rd.zk ms Rd.bIf with
    | none=>exact⟨zO _,λc a=>by simp[Rd.xS] at a⟩
    | some (.str s)=>exact⟨zO _,λc a=>by simp[Rd.xS] at a⟩
    | some (.word b)=>exact⟨zO _,λc a=>by simp[Rd.xS] at a⟩
    | some (.obj ms)=>exact⟨zO _,λc a=>by simp[Rd.xS] at a⟩
    | some (.list vs)=>
     have:=h _ i
     cases this with
     | list _ m j=>
      simp only[Rd.xS]
      split
      ·exact⟨zO _,λc a=>by simp at a⟩
      ·refine⟨by simp;omega,λc a=>?_⟩;simp only[ql] at a;obtain⟨x,i,rfl⟩:=a;exact Em g x (j x i)
   exact⟨by simp only[Rd.JB];omega,aF g _ (Rd.yc e Rd.qg),aF g _ (Rd.yc e Rd.bDo),aF g _ (Rd.yc e Rd.bOn),a.1,a.2⟩
  ·exact d
theorem Ei(v:Rd.V)(h:Rd.condC v≠1){L:Nat}(i:L<=12000)(f:Rd.Good L v):Ref.yf (Rd.xq v).op=decide ((Rd.xq v).vals.length=0):=by
 have g:=Rd.lJ v
 have a:(Rd.xq v).sh=false:=by
  cases e:(Rd.xq v).sh with
  | false=>rfl
  | true=>rw[e] at g;exact absurd g h
 match v,f with
 | .str s,_=>exact absurd a (by simp[Rd.xq,Ref.jU])
 | .word b,_=>exact absurd a (by simp[Rd.xq,Ref.jU])
 | .list l,_=>exact absurd a (by simp[Rd.xq,Ref.jU])
 | .obj ms,f=>
  obtain⟨R,c⟩:=Nm (Rd.xq (.obj ms));rw[c] at a |-;simp only[Rd.xq,Rd.Jg] at c
  cases h1:Rd.opV (Rd.zk ms Ref.bOp) with
  | none=>rw[h1] at c;subst c;simp[Ref.jU] at a
  | some op=>
   rw[h1] at c
   cases h2:Rd.opV (Rd.zk ms Ref.zx) with
   | none=>rw[h2] at c;subst c;simp[Ref.jU] at a
   | some key=>
    rw[h2] at c;simp only at c
    by_cases ca:Ref.yf op=true
    ·rw[zb ca] at c;subst c;simp[ca]
    ·rw[za ca] at c;subst c;simp only[gN,KJ] at a
     have:=(YQ i _ (Rd.yc f Ref.zz)).2 a.1.1.2.1
     have d:Ref.yf op=false:=by simpa using ca
     simp only[d];symm;simp only[mq];omega
theorem TW(v:Rd.V)(h:Rd.xy v≠1/\Rd.xy v≠2){L:Nat}(m:L<=12000)(f:Rd.Good L v):J2 (Rd.yl v):=by
 match v,f with
 | .str s,_=>exact absurd rfl h.1
 | .word b,_=>exact absurd rfl h.1
 | .list l,_=>exact absurd rfl h.1
 | .obj ms,f=>
  simp only[Rd.xy] at h;simp only[Rd.yl,Rd.JU]
  split
  ·rename_i eff k p;rw[k] at h;simp only[qh] at h
   have n:Rd.qo [Rd.qd Rd.yz (Rd.zk ms Rd.qa),Rd.chC (Rd.zk ms Rd.qg),Rd.chC (Rd.zk ms Rd.bDo),Rd.chC (Rd.zk ms Rd.bOn),Rd.jd (Rd.zk ms Rd.bIf)]=0:=by
    have:=Rd.Jq [Rd.qd Rd.yz (Rd.zk ms Rd.qa),Rd.chC (Rd.zk ms Rd.qg),Rd.chC (Rd.zk ms Rd.bDo),Rd.chC (Rd.zk ms Rd.bOn),Rd.jd (Rd.zk ms Rd.bIf)]
    omega
   have e:=(Vv n) (Rd.jd (Rd.zk ms Rd.bIf)) (by simp);have g:=Rd.yc f Rd.bIf;intro c a;simp only[Rd.JB] at a
   match hx:Rd.zk ms Rd.bIf with
   | none=>rw[hx] at a;simp[Rd.xS] at a
   | some (.str s)=>rw[hx] at a;simp[Rd.xS] at a
   | some (.word b)=>rw[hx] at a;simp[Rd.xS] at a
   | some (.obj ms)=>rw[hx] at a;simp[Rd.xS] at a
   | some (.list vs)=>
    rw[hx] at a e
    have:=g _ hx
    cases this with
    | list _ o j=>
     simp only[Rd.xS,Rd.jd] at a e
     by_cases c5:5<vs.length
     ·rw[zb c5] at a;simp at a
     ·rw[za c5] at a e
      have i:Rd.qo (vs.map Rd.condC)=0:=by
       have:=Rd.Jq (vs.map Rd.condC)
       omega
      simp only[ql] at a;obtain⟨x,d,rfl⟩:=a;exact Ei x ((Vv i) _ (ql.2 ⟨x,d,rfl⟩)).1 m (j x d)
  ·intro c a;simp[Rd.uI] at a
def QO(s:BA):List Rd.jP:=if 4000<s.size then [] else match Rd.yh s.data.toList with
 | .ok v _=>(qC (stX v)).map Rd.yl
 | .err _ _=>[]
theorem bn:∀(rs:List Rd.jP) (i:Nat),(Rd.Xi rs i).1=0->∀r ∈ rs,r.sh=false/\r.pt=false
 | [],_,_,r,hr=>by simp at hr
 | x::xs,i,h,r,hr=>by
  unfold Rd.Xi at h
  split at h
  ·simp at h
  rename_i a
  split at h
  ·simp at h
  rename_i b
  rcases x8.1 hr with rfl|hr
  ·exact⟨by simpa using a,by simpa using b⟩
  ·exact bn xs (i+1) h r hr
theorem fF(s:BA)(h:(Rd.x9 s).1=0):(∀r ∈ QO s,J2 r/\Ref.Ud r)/\(QO s).length<=10/\(if 4000<s.size then [] else match Rd.yh s.data.toList with
 | .ok v _=>(qC (stX v)).map xO
 | .err _ _=>[])=(QO s).map kJ:=by
 unfold Rd.x9 at h;unfold QO
 by_cases h1:4000<s.size
 ·rw[zb h1] at h;simp at h
 rw[za h1] at h;rw[za h1,za h1]
 cases hm:Rd.yh s.data.toList with
 | err e q=>
  rw[hm] at h
  have:=Rd.tT hm
  unfold Rd.Code at this;simp only at h;omega
 | ok v q=>
  rw[hm] at h;simp only at h |-;have j:=Rd.JO hm;have m:s.data.toList.length<=12000:=by rw[Ref.zG];omega
  match v,j with
  | .str t,_=>simp[Rd.Za] at h
  | .word b,_=>simp[Rd.Za] at h
  | .list l,_=>simp[Rd.Za] at h
  | .obj ms,j=>
   simp only[Rd.Za] at h
   match hx:Rd.zk ms Rd.jE with
   | none=>rw[hx] at h;simp at h
   | some (.str t)=>rw[hx] at h;simp at h
   | some (.word b)=>rw[hx] at h;simp at h
   | some (.obj ms)=>rw[hx] at h;simp at h
   | some (.list i)=>
    rw[hx] at h;simp only at h;have d:qC (stX (.obj ms))=i:=by simp[qC,stX,hx]
    rw[d]
    by_cases c:ms.length≠1\/i.length<1\/10<i.length
    ·rw[zb c] at h;simp at h
    rw[za c] at h;have k:=Rd.yc j Rd.jE _ hx
    have f:∀v ∈ i,Rd.Good s.data.toList.length v:=by
     cases k with
     | list _ p o=>exact o
    have g:∀v ∈ i,Rd.xy v≠1/\Rd.xy v≠2:=by
     intro v d;obtain⟨a,b⟩:=bn _ _ h (Rd.yl v) (ql.2 ⟨v,d,rfl⟩);rw[Rd.wX v (f v d),a,b]
     decide
    refine⟨λr n=>?_,by rw[zN];omega,?_⟩
    ·rw[ql] at n;obtain⟨v,d,rfl⟩:=n;exact⟨TW v (g v d) m (f v d),Wd m v (f v d)⟩
    ·rw[xD];exact XE λv d=>TU v (f v d) (g v d)
theorem Ad{s:zB}(h:Q6 s):(xN s).size<=11000000:=by
 have q:=Ref.XZ s.eff;have e:=h.eff;have c1:=Ref.Jf h.who;have c2:=Ref.Jf h.act;have c3:=Ref.Jf h.on;have c4:=lU h.len h.cs;rw[Ut] at c1 c2 c3;have b:(⟨#[123,34,101,102,102,101,99,116,34,58]⟩:BA).size=10:=rfl;have c:(⟨#[44,34,119,104,111,34,58]⟩:BA).size=7:=rfl;have d:(⟨#[44,34,100,111,34,58]⟩:BA).size=6:=rfl;have f:(⟨#[44,34,111,110,34,58]⟩:BA).size=6:=rfl;have g:(⟨#[44,34,105,102,34,58]⟩:BA).size=6:=rfl;have i:(⟨#[125]⟩:BA).size=1:=rfl
 have hb:(⟨#[123,34,101,102,102,101,99,116,34,58]⟩++Ref.zQ s.eff++(⟨#[44,34,119,104,111,34,58]⟩++yS s.who)++(⟨#[44,34,100,111,34,58]⟩++yS s.act)++(⟨#[44,34,111,110,34,58]⟩++yS s.on)).size<=3000000:=by
  simp only[zI];omega
 unfold xN;rw[zI]
 split
 ·rw[zI,zI (a:=⟨#[44,34,105,102,34,58]⟩)];omega
 ·omega
theorem TZ:∀args w,(callFunc 63 args).run prog w = .ok (.enter 63 args) w:=enters_of func63 (by kernel_rfl) rfl
theorem PQ(b:List zB)(l:Value)(base:Nat)(w:World)(h:yo w base l b)(A:b.length<=10)(p:∀s ∈ b,Q6 s) :
  Calls prog 62 #[l,.func (.func 63) #[] #[]] w λe L=>e = .returned (.string (xI (b.map xN)))/\Below w.heap.size w L:=by
 have c1:=Ni b l base 63 xN w h (by omega) TZ (λW s B C D E q _ G H I K=>PP s B C D E base W G H I K (p s q))
 have t:∀x ∈ b.map xN,x.size<=11000000:=by
  intro x k;rw[ql] at k;obtain⟨s,q,rfl⟩:=k;exact Ad (p s q)
 have u:=UR _ _ t;rw[zN] at u
 have r:(jg (b.map xN)).size<=200000000:=by
  have:b.length*(11000000+1)<=10*(11000000+1):=Q3 _ A
  omega
 have c2:=λW i (j:zA W w.heap.size i (b.map xN))=>bU (b.map xN) i w.heap.size W j (by rw[zN];omega) (by omega);unfold xI;obtain⟨J,n⟩:=Nm (jg (b.map xN));rw[n] at r |-;simp only[n] at c2;obtain⟨M,o⟩:=Nm (b.map xN);rw[o] at c1;simp only[o] at c2;have v:=hid c1;have y:=hid c2
 obtain⟨a,c,rfl⟩:∃a c,l = .slice a b.length c:=by
  obtain⟨xs,k,_⟩:=h
  rcases k.2 with ⟨rfl,h0⟩|⟨gb,c,cur,rfl,_⟩
  ·exact⟨_,_,by rw[h0]⟩
  ·exact⟨_,_,rfl⟩
 clear c1 c2 n o t u h p;go_enter func62,ntmps62
 go_wp2_with (first
  | (go_at_call 113;refine (y.out N _ z.out).mono ?_;rintro e O ⟨rfl,g⟩;have m:=hid (d.out.trans (g.mono d.out.size));clear g)
  | (go_at_call 114;refine v.out.mono ?_;rintro e N ⟨F,rfl,j,f⟩;have z:=hid j;have d:=hid f;clear j f))
 go_ret;exact⟨rfl,m.out⟩
theorem MN{a:List zB}(d:a.length<=10)(c:∀s ∈ a,Q6 s):(xI (a.map xN)).size<=200000000:=by
 have:=oM (a.map xN) 11000000 10 (λx b=>by
  rw[ql] at b;obtain⟨s,e,rfl⟩:=b;exact Ad (c s e)) (by rw[zN];exact d)
 omega
theorem sJ(b:List zB)(g:Value)(base:Nat)(w:World)(h:yo w base g b)(n:b.length<=10)(l:∀s ∈ b,Q6 s) :
  Calls prog 35 #[.agg #[g]] w λe u=>e = .returned (.string (xu b))/\Below w.heap.size w u:=by
 have f:∀O:Obj,Below w.heap.size w (w.alloc O):=λO=>nB w O;have t:=MN n l
 have c1:=λO:Obj=>PQ b g base (w.alloc O) (by
  obtain⟨xs,m,q⟩:=h;exact⟨xs,ownsRow_below m (f O),λj r=>(q j r).below (f O)⟩) n l
 unfold xu;obtain⟨J,k⟩:=Nm (xI (b.map xN));rw[k] at t |-;simp only[k] at c1;have p:=hid c1;have o:=hid f
 obtain⟨a,c,rfl⟩:∃a c,g = .slice a b.length c:=by
  obtain⟨xs,m,_⟩:=h
  rcases m.2 with ⟨rfl,h0⟩|⟨gb,c,cur,rfl,_⟩
  ·exact⟨_,_,by rw[h0]⟩
  ·exact⟨_,_,rfl⟩
 clear c1 k h l f;go_enter func35,ntmps35;go_wp2_with fail;refine (p.out _).mono ?_;rintro e v ⟨rfl,d⟩;have i:=hid ((o.out _).trans (d.mono (by simp)));clear d
 go_wp2
 go_ret;exact⟨rfl,i.out⟩
theorem wH{r:Rd.jP}(h:Ref.Ud r):Q6 (kJ r):=
 ⟨h.eff,h.who,h.act,h.on,by show (r.cs.map toS).length<=5;rw[zN];exact h.len,λc e=>by
  rw[show (kJ r).ifs=r.cs.map toS from rfl,ql] at e
  obtain⟨x,f,rfl⟩:=e;obtain⟨a,b,d⟩:=h.cs x f;exact⟨a,b,d⟩⟩
def printed(s:BA):BA:=if (Rd.x9 s).1=0 then Ref.uL (QO s) else ⟨#[]⟩
theorem Vp{EL:Value}{T:TypeId}{y:Value}(a:EL = .iface T y){c:Int}{q:Nat}{u:Value}(h:Ql EL c q u):(c=0/\u = .nilIface)\/(c≠0/\∃T y,u = .iface T y):=by
 cases h with
 | ok=>exact .inl ⟨rfl,rfl⟩
 | long=>exact .inr ⟨by decide,T,y,a⟩
 | text c q b=>
  refine .inr ⟨by unfold Rd.Code at b;omega,?_⟩;unfold Zc
  split
  ·exact⟨_,_,rfl⟩
  ·split
   ·exact⟨_,_,rfl⟩
   ·exact⟨_,_,rfl⟩
 | doc p=>exact .inr ⟨by decide,_,_,rfl⟩
 | shape n p=>exact .inr ⟨by decide,_,_,rfl⟩
 | pat n k=>exact .inr ⟨by decide,_,_,rfl⟩
theorem PU(s:BA)(F:Addr)(w:World)(z:Qk w F) :
  Calls prog 15 #[.string s] w λe V=>e = .returned (.tuple #[.string (printed s),.int .i64 (Rd.x9 s).1])/\Below w.heap.size w V:=by
 have c1:=mD s w _ _ _ rfl z.q
 have a:(Rd.x9 s).1=0->(∀x ∈ xP s,Q6 x)/\(xP s).length<=10/\xu (xP s)=Ref.uL (QO s):=by
  intro l;obtain⟨G,Q,R⟩:=fF s l;have U:xP s=(QO s).map kJ:=R;rw[U];refine⟨λx A=>?_,by rw[zN];exact Q,(sN _ (λr C=>(G r C).1)).symm⟩;rw[ql] at A;obtain⟨r,C,rfl⟩:=A;exact wH (G r C).2
 unfold printed;obtain⟨⟨c,q⟩,o⟩:∃x,Rd.x9 s=x:=⟨_,rfl⟩;rw[o] at c1 a |-;unfold XC at c1;simp only at c1 a |-;have c2:=λW u (hb:Below w.heap.size w W) h=>mZ c q u F W (z.below hb).q.p.d.err (z.below hb).q.long h;have E:=hid c1;have M:=hid c2;clear z o c1 c2
 by_cases l:c=0
 ·rw[zb l];obtain⟨I,J,K⟩:=a l;rw[<- K];have c3:=λW L base (h:yo W base L (xP s))=>sJ (xP s) L base W h J I;obtain⟨D,H⟩:=Nm (xu (xP s));simp only[H] at c3 |-;have N:=hid c3;subst l;clear c3 H I J K a;go_enter func15,ntmps15
  go_wp2_with (first
   | (go_at_call 35;refine (N.out _ _ _ O.out).mono ?_;rintro e X ⟨rfl,g⟩;have k:=hid (f.out.trans (g.mono f.out.size));clear g)
   | (go_at_call 32;refine E.out.mono ?_;rintro e B ⟨t,n,v,u,rfl,m,b,i⟩;rcases Vp rfl m with ⟨_,rfl⟩|⟨hne,_⟩;rotate_left;exact absurd rfl hne;have f:=hid (b.alloc b.size (.cells #[.slice t n v] 72));have O:Hid (yo (B.alloc (.cells #[.slice t n v] 72)) w.heap.size (.slice t n v) (xP s)):=(by obtain⟨xs,A,hcs⟩:=i rfl;exact⟨xs,ownsRow_below A (nB B _),λj S=>(hcs j S).below (nB B _)⟩);clear i m b))
  go_ret2;exact⟨rfl,k.out⟩
 ·rw[za l];clear a;go_enter func15,ntmps15
  go_wp2_with (first
   | (go_at_call 33;refine (M.out _ _ f.out P.out).mono ?_;rintro e X ⟨rfl,g⟩;have k:=hid (f.out.trans (g.mono f.out.size));clear g)
   | (go_at_call 32;refine E.out.mono ?_;rintro e B ⟨t,n,v,u,rfl,m,b,i⟩;have P:=hid m;rcases Vp rfl m with ⟨h00,_⟩|⟨_,T,y,rfl⟩;exact absurd h00 l;have f:=hid (b.alloc b.size (.cells #[.slice t n v] 72));clear i m b))
  go_ret2;exact⟨rfl,k.out⟩
namespace Kp
open Rd Ref
theorem PX(s:BA)(h:(x9 s).1=0):printed s=xu (xP s):=by
 obtain⟨a,_,b⟩:=fF s h;unfold printed;rw[zb h,sN _ (λr c=>(a r c).1)];exact congrArg xu b.symm
theorem PV(l:List zt):printed (xu (qK l))=xu (qK l):=by rw[PX _ (by rw[dW]),Av]
end Kp
end Go.Proofs.YtdakgnaojakldaaGreatDoor
namespace Go.Proofs.YtdakgnaojakldaaGreatDoor
open Go.Shelf
def Tryz.lays106_ren:Go.Shelf.Ren:=⟨λ|106=>136|213=>186|265=>224|n=>n,λ|9=>9|3=>3|n=>n,λ|n=>n⟩
theorem Tryz.lays106:Go.Proofs.Lays.n106 prog Tryz.lays106_ren:={
 mixed:=by kernel_rfl
 f106:=func136.trans (congrArg some (by kernel_rfl))
 f213:=func186.trans (congrArg some (by kernel_rfl))
 f265:=func224.trans (congrArg some (by kernel_rfl))
 t3:=underlying3
 a3:=Tryz.isAgg3
 z3:=Tryz.sizeOf3
 v3:=Tryz.zeroValue3
 t9:=underlying9
 a9:=Tryz.isAgg9
 z9:=Tryz.sizeOf9
 v9:=Tryz.zeroValue9 }
def Tryz.laysPu25_ren:Go.Shelf.Ren:=⟨λ|25=>137|n=>n,λ|9=>9|3=>3|4=>4|37=>256|0=>0|47=>322|5=>5|n=>n,λ|n=>n⟩
theorem Tryz.laysPu25:Go.Proofs.LaysPu.n25 prog Tryz.laysPu25_ren:={
 mixed:=by kernel_rfl
 f25:=func137.trans (congrArg some (by kernel_rfl))
 t0:=underlying0
 a0:=Tryz.isAgg0
 z0:=Tryz.sizeOf0
 v0:=Tryz.zeroValue0
 i0:=by kernel_rfl
 t3:=underlying3
 a3:=Tryz.isAgg3
 z3:=Tryz.sizeOf3
 v3:=Tryz.zeroValue3
 i3:=by kernel_rfl
 t4:=underlying4
 a4:=Tryz.isAgg4
 z4:=Tryz.sizeOf4
 v4:=Tryz.zeroValue4
 i4:=by kernel_rfl
 t5:=underlying5
 a5:=Tryz.isAgg5
 z5:=Tryz.sizeOf5
 v5:=Tryz.zeroValue5
 i5:=by kernel_rfl
 t9:=underlying9
 a9:=Tryz.isAgg9
 z9:=Tryz.sizeOf9
 v9:=Tryz.zeroValue9
 i9:=by kernel_rfl
 t37:=underlying256
 a37:=Tryz.isAgg256
 z37:=Tryz.sizeOf256
 v37:=Tryz.zeroValue256
 i37:=by kernel_rfl
 t47:=underlying322
 a47:=Tryz.isAgg322
 z47:=Tryz.sizeOf322
 v47:=Tryz.zeroValue322
 i47:=by kernel_rfl }
def Tryz.lays8grow_ren:Go.Shelf.Ren:=⟨λ|4=>138|n=>n,λ|22=>98|25=>187|3=>3|4=>4|9=>9|20=>20|0=>0|n=>n,λ|n=>n⟩
theorem Tryz.lays8grow:Go.Proofs.Lays8.n4 prog Tryz.lays8grow_ren:={
 mixed:=by kernel_rfl
 f4:=⟨Tryz.f138.name,by decide,func138.trans (congrArg some (by kernel_rfl))⟩
 t0:=underlying0
 a0:=Tryz.isAgg0
 z0:=Tryz.sizeOf0
 v0:=Tryz.zeroValue0
 t3:=underlying3
 a3:=Tryz.isAgg3
 z3:=Tryz.sizeOf3
 v3:=Tryz.zeroValue3
 t4:=underlying4
 a4:=Tryz.isAgg4
 z4:=Tryz.sizeOf4
 v4:=Tryz.zeroValue4
 t9:=underlying9
 a9:=Tryz.isAgg9
 z9:=Tryz.sizeOf9
 v9:=Tryz.zeroValue9
 t20:=underlying20
 a20:=Tryz.isAgg20
 z20:=Tryz.sizeOf20
 v20:=Tryz.zeroValue20
 t22:=underlying98
 a22:=Tryz.isAgg98
 z22:=Tryz.sizeOf98
 v22:=Tryz.zeroValue98 }
end Go.Proofs.YtdakgnaojakldaaGreatDoor
