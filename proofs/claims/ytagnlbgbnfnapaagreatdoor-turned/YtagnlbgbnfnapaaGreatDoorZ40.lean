/- P -/
import Derived.Test.YtagnlbgbnfnapaaGreatDoorZ39
open Go.Proofs.Tryz hiding parts
set_option maxRecDepth 100000
set_option maxHeartbeats 1000000
namespace Go.Proofs.YtagnlbgbnfnapaaGreatDoor
open Go.RowKit
namespace Pg
theorem Ab(a:List (Int×BA))(j:Nat)(h:j<a.length):(jb a)[j*2]?=some (.int .i32 (xz a[j]))/\(jb a)[j*2+1]?=some (.string (nameOf a[j])):=by
 induction a generalizing j with
 | nil=>simp at h
 | cons p a b=>
  have e:jb (p::a) = .int .i32 (xz p) :: .string (nameOf p)::jb a:=by simp[jb]
  rw[e]
  cases j with
  | zero=>simp
  | succ j=>
   have:=b j (by simpa using h)
   rw[show (j+1)*2=(j*2)+1+1 by omega,show (j*2)+1+1+1=(j*2+1)+1+1 by omega]
   simpa using this
def At(w:World)(v:Value)(a:List (Int×BA)):Prop:=
 ∃ao cap,v = .slice ao a.length cap/\(a=[]\/∃b o,ao=some ⟨b,o,none⟩/\∀j,(h:j<a.length)->w.cell? ⟨b,o+j*2,none⟩=some (.int .i32 (xz a[j]))/\w.cell? ⟨b,o+j*2+1,none⟩=some (.string (nameOf a[j])))
theorem At.below{w d:World}{v:Value}{c:List (Int×BA)}(h:At w v c)(hb:Below w.heap.size w d):At d v c:=by
 obtain⟨ao,cap,e,h⟩:=h;refine⟨ao,cap,e,?_⟩
 rcases h with h|⟨b,o,ha,hc⟩
 ·exact .inl h
 ·exact .inr ⟨b,o,ha,λj a=>⟨zh hb (hc j a).1,zh hb (hc j a).2⟩⟩
theorem Ex{w:World}{base:Nat}{e:TypeId}{v:Value}{n:Nat}{b:List (Int×BA)}(l:n=b.length)(h:w.ownsRow base e 2 v n (jb b)):At w v b:=by
 subst l;have a:=λg i=>h.cells (g:=g) i
 rcases h.2 with ⟨rfl,h0⟩|⟨g,cap,cur,rfl,_⟩
 ·exact⟨none,0,by rw[h0],.inl (Vx h0)⟩
 ·refine⟨_,cap,rfl,.inr ⟨g,0,rfl,λj k=>?_⟩⟩;have f:=Ab b j k;have c:=a g rfl _ _ f.1;have d:=a g rfl _ _ f.2;rw[VE] at c d;exact⟨by rw[qM];exact c,by rw[qM];exact d⟩
def uP(q:List (Int×BA)):List Value:=q.map λp => .int .i32 (xz p)
theorem Bq(a b:List (Int×BA)):uP (a++b)=uP a++uP b:=by simp[uP]
theorem TP(cs:List BA):uP (cs.map λc=>((1:Int),c))=cs.map Xg:=by
 unfold uP;rw[jw];apply Jt;intro c _
 rfl
end Pg
theorem Tryz.infoRune:(prog.info? 21).map (λi=>(i.zero,i.size,i.bytes))=some (some (.int .i32 0),1,4):=by kernel_rfl
theorem Bh(s:BA)(w:World)(h:s.size<=1000)(f:(Ref.chars s).isSome=true):∃C O,(convert 9 307 (.string s)).run prog w = .ok (.slice (some ⟨w.heap.size,0,none⟩) ((Ref.chars s).getD []).length C) (w.alloc O).drew
  /\ ∀j u,(((Ref.chars s).getD []).map Pg.Xg)[j]?=some u->(w.alloc O).drew.cell? ⟨w.heap.size,j,none⟩=some u:=by
 have a:=Pg.SX s f;have g:=Ref.bu s;have d:(Conv.runesFrom s s.size 0 #[]).size=((Ref.chars s).getD []).length:=by rw[a];simp
 have c:=run_runes_of_string (P:=prog) w 9 307 21 s underlying9 underlying307 underlying21 (by rw[d];omega);rw[d] at c;refine⟨_,_,c,λj u b=>?_⟩;show (w.alloc _).cell? _=_;rw[JE _ _ _ _ rfl,a];have e:j<(((Ref.chars s).getD []).map Pg.Xg).length:=(xw.1 b).1;rw[Array.getElem?_append_left (by simpa using e)]
 simpa using b
theorem EA{w wr c:World}{e:TypeId}{size:Nat}{v:Value}{n:Nat}{xs:List Value}(a:Below w.heap.size w wr)(b:wr.ownsRow w.heap.size e size v n xs)
  (d:wr.grownBy c v.ownBlock):Below w.heap.size w c:=
 a.grown d a.size (λk f=>(b.lt k f).1)
theorem TQ(r:Ref.Req)(a:List (Int×BA))(lv:Value)(g:Nat)(lb:Array Value)(w:World)(X:Pg.At w lv a)(c5:a.length<=60)
  (q:∀p ∈ a,p.1=4->(p.2.toList==[])=false)(y:∀n v,Ref.says r n=some v->v.size<=100/\(Ref.chars v).isSome=true)
  (eg:∀args w,(callFunc g args).run prog w = .ok (.enter g args) w)
  (hg:∀W name,Below w.heap.size w W->Calls prog g (#[.string name]++lb) W λe Y=>e = .returned (.tuple #[.string ((Ref.says r name).getD ⟨#[]⟩),.bool (Ref.says r name).isSome])/\Below W.heap.size W Y) :
  Calls prog 158 #[lv,.func (.func g) #[] lb] w λe Y=>∃v,e = .returned (.tuple #[v,.bool (Ref.laid r a).isSome])/\Below w.heap.size w Y /\
   Y.ownsRow w.heap.size 21 1 v ((Ref.laid r a).getD []).length (Pg.uP ((Ref.laid r a).getD []))/\((Ref.laid r a).getD []).length<=6000:=by
 obtain⟨i0,hi,S,T,U⟩:=jl Tryz.infoRune;have hP:Ref.laid r a=(Ref.laid r (a.drop 0)).map λb=>[]++b:=by simp
 generalize a1:Ref.laid r a=P at *;clear a1;have HP:=hid hP;have HS:=hid y;have HN:=hid q;clear hP y q;obtain⟨lo,D,rfl,X⟩:=X;have Q:Pg.At w (.slice lo a.length D) a:=⟨lo,D,rfl,X⟩;clear X;have HL:=hid Q;clear Q;go_enter func158,ntmps158
 go_wp2
 go_loopw [6,13] (λov iv wr=>∃(k:Nat) (done:List (Int×BA)),k<=a.length/\iv = .int .i64 k/\P=((Ref.laid r (a.drop k)).map λb=>done++b)/\done.length<=100*k /\
   wr.ownsRow w.heap.size 21 1 ov done.length (Pg.uP done)/\Below w.heap.size w wr) (λ_ iv _=>a.length-(intOf iv).toNat)
 case atStart=>exact⟨0,[],by omega,rfl,HP.out,by simp,jR _ _ _ _,zi _ _⟩
 case round=>
  obtain⟨k,done,hk,rfl,L,c2,i,d⟩:=hrel;have s:=hid L;have Z:Hid (Pg.At wr (.slice lo a.length D) a):=HL.out.below d;have y:=d.size;clear L HP
  by_cases hlt:k<a.length
  ·obtain⟨c1,b0,he,a2⟩:=Z.out;simp only[Value.slice.injEq,true_and] at he;obtain⟨rfl,rfl⟩:=he
   rcases a2 with rfl|⟨b,o,rfl,hc⟩
   ·simp at hlt
   obtain⟨q1,q2⟩:=hc k hlt;have b3:(k:Int)<(a.length:Int):=by omega
   obtain⟨sg,A⟩:∃n,Pg.xz a[k]=n:=⟨_,rfl⟩;obtain⟨nm,q⟩:∃n,Pg.nameOf a[k]=n:=⟨_,rfl⟩;rw[A] at q1;rw[q] at q2;have K:=λO=>nB wr O
   by_cases h4:a[k].1=4
   ·have h:a[k].2=nm:=by rw[<- q];unfold Pg.nameOf;rw[zb h4]
    have c4:(nm.toList==[])=false:=by rw[<- h];exact HN.out _ (xg hlt) h4
    have cs:=λW hb=>hg W nm hb
    cases hsy:Ref.says r nm with
    | none=>
     have hf:=Ref.Ng r a k hlt done P s.out (by unfold Ref.XR;rw[zb h4,h,hsy];rfl);subst hf;rw[hsy] at cs;simp only[Q0,kU] at cs;clear hsy s hc A q h4 h
     go_wp2_with (go_at_fn g;refine (cs _ (d.trans ((K _).mono y))).mono ?_;rintro e J ⟨rfl,t⟩)
     go_ret2;exact⟨_,rfl,d.trans (((K _).trans (t.mono (by simp))).mono y),jR _ _ _ _,by simp⟩
    | some v=>
     obtain⟨a5,R⟩:=HS.out nm v hsy;have m:Ref.XR r a[k]=some (((Ref.chars v).getD []).map λc=>((1:Int),c)):=by unfold Ref.XR;rw[zb h4,h,hsy];rfl
     have a3:=Ref.bu v;have I:=λW=>Bh v W (by omega) R;obtain⟨V,M⟩:∃cs,(Ref.chars v).getD []=cs:=⟨_,rfl⟩;simp only[M] at m a3 I;have z:=Ref.sj r a k hlt done P s.out _ m;have F:=hid z;rw[hsy] at cs;simp only[yO,uw] at cs;clear hsy s hc A q h4 h m z M R
     go_wp2_with (first
      | (go_at_fn g;refine (cs _ (d.trans ((K _).mono y))).mono ?_;rintro e J ⟨rfl,t⟩;obtain⟨C,O,N,E⟩:=I J)
      | (at_builtin;refine YF _ rfl _ _ 307 rfl w.heap.size 21 i0 (.int .i32 0) 1 4 underlying307 hi S T U rfl (by decide) _ done.length (Pg.uP done) rfl ?_ ⟨J.heap.size,0,none⟩ V.length C (V.map Pg.Xg) rfl ?_ ?_ ?_ ?_ ?_ ?_ ?_))
     ·exact ownsRow_below i (((K _).trans (t.mono (by simp))).trans (((nB J O).drew).mono (by have:=t.size;simp at this;omega)))
     ·simp
     ·intro j u B;rw[VE];exact E j u B
     ·intro u B;obtain⟨c,_,rfl⟩:=qR.1 B
      rfl
     ·unfold maxLen;omega
     ·omega
     ·have:=t.size;simp at this |-;omega
     ·intro v' w1 l f _;have G:Below wr.heap.size wr (J.alloc O).drew:=((K _).trans (t.mono (by simp))).trans (((nB J O).drew).mono (by have:=t.size;simp at this;omega));have H:=EA (d.trans (G.mono y)) (ownsRow_below i G) f
      have x:w1.ownsRow w.heap.size 21 1 v' (done++V.map λc=>((1:Int),c)).length (Pg.uP (done++V.map λc=>((1:Int),c))):=by
       rw[Pg.Bq,Pg.TP,qL,qg];exact l
      clear l f i cs I t E N G
      go_wp2
      go_roundw
      case rel=>exact⟨k+1,_,by omega,by go_num,F.out,by simp;omega,x,H⟩
      case measure=>simp[intOf];omega
   ·have h:nm=⟨#[]⟩:=by rw[<- q];unfold Pg.nameOf;rw[za h4]
    have m:Ref.XR r a[k]=some [a[k]]:=by unfold Ref.XR;rw[za h4]
    have z:=Ref.sj r a k hlt done P s.out _ m;have F:=hid z;have a0:=hid A;subst h;clear m z s hc A q h4
    go_wp2_with (at_builtin;refine YF _ rfl _ _ 307 rfl w.heap.size 21 i0 (.int .i32 0) 1 4 underlying307 hi S T U rfl (by decide) _ done.length (Pg.uP done) rfl ((i.alloc _).alloc _) ⟨wr.heap.size+1,0,none⟩ 1 1 [.int .i32 sg] rfl rfl ?_ ?_ ?_ ?_ ?_ ?_)
    ·intro j u B;rw[VE]
     match j,B with
     | 0,B=>simp at B;subst B;simp
    ·intro u B;simp at B;subst B;rfl
    ·unfold maxLen;omega
    ·omega
    ·simp;omega
    ·intro v' w1 l f _;have H:=nu d i _ _ f
     have x:w1.ownsRow w.heap.size 21 1 v' (done++[a[k]]).length (Pg.uP (done++[a[k]])):=by
      have e:Pg.uP [a[k]]=[.int .i32 sg]:=by unfold Pg.uP;simp[a0.out]
      rw[Pg.Bq,e,qL];exact l
     clear l f i
     go_wp2
     go_roundw
     case rel=>exact⟨k+1,_,by omega,by go_num,F.out,by simp;omega,x,H⟩
     case measure=>simp[intOf];omega
  ·have hf:=Ref.Nc r a k hlt done P s.out;subst hf;clear s
   go_wp2
   go_ret2;exact⟨_,rfl,d,i,by simp;omega⟩
namespace Pg
open Ref
theorem dD(a b w:List Int):Gl (a++b) w↔∃j,j<=w.length/\Gl a (w.take j)/\Gl b (w.drop j):=by
 induction a generalizing w with
 | nil=>
  constructor
  ·intro h;exact⟨0,by omega,by simpa using Gl.nil,by simpa using h⟩
  ·rintro ⟨j,g,e,d⟩;rw[VS] at e
   have:w.drop j=w:=by
    rcases List.take_eq_nil_iff.1 e with rfl|rfl
    ·simp
    ·simp
   rw[this] at d;exact d
 | cons s a l=>
  by_cases hs:s = -2
  ·subst hs;rw[kQ,Xc]
   constructor
   ·rintro ⟨i,hi,f⟩;obtain⟨j,g,e,d⟩:=(l _).1 f;rw[Zu] at g;refine⟨i+j,by omega,(Xc _ _).2 ⟨i,by simp;omega,?_⟩,by rw[Xw] at d;exact d⟩;rw[List.drop_take,show i+j-i=j by omega];exact e
   ·rintro ⟨m,p,e,d⟩;obtain⟨i,hi,f⟩:=(Xc _ _).1 e;simp at hi;refine⟨i,by omega,(l _).2 ⟨m-i,by simp;omega,?_,?_⟩⟩
    ·rw[List.drop_take] at f;exact f
    ·rw[Xw,show i+(m-i)=m by omega];exact d
  ·rw[kQ,Y3 _ _ _ hs]
   constructor
   ·rintro ⟨c,o,rfl,n,f⟩;obtain⟨j,g,e,d⟩:=(l _).1 f;exact⟨j+1,by simp;omega,.one hs n (by simpa using e),by simpa using d⟩
   ·rintro ⟨j,g,e,d⟩;obtain⟨c,o,k,n,f⟩:=(Y3 _ _ _ hs).1 e
    cases w with
    | nil=>simp at k
    | cons x w=>
     cases j with
     | zero=>simp at k
     | succ j=>
      simp at k;obtain⟨rfl,rfl⟩:=k;exact⟨x,w,rfl,n,(l _).2 ⟨j,by simpa using g,f,by simpa using d⟩⟩
theorem Lv(w:List Int):Gl [-2] w:=(Xc _ _).2 ⟨w.length,ze _,by rw[Vw];exact .nil⟩
theorem LF(a w:List Int):Gl (a++[-2]) w↔∃j,j<=w.length/\Gl a (w.take j):=by
 rw[dD]
 constructor
 ·rintro ⟨j,b,c,_⟩;exact⟨j,b,c⟩
 ·rintro ⟨j,b,c⟩;exact⟨j,b,c,Lv _⟩
theorem dE(s:Int)(d:s ≠ -2)(v:List Int):Gl [s] v↔∃c,v=[c]/\(s = -1\/s=c):=by
 rw[Y3 _ _ _ d]
 constructor
 ·rintro ⟨c,e,rfl,a,b⟩;rw[VS] at b;subst b;exact⟨c,rfl,a⟩
 ·rintro ⟨c,rfl,a⟩;exact⟨c,[],rfl,a,.nil⟩
theorem LB(a u:List Int)(s c:Int)(g:s ≠ -2):Gl (a++[s]) (u++[c])↔(s = -1\/s=c)/\Gl a u:=by
 rw[dD]
 constructor
 ·rintro ⟨j,k,f,h⟩;obtain⟨d,hd,b⟩:=(dE s g _).1 h;have l:=congrArg List.length hd;simp at l k;have e:j=u.length:=by omega
  subst e;rw[af] at hd;rw[aB] at f;simp at hd;subst hd;exact⟨b,f⟩
 ·rintro ⟨b,i⟩;exact⟨u.length,by simp,by rw[aB];exact i,by rw[af];exact (dE s g _).2 ⟨c,rfl,b⟩⟩
theorem LD(a:List Int)(s:Int)(e:s ≠ -2):¬Gl (a++[s]) []:=by
 intro h;obtain⟨j,g,f,b⟩:=(dD _ _ _).1 h;obtain⟨c,d,_⟩:=(dE s e _).1 b;simp at d
def rI(c:BA):Int:=((jX c:Nat):Int)
def Kn(p:Int×BA):Prop:=p.1=3\/p.1=2\/(p.1=1/\Qj p.2)
theorem zav(cs:List BA)(m:Nat)(h:m<cs.length):(cs.take (m+1)).map rI=(cs.take m).map rI++[rI cs[m]]:=by
 rw[Xy h,jN];rfl
theorem FQ(cs:List BA)(i:∀c ∈ cs,Qj c)(b:List (Int×BA))(e:∀p ∈ b,Kn p)(k:Nat)(l:k<=cs.length) :
  kw cs b k=true↔Gl (b.reverse.map xz) ((cs.take k).map rI):=by
 induction b generalizing k with
 | nil=>
  simp only[kw,List.reverse_nil,Zv,VS,Zz,List.map_eq_nil_iff,List.take_eq_nil_iff]
  constructor
  ·intro h;exact .inl h
  ·rintro (h|h)
   ·exact h
   ·subst h;simpa using l
 | cons p b v=>
  have a:=λk l=>v (λq u=>e q (by simp[u])) k l;rw[List.reverse_cons,jN];simp only[vw,Zv]
  by_cases h3:p.1=3
  ·have n:xz p = -2:=by unfold xz;rw[zb h3]
   rw[n,LF];simp only[kw,h3,qO,uT,vQ]
   constructor
   ·rintro ⟨j,r,t⟩;refine⟨j,by simp;omega,?_⟩;rw[<- List.map_take,List.take_take,show min j k=j by omega];exact (a j (by omega)).1 t
   ·rintro ⟨j,r,o⟩;simp at r;refine⟨j,by omega,(a j (by omega)).2 ?_⟩;rw[<- List.map_take,List.take_take,show min j k=j by omega] at o;exact o
  ·have d:xz p ≠ -2:=by
    unfold xz;rw[za h3]
    split
    ·decide
    ·split
     ·decide
     ·omega
   cases k with
   | zero=>
    rw[FT cs p b h3];simp only[List.take_zero,Zv]
    constructor
    ·intro h;cases h
    ·intro h;exact absurd h (LD _ _ d)
   | succ m=>
    rw[zav cs m (by omega),LB _ _ _ _ d]
    by_cases h2:p.1=2
    ·rw[FP cs p b h2 (m+1) (by omega),show m+1-1=m by omega,a m (by omega)]
     have:xz p = -1:=by unfold xz;rw[za h3,zb h2]
     rw[this];simp
    ·have s:p.1=1/\Qj p.2:=by
      rcases e p (by simp) with h|h|h
      ·exact absurd h h3
      ·exact absurd h h2
      ·exact h
     have n:xz p=rI p.2:=by unfold xz;rw[za h3,za h2,za (by omega)];rfl
     rw[FR cs p b h3 h2 (m+1) (by omega) (by omega),n,uo];simp only[Nat.add_sub_cancel];rw[a m (by omega),SV p.2 cs[m] s.2 (i _ (xg _)),jk];unfold rI
     constructor
     ·rintro ⟨f,g⟩;exact⟨.inr (by rw[g]),f⟩
     ·rintro ⟨f|f,g⟩
      ·omega
      ·exact⟨g,by omega⟩
theorem FU(cs:List BA)(b:∀c ∈ cs,Qj c)(a:List (Int×BA))(d:∀p ∈ a,Kn p):covers a cs=true↔Gl (a.map xz) (cs.map rI):=by
 unfold covers;rw[FQ cs b a.reverse (λp e=>d p (List.mem_reverse.1 e)) cs.length (ze _),List.reverse_reverse,List.take_length]
def Vd(p:Int×BA):Prop:=Kn p\/(p.1=4/\qm p.2=true)
theorem ME(s:BA)(k:Nat)(b:k<s.size)(h:(s.data.toList.getD k 0).toNat<128):Qj (s.extract k (k+1)):=by
 have a:k<s.data.toList.length:=by rw[zP];exact b
 refine⟨(s.data.toList.getD k 0).toNat,by omega,?_⟩;unfold nums
 have:(s.extract k (k+1)).data.toList=[s.data.toList.getD k 0]:=by
  rw[Jn,Uu,zQ,zt a];simp only[ai,yO];rw[ZQ a]
  simp
 rw[this];unfold Qy;rw[zb h];rfl
theorem GM(s:BA)(h:(Qw s).2.2≠0):Vd ((Qw s).1,(Qw s).2.1):=by
 unfold Qw at h |-
 split at h
 ·exact absurd rfl h
 rename_i c;rw[za c]
 split at h
 ·rename_i a;rw[zb a];exact .inl (.inr (.inr ⟨rfl,ME s 1 (by omega) (by omega)⟩))
 rename_i a;rw[za a]
 split at h
 ·rename_i d;rw[zb d]
  split at h
  ·rename_i e;rw[zb e]
   split at h
   ·rename_i b;rw[zb b];exact .inr ⟨rfl,b⟩
   ·exact absurd rfl h
  ·exact absurd rfl h
 ·exact absurd rfl h
theorem PU(s:BA)(c:0<s.size)(k:Int)(t:BA)(n:Nat)(h:yK s=some (k,t,n)):Vd (k,t):=by
 unfold yK at h
 split at h
 ·simp at h
 rename_i b
 split at h
 ·simp at h;obtain⟨rfl,rfl,rfl⟩:=h;exact .inl (.inl rfl)
 split at h
 ·simp at h;obtain⟨rfl,rfl,rfl⟩:=h;exact .inl (.inr (.inl rfl))
 split at h
 ·split at h
  ·simp at h
  ·rename_i a
   have:=GM s a
   simp at h;rw[h] at this;exact this
 ·simp at h;obtain⟨rfl,rfl,rfl⟩:=h
  rcases VQ s c with ⟨ho2,_⟩|⟨_,hc,_⟩
  ·exact absurd ho2 b
  ·exact .inl (.inr (.inr ⟨rfl,hc⟩))
theorem Rk(f:Nat)(s:BA)(l:List (Int×BA))(h:vK f s=some l):∀p ∈ l,Vd p:=by
 induction f generalizing s l with
 | zero=>simp[vK] at h
 | succ f d=>
  rw[vK] at h
  split at h
  ·simp at h;subst h;simp
  rename_i e
  split at h
  ·simp at h
  ·rename_i k t n c;obtain⟨r,b,rfl⟩:=vR.1 h;intro p a
   rcases vz.1 a with rfl|a
   ·exact PU s (by omega) k t n c
   ·exact d _ _ b p a
theorem Ro(s:BA):∀p ∈ (parts s).getD [],Vd p:=by
 cases h:parts s with
 | none=>simp
 | some l=>
  unfold parts at h
  split at h
  ·simp at h
  ·exact Rk _ _ _ h
theorem Nf(r:Req)(g:List (Int×BA))(f:∀p ∈ g,Vd p)(q:List (Int×BA))(h:laid r g=some q):∀p ∈ q,Kn p:=by
 induction g generalizing q with
 | nil=>simp[laid] at h;subst h;simp
 | cons p g l=>
  rw[laid] at h
  split at h
  ·simp at h
  ·rename_i a e;obtain⟨b,hb,rfl⟩:=vR.1 h;intro x d
   rcases ZT.1 d with d|d
   ·unfold XR at e
    split at e
    ·obtain⟨v,m,rfl⟩:=vR.1 e;obtain⟨c,j,rfl⟩:=qR.1 d;exact .inr (.inr ⟨rfl,nO v c j⟩)
    ·rename_i i;simp at e;subst e;simp at d;subst d
     rcases f x (by simp) with h|⟨h,_⟩
     ·exact h
     ·exact absurd h i
   ·exact l (λp k=>f p (by simp[k])) b hb x d
theorem OB(s:BA)(h:qm s=true):(s.toList==[])=false:=by
 unfold qm at h;simp at h;rw[xh,YP];intro e
 have:=zP s
 rw[e] at this;simp at this;omega
end Pg
end Go.Proofs.YtagnlbgbnfnapaaGreatDoor
