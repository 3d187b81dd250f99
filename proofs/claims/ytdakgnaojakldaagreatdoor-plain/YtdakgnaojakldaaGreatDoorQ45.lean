/- P -/
import Derived.Test.YtdakgnaojakldaaGreatDoorQ44
open Go.Proofs.Tryz hiding parts
set_option maxRecDepth 100000
set_option maxHeartbeats 1000000
namespace Go.Proofs.YtdakgnaojakldaaGreatDoor
open Go.RowKit
namespace Pg
theorem rY(a:List (Int×BA))(j:Nat)(h:j<a.length):(yX a)[j*2]?=some (.int .i32 (qX a[j]))/\(yX a)[j*2+1]?=some (.string (nameOf a[j])):=by
 induction a generalizing j with
 | nil=>simp at h
 | cons p a b=>
  have e:yX (p::a) = .int .i32 (qX p) :: .string (nameOf p)::yX a:=by simp[yX]
  rw[e]
  cases j with
  | zero=>simp
  | succ j=>
   have:=b j (by simpa using h)
   rw[show (j+1)*2=(j*2)+1+1 by omega,show (j*2)+1+1+1=(j*2+1)+1+1 by omega]
   simpa using this
def At(w:World)(v:Value)(a:List (Int×BA)):Prop:=
 ∃ao cap,v = .slice ao a.length cap/\(a=[]\/∃b o,ao=some ⟨b,o,none⟩/\∀j,(h:j<a.length)->w.cell? ⟨b,o+j*2,none⟩=some (.int .i32 (qX a[j]))/\w.cell? ⟨b,o+j*2+1,none⟩=some (.string (nameOf a[j])))
theorem At.below{w d:World}{v:Value}{c:List (Int×BA)}(h:At w v c)(hb:Below w.heap.size w d):At d v c:=by
 obtain⟨ao,cap,e,h⟩:=h;refine⟨ao,cap,e,?_⟩
 rcases h with h|⟨b,o,ha,hc⟩
 ·exact .inl h
 ·exact .inr ⟨b,o,ha,λj a=>⟨zg hb (hc j a).1,zg hb (hc j a).2⟩⟩
theorem CY{w:World}{base:Nat}{e:TypeId}{v:Value}{n:Nat}{b:List (Int×BA)}(l:n=b.length)(h:w.ownsRow base e 2 v n (yX b)):At w v b:=by
 subst l;have a:=λg i=>h.cells (g:=g) i
 rcases h.2 with ⟨rfl,h0⟩|⟨g,cap,cur,rfl,_⟩
 ·exact⟨none,0,by rw[h0],.inl (J7 h0)⟩
 ·refine⟨_,cap,rfl,.inr ⟨g,0,rfl,λj k=>?_⟩⟩;have f:=rY b j k;have c:=a g rfl _ _ f.1;have d:=a g rfl _ _ f.2;rw[Vg] at c d;exact⟨by rw[qO];exact c,by rw[qO];exact d⟩
def uk(q:List (Int×BA)):List Value:=q.map λp => .int .i32 (qX p)
theorem wE(a b:List (Int×BA)):uk (a++b)=uk a++uk b:=by simp[uk]
theorem Tk(cs:List BA):uk (cs.map λc=>((1:Int),c))=cs.map QK:=by
 unfold uk;rw[xD];apply XE;intro c _
 rfl
end Pg
theorem Tryz.infoRune:(prog.info? 21).map (λi=>(i.zero,i.size,i.bytes))=some (some (.int .i32 0),1,4):=by kernel_rfl
theorem wu(s:BA)(w:World)(h:s.size<=1000)(f:(Ref.chars s).isSome=true):∃C O,(convert 9 361 (.string s)).run prog w = .ok (.slice (some ⟨w.heap.size,0,none⟩) ((Ref.chars s).getD []).length C) (w.alloc O).drew
  /\ ∀j u,(((Ref.chars s).getD []).map Pg.QK)[j]?=some u->(w.alloc O).drew.cell? ⟨w.heap.size,j,none⟩=some u:=by
 have a:=Pg.Sk s f;have g:=Ref.az s;have d:(Conv.runesFrom s s.size 0 #[]).size=((Ref.chars s).getD []).length:=by rw[a];simp
 have c:=run_runes_of_string (P:=prog) w 9 361 21 s underlying9 underlying361 underlying21 (by rw[d];omega);rw[d] at c;refine⟨_,_,c,λj u b=>?_⟩;show (w.alloc _).cell? _=_;rw[Y8 _ _ _ _ rfl,a];have e:j<(((Ref.chars s).getD []).map Pg.QK).length:=(qY.1 b).1;rw[Array.getElem?_append_left (by simpa using e)]
 simpa using b
theorem Di{w wr c:World}{e:TypeId}{size:Nat}{v:Value}{n:Nat}{xs:List Value}(a:Below w.heap.size w wr)(b:wr.ownsRow w.heap.size e size v n xs)
  (d:wr.grownBy c v.ownBlock):Below w.heap.size w c:=
 a.grown d a.size (λk f=>(b.lt k f).1)
theorem Tm(r:Ref.Req)(a:List (Int×BA))(lv:Value)(g:Nat)(lb:Array Value)(w:World)(X:Pg.At w lv a)(c5:a.length<=60)
  (q:∀p ∈ a,p.1=4->(p.2.toList==[])=false)(y:∀n v,Ref.says r n=some v->v.size<=100/\(Ref.chars v).isSome=true)
  (eg:∀args w,(callFunc g args).run prog w = .ok (.enter g args) w)
  (hg:∀W name,Below w.heap.size w W->Calls prog g (#[.string name]++lb) W λe Y=>e = .returned (.tuple #[.string ((Ref.says r name).getD ⟨#[]⟩),.bool (Ref.says r name).isSome])/\Below W.heap.size W Y) :
  Calls prog 213 #[lv,.func (.func g) #[] lb] w λe Y=>∃v,e = .returned (.tuple #[v,.bool (Ref.laid r a).isSome])/\Below w.heap.size w Y /\
   Y.ownsRow w.heap.size 21 1 v ((Ref.laid r a).getD []).length (Pg.uk ((Ref.laid r a).getD []))/\((Ref.laid r a).getD []).length<=6000:=by
 obtain⟨i0,hi,S,T,U⟩:=yU Tryz.infoRune;have hP:Ref.laid r a=(Ref.laid r (a.drop 0)).map λb=>[]++b:=by simp
 generalize a1:Ref.laid r a=P at *;clear a1;have HP:=hid hP;have HS:=hid y;have HN:=hid q;clear hP y q;obtain⟨lo,D,rfl,X⟩:=X;have Q:Pg.At w (.slice lo a.length D) a:=⟨lo,D,rfl,X⟩;clear X;have HL:=hid Q;clear Q;go_enter func213,ntmps213
 go_wp2
 go_loopw [6,13] (λov iv wr=>∃(k:Nat) (done:List (Int×BA)),k<=a.length/\iv = .int .i64 k/\P=((Ref.laid r (a.drop k)).map λb=>done++b)/\done.length<=100*k /\
   wr.ownsRow w.heap.size 21 1 ov done.length (Pg.uk done)/\Below w.heap.size w wr) (λ_ iv _=>a.length-(intOf iv).toNat)
 case atStart=>exact⟨0,[],by omega,rfl,HP.out,by simp,uw _ _ _ _,zh _ _⟩
 case round=>
  obtain⟨k,done,hk,rfl,L,c2,i,d⟩:=hrel;have s:=hid L;have Z:Hid (Pg.At wr (.slice lo a.length D) a):=HL.out.below d;have y:=d.size;clear L HP
  by_cases hlt:k<a.length
  ·obtain⟨c1,b0,he,a2⟩:=Z.out;simp only[Value.slice.injEq,true_and] at he;obtain⟨rfl,rfl⟩:=he
   rcases a2 with rfl|⟨b,o,rfl,hc⟩
   ·simp at hlt
   obtain⟨q1,q2⟩:=hc k hlt;have b3:(k:Int)<(a.length:Int):=by omega
   obtain⟨sg,A⟩:∃n,Pg.qX a[k]=n:=⟨_,rfl⟩;obtain⟨nm,q⟩:∃n,Pg.nameOf a[k]=n:=⟨_,rfl⟩;rw[A] at q1;rw[q] at q2;have K:=λO=>nB wr O
   by_cases h4:a[k].1=4
   ·have h:a[k].2=nm:=by rw[<- q];unfold Pg.nameOf;rw[zb h4]
    have c4:(nm.toList==[])=false:=by rw[<- h];exact HN.out _ (qH hlt) h4
    have cs:=λW hb=>hg W nm hb
    cases hsy:Ref.says r nm with
    | none=>
     have hf:=Ref.MB r a k hlt done P s.out (by unfold Ref.Xn;rw[zb h4,h,hsy];rfl);subst hf;rw[hsy] at cs;simp only[Qu,kS] at cs;clear hsy s hc A q h4 h
     go_wp2_with (go_at_fn g;refine (cs _ (d.trans ((K _).mono y))).mono ?_;rintro e J ⟨rfl,t⟩)
     go_ret2;exact⟨_,rfl,d.trans (((K _).trans (t.mono (by simp))).mono y),uw _ _ _ _,by simp⟩
    | some v=>
     obtain⟨a5,R⟩:=HS.out nm v hsy;have m:Ref.Xn r a[k]=some (((Ref.chars v).getD []).map λc=>((1:Int),c)):=by unfold Ref.Xn;rw[zb h4,h,hsy];rfl
     have a3:=Ref.az v;have I:=λW=>wu v W (by omega) R;obtain⟨V,M⟩:∃cs,(Ref.chars v).getD []=cs:=⟨_,rfl⟩;simp only[M] at m a3 I;have z:=Ref.oC r a k hlt done P s.out _ m;have F:=hid z;rw[hsy] at cs;simp only[yE,vT] at cs;clear hsy s hc A q h4 h m z M R
     go_wp2_with (first
      | (go_at_fn g;refine (cs _ (d.trans ((K _).mono y))).mono ?_;rintro e J ⟨rfl,t⟩;obtain⟨C,O,N,E⟩:=I J)
      | (at_builtin;refine vL _ rfl _ _ 361 rfl w.heap.size 21 i0 (.int .i32 0) 1 4 underlying361 hi S T U rfl (by decide) _ done.length (Pg.uk done) rfl ?_ ⟨J.heap.size,0,none⟩ V.length C (V.map Pg.QK) rfl ?_ ?_ ?_ ?_ ?_ ?_ ?_))
     ·exact ownsRow_below i (((K _).trans (t.mono (by simp))).trans (((nB J O).drew).mono (by have:=t.size;simp at this;omega)))
     ·simp
     ·intro j u B;rw[Vg];exact E j u B
     ·intro u B;obtain⟨c,_,rfl⟩:=ql.1 B
      rfl
     ·unfold maxLen;omega
     ·omega
     ·have:=t.size;simp at this |-;omega
     ·intro v' w1 l f _;have G:Below wr.heap.size wr (J.alloc O).drew:=((K _).trans (t.mono (by simp))).trans (((nB J O).drew).mono (by have:=t.size;simp at this;omega));have H:=Di (d.trans (G.mono y)) (ownsRow_below i G) f
      have x:w1.ownsRow w.heap.size 21 1 v' (done++V.map λc=>((1:Int),c)).length (Pg.uk (done++V.map λc=>((1:Int),c))):=by
       rw[Pg.wE,Pg.Tk,xm,zN];exact l
      clear l f i cs I t E N G
      go_wp2
      go_roundw
      case rel=>exact⟨k+1,_,by omega,by go_num,F.out,by simp;omega,x,H⟩
      case measure=>simp[intOf];omega
   ·have h:nm=⟨#[]⟩:=by rw[<- q];unfold Pg.nameOf;rw[za h4]
    have m:Ref.Xn r a[k]=some [a[k]]:=by unfold Ref.Xn;rw[za h4]
    have z:=Ref.oC r a k hlt done P s.out _ m;have F:=hid z;have a0:=hid A;subst h;clear m z s hc A q h4
    go_wp2_with (at_builtin;refine vL _ rfl _ _ 361 rfl w.heap.size 21 i0 (.int .i32 0) 1 4 underlying361 hi S T U rfl (by decide) _ done.length (Pg.uk done) rfl ((i.alloc _).alloc _) ⟨wr.heap.size+1,0,none⟩ 1 1 [.int .i32 sg] rfl rfl ?_ ?_ ?_ ?_ ?_ ?_)
    ·intro j u B;rw[Vg]
     match j,B with
     | 0,B=>simp at B;subst B;simp
    ·intro u B;simp at B;subst B;rfl
    ·unfold maxLen;omega
    ·omega
    ·simp;omega
    ·intro v' w1 l f _;have H:=iP d i _ _ f
     have x:w1.ownsRow w.heap.size 21 1 v' (done++[a[k]]).length (Pg.uk (done++[a[k]])):=by
      have e:Pg.uk [a[k]]=[.int .i32 sg]:=by unfold Pg.uk;simp[a0.out]
      rw[Pg.wE,e,xm];exact l
     clear l f i
     go_wp2
     go_roundw
     case rel=>exact⟨k+1,_,by omega,by go_num,F.out,by simp;omega,x,H⟩
     case measure=>simp[intOf];omega
  ·have hf:=Ref.Mv r a k hlt done P s.out;subst hf;clear s
   go_wp2
   go_ret2;exact⟨_,rfl,d,i,by simp;omega⟩
namespace Pg
open Ref
theorem bF(a b w:List Int):Gl (a++b) w↔∃j,j<=w.length/\Gl a (w.take j)/\Gl b (w.drop j):=by
 induction a generalizing w with
 | nil=>
  constructor
  ·intro h;exact⟨0,by omega,by simpa using Gl.nil,by simpa using h⟩
  ·rintro ⟨j,g,e,d⟩;rw[Vs] at e
   have:w.drop j=w:=by
    rcases List.take_eq_nil_iff.1 e with rfl|rfl
    ·simp
    ·simp
   rw[this] at d;exact d
 | cons s a l=>
  by_cases hs:s = -2
  ·subst hs;rw[yZ,QF]
   constructor
   ·rintro ⟨i,hi,f⟩;obtain⟨j,g,e,d⟩:=(l _).1 f;rw[ZK] at g;refine⟨i+j,by omega,(QF _ _).2 ⟨i,by simp;omega,?_⟩,by rw[QW] at d;exact d⟩;rw[List.drop_take,show i+j-i=j by omega];exact e
   ·rintro ⟨m,p,e,d⟩;obtain⟨i,hi,f⟩:=(QF _ _).1 e;simp at hi;refine⟨i,by omega,(l _).2 ⟨m-i,by simp;omega,?_,?_⟩⟩
    ·rw[List.drop_take] at f;exact f
    ·rw[QW,show i+(m-i)=m by omega];exact d
  ·rw[yZ,YA _ _ _ hs]
   constructor
   ·rintro ⟨c,o,rfl,n,f⟩;obtain⟨j,g,e,d⟩:=(l _).1 f;exact⟨j+1,by simp;omega,.one hs n (by simpa using e),by simpa using d⟩
   ·rintro ⟨j,g,e,d⟩;obtain⟨c,o,k,n,f⟩:=(YA _ _ _ hs).1 e
    cases w with
    | nil=>simp at k
    | cons x w=>
     cases j with
     | zero=>simp at k
     | succ j=>
      simp at k;obtain⟨rfl,rfl⟩:=k;exact⟨x,w,rfl,n,(l _).2 ⟨j,by simpa using g,f,by simpa using d⟩⟩
theorem Hq(w:List Int):Gl [-2] w:=(QF _ _).2 ⟨w.length,ze _,by rw[J6];exact .nil⟩
theorem Hw(a w:List Int):Gl (a++[-2]) w↔∃j,j<=w.length/\Gl a (w.take j):=by
 rw[bF]
 constructor
 ·rintro ⟨j,b,c,_⟩;exact⟨j,b,c⟩
 ·rintro ⟨j,b,c⟩;exact⟨j,b,c,Hq _⟩
theorem bG(s:Int)(d:s ≠ -2)(v:List Int):Gl [s] v↔∃c,v=[c]/\(s = -1\/s=c):=by
 rw[YA _ _ _ d]
 constructor
 ·rintro ⟨c,e,rfl,a,b⟩;rw[Vs] at b;subst b;exact⟨c,rfl,a⟩
 ·rintro ⟨c,rfl,a⟩;exact⟨c,[],rfl,a,.nil⟩
theorem Ht(a u:List Int)(s c:Int)(g:s ≠ -2):Gl (a++[s]) (u++[c])↔(s = -1\/s=c)/\Gl a u:=by
 rw[bF]
 constructor
 ·rintro ⟨j,k,f,h⟩;obtain⟨d,hd,b⟩:=(bG s g _).1 h;have l:=congrArg List.length hd;simp at l k;have e:j=u.length:=by omega
  subst e;rw[List.drop_left] at hd;rw[List.take_left] at f;simp at hd;subst hd;exact⟨b,f⟩
 ·rintro ⟨b,i⟩;exact⟨u.length,by simp,by rw[List.take_left];exact i,by rw[List.drop_left];exact (bG s g _).2 ⟨c,rfl,b⟩⟩
theorem Hu(a:List Int)(s:Int)(e:s ≠ -2):¬Gl (a++[s]) []:=by
 intro h;obtain⟨j,g,f,b⟩:=(bF _ _ _).1 h;obtain⟨c,d,_⟩:=(bG s e _).1 b;simp at d
def rI(c:BA):Int:=((jI c:Nat):Int)
def U3(p:Int×BA):Prop:=p.1=3\/p.1=2\/(p.1=1/\ZI p.2)
theorem WP(cs:List BA)(m:Nat)(h:m<cs.length):(cs.take (m+1)).map rI=(cs.take m).map rI++[rI cs[m]]:=by
 rw[QZ h,jm];rfl
theorem Ex(cs:List BA)(i:∀c ∈ cs,ZI c)(b:List (Int×BA))(e:∀p ∈ b,U3 p)(k:Nat)(l:k<=cs.length) :
  uA cs b k=true↔Gl (b.reverse.map qX) ((cs.take k).map rI):=by
 induction b generalizing k with
 | nil=>
  simp only[uA,List.reverse_nil,vg,Vs,kX,List.map_eq_nil_iff,List.take_eq_nil_iff]
  constructor
  ·intro h;exact .inl h
  ·rintro (h|h)
   ·exact h
   ·subst h;simpa using l
 | cons p b v=>
  have a:=λk l=>v (λq u=>e q (by simp[u])) k l;rw[List.reverse_cons,jm];simp only[yn,vg]
  by_cases h3:p.1=3
  ·have n:qX p = -2:=by unfold qX;rw[zb h3]
   rw[n,Hw];simp only[uA,h3,qh,QV,vQ]
   constructor
   ·rintro ⟨j,r,t⟩;refine⟨j,by simp;omega,?_⟩;rw[<- List.map_take,List.take_take,show min j k=j by omega];exact (a j (by omega)).1 t
   ·rintro ⟨j,r,o⟩;simp at r;refine⟨j,by omega,(a j (by omega)).2 ?_⟩;rw[<- List.map_take,List.take_take,show min j k=j by omega] at o;exact o
  ·have d:qX p ≠ -2:=by
    unfold qX;rw[za h3]
    split
    ·decide
    ·split
     ·decide
     ·omega
   cases k with
   | zero=>
    rw[Ez cs p b h3];simp only[List.take_zero,vg]
    constructor
    ·intro h;cases h
    ·intro h;exact absurd h (Hu _ _ d)
   | succ m=>
    rw[WP cs m (by omega),Ht _ _ _ _ d]
    by_cases h2:p.1=2
    ·rw[Ew cs p b h2 (m+1) (by omega),show m+1-1=m by omega,a m (by omega)]
     have:qX p = -1:=by unfold qX;rw[za h3,zb h2]
     rw[this];simp
    ·have s:p.1=1/\ZI p.2:=by
      rcases e p (by simp) with h|h|h
      ·exact absurd h h3
      ·exact absurd h h2
      ·exact h
     have n:qX p=rI p.2:=by unfold qX;rw[za h3,za h2,za (by omega)];rfl
     rw[Ey cs p b h3 h2 (m+1) (by omega) (by omega),n,um];simp only[Nat.add_sub_cancel];rw[a m (by omega),Sj p.2 cs[m] s.2 (i _ (qH _)),je];unfold rI
     constructor
     ·rintro ⟨f,g⟩;exact⟨.inr (by rw[g]),f⟩
     ·rintro ⟨f|f,g⟩
      ·omega
      ·exact⟨g,by omega⟩
theorem EA(cs:List BA)(b:∀c ∈ cs,ZI c)(a:List (Int×BA))(d:∀p ∈ a,U3 p):covers a cs=true↔Gl (a.map qX) (cs.map rI):=by
 unfold covers;rw[Ex cs b a.reverse (λp e=>d p (List.mem_reverse.1 e)) cs.length (ze _),List.reverse_reverse,List.take_length]
def JF(p:Int×BA):Prop:=U3 p\/(p.1=4/\qj p.2=true)
theorem IP(s:BA)(k:Nat)(b:k<s.size)(h:(s.data.toList.getD k 0).toNat<128):ZI (s.extract k (k+1)):=by
 have a:k<s.data.toList.length:=by rw[zG];exact b
 refine⟨(s.data.toList.getD k 0).toNat,by omega,?_⟩;unfold nums
 have:(s.extract k (k+1)).data.toList=[s.data.toList.getD k 0]:=by
  rw[XB,YV,zL,zl a];simp only[J8,yE];rw[uS a]
  simp
 rw[this];unfold ZW;rw[zb h];rfl
theorem Fu(s:BA)(h:(ZV s).2.2≠0):JF ((ZV s).1,(ZV s).2.1):=by
 unfold ZV at h |-
 split at h
 ·exact absurd rfl h
 rename_i c;rw[za c]
 split at h
 ·rename_i a;rw[zb a];exact .inl (.inr (.inr ⟨rfl,IP s 1 (by omega) (by omega)⟩))
 rename_i a;rw[za a]
 split at h
 ·rename_i d;rw[zb d]
  split at h
  ·rename_i e;rw[zb e]
   split at h
   ·rename_i b;rw[zb b];exact .inr ⟨rfl,b⟩
   ·exact absurd rfl h
  ·exact absurd rfl h
 ·exact absurd rfl h
theorem Pb(s:BA)(c:0<s.size)(k:Int)(t:BA)(n:Nat)(h:yC s=some (k,t,n)):JF (k,t):=by
 unfold yC at h
 split at h
 ·simp at h
 rename_i b
 split at h
 ·simp at h;obtain⟨rfl,rfl,rfl⟩:=h;exact .inl (.inl rfl)
 split at h
 ·simp at h;obtain⟨rfl,rfl,rfl⟩:=h;exact .inl (.inr (.inl rfl))
 split at h
 ·split at h
  ·simp at h
  ·rename_i a
   have:=Fu s a
   simp at h;rw[h] at this;exact this
 ·simp at h;obtain⟨rfl,rfl,rfl⟩:=h
  rcases Vn s c with ⟨ho2,_⟩|⟨_,hc,_⟩
  ·exact absurd ho2 b
  ·exact .inl (.inr (.inr ⟨rfl,hc⟩))
theorem Ps(f:Nat)(s:BA)(l:List (Int×BA))(h:jW f s=some l):∀p ∈ l,JF p:=by
 induction f generalizing s l with
 | zero=>simp[jW] at h
 | succ f d=>
  rw[jW] at h
  split at h
  ·simp at h;subst h;simp
  rename_i e
  split at h
  ·simp at h
  ·rename_i k t n c;obtain⟨r,b,rfl⟩:=vU.1 h;intro p a
   rcases x8.1 a with rfl|a
   ·exact Pb s (by omega) k t n c
   ·exact d _ _ b p a
theorem Px(s:BA):∀p ∈ (parts s).getD [],JF p:=by
 cases h:parts s with
 | none=>simp
 | some l=>
  unfold parts at h
  split at h
  ·simp at h
  ·exact Ps _ _ _ h
theorem Mx(r:Req)(g:List (Int×BA))(f:∀p ∈ g,JF p)(q:List (Int×BA))(h:laid r g=some q):∀p ∈ q,U3 p:=by
 induction g generalizing q with
 | nil=>simp[laid] at h;subst h;simp
 | cons p g l=>
  rw[laid] at h
  split at h
  ·simp at h
  ·rename_i a e;obtain⟨b,hb,rfl⟩:=vU.1 h;intro x d
   rcases ZM.1 d with d|d
   ·unfold Xn at e
    split at e
    ·obtain⟨v,m,rfl⟩:=vU.1 e;obtain⟨c,j,rfl⟩:=ql.1 d;exact .inr (.inr ⟨rfl,lw v c j⟩)
    ·rename_i i;simp at e;subst e;simp at d;subst d
     rcases f x (by simp) with h|⟨h,_⟩
     ·exact h
     ·exact absurd h i
   ·exact l (λp k=>f p (by simp[k])) b hb x d
theorem NR(s:BA)(h:qj s=true):(s.toList==[])=false:=by
 unfold qj at h;simp at h;rw[qQ,Lib.toList_data];intro e
 have:=zG s
 rw[e] at this;simp at this;omega
end Pg
end Go.Proofs.YtdakgnaojakldaaGreatDoor
