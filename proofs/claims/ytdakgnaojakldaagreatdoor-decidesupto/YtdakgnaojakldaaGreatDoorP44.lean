/- P -/
import Derived.Test.YtdakgnaojakldaaGreatDoorP43
open Go.Proofs.Tryz hiding parts
set_option maxRecDepth 100000
set_option maxHeartbeats 1000000
namespace Go.Proofs.YtdakgnaojakldaaGreatDoor
open Go.RowKit
namespace Pg
theorem gU(a:List (Int×BY))(j:Nat)(h:j<a.length):(qK a)[j*2]?=some (.int .i32 (xq a[j]))/\(qK a)[j*2+1]?=some (.string (nameOf a[j])):=by
 induction a generalizing j with
 | nil=>simp at h
 | cons p a b=>
  have e:qK (p::a) = .int .i32 (xq p) :: .string (nameOf p)::qK a:=by simp[qK]
  rw[e]
  cases j with
  | zero=>simp
  | succ j=>
   have:=b j (by simpa using h)
   rw[show (j+1)*2=(j*2)+1+1 by omega,show (j*2)+1+1+1=(j*2+1)+1+1 by omega]
   simpa using this
def At(w:World)(v:Value)(a:List (Int×BY)):Prop:=
 ∃ao cap,v = .slice ao a.length cap/\(a=[]\/∃b o,ao=some ⟨b,o,none⟩/\∀j,(h:j<a.length)->w.cell? ⟨b,o+j*2,none⟩=some (.int .i32 (xq a[j]))/\w.cell? ⟨b,o+j*2+1,none⟩=some (.string (nameOf a[j])))
theorem At.below{w w':World}{v:Value}{c:List (Int×BY)}(h:At w v c)(hb:Below w.heap.size w w'):At w' v c:=by
 obtain⟨ao,cap,d,h⟩:=h;refine⟨ao,cap,d,?_⟩
 rcases h with h|⟨b,o,ha,hc⟩
 ·exact .inl h
 ·exact .inr ⟨b,o,ha,λj a=>⟨zh hb (hc j a).1,zh hb (hc j a).2⟩⟩
theorem Fs{w:World}{base:Nat}{e:TypeId}{v:Value}{n:Nat}{b:List (Int×BY)}(l:n=b.length)(h:w.ownsRow base e 2 v n (qK b)):At w v b:=by
 subst l;have a:=λg i=>h.cells (g:=g) i
 rcases h.2 with ⟨rfl,h0⟩|⟨g,cap,cur,rfl,_⟩
 ·exact⟨none,0,by rw[h0],.inl (Yu h0)⟩
 ·refine⟨_,cap,rfl,.inr ⟨g,0,rfl,λj k=>?_⟩⟩;have f:=gU b j k;have c:=a g rfl _ _ f.1;have d:=a g rfl _ _ f.2;rw[YB] at c d;exact⟨by rw[qN];exact c,by rw[qN];exact d⟩
def ko(q:List (Int×BY)):List Value:=q.map λp => .int .i32 (xq p)
theorem Cm(a b:List (Int×BY)):ko (a++b)=ko a++ko b:=by simp[ko]
theorem zbl(cs:List BY):ko (cs.map λc=>((1:Int),c))=cs.map XA:=by
 unfold ko;rw[kM];apply Y8;intro c _
 rfl
end Pg
theorem Tryz.infoRune:(prog.info? 21).map (λi=>(i.zero,i.size,i.bytes))=some (some (.int .i32 0),1,4):=by kernel_rfl
theorem BZ(s:BY)(w:World)(h:s.size<=1000)(f:(Ref.chars s).isSome=true):∃C O,(convert 9 361 (.string s)).run prog w = .ok (.slice (some ⟨w.heap.size,0,none⟩) ((Ref.chars s).getD []).length C) (w.alloc O).drew
  /\ ∀j u,(((Ref.chars s).getD []).map Pg.XA)[j]?=some u->(w.alloc O).drew.cell? ⟨w.heap.size,j,none⟩=some u:=by
 have a:=Pg.zaN s f;have g:=Ref.Ue s;have d:(Conv.runesFrom s s.size 0 #[]).size=((Ref.chars s).getD []).length:=by rw[a];simp
 have c:=run_runes_of_string (P:=prog) w 9 361 21 s underlying9 underlying361 underlying21 (by rw[d];omega);rw[d] at c;refine⟨_,_,c,λj u b=>?_⟩;show (w.alloc _).cell? _=_;rw[Ko _ _ _ _ rfl,a];have e:j<(((Ref.chars s).getD []).map Pg.XA).length:=(zW.1 b).1;rw[Array.getElem?_append_left (by simpa using e)]
 simpa using b
theorem FE{w wr w1:World}{e:TypeId}{size:Nat}{v:Value}{n:Nat}{xs:List Value}(a:Below w.heap.size w wr)(b:wr.ownsRow w.heap.size e size v n xs)
  (c:wr.grownBy w1 v.ownBlock):Below w.heap.size w w1:=
 a.grown c a.size (λk d=>(b.lt k d).1)
theorem zbm(r:Ref.Req)(a:List (Int×BY))(lv:Value)(g:Nat)(lb:Array Value)(w:World)(X:Pg.At w lv a)(c2:a.length<=60)
  (q:∀p ∈ a,p.1=4->(p.2.toList==[])=false)(y:∀n v,Ref.says r n=some v->v.size<=100/\(Ref.chars v).isSome=true)
  (eg:∀args w,(callFunc g args).run prog w = .ok (.enter g args) w)
  (hg:∀W name,Below w.heap.size w W->Calls prog g (#[.string name]++lb) W λe w'=>e = .returned (.tuple #[.string ((Ref.says r name).getD ⟨#[]⟩),.bool (Ref.says r name).isSome])/\Below W.heap.size W w') :
  Calls prog 213 #[lv,.func (.func g) #[] lb] w λe w'=>∃v,e = .returned (.tuple #[v,.bool (Ref.laid r a).isSome])/\Below w.heap.size w w' /\
   w'.ownsRow w.heap.size 21 1 v ((Ref.laid r a).getD []).length (Pg.ko ((Ref.laid r a).getD []))/\((Ref.laid r a).getD []).length<=6000:=by
 obtain⟨i0,hi,S,T,U⟩:=xA Tryz.infoRune;have hP:Ref.laid r a=(Ref.laid r (a.drop 0)).map λb=>[]++b:=by simp
 generalize a0:Ref.laid r a=P at *;clear a0;have HP:=hid hP;have HS:=hid y;have HN:=hid q;clear hP y q;obtain⟨lo,D,rfl,X⟩:=X;have Q:Pg.At w (.slice lo a.length D) a:=⟨lo,D,rfl,X⟩;clear X;have HL:=hid Q;clear Q;go_enter func213,ntmps213
 go_wp2
 go_loopw [6,13] (λov iv wr=>∃(k:Nat) (done:List (Int×BY)),k<=a.length/\iv = .int .i64 k/\P=((Ref.laid r (a.drop k)).map λb=>done++b)/\done.length<=100*k /\
   wr.ownsRow w.heap.size 21 1 ov done.length (Pg.ko done)/\Below w.heap.size w wr) (λ_ iv _=>a.length-(intOf iv).toNat)
 case atStart=>exact⟨0,[],by omega,rfl,HP.out,by simp,ql _ _ _ _,ze _ _⟩
 case round=>
  obtain⟨k,done,hk,rfl,L,b9,i,d⟩:=hrel;have s:=hid L;have Y:Hid (Pg.At wr (.slice lo a.length D) a):=HL.out.below d;have y:=d.size;clear L HP
  by_cases hlt:k<a.length
  ·obtain⟨b8,a8,he,a1⟩:=Y.out;simp only[Value.slice.injEq,Q8] at he;obtain⟨rfl,rfl⟩:=he
   rcases a1 with rfl|⟨b,o,rfl,hc⟩
   ·simp at hlt
   obtain⟨q1,q2⟩:=hc k hlt;have b1:(k:Int)<(a.length:Int):=by omega
   obtain⟨sg,A⟩:∃n,Pg.xq a[k]=n:=⟨_,rfl⟩;obtain⟨nm,q⟩:∃n,Pg.nameOf a[k]=n:=⟨_,rfl⟩;rw[A] at q1;rw[q] at q2;have K:=λO=>nbl wr O
   by_cases h4:a[k].1=4
   ·have h:a[k].2=nm:=by rw[<- q];unfold Pg.nameOf;rw[zb h4]
    have c1:(nm.toList==[])=false:=by rw[<- h];exact HN.out _ (qA hlt) h4
    have cs:=λW hb=>hg W nm hb
    cases hsy:Ref.says r nm with
    | none=>
     have hf:=Ref.tu r a k hlt done P s.out (by unfold Ref.Zy;rw[zb h4,h,hsy];rfl);subst hf;rw[hsy] at cs;simp only[QF,kS] at cs;clear hsy s hc A q h4 h
     go_wp2_with (go_at_fn g;refine (cs _ (d.trans ((K _).mono y))).mono ?_;rintro e J ⟨rfl,t⟩)
     go_ret2;exact⟨_,rfl,d.trans (((K _).trans (t.mono (by simp))).mono y),ql _ _ _ _,by simp⟩
    | some v=>
     obtain⟨a4,R⟩:=HS.out nm v hsy;have m:Ref.Zy r a[k]=some (((Ref.chars v).getD []).map λc=>((1:Int),c)):=by unfold Ref.Zy;rw[zb h4,h,hsy];rfl
     have a2:=Ref.Ue v;have I:=λW=>BZ v W (by omega) R;obtain⟨V,M⟩:∃cs,(Ref.chars v).getD []=cs:=⟨_,rfl⟩;simp only[M] at m a2 I;have z:=Ref.KY r a k hlt done P s.out _ m;have F:=hid z;rw[hsy] at cs;simp only[yB,uw] at cs;clear hsy s hc A q h4 h m z M R
     go_wp2_with (first
      | (go_at_fn g;refine (cs _ (d.trans ((K _).mono y))).mono ?_;rintro e J ⟨rfl,t⟩;obtain⟨C,O,N,E⟩:=I J)
      | (at_builtin;refine vS _ rfl _ _ 361 rfl w.heap.size 21 i0 (.int .i32 0) 1 4 underlying361 hi S T U rfl (by decide) _ done.length (Pg.ko done) rfl ?_ ⟨J.heap.size,0,none⟩ V.length C (V.map Pg.XA) rfl ?_ ?_ ?_ ?_ ?_ ?_ ?_))
     ·exact ownsRow_below i (((K _).trans (t.mono (by simp))).trans (((nbl J O).drew).mono (by have:=t.size;simp at this;omega)))
     ·simp
     ·intro j u B;rw[YB];exact E j u B
     ·intro u B;obtain⟨c,_,rfl⟩:=yf.1 B
      rfl
     ·unfold maxLen;omega
     ·omega
     ·have:=t.size;simp at this |-;omega
     ·intro v' w1 l f _;have G:Below wr.heap.size wr (J.alloc O).drew:=((K _).trans (t.mono (by simp))).trans (((nbl J O).drew).mono (by have:=t.size;simp at this;omega));have H:=FE (d.trans (G.mono y)) (ownsRow_below i G) f
      have x:w1.ownsRow w.heap.size 21 1 v' (done++V.map λc=>((1:Int),c)).length (Pg.ko (done++V.map λc=>((1:Int),c))):=by
       rw[Pg.Cm,Pg.zbl,qB,qH];exact l
      clear l f i cs I t E N G
      go_wp2
      go_roundw
      case rel=>exact⟨k+1,_,by omega,by go_num,F.out,by simp;omega,x,H⟩
      case measure=>simp[intOf];omega
   ·have h:nm=⟨#[]⟩:=by rw[<- q];unfold Pg.nameOf;rw[za h4]
    have m:Ref.Zy r a[k]=some [a[k]]:=by unfold Ref.Zy;rw[za h4]
    have z:=Ref.KY r a k hlt done P s.out _ m;have F:=hid z;have Z:=hid A;subst h;clear m z s hc A q h4
    go_wp2_with (at_builtin;refine vS _ rfl _ _ 361 rfl w.heap.size 21 i0 (.int .i32 0) 1 4 underlying361 hi S T U rfl (by decide) _ done.length (Pg.ko done) rfl ((i.alloc _).alloc _) ⟨wr.heap.size+1,0,none⟩ 1 1 [.int .i32 sg] rfl rfl ?_ ?_ ?_ ?_ ?_ ?_)
    ·intro j u B;rw[YB]
     match j,B with
     | 0,B=>simp at B;subst B;simp
    ·intro u B;simp at B;subst B;rfl
    ·unfold maxLen;omega
    ·omega
    ·simp;omega
    ·intro v' w1 l f _;have H:=Ua d i _ _ f
     have x:w1.ownsRow w.heap.size 21 1 v' (done++[a[k]]).length (Pg.ko (done++[a[k]])):=by
      have e:Pg.ko [a[k]]=[.int .i32 sg]:=by unfold Pg.ko;simp[Z.out]
      rw[Pg.Cm,e,qB];exact l
     clear l f i
     go_wp2
     go_roundw
     case rel=>exact⟨k+1,_,by omega,by go_num,F.out,by simp;omega,x,H⟩
     case measure=>simp[intOf];omega
  ·have hf:=Ref.tq r a k hlt done P s.out;subst hf;clear s
   go_wp2
   go_ret2;exact⟨_,rfl,d,i,by simp;omega⟩
namespace Pg
open Ref
theorem fA(a b w:List Int):Gl (a++b) w↔∃j,j<=w.length/\Gl a (w.take j)/\Gl b (w.drop j):=by
 induction a generalizing w with
 | nil=>
  constructor
  ·intro h;exact⟨0,by omega,by simpa using Gl.nil,by simpa using h⟩
  ·rintro ⟨j,g,e,d⟩;rw[Uq] at e
   have:w.drop j=w:=by
    rcases List.take_eq_nil_iff.1 e with rfl|rfl
    ·simp
    ·simp
   rw[this] at d;exact d
 | cons s a l=>
  by_cases hs:s = -2
  ·subst hs;rw[bL,Xp]
   constructor
   ·rintro ⟨i,hi,f⟩;obtain⟨j,g,e,d⟩:=(l _).1 f;rw[jV] at g;refine⟨i+j,by omega,(Xp _ _).2 ⟨i,by simp;omega,?_⟩,by rw[Yt] at d;exact d⟩;rw[List.drop_take,show i+j-i=j by omega];exact e
   ·rintro ⟨m,o,e,d⟩;obtain⟨i,hi,f⟩:=(Xp _ _).1 e;simp at hi;refine⟨i,by omega,(l _).2 ⟨m-i,by simp;omega,?_,?_⟩⟩
    ·rw[List.drop_take] at f;exact f
    ·rw[Yt,show i+(m-i)=m by omega];exact d
  ·rw[bL,Jp _ _ _ hs]
   constructor
   ·rintro ⟨c,w',rfl,n,f⟩;obtain⟨j,g,e,d⟩:=(l _).1 f;exact⟨j+1,by simp;omega,.one hs n (by simpa using e),by simpa using d⟩
   ·rintro ⟨j,g,e,d⟩;obtain⟨c,w',k,n,f⟩:=(Jp _ _ _ hs).1 e
    cases w with
    | nil=>simp at k
    | cons x w=>
     cases j with
     | zero=>simp at k
     | succ j=>
      simp at k;obtain⟨rfl,rfl⟩:=k;exact⟨x,w,rfl,n,(l _).2 ⟨j,by simpa using g,f,by simpa using d⟩⟩
theorem NA(w:List Int):Gl [-2] w:=(Xp _ _).2 ⟨w.length,zf _,by rw[Y6];exact .nil⟩
theorem NG(a w:List Int):Gl (a++[-2]) w↔∃j,j<=w.length/\Gl a (w.take j):=by
 rw[fA]
 constructor
 ·rintro ⟨j,b,c,_⟩;exact⟨j,b,c⟩
 ·rintro ⟨j,b,c⟩;exact⟨j,b,c,NA _⟩
theorem fD(s:Int)(d:s ≠ -2)(v:List Int):Gl [s] v↔∃c,v=[c]/\(s = -1\/s=c):=by
 rw[Jp _ _ _ d]
 constructor
 ·rintro ⟨c,w',rfl,a,b⟩;rw[Uq] at b;subst b;exact⟨c,rfl,a⟩
 ·rintro ⟨c,rfl,a⟩;exact⟨c,[],rfl,a,.nil⟩
theorem ND(a u:List Int)(s c:Int)(h:s ≠ -2):Gl (a++[s]) (u++[c])↔(s = -1\/s=c)/\Gl a u:=by
 rw[fA]
 constructor
 ·rintro ⟨j,l,g,i⟩;obtain⟨d,b,e⟩:=(fD s h _).1 i;have m:=congrArg List.length b;simp at m l;have f:j=u.length:=by omega
  subst f;rw[List.drop_left] at b;rw[List.take_left] at g;simp at b;subst b;exact⟨e,g⟩
 ·rintro ⟨e,k⟩;exact⟨u.length,by simp,by rw[List.take_left];exact k,by rw[List.drop_left];exact (fD s h _).2 ⟨c,rfl,e⟩⟩
theorem NF(a:List Int)(s:Int)(e:s ≠ -2):¬Gl (a++[s]) []:=by
 intro h;obtain⟨j,g,f,b⟩:=(fA _ _ _).1 h;obtain⟨c,d,_⟩:=(fD s e _).1 b;simp at d
def rI(c:BY):Int:=((vO c:Nat):Int)
def ah(p:Int×BY):Prop:=p.1=3\/p.1=2\/(p.1=1/\Qx p.2)
theorem zcu(cs:List BY)(m:Nat)(h:m<cs.length):(cs.take (m+1)).map rI=(cs.take m).map rI++[rI cs[m]]:=by
 rw[QD h,Qc];rfl
theorem Ig(cs:List BY)(i:∀c ∈ cs,Qx c)(b:List (Int×BY))(e:∀p ∈ b,ah p)(k:Nat)(l:k<=cs.length) :
  xO cs b k=true↔Gl (b.reverse.map xq) ((cs.take k).map rI):=by
 induction b generalizing k with
 | nil=>
  simp only[xO,List.reverse_nil,kQ,Uq,vJ,List.map_eq_nil_iff,List.take_eq_nil_iff]
  constructor
  ·intro h;exact .inl h
  ·rintro (h|h)
   ·exact h
   ·subst h;simpa using l
 | cons p b v=>
  have a:=λk l=>v (λq u=>e q (by simp[u])) k l;rw[List.reverse_cons,Qc];simp only[yK,kQ]
  by_cases h3:p.1=3
  ·have n:xq p = -2:=by unfold xq;rw[zb h3]
   rw[n,NG];simp only[xO,h3,qJ,Qy,jW]
   constructor
   ·rintro ⟨j,r,t⟩;refine⟨j,by simp;omega,?_⟩;rw[<- List.map_take,List.take_take,show min j k=j by omega];exact (a j (by omega)).1 t
   ·rintro ⟨j,r,o⟩;simp at r;refine⟨j,by omega,(a j (by omega)).2 ?_⟩;rw[<- List.map_take,List.take_take,show min j k=j by omega] at o;exact o
  ·have d:xq p ≠ -2:=by
    unfold xq;rw[za h3]
    split
    ·decide
    ·split
     ·decide
     ·omega
   cases k with
   | zero=>
    rw[oP cs p b h3];simp only[List.take_zero,kQ]
    constructor
    ·intro h;cases h
    ·intro h;exact absurd h (NF _ _ d)
   | succ m=>
    rw[zcu cs m (by omega),ND _ _ _ _ d]
    by_cases h2:p.1=2
    ·rw[oN cs p b h2 (m+1) (by omega),show m+1-1=m by omega,a m (by omega)]
     have:xq p = -1:=by unfold xq;rw[za h3,zb h2]
     rw[this];simp
    ·have s:p.1=1/\Qx p.2:=by
      rcases e p (by simp) with h|h|h
      ·exact absurd h h3
      ·exact absurd h h2
      ·exact h
     have n:xq p=rI p.2:=by unfold xq;rw[za h3,za h2,za (by omega)];rfl
     rw[oO cs p b h3 h2 (m+1) (by omega) (by omega),n,kJ];simp only[JV];rw[a m (by omega),zaM p.2 cs[m] s.2 (i _ (qA _)),uf];unfold rI
     constructor
     ·rintro ⟨f,g⟩;exact⟨.inr (by rw[g]),f⟩
     ·rintro ⟨f|f,g⟩
      ·omega
      ·exact⟨g,by omega⟩
theorem Il(cs:List BY)(b:∀c ∈ cs,Qx c)(a:List (Int×BY))(d:∀p ∈ a,ah p):covers a cs=true↔Gl (a.map xq) (cs.map rI):=by
 unfold covers;rw[Ig cs b a.reverse (λp e=>d p (List.mem_reverse.1 e)) cs.length (zf _),List.reverse_reverse,VW]
def Vr(p:Int×BY):Prop:=ah p\/(p.1=4/\zX p.2=true)
theorem OV(s:BY)(k:Nat)(b:k<s.size)(h:(s.data.toList.getD k 0).toNat<128):Qx (s.extract k (k+1)):=by
 have a:k<s.data.toList.length:=by rw[zD];exact b
 refine⟨(s.data.toList.getD k 0).toNat,by omega,?_⟩;unfold nums
 have:(s.extract k (k+1)).data.toList=[s.data.toList.getD k 0]:=by
  rw[VK,bu,zQ,zm a];simp only[lT,yB];rw[jf a]
  simp
 rw[this];unfold QL;rw[zb h];rfl
theorem Lr(s:BY)(h:(xH s).2.2≠0):Vr ((xH s).1,(xH s).2.1):=by
 unfold xH at h |-
 split at h
 ·exact absurd rfl h
 rename_i c;rw[za c]
 split at h
 ·rename_i a;rw[zb a];exact .inl (.inr (.inr ⟨rfl,OV s 1 (by omega) (by omega)⟩))
 rename_i a;rw[za a]
 split at h
 ·rename_i d;rw[zb d]
  split at h
  ·rename_i e;rw[zb e]
   split at h
   ·rename_i b;rw[zb b];exact .inr ⟨rfl,b⟩
   ·exact absurd rfl h
  ·exact absurd rfl h
 ·exact absurd rfl h
theorem Wm(s:BY)(c:0<s.size)(k:Int)(t:BY)(n:Nat)(h:qZ s=some (k,t,n)):Vr (k,t):=by
 unfold qZ at h
 split at h
 ·simp at h
 rename_i b
 split at h
 ·simp at h;obtain⟨rfl,rfl,rfl⟩:=h;exact .inl (.inl rfl)
 split at h
 ·simp at h;obtain⟨rfl,rfl,rfl⟩:=h;exact .inl (.inr (.inl rfl))
 split at h
 ·split at h
  ·simp at h
  ·rename_i a
   have:=Lr s a
   simp at h;rw[h] at this;exact this
 ·simp at h;obtain⟨rfl,rfl,rfl⟩:=h
  rcases Uk s c with ⟨ho2,_⟩|⟨_,hc,_⟩
  ·exact absurd ho2 b
  ·exact .inl (.inr (.inr ⟨rfl,hc⟩))
theorem Wz(f:Nat)(s:BY)(l:List (Int×BY))(h:jA f s=some l):∀p ∈ l,Vr p:=by
 induction f generalizing s l with
 | zero=>simp[jA] at h
 | succ f d=>
  rw[jA] at h
  split at h
  ·simp at h;subst h;simp
  rename_i e
  split at h
  ·simp at h
  ·rename_i k t n c;obtain⟨r,b,rfl⟩:=vU.1 h;intro p a
   rcases kR.1 a with rfl|a
   ·exact Wm s (by omega) k t n c
   ·exact d _ _ b p a
theorem WA(s:BY):∀p ∈ (parts s).getD [],Vr p:=by
 cases h:parts s with
 | none=>simp
 | some l=>
  unfold parts at h
  split at h
  ·simp at h
  ·exact Wz _ _ _ h
theorem Rx(r:Req)(g:List (Int×BY))(f:∀p ∈ g,Vr p)(q:List (Int×BY))(h:laid r g=some q):∀p ∈ q,ah p:=by
 induction g generalizing q with
 | nil=>simp[laid] at h;subst h;simp
 | cons p g l=>
  rw[laid] at h
  split at h
  ·simp at h
  ·rename_i a e;obtain⟨b,hb,rfl⟩:=vU.1 h;intro x d
   rcases jE.1 d with d|d
   ·unfold Zy at e
    split at e
    ·obtain⟨v,m,rfl⟩:=vU.1 e;obtain⟨c,j,rfl⟩:=yf.1 d;exact .inr (.inr ⟨rfl,og v c j⟩)
    ·rename_i i;simp at e;subst e;simp at d;subst d
     rcases f x (by simp) with h|⟨h,_⟩
     ·exact h
     ·exact absurd h i
   ·exact l (λp k=>f p (by simp[k])) b hb x d
theorem Tg(s:BY)(h:zX s=true):(s.toList==[])=false:=by
 unfold zX at h;simp at h;rw[qP,Lib.toList_data];intro e
 have:=zD s
 rw[e] at this;simp at this;omega
end Pg
end Go.Proofs.YtdakgnaojakldaaGreatDoor
