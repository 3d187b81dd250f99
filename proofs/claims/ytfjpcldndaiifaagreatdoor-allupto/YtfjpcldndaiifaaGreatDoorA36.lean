/- P -/
import Derived.Test.YtfjpcldndaiifaaGreatDoorA35
open Go.Proofs.Tryz hiding parts
set_option maxRecDepth 100000
set_option maxHeartbeats 1000000
namespace Go.Proofs.YtfjpcldndaiifaaGreatDoor
open Go.RowKit
namespace Pg
theorem nC(a:List (Int×BY))(j:Nat)(h:j<a.length):(xg a)[j*2]?=some (.int .i32 (xU a[j]))/\(xg a)[j*2+1]?=some (S9 (nameOf a[j])):=by
 induction a generalizing j with
 | nil=>simp at h
 | cons p a b=>
  have e:xg (p::a)=.int .i32 (xU p) :: S9 (nameOf p)::xg a:=by simp[xg]
  rw[e]
  cases j with
  | zero=>simp
  | succ j=>
   have:=b j (by simpa using h)
   rw[show (j+1)*2=(j*2)+1+1 by omega,show (j*2)+1+1+1=(j*2+1)+1+1 by omega]
   simpa using this
def At(w:J)(v:Y)(a:List (Int×BY)):Prop:=
 ∃d c,v=TL d a.length c/\(a=[]\/∃b o,d=some (G8 b o)/\∀j,(h:j<a.length)->w.cell? (G8 b (o+j*2))=some (.int .i32 (xU a[j]))/\w.cell? (G8 b (o+j*2+1))=some (S9 (nameOf a[j])))
theorem At.below{w w':J}{v:Y}{e:List (Int×BY)}(h:At w v e)(c:BQ w w'):At w' v e:=by
 obtain⟨f,a,g,h⟩:=h;refine⟨f,a,g,?_⟩
 rcases h with h|⟨b,o,ha,hc⟩
 ·exact .inl h
 exact .inr ⟨b,o,ha,λj d=>⟨zi c (hc j d).1,zi c (hc j d).2⟩⟩
theorem sS{w:J}{base:Nat}{e:TypeId}{v:Y}{n:Nat}{b:List (Int×BY)}(l:n=b.length)(h:w.ownsRow base e 2 v n (xg b)):At w v b:=by
 subst l;have a:=λg i=>h.cells (g:=g) i
 rcases h.2 with⟨rfl,h0⟩|⟨g,cap,cur,rfl,_⟩
 ·exact⟨none,0,by rw[h0],.inl (Yx h0)⟩
 refine⟨_,cap,rfl,.inr ⟨g,0,rfl,λj k=>?_⟩⟩;have f:=nC b j k;have c:=a g rfl _ _ f.1;have d:=a g rfl _ _ f.2;rw[YF]at c d;exact⟨by rw[qV];exact c,by rw[qV];exact d⟩
def Zj(q:List (Int×BY)):List Y:=q.map λp => .int .i32 (xU p)
theorem FJ(a b:List (Int×BY)):Zj (a++b)=Zj a++Zj b:=by simp[Zj]
theorem zdT(cs:List BY):Zj (cs.map λc=>((1:Int),c))=cs.map Yh:=by
 unfold Zj;rw[kY];apply JR;intro c _
 rfl
end Pg
theorem Tryz.infoRune:(prog.info? 21).map (λi=>(i.zero,i.size,i.bytes))=some (some (.int .i32 0),1,4):=by kernel_rfl
theorem Fq(s:BY)(w:J)(h:s.size<=1000)(f:(U.chars s).isSome=true):∃C O,(convert 9 195 (S9 s)).run prog w=.ok (TL (some (G8 w.heap.size 0)) ((U.chars s).getD []).length C) (w.alloc O).drew
  /\ ∀j u,(((U.chars s).getD []).map Pg.Yh)[j]?=some u->(w.alloc O).drew.cell? (G8 w.heap.size j)=some u:=by
 have a:=Pg.zdd s f;have g:=U.Ka s;have d:(Conv.runesFrom s s.size 0 #[]).size=((U.chars s).getD []).length:=by rw[a];simp
 have c:=run_runes_of_string (P:=prog) w 9 195 21 s underlying9 underlying195 underlying21 (by rw[d];omega);rw[d]at c;refine⟨_,_,c,λj u b=>?_⟩;show (w.alloc _).cell? _=_;rw[U1 _ _ _ _ rfl,a];have e:j<(((U.chars s).getD []).map Pg.Yh).length:=(zU.1 b).1;rw[Array.getElem?_append_left (by simpa using e)]
 simpa using b
theorem Lu{w wr w1:J}{e:TypeId}{size:Nat}{v:Y}{n:Nat}{xs:List Y}(a:BQ w wr)(b:wr.ownsRow w.heap.size e size v n xs)
  (c:wr.grownBy w1 v.ownBlock):BQ w w1:=
 a.grown c a.size (λk d=>(b.lt k d).1)
theorem zdU(r:U.Req)(a:List (Int×BY))(lv:Y)(g:Nat)(lb:Array Y)(w:J)(hl:Pg.At w lv a)(d6:a.length<=60)
  (q:∀p ∈ a,p.1=4->(p.2.toList==[])=false)(y:∀n v,U.says r n=some v->v.size<=100/\(U.chars v).isSome=true)
  (eg:∀G w,(callFunc g G).run prog w=.ok (.enter g G) w)
  (hg:∀W E,BQ w W->R8 g (#[S9 E]++lb) W (G5 (.tuple #[.string ((U.says r E).getD ⟨#[]⟩),.bool (U.says r E).isSome]) W)):R8 88 #[lv,.func (.func g) #[] lb] w λe w'=>∃v,e=.returned (.tuple #[v,.bool (U.laid r a).isSome])/\BQ w w' /\
   w'.ownsRow w.heap.size 21 1 v ((U.laid r a).getD []).length (Pg.Zj ((U.laid r a).getD []))/\((U.laid r a).getD []).length<=6000:=by
 obtain⟨i0,hi,a1,a2,a3⟩:=qU Tryz.infoRune;have hP:U.laid r a=(U.laid r (a.drop 0)).map λb=>[]++b:=by simp
 generalize a9:U.laid r a=P at *;clear a9;have⟨HP,HS,HN⟩:=M4 hP y q;clear hP y q;obtain⟨lo,D,rfl,hl⟩:=hl;have X:Pg.At w (TL lo a.length D) a:=⟨lo,D,rfl,hl⟩;clear hl;have HL:=G7 X;clear X;go_enter func88,ntmps88;go_wp2
 go_loopw [6,13] (λov iv wr=>∃(k:Nat) (done:List (Int×BY)),k<=a.length/\iv=R9 k/\P=((U.laid r (a.drop k)).map λb=>done++b)/\done.length<=100*k /\
   wr.ownsRow w.heap.size 21 1 ov done.length (Pg.Zj done)/\BQ w wr) (λ_ iv _=>a.length-(intOf iv).toNat)
 case atStart=>exact⟨0,[],by omega,rfl,HP.o,by simp,qF _ _ _ _,zf _ _⟩
 case round=>
  obtain⟨k,done,hk,rfl,S,d3,i,d⟩:=hrel;have s:=G7 S;have a7:G6 (Pg.At wr (TL lo a.length D) a):=HL.o.below d;have y:=d.size;clear S HP
  by_cases hlt:k<a.length
  ·obtain⟨d1,b9,he,b0⟩:=a7.o;simp only[Value.slice.injEq,QW]at he;obtain⟨rfl,rfl⟩:=he
   rcases b0 with rfl|⟨b,o,rfl,hc⟩
   ·simp at hlt
   obtain⟨q1,q2⟩:=hc k hlt;have c3:(k:Int)<(a.length:Int):=by omega
   obtain⟨sg,A⟩:=Nm (Pg.xU a[k]);obtain⟨N,q⟩:=Nm (Pg.nameOf a[k]);rw[A]at q1;rw[q]at q2;have R:=λO=>nbl wr O
   by_cases h4:a[k].1=4
   ·have h:a[k].2=N:=by rw[<- q];unfold Pg.nameOf;rw[zb h4]
    have d5:(N.toList==[])=false:=by rw[<- h];exact HN.o _ (qm hlt) h4
    have F:=λW hb=>hg W N hb
    cases hsy:U.says r N with
    | none=>
     have hf:=U.BU r a k hlt done P s.o (by unfold U.ZX;rw[zb h4,h,hsy];rfl);subst hf;rw[hsy]at F;simp only[Xa,uB]at F;clear hsy s hc A q h4 h;go_wp2_with(go_at_fn g;apply(F _ (d.trans ((R _).mono y))).mono;rintro e Q⟨rfl,t⟩);go_ret2;exact⟨_,rfl,d.trans (((R _).trans (t.mono (by simp))).mono y),qF _ _ _ _,by simp⟩
    | some v=>
     obtain⟨b3,a0⟩:=HS.o N v hsy;have m:U.ZX r a[k]=some (((U.chars v).getD []).map λc=>((1:Int),c)):=by unfold U.ZX;rw[zb h4,h,hsy];rfl
     have b1:=U.Ka v;have M:=λW=>Fq v W (by omega) a0;obtain⟨ch,T⟩:=Nm ((U.chars v).getD []);simp only[T]at m b1 M;have z:=U.dD r a k hlt done P s.o _ m;have I:=G7 z;rw[hsy]at F;simp only[yP,uC]at F;clear hsy s hc A q h4 h m z T a0
     go_wp2_with(first
      |(go_at_fn g;apply(F _ (d.trans ((R _).mono y))).mono;rintro e Q⟨rfl,t⟩;obtain⟨C,O,V,H⟩:=M Q)
      | (at_builtin;refine yh _ rfl _ _ 195 rfl w.heap.size 21 i0 (.int .i32 0) 1 4 underlying195 hi a1 a2 a3 rfl (by decide) _ done.length (Pg.Zj done) rfl ?_ (G8 Q.heap.size 0) ch.length C (ch.map Pg.Yh) rfl ?_ ?_ ?_ ?_ ?_ ?_ ?_))
     ·exact ownsRow_below i (((R _).trans (t.mono (by simp))).trans (((nbl Q O).drew).mono (by have:=t.size;simp at this;omega)))
     ·simp
     ·intro j u B;rw[YF];exact H j u B
     ·intro u B;obtain⟨c,_,rfl⟩:=xI.1 B
      rfl
     ·unfold maxLen;omega
     ·omega
     ·have:=t.size;simp at this |-;omega
     intro v' w1 l f _;have K:BQ wr (Q.alloc O).drew:=((R _).trans (t.mono (by simp))).trans (((nbl Q O).drew).mono (by have:=t.size;simp at this;omega));have L:=Lu (d.trans (K.mono y)) (ownsRow_below i K) f
     have x:w1.ownsRow w.heap.size 21 1 v' (done++ch.map λc=>((1:Int),c)).length (Pg.Zj (done++ch.map λc=>((1:Int),c))):=by
      rw[Pg.FJ,Pg.zdT,qE,qf];exact l
     clear l f i F M t H V K;go_wp2;go_roundw
     case rel=>exact⟨k+1,_,by omega,by go_num,I.o,by simp;omega,x,L⟩
     case measure=>simp[intOf];omega
   have h:N=⟨#[]⟩:=by rw[<- q];unfold Pg.nameOf;rw[za h4]
   have m:U.ZX r a[k]=some [a[k]]:=by unfold U.ZX;rw[za h4]
   have z:=U.dD r a k hlt done P s.o _ m;have⟨I,a8⟩:=D5 z A;subst h;clear m z s hc A q h4;go_wp2_with (at_builtin;refine yh _ rfl _ _ 195 rfl w.heap.size 21 i0 (.int .i32 0) 1 4 underlying195 hi a1 a2 a3 rfl (by decide) _ done.length (Pg.Zj done) rfl ((i.alloc _).alloc _) (G8 (wr.heap.size+1) 0) 1 1 [.int .i32 sg] rfl rfl ?_ ?_ ?_ ?_ ?_ ?_)
   ·intro j u B;rw[YF]
    match j,B with
    | 0,B=>simp at B;subst B;simp
   ·intro u B;simp at B;subst B;rfl
   ·unfold maxLen;omega
   ·omega
   ·simp;omega
   intro v' w1 l f _;have L:=U6 d i _ _ f
   have x:w1.ownsRow w.heap.size 21 1 v' (done++[a[k]]).length (Pg.Zj (done++[a[k]])):=by
    have e:Pg.Zj [a[k]]=[.int .i32 sg]:=by unfold Pg.Zj;simp[a8.o]
    rw[Pg.FJ,e,qE];exact l
   clear l f i;go_wp2;go_roundw
   case rel=>exact⟨k+1,_,by omega,by go_num,I.o,by simp;omega,x,L⟩
   case measure=>simp[intOf];omega
  have hf:=U.BS r a k hlt done P s.o;subst hf;clear s;go_wp2;go_ret2;exact⟨_,rfl,d,i,by simp;omega⟩
namespace Pg
open U
theorem lI(a b w:List Int):Gl (a++b) w↔∃j,j<=w.length/\Gl a (w.take j)/\Gl b (w.drop j):=by
 induction a generalizing w with
 | nil=>
  constructor
  ·intro h;exact⟨0,by omega,by simpa using Gl.nil,by simpa using h⟩
  ·rintro⟨j,g,e,d⟩;rw[Kq]at e
   have:w.drop j=w:=by
    rcases List.take_eq_nil_iff.1 e with rfl|rfl
    ·simp
    simp
   rw[this]at d;exact d
 | cons s a l=>
  by_cases hs:s = -2
  ·subst hs;rw[gm,X8]
   constructor
   ·rintro⟨i,o,f⟩;obtain⟨j,g,e,d⟩:=(l _).1 f;rw[ve]at g;refine⟨i+j,by omega,(X8 _ _).2 ⟨i,by simp;omega,?_⟩,by rw[Y4]at d;exact d⟩;rw[List.drop_take,show i+j-i=j by omega];exact e
   rintro⟨m,q,e,d⟩;obtain⟨i,o,f⟩:=(X8 _ _).1 e;simp at o;refine⟨i,by omega,(l _).2 ⟨m-i,by simp;omega,?_,?_⟩⟩
   ·rw[List.drop_take]at f;exact f
   rw[Y4,show i+(m-i)=m by omega];exact d
  rw[gm,Vd _ _ _ hs]
  constructor
  ·rintro⟨c,p,rfl,n,f⟩;obtain⟨j,g,e,d⟩:=(l _).1 f;exact⟨j+1,by simp;omega,.one hs n (by simpa using e),by simpa using d⟩
  rintro⟨j,g,e,d⟩;obtain⟨c,p,k,n,f⟩:=(Vd _ _ _ hs).1 e
  cases w with
  | nil=>simp at k
  | cons x w=>
   cases j with
   | zero=>simp at k
   | succ j=>
    simp at k;obtain⟨rfl,rfl⟩:=k;exact⟨x,w,rfl,n,(l _).2 ⟨j,by simpa using g,f,by simpa using d⟩⟩
theorem RJ(w:List Int):Gl [-2] w:=(X8 _ _).2 ⟨w.length,ze _,by rw[JP];exact .nil⟩
theorem RQ(a w:List Int):Gl (a++[-2]) w↔∃j,j<=w.length/\Gl a (w.take j):=by
 rw[lI]
 constructor
 ·rintro⟨j,b,c,_⟩;exact⟨j,b,c⟩
 rintro⟨j,b,c⟩;exact⟨j,b,c,RJ _⟩
theorem lJ(s:Int)(d:s ≠ -2)(v:List Int):Gl [s] v↔∃c,v=[c]/\(s = -1\/s=c):=by
 rw[Vd _ _ _ d]
 constructor
 ·rintro⟨c,e,rfl,a,b⟩;rw[Kq]at b;subst b;exact⟨c,rfl,a⟩
 rintro⟨c,rfl,a⟩;exact⟨c,[],rfl,a,.nil⟩
theorem RN(a u:List Int)(s c:Int)(h:s ≠ -2):Gl (a++[s]) (u++[c])↔(s = -1\/s=c)/\Gl a u:=by
 rw[lI]
 constructor
 ·rintro⟨j,l,g,i⟩;obtain⟨d,b,e⟩:=(lJ s h _).1 i;have m:=congrArg List.length b;simp at m l;have f:j=u.length:=by omega
  subst f;rw[List.drop_left]at b;rw[aU]at g;simp at b;subst b;exact⟨e,g⟩
 rintro⟨e,k⟩;exact⟨u.length,by simp,by rw[aU];exact k,by rw[List.drop_left];exact(lJ s h _).2 ⟨c,rfl,e⟩⟩
theorem RP(a:List Int)(s:Int)(e:s ≠ -2):¬Gl (a++[s]) []:=by
 intro h;obtain⟨j,g,f,b⟩:=(lI _ _ _).1 h;obtain⟨c,d,_⟩:=(lJ s e _).1 b;simp at d
def rI(c:BY):Int:=((uw c:Nat):Int)
def dO(p:Int×BY):Prop:=p.1=3\/p.1=2\/(p.1=1/\Q0 p.2)
theorem zfa(cs:List BY)(m:Nat)(h:m<cs.length):(cs.take (m+1)).map rI=(cs.take m).map rI++[rI cs[m]]:=by
 rw[Q9 h,uz];rfl
theorem Ny(cs:List BY)(i:∀c ∈ cs,Q0 c)(b:List (Int×BY))(e:∀p ∈ b,dO p)(k:Nat)(l:k<=cs.length):yg cs b k=true↔Gl (b.reverse.map xU) ((cs.take k).map rI):=by
 induction b generalizing k with
 | nil=>
  simp only[yg,List.reverse_nil,Zr,Kq,vC,List.map_eq_nil_iff,List.take_eq_nil_iff]
  constructor
  ·intro h;exact .inl h
  ·rintro (h|h)
   ·exact h
   ·subst h;simpa using l
 | cons p b v=>
  have a:=λk l=>v (λq u=>e q (by simp[u])) k l;rw[List.reverse_cons,uz];simp only[yO,Zr]
  by_cases h3:p.1=3
  ·have n:xU p = -2:=by unfold xU;rw[zb h3]
   rw[n,RQ];simp only[yg,h3,qJ,Q3,vk]
   constructor
   ·rintro⟨j,r,t⟩;refine⟨j,by simp;omega,?_⟩;rw[<- List.map_take,gG,show min j k=j by omega];exact(a j (by omega)).1 t
   rintro⟨j,r,o⟩;simp at r;refine⟨j,by omega,(a j (by omega)).2 ?_⟩;rw[<- List.map_take,gG,show min j k=j by omega]at o;exact o
  have d:xU p ≠ -2:=by
   unfold xU;rw[za h3];split
   ·decide
   split
   ·decide
   omega
  cases k with
  | zero=>
   rw[Aa cs p b h3];simp only[List.take_zero,Zr]
   constructor
   ·intro h;cases h
   ·intro h;exact absurd h (RP _ _ d)
  | succ m=>
   rw[zfa cs m (by omega),RN _ _ _ _ d]
   by_cases h2:p.1=2
   ·rw[wY cs p b h2 (m+1) (by omega),show m+1-1=m by omega,a m (by omega)]
    have:xU p = -1:=by unfold xU;rw[za h3,zb h2]
    rw[this];simp
   have s:p.1=1/\Q0 p.2:=by
    rcases e p (by simp) with h|h|h
    ·exact absurd h h3
    ·exact absurd h h2
    exact h
   have n:xU p=rI p.2:=by unfold xU;rw[za h3,za h2,N8];rfl
   rw[wZ cs p b h3 h2 (m+1) (by omega) (by omega),n,jX];simp only[VM];rw[a m (by omega),zdc p.2 cs[m] s.2 (i _ (qm _)),vJ];unfold rI
   constructor
   ·rintro⟨f,g⟩;exact⟨.inr (by rw[g]),f⟩
   rintro⟨f|f,g⟩
   ·omega
   exact⟨g,by omega⟩
theorem NF(cs:List BY)(b:∀c ∈ cs,Q0 c)(a:List (Int×BY))(d:∀p ∈ a,dO p):covers a cs=true↔Gl (a.map xU) (cs.map rI):=by
 unfold covers;rw[Ny cs b a.reverse (λp e=>d p (List.mem_reverse.1 e)) cs.length F7,List.reverse_reverse,UU]
def Un(p:Int×BY):Prop:=dO p\/(p.1=4/\ql p.2=true)
theorem Tt(s:BY)(k:Nat)(b:k<s.size)(h:(s.data.toList.getD k 0).toNat<128):Q0 (s.extract k (k+1)):=by
 have a:k<s.data.toList.length:=by rw[zF];exact b
 refine⟨(s.data.toList.getD k 0).toNat,by omega,?_⟩;unfold nums
 have:(s.extract k (k+1)).data.toList=[s.data.toList.getD k 0]:=by
  rw[Vz,ay,zT,zn a];simp only[gq,yP];rw[jD a]
  simp
 rw[this];unfold Xm;rw[zb h];rfl
theorem OB(s:BY)(h:(x9 s).2.2≠0):Un ((x9 s).1,(x9 s).2.1):=by
 unfold x9 at h |-;split at h
 ·exact absurd rfl h
 rename_i c;rw[za c];split at h
 ·rename_i a;rw[zb a];exact .inl (.inr (.inr ⟨rfl,Tt s 1 (by omega) (by omega)⟩))
 rename_i a;rw[za a];split at h
 ·rename_i d;rw[zb d];split at h
  ·rename_i e;rw[zb e];split at h
   ·rename_i b;rw[zb b];exact .inr ⟨rfl,b⟩
   exact absurd rfl h
  exact absurd rfl h
 exact absurd rfl h
theorem zbV(s:BY)(c:0<s.size)(k:Int)(t:BY)(n:Nat)(h:xG s=some (k,t,n)):Un (k,t):=by
 unfold xG at h;split at h
 ·simp at h
 rename_i b;split at h
 ·simp at h;obtain⟨rfl,rfl,rfl⟩:=h;exact .inl (.inl rfl)
 split at h
 ·simp at h;obtain⟨rfl,rfl,rfl⟩:=h;exact .inl (.inr (.inl rfl))
 split at h
 ·split at h
  ·simp at h
  rename_i a
  have:=OB s a
  simp at h;rw[h]at this;exact this
 simp at h;obtain⟨rfl,rfl,rfl⟩:=h
 rcases Kh s c with⟨ho2,_⟩|⟨_,hc,_⟩
 ·exact absurd ho2 b
 exact .inl (.inr (.inr ⟨rfl,hc⟩))
theorem zb7(f:Nat)(s:BY)(l:List (Int×BY))(h:jT f s=some l):∀p ∈ l,Un p:=by
 induction f generalizing s l with
 | zero=>simp[jT]at h
 | succ f d=>
  rw[jT]at h;split at h
  ·simp at h;subst h;simp
  rename_i e;split at h
  ·simp at h
  rename_i k t n c;obtain⟨r,b,rfl⟩:=vT.1 h;intro p a
  rcases Zt.1 a with rfl|a
  ·exact zbV s (by omega) k t n c
  exact d _ _ b p a
theorem Em(s:BY):∀p ∈ (parts s).getD [],Un p:=by
 cases h:parts s with
 | none=>simp
 | some l=>
  unfold parts at h;split at h
  ·simp at h
  exact zb7 _ _ _ h
theorem WS(r:Req)(g:List (Int×BY))(f:∀p ∈ g,Un p)(q:List (Int×BY))(h:laid r g=some q):∀p ∈ q,dO p:=by
 induction g generalizing q with
 | nil=>simp[laid]at h;subst h;simp
 | cons p g m=>
  rw[laid]at h;split at h
  ·simp at h
  rename_i a e;obtain⟨b,j,rfl⟩:=vT.1 h;intro x d
  rcases vg.1 d with d|d
  ·unfold ZX at e;split at e
   ·obtain⟨v,n,rfl⟩:=vT.1 e;obtain⟨c,k,rfl⟩:=xI.1 d;exact .inr (.inr ⟨rfl,wz v c k⟩)
   rename_i i;simp at e;subst e;simp at d;subst d
   rcases f x (by simp) with h|⟨h,_⟩
   ·exact h
   exact absurd h i
  exact m (λp l=>f p (by simp[l])) b j x d
theorem zba(s:BY)(h:ql s=true):(s.toList==[])=false:=by
 unfold ql at h;simp at h;rw[qY,JO];intro e
 have:=zF s
 rw[e]at this;simp at this;omega
end Pg
theorem zc4{w:J}{base:Nat}{e:TypeId}{v:Y}{n:Nat}{q:List (Int×BY)}(k:n=q.length)(h:w.ownsRow base e 1 v n (Pg.Zj q)):∃d a,v=TL d (q.map Pg.xU).length a/\(q.map Pg.xU).length<=a/\rowAt w d (q.map Pg.xU).length λj=>(q.map Pg.xU).getD j 0:=by
 subst k;have b:=λg i=>h.cells (g:=g) i;rw[qf]
 rcases h.2 with⟨rfl,h0⟩|⟨g,a,cur,rfl,h3⟩
 ·exact⟨none,0,by rw[h0],by omega,.inl h0⟩
 refine⟨_,a,rfl,h3.2.2.1,.inr ⟨g,0,rfl,λj f=>?_⟩⟩;have c:=b g rfl j (.int .i32 (Pg.xU q[j])) (by simp[Pg.Zj,f]);rw[YF]at c;rw[qV,c];simp[List.getD,f]
theorem En(r:U.Req)(D:List (Int×BY))(X:Y)(word:BY)(g:Nat)(V:Array Y)(w:J)(hl:Pg.At w X D)(R:D.length<=60)(K:∀p ∈ D,Pg.Un p)
  (a9:word.size<=100)(T:(U.chars word).isSome=true)(L:∀n v,U.says r n=some v->v.size<=100/\(U.chars v).isSome=true)
  (eg:∀m w,(callFunc g m).run prog w=.ok (.enter g m) w)
  (hg:∀W f,BQ w W->R8 g (#[S9 f]++V) W (G5 (.tuple #[.string ((U.says r f).getD ⟨#[]⟩),.bool (U.says r f).isSome]) W))
  (A:Bool)(s:(match U.laid r D with|none=>false|some q=>U.covers q ((U.chars word).getD []))=A):R8 51 #[X,S9 word,.func (.func g) #[] V] w (G5 (.bool A) w):=by
 have F:=zdU r D X g V w hl R (λp hp h4=>by
  rcases K p hp with h|⟨_,h⟩
  ·rcases h with h|h|⟨h,_⟩<;>omega
  exact Pg.zba p.2 h) L eg hg
 have S:=Pg.WS r D K;have H:=Pg.wz word;have P:=U.Ka word;have B:=λW=>Fq word W (by omega) T;obtain⟨o,z⟩:=Nm ((U.chars word).getD []);simp only[z]at s H P B
 cases hL:U.laid r D with
 | none=>
  rw[hL]at s F;simp only at s;subst s;simp only[uB]at F;clear hL S z B;go_enter func51,ntmps51;go_wp2_with(go_at_call 88;apply F.mono;rintro e i⟨v,rfl,k,x,t⟩);go_ret;exact⟨rfl,k⟩
 | some q=>
  rw[hL]at s F;simp only at s;have G:A=true↔Pg.Gl (q.map Pg.xU) (o.map Pg.rI):=by rw[<- s];exact Pg.NF o H q (S q hL)
  have M:=G7 G;simp only[uC,yP]at F
  have cM:∀(E:Option Addr) (a C:Nat) (W:J) (O:Obj),q.length<=6000->(q.map Pg.xU).length<=a->rowAt W E (q.map Pg.xU).length (λj=>(q.map Pg.xU).getD j 0) ->
    (∀j u,(o.map Pg.Yh)[j]?=some u->(W.alloc O).drew.cell? (G8 W.heap.size j)=some u) ->
    R8 89 #[TL E q.length a,TL (some (G8 W.heap.size 0)) o.length C] (W.alloc O).drew (G5 (.bool A) W):=by
   intro E a C W O a8 b d l;have y:BQ W (W.alloc O).drew:=(nbl W O).drew
   have c:=zaN (q.map Pg.xU) (o.map Pg.rI) E (some (G8 W.heap.size 0)) a C _ (nW d y)
    (.inr ⟨W.heap.size,0,rfl,λj Q=>by
      rw[qf]at Q;rw[qV,l j (Pg.Yh o[j]) (by simp[Q])];simp[List.getD,Q,Pg.Yh,Pg.rI]⟩) (by simp;omega) (by simp;omega) b A M.o
   rw[qf,qf]at c;exact c.mono λe i ⟨he,hb⟩=>⟨he,y.trans (hb.mono y.size)⟩
  clear hL S z s G hg hl L;go_enter func51,ntmps51
  go_wp2_with(first
   |(go_at_call 89;apply(cM E a C i O t b d I).mono;rintro e w2⟨rfl,N⟩)
   |(go_at_call 88;apply F.mono;rintro e i⟨v,rfl,k,x,t⟩;obtain⟨E,a,rfl,b,d⟩:=zc4 rfl x;obtain⟨C,O,a0,I⟩:=B i))
  go_ret;exact⟨rfl,k.trans (N.mono k.size)⟩
structure ZN (w:J) (r:U.Req) (ao:Option Addr) (cap B:Nat):Prop where
 c0:w.cell? (G8 B 0)=some (S9 r.who)
 c1:w.cell? (G8 B 1)=some (S9 r.act)
 c2:w.cell? (G8 B 2)=some (S9 r.on)
 c3:w.cell? (G8 B 3)=some (TL ao r.marks.length cap)
 ms:qK w ao r.marks
 ok:U.qR r=true
theorem ZN.below{w w':J}{r:U.Req}{ao:Option Addr}{cap B:Nat}(h:ZN w r ao cap B)(a:BQ w w'):ZN w' r ao cap B:=
 ⟨zi a h.c0,zi a h.c1,zi a h.c2,zi a h.c3,xh h.ms a,h.ok⟩
def jc(B:Nat):Y := .func (.func 90) #[] #[RG B 0]
theorem Fs:∀a w,(callFunc 90 a).run prog w=.ok (.enter 90 a) w:=qo func90 (by kernel_rfl) rfl
theorem ZN.call{w:J}{r:U.Req}{ao:Option Addr}{cap B:Nat}(h:ZN w r ao cap B)(W:J)(name:BY)(a:BQ w W):R8 90 (#[S9 name]++#[RG B 0]) W (G5 (.tuple #[.string ((U.says r name).getD ⟨#[]⟩),.bool (U.says r name).isSome]) W):=
 have k:=h.below a
 Cw r name ao cap B W (by have:=eu h.ok;omega) k.ms k.c0 k.c1 k.c2 k.c3
theorem zaO(a word:BY)(r:U.Req)(ao:Option Addr)(cap B:Nat)(w:J)(o:U.qD a=true)(m:ZN w r ao cap B)(l:yF w)(F:word.size<=100)(D:(U.chars word).isSome=true):R8 245 #[S9 a,S9 word,jc B] w (G5 (.bool (U.yQ a word r)) w):=by
 have z:=U.nH a o;have q:=nR a w (by unfold maxLen;omega) l.d.max l.d.tabs;obtain⟨j,g⟩:∃j,U.parts a=some j:=gK.1 o;have c:=U.nG a;have b:=Pg.Em a;rw[g]at c b q;simp only[yP]at c b;obtain⟨A,h⟩:=Nm (U.yQ a word r);rw[h];unfold U.yQ at h;rw[g]at h;simp only[yP]at h
 have p:=λ(W:J) (s:Y) (C:BQ w W) (E:Pg.At W s j)=>En r j s word 90 #[RG B 0] W E c b F D (K5 m.ok) Fs
  (λu i n=>(m.below C).call u i n) A h
 have t:=G7 p;clear p h m l b g o;unfold jc;go_enter func245,ntmps245
 go_wp2_with(first
  |(go_at_call 51;apply(t.o H v k (Pg.sS rfl hown)).mono;rintro e I⟨rfl,y⟩)
  |(go_at_call 48;apply q.mono;rintro e H⟨v,x,rfl,k,f⟩;rcases f with⟨hq,_⟩|⟨ps',hq,rfl,hown⟩;cases hq;cases hq))
 go_ret;exact⟨rfl,k.trans (y.mono k.size)⟩
theorem Ip(a word:BY)(r:U.Req)(ao:Option Addr)(cap B b d:Nat)(w:J)(k:U.qD a=true)(g:ZN w r ao cap B)(f:yF w)(l:word.size<=100)(j:(U.chars word).isSome=true)
  (n:w.cell? (G8 b 0)=some (S9 word))(i:w.cell? (G8 d 0)=some (jc B)):R8 244 #[S9 a,RG b 0,RG d 0] w (G5 (.bool (U.yQ a word r)) w):=by
 have c:=zaO a word r ao cap B w k g f l j;unfold jc at c i;generalize U.yQ a word r=A at c;clear g f;go_enter func244,ntmps244;go_wp2_with(go_at_call 245;apply c.mono;rintro e o⟨rfl,h⟩);go_ret;exact⟨rfl,h⟩
theorem si(a:List BY)(word:BY)(r:U.Req)(ao i:Option Addr)(cap s B:Nat)(w:J)(u:∀p ∈ a,U.qD p=true)(x:a.length<=100000)(o:ZF w i a)(m:ZN w r ao cap B)(l:yF w)(v:word.size<=100)(t:(U.chars word).isSome=true):R8 239 #[TL i a.length s,S9 word,jc B] w (G5 (.bool (a.any λp=>U.yQ p word r)) w):=by
 have f:BQ w (w.alloc (L8 #[S9 word] 9)):=nbl w _;have b:BQ w ((w.alloc (L8 #[S9 word] 9)).alloc (L8 #[jc B] 115)):=f.alloc f.size _
 have c:=gX a i s 244 #[RG w.heap.size 0,RG (w.heap.size+1) 0] (λj=>U.yQ (Qv a j) word r) ((w.alloc (L8 #[S9 word] 9)).alloc (L8 #[jc B] 115)) (by omega)
  (qo func244 (by kernel_rfl) rfl) (Z9 o b)
  (λW j n g=>by
    have d:BQ w W:=b.trans (g.mono b.size);refine Ip (Qv a j) word r ao cap B w.heap.size (w.heap.size+1) W (by rw[oK a j n];exact u _ (qm n)) (m.below d) (l.below d) v t (zi g (by simp)) (zi g (by simp)))
 rw[show (zC (λj=>U.yQ (Qv a j) word r) a.length).isSome=a.any (λp=>U.yQ p word r) from U3 a ⟨#[]⟩ (λp=>U.yQ p word r)]at c
 generalize a.any (λp=>U.yQ p word r)=F at c;unfold jc at c b |-;have k:=G7 b;clear m l o f b;go_enter func239,ntmps239;go_wp2_with(go_at_call 193;apply c.mono;rintro e q⟨rfl,h⟩);go_ret;exact⟨rfl,k.o.trans (h.mono k.o.size)⟩
theorem iK(b:Bool×List BY)(word:BY)(r:U.Req)(ao a:Option Addr)(cap g B:Nat)(w:J)(z:∀p ∈ b.2,U.qD p=true)(y:b.2.length<=100000)(s:ZF w a b.2)(x:ZN w r ao cap B)(v:yF w)(E:word.size<=100)(D:(U.chars word).isSome=true):R8 230 #[.agg #[.bool b.1,TL a b.2.length g],S9 word,jc B] w (G5 (.bool (De.Qw b word r)) w):=by
 obtain⟨h,f⟩:=b;unfold De.Qw;simp only at z y s |-;have u:BQ w (w.alloc (L8 #[.bool h,TL a f.length g] 137)):=nbl w _;have c:=λ(W:J) (q:BQ w W)=>si f word r ao a cap g B W z y (Z9 s q) (x.below q) (v.below q) E D;generalize (f.any λp=>U.yQ p word r)=F at c;unfold jc at c |-;have⟨C,i⟩:=D5 c u;have n:=(zg (zA w (L8 #[.bool h,TL a f.length g] 137)) 0).1;have o:=(zg (zA w (L8 #[.bool h,TL a f.length g] 137)) 1).1;simp only[rz,jE,kW]at n o;obtain⟨t,d⟩:=Nm (w.alloc (L8 #[.bool h,TL a f.length g] 137));rw[d]at i n o;have m:=G7 d;clear x v s u c d;go_enter func230,ntmps230
 go_upto_region 1 with fail
 rw[m.o];have A:=G7 (C.o t.drew i.o.drew)
 go_region_held3 (λk=>k.cell? (G8 w.heap.size 0)=some (.bool h)/\k.cell? (G8 w.heap.size 1)=some (TL a f.length g)) (go_keep) (first
  | ((go_at_call 239);apply A.o.mono;rintro e G⟨rfl,j⟩;have H:=zi j n;have I:=zi j o;have l:G6 (BQ w G):=i.o.trans (((zf _ t).drew.trans j).mono i.o.size);clear j))
 all_goals
  go_wp2_with fail;go_ret;exact⟨rfl,l.o⟩
def Zh(S:Option BY)(f:BY->Bool):Bool:=match S with
 | none=>false
 | some x=>f x
def Qk(S:Option BY)(B:Nat):Y := .agg #[S9 (S.getD ⟨#[]⟩),.bool S.isSome,jc B]
theorem Io(w:J)(u0 u1 u2:Y):(w.alloc (L8 #[u0,u1,u2] 386)).cell? (G8 w.heap.size 0)=some u0:=by
 simp
theorem Ty(S:Option BY)(a:List BY)(r:U.Req)(ao g:Option Addr)(cap i B:Nat)(w:J)(o:∀x,S=some x->x.size<=100/\(U.chars x).isSome=true)(n:∀p ∈ a,U.qD p=true)(m:a.length<=100000)(h:ZF w g a)(f:ZN w r ao cap B)(d:yF w):R8 294 #[Qk S B,TL g a.length i] w (G5 (.bool (Zh S λx=>a.any λv=>U.yQ v x r)) w):=by
 have b:=λO:Obj=>nbl w O;unfold Qk jc
 cases S with
 | none=>
  simp only[Zh,Xa,uB];clear f d;go_enter func294,ntmps294;go_wp2_with fail;go_ret;exact⟨rfl,b _⟩
 | some x=>
  obtain⟨k,l⟩:=o x rfl;have c:=λO:Obj=>si a x r ao g cap i B (w.alloc O) n m (Z9 h (b O)) (f.below (b O)) (d.below (b O)) k l;simp only[Zh,yP,uC];generalize (a.any λv=>U.yQ v x r)=F at c;unfold jc at c;have C:=G7 c;clear f d h c;go_enter func294,ntmps294;go_wp2_with(go_at_call 239;apply(C.o _).mono;rintro e s⟨rfl,j⟩);go_ret;exact⟨rfl,(b _).trans (j.mono (b _).size)⟩
theorem Lv(x v:BY):(v.toList==x.toList)=(x.toList==v.toList):=by
 rw[Zp,vC,vC];exact eq_comm
theorem TF(S:Option BY)(a:List BY)(d:Option Addr)(g B:Nat)(w:J)(j:a.length<=100000)(f:ZF w d a):R8 296 #[Qk S B,TL d a.length g] w (G5 (.bool (Zh S λx=>a.any λv=>x.toList==v.toList)) w):=by
 have b:=λO:Obj=>nbl w O;unfold Qk jc
 cases S with
 | none=>
  simp only[Zh,Xa,uB];go_enter func296,ntmps296;go_wp2_with fail;go_ret;exact⟨rfl,b _⟩
 | some x=>
  have c:=λO:Obj=>Bw a x d g (w.alloc O) (by omega) (Z9 f (b O));simp only[Lv]at c;simp only[Zh,yP,uC];generalize (a.any λv=>x.toList==v.toList)=F at c;have C:=G7 c;clear f c;go_enter func296,ntmps296;go_wp2_with(go_at_call 155;apply(C.o _).mono;rintro e k⟨rfl,h⟩);go_ret;exact⟨rfl,(b _).trans (h.mono (b _).size)⟩
theorem Tp(S:Option BY)(b:Y)(B:Nat)(w:J):R8 302 #[Qk S B,b] w (G5 (.bool S.isNone) w):=by
 have a:=λO:Obj=>nbl w O;unfold Qk jc
 cases S with
 | none=>
  simp only[Xa,uB];go_enter func302,ntmps302;go_wp2_with fail;go_ret;exact⟨rfl,a _⟩
 | some x=>
  simp only[yP,uC];go_enter func302,ntmps302;go_wp2_with fail;go_ret;exact⟨rfl,a _⟩
theorem zfu(x v:BY):De.ZG x v=((x.toList==v.toList)||(decide ((v++⟨#[47]⟩:BY).size<=x.size)&&((x.extract 0 (v++⟨#[47]⟩:BY).size).toList==(v++⟨#[47]⟩:BY).toList))):=by
 have g:(v++⟨#[47]⟩:BY).size=v.size+1:=by rw[zV];rfl
 have j:v.data.toList.length=v.size:=by simp
 have i:x.data.toList.length=x.size:=by simp
 unfold De.ZG;rw[g];congr 1
 by_cases h:v.size<x.size
 ·rw[zB h,zB (show v.size+1<=x.size from h),jY,jY]
  have d:(x.extract 0 (v.size+1)).toList=x.data.toList.take (v.size+1):=by rw[ko];simp
  have e:(v++⟨#[47]⟩:BY).toList=v.data.toList++[47]:=by rw[ko];simp
  rw[d,e,Qg,P7,zT,P7];simp only[Option.toList_some,yP];have f:(x.data.toList.take v.size).length=v.data.toList.length:=by rw[jg];omega
  rw[Zp,jX,vC,vC,vC]
  constructor
  ·rintro⟨a,b⟩;rw[a,bn.1 (show _=(47:UInt8).toNat from b)]
  intro a;obtain⟨b,c⟩:=List.append_inj a f;refine⟨b,?_⟩;injection c with c
  rw[c]
  rfl
 rw[zI h,zI (show ¬v.size+1<=x.size by omega),kS,kS]
theorem zfr(x v:BY)(B:Nat)(w:J)(f:w.cell? (G8 B 0)=some (S9 x))(i:v.size<=100000):R8 310 #[S9 v,RG B 0] w (G5 (.bool (De.ZG x v)) w):=by
 rw[zfu];obtain⟨R,b⟩:=Nm ((decide ((v++⟨#[47]⟩:BY).size<=x.size)&&((x.extract 0 (v++⟨#[47]⟩:BY).size).toList==(v++⟨#[47]⟩:BY).toList)));have c:=λW=>lN x (v++⟨#[47]⟩) W R b.symm;rw[b]
 have c2:∀W,R8 311 #[S9 x,S9 (v++⟨#[47]⟩)] W λe a=>e=.returned (.bool R)/\a=W:=by
  intro W;have d:=c W;clear c b f;go_enter func311,ntmps311;go_wp2_with(go_at_call 318;apply d.mono;rintro e a⟨rfl,rfl⟩);go_ret;exact⟨rfl,rfl⟩
 have g:(v.size:Int)+1<=9223372036854775807:=by omega
 clear c b
 cases h:(x.toList==v.toList) with
 | true=>
  rw[UI];go_enter func310,ntmps310;go_wp2_with fail;go_ret;exact⟨rfl,zf _ _⟩
 | false=>
  rw[XI];go_enter func310,ntmps310;go_wp2_with(go_at_call 311;apply(c2 _).mono;rintro e a⟨rfl,rfl⟩);go_ret;exact⟨rfl,zf _ _⟩
theorem TI(S:Option BY)(a:List BY)(d:Option Addr)(h B:Nat)(w:J)(n:a.length<=100000)(l:∀v ∈ a,v.size<=100000)(g:ZF w d a):R8 300 #[Qk S B,TL d a.length h] w (G5 (.bool (Zh S λx=>a.any λv=>De.ZG x v)) w):=by
 have b:=λO:Obj=>nbl w O;unfold Qk jc
 cases S with
 | none=>
  simp only[Zh,Xa,uB];go_enter func300,ntmps300;go_wp2_with fail;go_ret;exact⟨rfl,b _⟩
 | some x=>
  simp only[Zh,yP,uC]
  have c:=λu1 u2=>gX a d h 310 #[RG w.heap.size 0] (λj=>De.ZG x (Qv a j)) (w.alloc (L8 #[S9 x,u1,u2] 386)) (by omega)
   (qo func310 (by kernel_rfl) rfl) (Z9 g (b _))
   (λW j f k=>zfr x (Qv a j) w.heap.size W (zi k (Io w _ _ _)) (by rw[oK a j f];exact l _ (qm f)))
  rw[show (zC (λj=>De.ZG x (Qv a j)) a.length).isSome=a.any (λv=>De.ZG x v) from U3 a ⟨#[]⟩ (λv=>De.ZG x v)]at c
  generalize (a.any λv=>De.ZG x v)=F at c;have C:=G7 c;clear g c;go_enter func300,ntmps300;go_wp2_with(go_at_call 193;apply(C.o _ _).mono;rintro e o⟨rfl,i⟩);go_ret;exact⟨rfl,(b _).trans (i.mono (b _).size)⟩
theorem Dp(s:BY):De.yJ s=decide (0<s.size/\(s.data.toList.getD 0 0).toNat=45):=by
 unfold De.yJ;rw[Zp]
 simp
theorem NG(s:BY)(w:J):R8 317 #[S9 s,S9 ⟨#[45]⟩] w λe a=>e=.returned (.tuple #[.string (De.kH s),.bool (De.yJ s)])/\a=w:=by
 have c:=lN s ⟨#[45]⟩ w _ ((Db s).symm);rw[<- Dp]at c
 have c2:R8 321 #[S9 s,S9 ⟨#[45]⟩] w λe a=>e=.returned (.tuple #[.string (De.kH s),.bool (De.yJ s)])/\a=w:=by
  unfold De.kH
  cases h:De.yJ s with
  | true=>
   rw[h]at c;rw[zb rfl];rw[Dp,vJ]at h;have b:(1:Int)<=(s.size:Int):=by have:=h.1;omega
   clear h;go_enter func321,ntmps321;go_wp2_with(go_at_call 318;apply c.mono;rintro e a⟨rfl,rfl⟩);go_ret2;exact⟨rfl,rfl⟩
  | false=>
   rw[h]at c;simp only[yu,xX];clear h;go_enter func321,ntmps321;go_wp2_with(go_at_call 318;apply c.mono;rintro e a⟨rfl,rfl⟩);go_ret2;exact⟨rfl,rfl⟩
 clear c;go_enter func317,ntmps317;go_wp2_with(go_at_call 321;apply c2.mono;rintro e a⟨rfl,rfl⟩);go_ret2;exact⟨rfl,rfl⟩
theorem zbf(l:List UInt8)(k:Nat)(h:k<l.length):De.vZ (l.take (k+1))=10*De.vZ (l.take k)+(l[k].toNat-48):=by
 unfold De.vZ De.ZY;rw[Qg,zn h,List.foldl_append]
 rfl
theorem Dn{l:List UInt8}(d:∀c ∈ l,De.ZW c)(a:l.length<=18)(k:Nat):De.vZ (l.take k)<1000000000000000000:=by
 have:=De.mQ (l.take k) 0 (λc b=>d c (UT b))
 have e:10 ^ (l.take k).length<=10 ^ 18:=Nat.pow_le_pow_right (by omega) (by rw[jg];omega);unfold De.vZ;omega
theorem DD(s:BY)(w:J)(h:U.qW s=true):R8 308 #[S9 s] w λe H=>e=.returned (.int .i64 (De.XA s))/\BQ w H:=by
 obtain⟨A,_⟩:=De.Ue h;obtain⟨y,K,x,_,_⟩:=De.YR A;have v:=λW=>NG s W;unfold De.XA;obtain⟨t,B⟩:=Nm (De.kH s);rw[B]at A y K x |-;simp only[B]at v;obtain⟨M,r⟩:=Nm (De.yJ s);simp only[r]at v |-;have G:t.data.toList.length=t.size:=by simp
 obtain⟨C,O,L,p⟩:=iw t w;have o:BQ w (w.alloc O).drew:=(nbl w _).drew;have⟨u,I,l,m⟩:=M5 y p o G;clear y A B r h p o G;go_enter func308,ntmps308;go_wp2_with(go_at_call 317;apply(v _).mono;rintro e H⟨rfl,D⟩;obtain rfl:=D.symm)
 go_loopw [5,16] (λP E wr=>∃k:Nat,k<=t.size/\E=R9 k/\P=R9 ((De.vZ (t.data.toList.take k):Nat):Int)/\wr=(w.alloc O).drew) (λ_ E _=>t.size-(intOf E).toNat)
 case atStart=>exact⟨0,zD _,rfl,rfl,rfl⟩
 case round=>
  obtain⟨k,R,rfl,rfl,rfl⟩:=hrel
  by_cases hlt:k<t.size
  ·have i:k<t.data.toList.length:=by rw[m.o];exact hlt
   have q:=I.o k hlt;rw[qV,zT,zn i]at q;simp only[yP]at q;have g:=u.o _ (qm i);have j:=zbf t.data.toList k i;have a:=Dn u.o (by rw[m.o];exact x) (k+1);unfold De.ZW at g;rw[j]at a;have n:=G7 j;obtain⟨N,c⟩:=Nm (De.vZ (t.data.toList.take k));obtain⟨d,f⟩:=Nm (t.data.toList[k].toNat);rw[c,f]at a n;rw[f]at g q;rw[c];obtain⟨d1,d2⟩:=g;have Q:IntKind.i64.wrap (10*(N:Int))=10*(N:Int):=by rw[VC];omega
   have S:IntKind.u8.wrap ((d:Int)-48)=(d:Int)-48:=by rw[show IntKind.u8.wrap ((d:Int)-48)=((d:Int)-48) % 256 by simp[IntKind.wrap,IntKind.bits,IntKind.signed]];omega
   have T:IntKind.i64.wrap ((d:Int)-48)=(d:Int)-48:=by rw[VC];omega
   have V:IntKind.i64.wrap (10*(N:Int)+((d:Int)-48))=10*(N:Int)+((d:Int)-48):=by rw[VC];omega
   clear j c f;go_wp2_with fail;go_roundw
   case rel=>exact⟨k+1,by omega,by go_num,by rw[n.o];congr 1;omega,trivial⟩
   case measure=>simp[intOf];omega
  have z:k=t.size:=by omega
  subst z;rw[uA (by rw[m.o];omega)]
  have a:De.vZ t.data.toList<1000000000000000000:=by
   have:=Dn u.o (by rw[m.o];exact x) t.size
   rwa [uA (by rw[m.o];omega)]at this
  obtain⟨N,c⟩:=Nm (De.vZ t.data.toList);rw[c]at a |-;have F:=G7 c;clear c
  cases M with
  | true=>
   have Q:IntKind.i64.wrap (-(N:Int)) = -(N:Int):=by rw[VC];omega
   go_wp2_with fail;go_ret;exact⟨by rw[F.o];rfl,l.o⟩
  | false=>
   go_wp2_with fail;go_ret;exact⟨by rw[F.o];rfl,l.o⟩
end Go.Proofs.YtfjpcldndaiifaaGreatDoor
