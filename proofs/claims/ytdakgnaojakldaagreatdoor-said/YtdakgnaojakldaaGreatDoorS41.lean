/- P -/
import Derived.Test.YtdakgnaojakldaaGreatDoorS40
open Go.Proofs.Tryz hiding parts
set_option maxRecDepth 100000
set_option maxHeartbeats 1000000
namespace Go.Proofs.YtdakgnaojakldaaGreatDoor
open Go.RowKit
namespace Pg
theorem dZ(a:List (Int×BY))(j:Nat)(h:j<a.length):(xH a)[j*2]?=some (.int .i32 (ql a[j]))/\(xH a)[j*2+1]?=some (.string (nameOf a[j])):=by
 induction a generalizing j with
 | nil=>simp at h
 | cons p a b=>
  have e:xH (p::a) = .int .i32 (ql p) :: .string (nameOf p)::xH a:=by simp[xH]
  rw[e]
  cases j with
  | zero=>simp
  | succ j=>
   have:=b j (by simpa using h)
   rw[show (j+1)*2=(j*2)+1+1 by omega,show (j*2)+1+1+1=(j*2+1)+1+1 by omega]
   simpa using this
def At(w:World)(v:Value)(a:List (Int×BY)):Prop:=
 ∃ao cap,v = .slice ao a.length cap/\(a=[]\/∃b o,ao=some ⟨b,o,none⟩/\∀j,(h:j<a.length)->w.cell? ⟨b,o+j*2,none⟩=some (.int .i32 (ql a[j]))/\w.cell? ⟨b,o+j*2+1,none⟩=some (.string (nameOf a[j])))
theorem At.below{w d:World}{v:Value}{c:List (Int×BY)}(h:At w v c)(hb:Below w.heap.size w d):At d v c:=by
 obtain⟨ao,cap,e,h⟩:=h;refine⟨ao,cap,e,?_⟩
 rcases h with h|⟨b,o,ha,hc⟩
 ·exact .inl h
 ·exact .inr ⟨b,o,ha,λj a=>⟨zg hb (hc j a).1,zg hb (hc j a).2⟩⟩
theorem mO{w:World}{base:Nat}{e:TypeId}{v:Value}{n:Nat}{b:List (Int×BY)}(l:n=b.length)(h:w.ownsRow base e 2 v n (xH b)):At w v b:=by
 subst l;have a:=λg i=>h.cells (g:=g) i
 rcases h.2 with ⟨rfl,h0⟩|⟨g,cap,cur,rfl,_⟩
 ·exact⟨none,0,by rw[h0],.inl (List.eq_nil_of_length_eq_zero h0)⟩
 ·refine⟨_,cap,rfl,.inr ⟨g,0,rfl,λj k=>?_⟩⟩;have f:=dZ b j k;have c:=a g rfl _ _ f.1;have d:=a g rfl _ _ f.2;rw[Xx] at c d;exact⟨by rw[Nat.zero_add];exact c,by rw[Nat.zero_add];exact d⟩
def jb(q:List (Int×BY)):List Value:=q.map λp => .int .i32 (ql p)
theorem gB(a b:List (Int×BY)):jb (a++b)=jb a++jb b:=by simp[jb]
theorem Im(cs:List BY):jb (cs.map λc=>((1:Int),c))=cs.map kF:=by
 unfold jb;rw[List.map_map];apply List.map_congr_left;intro c _
 rfl
end Pg
theorem Tryz.infoRune:(prog.info? 21).map (λi=>(i.zero,i.size,i.bytes))=some (some (.int .i32 0),1,4):=by kernel_rfl
theorem fZ(s:BY)(w:World)(h:s.size<=1000)(f:(Ref.chars s).isSome=true):∃C O,(convert 9 361 (.string s)).run prog w = .ok (.slice (some ⟨w.heap.size,0,none⟩) ((Ref.chars s).getD []).length C) (w.alloc O).drew
  /\ ∀j u,(((Ref.chars s).getD []).map Pg.kF)[j]?=some u->(w.alloc O).drew.cell? ⟨w.heap.size,j,none⟩=some u:=by
 have a:=Pg.GH s f;have g:=Ref.JW s;have d:(Conv.runesFrom s s.size 0 #[]).size=((Ref.chars s).getD []).length:=by rw[a];simp
 have c:=run_runes_of_string (P:=prog) w 9 361 21 s underlying9 underlying361 underlying21 (by rw[d];omega);rw[d] at c;refine⟨_,_,c,λj u b=>?_⟩;show (w.alloc _).cell? _=_;rw[World.cell?_alloc_at _ _ _ _ rfl,a];have e:j<(((Ref.chars s).getD []).map Pg.kF).length:=(List.getElem?_eq_some_iff.1 b).1;rw[Array.getElem?_append_left (by simpa using e)]
 simpa using b
theorem mU{w wr c:World}{e:TypeId}{size:Nat}{v:Value}{n:Nat}{xs:List Value}(a:Below w.heap.size w wr)(b:wr.ownsRow w.heap.size e size v n xs)
  (d:wr.grownBy c v.ownBlock):Below w.heap.size w c:=
 a.grown d a.size (λk f=>(b.lt k f).1)
theorem Io(r:Ref.Req)(a:List (Int×BY))(lv:Value)(g:Nat)(lb:Array Value)(w:World)(X:Pg.At w lv a)(c5:a.length<=60)
  (q:∀p ∈ a,p.1=4->(p.2.toList==[])=false)(y:∀n v,Ref.says r n=some v->v.size<=100/\(Ref.chars v).isSome=true)
  (eg:∀args w,(callFunc g args).run prog w = .ok (.enter g args) w)
  (hg:∀W name,Below w.heap.size w W->Calls prog g (#[.string name]++lb) W λe Y=>e = .returned (.tuple #[.string ((Ref.says r name).getD ⟨#[]⟩),.bool (Ref.says r name).isSome])/\Below W.heap.size W Y) :
  Calls prog 213 #[lv,.func (.func g) #[] lb] w λe Y=>∃v,e = .returned (.tuple #[v,.bool (Ref.laid r a).isSome])/\Below w.heap.size w Y /\
   Y.ownsRow w.heap.size 21 1 v ((Ref.laid r a).getD []).length (Pg.jb ((Ref.laid r a).getD []))/\((Ref.laid r a).getD []).length<=6000:=by
 obtain⟨i0,hi,S,T,U⟩:=info_parts Tryz.infoRune;have hP:Ref.laid r a=(Ref.laid r (a.drop 0)).map λb=>[]++b:=by simp
 generalize a1:Ref.laid r a=P at *;clear a1;have HP:=hid hP;have HS:=hid y;have HN:=hid q;clear hP y q;obtain⟨lo,D,rfl,X⟩:=X;have Q:Pg.At w (.slice lo a.length D) a:=⟨lo,D,rfl,X⟩;clear X;have HL:=hid Q;clear Q;go_enter func213,ntmps213
 go_wp2
 go_loopw [6,13] (λov iv wr=>∃(k:Nat) (done:List (Int×BY)),k<=a.length/\iv = .int .i64 k/\P=((Ref.laid r (a.drop k)).map λb=>done++b)/\done.length<=100*k /\
   wr.ownsRow w.heap.size 21 1 ov done.length (Pg.jb done)/\Below w.heap.size w wr) (λ_ iv _=>a.length-(intOf iv).toNat)
 case atStart=>exact⟨0,[],by omega,rfl,HP.out,by simp,World.ownsRow_nil _ _ _ _,Below.refl _ _⟩
 case round=>
  obtain⟨k,done,hk,rfl,L,c2,i,d⟩:=hrel;have s:=hid L;have Z:Hid (Pg.At wr (.slice lo a.length D) a):=HL.out.below d;have y:=d.size;clear L HP
  by_cases hlt:k<a.length
  ·obtain⟨c1,b0,he,a2⟩:=Z.out;simp only[Value.slice.injEq,true_and] at he;obtain⟨rfl,rfl⟩:=he
   rcases a2 with rfl|⟨b,o,rfl,hc⟩
   ·simp at hlt
   obtain⟨q1,q2⟩:=hc k hlt;have b3:(k:Int)<(a.length:Int):=by omega
   obtain⟨sg,A⟩:∃n,Pg.ql a[k]=n:=⟨_,rfl⟩;obtain⟨nm,q⟩:∃n,Pg.nameOf a[k]=n:=⟨_,rfl⟩;rw[A] at q1;rw[q] at q2;have K:=λO=>nb wr O
   by_cases h4:a[k].1=4
   ·have h:a[k].2=nm:=by rw[<- q];unfold Pg.nameOf;rw[if_pos h4]
    have c4:(nm.toList==[])=false:=by rw[<- h];exact HN.out _ (List.getElem_mem hlt) h4
    have cs:=λW hb=>hg W nm hb
    cases hsy:Ref.says r nm with
    | none=>
     have hf:=Ref.Cu r a k hlt done P s.out (by unfold Ref.Zm;rw[if_pos h4,h,hsy];rfl);subst hf;rw[hsy] at cs;simp only[Option.getD_none,Option.isSome_none] at cs;clear hsy s hc A q h4 h
     go_wp2_with (go_at_fn g;refine (cs _ (d.trans ((K _).mono y))).mono ?_;rintro e J ⟨rfl,t⟩)
     go_ret2;exact⟨_,rfl,d.trans (((K _).trans (t.mono (by simp))).mono y),World.ownsRow_nil _ _ _ _,by simp⟩
    | some v=>
     obtain⟨a5,R⟩:=HS.out nm v hsy;have m:Ref.Zm r a[k]=some (((Ref.chars v).getD []).map λc=>((1:Int),c)):=by unfold Ref.Zm;rw[if_pos h4,h,hsy];rfl
     have a3:=Ref.JW v;have I:=λW=>fZ v W (by omega) R;obtain⟨V,M⟩:∃cs,(Ref.chars v).getD []=cs:=⟨_,rfl⟩;simp only[M] at m a3 I;have z:=Ref.bi r a k hlt done P s.out _ m;have F:=hid z;rw[hsy] at cs;simp only[Option.getD_some,Option.isSome_some] at cs;clear hsy s hc A q h4 h m z M R
     go_wp2_with (first
      | (go_at_fn g;refine (cs _ (d.trans ((K _).mono y))).mono ?_;rintro e J ⟨rfl,t⟩;obtain⟨C,O,N,E⟩:=I J)
      | (at_builtin;refine wpList_append_own _ rfl _ _ 361 rfl w.heap.size 21 i0 (.int .i32 0) 1 4 underlying361 hi S T U rfl (by decide) _ done.length (Pg.jb done) rfl ?_ ⟨J.heap.size,0,none⟩ V.length C (V.map Pg.kF) rfl ?_ ?_ ?_ ?_ ?_ ?_ ?_))
     ·exact ownsRow_below i (((K _).trans (t.mono (by simp))).trans (((nb J O).drew).mono (by have:=t.size;simp at this;omega)))
     ·simp
     ·intro j u B;rw[Xx];exact E j u B
     ·intro u B;obtain⟨c,_,rfl⟩:=List.mem_map.1 B
      rfl
     ·unfold maxLen;omega
     ·omega
     ·have:=t.size;simp at this |-;omega
     ·intro v' w1 l f _;have G:Below wr.heap.size wr (J.alloc O).drew:=((K _).trans (t.mono (by simp))).trans (((nb J O).drew).mono (by have:=t.size;simp at this;omega));have H:=mU (d.trans (G.mono y)) (ownsRow_below i G) f
      have x:w1.ownsRow w.heap.size 21 1 v' (done++V.map λc=>((1:Int),c)).length (Pg.jb (done++V.map λc=>((1:Int),c))):=by
       rw[Pg.gB,Pg.Im,List.length_append,List.length_map];exact l
      clear l f i cs I t E N G
      go_wp2
      go_roundw
      case rel=>exact⟨k+1,_,by omega,by go_num,F.out,by simp;omega,x,H⟩
      case measure=>simp[intOf];omega
   ·have h:nm=⟨#[]⟩:=by rw[<- q];unfold Pg.nameOf;rw[if_neg h4]
    have m:Ref.Zm r a[k]=some [a[k]]:=by unfold Ref.Zm;rw[if_neg h4]
    have z:=Ref.bi r a k hlt done P s.out _ m;have F:=hid z;have a0:=hid A;subst h;clear m z s hc A q h4
    go_wp2_with (at_builtin;refine wpList_append_own _ rfl _ _ 361 rfl w.heap.size 21 i0 (.int .i32 0) 1 4 underlying361 hi S T U rfl (by decide) _ done.length (Pg.jb done) rfl ((i.alloc _).alloc _) ⟨wr.heap.size+1,0,none⟩ 1 1 [.int .i32 sg] rfl rfl ?_ ?_ ?_ ?_ ?_ ?_)
    ·intro j u B;rw[Xx]
     match j,B with
     | 0,B=>simp at B;subst B;simp
    ·intro u B;simp at B;subst B;rfl
    ·unfold maxLen;omega
    ·omega
    ·simp;omega
    ·intro v' w1 l f _;have H:=Kc d i _ _ f
     have x:w1.ownsRow w.heap.size 21 1 v' (done++[a[k]]).length (Pg.jb (done++[a[k]])):=by
      have e:Pg.jb [a[k]]=[.int .i32 sg]:=by unfold Pg.jb;simp[a0.out]
      rw[Pg.gB,e,List.length_append];exact l
     clear l f i
     go_wp2
     go_roundw
     case rel=>exact⟨k+1,_,by omega,by go_num,F.out,by simp;omega,x,H⟩
     case measure=>simp[intOf];omega
  ·have hf:=Ref.Cr r a k hlt done P s.out;subst hf;clear s
   go_wp2
   go_ret2;exact⟨_,rfl,d,i,by simp;omega⟩
namespace Pg
open Ref
theorem Vp(a b w:List Int):Gl (a++b) w↔∃j,j<=w.length/\Gl a (w.take j)/\Gl b (w.drop j):=by
 induction a generalizing w with
 | nil=>
  constructor
  ·intro h;exact⟨0,by omega,by simpa using Gl.nil,by simpa using h⟩
  ·rintro ⟨j,g,e,d⟩;rw[XP] at e
   have:w.drop j=w:=by
    rcases List.take_eq_nil_iff.1 e with rfl|rfl
    ·simp
    ·simp
   rw[this] at d;exact d
 | cons s a l=>
  by_cases hs:s = -2
  ·subst hs;rw[List.cons_append,kw]
   constructor
   ·rintro ⟨i,hi,f⟩;obtain⟨j,g,e,d⟩:=(l _).1 f;rw[List.length_drop] at g;refine⟨i+j,by omega,(kw _ _).2 ⟨i,by simp;omega,?_⟩,by rw[List.drop_drop] at d;exact d⟩;rw[List.drop_take,show i+j-i=j by omega];exact e
   ·rintro ⟨m,p,e,d⟩;obtain⟨i,hi,f⟩:=(kw _ _).1 e;simp at hi;refine⟨i,by omega,(l _).2 ⟨m-i,by simp;omega,?_,?_⟩⟩
    ·rw[List.drop_take] at f;exact f
    ·rw[List.drop_drop,show i+(m-i)=m by omega];exact d
  ·rw[List.cons_append,Qp _ _ _ hs]
   constructor
   ·rintro ⟨c,o,rfl,n,f⟩;obtain⟨j,g,e,d⟩:=(l _).1 f;exact⟨j+1,by simp;omega,.one hs n (by simpa using e),by simpa using d⟩
   ·rintro ⟨j,g,e,d⟩;obtain⟨c,o,k,n,f⟩:=(Qp _ _ _ hs).1 e
    cases w with
    | nil=>simp at k
    | cons x w=>
     cases j with
     | zero=>simp at k
     | succ j=>
      simp at k;obtain⟨rfl,rfl⟩:=k;exact⟨x,w,rfl,n,(l _).2 ⟨j,by simpa using g,f,by simpa using d⟩⟩
theorem wO(w:List Int):Gl [-2] w:=(kw _ _).2 ⟨w.length,Nat.le_refl _,by rw[List.drop_length];exact .nil⟩
theorem wT(a w:List Int):Gl (a++[-2]) w↔∃j,j<=w.length/\Gl a (w.take j):=by
 rw[Vp]
 constructor
 ·rintro ⟨j,b,c,_⟩;exact⟨j,b,c⟩
 ·rintro ⟨j,b,c⟩;exact⟨j,b,c,wO _⟩
theorem Vq(s:Int)(d:s ≠ -2)(v:List Int):Gl [s] v↔∃c,v=[c]/\(s = -1\/s=c):=by
 rw[Qp _ _ _ d]
 constructor
 ·rintro ⟨c,e,rfl,a,b⟩;rw[XP] at b;subst b;exact⟨c,rfl,a⟩
 ·rintro ⟨c,rfl,a⟩;exact⟨c,[],rfl,a,.nil⟩
theorem wQ(a u:List Int)(s c:Int)(g:s ≠ -2):Gl (a++[s]) (u++[c])↔(s = -1\/s=c)/\Gl a u:=by
 rw[Vp]
 constructor
 ·rintro ⟨j,k,f,h⟩;obtain⟨d,hd,b⟩:=(Vq s g _).1 h;have l:=congrArg List.length hd;simp at l k;have e:j=u.length:=by omega
  subst e;rw[List.drop_left] at hd;rw[List.take_left] at f;simp at hd;subst hd;exact⟨b,f⟩
 ·rintro ⟨b,i⟩;exact⟨u.length,by simp,by rw[List.take_left];exact i,by rw[List.drop_left];exact (Vq s g _).2 ⟨c,rfl,b⟩⟩
theorem wR(a:List Int)(s:Int)(e:s ≠ -2):¬Gl (a++[s]) []:=by
 intro h;obtain⟨j,g,f,b⟩:=(Vp _ _ _).1 h;obtain⟨c,d,_⟩:=(Vq s e _).1 b;simp at d
def rI(c:BY):Int:=((yn c:Nat):Int)
def Y0(p:Int×BY):Prop:=p.1=3\/p.1=2\/(p.1=1/\vX p.2)
theorem LK(cs:List BY)(m:Nat)(h:m<cs.length):(cs.take (m+1)).map rI=(cs.take m).map rI++[rI cs[m]]:=by
 rw[List.take_succ_eq_append_getElem h,List.map_append];rfl
theorem oD(cs:List BY)(i:∀c ∈ cs,vX c)(b:List (Int×BY))(e:∀p ∈ b,Y0 p)(k:Nat)(l:k<=cs.length) :
  jg cs b k=true↔Gl (b.reverse.map ql) ((cs.take k).map rI):=by
 induction b generalizing k with
 | nil=>
  simp only[jg,List.reverse_nil,List.map_nil,XP,beq_iff_eq,List.map_eq_nil_iff,List.take_eq_nil_iff]
  constructor
  ·intro h;exact .inl h
  ·rintro (h|h)
   ·exact h
   ·subst h;simpa using l
 | cons p b v=>
  have a:=λk l=>v (λq u=>e q (by simp[u])) k l;rw[List.reverse_cons,List.map_append];simp only[List.map_cons,List.map_nil]
  by_cases h3:p.1=3
  ·have n:ql p = -2:=by unfold ql;rw[if_pos h3]
   rw[n,wT];simp only[jg,h3,if_true,List.any_eq_true,List.mem_range]
   constructor
   ·rintro ⟨j,r,t⟩;refine⟨j,by simp;omega,?_⟩;rw[<- List.map_take,List.take_take,show min j k=j by omega];exact (a j (by omega)).1 t
   ·rintro ⟨j,r,o⟩;simp at r;refine⟨j,by omega,(a j (by omega)).2 ?_⟩;rw[<- List.map_take,List.take_take,show min j k=j by omega] at o;exact o
  ·have d:ql p ≠ -2:=by
    unfold ql;rw[if_neg h3]
    split
    ·decide
    ·split
     ·decide
     ·omega
   cases k with
   | zero=>
    rw[oG cs p b h3];simp only[List.take_zero,List.map_nil]
    constructor
    ·intro h;cases h
    ·intro h;exact absurd h (wR _ _ d)
   | succ m=>
    rw[LK cs m (by omega),wQ _ _ _ _ d]
    by_cases h2:p.1=2
    ·rw[oC cs p b h2 (m+1) (by omega),show m+1-1=m by omega,a m (by omega)]
     have:ql p = -1:=by unfold ql;rw[if_neg h3,if_pos h2]
     rw[this];simp
    ·have s:p.1=1/\vX p.2:=by
      rcases e p (by simp) with h|h|h
      ·exact absurd h h3
      ·exact absurd h h2
      ·exact h
     have n:ql p=rI p.2:=by unfold ql;rw[if_neg h3,if_neg h2,if_neg (by omega)];rfl
     rw[oF cs p b h3 h2 (m+1) (by omega) (by omega),n,Bool.and_eq_true];simp only[Nat.add_sub_cancel];rw[a m (by omega),GG p.2 cs[m] s.2 (i _ (List.getElem_mem _)),decide_eq_true_eq];unfold rI
     constructor
     ·rintro ⟨f,g⟩;exact⟨.inr (by rw[g]),f⟩
     ·rintro ⟨f|f,g⟩
      ·omega
      ·exact⟨g,by omega⟩
theorem oH(cs:List BY)(b:∀c ∈ cs,vX c)(a:List (Int×BY))(d:∀p ∈ a,Y0 p):covers a cs=true↔Gl (a.map ql) (cs.map rI):=by
 unfold covers;rw[oD cs b a.reverse (λp e=>d p (List.mem_reverse.1 e)) cs.length (Nat.le_refl _),List.reverse_reverse,List.take_length]
def Q7(p:Int×BY):Prop:=Y0 p\/(p.1=4/\zH p.2=true)
theorem Ba(s:BY)(k:Nat)(b:k<s.size)(h:(s.data.toList.getD k 0).toNat<128):vX (s.extract k (k+1)):=by
 have a:k<s.data.toList.length:=by rw[zx];exact b
 refine⟨(s.data.toList.getD k 0).toNat,by omega,?_⟩;unfold nums
 have:(s.extract k (k+1)).data.toList=[s.data.toList.getD k 0]:=by
  rw[ByteArray.data_extract,Array.toList_extract,List.getD_eq_getElem?_getD,List.getElem?_eq_getElem a];simp only[List.extract_eq_take_drop,Option.getD_some];rw[List.drop_eq_getElem_cons a]
  simp
 rw[this];unfold uk;rw[if_pos h];rfl
theorem pW(s:BY)(h:(uj s).2.2≠0):Q7 ((uj s).1,(uj s).2.1):=by
 unfold uj at h |-
 split at h
 ·exact absurd rfl h
 rename_i c;rw[if_neg c]
 split at h
 ·rename_i a;rw[if_pos a];exact .inl (.inr (.inr ⟨rfl,Ba s 1 (by omega) (by omega)⟩))
 rename_i a;rw[if_neg a]
 split at h
 ·rename_i d;rw[if_pos d]
  split at h
  ·rename_i e;rw[if_pos e]
   split at h
   ·rename_i b;rw[if_pos b];exact .inr ⟨rfl,b⟩
   ·exact absurd rfl h
  ·exact absurd rfl h
 ·exact absurd rfl h
theorem EQ(s:BY)(c:0<s.size)(k:Int)(t:BY)(n:Nat)(h:qY s=some (k,t,n)):Q7 (k,t):=by
 unfold qY at h
 split at h
 ·simp at h
 rename_i b
 split at h
 ·simp at h;obtain⟨rfl,rfl,rfl⟩:=h;exact .inl (.inl rfl)
 split at h
 ·simp at h;obtain⟨rfl,rfl,rfl⟩:=h;exact .inl (.inr (.inl rfl))
 split at h
 ·split at h
  ·simp at h
  ·rename_i a
   have:=pW s a
   simp at h;rw[h] at this;exact this
 ·simp at h;obtain⟨rfl,rfl,rfl⟩:=h
  rcases XL s c with ⟨ho2,_⟩|⟨_,hc,_⟩
  ·exact absurd ho2 b
  ·exact .inl (.inr (.inr ⟨rfl,hc⟩))
theorem Fg(f:Nat)(s:BY)(l:List (Int×BY))(h:yC f s=some l):∀p ∈ l,Q7 p:=by
 induction f generalizing s l with
 | zero=>simp[yC] at h
 | succ f d=>
  rw[yC] at h
  split at h
  ·simp at h;subst h;simp
  rename_i e
  split at h
  ·simp at h
  ·rename_i k t n c;obtain⟨r,b,rfl⟩:=Option.map_eq_some_iff.1 h;intro p a
   rcases List.mem_cons.1 a with rfl|a
   ·exact EQ s (by omega) k t n c
   ·exact d _ _ b p a
theorem Fq(s:BY):∀p ∈ (parts s).getD [],Q7 p:=by
 cases h:parts s with
 | none=>simp
 | some l=>
  unfold parts at h
  split at h
  ·simp at h
  ·exact Fg _ _ _ h
theorem Ct(r:Req)(g:List (Int×BY))(f:∀p ∈ g,Q7 p)(q:List (Int×BY))(h:laid r g=some q):∀p ∈ q,Y0 p:=by
 induction g generalizing q with
 | nil=>simp[laid] at h;subst h;simp
 | cons p g l=>
  rw[laid] at h
  split at h
  ·simp at h
  ·rename_i a e;obtain⟨b,hb,rfl⟩:=Option.map_eq_some_iff.1 h;intro x d
   rcases List.mem_append.1 d with d|d
   ·unfold Zm at e
    split at e
    ·obtain⟨v,m,rfl⟩:=Option.map_eq_some_iff.1 e;obtain⟨c,j,rfl⟩:=List.mem_map.1 d;exact .inr (.inr ⟨rfl,Kq v c j⟩)
    ·rename_i i;simp at e;subst e;simp at d;subst d
     rcases f x (by simp) with h|⟨h,_⟩
     ·exact h
     ·exact absurd h i
   ·exact l (λp k=>f p (by simp[k])) b hb x d
theorem DR(s:BY)(h:zH s=true):(s.toList==[])=false:=by
 unfold zH at h;simp at h;rw[beq_eq_false_iff_ne,Lib.toList_data];intro e
 have:=zx s
 rw[e] at this;simp at this;omega
end Pg
end Go.Proofs.YtdakgnaojakldaaGreatDoor
