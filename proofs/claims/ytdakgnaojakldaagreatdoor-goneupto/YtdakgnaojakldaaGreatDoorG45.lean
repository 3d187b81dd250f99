/- P -/
import Derived.Lib.ValidLaws
import Derived.Test.YtdakgnaojakldaaGreatDoorG44
import Derived.Shelf.Unicode.ValidAny
open Go.Proofs.Tryz hiding parts
set_option maxRecDepth 100000
set_option maxHeartbeats 1000000
namespace Go.Proofs.YtdakgnaojakldaaGreatDoor
namespace Pg
open Ref
theorem TG(f:Nat)(s:BA)(h:s.size<f):(ut f s).isSome=Lib.validD s.data.toList:=by
 induction f generalizing s with
 | zero=>omega
 | succ f b=>
  rw[ut]
  by_cases h0:s.size=0
  ·rw[if_pos h0]
   have:s.data.toList=[]:=List.eq_nil_of_length_eq_zero (by rw[zz];exact h0)
   rw[this];rfl
  ·rw[if_neg h0];have a:s.data.toList≠[]:=λe=>h0 (by rw[<- zz,e];rfl);rw[Lib.validD_step _ a];have hd:Lib.decodeL s.data.toList=Utf8.decode s 0:=rfl;rw[hd]
   rcases Y3 s (by omega) with ⟨ho,e⟩|⟨ho,hc,e,hn⟩
   ·rw[if_pos ho,e];simp
   ·rw[e,if_neg hn,if_neg (by rw[ho];decide),Option.isSome_map];have c:=YX s (by omega);rw[b _ (by rw[ByteArray.size_extract];omega),Lib.ext_list]
theorem Bl(s:BA):Lib.validD s.data.toList=(chars s).isSome:=(TG _ s (by omega)).symm
theorem Bi(f:Nat)(s:BA)(l:List BA)(h:ut f s=some l):∀c ∈ l,kG c:=by
 induction f generalizing s l with
 | zero=>simp[ut] at h
 | succ f d=>
  rw[ut] at h
  by_cases h0:s.size=0
  ·rw[if_pos h0] at h;simp at h;subst h;simp
  ·rw[if_neg h0] at h
   rcases Y3 s (by omega) with ⟨ho,e⟩|⟨ho,hc,e,hn⟩
   ·rw[if_pos ho] at h;simp at h
   ·rw[if_neg (by rw[ho];decide)] at h;obtain⟨r,b,rfl⟩:=Option.map_eq_some_iff.1 h;intro c a
    rcases List.mem_cons.1 a with rfl|a
    ·exact hc
    ·exact d _ _ b c a
theorem eO(s:BA):∀c ∈ (chars s).getD [],kG c:=by
 cases h:chars s with
 | none=>simp
 | some l=>exact Bi _ _ _ h
theorem Cv(s:BA)(i:Nat):Utf8.decode s i=Utf8.decode (s.extract i s.size) 0:=by
 rw[Lib.decode_at,Lib.decode_at];simp only[ic,Lib.ext_list,Nat.sub_zero,Nat.zero_add,ByteArray.size_extract,Nat.min_self]
 have e:∀j,(s.data.toList.drop i).getD j 0=s.data.toList.getD (i+j) 0:=by
  intro j;simp[List.getD]
 simp only[e,Nat.add_zero]
def ZN(c:BA):Value := .int .i32 ((ja c:Nat):Int)
theorem Ps(f bound i:Nat)(s:BA)(acc:Array Value)(l:List BA)(a:ut f (s.extract i s.size)=some l)(hb:s.size-i<=bound) :
  Conv.runesFrom s bound i acc=acc++(l.map ZN).toArray:=by
 induction f generalizing bound i acc l with
 | zero=>simp[ut] at a
 | succ f j=>
  rw[ut] at a;have c:(s.extract i s.size).size=s.size-i:=by rw[ByteArray.size_extract];omega
  by_cases h0:s.size-i=0
  ·rw[if_pos (by rw[c];exact h0)] at a;simp at a;subst a
   cases bound with
   | zero=>simp[Conv.runesFrom]
   | succ b=>unfold Conv.runesFrom;rw[if_neg (by omega)];simp
  ·rw[if_neg (by rw[c];exact h0)] at a
   rcases Y3 (s.extract i s.size) (by omega) with ⟨ho,e⟩|⟨ho,hc,e,hn⟩
   ·rw[if_pos ho] at a;simp at a
   ·rw[if_neg (by rw[ho];decide)] at a;obtain⟨r,d,rfl⟩:=Option.map_eq_some_iff.1 a;have g:=YX (s.extract i s.size) (by omega);obtain⟨b,rfl⟩:∃b,bound=b+1:=⟨bound-1,by omega⟩;unfold Conv.runesFrom;rw[if_pos (by omega),Cv,e]
    have h:(s.extract i s.size).extract (qf (s.extract i s.size)).size (s.extract i s.size).size=s.extract (i+(qf (s.extract i s.size)).size) s.size:=by
     rw[ByteArray.extract_extract,c];have e:min (i+(s.size-i)) s.size=s.size:=by omega
     rw[e]
    rw[h] at d;simp only;rw[j b (i+(qf (s.extract i s.size)).size) _ r d (by omega)];rw[Array.push_eq_append,Array.append_assoc];congr 1;simp[ZN]
theorem Pq(s:BA)(h:(chars s).isSome=true):Conv.runesFrom s s.size 0 #[]=(((chars s).getD []).map ZN).toArray:=by
 obtain⟨l,a⟩:=Option.isSome_iff_exists.1 h;rw[a];have e:s.extract 0 s.size=s:=by simp
 have:=Ps (s.size+1) s.size 0 s #[] l (by rw[e];exact a) (by omega)
 rw[this];simp
end Pg
end Go.Proofs.YtdakgnaojakldaaGreatDoor
namespace Go.Proofs.YtdakgnaojakldaaGreatDoor
open Go.RowKit
theorem TF(s:BA)(w:World)(b:s.size<=maxLen)(a:jW w) :
  Calls prog 139 #[.string s] w λe d=>e = .returned (.bool (Ref.chars s).isSome)/\Below w.heap.size w d:=by
 have c:=Any.utf8_ValidString Tryz.lays196 s w (by unfold maxLen at b;omega) a;rw[Pg.Bl] at c;exact c
theorem GJ(s:BA)(w:World)(b:s.size<=maxLen)(g:jW w) :
  Calls prog 86 #[.string s] w λe f=>e = .returned (.bool (Ref.je s))/\Below w.heap.size w f:=by
 have c:=TF s w b g;unfold Ref.je;generalize (Ref.chars s).isSome=V at c |-;unfold maxLen at b
 by_cases h:s.size<=100
 ·have d:decide ((s.size:Int)<=100)=true:=decide_eq_true (by omega);rw[decide_eq_true h];go_enter func86,ntmps86
  go_wp2_with (go_at_call 139;refine c.mono ?_;rintro e f ⟨rfl,a⟩)
  go_ret;exact⟨by simp,a⟩
 ·have d:decide ((s.size:Int)<=100)=false:=decide_eq_false (by omega);rw[decide_eq_false h];go_enter func86,ntmps86
  go_wp2
  go_ret;exact⟨by simp,Below.refl _ _⟩
theorem Vw(s:BA)(b:Bool)(hb:Ref.je s=b)(c:s.size<=maxLen):∀w,jW w ->
  Calls prog 86 #[.string s] w λe d=>e = .returned (.bool b)/\Below w.heap.size w d:=by
 subst hb;exact λw a=>GJ s w c a
theorem Gz(m:BA×BA)(w:World)(j:m.1.size<=maxLen)(k:m.2.size<=maxLen)(l:jW w) :
  Calls prog 88 #[kX m] w λe d=>e = .returned (.bool (Ref.ku m))/\Below w.heap.size w d:=by
 obtain⟨a,v⟩:=m;unfold kX;simp only at j k |-;generalize b:Ref.ku (a,v)=M;unfold Ref.ku at b;simp only at b;have b0:=λO=>nB w O
 cases d1:a.toList==[119,104,111] with
 | true=>
  have e:M=false:=by rw[<- b,d1];simp
  subst e;clear b;go_enter func88,ntmps88
  go_wp2
  go_ret;exact⟨rfl,b0 _⟩
 | false=>
 cases d2:a.toList==[100,111] with
 | true=>
  have e:M=false:=by rw[<- b,d2];simp
  subst e;clear b;go_enter func88,ntmps88
  go_wp2
  go_ret;exact⟨rfl,b0 _⟩
 | false=>
 cases d3:a.toList==[111,110] with
 | true=>
  have e:M=false:=by rw[<- b,d3];simp
  subst e;clear b;go_enter func88,ntmps88
  go_wp2
  go_ret;exact⟨rfl,b0 _⟩
 | false=>
 rw[d1,d2,d3] at b;have f:=λW=>Vv a W j
 cases hn:Ref.zO a with
 | false=>
  have e:M=false:=by rw[<- b,hn];simp
  subst e;rw[hn] at f;clear b hn;go_enter func88,ntmps88
  go_wp2_with (go_at_call 82;refine (f _).mono ?_;rintro e d ⟨rfl,c⟩)
  go_ret;exact⟨rfl,(b0 _).trans (c.mono (by simp))⟩
 | true=>
  have i:=Vw v _ rfl k;have e:M=Ref.je v:=by rw[<- b,hn];simp
  rw[<- e] at i;rw[hn] at f;clear b hn e;go_enter func88,ntmps88
  go_wp2_with (first
   | (go_at_call 82;refine (f _).mono ?_;rintro e d ⟨rfl,c⟩;obtain⟨n,o⟩:=yf c;have p:w.heap.size<d.heap.size:=by (have:=c.size;simp at this;omega))
   | (go_at_call 86;refine (i _ (l.below ((b0 _).trans (c.mono (by simp))))).mono ?_;rintro e q ⟨rfl,g⟩))
  have h:Below w.heap.size w d:=(b0 _).trans (c.mono (by simp));go_ret;exact⟨rfl,h.trans (g.mono h.size)⟩
theorem tQ(ms:List (BA×BA))(f:BA×BA->Bool):jN (λj=>f (vk ms j)) ms.length=ms.all f:=by
 unfold jN;rw[Bool.eq_iff_iff,List.all_eq_true,List.all_eq_true]
 constructor
 ·intro h c d;obtain⟨j,b,rfl⟩:=List.mem_iff_getElem.1 d
  have:=h j (List.mem_range.2 b)
  rwa [Xv ms j b] at this
 ·intro h j b;have a:=List.mem_range.1 b;rw[Xv ms j a];exact h _ (List.getElem_mem a)
theorem tN(ms:List (BA×BA))(ao:Option Addr)(cap:Nat)(w:World)(g:ms.length<=100000000000)(b:∀j,j<ms.length->(vk ms j).1.size<=maxLen/\(vk ms j).2.size<=maxLen)(f:xB w ao ms)(d:jW w) :
  Calls prog 87 #[.slice ao ms.length cap,.func (.func 88) #[] #[]] w λe h=>e = .returned (.bool (ms.all Ref.ku))/\Below w.heap.size w h:=by
 have c:=wm ms ao cap 88 #[] (λj=>Ref.ku (vk ms j)) w g (enters_of func88 (by kernel_rfl) rfl) f
  (λW j a hb=>Gz (vk ms j) W (b j a).1 (b j a).2 (d.below hb))
 rw[tQ] at c;exact c
theorem Ez(p:Nat->Bool)(n k:Nat)(h:zn p n=some k):k<n/\p k=true/\∀j,j<k->p j=false:=by
 unfold zn at h;rw[List.find?_range_eq_some] at h;obtain⟨a,b,c⟩:=h;exact⟨by simpa using b,a,λj d=>by simpa using c j d⟩
theorem Ey(p:Nat->Bool)(n:Nat)(h:zn p n=none):∀j,j<n->p j=false:=by
 unfold zn at h;rw[List.find?_eq_none] at h;intro j a
 simpa using h j (List.mem_range.2 a)
theorem Pw(m:BA×BA)(name:BA)(B:Nat)(w:World)(b:w.cell? ⟨B,0,none⟩=some (.string name)) :
  Calls prog 241 #[kX m,.pointer (some ⟨B,0,none⟩)] w λe c=>e = .returned (.bool (m.1.toList==name.toList))/\Below w.heap.size w c:=by
 obtain⟨a,v⟩:=m;unfold kX;simp only;have q:=λO:Obj=>zb (nB w O) b;go_enter func241,ntmps241
 go_wp2
 go_ret;exact⟨rfl,nB w _⟩
theorem Px(r:Ref.Req)(name:BA)(ao:Option Addr)(cap:Nat)(w:World)(v:r.marks.length<=100000000000)(s:xB w ao r.marks) :
  Calls prog 216 #[Ref.qi r ao cap,.string name] w λe q=>
   e = .returned (.tuple #[.string ((Ref.says r name).getD ⟨#[]⟩),.bool (Ref.says r name).isSome])/\Below w.heap.size w q:=by
 obtain⟨who,act,on,ms⟩:=r;generalize a:Ref.says ⟨who,act,on,ms⟩ name=P at *;unfold Ref.says at a;simp only at a v s;unfold Ref.qi;simp only;have g:=λl m=>(nB w l).alloc (by simp) m
 cases c1:name.toList==[119,104,111] with
 | true=>
  rw[if_pos c1] at a;subst a;go_enter func216,ntmps216
  go_wp2
  go_ret2;exact⟨rfl,g _ _⟩
 | false=>
 rw[if_neg (by simp[c1])] at a
 cases c2:name.toList==[100,111] with
 | true=>
  rw[if_pos c2] at a;subst a;go_enter func216,ntmps216
  go_wp2
  go_ret2;exact⟨rfl,g _ _⟩
 | false=>
 rw[if_neg (by simp[c2])] at a
 cases c3:name.toList==[111,110] with
 | true=>
  rw[if_pos c3] at a;subst a;go_enter func216,ntmps216
  go_wp2
  go_ret2;exact⟨rfl,g _ _⟩
 | false=>
 rw[if_neg (by simp[c3])] at a
 have c:=λl m x=>gQ ms ao cap 241 #[.pointer (some ⟨w.heap.size+1,0,none⟩)] (λj=>(vk ms j).1.toList==name.toList) ((w.alloc l).alloc m) v
  (enters_of func241 (by kernel_rfl) rfl) (vo s (g l m))
  (λW j _ hb=>Pw (vk ms j) name (w.heap.size+1) W (zb hb x))
 obtain⟨F,hF⟩:=Nm (zn (λj=>(vk ms j).1.toList==name.toList) ms.length);simp only[hF] at c
 cases F with
 | none=>
  have e:=Ref.Lx ms name ms.length (by omega) (λj _ u=>by have:=Ey _ _ hF j u;rwa [Xv ms j u] at this);rw[e] at a;subst a;simp only[Option.getD_none,Option.isSome_none] at c;clear hF e;go_enter func216,ntmps216
  go_wp2_with (go_at_call 188;refine (c _ _ (by simp)).mono ?_;rintro e q ⟨rfl,d⟩)
  go_ret2;exact⟨rfl,(g _ _).trans (d.mono (by simp;omega))⟩
 | some k=>
  obtain⟨p,f,h⟩:=Ez _ _ _ hF;rw[Xv ms k p] at f;have e:=Ref.Lv ms name k p (λj y=>by have:=h j y;rwa [Xv ms j (by omega)] at this) f;rw[e] at a;subst a;simp only[Option.getD_some,Option.isSome_some] at c
  rcases s with rfl|⟨b,o,rfl,hc⟩
  ·simp at p
  obtain⟨A,q2⟩:=hc k p;obtain⟨E,i⟩:∃n,ms[k].2=n:=⟨_,rfl⟩;rw[i] at q2 |-;have z:(k:Int)<(ms.length:Int):=by omega
  clear hF e f h hc A i;go_enter func216,ntmps216
  go_wp2_with (go_at_call 188;refine (c _ _ (by simp)).mono ?_;rintro e q ⟨rfl,d⟩;obtain⟨B,C⟩:=yf d;have t:Below w.heap.size w q:=(g _ _).trans (d.mono (by simp;omega));have D:=zb t q2)
  go_ret2;exact⟨rfl,t⟩
theorem LG(r:Ref.Req)(name:BA)(ao:Option Addr)(cap B:Nat)(w:World)(j:r.marks.length<=100000000000)(i:xB w ao r.marks)
  (d:w.cell? ⟨B,0,none⟩=some (.string r.who))(f:w.cell? ⟨B,1,none⟩=some (.string r.act))(g:w.cell? ⟨B,2,none⟩=some (.string r.on))(h:w.cell? ⟨B,3,none⟩=some (.slice ao r.marks.length cap)) :
  Calls prog 215 #[.string name,.pointer (some ⟨B,0,none⟩)] w λe b=>
   e = .returned (.tuple #[.string ((Ref.says r name).getD ⟨#[]⟩),.bool (Ref.says r name).isSome])/\Below w.heap.size w b:=by
 have c:=Px r name ao cap w j i;obtain⟨who,act,on,ms⟩:=r;unfold Ref.qi at c;simp only at c d f g h;generalize Ref.says ⟨who,act,on,ms⟩ name=P at c;go_enter func215,ntmps215
 go_wp2_with (go_at_call 216;refine c.mono ?_;rintro e b ⟨rfl,a⟩)
 go_ret2;exact⟨rfl,a⟩
theorem Pv(r:Ref.Req)(ao:Option Addr)(cap:Nat)(w:World) :
  Calls prog 175 #[Ref.qi r ao cap] w λe a=>
   e = .returned (.func (.func 215) #[] #[.pointer (some ⟨w.heap.size,0,none⟩)])/\a=w.alloc (.cells #[.string r.who,.string r.act,.string r.on,.slice ao r.marks.length cap] 53):=by
 obtain⟨who,act,on,ms⟩:=r;unfold Ref.qi;simp only;go_enter func175,ntmps175
 go_wp2
 go_ret;exact⟨rfl,rfl⟩
def jH(w:World)(v:Value)(l:List BA):Prop:=
 ∃ao cap,v = .slice ao l.length cap/\(l=[]\/∃b o,ao=some ⟨b,o,none⟩/\∀j,(h:j<l.length)->w.cell? ⟨b,o+j,none⟩=some (.string l[j]))
theorem Qv{w a:World}{v:Value}{l:List BA}(h:jH w v l)(hb:Below w.heap.size w a):jH a v l:=by
 obtain⟨ao,cap,d,h⟩:=h;refine⟨ao,cap,d,?_⟩
 rcases h with h|⟨b,o,ha,hc⟩
 ·exact .inl h
 ·exact .inr ⟨b,o,ha,λj c=>zb hb (hc j c)⟩
theorem V8{w:World}{base:Nat}{e:TypeId}{v:Value}{n:Nat}{l:List BA}(f:n=l.length)(h:w.ownsRow base e 1 v n (Ref.strCells l)):jH w v l:=by
 subst f;have a:=λg c=>h.cells (g:=g) c
 rcases h.2 with ⟨rfl,h0⟩|⟨g,cap,cur,rfl,_⟩
 ·exact⟨none,0,by rw[h0],.inl (List.eq_nil_of_length_eq_zero h0)⟩
 ·refine⟨_,cap,rfl,.inr ⟨g,0,rfl,λj d=>?_⟩⟩;have i:=Ref.Sr l j d;have b:=a g rfl _ _ i;rw[YS] at b;rw[Nat.zero_add];exact b
def Qa(w:World)(b:Nat)(r:Ref.Req)(ao:Option Addr)(cap:Nat):Prop:=
 w.cell? ⟨b,0,none⟩=some (.string r.who)/\w.cell? ⟨b,1,none⟩=some (.string r.act)/\w.cell? ⟨b,2,none⟩=some (.string r.on)/\w.cell? ⟨b,3,none⟩=some (.slice ao r.marks.length cap)
theorem Xf{w a:World}{b:Nat}{r:Ref.Req}{ao:Option Addr}{cap:Nat}(h:Qa w b r ao cap)(hb:Below w.heap.size w a):Qa a b r ao cap:=
 ⟨zb hb h.1,zb hb h.2.1,zb hb h.2.2.1,zb hb h.2.2.2⟩
namespace Pg
theorem nI(a:List (Int×BA))(j:Nat)(h:j<a.length):(yn a)[j*2]?=some (.int .i32 (qE a[j]))/\(yn a)[j*2+1]?=some (.string (nameOf a[j])):=by
 induction a generalizing j with
 | nil=>simp at h
 | cons p a b=>
  have e:yn (p::a) = .int .i32 (qE p) :: .string (nameOf p)::yn a:=by simp[yn]
  rw[e]
  cases j with
  | zero=>simp
  | succ j=>
   have:=b j (by simpa using h)
   rw[show (j+1)*2=(j*2)+1+1 by omega,show (j*2)+1+1+1=(j*2+1)+1+1 by omega]
   simpa using this
def At(w:World)(v:Value)(a:List (Int×BA)):Prop:=
 ∃ao cap,v = .slice ao a.length cap/\(a=[]\/∃b o,ao=some ⟨b,o,none⟩/\∀j,(h:j<a.length)->w.cell? ⟨b,o+j*2,none⟩=some (.int .i32 (qE a[j]))/\w.cell? ⟨b,o+j*2+1,none⟩=some (.string (nameOf a[j])))
theorem At.below{w d:World}{v:Value}{c:List (Int×BA)}(h:At w v c)(hb:Below w.heap.size w d):At d v c:=by
 obtain⟨ao,cap,e,h⟩:=h;refine⟨ao,cap,e,?_⟩
 rcases h with h|⟨b,o,ha,hc⟩
 ·exact .inl h
 ·exact .inr ⟨b,o,ha,λj a=>⟨zb hb (hc j a).1,zb hb (hc j a).2⟩⟩
theorem Ap{w:World}{base:Nat}{e:TypeId}{v:Value}{n:Nat}{b:List (Int×BA)}(l:n=b.length)(h:w.ownsRow base e 2 v n (yn b)):At w v b:=by
 subst l;have a:=λg i=>h.cells (g:=g) i
 rcases h.2 with ⟨rfl,h0⟩|⟨g,cap,cur,rfl,_⟩
 ·exact⟨none,0,by rw[h0],.inl (List.eq_nil_of_length_eq_zero h0)⟩
 ·refine⟨_,cap,rfl,.inr ⟨g,0,rfl,λj k=>?_⟩⟩;have f:=nI b j k;have c:=a g rfl _ _ f.1;have d:=a g rfl _ _ f.2;rw[YS] at c d;exact⟨by rw[Nat.zero_add];exact c,by rw[Nat.zero_add];exact d⟩
def jU(q:List (Int×BA)):List Value:=q.map λp => .int .i32 (qE p)
theorem pu(a b:List (Int×BA)):jU (a++b)=jU a++jU b:=by simp[jU]
theorem Rq(cs:List BA):jU (cs.map λc=>((1:Int),c))=cs.map ZN:=by
 unfold jU;rw[List.map_map];apply List.map_congr_left;intro c _
 rfl
end Pg
theorem Tryz.infoRune:(prog.info? 21).map (λi=>(i.zero,i.size,i.bytes))=some (some (.int .i32 0),1,4):=by kernel_rfl
theorem oP(s:BA)(w:World)(h:s.size<=1000)(f:(Ref.chars s).isSome=true):∃C O,(convert 9 361 (.string s)).run prog w = .ok (.slice (some ⟨w.heap.size,0,none⟩) ((Ref.chars s).getD []).length C) (w.alloc O).drew
  /\ ∀j u,(((Ref.chars s).getD []).map Pg.ZN)[j]?=some u->(w.alloc O).drew.cell? ⟨w.heap.size,j,none⟩=some u:=by
 have a:=Pg.Pq s f;have g:=Ref.UI s;have d:(Conv.runesFrom s s.size 0 #[]).size=((Ref.chars s).getD []).length:=by rw[a];simp
 have c:=run_runes_of_string (P:=prog) w 9 361 21 s underlying9 underlying361 underlying21 (by rw[d];omega);rw[d] at c;refine⟨_,_,c,λj u b=>?_⟩;show (w.alloc _).cell? _=_;rw[World.cell?_alloc_at _ _ _ _ rfl,a];have e:j<(((Ref.chars s).getD []).map Pg.ZN).length:=(List.getElem?_eq_some_iff.1 b).1;rw[Array.getElem?_append_left (by simpa using e)]
 simpa using b
theorem Au{w wr c:World}{e:TypeId}{size:Nat}{v:Value}{n:Nat}{xs:List Value}(a:Below w.heap.size w wr)(b:wr.ownsRow w.heap.size e size v n xs)
  (d:wr.grownBy c v.ownBlock):Below w.heap.size w c:=
 a.grown d a.size (λk f=>(b.lt k f).1)
theorem Rs(r:Ref.Req)(a:List (Int×BA))(lv:Value)(g:Nat)(lb:Array Value)(w:World)(X:Pg.At w lv a)(c4:a.length<=60)
  (q:∀p ∈ a,p.1=4->(p.2.toList==[])=false)(y:∀n v,Ref.says r n=some v->v.size<=100/\(Ref.chars v).isSome=true)
  (eg:∀args w,(callFunc g args).run prog w = .ok (.enter g args) w)
  (hg:∀W name,Below w.heap.size w W->Calls prog g (#[.string name]++lb) W λe Y=>e = .returned (.tuple #[.string ((Ref.says r name).getD ⟨#[]⟩),.bool (Ref.says r name).isSome])/\Below W.heap.size W Y) :
  Calls prog 213 #[lv,.func (.func g) #[] lb] w λe Y=>∃v,e = .returned (.tuple #[v,.bool (Ref.laid r a).isSome])/\Below w.heap.size w Y /\
   Y.ownsRow w.heap.size 21 1 v ((Ref.laid r a).getD []).length (Pg.jU ((Ref.laid r a).getD []))/\((Ref.laid r a).getD []).length<=6000:=by
 obtain⟨i0,hi,S,T,U⟩:=info_parts Tryz.infoRune;have hP:Ref.laid r a=(Ref.laid r (a.drop 0)).map λb=>[]++b:=by simp
 generalize a1:Ref.laid r a=P at *;clear a1;have HP:=hid hP;have HS:=hid y;have HN:=hid q;clear hP y q;obtain⟨lo,D,rfl,X⟩:=X;have Q:Pg.At w (.slice lo a.length D) a:=⟨lo,D,rfl,X⟩;clear X;have HL:=hid Q;clear Q;go_enter func213,ntmps213
 go_wp2
 go_loopw [6,13] (λov iv wr=>∃(k:Nat) (done:List (Int×BA)),k<=a.length/\iv = .int .i64 k/\P=((Ref.laid r (a.drop k)).map λb=>done++b)/\done.length<=100*k /\
   wr.ownsRow w.heap.size 21 1 ov done.length (Pg.jU done)/\Below w.heap.size w wr) (λ_ iv _=>a.length-(intOf iv).toNat)
 case atStart=>exact⟨0,[],by omega,rfl,HP.out,by simp,World.ownsRow_nil _ _ _ _,Below.refl _ _⟩
 case round=>
  obtain⟨k,done,hk,rfl,L,c1,i,d⟩:=hrel;have s:=hid L;have Z:Hid (Pg.At wr (.slice lo a.length D) a):=HL.out.below d;have y:=d.size;clear L HP
  by_cases hlt:k<a.length
  ·obtain⟨c0,b0,he,a2⟩:=Z.out;simp only[Value.slice.injEq,true_and] at he;obtain⟨rfl,rfl⟩:=he
   rcases a2 with rfl|⟨b,o,rfl,hc⟩
   ·simp at hlt
   obtain⟨q1,q2⟩:=hc k hlt;have b3:(k:Int)<(a.length:Int):=by omega
   obtain⟨sg,A⟩:∃n,Pg.qE a[k]=n:=⟨_,rfl⟩;obtain⟨nm,q⟩:∃n,Pg.nameOf a[k]=n:=⟨_,rfl⟩;rw[A] at q1;rw[q] at q2;have K:=λO=>nB wr O
   by_cases h4:a[k].1=4
   ·have h:a[k].2=nm:=by rw[<- q];unfold Pg.nameOf;rw[if_pos h4]
    have c3:(nm.toList==[])=false:=by rw[<- h];exact HN.out _ (List.getElem_mem hlt) h4
    have cs:=λW hb=>hg W nm hb
    cases hsy:Ref.says r nm with
    | none=>
     have hf:=Ref.IJ r a k hlt done P s.out (by unfold Ref.Qn;rw[if_pos h4,h,hsy];rfl);subst hf;rw[hsy] at cs;simp only[Option.getD_none,Option.isSome_none] at cs;clear hsy s hc A q h4 h
     go_wp2_with (go_at_fn g;refine (cs _ (d.trans ((K _).mono y))).mono ?_;rintro e J ⟨rfl,t⟩)
     go_ret2;exact⟨_,rfl,d.trans (((K _).trans (t.mono (by simp))).mono y),World.ownsRow_nil _ _ _ _,by simp⟩
    | some v=>
     obtain⟨a5,R⟩:=HS.out nm v hsy;have m:Ref.Qn r a[k]=some (((Ref.chars v).getD []).map λc=>((1:Int),c)):=by unfold Ref.Qn;rw[if_pos h4,h,hsy];rfl
     have a3:=Ref.UI v;have I:=λW=>oP v W (by omega) R;obtain⟨V,M⟩:∃cs,(Ref.chars v).getD []=cs:=⟨_,rfl⟩;simp only[M] at m a3 I;have z:=Ref.iR r a k hlt done P s.out _ m;have F:=hid z;rw[hsy] at cs;simp only[Option.getD_some,Option.isSome_some] at cs;clear hsy s hc A q h4 h m z M R
     go_wp2_with (first
      | (go_at_fn g;refine (cs _ (d.trans ((K _).mono y))).mono ?_;rintro e J ⟨rfl,t⟩;obtain⟨C,O,N,E⟩:=I J)
      | (at_builtin;refine wpList_append_own _ rfl _ _ 361 rfl w.heap.size 21 i0 (.int .i32 0) 1 4 underlying361 hi S T U rfl (by decide) _ done.length (Pg.jU done) rfl ?_ ⟨J.heap.size,0,none⟩ V.length C (V.map Pg.ZN) rfl ?_ ?_ ?_ ?_ ?_ ?_ ?_))
     ·exact ownsRow_below i (((K _).trans (t.mono (by simp))).trans (((nB J O).drew).mono (by have:=t.size;simp at this;omega)))
     ·simp
     ·intro j u B;rw[YS];exact E j u B
     ·intro u B;obtain⟨c,_,rfl⟩:=List.mem_map.1 B
      rfl
     ·unfold maxLen;omega
     ·omega
     ·have:=t.size;simp at this |-;omega
     ·intro v' w1 l f _;have G:Below wr.heap.size wr (J.alloc O).drew:=((K _).trans (t.mono (by simp))).trans (((nB J O).drew).mono (by have:=t.size;simp at this;omega));have H:=Au (d.trans (G.mono y)) (ownsRow_below i G) f
      have x:w1.ownsRow w.heap.size 21 1 v' (done++V.map λc=>((1:Int),c)).length (Pg.jU (done++V.map λc=>((1:Int),c))):=by
       rw[Pg.pu,Pg.Rq,List.length_append,List.length_map];exact l
      clear l f i cs I t E N G
      go_wp2
      go_roundw
      case rel=>exact⟨k+1,_,by omega,by go_num,F.out,by simp;omega,x,H⟩
      case measure=>simp[intOf];omega
   ·have h:nm=⟨#[]⟩:=by rw[<- q];unfold Pg.nameOf;rw[if_neg h4]
    have m:Ref.Qn r a[k]=some [a[k]]:=by unfold Ref.Qn;rw[if_neg h4]
    have z:=Ref.iR r a k hlt done P s.out _ m;have F:=hid z;have a0:=hid A;subst h;clear m z s hc A q h4
    go_wp2_with (at_builtin;refine wpList_append_own _ rfl _ _ 361 rfl w.heap.size 21 i0 (.int .i32 0) 1 4 underlying361 hi S T U rfl (by decide) _ done.length (Pg.jU done) rfl ((i.alloc _).alloc _) ⟨wr.heap.size+1,0,none⟩ 1 1 [.int .i32 sg] rfl rfl ?_ ?_ ?_ ?_ ?_ ?_)
    ·intro j u B;rw[YS]
     match j,B with
     | 0,B=>simp at B;subst B;simp
    ·intro u B;simp at B;subst B;rfl
    ·unfold maxLen;omega
    ·omega
    ·simp;omega
    ·intro v' w1 l f _;have H:=dR d i _ _ f
     have x:w1.ownsRow w.heap.size 21 1 v' (done++[a[k]]).length (Pg.jU (done++[a[k]])):=by
      have e:Pg.jU [a[k]]=[.int .i32 sg]:=by unfold Pg.jU;simp[a0.out]
      rw[Pg.pu,e,List.length_append];exact l
     clear l f i
     go_wp2
     go_roundw
     case rel=>exact⟨k+1,_,by omega,by go_num,F.out,by simp;omega,x,H⟩
     case measure=>simp[intOf];omega
  ·have hf:=Ref.IE r a k hlt done P s.out;subst hf;clear s
   go_wp2
   go_ret2;exact⟨_,rfl,d,i,by simp;omega⟩
namespace Pg
open Ref
theorem Kk(a b w:List Int):Gl (a++b) w↔∃j,j<=w.length/\Gl a (w.take j)/\Gl b (w.drop j):=by
 induction a generalizing w with
 | nil=>
  constructor
  ·intro h;exact⟨0,by omega,by simpa using Gl.nil,by simpa using h⟩
  ·rintro ⟨j,g,e,d⟩;rw[Y9] at e
   have:w.drop j=w:=by
    rcases List.take_eq_nil_iff.1 e with rfl|rfl
    ·simp
    ·simp
   rw[this] at d;exact d
 | cons s a l=>
  by_cases hs:s = -2
  ·subst hs;rw[List.cons_append,ZH]
   constructor
   ·rintro ⟨i,hi,f⟩;obtain⟨j,g,e,d⟩:=(l _).1 f;rw[List.length_drop] at g;refine⟨i+j,by omega,(ZH _ _).2 ⟨i,by simp;omega,?_⟩,by rw[List.drop_drop] at d;exact d⟩;rw[List.drop_take,show i+j-i=j by omega];exact e
   ·rintro ⟨m,p,e,d⟩;obtain⟨i,hi,f⟩:=(ZH _ _).1 e;simp at hi;refine⟨i,by omega,(l _).2 ⟨m-i,by simp;omega,?_,?_⟩⟩
    ·rw[List.drop_take] at f;exact f
    ·rw[List.drop_drop,show i+(m-i)=m by omega];exact d
  ·rw[List.cons_append,Xn _ _ _ hs]
   constructor
   ·rintro ⟨c,o,rfl,n,f⟩;obtain⟨j,g,e,d⟩:=(l _).1 f;exact⟨j+1,by simp;omega,.one hs n (by simpa using e),by simpa using d⟩
   ·rintro ⟨j,g,e,d⟩;obtain⟨c,o,k,n,f⟩:=(Xn _ _ _ hs).1 e
    cases w with
    | nil=>simp at k
    | cons x w=>
     cases j with
     | zero=>simp at k
     | succ j=>
      simp at k;obtain⟨rfl,rfl⟩:=k;exact⟨x,w,rfl,n,(l _).2 ⟨j,by simpa using g,f,by simpa using d⟩⟩
theorem Fs(w:List Int):Gl [-2] w:=(ZH _ _).2 ⟨w.length,Nat.le_refl _,by rw[List.drop_length];exact .nil⟩
theorem Fx(a w:List Int):Gl (a++[-2]) w↔∃j,j<=w.length/\Gl a (w.take j):=by
 rw[Kk]
 constructor
 ·rintro ⟨j,b,c,_⟩;exact⟨j,b,c⟩
 ·rintro ⟨j,b,c⟩;exact⟨j,b,c,Fs _⟩
theorem Kl(s:Int)(d:s ≠ -2)(v:List Int):Gl [s] v↔∃c,v=[c]/\(s = -1\/s=c):=by
 rw[Xn _ _ _ d]
 constructor
 ·rintro ⟨c,e,rfl,a,b⟩;rw[Y9] at b;subst b;exact⟨c,rfl,a⟩
 ·rintro ⟨c,rfl,a⟩;exact⟨c,[],rfl,a,.nil⟩
theorem Fv(a u:List Int)(s c:Int)(g:s ≠ -2):Gl (a++[s]) (u++[c])↔(s = -1\/s=c)/\Gl a u:=by
 rw[Kk]
 constructor
 ·rintro ⟨j,k,f,h⟩;obtain⟨d,hd,b⟩:=(Kl s g _).1 h;have l:=congrArg List.length hd;simp at l k;have e:j=u.length:=by omega
  subst e;rw[List.drop_left] at hd;rw[List.take_left] at f;simp at hd;subst hd;exact⟨b,f⟩
 ·rintro ⟨b,i⟩;exact⟨u.length,by simp,by rw[List.take_left];exact i,by rw[List.drop_left];exact (Kl s g _).2 ⟨c,rfl,b⟩⟩
theorem Fw(a:List Int)(s:Int)(e:s ≠ -2):¬Gl (a++[s]) []:=by
 intro h;obtain⟨j,g,f,b⟩:=(Kk _ _ _).1 h;obtain⟨c,d,_⟩:=(Kl s e _).1 b;simp at d
def rI(c:BA):Int:=((ja c:Nat):Int)
def VH(p:Int×BA):Prop:=p.1=3\/p.1=2\/(p.1=1/\kG p.2)
theorem Tj(cs:List BA)(m:Nat)(h:m<cs.length):(cs.take (m+1)).map rI=(cs.take m).map rI++[rI cs[m]]:=by
 rw[List.take_succ_eq_append_getElem h,List.map_append];rfl
theorem Cc(cs:List BA)(i:∀c ∈ cs,kG c)(b:List (Int×BA))(e:∀p ∈ b,VH p)(k:Nat)(l:k<=cs.length) :
  jZ cs b k=true↔Gl (b.reverse.map qE) ((cs.take k).map rI):=by
 induction b generalizing k with
 | nil=>
  simp only[jZ,List.reverse_nil,List.map_nil,Y9,beq_iff_eq,List.map_eq_nil_iff,List.take_eq_nil_iff]
  constructor
  ·intro h;exact .inl h
  ·rintro (h|h)
   ·exact h
   ·subst h;simpa using l
 | cons p b v=>
  have a:=λk l=>v (λq u=>e q (by simp[u])) k l;rw[List.reverse_cons,List.map_append];simp only[List.map_cons,List.map_nil]
  by_cases h3:p.1=3
  ·have n:qE p = -2:=by unfold qE;rw[if_pos h3]
   rw[n,Fx];simp only[jZ,h3,if_true,List.any_eq_true,List.mem_range]
   constructor
   ·rintro ⟨j,r,t⟩;refine⟨j,by simp;omega,?_⟩;rw[<- List.map_take,List.take_take,show min j k=j by omega];exact (a j (by omega)).1 t
   ·rintro ⟨j,r,o⟩;simp at r;refine⟨j,by omega,(a j (by omega)).2 ?_⟩;rw[<- List.map_take,List.take_take,show min j k=j by omega] at o;exact o
  ·have d:qE p ≠ -2:=by
    unfold qE;rw[if_neg h3]
    split
    ·decide
    ·split
     ·decide
     ·omega
   cases k with
   | zero=>
    rw[Cf cs p b h3];simp only[List.take_zero,List.map_nil]
    constructor
    ·intro h;cases h
    ·intro h;exact absurd h (Fw _ _ d)
   | succ m=>
    rw[Tj cs m (by omega),Fv _ _ _ _ d]
    by_cases h2:p.1=2
    ·rw[Cb cs p b h2 (m+1) (by omega),show m+1-1=m by omega,a m (by omega)]
     have:qE p = -1:=by unfold qE;rw[if_neg h3,if_pos h2]
     rw[this];simp
    ·have s:p.1=1/\kG p.2:=by
      rcases e p (by simp) with h|h|h
      ·exact absurd h h3
      ·exact absurd h h2
      ·exact h
     have n:qE p=rI p.2:=by unfold qE;rw[if_neg h3,if_neg h2,if_neg (by omega)];rfl
     rw[Ce cs p b h3 h2 (m+1) (by omega) (by omega),n,Bool.and_eq_true];simp only[Nat.add_sub_cancel];rw[a m (by omega),Pp p.2 cs[m] s.2 (i _ (List.getElem_mem _)),decide_eq_true_eq];unfold rI
     constructor
     ·rintro ⟨f,g⟩;exact⟨.inr (by rw[g]),f⟩
     ·rintro ⟨f|f,g⟩
      ·omega
      ·exact⟨g,by omega⟩
theorem Cg(cs:List BA)(b:∀c ∈ cs,kG c)(a:List (Int×BA))(d:∀p ∈ a,VH p):covers a cs=true↔Gl (a.map qE) (cs.map rI):=by
 unfold covers;rw[Cc cs b a.reverse (λp e=>d p (List.mem_reverse.1 e)) cs.length (Nat.le_refl _),List.reverse_reverse,List.take_length]
def Yo(p:Int×BA):Prop:=VH p\/(p.1=4/\zO p.2=true)
theorem Gs(s:BA)(k:Nat)(b:k<s.size)(h:(s.data.toList.getD k 0).toNat<128):kG (s.extract k (k+1)):=by
 have a:k<s.data.toList.length:=by rw[zz];exact b
 refine⟨(s.data.toList.getD k 0).toNat,by omega,?_⟩;unfold nums
 have:(s.extract k (k+1)).data.toList=[s.data.toList.getD k 0]:=by
  rw[ByteArray.data_extract,Array.toList_extract,List.getD_eq_getElem?_getD,List.getElem?_eq_getElem a];simp only[List.extract_eq_take_drop,Option.getD_some];rw[List.drop_eq_getElem_cons a]
  simp
 rw[this];unfold kQ;rw[if_pos h];rfl
theorem Dq(s:BA)(h:(kM s).2.2≠0):Yo ((kM s).1,(kM s).2.1):=by
 unfold kM at h |-
 split at h
 ·exact absurd rfl h
 rename_i c;rw[if_neg c]
 split at h
 ·rename_i a;rw[if_pos a];exact .inl (.inr (.inr ⟨rfl,Gs s 1 (by omega) (by omega)⟩))
 rename_i a;rw[if_neg a]
 split at h
 ·rename_i d;rw[if_pos d]
  split at h
  ·rename_i e;rw[if_pos e]
   split at h
   ·rename_i b;rw[if_pos b];exact .inr ⟨rfl,b⟩
   ·exact absurd rfl h
  ·exact absurd rfl h
 ·exact absurd rfl h
theorem Nn(s:BA)(c:0<s.size)(k:Int)(t:BA)(n:Nat)(h:xO s=some (k,t,n)):Yo (k,t):=by
 unfold xO at h
 split at h
 ·simp at h
 rename_i b
 split at h
 ·simp at h;obtain⟨rfl,rfl,rfl⟩:=h;exact .inl (.inl rfl)
 split at h
 ·simp at h;obtain⟨rfl,rfl,rfl⟩:=h;exact .inl (.inr (.inl rfl))
 split at h
 ·split at h
  ·simp at h
  ·rename_i a
   have:=Dq s a
   simp at h;rw[h] at this;exact this
 ·simp at h;obtain⟨rfl,rfl,rfl⟩:=h
  rcases Y3 s c with ⟨ho2,_⟩|⟨_,hc,_⟩
  ·exact absurd ho2 b
  ·exact .inl (.inr (.inr ⟨rfl,hc⟩))
theorem NB(f:Nat)(s:BA)(l:List (Int×BA))(h:jo f s=some l):∀p ∈ l,Yo p:=by
 induction f generalizing s l with
 | zero=>simp[jo] at h
 | succ f d=>
  rw[jo] at h
  split at h
  ·simp at h;subst h;simp
  rename_i e
  split at h
  ·simp at h
  ·rename_i k t n c;obtain⟨r,b,rfl⟩:=Option.map_eq_some_iff.1 h;intro p a
   rcases List.mem_cons.1 a with rfl|a
   ·exact Nn s (by omega) k t n c
   ·exact d _ _ b p a
theorem NH(s:BA):∀p ∈ (parts s).getD [],Yo p:=by
 cases h:parts s with
 | none=>simp
 | some l=>
  unfold parts at h
  split at h
  ·simp at h
  ·exact NB _ _ _ h
theorem II(r:Req)(g:List (Int×BA))(f:∀p ∈ g,Yo p)(q:List (Int×BA))(h:laid r g=some q):∀p ∈ q,VH p:=by
 induction g generalizing q with
 | nil=>simp[laid] at h;subst h;simp
 | cons p g l=>
  rw[laid] at h
  split at h
  ·simp at h
  ·rename_i a e;obtain⟨b,hb,rfl⟩:=Option.map_eq_some_iff.1 h;intro x d
   rcases List.mem_append.1 d with d|d
   ·unfold Qn at e
    split at e
    ·obtain⟨v,m,rfl⟩:=Option.map_eq_some_iff.1 e;obtain⟨c,j,rfl⟩:=List.mem_map.1 d;exact .inr (.inr ⟨rfl,eO v c j⟩)
    ·rename_i i;simp at e;subst e;simp at d;subst d
     rcases f x (by simp) with h|⟨h,_⟩
     ·exact h
     ·exact absurd h i
   ·exact l (λp k=>f p (by simp[k])) b hb x d
theorem Mf(s:BA)(h:zO s=true):(s.toList==[])=false:=by
 unfold zO at h;simp at h;rw[beq_eq_false_iff_ne,Lib.toList_data];intro e
 have:=zz s
 rw[e] at this;simp at this;omega
end Pg
end Go.Proofs.YtdakgnaojakldaaGreatDoor
