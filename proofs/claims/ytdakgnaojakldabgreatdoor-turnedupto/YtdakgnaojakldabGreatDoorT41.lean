/- P -/
import Derived.Lib.ValidLaws
import Derived.Test.YtdakgnaojakldabGreatDoorT40
import Derived.Shelf.Unicode.ValidAny
import Derived.Maps.AppendAt
open Go.Proofs.Tryz
set_option maxRecDepth 100000
set_option maxHeartbeats 1000000
namespace Go.Proofs.YtdakgnaojakldabGreatDoor
namespace Pg
open Ref
theorem Rm(f:Nat)(s:BA)(h:s.size<f):(vV f s).isSome=Lib.validD s.data.toList:=by
 induction f generalizing s with
 | zero=>omega
 | succ f b=>
  rw[vV]
  by_cases h0:s.size=0
  ·rw[if_pos h0]
   have:s.data.toList=[]:=List.eq_nil_of_length_eq_zero (by rw[zB];exact h0)
   rw[this];rfl
  ·rw[if_neg h0];have a:s.data.toList≠[]:=λe=>h0 (by rw[<- zB,e];rfl);rw[Lib.validD_step _ a];have hd:Lib.decodeL s.data.toList=Utf8.decode s 0:=rfl;rw[hd]
   rcases Yt s (by omega) with ⟨ho,e⟩|⟨ho,hc,e,hn⟩
   ·rw[if_pos ho,e];simp
   ·rw[e,if_neg hn,if_neg (by rw[ho];decide),Option.isSome_map];have c:=Yl s (by omega);rw[b _ (by rw[ByteArray.size_extract];omega),Lib.ext_list]
theorem sU(s:BA):Lib.validD s.data.toList=(chars s).isSome:=(Rm _ s (by omega)).symm
theorem sQ(f:Nat)(s:BA)(l:List BA)(h:vV f s=some l):∀c ∈ l,uX c:=by
 induction f generalizing s l with
 | zero=>simp[vV] at h
 | succ f d=>
  rw[vV] at h
  by_cases h0:s.size=0
  ·rw[if_pos h0] at h;simp at h;subst h;simp
  ·rw[if_neg h0] at h
   rcases Yt s (by omega) with ⟨ho,e⟩|⟨ho,hc,e,hn⟩
   ·rw[if_pos ho] at h;simp at h
   ·rw[if_neg (by rw[ho];decide)] at h;obtain⟨r,b,rfl⟩:=Option.map_eq_some_iff.1 h;intro c a
    rcases List.mem_cons.1 a with rfl|a
    ·exact hc
    ·exact d _ _ b c a
theorem bg(s:BA):∀c ∈ (chars s).getD [],uX c:=by
 cases h:chars s with
 | none=>simp
 | some l=>exact sQ _ _ _ h
theorem Ac(s:BA)(i:Nat):Utf8.decode s i=Utf8.decode (s.extract i s.size) 0:=by
 rw[Lib.decode_at,Lib.decode_at];simp only[dN,Lib.ext_list,Nat.sub_zero,Nat.zero_add,ByteArray.size_extract,Nat.min_self]
 have e:∀j,(s.data.toList.drop i).getD j 0=s.data.toList.getD (i+j) 0:=by
  intro j;simp[List.getD]
 simp only[e,Nat.add_zero]
def Zq(c:BA):Value := .int .i32 ((yM c:Nat):Int)
theorem MX(f bound i:Nat)(s:BA)(acc:Array Value)(l:List BA)(a:vV f (s.extract i s.size)=some l)(k:s.size-i<=bound) :
  Conv.runesFrom s bound i acc=acc++(l.map Zq).toArray:=by
 induction f generalizing bound i acc l with
 | zero=>simp[vV] at a
 | succ f j=>
  rw[vV] at a;have c:(s.extract i s.size).size=s.size-i:=by rw[ByteArray.size_extract];omega
  by_cases h0:s.size-i=0
  ·rw[if_pos (by rw[c];exact h0)] at a;simp at a;subst a
   cases bound with
   | zero=>simp[Conv.runesFrom]
   | succ b=>unfold Conv.runesFrom;rw[if_neg (by omega)];simp
  ·rw[if_neg (by rw[c];exact h0)] at a
   rcases Yt (s.extract i s.size) (by omega) with ⟨ho,e⟩|⟨ho,hc,e,hn⟩
   ·rw[if_pos ho] at a;simp at a
   ·rw[if_neg (by rw[ho];decide)] at a;obtain⟨r,d,rfl⟩:=Option.map_eq_some_iff.1 a;have g:=Yl (s.extract i s.size) (by omega);obtain⟨b,rfl⟩:∃b,bound=b+1:=⟨bound-1,by omega⟩;unfold Conv.runesFrom;rw[if_pos (by omega),Ac,e]
    have h:(s.extract i s.size).extract (qc (s.extract i s.size)).size (s.extract i s.size).size=s.extract (i+(qc (s.extract i s.size)).size) s.size:=by
     rw[ByteArray.extract_extract,c];have e:min (i+(s.size-i)) s.size=s.size:=by omega
     rw[e]
    rw[h] at d;simp only;rw[j b (i+(qc (s.extract i s.size)).size) _ r d (by omega)];rw[Array.push_eq_append,Array.append_assoc];congr 1;simp[Zq]
theorem MW(s:BA)(h:(chars s).isSome=true):Conv.runesFrom s s.size 0 #[]=(((chars s).getD []).map Zq).toArray:=by
 obtain⟨l,a⟩:=Option.isSome_iff_exists.1 h;rw[a];have e:s.extract 0 s.size=s:=by simp
 have:=MX (s.size+1) s.size 0 s #[] l (by rw[e];exact a) (by omega)
 rw[this];simp
end Pg
end Go.Proofs.YtdakgnaojakldabGreatDoor
namespace Go.Proofs.YtdakgnaojakldabGreatDoor
open Go.RowKit
theorem Rl(s:BA)(w:World)(b:s.size<=maxLen)(a:jQ w) :
  Calls prog 45 #[.string s] w λe d=>e = .returned (.bool (Ref.chars s).isSome)/\Below w.heap.size w d:=by
 have c:=Any.utf8_ValidString Tryz.lays196 s w (by unfold maxLen at b;omega) a;rw[Pg.sU] at c;exact c
theorem Ex(s:BA)(w:World)(b:s.size<=maxLen)(g:jQ w) :
  Calls prog 22 #[.string s] w λe f=>e = .returned (.bool (Ref.yQ s))/\Below w.heap.size w f:=by
 have c:=Rl s w b g;unfold Ref.yQ;generalize (Ref.chars s).isSome=V at c |-;unfold maxLen at b
 by_cases h:s.size<=100
 ·have d:decide ((s.size:Int)<=100)=true:=decide_eq_true (by omega);rw[decide_eq_true h];go_enter func22,ntmps22
  go_wp2_with (go_at_call 45;refine c.mono ?_;rintro e f ⟨rfl,a⟩)
  go_ret;exact⟨by simp,a⟩
 ·have d:decide ((s.size:Int)<=100)=false:=decide_eq_false (by omega);rw[decide_eq_false h];go_enter func22,ntmps22
  go_wp2
  go_ret;exact⟨by simp,Below.refl _ _⟩
theorem JD(s:BA)(b:Bool)(c:Ref.yQ s=b)(d:s.size<=maxLen):∀w,jQ w ->
  Calls prog 22 #[.string s] w λe f=>e = .returned (.bool b)/\Below w.heap.size w f:=by
 subst c;exact λw a=>Ex s w d a
theorem Ep(m:BA×BA)(w:World)(j:m.1.size<=maxLen)(k:m.2.size<=maxLen)(l:jQ w) :
  Calls prog 24 #[kF m] w λe d=>e = .returned (.bool (Ref.uP m))/\Below w.heap.size w d:=by
 obtain⟨a,v⟩:=m;unfold kF;simp only at j k |-;generalize b:Ref.uP (a,v)=M;unfold Ref.uP at b;simp only at b;have b0:=λO=>nB w O
 cases d1:a.toList==[119,104,111] with
 | true=>
  have e:M=false:=by rw[<- b,d1];simp
  subst e;clear b;go_enter func24,ntmps24
  go_wp2
  go_ret;exact⟨rfl,b0 _⟩
 | false=>
 cases d2:a.toList==[100,111] with
 | true=>
  have e:M=false:=by rw[<- b,d2];simp
  subst e;clear b;go_enter func24,ntmps24
  go_wp2
  go_ret;exact⟨rfl,b0 _⟩
 | false=>
 cases d3:a.toList==[111,110] with
 | true=>
  have e:M=false:=by rw[<- b,d3];simp
  subst e;clear b;go_enter func24,ntmps24
  go_wp2
  go_ret;exact⟨rfl,b0 _⟩
 | false=>
 rw[d1,d2,d3] at b;have f:=λW=>JC a W j
 cases hn:Ref.zM a with
 | false=>
  have e:M=false:=by rw[<- b,hn];simp
  subst e;rw[hn] at f;clear b hn;go_enter func24,ntmps24
  go_wp2_with (go_at_call 29;refine (f _).mono ?_;rintro e d ⟨rfl,c⟩)
  go_ret;exact⟨rfl,(b0 _).trans (c.mono (by simp))⟩
 | true=>
  have i:=JD v _ rfl k;have e:M=Ref.yQ v:=by rw[<- b,hn];simp
  rw[<- e] at i;rw[hn] at f;clear b hn e;go_enter func24,ntmps24
  go_wp2_with (first
   | (go_at_call 29;refine (f _).mono ?_;rintro e d ⟨rfl,c⟩;obtain⟨n,o⟩:=xR c;have p:w.heap.size<d.heap.size:=by (have:=c.size;simp at this;omega))
   | (go_at_call 22;refine (i _ (l.below ((b0 _).trans (c.mono (by simp))))).mono ?_;rintro e q ⟨rfl,g⟩))
  have h:Below w.heap.size w d:=(b0 _).trans (c.mono (by simp));go_ret;exact⟨rfl,h.trans (g.mono h.size)⟩
theorem oz(ms:List (BA×BA))(f:BA×BA->Bool):jD (λj=>f (jX ms j)) ms.length=ms.all f:=by
 unfold jD;rw[Bool.eq_iff_iff,List.all_eq_true,List.all_eq_true]
 constructor
 ·intro h c d;obtain⟨j,b,rfl⟩:=List.mem_iff_getElem.1 d
  have:=h j (List.mem_range.2 b)
  rwa [Q6 ms j b] at this
 ·intro h j b;have a:=List.mem_range.1 b;rw[Q6 ms j a];exact h _ (List.getElem_mem a)
theorem ou(ms:List (BA×BA))(ao:Option Addr)(cap:Nat)(w:World)(h:ms.length<=100000000000)(b:∀j,j<ms.length->(jX ms j).1.size<=maxLen/\(jX ms j).2.size<=maxLen)(g:xL w ao ms)(d:jQ w) :
  Calls prog 23 #[.slice ao ms.length cap,.func (.func 24) #[] #[]] w λe i=>e = .returned (.bool (ms.all Ref.uP))/\Below w.heap.size w i:=by
 have c:=oI ms ao cap 24 #[] (λj=>Ref.uP (jX ms j)) w h (enters_of func24 (by kernel_rfl) rfl) g
  (λW j a f=>Ep (jX ms j) W (b j a).1 (b j a).2 (d.below f))
 rw[oz] at c;exact c
theorem BZ(p:Nat->Bool)(n k:Nat)(h:zm p n=some k):k<n/\p k=true/\∀j,j<k->p j=false:=by
 unfold zm at h;rw[List.find?_range_eq_some] at h;obtain⟨a,b,c⟩:=h;exact⟨by simpa using b,a,λj d=>by simpa using c j d⟩
theorem BU(p:Nat->Bool)(n:Nat)(h:zm p n=none):∀j,j<n->p j=false:=by
 unfold zm at h;rw[List.find?_eq_none] at h;intro j a
 simpa using h j (List.mem_range.2 a)
theorem Nb(m:BA×BA)(name:BA)(B:Nat)(w:World)(b:w.cell? ⟨B,0,none⟩=some (.string name)) :
  Calls prog 138 #[kF m,.pointer (some ⟨B,0,none⟩)] w λe c=>e = .returned (.bool (m.1.toList==name.toList))/\Below w.heap.size w c:=by
 obtain⟨a,v⟩:=m;unfold kF;simp only;have q:=λO:Obj=>zb (nB w O) b;go_enter func138,ntmps138
 go_wp2
 go_ret;exact⟨rfl,nB w _⟩
theorem Nc(r:Ref.Req)(name:BA)(ao:Option Addr)(cap:Nat)(w:World)(v:r.marks.length<=100000000000)(s:xL w ao r.marks) :
  Calls prog 129 #[Ref.qo r ao cap,.string name] w λe q=>
   e = .returned (.tuple #[.string ((Ref.says r name).getD ⟨#[]⟩),.bool (Ref.says r name).isSome])/\Below w.heap.size w q:=by
 obtain⟨who,act,on,ms⟩:=r;generalize a:Ref.says ⟨who,act,on,ms⟩ name=P at *;unfold Ref.says at a;simp only at a v s;unfold Ref.qo;simp only;have g:=λl m=>(nB w l).alloc (by simp) m
 cases c1:name.toList==[119,104,111] with
 | true=>
  rw[if_pos c1] at a;subst a;go_enter func129,ntmps129
  go_wp2
  go_ret2;exact⟨rfl,g _ _⟩
 | false=>
 rw[if_neg (by simp[c1])] at a
 cases c2:name.toList==[100,111] with
 | true=>
  rw[if_pos c2] at a;subst a;go_enter func129,ntmps129
  go_wp2
  go_ret2;exact⟨rfl,g _ _⟩
 | false=>
 rw[if_neg (by simp[c2])] at a
 cases c3:name.toList==[111,110] with
 | true=>
  rw[if_pos c3] at a;subst a;go_enter func129,ntmps129
  go_wp2
  go_ret2;exact⟨rfl,g _ _⟩
 | false=>
 rw[if_neg (by simp[c3])] at a
 have c:=λl m x=>dD ms ao cap 138 #[.pointer (some ⟨w.heap.size+1,0,none⟩)] (λj=>(jX ms j).1.toList==name.toList) ((w.alloc l).alloc m) v
  (enters_of func138 (by kernel_rfl) rfl) (jY s (g l m))
  (λW j _ y=>Nb (jX ms j) name (w.heap.size+1) W (zb y x))
 obtain⟨F,hF⟩:=Nm (zm (λj=>(jX ms j).1.toList==name.toList) ms.length);simp only[hF] at c
 cases F with
 | none=>
  have e:=Ref.Gt ms name ms.length (by omega) (λj _ u=>by have:=BU _ _ hF j u;rwa [Q6 ms j u] at this);rw[e] at a;subst a;simp only[Option.getD_none,Option.isSome_none] at c;clear hF e;go_enter func129,ntmps129
  go_wp2_with (go_at_call 78;refine (c _ _ (by simp)).mono ?_;rintro e q ⟨rfl,d⟩)
  go_ret2;exact⟨rfl,(g _ _).trans (d.mono (by simp;omega))⟩
 | some k=>
  obtain⟨p,f,h⟩:=BZ _ _ _ hF;rw[Q6 ms k p] at f;have e:=Ref.Gs ms name k p (λj z=>by have:=h j z;rwa [Q6 ms j (by omega)] at this) f;rw[e] at a;subst a;simp only[Option.getD_some,Option.isSome_some] at c
  rcases s with rfl|⟨b,o,rfl,hc⟩
  ·simp at p
  obtain⟨B,q2⟩:=hc k p;obtain⟨G,i⟩:∃n,ms[k].2=n:=⟨_,rfl⟩;rw[i] at q2 |-;have A:(k:Int)<(ms.length:Int):=by omega
  clear hF e f h hc B i;go_enter func129,ntmps129
  go_wp2_with (go_at_call 78;refine (c _ _ (by simp)).mono ?_;rintro e q ⟨rfl,d⟩;obtain⟨C,D⟩:=xR d;have t:Below w.heap.size w q:=(g _ _).trans (d.mono (by simp;omega));have E:=zb t q2)
  go_ret2;exact⟨rfl,t⟩
theorem Gy(r:Ref.Req)(name:BA)(ao:Option Addr)(cap B:Nat)(w:World)(j:r.marks.length<=100000000000)(i:xL w ao r.marks)
  (d:w.cell? ⟨B,0,none⟩=some (.string r.who))(f:w.cell? ⟨B,1,none⟩=some (.string r.act))(g:w.cell? ⟨B,2,none⟩=some (.string r.on))(h:w.cell? ⟨B,3,none⟩=some (.slice ao r.marks.length cap)) :
  Calls prog 128 #[.string name,.pointer (some ⟨B,0,none⟩)] w λe b=>
   e = .returned (.tuple #[.string ((Ref.says r name).getD ⟨#[]⟩),.bool (Ref.says r name).isSome])/\Below w.heap.size w b:=by
 have c:=Nc r name ao cap w j i;obtain⟨who,act,on,ms⟩:=r;unfold Ref.qo at c;simp only at c d f g h;generalize Ref.says ⟨who,act,on,ms⟩ name=P at c;go_enter func128,ntmps128
 go_wp2_with (go_at_call 129;refine c.mono ?_;rintro e b ⟨rfl,a⟩)
 go_ret2;exact⟨rfl,a⟩
theorem Na(r:Ref.Req)(ao:Option Addr)(cap:Nat)(w:World) :
  Calls prog 117 #[Ref.qo r ao cap] w λe a=>
   e = .returned (.func (.func 128) #[] #[.pointer (some ⟨w.heap.size,0,none⟩)])/\a=w.alloc (.cells #[.string r.who,.string r.act,.string r.on,.slice ao r.marks.length cap] 42):=by
 obtain⟨who,act,on,ms⟩:=r;unfold Ref.qo;simp only;go_enter func117,ntmps117
 go_wp2
 go_ret;exact⟨rfl,rfl⟩
def jq(w:World)(v:Value)(l:List BA):Prop:=
 ∃ao cap,v = .slice ao l.length cap/\(l=[]\/∃b o,ao=some ⟨b,o,none⟩/\∀j,(h:j<l.length)->w.cell? ⟨b,o+j,none⟩=some (.string l[j]))
theorem Qa{w a:World}{v:Value}{l:List BA}(h:jq w v l)(c:Below w.heap.size w a):jq a v l:=by
 obtain⟨ao,cap,e,h⟩:=h;refine⟨ao,cap,e,?_⟩
 rcases h with h|⟨b,o,ha,hc⟩
 ·exact .inl h
 ·exact .inr ⟨b,o,ha,λj d=>zb c (hc j d)⟩
theorem Vi{w:World}{base:Nat}{e:TypeId}{v:Value}{n:Nat}{l:List BA}(f:n=l.length)(h:w.ownsRow base e 1 v n (Ref.strCells l)):jq w v l:=by
 subst f;have a:=λg c=>h.cells (g:=g) c
 rcases h.2 with ⟨rfl,h0⟩|⟨g,cap,cur,rfl,_⟩
 ·exact⟨none,0,by rw[h0],.inl (List.eq_nil_of_length_eq_zero h0)⟩
 ·refine⟨_,cap,rfl,.inr ⟨g,0,rfl,λj d=>?_⟩⟩;have i:=Ref.OU l j d;have b:=a g rfl _ _ i;rw[Ye] at b;rw[Nat.zero_add];exact b
def ZP(w:World)(b:Nat)(r:Ref.Req)(ao:Option Addr)(cap:Nat):Prop:=
 w.cell? ⟨b,0,none⟩=some (.string r.who)/\w.cell? ⟨b,1,none⟩=some (.string r.act)/\w.cell? ⟨b,2,none⟩=some (.string r.on)/\w.cell? ⟨b,3,none⟩=some (.slice ao r.marks.length cap)
theorem QS{w c:World}{b:Nat}{r:Ref.Req}{ao:Option Addr}{cap:Nat}(h:ZP w b r ao cap)(a:Below w.heap.size w c):ZP c b r ao cap:=
 ⟨zb a h.1,zb a h.2.1,zb a h.2.2.1,zb a h.2.2.2⟩
end Go.Proofs.YtdakgnaojakldabGreatDoor
