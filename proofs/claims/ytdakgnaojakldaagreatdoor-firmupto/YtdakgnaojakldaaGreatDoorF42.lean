/- P -/
import Derived.Lib.ValidLaws
import Derived.Test.YtdakgnaojakldaaGreatDoorF41
import Derived.Shelf.Unicode.ValidAny
open Go.Proofs.Tryz
set_option maxRecDepth 100000
set_option maxHeartbeats 1000000
namespace Go.Proofs.YtdakgnaojakldaaGreatDoor
namespace Pg
open Ref
theorem Sv(f:Nat)(s:BA)(h:s.size<f):(uo f s).isSome=Lib.validD s.data.toList:=by
 induction f generalizing s with
 | zero=>omega
 | succ f b=>
  rw[uo]
  by_cases h0:s.size=0
  ·rw[if_pos h0]
   have:s.data.toList=[]:=List.eq_nil_of_length_eq_zero (by rw[zy];exact h0)
   rw[this];rfl
  ·rw[if_neg h0];have a:s.data.toList≠[]:=λe=>h0 (by rw[<- zy,e];rfl);rw[Lib.validD_step _ a];have hd:Lib.decodeL s.data.toList=Utf8.decode s 0:=rfl;rw[hd]
   rcases YR s (by omega) with ⟨ho,e⟩|⟨ho,hc,e,hn⟩
   ·rw[if_pos ho,e];simp
   ·rw[e,if_neg hn,if_neg (by rw[ho];decide),Option.isSome_map];have c:=YJ s (by omega);rw[b _ (by rw[ByteArray.size_extract];omega),Lib.ext_list]
theorem Ac(s:BA):Lib.validD s.data.toList=(chars s).isSome:=(Sv _ s (by omega)).symm
theorem Aa(f:Nat)(s:BA)(l:List BA)(h:uo f s=some l):∀c ∈ l,ky c:=by
 induction f generalizing s l with
 | zero=>simp[uo] at h
 | succ f d=>
  rw[uo] at h
  by_cases h0:s.size=0
  ·rw[if_pos h0] at h;simp at h;subst h;simp
  ·rw[if_neg h0] at h
   rcases YR s (by omega) with ⟨ho,e⟩|⟨ho,hc,e,hn⟩
   ·rw[if_pos ho] at h;simp at h
   ·rw[if_neg (by rw[ho];decide)] at h;obtain⟨r,b,rfl⟩:=Option.map_eq_some_iff.1 h;intro c a
    rcases List.mem_cons.1 a with rfl|a
    ·exact hc
    ·exact d _ _ b c a
theorem dC(s:BA):∀c ∈ (chars s).getD [],ky c:=by
 cases h:chars s with
 | none=>simp
 | some l=>exact Aa _ _ _ h
theorem Bq(s:BA)(i:Nat):Utf8.decode s i=Utf8.decode (s.extract i s.size) 0:=by
 rw[Lib.decode_at,Lib.decode_at];simp only[fQ,Lib.ext_list,Nat.sub_zero,Nat.zero_add,ByteArray.size_extract,Nat.min_self]
 have e:∀j,(s.data.toList.drop i).getD j 0=s.data.toList.getD (i+j) 0:=by
  intro j;simp[List.getD]
 simp only[e,Nat.add_zero]
def ZI(c:BA):Value := .int .i32 ((yS c:Nat):Int)
theorem Oj(f bound i:Nat)(s:BA)(acc:Array Value)(l:List BA)(a:uo f (s.extract i s.size)=some l)(hb:s.size-i<=bound) :
  Conv.runesFrom s bound i acc=acc++(l.map ZI).toArray:=by
 induction f generalizing bound i acc l with
 | zero=>simp[uo] at a
 | succ f j=>
  rw[uo] at a;have c:(s.extract i s.size).size=s.size-i:=by rw[ByteArray.size_extract];omega
  by_cases h0:s.size-i=0
  ·rw[if_pos (by rw[c];exact h0)] at a;simp at a;subst a
   cases bound with
   | zero=>simp[Conv.runesFrom]
   | succ b=>unfold Conv.runesFrom;rw[if_neg (by omega)];simp
  ·rw[if_neg (by rw[c];exact h0)] at a
   rcases YR (s.extract i s.size) (by omega) with ⟨ho,e⟩|⟨ho,hc,e,hn⟩
   ·rw[if_pos ho] at a;simp at a
   ·rw[if_neg (by rw[ho];decide)] at a;obtain⟨r,d,rfl⟩:=Option.map_eq_some_iff.1 a;have g:=YJ (s.extract i s.size) (by omega);obtain⟨b,rfl⟩:∃b,bound=b+1:=⟨bound-1,by omega⟩;unfold Conv.runesFrom;rw[if_pos (by omega),Bq,e]
    have h:(s.extract i s.size).extract (qa (s.extract i s.size)).size (s.extract i s.size).size=s.extract (i+(qa (s.extract i s.size)).size) s.size:=by
     rw[ByteArray.extract_extract,c];have e:min (i+(s.size-i)) s.size=s.size:=by omega
     rw[e]
    rw[h] at d;simp only;rw[j b (i+(qa (s.extract i s.size)).size) _ r d (by omega)];rw[Array.push_eq_append,Array.append_assoc];congr 1;simp[ZI]
theorem Oi(s:BA)(h:(chars s).isSome=true):Conv.runesFrom s s.size 0 #[]=(((chars s).getD []).map ZI).toArray:=by
 obtain⟨l,a⟩:=Option.isSome_iff_exists.1 h;rw[a];have e:s.extract 0 s.size=s:=by simp
 have:=Oj (s.size+1) s.size 0 s #[] l (by rw[e];exact a) (by omega)
 rw[this];simp
end Pg
end Go.Proofs.YtdakgnaojakldaaGreatDoor
namespace Go.Proofs.YtdakgnaojakldaaGreatDoor
open Go.RowKit
theorem Su(s:BA)(w:World)(b:s.size<=maxLen)(a:jW w) :
  Calls prog 139 #[.string s] w λe d=>e = .returned (.bool (Ref.chars s).isSome)/\Below w.heap.size w d:=by
 have c:=Any.utf8_ValidString Tryz.lays196 s w (by unfold maxLen at b;omega) a;rw[Pg.Ac] at c;exact c
theorem FJ(s:BA)(w:World)(b:s.size<=maxLen)(g:jW w) :
  Calls prog 86 #[.string s] w λe f=>e = .returned (.bool (Ref.yX s))/\Below w.heap.size w f:=by
 have c:=Su s w b g;unfold Ref.yX;generalize (Ref.chars s).isSome=V at c |-;unfold maxLen at b
 by_cases h:s.size<=100
 ·have d:decide ((s.size:Int)<=100)=true:=decide_eq_true (by omega);rw[decide_eq_true h];go_enter func86,ntmps86
  go_wp2_with (go_at_call 139;refine c.mono ?_;rintro e f ⟨rfl,a⟩)
  go_ret;exact⟨by simp,a⟩
 ·have d:decide ((s.size:Int)<=100)=false:=decide_eq_false (by omega);rw[decide_eq_false h];go_enter func86,ntmps86
  go_wp2
  go_ret;exact⟨by simp,Below.refl _ _⟩
theorem Va(s:BA)(b:Bool)(hb:Ref.yX s=b)(c:s.size<=maxLen):∀w,jW w ->
  Calls prog 86 #[.string s] w λe d=>e = .returned (.bool b)/\Below w.heap.size w d:=by
 subst hb;exact λw a=>FJ s w c a
theorem Fz(m:BA×BA)(w:World)(j:m.1.size<=maxLen)(k:m.2.size<=maxLen)(l:jW w) :
  Calls prog 88 #[kY m] w λe d=>e = .returned (.bool (Ref.kg m))/\Below w.heap.size w d:=by
 obtain⟨a,v⟩:=m;unfold kY;simp only at j k |-;generalize b:Ref.kg (a,v)=M;unfold Ref.kg at b;simp only at b;have b0:=λO=>nB w O
 cases d1:a.toList==[119,104,111] with
 | true=>
  have e:M=false:=by rw[<- b,d1];simp
  subst e;clear b;go_enter func88,ntmps88
  go_wp2
  go_ret;exact⟨rfl,b0 _⟩
 | false=>
 cases d2:a.toList==[100,111] with
 | true=>
  have e:M=false:=by rw[<- b,d2];simp
  subst e;clear b;go_enter func88,ntmps88
  go_wp2
  go_ret;exact⟨rfl,b0 _⟩
 | false=>
 cases d3:a.toList==[111,110] with
 | true=>
  have e:M=false:=by rw[<- b,d3];simp
  subst e;clear b;go_enter func88,ntmps88
  go_wp2
  go_ret;exact⟨rfl,b0 _⟩
 | false=>
 rw[d1,d2,d3] at b;have f:=λW=>J9 a W j
 cases hn:Ref.zI a with
 | false=>
  have e:M=false:=by rw[<- b,hn];simp
  subst e;rw[hn] at f;clear b hn;go_enter func88,ntmps88
  go_wp2_with (go_at_call 82;refine (f _).mono ?_;rintro e d ⟨rfl,c⟩)
  go_ret;exact⟨rfl,(b0 _).trans (c.mono (by simp))⟩
 | true=>
  have i:=Va v _ rfl k;have e:M=Ref.yX v:=by rw[<- b,hn];simp
  rw[<- e] at i;rw[hn] at f;clear b hn e;go_enter func88,ntmps88
  go_wp2_with (first
   | (go_at_call 82;refine (f _).mono ?_;rintro e d ⟨rfl,c⟩;obtain⟨n,o⟩:=xV c;have p:w.heap.size<d.heap.size:=by (have:=c.size;simp at this;omega))
   | (go_at_call 86;refine (i _ (l.below ((b0 _).trans (c.mono (by simp))))).mono ?_;rintro e q ⟨rfl,g⟩))
  have h:Below w.heap.size w d:=(b0 _).trans (c.mono (by simp));go_ret;exact⟨rfl,h.trans (g.mono h.size)⟩
theorem rP(ms:List (BA×BA))(f:BA×BA->Bool):jK (λj=>f (vv ms j)) ms.length=ms.all f:=by
 unfold jK;rw[Bool.eq_iff_iff,List.all_eq_true,List.all_eq_true]
 constructor
 ·intro h c d;obtain⟨j,b,rfl⟩:=List.mem_iff_getElem.1 d
  have:=h j (List.mem_range.2 b)
  rwa [Xp ms j b] at this
 ·intro h j b;have a:=List.mem_range.1 b;rw[Xp ms j a];exact h _ (List.getElem_mem a)
theorem rO(ms:List (BA×BA))(ao:Option Addr)(cap:Nat)(w:World)(g:ms.length<=100000000000)(b:∀j,j<ms.length->(vv ms j).1.size<=maxLen/\(vv ms j).2.size<=maxLen)(f:qL w ao ms)(d:jW w) :
  Calls prog 87 #[.slice ao ms.length cap,.func (.func 88) #[] #[]] w λe h=>e = .returned (.bool (ms.all Ref.kg))/\Below w.heap.size w h:=by
 have c:=rW ms ao cap 88 #[] (λj=>Ref.kg (vv ms j)) w g (enters_of func88 (by kernel_rfl) rfl) f
  (λW j a hb=>Fz (vv ms j) W (b j a).1 (b j a).2 (d.below hb))
 rw[rP] at c;exact c
theorem Dx(p:Nat->Bool)(n k:Nat)(h:zn p n=some k):k<n/\p k=true/\∀j,j<k->p j=false:=by
 unfold zn at h;rw[List.find?_range_eq_some] at h;obtain⟨a,b,c⟩:=h;exact⟨by simpa using b,a,λj d=>by simpa using c j d⟩
theorem Dw(p:Nat->Bool)(n:Nat)(h:zn p n=none):∀j,j<n->p j=false:=by
 unfold zn at h;rw[List.find?_eq_none] at h;intro j a
 simpa using h j (List.mem_range.2 a)
theorem Oo(m:BA×BA)(name:BA)(B:Nat)(w:World)(b:w.cell? ⟨B,0,none⟩=some (.string name)) :
  Calls prog 241 #[kY m,.pointer (some ⟨B,0,none⟩)] w λe c=>e = .returned (.bool (m.1.toList==name.toList))/\Below w.heap.size w c:=by
 obtain⟨a,v⟩:=m;unfold kY;simp only;have q:=λO:Obj=>zb (nB w O) b;go_enter func241,ntmps241
 go_wp2
 go_ret;exact⟨rfl,nB w _⟩
theorem Oq(r:Ref.Req)(name:BA)(ao:Option Addr)(cap:Nat)(w:World)(v:r.marks.length<=100000000000)(s:qL w ao r.marks) :
  Calls prog 216 #[Ref.qy r ao cap,.string name] w λe q=>
   e = .returned (.tuple #[.string ((Ref.says r name).getD ⟨#[]⟩),.bool (Ref.says r name).isSome])/\Below w.heap.size w q:=by
 obtain⟨who,act,on,ms⟩:=r;generalize a:Ref.says ⟨who,act,on,ms⟩ name=P at *;unfold Ref.says at a;simp only at a v s;unfold Ref.qy;simp only;have g:=λl m=>(nB w l).alloc (by simp) m
 cases c1:name.toList==[119,104,111] with
 | true=>
  rw[if_pos c1] at a;subst a;go_enter func216,ntmps216
  go_wp2
  go_ret2;exact⟨rfl,g _ _⟩
 | false=>
 rw[if_neg (by simp[c1])] at a
 cases c2:name.toList==[100,111] with
 | true=>
  rw[if_pos c2] at a;subst a;go_enter func216,ntmps216
  go_wp2
  go_ret2;exact⟨rfl,g _ _⟩
 | false=>
 rw[if_neg (by simp[c2])] at a
 cases c3:name.toList==[111,110] with
 | true=>
  rw[if_pos c3] at a;subst a;go_enter func216,ntmps216
  go_wp2
  go_ret2;exact⟨rfl,g _ _⟩
 | false=>
 rw[if_neg (by simp[c3])] at a
 have c:=λl m x=>fF ms ao cap 241 #[.pointer (some ⟨w.heap.size+1,0,none⟩)] (λj=>(vv ms j).1.toList==name.toList) ((w.alloc l).alloc m) v
  (enters_of func241 (by kernel_rfl) rfl) (vw s (g l m))
  (λW j _ hb=>Oo (vv ms j) name (w.heap.size+1) W (zb hb x))
 obtain⟨F,hF⟩:=Nm (zn (λj=>(vv ms j).1.toList==name.toList) ms.length);simp only[hF] at c
 cases F with
 | none=>
  have e:=Ref.Iq ms name ms.length (by omega) (λj _ u=>by have:=Dw _ _ hF j u;rwa [Xp ms j u] at this);rw[e] at a;subst a;simp only[Option.getD_none,Option.isSome_none] at c;clear hF e;go_enter func216,ntmps216
  go_wp2_with (go_at_call 188;refine (c _ _ (by simp)).mono ?_;rintro e q ⟨rfl,d⟩)
  go_ret2;exact⟨rfl,(g _ _).trans (d.mono (by simp;omega))⟩
 | some k=>
  obtain⟨p,f,h⟩:=Dx _ _ _ hF;rw[Xp ms k p] at f;have e:=Ref.Ip ms name k p (λj y=>by have:=h j y;rwa [Xp ms j (by omega)] at this) f;rw[e] at a;subst a;simp only[Option.getD_some,Option.isSome_some] at c
  rcases s with rfl|⟨b,o,rfl,hc⟩
  ·simp at p
  obtain⟨A,q2⟩:=hc k p;obtain⟨v1,i⟩:∃n,ms[k].2=n:=⟨_,rfl⟩;rw[i] at q2 |-;have z:(k:Int)<(ms.length:Int):=by omega
  clear hF e f h hc A i;go_enter func216,ntmps216
  go_wp2_with (go_at_call 188;refine (c _ _ (by simp)).mono ?_;rintro e q ⟨rfl,d⟩;obtain⟨B,C⟩:=xV d;have t:Below w.heap.size w q:=(g _ _).trans (d.mono (by simp;omega));have D:=zb t q2)
  go_ret2;exact⟨rfl,t⟩
theorem IA(r:Ref.Req)(name:BA)(ao:Option Addr)(cap B:Nat)(w:World)(j:r.marks.length<=100000000000)(i:qL w ao r.marks)
  (d:w.cell? ⟨B,0,none⟩=some (.string r.who))(f:w.cell? ⟨B,1,none⟩=some (.string r.act))(g:w.cell? ⟨B,2,none⟩=some (.string r.on))(h:w.cell? ⟨B,3,none⟩=some (.slice ao r.marks.length cap)) :
  Calls prog 215 #[.string name,.pointer (some ⟨B,0,none⟩)] w λe b=>
   e = .returned (.tuple #[.string ((Ref.says r name).getD ⟨#[]⟩),.bool (Ref.says r name).isSome])/\Below w.heap.size w b:=by
 have c:=Oq r name ao cap w j i;obtain⟨who,act,on,ms⟩:=r;unfold Ref.qy at c;simp only at c d f g h;generalize Ref.says ⟨who,act,on,ms⟩ name=P at c;go_enter func215,ntmps215
 go_wp2_with (go_at_call 216;refine c.mono ?_;rintro e b ⟨rfl,a⟩)
 go_ret2;exact⟨rfl,a⟩
theorem Om(r:Ref.Req)(ao:Option Addr)(cap:Nat)(w:World) :
  Calls prog 175 #[Ref.qy r ao cap] w λe a=>
   e = .returned (.func (.func 215) #[] #[.pointer (some ⟨w.heap.size,0,none⟩)])/\a=w.alloc (.cells #[.string r.who,.string r.act,.string r.on,.slice ao r.marks.length cap] 53):=by
 obtain⟨who,act,on,ms⟩:=r;unfold Ref.qy;simp only;go_enter func175,ntmps175
 go_wp2
 go_ret;exact⟨rfl,rfl⟩
def jE(w:World)(v:Value)(l:List BA):Prop:=
 ∃ao cap,v = .slice ao l.length cap/\(l=[]\/∃b o,ao=some ⟨b,o,none⟩/\∀j,(h:j<l.length)->w.cell? ⟨b,o+j,none⟩=some (.string l[j]))
theorem Qp{w a:World}{v:Value}{l:List BA}(h:jE w v l)(hb:Below w.heap.size w a):jE a v l:=by
 obtain⟨ao,cap,d,h⟩:=h;refine⟨ao,cap,d,?_⟩
 rcases h with h|⟨b,o,ha,hc⟩
 ·exact .inl h
 ·exact .inr ⟨b,o,ha,λj c=>zb hb (hc j c)⟩
theorem VM{w:World}{base:Nat}{e:TypeId}{v:Value}{n:Nat}{l:List BA}(f:n=l.length)(h:w.ownsRow base e 1 v n (Ref.strCells l)):jE w v l:=by
 subst f;have a:=λg c=>h.cells (g:=g) c
 rcases h.2 with ⟨rfl,h0⟩|⟨g,cap,cur,rfl,_⟩
 ·exact⟨none,0,by rw[h0],.inl (List.eq_nil_of_length_eq_zero h0)⟩
 ·refine⟨_,cap,rfl,.inr ⟨g,0,rfl,λj d=>?_⟩⟩;have i:=Ref.Rf l j d;have b:=a g rfl _ _ i;rw[YC] at b;rw[Nat.zero_add];exact b
def Z6(w:World)(b:Nat)(r:Ref.Req)(ao:Option Addr)(cap:Nat):Prop:=
 w.cell? ⟨b,0,none⟩=some (.string r.who)/\w.cell? ⟨b,1,none⟩=some (.string r.act)/\w.cell? ⟨b,2,none⟩=some (.string r.on)/\w.cell? ⟨b,3,none⟩=some (.slice ao r.marks.length cap)
theorem Xc{w a:World}{b:Nat}{r:Ref.Req}{ao:Option Addr}{cap:Nat}(h:Z6 w b r ao cap)(hb:Below w.heap.size w a):Z6 a b r ao cap:=
 ⟨zb hb h.1,zb hb h.2.1,zb hb h.2.2.1,zb hb h.2.2.2⟩
end Go.Proofs.YtdakgnaojakldaaGreatDoor
