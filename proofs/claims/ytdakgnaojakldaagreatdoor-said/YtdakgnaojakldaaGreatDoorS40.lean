/- P -/
import Derived.Test.YtdakgnaojakldaaGreatDoorS39
import Derived.Lib.ValidLaws
import Derived.Shelf.Unicode.ValidAny
open Go.Proofs.Tryz
set_option maxRecDepth 100000
set_option maxHeartbeats 1000000
namespace Go.Proofs.YtdakgnaojakldaaGreatDoor
open Go.RowKit
def Zo(s:Int):Bool:=s == -2
def Yk(s c:Int):Bool:=s == -1||s==c
theorem Vx(s:Int)(w:World):Calls prog 238 #[.int .i32 s] w λe a=>e = .returned (.bool (Zo s))/\a=w:=by
 unfold Zo;go_enter func238,ntmps238
 go_wp2
 go_ret;exact⟨rfl,rfl⟩
theorem LU(s c:Int)(w:World):Calls prog 239 #[.int .i32 s,.int .i32 c] w λe a=>e = .returned (.bool (Yk s c))/\a=w:=by
 unfold Yk
 cases h:s == -1 with
 | true=>
  go_enter func239,ntmps239
  go_wp2
  go_ret;exact⟨rfl,rfl⟩
 | false=>
  go_enter func239,ntmps239
  go_wp2
  go_ret;exact⟨by simp,rfl⟩
theorem iW(S:List Int)(a:Nat):yX (λj=>Zo (S.getD (a+j) 0)) (S.length-a)=true↔∀s ∈ S.drop a,s = -2:=by
 unfold yX Zo;rw[List.all_eq_true]
 constructor
 ·intro h s d;obtain⟨j,b,rfl⟩:=List.mem_iff_getElem.1 d;simp at b
  have:=h j (List.mem_range.2 (by omega))
  rw[List.getD_eq_getElem?_getD,List.getElem?_eq_getElem (by omega)] at this
  simpa [List.getElem_drop] using this
 ·intro h j b;have c:=List.mem_range.1 b;rw[List.getD_eq_getElem?_getD,List.getElem?_eq_getElem (by omega)]
  have:=h (S[a+j]'(by omega)) (by rw[List.mem_iff_getElem];exact⟨j,by simp;omega,by simp⟩)
  simpa using this
theorem Dm(S W:List Int)(ao N:Option Addr)(c1 c2:Nat)(w:World)(O:rowAt w ao S.length λj=>S.getD j 0)(V:rowAt w N W.length λj=>W.getD j 0)
  (U:S.length<=1000000)(X:W.length<=1000000)(a1:S.length<=c1)(A:Bool)(C:A=true↔Pg.Gl S W) :
  Calls prog 214 #[.slice ao S.length c1,.slice N W.length c2] w λe q=>e = .returned (.bool A)/\Below w.heap.size w q:=by
 have I:=hid C;clear C;go_enter func214,ntmps214
 go_wp2
 go_loopw [5,6,7,8] (λJ T M hv wr=>∃a b t h:Nat,J = .int .i64 a/\T = .int .i64 b/\M = .int .i64 t/\hv = .int .i64 h/\Pg.St S W a b t h/\Below w.heap.size w wr)
  (λJ _ M _ _=>Pg.meas S.length W.length (intOf J).toNat (intOf M).toNat)
 case atStart=>exact⟨0,0,0,0,rfl,rfl,rfl,rfl,Pg.Iz S W,Below.refl _ _⟩
 case round=>
  obtain⟨a,b,t,h,rfl,rfl,rfl,rfl,f,k⟩:=hrel;have y:=hid f;have L:a<=S.length/\h<=W.length/\t<=h/\b<=a:=⟨f.1,f.2.1,f.2.2.1,f.2.2.2.1⟩;obtain⟨E,Z,K,a0⟩:=L;clear f
  by_cases hlt:h<W.length
  ·have R:(h:Int)<(W.length:Int):=by omega
   rcases V with h0|⟨wb,wo,rfl,hwc⟩
   ·omega
   have qw:=zg k (hwc h hlt);obtain⟨c,p⟩:=Nm (W.getD h 0);simp only[p] at qw
   by_cases ha:a<S.length
   ·have Y:(a:Int)<(S.length:Int):=by omega
    rcases O with h0|⟨sb,so,rfl,hsc⟩
    ·omega
    have qs:=zg k (hsc a ha);obtain⟨s,u⟩:=Nm (S.getD a 0);simp only[u] at qs;clear hsc hwc
    cases hm:Zo s with
    | true=>
     have g:S.getD a 0 = -2:=by rw[u];simpa [Zo] using hm
     have f:=hid (Pg.IA S W a b t h y.out ha g);have i:=λz=>Vx s z;rw[hm] at i;have HC:=hid p;clear u g hm p
     go_wp2_with (go_at_call 238;refine (i _).mono ?_;rintro e q ⟨rfl,rfl⟩)
     go_roundw
     case rel=>exact⟨a+1,a+1,h,h,by go_num,by go_num,rfl,rfl,f.out,k⟩
     case measure=>simp[intOf];exact Pg.bR _ _ _ _ _ ha K
    | false=>
     have g:S.getD a 0 ≠ -2:=by rw[u];simpa [Zo] using hm
     have i:=λz=>Vx s z;rw[hm] at i;have m:=λz=>LU s c z
     cases hk:Yk s c with
     | true=>
      have G:S.getD a 0 = -1\/S.getD a 0=W.getD h 0:=by rw[u,p];simpa [Yk] using hk
      have f:=hid (Pg.IB S W a b t h y.out ha hlt g G);rw[hk] at m;clear u g G hm p hk
      go_wp2_with (go_at_call 238;refine (i _).mono ?_;rintro e q ⟨rfl,rfl⟩)
      go_quiet ((go_at_call 239;exact Calls.quiet_of_same (m _)))
      go_wp2
      exact⟨⟨a+1,b,t,h+1,by go_num,rfl,rfl,by go_num,f.out,below_drewN k nq⟩,by simp[intOf];exact Pg.bR _ _ _ _ _ ha (Nat.le_refl _)⟩
     | false=>
      have d:Pg.Bad S W a h:=λ_=>⟨g,by rw[u,p];simpa [Yk] using hk⟩;rw[hk] at m
      by_cases hb0:0<b
      ·have f:=hid (Pg.gH S W a b t h y.out d hlt hb0);have D:(0:Int)<(b:Int):=by omega
       clear u g hm p hk d
       go_wp2_with (go_at_call 238;refine (i _).mono ?_;rintro e q ⟨rfl,rfl⟩)
       go_quiet ((go_at_call 239;exact Calls.quiet_of_same (m _)))
       go_wp2
       exact⟨⟨b,b,t+1,t+1,rfl,rfl,by go_num,by go_num,f.out,below_drewN k nq⟩,by simp[intOf];exact Pg.bS _ _ _ _ _ (by omega) E⟩
      ·obtain rfl:b=0:=by omega
       have F:=Pg.gI S W a t h y.out d hlt
       have C:A=false:=by
        cases A with
        | false=>rfl
        | true=>exact absurd (I.out.1 rfl) F
       subst C;clear u g hm p hk d F
       go_wp2_with (go_at_call 238;refine (i _).mono ?_;rintro e q ⟨rfl,rfl⟩)
       go_quiet ((go_at_call 239;exact Calls.quiet_of_same (m _)))
       go_wp2
       go_ret;exact⟨rfl,below_drewN k nq⟩
   ·have d:Pg.Bad S W a h:=λh=>absurd h ha;have da:decide ((a:Int)<(S.length:Int))=false:=decide_eq_false (by omega)
    by_cases hb0:0<b
    ·have f:=hid (Pg.gH S W a b t h y.out d hlt hb0);have D:(0:Int)<(b:Int):=by omega
     clear d p;go_wp2_with fail
     go_quiet (fail)
     go_wp2
     exact⟨⟨b,b,t+1,t+1,rfl,rfl,by go_num,by go_num,f.out,below_drewN k nq⟩,by simp[intOf];exact Pg.bS _ _ _ _ _ (by omega) E⟩
    ·obtain rfl:b=0:=by omega
     have F:=Pg.gI S W a t h y.out d hlt
     have C:A=false:=by
      cases A with
      | false=>rfl
      | true=>exact absurd (I.out.1 rfl) F
     subst C;clear d F p;go_wp2_with fail
     go_quiet (fail)
     go_wp2
     go_ret;exact⟨rfl,below_drewN k nq⟩
  ·have H:=Pg.Iy S W a b t h y.out hlt;have P:(a:Int)<=(S.length:Int):=by omega
   have Q:(a:Int)<=(c1:Int):=by omega
   have v:yX (λj=>Zo (S.getD (a+j) 0)) (S.length-a)=A:=by
    rw[Bool.eq_iff_iff,iW S a,<- H];exact I.out.symm
   have o:=V4 O k
   have l:∀(r:Option Addr) (n:Nat),rowAt wr r (S.length-a) (λj=>S.getD (a+j) 0)->Calls prog 240 #[.slice r ((S.length-a:Nat)) n,.func (.func 238) #[] #[]] wr λe q=>e = .returned (.bool A)/\Below wr.heap.size wr q:=by
    intro r n hr
    have c:=lF (S.length-a) r n 238 #[] (λj=>S.getD (a+j) 0) (λj=>Zo (S.getD (a+j) 0)) wr (by omega)
     (enters_of func238 (by kernel_rfl) rfl) hr
     (λz j _ _=>(Vx _ z).mono λe q ⟨H,k⟩=>⟨H,k ▸ Below.refl _ _⟩)
    rw[v] at c;exact c
   clear H v
   by_cases hca:c1=a
   ·have c:=l ao 0 (.inl (by omega));clear l o
    go_wp2_with (go_at_call 240;refine c.mono ?_;rintro e q ⟨rfl,B⟩)
    go_ret;exact⟨rfl,k.trans (B.mono k.size)⟩
   ·have c:=l (ao.map λx=>x.add a) (c1-a) (by
     rcases o with h0|⟨sb,so,rfl,hsc⟩
     ·exact .inl (by omega)
     ·refine .inr ⟨sb,so+a,by simp[addr_add],λj hj=>?_⟩
      have:=hsc (a+j) (by omega)
      rw[Nat.add_assoc];exact this)
    clear l o
    go_wp2_with (go_at_call 240;refine c.mono ?_;rintro e q ⟨rfl,B⟩)
    go_ret;exact⟨rfl,k.trans (B.mono k.size)⟩
namespace Pg
open Ref
theorem Mo(f:Nat)(s:BY)(h:s.size<f):(jZ f s).isSome=Lib.validD s.data.toList:=by
 induction f generalizing s with
 | zero=>omega
 | succ f b=>
  rw[jZ]
  by_cases h0:s.size=0
  ·rw[if_pos h0]
   have:s.data.toList=[]:=List.eq_nil_of_length_eq_zero (by rw[zx];exact h0)
   rw[this];rfl
  ·rw[if_neg h0];have a:s.data.toList≠[]:=λe=>h0 (by rw[<- zx,e];rfl);rw[Lib.validD_step _ a];have hd:Lib.decodeL s.data.toList=Utf8.decode s 0:=rfl;rw[hd]
   rcases XL s (by omega) with ⟨ho,e⟩|⟨ho,hc,e,hn⟩
   ·rw[if_pos ho,e];simp
   ·rw[e,if_neg hn,if_neg (by rw[ho];decide),Option.isSome_map];have c:=XE s (by omega);rw[b _ (by rw[ByteArray.size_extract];omega),Lib.ext_list]
theorem nK(s:BY):Lib.validD s.data.toList=(chars s).isSome:=(Mo _ s (by omega)).symm
theorem nI(f:Nat)(s:BY)(l:List BY)(h:jZ f s=some l):∀c ∈ l,vX c:=by
 induction f generalizing s l with
 | zero=>simp[jZ] at h
 | succ f d=>
  rw[jZ] at h
  by_cases h0:s.size=0
  ·rw[if_pos h0] at h;simp at h;subst h;simp
  ·rw[if_neg h0] at h
   rcases XL s (by omega) with ⟨ho,e⟩|⟨ho,hc,e,hn⟩
   ·rw[if_pos ho] at h;simp at h
   ·rw[if_neg (by rw[ho];decide)] at h;obtain⟨r,b,rfl⟩:=Option.map_eq_some_iff.1 h;intro c a
    rcases List.mem_cons.1 a with rfl|a
    ·exact hc
    ·exact d _ _ b c a
theorem Kq(s:BY):∀c ∈ (chars s).getD [],vX c:=by
 cases h:chars s with
 | none=>simp
 | some l=>exact nI _ _ _ h
theorem oQ(s:BY)(i:Nat):Utf8.decode s i=Utf8.decode (s.extract i s.size) 0:=by
 rw[Lib.decode_at,Lib.decode_at];simp only[aH,Lib.ext_list,Nat.sub_zero,Nat.zero_add,ByteArray.size_extract,Nat.min_self]
 have e:∀j,(s.data.toList.drop i).getD j 0=s.data.toList.getD (i+j) 0:=by
  intro j;simp[List.getD]
 simp only[e,Nat.add_zero]
def kF(c:BY):Value := .int .i32 ((yn c:Nat):Int)
theorem GI(f bound i:Nat)(s:BY)(acc:Array Value)(l:List BY)(a:jZ f (s.extract i s.size)=some l)(hb:s.size-i<=bound) :
  Conv.runesFrom s bound i acc=acc++(l.map kF).toArray:=by
 induction f generalizing bound i acc l with
 | zero=>simp[jZ] at a
 | succ f j=>
  rw[jZ] at a;have c:(s.extract i s.size).size=s.size-i:=by rw[ByteArray.size_extract];omega
  by_cases h0:s.size-i=0
  ·rw[if_pos (by rw[c];exact h0)] at a;simp at a;subst a
   cases bound with
   | zero=>simp[Conv.runesFrom]
   | succ b=>unfold Conv.runesFrom;rw[if_neg (by omega)];simp
  ·rw[if_neg (by rw[c];exact h0)] at a
   rcases XL (s.extract i s.size) (by omega) with ⟨ho,e⟩|⟨ho,hc,e,hn⟩
   ·rw[if_pos ho] at a;simp at a
   ·rw[if_neg (by rw[ho];decide)] at a;obtain⟨r,d,rfl⟩:=Option.map_eq_some_iff.1 a;have g:=XE (s.extract i s.size) (by omega);obtain⟨b,rfl⟩:∃b,bound=b+1:=⟨bound-1,by omega⟩;unfold Conv.runesFrom;rw[if_pos (by omega),oQ,e]
    have h:(s.extract i s.size).extract (zW (s.extract i s.size)).size (s.extract i s.size).size=s.extract (i+(zW (s.extract i s.size)).size) s.size:=by
     rw[ByteArray.extract_extract,c];have e:min (i+(s.size-i)) s.size=s.size:=by omega
     rw[e]
    rw[h] at d;simp only;rw[j b (i+(zW (s.extract i s.size)).size) _ r d (by omega)];rw[Array.push_eq_append,Array.append_assoc];congr 1;simp[kF]
theorem GH(s:BY)(h:(chars s).isSome=true):Conv.runesFrom s s.size 0 #[]=(((chars s).getD []).map kF).toArray:=by
 obtain⟨l,a⟩:=Option.isSome_iff_exists.1 h;rw[a];have e:s.extract 0 s.size=s:=by simp
 have:=GI (s.size+1) s.size 0 s #[] l (by rw[e];exact a) (by omega)
 rw[this];simp
end Pg
theorem Mm(s:BY)(w:World)(b:s.size<=maxLen)(a:jd w) :
  Calls prog 139 #[.string s] w λe d=>e = .returned (.bool (Ref.chars s).isSome)/\Below w.heap.size w d:=by
 have c:=Any.utf8_ValidString Tryz.lays196 s w (by unfold maxLen at b;omega) a;rw[Pg.nK] at c;exact c
theorem Bp(s:BY)(w:World)(b:s.size<=maxLen)(g:jd w) :
  Calls prog 86 #[.string s] w λe f=>e = .returned (.bool (Ref.yH s))/\Below w.heap.size w f:=by
 have c:=Mm s w b g;unfold Ref.yH;generalize (Ref.chars s).isSome=V at c |-;unfold maxLen at b
 by_cases h:s.size<=100
 ·have d:decide ((s.size:Int)<=100)=true:=decide_eq_true (by omega);rw[decide_eq_true h];go_enter func86,ntmps86
  go_wp2_with (go_at_call 139;refine c.mono ?_;rintro e f ⟨rfl,a⟩)
  go_ret;exact⟨by simp,a⟩
 ·have d:decide ((s.size:Int)<=100)=false:=decide_eq_false (by omega);rw[decide_eq_false h];go_enter func86,ntmps86
  go_wp2
  go_ret;exact⟨by simp,Below.refl _ _⟩
theorem YU(s:BY)(b:Bool)(hb:Ref.yH s=b)(c:s.size<=maxLen):∀w,jd w ->
  Calls prog 86 #[.string s] w λe d=>e = .returned (.bool b)/\Below w.heap.size w d:=by
 subst hb;exact λw a=>Bp s w c a
theorem Bh(m:BY×BY)(w:World)(j:m.1.size<=maxLen)(k:m.2.size<=maxLen)(l:jd w) :
  Calls prog 88 #[ut m] w λe d=>e = .returned (.bool (Ref.vo m))/\Below w.heap.size w d:=by
 obtain⟨a,v⟩:=m;unfold ut;simp only at j k |-;generalize b:Ref.vo (a,v)=M;unfold Ref.vo at b;simp only at b;have b0:=λO=>nb w O
 cases d1:a.toList==[119,104,111] with
 | true=>
  have e:M=false:=by rw[<- b,d1];simp
  subst e;clear b;go_enter func88,ntmps88
  go_wp2
  go_ret;exact⟨rfl,b0 _⟩
 | false=>
 cases d2:a.toList==[100,111] with
 | true=>
  have e:M=false:=by rw[<- b,d2];simp
  subst e;clear b;go_enter func88,ntmps88
  go_wp2
  go_ret;exact⟨rfl,b0 _⟩
 | false=>
 cases d3:a.toList==[111,110] with
 | true=>
  have e:M=false:=by rw[<- b,d3];simp
  subst e;clear b;go_enter func88,ntmps88
  go_wp2
  go_ret;exact⟨rfl,b0 _⟩
 | false=>
 rw[d1,d2,d3] at b;have f:=λW=>YT a W j
 cases hn:Ref.zH a with
 | false=>
  have e:M=false:=by rw[<- b,hn];simp
  subst e;rw[hn] at f;clear b hn;go_enter func88,ntmps88
  go_wp2_with (go_at_call 82;refine (f _).mono ?_;rintro e d ⟨rfl,c⟩)
  go_ret;exact⟨rfl,(b0 _).trans (c.mono (by simp))⟩
 | true=>
  have i:=YU v _ rfl k;have e:M=Ref.yH v:=by rw[<- b,hn];simp
  rw[<- e] at i;rw[hn] at f;clear b hn e;go_enter func88,ntmps88
  go_wp2_with (first
   | (go_at_call 82;refine (f _).mono ?_;rintro e d ⟨rfl,c⟩;obtain⟨n,o⟩:=xB c;have p:w.heap.size<d.heap.size:=by (have:=c.size;simp at this;omega))
   | (go_at_call 86;refine (i _ (l.below ((b0 _).trans (c.mono (by simp))))).mono ?_;rintro e q ⟨rfl,g⟩))
  have h:Below w.heap.size w d:=(b0 _).trans (c.mono (by simp));go_ret;exact⟨rfl,h.trans (g.mono h.size)⟩
theorem iY(ms:List (BY×BY))(f:BY×BY->Bool):yX (λj=>f (jl ms j)) ms.length=ms.all f:=by
 unfold yX;rw[Bool.eq_iff_iff,List.all_eq_true,List.all_eq_true]
 constructor
 ·intro h c d;obtain⟨j,b,rfl⟩:=List.mem_iff_getElem.1 d
  have:=h j (List.mem_range.2 b)
  rwa [Qt ms j b] at this
 ·intro h j b;have a:=List.mem_range.1 b;rw[Qt ms j a];exact h _ (List.getElem_mem a)
theorem iX(ms:List (BY×BY))(ao:Option Addr)(cap:Nat)(w:World)(g:ms.length<=100000000000)(b:∀j,j<ms.length->(jl ms j).1.size<=maxLen/\(jl ms j).2.size<=maxLen)(f:qO w ao ms)(d:jd w) :
  Calls prog 87 #[.slice ao ms.length cap,.func (.func 88) #[] #[]] w λe h=>e = .returned (.bool (ms.all Ref.vo))/\Below w.heap.size w h:=by
 have c:=lq ms ao cap 88 #[] (λj=>Ref.vo (jl ms j)) w g (enters_of func88 (by kernel_rfl) rfl) f
  (λW j a hb=>Bh (jl ms j) W (b j a).1 (b j a).2 (d.below hb))
 rw[iY] at c;exact c
theorem sS(p:Nat->Bool)(n k:Nat)(h:zl p n=some k):k<n/\p k=true/\∀j,j<k->p j=false:=by
 unfold zl at h;rw[List.find?_range_eq_some] at h;obtain⟨a,b,c⟩:=h;exact⟨by simpa using b,a,λj d=>by simpa using c j d⟩
theorem sQ(p:Nat->Bool)(n:Nat)(h:zl p n=none):∀j,j<n->p j=false:=by
 unfold zl at h;rw[List.find?_eq_none] at h;intro j a
 simpa using h j (List.mem_range.2 a)
theorem GM(m:BY×BY)(name:BY)(B:Nat)(w:World)(b:w.cell? ⟨B,0,none⟩=some (.string name)) :
  Calls prog 241 #[ut m,.pointer (some ⟨B,0,none⟩)] w λe c=>e = .returned (.bool (m.1.toList==name.toList))/\Below w.heap.size w c:=by
 obtain⟨a,v⟩:=m;unfold ut;simp only;have q:=λO:Obj=>zg (nb w O) b;go_enter func241,ntmps241
 go_wp2
 go_ret;exact⟨rfl,nb w _⟩
theorem GN(r:Ref.Req)(name:BY)(ao:Option Addr)(cap:Nat)(w:World)(v:r.marks.length<=100000000000)(s:qO w ao r.marks) :
  Calls prog 216 #[Ref.qP r ao cap,.string name] w λe q=>
   e = .returned (.tuple #[.string ((Ref.says r name).getD ⟨#[]⟩),.bool (Ref.says r name).isSome])/\Below w.heap.size w q:=by
 obtain⟨who,act,on,ms⟩:=r;generalize a:Ref.says ⟨who,act,on,ms⟩ name=P at *;unfold Ref.says at a;simp only at a v s;unfold Ref.qP;simp only;have g:=λl m=>(nb w l).alloc (by simp) m
 cases c1:name.toList==[119,104,111] with
 | true=>
  rw[if_pos c1] at a;subst a;go_enter func216,ntmps216
  go_wp2
  go_ret2;exact⟨rfl,g _ _⟩
 | false=>
 rw[if_neg (by simp[c1])] at a
 cases c2:name.toList==[100,111] with
 | true=>
  rw[if_pos c2] at a;subst a;go_enter func216,ntmps216
  go_wp2
  go_ret2;exact⟨rfl,g _ _⟩
 | false=>
 rw[if_neg (by simp[c2])] at a
 cases c3:name.toList==[111,110] with
 | true=>
  rw[if_pos c3] at a;subst a;go_enter func216,ntmps216
  go_wp2
  go_ret2;exact⟨rfl,g _ _⟩
 | false=>
 rw[if_neg (by simp[c3])] at a
 have c:=λl m x=>aj ms ao cap 241 #[.pointer (some ⟨w.heap.size+1,0,none⟩)] (λj=>(jl ms j).1.toList==name.toList) ((w.alloc l).alloc m) v
  (enters_of func241 (by kernel_rfl) rfl) (jm s (g l m))
  (λW j _ hb=>GM (jl ms j) name (w.heap.size+1) W (zg hb x))
 obtain⟨F,hF⟩:=Nm (zl (λj=>(jl ms j).1.toList==name.toList) ms.length);simp only[hF] at c
 cases F with
 | none=>
  have e:=Ref.Dl ms name ms.length (by omega) (λj _ u=>by have:=sQ _ _ hF j u;rwa [Qt ms j u] at this);rw[e] at a;subst a;simp only[Option.getD_none,Option.isSome_none] at c;clear hF e;go_enter func216,ntmps216
  go_wp2_with (go_at_call 188;refine (c _ _ (by simp)).mono ?_;rintro e q ⟨rfl,d⟩)
  go_ret2;exact⟨rfl,(g _ _).trans (d.mono (by simp;omega))⟩
 | some k=>
  obtain⟨p,f,h⟩:=sS _ _ _ hF;rw[Qt ms k p] at f;have e:=Ref.Dk ms name k p (λj y=>by have:=h j y;rwa [Qt ms j (by omega)] at this) f;rw[e] at a;subst a;simp only[Option.getD_some,Option.isSome_some] at c
  rcases s with rfl|⟨b,o,rfl,hc⟩
  ·simp at p
  obtain⟨A,q2⟩:=hc k p;obtain⟨E,i⟩:∃n,ms[k].2=n:=⟨_,rfl⟩;rw[i] at q2 |-;have z:(k:Int)<(ms.length:Int):=by omega
  clear hF e f h hc A i;go_enter func216,ntmps216
  go_wp2_with (go_at_call 188;refine (c _ _ (by simp)).mono ?_;rintro e q ⟨rfl,d⟩;obtain⟨B,C⟩:=xB d;have t:Below w.heap.size w q:=(g _ _).trans (d.mono (by simp;omega));have D:=zg t q2)
  go_ret2;exact⟨rfl,t⟩
theorem Dr(r:Ref.Req)(name:BY)(ao:Option Addr)(cap B:Nat)(w:World)(j:r.marks.length<=100000000000)(i:qO w ao r.marks)
  (d:w.cell? ⟨B,0,none⟩=some (.string r.who))(f:w.cell? ⟨B,1,none⟩=some (.string r.act))(g:w.cell? ⟨B,2,none⟩=some (.string r.on))(h:w.cell? ⟨B,3,none⟩=some (.slice ao r.marks.length cap)) :
  Calls prog 215 #[.string name,.pointer (some ⟨B,0,none⟩)] w λe b=>
   e = .returned (.tuple #[.string ((Ref.says r name).getD ⟨#[]⟩),.bool (Ref.says r name).isSome])/\Below w.heap.size w b:=by
 have c:=GN r name ao cap w j i;obtain⟨who,act,on,ms⟩:=r;unfold Ref.qP at c;simp only at c d f g h;generalize Ref.says ⟨who,act,on,ms⟩ name=P at c;go_enter func215,ntmps215
 go_wp2_with (go_at_call 216;refine c.mono ?_;rintro e b ⟨rfl,a⟩)
 go_ret2;exact⟨rfl,a⟩
theorem GL(r:Ref.Req)(ao:Option Addr)(cap:Nat)(w:World) :
  Calls prog 175 #[Ref.qP r ao cap] w λe a=>
   e = .returned (.func (.func 215) #[] #[.pointer (some ⟨w.heap.size,0,none⟩)])/\a=w.alloc (.cells #[.string r.who,.string r.act,.string r.on,.slice ao r.marks.length cap] 53):=by
 obtain⟨who,act,on,ms⟩:=r;unfold Ref.qP;simp only;go_enter func175,ntmps175
 go_wp2
 go_ret;exact⟨rfl,rfl⟩
end Go.Proofs.YtdakgnaojakldaaGreatDoor
