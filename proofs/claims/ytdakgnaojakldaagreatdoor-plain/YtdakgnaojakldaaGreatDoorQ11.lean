/- P -/
import Derived.Test.YtdakgnaojakldaaGreatDoorQ01
import Derived.Deep.RegionWith
import Derived.Deep.Light
set_option maxRecDepth 100000
namespace Go.Proofs.YtdakgnaojakldaaGreatDoor
open Go.RowKit
namespace Ref
structure Req where
 who:BA
 act:BA
 on:BA
 marks:List (BA×BA)
def qR(r:Req)(ao:Option Addr)(cap:Nat):Value := .agg #[.string r.who,.string r.act,.string r.on,.slice ao r.marks.length cap]
def Jy(ms:List (BA×BA))(name:BA):Option BA:=(ms.find? λm=>m.1.toList==name.toList).map Prod.snd
def says(r:Req)(name:BA):Option BA:=
 if name.toList==[119,104,111] then some r.who else if name.toList==[100,111] then some r.act else if name.toList==[111,110] then some r.on else Jy r.marks name
theorem Nl(ms:List (BA×BA))(name:BA)(k:Nat)(b:k<ms.length)(hb:∀j (h:j<k),(ms[j].1.toList==name.toList)=false)(h:(ms[k].1.toList==name.toList)=true) :
  Jy ms name=some ms[k].2:=by
 unfold Jy;have e:(ms.find? λm=>m.1.toList==name.toList)=some ms[k]:=List.find?_eq_some_iff_getElem.2 ⟨h,k,b,rfl,λj a=>by simpa using hb j a⟩;rw[e];rfl
theorem Nn(ms:List (BA×BA))(name:BA)(k:Nat)(c:¬k<ms.length)(hb:∀j (_:j<k) (_:j<ms.length),(ms[j].1.toList==name.toList)=false) :
  Jy ms name=none:=by
 unfold Jy;rw[Option.map_eq_none_iff,XD];intro x b;obtain⟨j,a,rfl⟩:=ZJ b
 simpa using hb j (by omega) a
end Ref
def yK(w:World)(ao:Option Addr)(ms:List (BA×BA)):Prop:=
 ms=[]\/∃b o,ao=some ⟨b,o,none⟩/\∀j,(h:j<ms.length)->w.cell? ⟨b,o+j*2,none⟩=some (.string ms[j].1)/\w.cell? ⟨b,o+j*2+1,none⟩=some (.string ms[j].2)
namespace Ref
def ZA(m:BA×BA):Bool:=qj m.1&&jM m.2 && !(m.1.toList==[119,104,111]) && !(m.1.toList==[100,111]) && !(m.1.toList==[111,110])
def yN(r:Req):Bool:=jM r.who&&jM r.act&&jM r.on&&decide (r.marks.length<=10)&&r.marks.all ZA
end Ref
theorem uG{w c:World}{ao:Option Addr}{ms:List (BA×BA)}(h:yK w ao ms)(hb:Below w.heap.size w c):yK c ao ms:=by
 rcases h with h|⟨b,o,ha,hc⟩
 ·exact .inl h
 ·exact .inr ⟨b,o,ha,λj a=>⟨zg hb (hc j a).1,zg hb (hc j a).2⟩⟩
namespace Ref
def Xn(r:Req)(p:Int×BA):Option (List (Int×BA)):=
 if p.1=4 then (says r p.2).map λv=>((chars v).getD []).map λc=>((1:Int),c) else some [p]
def laid(r:Req):List (Int×BA)->Option (List (Int×BA))
 | []=>some []
 | p::ps=>match Xn r p with
  | none=>none
  | some a=>(laid r ps).map λb=>a++b
theorem DN(f:Nat)(s:BA)(l:List BA)(h:kY f s=some l):l.length<=s.size:=by
 induction f generalizing s l with
 | zero=>simp[kY] at h
 | succ f b=>
  rw[kY] at h
  split at h
  ·simp at h;subst h;simp
  split at h
  ·simp at h
  ·rename_i d _;obtain⟨r,a,rfl⟩:=vU.1 h
   have:=b _ _ a
   have c:=Vl s (by omega);rw[jB] at this
   simp;omega
theorem az(s:BA):((chars s).getD []).length<=s.size:=by
 cases h:chars s with
 | none=>simp
 | some l=>exact DN _ _ _ h
theorem oC(r:Req)(c:List (Int×BA))(k:Nat)(e:k<c.length)(done:List (Int×BA))(P:Option (List (Int×BA)))
  (h:P=(laid r (c.drop k)).map λb=>done++b)(a:List (Int×BA))(d:Xn r c[k]=some a):P=(laid r (c.drop (k+1))).map λb=>(done++a)++b:=by
 rw[h,uS e,laid,d];simp[Option.map_map,Function.comp_def]
theorem MB(r:Req)(a:List (Int×BA))(k:Nat)(d:k<a.length)(done:List (Int×BA))(P:Option (List (Int×BA)))
  (h:P=(laid r (a.drop k)).map λb=>done++b)(c:Xn r a[k]=none):P=none:=by
 rw[h,uS d,laid,c];rfl
theorem Mv(r:Req)(a:List (Int×BA))(k:Nat)(c:¬k<a.length)(done:List (Int×BA))(P:Option (List (Int×BA)))
  (h:P=(laid r (a.drop k)).map λb=>done++b):P=some done:=by
 rw[h,KN (by omega),laid];simp
theorem rY(a:List (Int×BA))(j:Nat)(h:j<a.length):(yX a)[j*2]?=some (.int .i64 a[j].1)/\(yX a)[j*2+1]?=some (.string a[j].2):=by
 induction a generalizing j with
 | nil=>simp at h
 | cons p a b=>
  have e:yX (p::a) = .int .i64 p.1 :: .string p.2::yX a:=by simp[yX]
  rw[e]
  cases j with
  | zero=>simp
  | succ j=>
   have:=b j (by simpa using h)
   rw[show (j+1)*2=(j*2)+1+1 by omega,show (j*2)+1+1+1=(j*2+1)+1+1 by omega]
   simpa using this
theorem Wi(l:List BA)(j:Nat)(h:j<l.length):(strCells l)[j]?=some (.string l[j]):=by
 simp[strCells,h]
def uA(cs:List BA):List (Int×BA)->Nat->Bool
 | [],k=>k==0
 | p::ps,k=>if p.1=3 then (List.range (k+1)).any (uA cs ps) else if k=0 then false else if p.1=2 then uA cs ps (k-1) else uA cs ps (k-1)&&(p.2.toList==(cs.getD (k-1) ⟨#[]⟩).toList)
def covers(a:List (Int×BA))(cs:List BA):Bool:=uA cs a.reverse cs.length
theorem Ez(cs:List BA)(p:Int×BA)(a:List (Int×BA))(h:p.1≠3):uA cs (p::a) 0=false:=by
 simp[uA,h]
theorem Ew(cs:List BA)(p:Int×BA)(a:List (Int×BA))(h:p.1=2)(k:Nat)(b:0<k):uA cs (p::a) k=uA cs a (k-1):=by
 simp only[uA];rw[za (by omega),za (by omega),zb h]
theorem Ey(cs:List BA)(p:Int×BA)(a:List (Int×BA))(c:p.1≠3)(b:p.1≠2)(k:Nat)(e:0<k)(d:k-1<cs.length) :
  uA cs (p::a) k=(uA cs a (k-1)&&(p.2.toList==cs[k-1].toList)):=by
 simp only[uA];rw[za c,za (by omega),za b,zL,zl d];rfl
def vw(pattern word:BA)(r:Req):Bool:=
 match laid r ((parts pattern).getD []) with
 | none=>false
 | some q=>covers q ((chars word).getD [])
theorem Pq(f:Nat)(s:BA)(l:List (Int×BA))(h:jW f s=some l):l.length<=s.size:=by
 induction f generalizing s l with
 | zero=>simp[jW] at h
 | succ f c=>
  rw[jW] at h
  split at h
  ·simp at h;subst h;simp
  split at h
  ·simp at h
  ·rename_i e k t n b;obtain⟨r,a,rfl⟩:=vU.1 h
   have:=c _ _ a
   have d:=dP s (by omega) k t n b;rw[jB] at this
   simp;omega
theorem Pv(s:BA):((parts s).getD []).length<=60:=by
 cases h:parts s with
 | none=>simp
 | some l=>
  unfold parts at h
  split at h
  ·simp at h
  ·have:=Pq _ _ _ h
   simp;omega
theorem Py(s:BA)(h:(parts s).isSome=true):s.size<=60:=by
 unfold parts at h
 split at h
 ·simp at h
 ·omega
end Ref
end Go.Proofs.YtdakgnaojakldaaGreatDoor
