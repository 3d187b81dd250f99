/- P -/
import Derived.Test.YtdakgnaojakldaaGreatDoorS01
import Derived.Deep.RegionWith
import Derived.Deep.Light
set_option maxRecDepth 100000
namespace Go.Proofs.YtdakgnaojakldaaGreatDoor
open Go.RowKit
namespace Ref
structure Req where
 who:BY
 act:BY
 on:BY
 marks:List (BY×BY)
def qP(r:Req)(ao:Option Addr)(cap:Nat):Value := .agg #[.string r.who,.string r.act,.string r.on,.slice ao r.marks.length cap]
def QZ(ms:List (BY×BY))(name:BY):Option BY:=(ms.find? λm=>m.1.toList==name.toList).map Prod.snd
def says(r:Req)(name:BY):Option BY:=
 if name.toList==[119,104,111] then some r.who else if name.toList==[100,111] then some r.act else if name.toList==[111,110] then some r.on else QZ r.marks name
theorem Dk(ms:List (BY×BY))(name:BY)(k:Nat)(b:k<ms.length)(hb:∀j (h:j<k),(ms[j].1.toList==name.toList)=false)(h:(ms[k].1.toList==name.toList)=true) :
  QZ ms name=some ms[k].2:=by
 unfold QZ;have e:(ms.find? λm=>m.1.toList==name.toList)=some ms[k]:=List.find?_eq_some_iff_getElem.2 ⟨h,k,b,rfl,λj a=>by simpa using hb j a⟩;rw[e];rfl
theorem Dl(ms:List (BY×BY))(name:BY)(k:Nat)(c:¬k<ms.length)(hb:∀j (_:j<k) (_:j<ms.length),(ms[j].1.toList==name.toList)=false) :
  QZ ms name=none:=by
 unfold QZ;rw[Option.map_eq_none_iff,List.find?_eq_none];intro x b;obtain⟨j,a,rfl⟩:=List.getElem_of_mem b
 simpa using hb j (by omega) a
end Ref
def qO(w:World)(ao:Option Addr)(ms:List (BY×BY)):Prop:=
 ms=[]\/∃b o,ao=some ⟨b,o,none⟩/\∀j,(h:j<ms.length)->w.cell? ⟨b,o+j*2,none⟩=some (.string ms[j].1)/\w.cell? ⟨b,o+j*2+1,none⟩=some (.string ms[j].2)
namespace Ref
def vo(m:BY×BY):Bool:=zH m.1&&yH m.2 && !(m.1.toList==[119,104,111]) && !(m.1.toList==[100,111]) && !(m.1.toList==[111,110])
def xe(r:Req):Bool:=yH r.who&&yH r.act&&yH r.on&&decide (r.marks.length<=10)&&r.marks.all vo
end Ref
theorem jm{w c:World}{ao:Option Addr}{ms:List (BY×BY)}(h:qO w ao ms)(hb:Below w.heap.size w c):qO c ao ms:=by
 rcases h with h|⟨b,o,ha,hc⟩
 ·exact .inl h
 ·exact .inr ⟨b,o,ha,λj a=>⟨zg hb (hc j a).1,zg hb (hc j a).2⟩⟩
namespace Ref
def Zm(r:Req)(p:Int×BY):Option (List (Int×BY)):=
 if p.1=4 then (says r p.2).map λv=>((chars v).getD []).map λc=>((1:Int),c) else some [p]
def laid(r:Req):List (Int×BY)->Option (List (Int×BY))
 | []=>some []
 | p::ps=>match Zm r p with
  | none=>none
  | some a=>(laid r ps).map λb=>a++b
theorem nJ(f:Nat)(s:BY)(l:List BY)(h:jZ f s=some l):l.length<=s.size:=by
 induction f generalizing s l with
 | zero=>simp[jZ] at h
 | succ f b=>
  rw[jZ] at h
  split at h
  ·simp at h;subst h;simp
  split at h
  ·simp at h
  ·rename_i d _;obtain⟨r,a,rfl⟩:=Option.map_eq_some_iff.1 h
   have:=b _ _ a
   have c:=XE s (by omega);rw[ByteArray.size_extract] at this
   simp;omega
theorem JW(s:BY):((chars s).getD []).length<=s.size:=by
 cases h:chars s with
 | none=>simp
 | some l=>exact nJ _ _ _ h
theorem bi(r:Req)(c:List (Int×BY))(k:Nat)(e:k<c.length)(done:List (Int×BY))(P:Option (List (Int×BY)))
  (h:P=(laid r (c.drop k)).map λb=>done++b)(a:List (Int×BY))(d:Zm r c[k]=some a):P=(laid r (c.drop (k+1))).map λb=>(done++a)++b:=by
 rw[h,List.drop_eq_getElem_cons e,laid,d];simp[Option.map_map,Function.comp_def]
theorem Cu(r:Req)(a:List (Int×BY))(k:Nat)(d:k<a.length)(done:List (Int×BY))(P:Option (List (Int×BY)))
  (h:P=(laid r (a.drop k)).map λb=>done++b)(c:Zm r a[k]=none):P=none:=by
 rw[h,List.drop_eq_getElem_cons d,laid,c];rfl
theorem Cr(r:Req)(a:List (Int×BY))(k:Nat)(c:¬k<a.length)(done:List (Int×BY))(P:Option (List (Int×BY)))
  (h:P=(laid r (a.drop k)).map λb=>done++b):P=some done:=by
 rw[h,List.drop_of_length_le (by omega),laid];simp
theorem dZ(a:List (Int×BY))(j:Nat)(h:j<a.length):(xH a)[j*2]?=some (.int .i64 a[j].1)/\(xH a)[j*2+1]?=some (.string a[j].2):=by
 induction a generalizing j with
 | nil=>simp at h
 | cons p a b=>
  have e:xH (p::a) = .int .i64 p.1 :: .string p.2::xH a:=by simp[xH]
  rw[e]
  cases j with
  | zero=>simp
  | succ j=>
   have:=b j (by simpa using h)
   rw[show (j+1)*2=(j*2)+1+1 by omega,show (j*2)+1+1+1=(j*2+1)+1+1 by omega]
   simpa using this
theorem La(l:List BY)(j:Nat)(h:j<l.length):(strCells l)[j]?=some (.string l[j]):=by
 simp[strCells,h]
def jg(cs:List BY):List (Int×BY)->Nat->Bool
 | [],k=>k==0
 | p::ps,k=>if p.1=3 then (List.range (k+1)).any (jg cs ps) else if k=0 then false else if p.1=2 then jg cs ps (k-1) else jg cs ps (k-1)&&(p.2.toList==(cs.getD (k-1) ⟨#[]⟩).toList)
def covers(a:List (Int×BY))(cs:List BY):Bool:=jg cs a.reverse cs.length
theorem oG(cs:List BY)(p:Int×BY)(a:List (Int×BY))(h:p.1≠3):jg cs (p::a) 0=false:=by
 simp[jg,h]
theorem oC(cs:List BY)(p:Int×BY)(a:List (Int×BY))(h:p.1=2)(k:Nat)(b:0<k):jg cs (p::a) k=jg cs a (k-1):=by
 simp only[jg];rw[if_neg (by omega),if_neg (by omega),if_pos h]
theorem oF(cs:List BY)(p:Int×BY)(a:List (Int×BY))(c:p.1≠3)(b:p.1≠2)(k:Nat)(e:0<k)(d:k-1<cs.length) :
  jg cs (p::a) k=(jg cs a (k-1)&&(p.2.toList==cs[k-1].toList)):=by
 simp only[jg];rw[if_neg c,if_neg (by omega),if_neg b,List.getD_eq_getElem?_getD,List.getElem?_eq_getElem d];rfl
def qJ(pattern word:BY)(r:Req):Bool:=
 match laid r ((parts pattern).getD []) with
 | none=>false
 | some q=>covers q ((chars word).getD [])
theorem Ff(f:Nat)(s:BY)(l:List (Int×BY))(h:yC f s=some l):l.length<=s.size:=by
 induction f generalizing s l with
 | zero=>simp[yC] at h
 | succ f c=>
  rw[yC] at h
  split at h
  ·simp at h;subst h;simp
  split at h
  ·simp at h
  ·rename_i e k t n b;obtain⟨r,a,rfl⟩:=Option.map_eq_some_iff.1 h
   have:=c _ _ a
   have d:=VT s (by omega) k t n b;rw[ByteArray.size_extract] at this
   simp;omega
theorem Fj(s:BY):((parts s).getD []).length<=60:=by
 cases h:parts s with
 | none=>simp
 | some l=>
  unfold parts at h
  split at h
  ·simp at h
  ·have:=Ff _ _ _ h
   simp;omega
theorem Fs(s:BY)(h:(parts s).isSome=true):s.size<=60:=by
 unfold parts at h
 split at h
 ·simp at h
 ·omega
end Ref
end Go.Proofs.YtdakgnaojakldaaGreatDoor
