/- P -/
import Derived.Test.YtdakgnaojakldabGreatDoorT01
import Derived.Deep.RegionWith
import Derived.Deep.Light
set_option maxRecDepth 100000
namespace Go.Proofs.YtdakgnaojakldabGreatDoor
open Go.RowKit
namespace Ref
structure Req where
 who:BA
 act:BA
 on:BA
 marks:List (BA×BA)
def qo(r:Req)(ao:Option Addr)(cap:Nat):Value := .agg #[.string r.who,.string r.act,.string r.on,.slice ao r.marks.length cap]
def XG(ms:List (BA×BA))(name:BA):Option BA:=(ms.find? λm=>m.1.toList==name.toList).map Prod.snd
def says(r:Req)(name:BA):Option BA:=
 if name.toList==[119,104,111] then some r.who else if name.toList==[100,111] then some r.act else if name.toList==[111,110] then some r.on else XG r.marks name
theorem Gs(ms:List (BA×BA))(name:BA)(k:Nat)(c:k<ms.length)(a:∀j (h:j<k),(ms[j].1.toList==name.toList)=false)(h:(ms[k].1.toList==name.toList)=true) :
  XG ms name=some ms[k].2:=by
 unfold XG;have e:(ms.find? λm=>m.1.toList==name.toList)=some ms[k]:=List.find?_eq_some_iff_getElem.2 ⟨h,k,c,rfl,λj b=>by simpa using a j b⟩;rw[e];rfl
theorem Gt(ms:List (BA×BA))(name:BA)(k:Nat)(d:¬k<ms.length)(a:∀j (_:j<k) (_:j<ms.length),(ms[j].1.toList==name.toList)=false) :
  XG ms name=none:=by
 unfold XG;rw[Option.map_eq_none_iff,List.find?_eq_none];intro x c;obtain⟨j,b,rfl⟩:=List.getElem_of_mem c
 simpa using a j (by omega) b
end Ref
def xL(w:World)(ao:Option Addr)(ms:List (BA×BA)):Prop:=
 ms=[]\/∃b o,ao=some ⟨b,o,none⟩/\∀j,(h:j<ms.length)->w.cell? ⟨b,o+j*2,none⟩=some (.string ms[j].1)/\w.cell? ⟨b,o+j*2+1,none⟩=some (.string ms[j].2)
namespace Ref
def uP(m:BA×BA):Bool:=zM m.1&&yQ m.2 && !(m.1.toList==[119,104,111]) && !(m.1.toList==[100,111]) && !(m.1.toList==[111,110])
def xO(r:Req):Bool:=yQ r.who&&yQ r.act&&yQ r.on&&decide (r.marks.length<=10)&&r.marks.all uP
end Ref
theorem jY{w d:World}{ao:Option Addr}{ms:List (BA×BA)}(h:xL w ao ms)(a:Below w.heap.size w d):xL d ao ms:=by
 rcases h with h|⟨b,o,ha,hc⟩
 ·exact .inl h
 ·exact .inr ⟨b,o,ha,λj c=>⟨zb a (hc j c).1,zb a (hc j c).2⟩⟩
namespace Ref
def Z0(r:Req)(p:Int×BA):Option (List (Int×BA)):=
 if p.1=4 then (says r p.2).map λv=>((chars v).getD []).map λc=>((1:Int),c) else some [p]
def laid(r:Req):List (Int×BA)->Option (List (Int×BA))
 | []=>some []
 | p::ps=>match Z0 r p with
  | none=>none
  | some a=>(laid r ps).map λb=>a++b
theorem sS(f:Nat)(s:BA)(l:List BA)(h:vV f s=some l):l.length<=s.size:=by
 induction f generalizing s l with
 | zero=>simp[vV] at h
 | succ f b=>
  rw[vV] at h
  split at h
  ·simp at h;subst h;simp
  split at h
  ·simp at h
  ·rename_i d _;obtain⟨r,a,rfl⟩:=Option.map_eq_some_iff.1 h
   have:=b _ _ a
   have c:=Yl s (by omega);rw[ByteArray.size_extract] at this
   simp;omega
theorem VS(s:BA):((chars s).getD []).length<=s.size:=by
 cases h:chars s with
 | none=>simp
 | some l=>exact sS _ _ _ h
theorem eY(r:Req)(c:List (Int×BA))(k:Nat)(e:k<c.length)(done:List (Int×BA))(P:Option (List (Int×BA)))
  (h:P=(laid r (c.drop k)).map λb=>done++b)(a:List (Int×BA))(d:Z0 r c[k]=some a):P=(laid r (c.drop (k+1))).map λb=>(done++a)++b:=by
 rw[h,List.drop_eq_getElem_cons e,laid,d];simp[Option.map_map,Function.comp_def]
theorem FO(r:Req)(a:List (Int×BA))(k:Nat)(d:k<a.length)(done:List (Int×BA))(P:Option (List (Int×BA)))
  (h:P=(laid r (a.drop k)).map λb=>done++b)(c:Z0 r a[k]=none):P=none:=by
 rw[h,List.drop_eq_getElem_cons d,laid,c];rfl
theorem FL(r:Req)(a:List (Int×BA))(k:Nat)(c:¬k<a.length)(done:List (Int×BA))(P:Option (List (Int×BA)))
  (h:P=(laid r (a.drop k)).map λb=>done++b):P=some done:=by
 rw[h,List.drop_of_length_le (by omega),laid];simp
theorem iA(a:List (Int×BA))(j:Nat)(h:j<a.length):(xV a)[j*2]?=some (.int .i64 a[j].1)/\(xV a)[j*2+1]?=some (.string a[j].2):=by
 induction a generalizing j with
 | nil=>simp at h
 | cons p a b=>
  have e:xV (p::a) = .int .i64 p.1 :: .string p.2::xV a:=by simp[xV]
  rw[e]
  cases j with
  | zero=>simp
  | succ j=>
   have:=b j (by simpa using h)
   rw[show (j+1)*2=(j*2)+1+1 by omega,show (j*2)+1+1+1=(j*2+1)+1+1 by omega]
   simpa using this
theorem OU(l:List BA)(j:Nat)(h:j<l.length):(strCells l)[j]?=some (.string l[j]):=by
 simp[strCells,h]
def jT(cs:List BA):List (Int×BA)->Nat->Bool
 | [],k=>k==0
 | p::ps,k=>if p.1=3 then (List.range (k+1)).any (jT cs ps) else if k=0 then false else if p.1=2 then jT cs ps (k-1) else jT cs ps (k-1)&&(p.2.toList==(cs.getD (k-1) ⟨#[]⟩).toList)
def covers(a:List (Int×BA))(cs:List BA):Bool:=jT cs a.reverse cs.length
theorem wO(cs:List BA)(p:Int×BA)(a:List (Int×BA))(h:p.1≠3):jT cs (p::a) 0=false:=by
 simp[jT,h]
theorem wL(cs:List BA)(p:Int×BA)(a:List (Int×BA))(h:p.1=2)(k:Nat)(b:0<k):jT cs (p::a) k=jT cs a (k-1):=by
 simp only[jT];rw[if_neg (by omega),if_neg (by omega),if_pos h]
theorem wN(cs:List BA)(p:Int×BA)(a:List (Int×BA))(c:p.1≠3)(b:p.1≠2)(k:Nat)(e:0<k)(d:k-1<cs.length) :
  jT cs (p::a) k=(jT cs a (k-1)&&(p.2.toList==cs[k-1].toList)):=by
 simp only[jT];rw[if_neg c,if_neg (by omega),if_neg b,List.getD_eq_getElem?_getD,List.getElem?_eq_getElem d];rfl
def jg(pattern word:BA)(r:Req):Bool:=
 match laid r ((parts pattern).getD []) with
 | none=>false
 | some q=>covers q ((chars word).getD [])
theorem Lf(f:Nat)(s:BA)(l:List (Int×BA))(h:y8 f s=some l):l.length<=s.size:=by
 induction f generalizing s l with
 | zero=>simp[y8] at h
 | succ f c=>
  rw[y8] at h
  split at h
  ·simp at h;subst h;simp
  split at h
  ·simp at h
  ·rename_i e k t n b;obtain⟨r,a,rfl⟩:=Option.map_eq_some_iff.1 h
   have:=c _ _ a
   have d:=U1 s (by omega) k t n b;rw[ByteArray.size_extract] at this
   simp;omega
theorem Li(s:BA):((parts s).getD []).length<=60:=by
 cases h:parts s with
 | none=>simp
 | some l=>
  unfold parts at h
  split at h
  ·simp at h
  ·have:=Lf _ _ _ h
   simp;omega
theorem Lm(s:BA)(h:(parts s).isSome=true):s.size<=60:=by
 unfold parts at h
 split at h
 ·simp at h
 ·omega
end Ref
end Go.Proofs.YtdakgnaojakldabGreatDoor
