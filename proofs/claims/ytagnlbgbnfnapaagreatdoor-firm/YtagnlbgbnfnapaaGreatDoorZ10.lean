/- P -/
import Derived.Test.YtagnlbgbnfnapaaGreatDoorZ01
set_option maxRecDepth 100000
namespace Go.Proofs.YtagnlbgbnfnapaaGreatDoor
open Go.RowKit
namespace Ref
structure Req where
 who:BA
 act:BA
 on:BA
 marks:List (BA×BA)
def qY(r:Req)(ao:Option Addr)(cap:Nat):Value := .agg #[.string r.who,.string r.act,.string r.on,.slice ao r.marks.length cap]
def JY(ms:List (BA×BA))(name:BA):Option BA:=(ms.find? λm=>m.1.toList==name.toList).map Prod.snd
def says(r:Req)(name:BA):Option BA:=
 if name.toList==[119,104,111] then some r.who else if name.toList==[100,111] then some r.act else if name.toList==[111,110] then some r.on else JY r.marks name
theorem NQ(ms:List (BA×BA))(name:BA)(k:Nat)(b:k<ms.length)(hb:∀j (h:j<k),(ms[j].1.toList==name.toList)=false)(h:(ms[k].1.toList==name.toList)=true) :
  JY ms name=some ms[k].2:=by
 unfold JY;have e:(ms.find? λm=>m.1.toList==name.toList)=some ms[k]:=List.find?_eq_some_iff_getElem.2 ⟨h,k,b,rfl,λj a=>by simpa using hb j a⟩;rw[e];rfl
theorem NR(ms:List (BA×BA))(name:BA)(k:Nat)(c:¬k<ms.length)(hb:∀j (_:j<k) (_:j<ms.length),(ms[j].1.toList==name.toList)=false) :
  JY ms name=none:=by
 unfold JY;rw[Option.map_eq_none_iff,Ya];intro x b;obtain⟨j,a,rfl⟩:=Ql b
 simpa using hb j (by omega) a
end Ref
def xD(w:World)(ao:Option Addr)(ms:List (BA×BA)):Prop:=
 ms=[]\/∃b o,ao=some ⟨b,o,none⟩/\∀j,(h:j<ms.length)->w.cell? ⟨b,o+j*2,none⟩=some (.string ms[j].1)/\w.cell? ⟨b,o+j*2+1,none⟩=some (.string ms[j].2)
namespace Ref
def Z8(m:BA×BA):Bool:=qm m.1&&vg m.2 && !(m.1.toList==[119,104,111]) && !(m.1.toList==[100,111]) && !(m.1.toList==[111,110])
def yT(r:Req):Bool:=vg r.who&&vg r.act&&vg r.on&&decide (r.marks.length<=10)&&r.marks.all Z8
end Ref
theorem kF{w c:World}{ao:Option Addr}{ms:List (BA×BA)}(h:xD w ao ms)(hb:Below w.heap.size w c):xD c ao ms:=by
 rcases h with h|⟨b,o,ha,hc⟩
 ·exact .inl h
 ·exact .inr ⟨b,o,ha,λj a=>⟨zh hb (hc j a).1,zh hb (hc j a).2⟩⟩
namespace Ref
def XR(r:Req)(p:Int×BA):Option (List (Int×BA)):=
 if p.1=4 then (says r p.2).map λv=>((chars v).getD []).map λc=>((1:Int),c) else some [p]
def laid(r:Req):List (Int×BA)->Option (List (Int×BA))
 | []=>some []
 | p::ps=>match XR r p with
  | none=>none
  | some a=>(laid r ps).map λb=>a++b
theorem Fb(f:Nat)(s:BA)(l:List BA)(h:ZA f s=some l):l.length<=s.size:=by
 induction f generalizing s l with
 | zero=>simp[ZA] at h
 | succ f b=>
  rw[ZA] at h
  split at h
  ·simp at h;subst h;simp
  split at h
  ·simp at h
  ·rename_i d _;obtain⟨r,a,rfl⟩:=vR.1 h
   have:=b _ _ a
   have c:=VM s (by omega);rw[jK] at this
   simp;omega
theorem bu(s:BA):((chars s).getD []).length<=s.size:=by
 cases h:chars s with
 | none=>simp
 | some l=>exact Fb _ _ _ h
theorem sj(r:Req)(c:List (Int×BA))(k:Nat)(e:k<c.length)(done:List (Int×BA))(P:Option (List (Int×BA)))
  (h:P=(laid r (c.drop k)).map λb=>done++b)(a:List (Int×BA))(d:XR r c[k]=some a):P=(laid r (c.drop (k+1))).map λb=>(done++a)++b:=by
 rw[h,ZQ e,laid,d];simp[Option.map_map,Function.comp_def]
theorem Ng(r:Req)(a:List (Int×BA))(k:Nat)(d:k<a.length)(done:List (Int×BA))(P:Option (List (Int×BA)))
  (h:P=(laid r (a.drop k)).map λb=>done++b)(c:XR r a[k]=none):P=none:=by
 rw[h,ZQ d,laid,c];rfl
theorem Nc(r:Req)(a:List (Int×BA))(k:Nat)(c:¬k<a.length)(done:List (Int×BA))(P:Option (List (Int×BA)))
  (h:P=(laid r (a.drop k)).map λb=>done++b):P=some done:=by
 rw[h,ag (by omega),laid];simp
theorem Ab(a:List (Int×BA))(j:Nat)(h:j<a.length):(jb a)[j*2]?=some (.int .i64 a[j].1)/\(jb a)[j*2+1]?=some (.string a[j].2):=by
 induction a generalizing j with
 | nil=>simp at h
 | cons p a b=>
  have e:jb (p::a) = .int .i64 p.1 :: .string p.2::jb a:=by simp[jb]
  rw[e]
  cases j with
  | zero=>simp
  | succ j=>
   have:=b j (by simpa using h)
   rw[show (j+1)*2=(j*2)+1+1 by omega,show (j*2)+1+1+1=(j*2+1)+1+1 by omega]
   simpa using this
theorem WM(l:List BA)(j:Nat)(h:j<l.length):(strCells l)[j]?=some (.string l[j]):=by
 simp[strCells,h]
def kw(cs:List BA):List (Int×BA)->Nat->Bool
 | [],k=>k==0
 | p::ps,k=>if p.1=3 then (List.range (k+1)).any (kw cs ps) else if k=0 then false else if p.1=2 then kw cs ps (k-1) else kw cs ps (k-1)&&(p.2.toList==(cs.getD (k-1) ⟨#[]⟩).toList)
def covers(a:List (Int×BA))(cs:List BA):Bool:=kw cs a.reverse cs.length
theorem FT(cs:List BA)(p:Int×BA)(a:List (Int×BA))(h:p.1≠3):kw cs (p::a) 0=false:=by
 simp[kw,h]
theorem FP(cs:List BA)(p:Int×BA)(a:List (Int×BA))(h:p.1=2)(k:Nat)(b:0<k):kw cs (p::a) k=kw cs a (k-1):=by
 simp only[kw];rw[za (by omega),za (by omega),zb h]
theorem FR(cs:List BA)(p:Int×BA)(a:List (Int×BA))(c:p.1≠3)(b:p.1≠2)(k:Nat)(e:0<k)(d:k-1<cs.length) :
  kw cs (p::a) k=(kw cs a (k-1)&&(p.2.toList==cs[k-1].toList)):=by
 simp only[kw];rw[za c,za (by omega),za b,zQ,zt d];rfl
def vX(pattern word:BA)(r:Req):Bool:=
 match laid r ((parts pattern).getD []) with
 | none=>false
 | some q=>covers q ((chars word).getD [])
theorem Rj(f:Nat)(s:BA)(l:List (Int×BA))(h:vK f s=some l):l.length<=s.size:=by
 induction f generalizing s l with
 | zero=>simp[vK] at h
 | succ f c=>
  rw[vK] at h
  split at h
  ·simp at h;subst h;simp
  split at h
  ·simp at h
  ·rename_i e k t n b;obtain⟨r,a,rfl⟩:=vR.1 h
   have:=c _ _ a
   have d:=gL s (by omega) k t n b;rw[jK] at this
   simp;omega
theorem Rm(s:BA):((parts s).getD []).length<=60:=by
 cases h:parts s with
 | none=>simp
 | some l=>
  unfold parts at h
  split at h
  ·simp at h
  ·have:=Rj _ _ _ h
   simp;omega
theorem Rp(s:BA)(h:(parts s).isSome=true):s.size<=60:=by
 unfold parts at h
 split at h
 ·simp at h
 ·omega
end Ref
end Go.Proofs.YtagnlbgbnfnapaaGreatDoor
