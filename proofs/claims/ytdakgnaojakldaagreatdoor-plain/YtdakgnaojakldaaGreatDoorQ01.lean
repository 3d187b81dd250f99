/- P -/
import Derived.Test.YtdakgnaojakldaaGreatDoorQ00
import Derived.WalkKit
import Derived.Test.YtdakgnaojakldaaGreatDoorProg
import Derived.WalkSpells
import Derived.WalkLawsBesides
set_option maxRecDepth 100000
namespace Go.Proofs.YtdakgnaojakldaaGreatDoor
namespace Ref
def qz(b:Int):Int×Int×Int:=
 if 194<=b/\b<=223 then (1,128,191)
 else if b=224 then (2,160,191)
 else if b=237 then (2,128,159)
 else if 225<=b/\b<=239 then (2,128,191)
 else if b=240 then (3,144,191)
 else if 241<=b/\b<=243 then (3,128,191)
 else if b=244 then (3,128,143)
 else (0,0,0)
def letters(l:List UInt8):Bool:=l.all λc=>decide (97<=c.toNat/\c.toNat<=122)
def qj(s:BA):Bool:=decide (1<=s.size/\s.size<=12)&&letters s.data.toList
theorem WT(s:BA)(k:Nat)(h:k<s.size):s.data.toList.take (k+1)=s.data.toList.take k++[s[k]]:=by
 rw[QZ (by simpa using h)];rfl
theorem bQ(s:BA)(h:¬(1<=s.size/\s.size<=12)):qj s=false:=by
 unfold qj;simp[h]
theorem MH(b:Int):0<=(qz b).1/\(qz b).1<=3/\0<=(qz b).2.1/\(qz b).2.1<=255/\0<=(qz b).2.2/\(qz b).2.2<=255:=by
 generalize a:qz b=r;unfold qz at a
 (repeat' split at a)<;>subst a<;>simp
def Xh(l:List UInt8)(lo hi:Int)(n:Nat):Bool:=
 (List.range n).all λj=>if j=0 then decide (lo<=((l.getD 1 0).toNat:Int)/\((l.getD 1 0).toNat:Int)<=hi) else decide (128<=(l.getD (j+1) 0).toNat/\(l.getD (j+1) 0).toNat<=191)
def ja(l:List UInt8):Nat:=
 if l.length=0 then 0
 else if (l.getD 0 0).toNat<128 then 1
 else if (qz (l.getD 0 0).toNat).1=0 then 0
 else if (l.length:Int)<(qz (l.getD 0 0).toNat).1+1 then 0
 else if Xh l (qz (l.getD 0 0).toNat).2.1 (qz (l.getD 0 0).toNat).2.2 (qz (l.getD 0 0).toNat).1.toNat then (qz (l.getD 0 0).toNat).1.toNat+1 else 0
theorem lW(l:List UInt8)(lo hi:Int)(n:Nat) :
  Xh l lo hi (n+1)=(Xh l lo hi n&&if n=0 then decide (lo<=((l.getD 1 0).toNat:Int)/\((l.getD 1 0).toNat:Int)<=hi) else decide (128<=(l.getD (n+1) 0).toNat/\(l.getD (n+1) 0).toNat<=191)):=by
 unfold Xh;rw[Vd,List.all_append];simp
theorem zG(s:BA):s.data.toList.length=s.size:=by simp
theorem getD_at(s:BA)(k:Nat)(h:k<s.size):s.data.toList.getD k 0=s[k]:=by
 rw[zL,zl (by simpa using h)];rfl
def qD(s:BA):BA:=s.extract 0 (if ja s.data.toList=0 then 1 else ja s.data.toList)
def XO(s:BA):Bool:=ja s.data.toList != 0
def kg(s:BA):Nat:=2+(s.data.toList.drop 2).findIdx (λc=>c.toNat==125)
def ZV(s:BA):Int×BA×Nat:=
 if s.size<2 then (0,⟨#[]⟩,0)
 else if (s.data.toList.getD 1 0).toNat=36\/(s.data.toList.getD 1 0).toNat=42\/(s.data.toList.getD 1 0).toNat=63 then (1,s.extract 1 2,2)
 else if (s.data.toList.getD 1 0).toNat=123 then
  if kg s<s.size then (if qj (s.extract 2 (kg s)) then (4,s.extract 2 (kg s),kg s+1) else (0,⟨#[]⟩,0)) else (0,⟨#[]⟩,0)
 else (0,⟨#[]⟩,0)
end Ref
end Go.Proofs.YtdakgnaojakldaaGreatDoor
namespace Go.Proofs.YtdakgnaojakldaaGreatDoor
open Go.RowKit
namespace Ref
def yC(s:BA):Option (Int×BA×Nat):=
 if XO s=false then none
 else if (qD s).toList==[42] then some (3,qD s,(qD s).size)
 else if (qD s).toList==[63] then some (2,qD s,(qD s).size)
 else if (qD s).toList==[36] then (if (ZV s).2.2=0 then none else some (ZV s))
 else some (1,qD s,(qD s).size)
def jW:Nat->BA->Option (List (Int×BA))
 | 0,_=>none
 | f+1,s=>if s.size=0 then some [] else match yC s with
  | none=>none
  | some (k,t,n)=>(jW f (s.extract n s.size)).map λr=>(k,t)::r
def parts(s:BA):Option (List (Int×BA)):=if 60<s.size then none else jW (s.size+1) s
def yX(l:List (Int×BA)):List Value:=l.flatMap λp=>[.int .i64 p.1,.string p.2]
theorem rZ(l:List (Int×BA))(k:Int)(t:BA):yX (l++[(k,t)])=yX l++[.int .i64 k,.string t]:=by
 simp[yX]
theorem Dx(s:BA):ja s.data.toList<=s.size:=by
 unfold ja;rw[zG]
 split
 ·omega
 split
 ·omega
 split
 ·omega
 split
 ·omega
 split
 ·have:=MH ((s.data.toList.getD 0 0).toNat:Int);omega
 ·omega
theorem Vl(s:BA)(a:0<s.size):1<=(qD s).size/\(qD s).size<=s.size:=by
 have h:=Dx s;unfold qD;rw[jB]
 split<;>omega
theorem Fv(s:BA):(ZV s).2.2<=s.size:=by
 unfold ZV
 split
 ·simp
 split
 ·simp;omega
 split
 ·split
  ·split
   ·simp;omega
   ·simp
  ·simp
 ·simp
theorem dP(s:BA)(b:0<s.size)(k:Int)(t:BA)(n:Nat)(h:yC s=some (k,t,n)):1<=n/\n<=s.size:=by
 have c:=Vl s b;have hd:=Fv s;unfold yC at h
 split at h
 ·simp at h
 split at h
 ·simp at h;omega
 split at h
 ·simp at h;omega
 split at h
 ·split at h
  ·simp at h
  ·simp at h;rw[h] at hd;simp at hd;rename_i a;rw[h] at a;simp at a;omega
 ·simp at h;omega
theorem Pw(P:Option (List (Int×BA)))(f:Nat)(t:BA)(done:List (Int×BA))(c:0<t.size)(d:t.size<f)(h:P=(jW f t).map λr=>done++r)
  (k:Int)(u:BA)(n:Nat)(b:yC t=some (k,u,n)) :
  ∃a,(t.extract n t.size).size<a/\P=(jW a (t.extract n t.size)).map λr=>(done++[(k,u)])++r:=by
 obtain⟨g,rfl⟩:∃g,f=g+1:=⟨f-1,by omega⟩;have e:=dP t c k u n b;refine⟨g,by rw[jB];omega,?_⟩;rw[h,jW,za (by omega),b];simp[Option.map_map,Function.comp_def]
theorem Pz(P:Option (List (Int×BA)))(f:Nat)(t:BA)(done:List (Int×BA))(c:0<t.size)(b:t.size<f)(h:P=(jW f t).map λr=>done++r)
  (a:yC t=none):P=none:=by
 obtain⟨g,rfl⟩:∃g,f=g+1:=⟨f-1,by omega⟩;rw[h,jW,za (by omega),a];rfl
theorem Pt(P:Option (List (Int×BA)))(f:Nat)(t:BA)(done:List (Int×BA))(b:¬0<t.size)(a:t.size<f)(h:P=(jW f t).map λr=>done++r):P=some done:=by
 obtain⟨g,rfl⟩:∃g,f=g+1:=⟨f-1,by omega⟩;rw[h,jW,zb (by omega)];simp
end Ref
theorem hid{p:Prop}(h:p):Hid p:=h
theorem ownsRow_below{w b:World}{base:Nat}{e:TypeId}{size:Nat}{v:Value}{n:Nat}{xs:List Value}(h:w.ownsRow base e size v n xs)(hb:Below w.heap.size w b):b.ownsRow base e size v n xs:=by
 obtain⟨c,a⟩:=h;refine⟨c,?_⟩
 rcases a with a|⟨g,cap,cur,hv,hg,hh,h3⟩
 ·exact .inl a
 ·exact .inr ⟨g,cap,cur,hv,hg,by rw[hb.block g (qF hh)];exact hh,h3⟩
theorem Vg(g j:Nat):(⟨g,0,none⟩:Addr).add j=⟨g,j,none⟩:=by
 by_cases h:j=0
 ·subst h;simp[Addr.add]
 ·simp[Addr.add,h]
theorem uJ{w:World}{base a:Nat}{e:TypeId}{size:Nat}{v:Value}{n:Nat}{xs:List Value}(h:w.ownsRow base e size v n xs)(hb:a<=base):w.ownsRow a e size v n xs:=by
 obtain⟨c,b⟩:=h;refine⟨c,?_⟩
 rcases b with b|⟨g,cap,cur,hv,hg,hh⟩
 ·exact .inl b
 ·exact .inr ⟨g,cap,cur,hv,by omega,hh⟩
theorem XM{w a:World}(h:Below w.drew.heap.size w.drew a):Below w.heap.size w a:=⟨h.os,h.tape,h.output,h.size,h.block⟩
theorem Xx(w:World)(a b:Obj):((w.alloc a).alloc b).heap[w.heap.size]?=some a/\((w.alloc a).alloc b).heap[w.heap.size+1]?=some b:=by
 refine⟨?_,?_⟩
 ·rw[QR (w.alloc a) b w.heap.size (by simp)];exact zM w a
 ·have:=zM (w.alloc a) b
  simpa using this
theorem zf{w:World}{b:Nat}{cs:Array Value}{t:TypeId}(h:w.heap[b]?=some (.cells cs t (0,0)))(o:Nat):w.cell? ⟨b,o,none⟩=cs[o]?/\w.frozen? ⟨b,o,none⟩=false:=by
 simp[World.cell?,World.frozen?,h]
theorem addr_add(b o j:Nat):(⟨b,o,none⟩:Addr).add j=⟨b,o+j,none⟩:=by
 by_cases h:j=0
 ·subst h;simp[Addr.add]
 ·simp[Addr.add,h]
theorem Du(w:World)(b o d g:Nat)(u:Value)(h:¬(b=d/\o=g)):(w.setCell ⟨b,o,none⟩ u).cell? ⟨d,g,none⟩=w.cell? ⟨d,g,none⟩:=by
 by_cases hb:b=d
 ·subst hb;unfold World.cell? World.setCell;simp only[V3,qh]
  cases w.heap[b]? with
  | none=>rfl
  | some i=>
   cases i with
   | cells c t f=>simp[Array.getElem?_setIfInBounds];intro j;omega
   | _=>rfl
 ·exact Xa (w:=w) (a:=⟨d,g,none⟩) (Xz w ⟨b,o,none⟩ u d (λe=>hb e.symm))
theorem nE(w:World)(p:Addr)(u:Value)(q:Addr):(w.setCell p u).frozen? q=w.frozen? q:=by
 unfold World.frozen? World.setCell
 by_cases hb:p.block=q.block
 ·rw[hb];simp only[V3,qh]
  cases w.heap[q.block]? with
  | none=>rfl
  | some a=>cases a<;>rfl
 ·simp only[V3,za hb]
theorem yR{W a:World}(hb:Below W.heap.size W a):(∀b o,b<W.heap.size->a.cell? ⟨b,o,none⟩=W.cell? ⟨b,o,none⟩)/\(∀b o,b<W.heap.size->a.frozen? ⟨b,o,none⟩=W.frozen? ⟨b,o,none⟩):=
 ⟨λb o h=>hb.cell (p:=⟨b,o,none⟩) h,λb o h=>hb.frozen (p:=⟨b,o,none⟩) h⟩
theorem Uo(w:World)(o:Obj)(a b:Value)(t:TypeId)(k:Nat)(c:k=(w.alloc o).heap.size) :
  ∀j u,[a,b][j]?=some u->((w.alloc o).alloc (.cells #[a,b] t)).cell? ((⟨k,0,none⟩:Addr).add j)=some u:=by
 subst c;exact cell_two_new _ _ _ _
theorem zaG{w wr f:World}{e:TypeId}{size:Nat}{v:Value}{n:Nat}{xs:List Value}(b:Below w.heap.size w wr)(c:wr.ownsRow w.heap.size e size v n xs)(a:Obj)
  (g:(wr.alloc a).grownBy f v.ownBlock):Below w.heap.size w f:=by
 have d:=b.size;exact (b.alloc d a).grown g (by simp;omega) (λk h=>(c.lt k h).1)
theorem iP{w wr g:World}{e:TypeId}{size:Nat}{v:Value}{n:Nat}{xs:List Value}(c:Below w.heap.size w wr)(d:wr.ownsRow w.heap.size e size v n xs)(a b:Obj)
  (h:((wr.alloc a).alloc b).grownBy g v.ownBlock):Below w.heap.size w g:=by
 have f:=c.size;exact ((c.alloc f a).alloc (by simp;omega) b).grown h (by simp;omega) (λk i=>(d.lt k i).1)
namespace Ref
def kY:Nat->BA->Option (List BA)
 | 0,_=>none
 | f+1,s=>if s.size=0 then some [] else if XO s=false then none else (kY f (s.extract (qD s).size s.size)).map λr=>qD s::r
def chars(s:BA):Option (List BA):=kY (s.size+1) s
def strCells(l:List BA):List Value:=l.map Value.string
def jM(s:BA):Bool:=(chars s).isSome&&decide (s.size<=100)
end Ref
end Go.Proofs.YtdakgnaojakldaaGreatDoor
