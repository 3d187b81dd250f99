/- P -/
import Derived.Test.YtdakgnaojakldaaGreatDoorS00
import Derived.WalkKit
import Derived.Test.YtdakgnaojakldaaGreatDoorProg
import Derived.WalkSpells
import Derived.WalkLawsBesides
set_option maxRecDepth 100000
namespace Go.Proofs.YtdakgnaojakldaaGreatDoor
namespace Ref
def zR(b:Int):Int×Int×Int:=
 if 194<=b/\b<=223 then (1,128,191)
 else if b=224 then (2,160,191)
 else if b=237 then (2,128,159)
 else if 225<=b/\b<=239 then (2,128,191)
 else if b=240 then (3,144,191)
 else if 241<=b/\b<=243 then (3,128,191)
 else if b=244 then (3,128,143)
 else (0,0,0)
def letters(l:List UInt8):Bool:=l.all λc=>decide (97<=c.toNat/\c.toNat<=122)
def zH(s:BY):Bool:=decide (1<=s.size/\s.size<=12)&&letters s.data.toList
theorem LQ(s:BY)(k:Nat)(h:k<s.size):s.data.toList.take (k+1)=s.data.toList.take k++[s[k]]:=by
 rw[List.take_succ_eq_append_getElem (by simpa using h)];rfl
theorem Vy(s:BY)(h:¬(1<=s.size/\s.size<=12)):zH s=false:=by
 unfold zH;simp[h]
theorem Cx(b:Int):0<=(zR b).1/\(zR b).1<=3/\0<=(zR b).2.1/\(zR b).2.1<=255/\0<=(zR b).2.2/\(zR b).2.2<=255:=by
 generalize a:zR b=r;unfold zR at a
 (repeat' split at a)<;>subst a<;>simp
def Zi(l:List UInt8)(lo hi:Int)(n:Nat):Bool:=
 (List.range n).all λj=>if j=0 then decide (lo<=((l.getD 1 0).toNat:Int)/\((l.getD 1 0).toNat:Int)<=hi) else decide (128<=(l.getD (j+1) 0).toNat/\(l.getD (j+1) 0).toNat<=191)
def xM(l:List UInt8):Nat:=
 if l.length=0 then 0
 else if (l.getD 0 0).toNat<128 then 1
 else if (zR (l.getD 0 0).toNat).1=0 then 0
 else if (l.length:Int)<(zR (l.getD 0 0).toNat).1+1 then 0
 else if Zi l (zR (l.getD 0 0).toNat).2.1 (zR (l.getD 0 0).toNat).2.2 (zR (l.getD 0 0).toNat).1.toNat then (zR (l.getD 0 0).toNat).1.toNat+1 else 0
theorem KN(l:List UInt8)(lo hi:Int)(n:Nat) :
  Zi l lo hi (n+1)=(Zi l lo hi n&&if n=0 then decide (lo<=((l.getD 1 0).toNat:Int)/\((l.getD 1 0).toNat:Int)<=hi) else decide (128<=(l.getD (n+1) 0).toNat/\(l.getD (n+1) 0).toNat<=191)):=by
 unfold Zi;rw[List.range_succ,List.all_append];simp
theorem b0(c:UInt8):(0:Int)<=c.toNat:=by omega
theorem zx(s:BY):s.data.toList.length=s.size:=by simp
theorem getD_at(s:BY)(k:Nat)(h:k<s.size):s.data.toList.getD k 0=s[k]:=by
 rw[List.getD_eq_getElem?_getD,List.getElem?_eq_getElem (by simpa using h)];rfl
def zW(s:BY):BY:=s.extract 0 (if xM s.data.toList=0 then 1 else xM s.data.toList)
def ZF(s:BY):Bool:=xM s.data.toList != 0
def jI(s:BY):Nat:=2+(s.data.toList.drop 2).findIdx (λc=>c.toNat==125)
def uj(s:BY):Int×BY×Nat:=
 if s.size<2 then (0,⟨#[]⟩,0)
 else if (s.data.toList.getD 1 0).toNat=36\/(s.data.toList.getD 1 0).toNat=42\/(s.data.toList.getD 1 0).toNat=63 then (1,s.extract 1 2,2)
 else if (s.data.toList.getD 1 0).toNat=123 then
  if jI s<s.size then (if zH (s.extract 2 (jI s)) then (4,s.extract 2 (jI s),jI s+1) else (0,⟨#[]⟩,0)) else (0,⟨#[]⟩,0)
 else (0,⟨#[]⟩,0)
end Ref
end Go.Proofs.YtdakgnaojakldaaGreatDoor
namespace Go.Proofs.YtdakgnaojakldaaGreatDoor
open Go.RowKit
namespace Ref
def qY(s:BY):Option (Int×BY×Nat):=
 if ZF s=false then none
 else if (zW s).toList==[42] then some (3,zW s,(zW s).size)
 else if (zW s).toList==[63] then some (2,zW s,(zW s).size)
 else if (zW s).toList==[36] then (if (uj s).2.2=0 then none else some (uj s))
 else some (1,zW s,(zW s).size)
def yC:Nat->BY->Option (List (Int×BY))
 | 0,_=>none
 | f+1,s=>if s.size=0 then some [] else match qY s with
  | none=>none
  | some (k,t,n)=>(yC f (s.extract n s.size)).map λr=>(k,t)::r
def parts(s:BY):Option (List (Int×BY)):=if 60<s.size then none else yC (s.size+1) s
def xH(l:List (Int×BY)):List Value:=l.flatMap λp=>[.int .i64 p.1,.string p.2]
theorem ed(l:List (Int×BY))(k:Int)(t:BY):xH (l++[(k,t)])=xH l++[.int .i64 k,.string t]:=by
 simp[xH]
theorem nC(s:BY):xM s.data.toList<=s.size:=by
 unfold xM;rw[zx]
 split
 ·omega
 split
 ·omega
 split
 ·omega
 split
 ·omega
 split
 ·have:=Cx ((s.data.toList.getD 0 0).toNat:Int);omega
 ·omega
theorem XE(s:BY)(a:0<s.size):1<=(zW s).size/\(zW s).size<=s.size:=by
 have h:=nC s;unfold zW;rw[ByteArray.size_extract]
 split<;>omega
theorem pX(s:BY):(uj s).2.2<=s.size:=by
 unfold uj
 split
 ·simp
 split
 ·simp;omega
 split
 ·split
  ·split
   ·simp;omega
   ·simp
  ·simp
 ·simp
theorem VT(s:BY)(b:0<s.size)(k:Int)(t:BY)(n:Nat)(h:qY s=some (k,t,n)):1<=n/\n<=s.size:=by
 have c:=XE s b;have hd:=pX s;unfold qY at h
 split at h
 ·simp at h
 split at h
 ·simp at h;omega
 split at h
 ·simp at h;omega
 split at h
 ·split at h
  ·simp at h
  ·simp at h;rw[h] at hd;simp at hd;rename_i a;rw[h] at a;simp at a;omega
 ·simp at h;omega
theorem Fp(P:Option (List (Int×BY)))(f:Nat)(t:BY)(done:List (Int×BY))(c:0<t.size)(d:t.size<f)(h:P=(yC f t).map λr=>done++r)
  (k:Int)(u:BY)(n:Nat)(b:qY t=some (k,u,n)) :
  ∃a,(t.extract n t.size).size<a/\P=(yC a (t.extract n t.size)).map λr=>(done++[(k,u)])++r:=by
 obtain⟨g,rfl⟩:∃g,f=g+1:=⟨f-1,by omega⟩;have e:=VT t c k u n b;refine⟨g,by rw[ByteArray.size_extract];omega,?_⟩;rw[h,yC,if_neg (by omega),b];simp[Option.map_map,Function.comp_def]
theorem Fu(P:Option (List (Int×BY)))(f:Nat)(t:BY)(done:List (Int×BY))(c:0<t.size)(b:t.size<f)(h:P=(yC f t).map λr=>done++r)
  (a:qY t=none):P=none:=by
 obtain⟨g,rfl⟩:∃g,f=g+1:=⟨f-1,by omega⟩;rw[h,yC,if_neg (by omega),a];rfl
theorem Fh(P:Option (List (Int×BY)))(f:Nat)(t:BY)(done:List (Int×BY))(b:¬0<t.size)(a:t.size<f)(h:P=(yC f t).map λr=>done++r):P=some done:=by
 obtain⟨g,rfl⟩:∃g,f=g+1:=⟨f-1,by omega⟩;rw[h,yC,if_pos (by omega)];simp
end Ref
theorem hid{p:Prop}(h:p):Hid p:=h
theorem ownsRow_below{w b:World}{base:Nat}{e:TypeId}{size:Nat}{v:Value}{n:Nat}{xs:List Value}(h:w.ownsRow base e size v n xs)(hb:Below w.heap.size w b):b.ownsRow base e size v n xs:=by
 obtain⟨c,a⟩:=h;refine⟨c,?_⟩
 rcases a with a|⟨g,cap,cur,hv,hg,hh,h3⟩
 ·exact .inl a
 ·exact .inr ⟨g,cap,cur,hv,hg,by rw[hb.block g (lt_of_block hh)];exact hh,h3⟩
theorem Xx(g j:Nat):(⟨g,0,none⟩:Addr).add j=⟨g,j,none⟩:=by
 by_cases h:j=0
 ·subst h;simp[Addr.add]
 ·simp[Addr.add,h]
theorem xP{w:World}{base a:Nat}{e:TypeId}{size:Nat}{v:Value}{n:Nat}{xs:List Value}(h:w.ownsRow base e size v n xs)(hb:a<=base):w.ownsRow a e size v n xs:=by
 obtain⟨c,b⟩:=h;refine⟨c,?_⟩
 rcases b with b|⟨g,cap,cur,hv,hg,hh⟩
 ·exact .inl b
 ·exact .inr ⟨g,cap,cur,hv,by omega,hh⟩
theorem ZE{w a:World}(h:Below w.drew.heap.size w.drew a):Below w.heap.size w a:=⟨h.os,h.tape,h.output,h.size,h.block⟩
theorem vU(w:World)(a b:Obj):((w.alloc a).alloc b).heap[w.heap.size]?=some a/\((w.alloc a).alloc b).heap[w.heap.size+1]?=some b:=by
 refine⟨?_,?_⟩
 ·rw[Below.heap_alloc (w.alloc a) b w.heap.size (by simp)];exact heap_alloc_new w a
 ·have:=heap_alloc_new (w.alloc a) b
  simpa using this
theorem ze{w:World}{b:Nat}{cs:Array Value}{t:TypeId}(h:w.heap[b]?=some (.cells cs t (0,0)))(o:Nat):w.cell? ⟨b,o,none⟩=cs[o]?/\w.frozen? ⟨b,o,none⟩=false:=by
 simp[World.cell?,World.frozen?,h]
theorem addr_add(b o j:Nat):(⟨b,o,none⟩:Addr).add j=⟨b,o+j,none⟩:=by
 by_cases h:j=0
 ·subst h;simp[Addr.add]
 ·simp[Addr.add,h]
theorem ny(w:World)(b o d g:Nat)(u:Value)(h:¬(b=d/\o=g)):(w.setCell ⟨b,o,none⟩ u).cell? ⟨d,g,none⟩=w.cell? ⟨d,g,none⟩:=by
 by_cases hb:b=d
 ·subst hb;unfold World.cell? World.setCell;simp only[Array.getElem?_modify,if_true]
  cases w.heap[b]? with
  | none=>rfl
  | some i=>
   cases i with
   | cells c t f=>simp[Array.getElem?_setIfInBounds];intro j;omega
   | _=>rfl
 ·exact World.cell?_of_block (w:=w) (a:=⟨d,g,none⟩) (Below.heap_setCell w ⟨b,o,none⟩ u d (λe=>hb e.symm))
theorem aB(w:World)(p:Addr)(u:Value)(q:Addr):(w.setCell p u).frozen? q=w.frozen? q:=by
 unfold World.frozen? World.setCell
 by_cases hb:p.block=q.block
 ·rw[hb];simp only[Array.getElem?_modify,if_true]
  cases w.heap[q.block]? with
  | none=>rfl
  | some a=>cases a<;>rfl
 ·simp only[Array.getElem?_modify,if_neg hb]
theorem xB{W a:World}(hb:Below W.heap.size W a):(∀b o,b<W.heap.size->a.cell? ⟨b,o,none⟩=W.cell? ⟨b,o,none⟩)/\(∀b o,b<W.heap.size->a.frozen? ⟨b,o,none⟩=W.frozen? ⟨b,o,none⟩):=
 ⟨λb o h=>hb.cell (p:=⟨b,o,none⟩) h,λb o h=>hb.frozen (p:=⟨b,o,none⟩) h⟩
theorem YC(w:World)(o:Obj)(a b:Value)(t:TypeId)(k:Nat)(c:k=(w.alloc o).heap.size) :
  ∀j u,[a,b][j]?=some u->((w.alloc o).alloc (.cells #[a,b] t)).cell? ((⟨k,0,none⟩:Addr).add j)=some u:=by
 subst c;exact cell_two_new _ _ _ _
theorem Kc{w wr g:World}{e:TypeId}{size:Nat}{v:Value}{n:Nat}{xs:List Value}(c:Below w.heap.size w wr)(d:wr.ownsRow w.heap.size e size v n xs)(a b:Obj)
  (h:((wr.alloc a).alloc b).grownBy g v.ownBlock):Below w.heap.size w g:=by
 have f:=c.size;exact ((c.alloc f a).alloc (by simp;omega) b).grown h (by simp;omega) (λk i=>(d.lt k i).1)
namespace Ref
def jZ:Nat->BY->Option (List BY)
 | 0,_=>none
 | f+1,s=>if s.size=0 then some [] else if ZF s=false then none else (jZ f (s.extract (zW s).size s.size)).map λr=>zW s::r
def chars(s:BY):Option (List BY):=jZ (s.size+1) s
def strCells(l:List BY):List Value:=l.map Value.string
def yH(s:BY):Bool:=(chars s).isSome&&decide (s.size<=100)
end Ref
end Go.Proofs.YtdakgnaojakldaaGreatDoor
