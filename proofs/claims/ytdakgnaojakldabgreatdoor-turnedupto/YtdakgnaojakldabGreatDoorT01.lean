/- P -/
import Derived.Test.YtdakgnaojakldabGreatDoorT00
import Derived.WalkKit
import Derived.Test.YtdakgnaojakldabGreatDoorProg
import Derived.WalkSpells
import Derived.WalkLawsBesides
import Derived.LaidEql
import Derived.Stop.Asserts
import Derived.RowKitTokens
open Go.Proofs.Tryz hiding parts
set_option maxRecDepth 100000
set_option maxHeartbeats 4000000
namespace Go.Proofs.YtdakgnaojakldabGreatDoor
namespace Ref
def qa(b:Int):Int×Int×Int:=
 if 194<=b/\b<=223 then (1,128,191)
 else if b=224 then (2,160,191)
 else if b=237 then (2,128,159)
 else if 225<=b/\b<=239 then (2,128,191)
 else if b=240 then (3,144,191)
 else if 241<=b/\b<=243 then (3,128,191)
 else if b=244 then (3,128,143)
 else (0,0,0)
def letters(l:List UInt8):Bool:=l.all λc=>decide (97<=c.toNat/\c.toNat<=122)
def zM(s:BA):Bool:=decide (1<=s.size/\s.size<=12)&&letters s.data.toList
theorem PQ(s:BA)(k:Nat)(h:k<s.size):s.data.toList.take (k+1)=s.data.toList.take k++[s[k]]:=by
 rw[List.take_succ_eq_append_getElem (by simpa using h)];rfl
theorem Ux(s:BA)(h:¬(1<=s.size/\s.size<=12)):zM s=false:=by
 unfold zM;simp[h]
theorem FR(b:Int):0<=(qa b).1/\(qa b).1<=3/\0<=(qa b).2.1/\(qa b).2.1<=255/\0<=(qa b).2.2/\(qa b).2.2<=255:=by
 generalize a:qa b=r;unfold qa at a
 (repeat' split at a)<;>subst a<;>simp
def ZV(l:List UInt8)(b a:Int)(n:Nat):Bool:=
 (List.range n).all λj=>if j=0 then decide (b<=((l.getD 1 0).toNat:Int)/\((l.getD 1 0).toNat:Int)<=a) else decide (128<=(l.getD (j+1) 0).toNat/\(l.getD (j+1) 0).toNat<=191)
def xY(l:List UInt8):Nat:=
 if l.length=0 then 0
 else if (l.getD 0 0).toNat<128 then 1
 else if (qa (l.getD 0 0).toNat).1=0 then 0
 else if (l.length:Int)<(qa (l.getD 0 0).toNat).1+1 then 0
 else if ZV l (qa (l.getD 0 0).toNat).2.1 (qa (l.getD 0 0).toNat).2.2 (qa (l.getD 0 0).toNat).1.toNat then (qa (l.getD 0 0).toNat).1.toNat+1 else 0
theorem bL(l:List UInt8)(b a:Int)(n:Nat) :
  ZV l b a (n+1)=(ZV l b a n&&if n=0 then decide (b<=((l.getD 1 0).toNat:Int)/\((l.getD 1 0).toNat:Int)<=a) else decide (128<=(l.getD (n+1) 0).toNat/\(l.getD (n+1) 0).toNat<=191)):=by
 unfold ZV;rw[List.range_succ,List.all_append];simp
theorem b0(c:UInt8):(0:Int)<=c.toNat:=by omega
theorem zB(s:BA):s.data.toList.length=s.size:=by simp
theorem getD_at(s:BA)(k:Nat)(h:k<s.size):s.data.toList.getD k 0=s[k]:=by
 rw[List.getD_eq_getElem?_getD,List.getElem?_eq_getElem (by simpa using h)];rfl
def qc(s:BA):BA:=s.extract 0 (if xY s.data.toList=0 then 1 else xY s.data.toList)
def Qk(s:BA):Bool:=xY s.data.toList != 0
def vD(s:BA):Nat:=2+(s.data.toList.drop 2).findIdx (λc=>c.toNat==125)
def kw(s:BA):Int×BA×Nat:=
 if s.size<2 then (0,⟨#[]⟩,0)
 else if (s.data.toList.getD 1 0).toNat=36\/(s.data.toList.getD 1 0).toNat=42\/(s.data.toList.getD 1 0).toNat=63 then (1,s.extract 1 2,2)
 else if (s.data.toList.getD 1 0).toNat=123 then
  if vD s<s.size then (if zM (s.extract 2 (vD s)) then (4,s.extract 2 (vD s),vD s+1) else (0,⟨#[]⟩,0)) else (0,⟨#[]⟩,0)
 else (0,⟨#[]⟩,0)
end Ref
end Go.Proofs.YtdakgnaojakldabGreatDoor
namespace Go.Proofs.YtdakgnaojakldabGreatDoor
open Go.RowKit
namespace Ref
def xA(s:BA):Option (Int×BA×Nat):=
 if Qk s=false then none
 else if (qc s).toList==[42] then some (3,qc s,(qc s).size)
 else if (qc s).toList==[63] then some (2,qc s,(qc s).size)
 else if (qc s).toList==[36] then (if (kw s).2.2=0 then none else some (kw s))
 else some (1,qc s,(qc s).size)
def y8:Nat->BA->Option (List (Int×BA))
 | 0,_=>none
 | f+1,s=>if s.size=0 then some [] else match xA s with
  | none=>none
  | some (k,t,n)=>(y8 f (s.extract n s.size)).map λr=>(k,t)::r
def parts(s:BA):Option (List (Int×BA)):=if 60<s.size then none else y8 (s.size+1) s
def xV(l:List (Int×BA)):List Value:=l.flatMap λp=>[.int .i64 p.1,.string p.2]
theorem iB(l:List (Int×BA))(k:Int)(t:BA):xV (l++[(k,t)])=xV l++[.int .i64 k,.string t]:=by
 simp[xV]
theorem sG(s:BA):xY s.data.toList<=s.size:=by
 unfold xY;rw[zB]
 split
 ·omega
 split
 ·omega
 split
 ·omega
 split
 ·omega
 split
 ·have:=FR ((s.data.toList.getD 0 0).toNat:Int);omega
 ·omega
theorem Yl(s:BA)(a:0<s.size):1<=(qc s).size/\(qc s).size<=s.size:=by
 have h:=sG s;unfold qc;rw[ByteArray.size_extract]
 split<;>omega
theorem AC(s:BA):(kw s).2.2<=s.size:=by
 unfold kw
 split
 ·simp
 split
 ·simp;omega
 split
 ·split
  ·split
   ·simp;omega
   ·simp
  ·simp
 ·simp
theorem U1(s:BA)(b:0<s.size)(k:Int)(t:BA)(n:Nat)(h:xA s=some (k,t,n)):1<=n/\n<=s.size:=by
 have c:=Yl s b;have hd:=AC s;unfold xA at h
 split at h
 ·simp at h
 split at h
 ·simp at h;omega
 split at h
 ·simp at h;omega
 split at h
 ·split at h
  ·simp at h
  ·simp at h;rw[h] at hd;simp at hd;rename_i a;rw[h] at a;simp at a;omega
 ·simp at h;omega
theorem Lj(P:Option (List (Int×BA)))(f:Nat)(t:BA)(done:List (Int×BA))(c:0<t.size)(d:t.size<f)(h:P=(y8 f t).map λr=>done++r)
  (k:Int)(u:BA)(n:Nat)(b:xA t=some (k,u,n)) :
  ∃a,(t.extract n t.size).size<a/\P=(y8 a (t.extract n t.size)).map λr=>(done++[(k,u)])++r:=by
 obtain⟨g,rfl⟩:∃g,f=g+1:=⟨f-1,by omega⟩;have e:=U1 t c k u n b;refine⟨g,by rw[ByteArray.size_extract];omega,?_⟩;rw[h,y8,if_neg (by omega),b];simp[Option.map_map,Function.comp_def]
theorem Lp(P:Option (List (Int×BA)))(f:Nat)(t:BA)(done:List (Int×BA))(c:0<t.size)(b:t.size<f)(h:P=(y8 f t).map λr=>done++r)
  (a:xA t=none):P=none:=by
 obtain⟨g,rfl⟩:∃g,f=g+1:=⟨f-1,by omega⟩;rw[h,y8,if_neg (by omega),a];rfl
theorem Lh(P:Option (List (Int×BA)))(f:Nat)(t:BA)(done:List (Int×BA))(b:¬0<t.size)(a:t.size<f)(h:P=(y8 f t).map λr=>done++r):P=some done:=by
 obtain⟨g,rfl⟩:∃g,f=g+1:=⟨f-1,by omega⟩;rw[h,y8,if_pos (by omega)];simp
end Ref
theorem hid{p:Prop}(h:p):Hid p:=h
theorem ownsRow_below{w b:World}{base:Nat}{e:TypeId}{size:Nat}{v:Value}{n:Nat}{xs:List Value}(h:w.ownsRow base e size v n xs)(d:Below w.heap.size w b):b.ownsRow base e size v n xs:=by
 obtain⟨c,a⟩:=h;refine⟨c,?_⟩
 rcases a with a|⟨g,cap,cur,hv,hg,hh,h3⟩
 ·exact .inl a
 ·exact .inr ⟨g,cap,cur,hv,hg,by rw[d.block g (lt_of_block hh)];exact hh,h3⟩
theorem Ye(g j:Nat):(⟨g,0,none⟩:Addr).add j=⟨g,j,none⟩:=by
 by_cases h:j=0
 ·subst h;simp[Addr.add]
 ·simp[Addr.add,h]
theorem jZ{w:World}{base a:Nat}{e:TypeId}{size:Nat}{v:Value}{n:Nat}{xs:List Value}(h:w.ownsRow base e size v n xs)(d:a<=base):w.ownsRow a e size v n xs:=by
 obtain⟨c,b⟩:=h;refine⟨c,?_⟩
 rcases b with b|⟨g,cap,cur,hv,hg,hh⟩
 ·exact .inl b
 ·exact .inr ⟨g,cap,cur,hv,by omega,hh⟩
theorem Qj{w a:World}(h:Below w.drew.heap.size w.drew a):Below w.heap.size w a:=⟨h.os,h.tape,h.output,h.size,h.block⟩
theorem Qc(w:World)(a b:Obj):((w.alloc a).alloc b).heap[w.heap.size]?=some a/\((w.alloc a).alloc b).heap[w.heap.size+1]?=some b:=by
 refine⟨?_,?_⟩
 ·rw[Below.heap_alloc (w.alloc a) b w.heap.size (by simp)];exact heap_alloc_new w a
 ·have:=heap_alloc_new (w.alloc a) b
  simpa using this
theorem za{w:World}{b:Nat}{cs:Array Value}{t:TypeId}(h:w.heap[b]?=some (.cells cs t (0,0)))(o:Nat):w.cell? ⟨b,o,none⟩=cs[o]?/\w.frozen? ⟨b,o,none⟩=false:=by
 simp[World.cell?,World.frozen?,h]
theorem addr_add(b o j:Nat):(⟨b,o,none⟩:Addr).add j=⟨b,o+j,none⟩:=by
 by_cases h:j=0
 ·subst h;simp[Addr.add]
 ·simp[Addr.add,h]
theorem su(w:World)(b o d g:Nat)(u:Value)(h:¬(b=d/\o=g)):(w.setCell ⟨b,o,none⟩ u).cell? ⟨d,g,none⟩=w.cell? ⟨d,g,none⟩:=by
 by_cases hb:b=d
 ·subst hb;unfold World.cell? World.setCell;simp only[Array.getElem?_modify,if_true]
  cases w.heap[b]? with
  | none=>rfl
  | some i=>
   cases i with
   | cells c t f=>simp[Array.getElem?_setIfInBounds];intro j;omega
   | _=>rfl
 ·exact World.cell?_of_block (w:=w) (a:=⟨d,g,none⟩) (Below.heap_setCell w ⟨b,o,none⟩ u d (λe=>hb e.symm))
theorem dI(w:World)(p:Addr)(u:Value)(q:Addr):(w.setCell p u).frozen? q=w.frozen? q:=by
 unfold World.frozen? World.setCell
 by_cases hb:p.block=q.block
 ·rw[hb];simp only[Array.getElem?_modify,if_true]
  cases w.heap[q.block]? with
  | none=>rfl
  | some a=>cases a<;>rfl
 ·simp only[Array.getElem?_modify,if_neg hb]
theorem xR{W a:World}(c:Below W.heap.size W a):(∀b o,b<W.heap.size->a.cell? ⟨b,o,none⟩=W.cell? ⟨b,o,none⟩)/\(∀b o,b<W.heap.size->a.frozen? ⟨b,o,none⟩=W.frozen? ⟨b,o,none⟩):=
 ⟨λb o h=>c.cell (p:=⟨b,o,none⟩) h,λb o h=>c.frozen (p:=⟨b,o,none⟩) h⟩
theorem Jc(w:World)(o:Obj)(a b:Value)(t:TypeId)(k:Nat)(c:k=(w.alloc o).heap.size) :
  ∀j u,[a,b][j]?=some u->((w.alloc o).alloc (.cells #[a,b] t)).cell? ((⟨k,0,none⟩:Addr).add j)=some u:=by
 subst c;exact cell_two_new _ _ _ _
theorem aJ{w wr g:World}{e:TypeId}{size:Nat}{v:Value}{n:Nat}{xs:List Value}(c:Below w.heap.size w wr)(d:wr.ownsRow w.heap.size e size v n xs)(a b:Obj)
  (h:((wr.alloc a).alloc b).grownBy g v.ownBlock):Below w.heap.size w g:=by
 have f:=c.size;exact ((c.alloc f a).alloc (by simp;omega) b).grown h (by simp;omega) (λk i=>(d.lt k i).1)
namespace Ref
def vV:Nat->BA->Option (List BA)
 | 0,_=>none
 | f+1,s=>if s.size=0 then some [] else if Qk s=false then none else (vV f (s.extract (qc s).size s.size)).map λr=>qc s::r
def chars(s:BA):Option (List BA):=vV (s.size+1) s
def strCells(l:List BA):List Value:=l.map Value.string
def yQ(s:BA):Bool:=(chars s).isSome&&decide (s.size<=100)
end Ref
end Go.Proofs.YtdakgnaojakldabGreatDoor
namespace Go.Proofs.YtdakgnaojakldabGreatDoor
open Go.RowKit Go.Extern.Stop Go.Stop Go.Extern
theorem Tryz.erKind (h:Value) (w:World):(Go.method 433 203 (.agg #[h]) "Kind").run prog w = .ok (176,h) w:=by kernel_rfl
theorem Tryz.erElem (h:Value) (w:World):(Go.method 433 203 (.agg #[h]) "Elem").run prog w = .ok (198,.agg #[h]) w:=by kernel_rfl
theorem Tryz.erImplements (h:Value) (w:World):(Go.method 433 203 (.agg #[h]) "Implements").run prog w = .ok (199,.agg #[h]) w:=by kernel_rfl
theorem Tryz.erAssignableTo (h:Value) (w:World):(Go.method 433 203 (.agg #[h]) "AssignableTo").run prog w = .ok (196,.agg #[h]) w:=by kernel_rfl
structure xX (E:TypeId):Prop where
 typeOf:∀(v:Value) (w:World),(ReflectliteType.typeOf #[.iface E v]).run prog w = .ok (.iface 203 (.agg #[.pointer (some ⟨7,E,none⟩)])) w
 noAs:∀(v:Value) (xT:TypeId) (w:World),(Instr.typeAssert (.iface E v) xT 212 true).run prog w = .ok (.tuple #[.nilIface,.bool false]) w
 noIs:∀(v:Value) (xT:TypeId) (w:World),(Instr.typeAssert (.iface E v) xT 205 true).run prog w = .ok (.tuple #[.nilIface,.bool false]) w
 noUnwraps:∀(v:Value) (xT:TypeId) (w:World),(Instr.typeAssert (.iface E v) xT 208 true).run prog w = .ok (.tuple #[.nilIface,.bool false]) w
 ne:E≠291
def jB(E:TypeId):Prop:=∀(v:Value) (a:TypeId) (w:World),(Instr.typeAssert (.iface E v) a 207 true).run prog w = .ok (.tuple #[.nilIface,.bool false]) w
def Assign (E T:TypeId) (b:Bool):Prop:=∀w:World,(ReflectliteType.relation "AssignableTo" ReflectliteType.assignableTo #[.agg #[.pointer (some ⟨7,E,none⟩)],.iface 203 (.agg #[.pointer (some ⟨7,T,none⟩)])]).run prog w = .ok (.bool b) w
theorem cZ(E T:TypeId)(v b f g h:Value)(w:World)(a:xX E)(d:jB E)(c:Assign E T false) :
  Calls prog 67 #[.iface E v,b,.agg #[f,g,h],.iface 203 (.agg #[.pointer (some ⟨7,T,none⟩)])] w λe m=>e = .returned (.bool false)/\Below w.heap.size w m:=by
 have j:=@run_callFunc_extern prog 62 _ ReflectliteType.typeOf func62 (by kernel_rfl) (by kernel_rfl) (by kernel_rfl) (by kernel_rfl)
 have k:=@run_callFunc_extern prog 196 _ (ReflectliteType.relation "AssignableTo" ReflectliteType.assignableTo) func196 (by kernel_rfl) (by kernel_rfl) (by kernel_rfl) (by kernel_rfl)
 have q:=a.typeOf;have n:=Tryz.erAssignableTo;have i:=c;unfold Assign at i;have o:=a.noAs;have l:=d;unfold jB at l;have p:=a.noUnwraps;clear a d c;go_enter func67,ntmps67
 go_wp2
 refine wp_loop_rounds 1 ?_;rw[rounds_succ]
 go_wp2
 go_ret;exact⟨rfl,nB w _⟩
def qQ(w:World):Prop:=w.cell? ⟨1,0,none⟩=some (.iface 203 (.agg #[.pointer (some ⟨7,70,none⟩)]))
theorem qQ.below{w a:World}(h:qQ w)(b:Below w.heap.size w a):qQ a:=zb b h
structure vB (T pT:TypeId):Prop where
 unpack:∀(t:Addr) (w:World),(ReflectliteValue.unpack (.iface pT (.pointer (some t)))).run prog w = .ok (.agg #[.pointer (some ⟨7,pT,none⟩),.pointer (some ⟨w.heap.size,0,none⟩),.int .u64 150]) (w.alloc (.cells #[.pointer (some t)] pT))
 type:∀(a:Addr) (w:World),(ReflectliteValue.methodAny (ReflectliteValue.valueError "reflectlite.Value.Type" 0) (λt _ _ _=>ReflectliteType.toType t) #[.agg #[.pointer (some ⟨7,pT,none⟩),.pointer (some a),.int .u64 150]]).run prog w = .ok (.iface 203 (.agg #[.pointer (some ⟨7,pT,none⟩)])) w
 kindP:∀w:World,((ReflectliteType.abiMethod λt=>(λa:Nat=>Value.int IntKind.u8 (a:Int)) <$> Rtype.kind t) #[.pointer (some ⟨7,pT,none⟩)]).run prog w = .ok (.int .u8 22) w
 kind:∀w:World,((ReflectliteType.abiMethod λt=>(λa:Nat=>Value.int IntKind.u8 (a:Int)) <$> Rtype.kind t) #[.pointer (some ⟨7,T,none⟩)]).run prog w = .ok (.int .u8 25) w
 isNil:∀(a p:Addr) (W:World),W.cell? a=some (.pointer (some p))->(ReflectliteValue.method (ReflectliteValue.valueError "reflectlite.Value.IsNil" 0) ReflectliteValue.isNil #[.agg #[.pointer (some ⟨7,pT,none⟩),.pointer (some a),.int .u64 150]]).run prog W = .ok (.bool false) W
 elem:∀w:World,(ReflectliteType.method ReflectliteType.elem #[.agg #[.pointer (some ⟨7,pT,none⟩)]]).run prog w = .ok (.iface 203 (.agg #[.pointer (some ⟨7,T,none⟩)])) w
 impl:∀w:World,(ReflectliteType.relation "Implements" ReflectliteType.implements_ #[.agg #[.pointer (some ⟨7,T,none⟩)],.iface 203 (.agg #[.pointer (some ⟨7,70,none⟩)])]).run prog w = .ok (.bool true) w
 elemV:∀(a p:Addr) (W:World),W.cell? a=some (.pointer (some p))->(ReflectliteValue.method (ReflectliteValue.valueError "reflectlite.Value.Elem" 0) ReflectliteValue.elem #[.agg #[.pointer (some ⟨7,pT,none⟩),.pointer (some a),.int .u64 150]]).run prog W = .ok (.agg #[.pointer (some ⟨7,T,none⟩),.pointer (some p),.int .u64 409]) W
theorem QW(T c E:TypeId)(v:Value)(t:Addr)(w:World)(g:qQ w)(a:vB T c)(b:Bool)(Q:World->Prop)
  (m:∀O,Calls prog 67 #[.iface E v,.iface c (.pointer (some t)),.agg #[.pointer (some ⟨7,c,none⟩),.pointer (some ⟨w.heap.size,0,none⟩),.int .u64 150],.iface 203 (.agg #[.pointer (some ⟨7,T,none⟩)])]
    ((w.alloc (.cells #[.pointer (some t)] c)).alloc O) λe f=>e = .returned (.bool b)/\Q f) :
  Calls prog 37 #[.iface E v,.iface c (.pointer (some t))] w λe f=>e = .returned (.bool b)/\Q f:=by
 have r:=@run_callFunc_extern prog 64 _ (λargs=>ReflectliteValue.unpack (args.getD 0 (.tuple #[]))) func64 (by kernel_rfl) (by kernel_rfl) (by kernel_rfl) (by kernel_rfl)
 have s:=@run_callFunc_extern prog 65 _ (ReflectliteValue.methodAny (ReflectliteValue.valueError "reflectlite.Value.Type" 0) (λt _ _ _=>ReflectliteType.toType t)) func65 (by kernel_rfl) (by kernel_rfl) (by kernel_rfl) (by kernel_rfl)
 have u:=@run_callFunc_extern prog 66 _ (ReflectliteValue.method (ReflectliteValue.valueError "reflectlite.Value.IsNil" 0) ReflectliteValue.isNil) func66 (by kernel_rfl) (by kernel_rfl) (by kernel_rfl) (by kernel_rfl)
 have j:=@run_callFunc_extern prog 176 _ (ReflectliteType.abiMethod λt=>do pure (.int .u8 (<- Rtype.kind t))) func176 (by kernel_rfl) (by kernel_rfl) (by kernel_rfl) (by kernel_rfl);have k:=@run_callFunc_extern prog 198 _ (ReflectliteType.method ReflectliteType.elem) func198 (by kernel_rfl) (by kernel_rfl) (by kernel_rfl) (by kernel_rfl)
 have l:=@run_callFunc_extern prog 199 _ (ReflectliteType.relation "Implements" ReflectliteType.implements_) func199 (by kernel_rfl) (by kernel_rfl) (by kernel_rfl) (by kernel_rfl)
 have C:=Tryz.erKind;have A:=Tryz.erElem;have B:=Tryz.erImplements;have p:=a.unpack;have q:=a.type;have y:=a.kindP;have z:=a.kind;have o:=a.elem;have x:=a.impl;have D:=λO=>a.isNil ⟨w.heap.size,0,none⟩ t ((w.alloc (.cells #[.pointer (some t)] c)).alloc O) (by simp);have d:=λh i:Obj=>g.below ((nB w h).alloc (by simp) i);unfold qQ at d;clear g a;go_enter func37,ntmps37
 go_wp2_with (go_at_call 67;refine (m _).mono ?_;rintro e F ⟨rfl,n⟩)
 go_ret;exact⟨rfl,n⟩
structure ZC (E:TypeId) (ok:Value->Prop):Prop where
 held:∀(x:Value) (w:World),ok x->(ReflectliteValue.unpack (.iface E (.agg #[x]))).run prog w = .ok (.agg #[.pointer (some ⟨7,E,none⟩),.pointer (some ⟨w.heap.size,0,none⟩),.int .u64 153]) (w.alloc (.cells #[x] E))
 set:∀(ta b:Addr) (x old:Value) (W:World),ok x->W.cell? b=some x->W.cell? ta=some old->W.frozen? ta=false ->
  (ReflectliteValue.set #[.agg #[.pointer (some ⟨7,E,none⟩),.pointer (some ta),.int .u64 409],.agg #[.pointer (some ⟨7,E,none⟩),.pointer (some b),.int .u64 153]]).run prog W = .ok (.tuple #[]) (W.setCell ta x)
theorem zF{w:World}{a:Addr}{v:Value}(h:w.cell? a=some v)(O:Obj):(w.alloc O).cell? a=some v:=by
 have b:a.block<w.heap.size:=by
  rcases Nat.lt_or_ge a.block w.heap.size with h'|h'
  ·exact h'
  ·simp[World.cell?,Array.getElem?_eq_none h'] at h
 rw[World.cell?_alloc_lt _ _ a b];exact h
theorem yV{w:World}{a:Addr}{v:Value}(h:w.cell? a=some v)(b:w.frozen? a=false)(O:Obj):(w.alloc O).frozen? a=false:=by
 have c:a.block<w.heap.size:=by
  rcases Nat.lt_or_ge a.block w.heap.size with h'|h'
  ·exact h'
  ·simp[World.cell?,Array.getElem?_eq_none h'] at h
 rw[World.frozen?_alloc_old _ _ a (Nat.ne_of_lt c)];exact b
theorem cK(E m:TypeId)(ok:Value->Prop)(x g old:Value)(a t:Addr)(w:World)(i:xX E)(h:Assign E E true)(j:vB E m)(c:ZC E ok)(l:ok x)(k:w.cell? a=some (.pointer (some t)))(b:w.cell? t=some old)(u:w.frozen? t=false) :
  Calls prog 67 #[.iface E (.agg #[x]),g,.agg #[.pointer (some ⟨7,m,none⟩),.pointer (some a),.int .u64 150],.iface 203 (.agg #[.pointer (some ⟨7,E,none⟩)])] w λe n=>
   e = .returned (.bool true)/\n.cell? t=some x/\∀base,base<=t.block->base<=w.heap.size->Below base w n:=by
 have p:=@run_callFunc_extern prog 62 _ ReflectliteType.typeOf func62 (by kernel_rfl) (by kernel_rfl) (by kernel_rfl) (by kernel_rfl)
 have s:=@run_callFunc_extern prog 196 _ (ReflectliteType.relation "AssignableTo" ReflectliteType.assignableTo) func196 (by kernel_rfl) (by kernel_rfl) (by kernel_rfl) (by kernel_rfl)
 have y:=@run_callFunc_extern prog 64 _ (λargs=>ReflectliteValue.unpack (args.getD 0 (.tuple #[]))) func64 (by kernel_rfl) (by kernel_rfl) (by kernel_rfl) (by kernel_rfl)
 have q:=@run_callFunc_extern prog 95 _ (ReflectliteValue.method (ReflectliteValue.valueError "reflectlite.Value.Elem" 0) ReflectliteValue.elem) func95 (by kernel_rfl) (by kernel_rfl) (by kernel_rfl) (by kernel_rfl)
 have r:=@run_callFunc_extern prog 96 _ ReflectliteValue.set func96 (by kernel_rfl) (by kernel_rfl) (by kernel_rfl) (by kernel_rfl);have B:=i.typeOf;have z:=Tryz.erAssignableTo;have o:=h;unfold Assign at o;have C:=λw=>c.held x w l;have v:=λO=>j.elemV a t (w.alloc O) (zF k O);have A:=λO=>c.set t ⟨w.heap.size+1,0,none⟩ x old ((w.alloc O).alloc (.cells #[x] E)) l (by rw[World.cell?_alloc_at _ _ _ _ (by simp)];rfl) (zF (zF b O) _) (yV (zF b O) (yV b u O) _);have fin:=λO=>World.cell?_setCell_same ((w.alloc O).alloc (.cells #[x] E)) t x (zF (zF b O) (.cells #[x] E));clear i h j c k;go_enter func67,ntmps67
 go_wp2
 refine wp_loop_rounds 1 ?_;rw[rounds_succ]
 go_wp2
 go_ret;refine⟨rfl,fin _,λbase d f=>?_⟩;exact (((Below.refl base w).alloc f _).alloc (by simp;omega) _).setCell d _
theorem Tryz.stUnwraps(v:Value)(a:TypeId)(w:World):(Instr.typeAssert (.iface 110 v) a 207 true).run prog w = .ok (.tuple #[.iface 110 v,.bool true]) w:=by kernel_rfl
theorem Tryz.stUnwrap (v:Value) (w:World):(Go.method 433 110 v "Unwrap").run prog w = .ok (185,v) w:=by kernel_rfl
theorem Kk(n:Int)(E:TypeId)(v:Value)(w:World) :
  Calls prog 185 #[.agg #[.int .i64 n,.iface E v]] w λe a=>e = .returned (.iface E v)/\Below w.heap.size w a:=by
 go_enter func185,ntmps185
 go_wp2
 go_ret;exact⟨rfl,by first|exact Below.refl _ _|exact nB w _⟩
theorem Br(E T:TypeId)(n:Int)(v d i j k:Value)(w:World)(b:xX 110)(a:xX E)(h:jB E)(f:Assign 110 T false)(g:Assign E T false) :
  Calls prog 67 #[.iface 110 (.agg #[.int .i64 n,.iface E v]),d,.agg #[i,j,k],.iface 203 (.agg #[.pointer (some ⟨7,T,none⟩)])] w λe r=>e = .returned (.bool false)/\Below w.heap.size w r:=by
 have o:=@run_callFunc_extern prog 62 _ ReflectliteType.typeOf func62 (by kernel_rfl) (by kernel_rfl) (by kernel_rfl) (by kernel_rfl)
 have p:=@run_callFunc_extern prog 196 _ (ReflectliteType.relation "AssignableTo" ReflectliteType.assignableTo) func196 (by kernel_rfl) (by kernel_rfl) (by kernel_rfl) (by kernel_rfl)
 have y:=a.typeOf;have z:=b.typeOf;have s:=Tryz.erAssignableTo;have m:=g;have l:=f;unfold Assign at m l;have t:=a.noAs;have q:=h;unfold jB at q;have u:=a.noUnwraps;have x:=b.noAs;have u1:=Tryz.stUnwraps;have u2:=Tryz.stUnwrap;clear a h f g b;go_enter func67,ntmps67
 go_wp2
 refine wp_loop_rounds 2 ?_;rw[rounds_succ]
 go_wp2_with (go_at_call 185;refine (Kk n E v _).mono ?_;rintro e A ⟨rfl,c⟩)
 rw[rounds_succ]
 go_wp2
 go_ret;exact⟨rfl,(nB w _).trans (c.mono (by simp))⟩
theorem Bq(E i:TypeId)(ok:Value->Prop)(n:Int)(x r old:Value)(a t:Addr)(w:World)(k:xX 110)(y:xX E)(u:Assign 110 E false)(v:Assign E E true)(z:vB E i)(j:ZC E ok)(A:ok x)
  (R:w.cell? a=some (.pointer (some t)))(q:w.cell? t=some old)(S:w.frozen? t=false) :
  Calls prog 67 #[.iface 110 (.agg #[.int .i64 n,.iface E (.agg #[x])]),r,.agg #[.pointer (some ⟨7,i,none⟩),.pointer (some a),.int .u64 150],.iface 203 (.agg #[.pointer (some ⟨7,E,none⟩)])] w λe C=>
   e = .returned (.bool true)/\C.cell? t=some x/\∀base,base<=t.block->base<=w.heap.size->Below base w C:=by
 have L:=@run_callFunc_extern prog 62 _ ReflectliteType.typeOf func62 (by kernel_rfl) (by kernel_rfl) (by kernel_rfl) (by kernel_rfl)
 have Q:=@run_callFunc_extern prog 196 _ (ReflectliteType.relation "AssignableTo" ReflectliteType.assignableTo) func196 (by kernel_rfl) (by kernel_rfl) (by kernel_rfl) (by kernel_rfl)
 have U:=@run_callFunc_extern prog 64 _ (λargs=>ReflectliteValue.unpack (args.getD 0 (.tuple #[]))) func64 (by kernel_rfl) (by kernel_rfl) (by kernel_rfl) (by kernel_rfl)
 have M:=@run_callFunc_extern prog 95 _ (ReflectliteValue.method (ReflectliteValue.valueError "reflectlite.Value.Elem" 0) ReflectliteValue.elem) func95 (by kernel_rfl) (by kernel_rfl) (by kernel_rfl) (by kernel_rfl)
 have N:=@run_callFunc_extern prog 96 _ ReflectliteValue.set func96 (by kernel_rfl) (by kernel_rfl) (by kernel_rfl) (by kernel_rfl);have Y:=y.typeOf;have Z:=k.typeOf;have V:=Tryz.erAssignableTo;have F:=v;have D:=u;unfold Assign at F D;have X:=k.noAs;have u1:=Tryz.stUnwraps;have u2:=Tryz.stUnwrap;have vH:=λw=>j.held x w A;have s:=λW h=>z.elemV a t W h;have B:=λW b K O P=>j.set t b x old W A K O P;clear y u v z j k;go_enter func67,ntmps67
 go_wp2
 refine wp_loop_rounds 2 ?_;rw[rounds_succ]
 go_wp2_with (go_at_call 185;refine (Kk n E (.agg #[x]) _).mono ?_;rintro e f ⟨rfl,c⟩)
 have l:=zb c (zF R _);have d:=zb c (zF q _)
 have o:=(c.frozen (p:=t) (by
  have h:=zF q (.cells #[.pointer (some ⟨7,i,none⟩),.pointer (some a),.int .u64 150] 158)
  rcases Nat.lt_or_ge t.block (w.alloc (.cells #[.pointer (some ⟨7,i,none⟩),.pointer (some a),.int .u64 150] 158)).heap.size with h'|h'
  ·exact h'
  ·simp[World.cell?,Array.getElem?_eq_none h'] at h)).trans (yV q S _)
 have J:=s f l;have G:f.cell? ⟨w.heap.size,0,none⟩=some (.pointer (some ⟨7,i,none⟩)):=zb c (by simp);have H:f.cell? ⟨w.heap.size,1,none⟩=some (.pointer (some a)):=zb c (by simp);have I:f.cell? ⟨w.heap.size,2,none⟩=some (.int .u64 150):=zb c (by simp);have T:=B (f.alloc (.cells #[x] E)) ⟨f.heap.size,0,none⟩ (by rw[World.cell?_alloc_at _ _ _ _ (by simp)];rfl) (zF d _) (yV d o _);have fin:=World.cell?_setCell_same (f.alloc (.cells #[x] E)) t x (zF d _);clear s B;rw[rounds_succ]
 go_wp2
 go_ret;refine⟨rfl,fin,λbase g m=>?_⟩;exact ((((Below.refl base w).alloc m _).trans (c.mono (by simp;omega))).alloc (by have:=c.size;simp at this;omega) _).setCell g _
theorem Tryz.stHeld(n:Int)(u:Value)(w:World):(ReflectliteValue.unpack (.iface 110 (.agg #[.int .i64 n,u]))).run prog w = .ok (.agg #[.pointer (some ⟨7,110,none⟩),.pointer (some ⟨w.heap.size,0,none⟩),.int .u64 153]) (w.alloc (.cells #[.int .i64 n,u] 110)):=by kernel_rfl
theorem Tryz.stPartsA(a:Addr)(w:World):(ReflectliteValue.parts (.agg #[.pointer (some ⟨7,110,none⟩),.pointer (some a),.int .u64 409])).run prog w = .ok (some (110,a,409)) w:=by kernel_rfl
theorem Tryz.stPartsB(a:Addr)(w:World):(ReflectliteValue.parts (.agg #[.pointer (some ⟨7,110,none⟩),.pointer (some a),.int .u64 153])).run prog w = .ok (some (110,a,153)) w:=by kernel_rfl
theorem Tryz.stDirect(w:World):(Rtype.directlyAssignable 110 110).run prog w = .ok true w:=by kernel_rfl
theorem Xz(v x:Value)(a:Value->Value->Sem Value)(b:Array Value->Sem Value):ReflectliteValue.set.match_3 (λ_=>Sem Value) #[v,x] a b=a v x:=rfl
theorem uG(v:Value)(a:Value->Sem Value)(b:Array Value->Sem Value):ReflectliteValue.method.match_2 (λ_=>Sem Value) #[v] a b=a v:=rfl
theorem Tryz.stSet(a b:Nat)(n:Int)(E:TypeId)(v h c:Value)(W:World)(f:W.cell? ⟨b,0,none⟩=some (.int .i64 n))(g:W.cell? ⟨b,1,none⟩=some (.iface E v))(i:W.cell? ⟨a,0,none⟩=some h)(j:W.cell? ⟨a,1,none⟩=some c)(f1:W.frozen? ⟨a,0,none⟩=false)(f2:W.frozen? ⟨a,1,none⟩=false) :
  (ReflectliteValue.set #[.agg #[.pointer (some ⟨7,110,none⟩),.pointer (some ⟨a,0,none⟩),.int .u64 409],.agg #[.pointer (some ⟨7,110,none⟩),.pointer (some ⟨b,0,none⟩),.int .u64 153]]).run prog W
    = .ok (.tuple #[]) ((W.setCell ⟨a,0,none⟩ (.int .i64 n)).setCell ⟨a,1,none⟩ (.iface E v)):=by
 delta ReflectliteValue.set
 rw[Xz];simp only[Sem.run_bind,Tryz.stPartsA,Tryz.stPartsB,Result.andThen];have d:(W.setCell ⟨a,0,none⟩ (.int .i64 n)).cell? ⟨a,1,none⟩=some c:=(World.cell?_setCell_other _ _ _ _ (by simp)).trans j;have e:(W.setCell ⟨a,0,none⟩ (.int .i64 n)).frozen? ⟨a,1,none⟩=false:=by rw[World.frozen?_setCell];exact f2
 simp[ReflectliteValue.flagAddr,loadVar,isAgg,Tryz.sizeOf110,loadCells,loadCellsFrom,f,g,Result.andThen,Tryz.stDirect,storeVar,Value.cells,storeCells,Addr.add];rw[run_store prog W ⟨a,0,none⟩ _ _ (by rfl)];simp[i,f1];rw[run_store prog _ ⟨a,1,none⟩ _ _ (by rfl)];simp[d,e]
theorem Tryz.erTypeLong(v:Value)(w:World):(ReflectliteType.typeOf #[.iface 291 v]).run prog w = .ok (.iface 203 (.agg #[.pointer (some ⟨7,291,none⟩)])) w:=by kernel_rfl
theorem Tryz.erComparable (h:Value) (w:World):(Go.method 433 203 (.agg #[h]) "Comparable").run prog w = .ok (197,.agg #[h]) w:=by kernel_rfl
theorem Tryz.erComparableLong (w:World):(ReflectliteType.method (λt=>do Rtype.noPackHeld "Comparable" t;(λa=>Value.bool a.comparable) <$> typeInfo t) #[.agg #[.pointer (some ⟨7,291,none⟩)]]).run prog w = .ok (.bool true) w:=by kernel_rfl
theorem Bl(E:TypeId)(v:Value)(c:Addr)(w:World)(a:xX E)(b:jB E) :
  Calls prog 36 #[.iface E v,.iface 291 (.pointer (some c))] w λe h=>e = .returned (.bool false)/\h=w:=by
 have k:=@run_callFunc_extern prog 62 _ ReflectliteType.typeOf func62 (by kernel_rfl) (by kernel_rfl) (by kernel_rfl) (by kernel_rfl);have o:=Tryz.erTypeLong;have l:=Tryz.erComparable
 have j:=@run_callFunc_extern prog 197 _ (ReflectliteType.method (λt=>do Rtype.noPackHeld "Comparable" t;pure (.bool (<- typeInfo t).comparable))) func197 (by kernel_rfl) (by kernel_rfl) (by kernel_rfl) (by kernel_rfl)
 have i:=Tryz.erComparableLong;have m:=a.noIs;have d:=b;unfold jB at d;have n:=a.noUnwraps;have ne:=λf g w=>run_eql_iface_types (P:=prog) E 291 f g underlying70 a.ne w;clear a b;go_enter func36,ntmps36
 go_wp2
 refine wp_loop_rounds 1 ?_;rw[rounds_succ]
 go_wp2
 go_ret;exact⟨rfl,rfl⟩
theorem cB(E:TypeId)(n:Int)(v:Value)(h:Addr)(w:World)(b:xX 110)(a:xX E)(g:jB E) :
  Calls prog 36 #[.iface 110 (.agg #[.int .i64 n,.iface E v]),.iface 291 (.pointer (some h))] w λe j=>e = .returned (.bool false)/\Below w.heap.size w j:=by
 have m:=@run_callFunc_extern prog 62 _ ReflectliteType.typeOf func62 (by kernel_rfl) (by kernel_rfl) (by kernel_rfl) (by kernel_rfl);have u:=Tryz.erTypeLong;have o:=Tryz.erComparable
 have l:=@run_callFunc_extern prog 197 _ (ReflectliteType.method (λt=>do Rtype.noPackHeld "Comparable" t;pure (.bool (<- typeInfo t).comparable))) func197 (by kernel_rfl) (by kernel_rfl) (by kernel_rfl) (by kernel_rfl)
 have k:=Tryz.erComparableLong;have p:=a.noIs;have i:=g;unfold jB at i;have q:=a.noUnwraps;have ne:=λd f w=>run_eql_iface_types (P:=prog) E 291 d f underlying70 a.ne w;have r:=λd f w=>run_eql_iface_types (P:=prog) 110 291 d f underlying70 b.ne w;have s:=b.noIs;have u1:=Tryz.stUnwraps;have u2:=Tryz.stUnwrap;clear a g b;go_enter func36,ntmps36
 go_wp2
 refine wp_loop_rounds 2 ?_;rw[rounds_succ]
 go_wp2_with (go_at_call 185;refine (Kk n E v _).mono ?_;rintro e x ⟨rfl,c⟩)
 rw[rounds_succ]
 go_wp2
 go_ret;exact⟨rfl,c⟩
end Go.Proofs.YtdakgnaojakldabGreatDoor
