/- P -/
import Derived.Test.YtagnlbgbnfnapaaGreatDoorZ00
import Derived.Test.YtagnlbgbnfnapaaGreatDoorProg
open Go.Proofs.Tryz hiding parts
set_option maxRecDepth 100000
set_option maxHeartbeats 4000000
namespace Go.Proofs.YtagnlbgbnfnapaaGreatDoor
namespace Ref
def qE(b:Int):Int×Int×Int:=
 if 194<=b/\b<=223 then (1,128,191)
 else if b=224 then (2,160,191)
 else if b=237 then (2,128,159)
 else if 225<=b/\b<=239 then (2,128,191)
 else if b=240 then (3,144,191)
 else if 241<=b/\b<=243 then (3,128,191)
 else if b=244 then (3,128,143)
 else (0,0,0)
def letters(l:List UInt8):Bool:=l.all λc=>decide (97<=c.toNat/\c.toNat<=122)
def qm(s:BA):Bool:=decide (1<=s.size/\s.size<=12)&&letters s.data.toList
theorem zay(s:BA)(k:Nat)(h:k<s.size):s.data.toList.take (k+1)=s.data.toList.take k++[s[k]]:=by
 rw[Xy (by simpa using h)];rfl
theorem dN(s:BA)(h:¬(1<=s.size/\s.size<=12)):qm s=false:=by
 unfold qm;simp[h]
theorem Nk(b:Int):0<=(qE b).1/\(qE b).1<=3/\0<=(qE b).2.1/\(qE b).2.1<=255/\0<=(qE b).2.2/\(qE b).2.2<=255:=by
 generalize a:qE b=r;unfold qE at a
 (repeat' split at a)<;>subst a<;>simp
def XO(l:List UInt8)(lo hi:Int)(n:Nat):Bool:=
 (List.range n).all λj=>if j=0 then decide (lo<=((l.getD 1 0).toNat:Int)/\((l.getD 1 0).toNat:Int)<=hi) else decide (128<=(l.getD (j+1) 0).toNat/\(l.getD (j+1) 0).toNat<=191)
def jh(l:List UInt8):Nat:=
 if l.length=0 then 0
 else if (l.getD 0 0).toNat<128 then 1
 else if (qE (l.getD 0 0).toNat).1=0 then 0
 else if (l.length:Int)<(qE (l.getD 0 0).toNat).1+1 then 0
 else if XO l (qE (l.getD 0 0).toNat).2.1 (qE (l.getD 0 0).toNat).2.2 (qE (l.getD 0 0).toNat).1.toNat then (qE (l.getD 0 0).toNat).1.toNat+1 else 0
theorem ol(l:List UInt8)(lo hi:Int)(n:Nat) :
  XO l lo hi (n+1)=(XO l lo hi n&&if n=0 then decide (lo<=((l.getD 1 0).toNat:Int)/\((l.getD 1 0).toNat:Int)<=hi) else decide (128<=(l.getD (n+1) 0).toNat/\(l.getD (n+1) 0).toNat<=191)):=by
 unfold XO;rw[UB,List.all_append];simp
theorem zP(s:BA):s.data.toList.length=s.size:=by simp
theorem getD_at(s:BA)(k:Nat)(h:k<s.size):s.data.toList.getD k 0=s[k]:=by
 rw[zQ,zt (by simpa using h)];rfl
def qJ(s:BA):BA:=s.extract 0 (if jh s.data.toList=0 then 1 else jh s.data.toList)
def Yi(s:BA):Bool:=jh s.data.toList != 0
def kZ(s:BA):Nat:=2+(s.data.toList.drop 2).findIdx (λc=>c.toNat==125)
def Qw(s:BA):Int×BA×Nat:=
 if s.size<2 then (0,⟨#[]⟩,0)
 else if (s.data.toList.getD 1 0).toNat=36\/(s.data.toList.getD 1 0).toNat=42\/(s.data.toList.getD 1 0).toNat=63 then (1,s.extract 1 2,2)
 else if (s.data.toList.getD 1 0).toNat=123 then
  if kZ s<s.size then (if qm (s.extract 2 (kZ s)) then (4,s.extract 2 (kZ s),kZ s+1) else (0,⟨#[]⟩,0)) else (0,⟨#[]⟩,0)
 else (0,⟨#[]⟩,0)
end Ref
end Go.Proofs.YtagnlbgbnfnapaaGreatDoor
namespace Go.Proofs.YtagnlbgbnfnapaaGreatDoor
open Go.RowKit
namespace Ref
def yK(s:BA):Option (Int×BA×Nat):=
 if Yi s=false then none
 else if (qJ s).toList==[42] then some (3,qJ s,(qJ s).size)
 else if (qJ s).toList==[63] then some (2,qJ s,(qJ s).size)
 else if (qJ s).toList==[36] then (if (Qw s).2.2=0 then none else some (Qw s))
 else some (1,qJ s,(qJ s).size)
def vK:Nat->BA->Option (List (Int×BA))
 | 0,_=>none
 | f+1,s=>if s.size=0 then some [] else match yK s with
  | none=>none
  | some (k,t,n)=>(vK f (s.extract n s.size)).map λr=>(k,t)::r
def parts(s:BA):Option (List (Int×BA)):=if 60<s.size then none else vK (s.size+1) s
def jb(l:List (Int×BA)):List Value:=l.flatMap λp=>[.int .i64 p.1,.string p.2]
theorem Ac(l:List (Int×BA))(k:Int)(t:BA):jb (l++[(k,t)])=jb l++[.int .i64 k,.string t]:=by
 simp[jb]
theorem EP(s:BA):jh s.data.toList<=s.size:=by
 unfold jh;rw[zP]
 split
 ·omega
 split
 ·omega
 split
 ·omega
 split
 ·omega
 split
 ·have:=Nk ((s.data.toList.getD 0 0).toNat:Int);omega
 ·omega
theorem VM(s:BA)(a:0<s.size):1<=(qJ s).size/\(qJ s).size<=s.size:=by
 have h:=EP s;unfold qJ;rw[jK]
 split<;>omega
theorem GN(s:BA):(Qw s).2.2<=s.size:=by
 unfold Qw
 split
 ·simp
 split
 ·simp;omega
 split
 ·split
  ·split
   ·simp;omega
   ·simp
  ·simp
 ·simp
theorem gL(s:BA)(b:0<s.size)(k:Int)(t:BA)(n:Nat)(h:yK s=some (k,t,n)):1<=n/\n<=s.size:=by
 have c:=VM s b;have hd:=GN s;unfold yK at h
 split at h
 ·simp at h
 split at h
 ·simp at h;omega
 split at h
 ·simp at h;omega
 split at h
 ·split at h
  ·simp at h
  ·simp at h;rw[h] at hd;simp at hd;rename_i a;rw[h] at a;simp at a;omega
 ·simp at h;omega
theorem Rn(P:Option (List (Int×BA)))(f:Nat)(t:BA)(done:List (Int×BA))(c:0<t.size)(d:t.size<f)(h:P=(vK f t).map λr=>done++r)
  (k:Int)(u:BA)(n:Nat)(b:yK t=some (k,u,n)) :
  ∃a,(t.extract n t.size).size<a/\P=(vK a (t.extract n t.size)).map λr=>(done++[(k,u)])++r:=by
 obtain⟨g,rfl⟩:∃g,f=g+1:=⟨f-1,by omega⟩;have e:=gL t c k u n b;refine⟨g,by rw[jK];omega,?_⟩;rw[h,vK,za (by omega),b];simp[Option.map_map,Function.comp_def]
theorem Rq(P:Option (List (Int×BA)))(f:Nat)(t:BA)(done:List (Int×BA))(c:0<t.size)(b:t.size<f)(h:P=(vK f t).map λr=>done++r)
  (a:yK t=none):P=none:=by
 obtain⟨g,rfl⟩:∃g,f=g+1:=⟨f-1,by omega⟩;rw[h,vK,za (by omega),a];rfl
theorem Rl(P:Option (List (Int×BA)))(f:Nat)(t:BA)(done:List (Int×BA))(b:¬0<t.size)(a:t.size<f)(h:P=(vK f t).map λr=>done++r):P=some done:=by
 obtain⟨g,rfl⟩:∃g,f=g+1:=⟨f-1,by omega⟩;rw[h,vK,zb (by omega)];simp
end Ref
theorem hid{p:Prop}(h:p):Hid p:=h
theorem ownsRow_below{w b:World}{base:Nat}{e:TypeId}{size:Nat}{v:Value}{n:Nat}{xs:List Value}(h:w.ownsRow base e size v n xs)(hb:Below w.heap.size w b):b.ownsRow base e size v n xs:=by
 obtain⟨c,a⟩:=h;refine⟨c,?_⟩
 rcases a with a|⟨g,cap,cur,hv,hg,hh,h3⟩
 ·exact .inl a
 ·exact .inr ⟨g,cap,cur,hv,hg,by rw[hb.block g (zY hh)];exact hh,h3⟩
theorem VE(g j:Nat):(⟨g,0,none⟩:Addr).add j=⟨g,j,none⟩:=by
 by_cases h:j=0
 ·subst h;simp[Addr.add]
 ·simp[Addr.add,h]
theorem kG{w:World}{base a:Nat}{e:TypeId}{size:Nat}{v:Value}{n:Nat}{xs:List Value}(h:w.ownsRow base e size v n xs)(hb:a<=base):w.ownsRow a e size v n xs:=by
 obtain⟨c,b⟩:=h;refine⟨c,?_⟩
 rcases b with b|⟨g,cap,cur,hv,hg,hh⟩
 ·exact .inl b
 ·exact .inr ⟨g,cap,cur,hv,by omega,hh⟩
theorem Yh{w a:World}(h:Below w.drew.heap.size w.drew a):Below w.heap.size w a:=⟨h.os,h.tape,h.output,h.size,h.block⟩
theorem X6(w:World)(a b:Obj):((w.alloc a).alloc b).heap[w.heap.size]?=some a/\((w.alloc a).alloc b).heap[w.heap.size+1]?=some b:=by
 refine⟨?_,?_⟩
 ·rw[Xn (w.alloc a) b w.heap.size (by simp)];exact zL w a
 ·have:=zL (w.alloc a) b
  simpa using this
theorem zf{w:World}{b:Nat}{cs:Array Value}{t:TypeId}(h:w.heap[b]?=some (.cells cs t (0,0)))(o:Nat):w.cell? ⟨b,o,none⟩=cs[o]?/\w.frozen? ⟨b,o,none⟩=false:=by
 simp[World.cell?,World.frozen?,h]
theorem addr_add(b o j:Nat):(⟨b,o,none⟩:Addr).add j=⟨b,o+j,none⟩:=by
 by_cases h:j=0
 ·subst h;simp[Addr.add]
 ·simp[Addr.add,h]
theorem EK(w:World)(b o d g:Nat)(u:Value)(h:¬(b=d/\o=g)):(w.setCell ⟨b,o,none⟩ u).cell? ⟨d,g,none⟩=w.cell? ⟨d,g,none⟩:=by
 by_cases hb:b=d
 ·subst hb;unfold World.cell? World.setCell;simp only[Ut,qO]
  cases w.heap[b]? with
  | none=>rfl
  | some i=>
   cases i with
   | cells c t f=>simp[Array.getElem?_setIfInBounds];intro j;omega
   | _=>rfl
 ·exact XG (w:=w) (a:=⟨d,g,none⟩) (X7 w ⟨b,o,none⟩ u d (λe=>hb e.symm))
theorem pJ(w:World)(p:Addr)(u:Value)(q:Addr):(w.setCell p u).frozen? q=w.frozen? q:=by
 unfold World.frozen? World.setCell
 by_cases hb:p.block=q.block
 ·rw[hb];simp only[Ut,qO]
  cases w.heap[q.block]? with
  | none=>rfl
  | some a=>cases a<;>rfl
 ·simp only[Ut,za hb]
theorem y8{W a:World}(hb:Below W.heap.size W a):(∀b o,b<W.heap.size->a.cell? ⟨b,o,none⟩=W.cell? ⟨b,o,none⟩)/\(∀b o,b<W.heap.size->a.frozen? ⟨b,o,none⟩=W.frozen? ⟨b,o,none⟩):=
 ⟨λb o h=>hb.cell (p:=⟨b,o,none⟩) h,λb o h=>hb.frozen (p:=⟨b,o,none⟩) h⟩
theorem UR(w:World)(o:Obj)(a b:Value)(t:TypeId)(k:Nat)(c:k=(w.alloc o).heap.size) :
  ∀j u,[a,b][j]?=some u->((w.alloc o).alloc (.cells #[a,b] t)).cell? ((⟨k,0,none⟩:Addr).add j)=some u:=by
 subst c;exact cell_two_new _ _ _ _
theorem za9{w wr f:World}{e:TypeId}{size:Nat}{v:Value}{n:Nat}{xs:List Value}(b:Below w.heap.size w wr)(c:wr.ownsRow w.heap.size e size v n xs)(a:Obj)
  (g:(wr.alloc a).grownBy f v.ownBlock):Below w.heap.size w f:=by
 have d:=b.size;exact (b.alloc d a).grown g (by simp;omega) (λk h=>(c.lt k h).1)
theorem nu{w wr g:World}{e:TypeId}{size:Nat}{v:Value}{n:Nat}{xs:List Value}(c:Below w.heap.size w wr)(d:wr.ownsRow w.heap.size e size v n xs)(a b:Obj)
  (h:((wr.alloc a).alloc b).grownBy g v.ownBlock):Below w.heap.size w g:=by
 have f:=c.size;exact ((c.alloc f a).alloc (by simp;omega) b).grown h (by simp;omega) (λk i=>(d.lt k i).1)
namespace Ref
def ZA:Nat->BA->Option (List BA)
 | 0,_=>none
 | f+1,s=>if s.size=0 then some [] else if Yi s=false then none else (ZA f (s.extract (qJ s).size s.size)).map λr=>qJ s::r
def chars(s:BA):Option (List BA):=ZA (s.size+1) s
def strCells(l:List BA):List Value:=l.map Value.string
def vg(s:BA):Bool:=(chars s).isSome&&decide (s.size<=100)
end Ref
end Go.Proofs.YtagnlbgbnfnapaaGreatDoor
namespace Go.Proofs.YtagnlbgbnfnapaaGreatDoor
open Go.RowKit Go.Extern.Stop Go.Stop Go.Extern
theorem Tryz.erKind (h:Value) (w:World):(Go.method 554 289 (.agg #[h]) "Kind").run prog w = .ok (281,h) w:=by kernel_rfl
theorem Tryz.erElem (h:Value) (w:World):(Go.method 554 289 (.agg #[h]) "Elem").run prog w = .ok (301,.agg #[h]) w:=by kernel_rfl
theorem Tryz.erImplements (h:Value) (w:World):(Go.method 554 289 (.agg #[h]) "Implements").run prog w = .ok (302,.agg #[h]) w:=by kernel_rfl
theorem Tryz.erAssignableTo (h:Value) (w:World):(Go.method 554 289 (.agg #[h]) "AssignableTo").run prog w = .ok (299,.agg #[h]) w:=by kernel_rfl
structure yX (E:TypeId):Prop where
 typeOf:∀(v:Value) (w:World),(ReflectliteType.typeOf #[.iface E v]).run prog w = .ok (.iface 289 (.agg #[.pointer (some ⟨7,E,none⟩)])) w
 noAs:∀(v:Value) (xT:TypeId) (w:World),(Instr.typeAssert (.iface E v) xT 298 true).run prog w = .ok (.tuple #[.nilIface,.bool false]) w
 noIs:∀(v:Value) (xT:TypeId) (w:World),(Instr.typeAssert (.iface E v) xT 291 true).run prog w = .ok (.tuple #[.nilIface,.bool false]) w
 noUnwraps:∀(v:Value) (xT:TypeId) (w:World),(Instr.typeAssert (.iface E v) xT 294 true).run prog w = .ok (.tuple #[.nilIface,.bool false]) w
 ne:E≠414
def uu(E:TypeId):Prop:=∀(v:Value) (a:TypeId) (w:World),(Instr.typeAssert (.iface E v) a 293 true).run prog w = .ok (.tuple #[.nilIface,.bool false]) w
def Assign (E T:TypeId) (b:Bool):Prop:=∀w:World,(ReflectliteType.relation "AssignableTo" ReflectliteType.assignableTo #[.agg #[.pointer (some ⟨7,E,none⟩)],.iface 289 (.agg #[.pointer (some ⟨7,T,none⟩)])]).run prog w = .ok (.bool b) w
theorem oQ(E T:TypeId)(v b f g h:Value)(w:World)(a:yX E)(d:uu E)(c:Assign E T false) :
  Calls prog 107 #[.iface E v,b,.agg #[f,g,h],.iface 289 (.agg #[.pointer (some ⟨7,T,none⟩)])] w λe m=>e = .returned (.bool false)/\Below w.heap.size w m:=by
 have j:=@xm prog 102 _ ReflectliteType.typeOf func102 (by kernel_rfl) (by kernel_rfl) (by kernel_rfl) (by kernel_rfl)
 have k:=@xm prog 299 _ (ReflectliteType.relation "AssignableTo" ReflectliteType.assignableTo) func299 (by kernel_rfl) (by kernel_rfl) (by kernel_rfl) (by kernel_rfl)
 have q:=a.typeOf;have n:=Tryz.erAssignableTo;have i:=c;unfold Assign at i;have o:=a.noAs;have l:=d;unfold uu at l;have p:=a.noUnwraps;clear a d c;go_enter func107,ntmps107
 go_wp2
 refine YG 1 ?_;rw[QK]
 go_wp2
 go_ret;exact⟨rfl,nB w _⟩
def xN(w:World):Prop:=w.cell? ⟨1,0,none⟩=some (.iface 289 (.agg #[.pointer (some ⟨7,86,none⟩)]))
theorem xN.below{w a:World}(h:xN w)(hb:Below w.heap.size w a):xN a:=zh hb h
structure kg (T pT:TypeId):Prop where
 unpack:∀(t:Addr) (w:World),(ReflectliteValue.unpack (.iface pT (.pointer (some t)))).run prog w = .ok (.agg #[.pointer (some ⟨7,pT,none⟩),.pointer (some ⟨w.heap.size,0,none⟩),.int .u64 150]) (w.alloc (.cells #[.pointer (some t)] pT))
 type:∀(a:Addr) (w:World),(ReflectliteValue.methodAny (ReflectliteValue.valueError "reflectlite.Value.Type" 0) (λt _ _ _=>ReflectliteType.toType t) #[.agg #[.pointer (some ⟨7,pT,none⟩),.pointer (some a),.int .u64 150]]).run prog w = .ok (.iface 289 (.agg #[.pointer (some ⟨7,pT,none⟩)])) w
 kindP:∀w:World,((ReflectliteType.abiMethod λt=>(λa:Nat=>Value.int IntKind.u8 (a:Int)) <$> Rtype.kind t) #[.pointer (some ⟨7,pT,none⟩)]).run prog w = .ok (.int .u8 22) w
 kind:∀w:World,((ReflectliteType.abiMethod λt=>(λa:Nat=>Value.int IntKind.u8 (a:Int)) <$> Rtype.kind t) #[.pointer (some ⟨7,T,none⟩)]).run prog w = .ok (.int .u8 25) w
 isNil:∀(a p:Addr) (W:World),W.cell? a=some (.pointer (some p))->(ReflectliteValue.method (ReflectliteValue.valueError "reflectlite.Value.IsNil" 0) ReflectliteValue.isNil #[.agg #[.pointer (some ⟨7,pT,none⟩),.pointer (some a),.int .u64 150]]).run prog W = .ok (.bool false) W
 elem:∀w:World,(ReflectliteType.method ReflectliteType.elem #[.agg #[.pointer (some ⟨7,pT,none⟩)]]).run prog w = .ok (.iface 289 (.agg #[.pointer (some ⟨7,T,none⟩)])) w
 impl:∀w:World,(ReflectliteType.relation "Implements" ReflectliteType.implements_ #[.agg #[.pointer (some ⟨7,T,none⟩)],.iface 289 (.agg #[.pointer (some ⟨7,86,none⟩)])]).run prog w = .ok (.bool true) w
 elemV:∀(a p:Addr) (W:World),W.cell? a=some (.pointer (some p))->(ReflectliteValue.method (ReflectliteValue.valueError "reflectlite.Value.Elem" 0) ReflectliteValue.elem #[.agg #[.pointer (some ⟨7,pT,none⟩),.pointer (some a),.int .u64 150]]).run prog W = .ok (.agg #[.pointer (some ⟨7,T,none⟩),.pointer (some p),.int .u64 409]) W
theorem Yj(T c E:TypeId)(v:Value)(t:Addr)(w:World)(g:xN w)(a:kg T c)(b:Bool)(Q:World->Prop)
  (m:∀O,Calls prog 107 #[.iface E v,.iface c (.pointer (some t)),.agg #[.pointer (some ⟨7,c,none⟩),.pointer (some ⟨w.heap.size,0,none⟩),.int .u64 150],.iface 289 (.agg #[.pointer (some ⟨7,T,none⟩)])]
    ((w.alloc (.cells #[.pointer (some t)] c)).alloc O) λe f=>e = .returned (.bool b)/\Q f) :
  Calls prog 59 #[.iface E v,.iface c (.pointer (some t))] w λe f=>e = .returned (.bool b)/\Q f:=by
 have r:=@xm prog 104 _ (λargs=>ReflectliteValue.unpack (args.getD 0 (.tuple #[]))) func104 (by kernel_rfl) (by kernel_rfl) (by kernel_rfl) (by kernel_rfl)
 have s:=@xm prog 105 _ (ReflectliteValue.methodAny (ReflectliteValue.valueError "reflectlite.Value.Type" 0) (λt _ _ _=>ReflectliteType.toType t)) func105 (by kernel_rfl) (by kernel_rfl) (by kernel_rfl) (by kernel_rfl)
 have u:=@xm prog 106 _ (ReflectliteValue.method (ReflectliteValue.valueError "reflectlite.Value.IsNil" 0) ReflectliteValue.isNil) func106 (by kernel_rfl) (by kernel_rfl) (by kernel_rfl) (by kernel_rfl)
 have j:=@xm prog 281 _ (ReflectliteType.abiMethod λt=>do pure (.int .u8 (<- Rtype.kind t))) func281 (by kernel_rfl) (by kernel_rfl) (by kernel_rfl) (by kernel_rfl);have k:=@xm prog 301 _ (ReflectliteType.method ReflectliteType.elem) func301 (by kernel_rfl) (by kernel_rfl) (by kernel_rfl) (by kernel_rfl)
 have l:=@xm prog 302 _ (ReflectliteType.relation "Implements" ReflectliteType.implements_) func302 (by kernel_rfl) (by kernel_rfl) (by kernel_rfl) (by kernel_rfl)
 have C:=Tryz.erKind;have A:=Tryz.erElem;have B:=Tryz.erImplements;have p:=a.unpack;have q:=a.type;have y:=a.kindP;have z:=a.kind;have o:=a.elem;have x:=a.impl;have D:=λO=>a.isNil ⟨w.heap.size,0,none⟩ t ((w.alloc (.cells #[.pointer (some t)] c)).alloc O) (by simp);have d:=λh i:Obj=>g.below ((nB w h).alloc (by simp) i);unfold xN at d;clear g a;go_enter func59,ntmps59
 go_wp2_with (go_at_call 107;refine (m _).mono ?_;rintro e F ⟨rfl,n⟩)
 go_ret;exact⟨rfl,n⟩
structure Xu (E:TypeId) (ok:Value->Prop):Prop where
 held:∀(x:Value) (w:World),ok x->(ReflectliteValue.unpack (.iface E (.agg #[x]))).run prog w = .ok (.agg #[.pointer (some ⟨7,E,none⟩),.pointer (some ⟨w.heap.size,0,none⟩),.int .u64 153]) (w.alloc (.cells #[x] E))
 set:∀(ta b:Addr) (x old:Value) (W:World),ok x->W.cell? b=some x->W.cell? ta=some old->W.frozen? ta=false ->
  (ReflectliteValue.set #[.agg #[.pointer (some ⟨7,E,none⟩),.pointer (some ta),.int .u64 409],.agg #[.pointer (some ⟨7,E,none⟩),.pointer (some b),.int .u64 153]]).run prog W = .ok (.tuple #[]) (W.setCell ta x)
theorem zM{w:World}{a:Addr}{v:Value}(h:w.cell? a=some v)(O:Obj):(w.alloc O).cell? a=some v:=by
 have b:a.block<w.heap.size:=by
  rcases Nat.lt_or_ge a.block w.heap.size with h'|h'
  ·exact h'
  ·simp[World.cell?,Array.getElem?_eq_none h'] at h
 rw[World.cell?_alloc_lt _ _ a b];exact h
theorem xZ{w:World}{a:Addr}{v:Value}(h:w.cell? a=some v)(b:w.frozen? a=false)(O:Obj):(w.alloc O).frozen? a=false:=by
 have c:a.block<w.heap.size:=by
  rcases Nat.lt_or_ge a.block w.heap.size with h'|h'
  ·exact h'
  ·simp[World.cell?,Array.getElem?_eq_none h'] at h
 rw[World.frozen?_alloc_old _ _ a (Nat.ne_of_lt c)];exact b
theorem oP(E m:TypeId)(ok:Value->Prop)(x g old:Value)(a t:Addr)(w:World)(i:yX E)(h:Assign E E true)(j:kg E m)(c:Xu E ok)(l:ok x)(k:w.cell? a=some (.pointer (some t)))(b:w.cell? t=some old)(u:w.frozen? t=false) :
  Calls prog 107 #[.iface E (.agg #[x]),g,.agg #[.pointer (some ⟨7,m,none⟩),.pointer (some a),.int .u64 150],.iface 289 (.agg #[.pointer (some ⟨7,E,none⟩)])] w λe n=>
   e = .returned (.bool true)/\n.cell? t=some x/\∀base,base<=t.block->base<=w.heap.size->Below base w n:=by
 have p:=@xm prog 102 _ ReflectliteType.typeOf func102 (by kernel_rfl) (by kernel_rfl) (by kernel_rfl) (by kernel_rfl)
 have s:=@xm prog 299 _ (ReflectliteType.relation "AssignableTo" ReflectliteType.assignableTo) func299 (by kernel_rfl) (by kernel_rfl) (by kernel_rfl) (by kernel_rfl)
 have y:=@xm prog 104 _ (λargs=>ReflectliteValue.unpack (args.getD 0 (.tuple #[]))) func104 (by kernel_rfl) (by kernel_rfl) (by kernel_rfl) (by kernel_rfl)
 have q:=@xm prog 153 _ (ReflectliteValue.method (ReflectliteValue.valueError "reflectlite.Value.Elem" 0) ReflectliteValue.elem) func153 (by kernel_rfl) (by kernel_rfl) (by kernel_rfl) (by kernel_rfl)
 have r:=@xm prog 154 _ ReflectliteValue.set func154 (by kernel_rfl) (by kernel_rfl) (by kernel_rfl) (by kernel_rfl);have B:=i.typeOf;have z:=Tryz.erAssignableTo;have o:=h;unfold Assign at o;have C:=λw=>c.held x w l;have v:=λO=>j.elemV a t (w.alloc O) (zM k O);have A:=λO=>c.set t ⟨w.heap.size+1,0,none⟩ x old ((w.alloc O).alloc (.cells #[x] E)) l (by rw[JE _ _ _ _ (by simp)];rfl) (zM (zM b O) _) (xZ (zM b O) (xZ b u O) _);have fin:=λO=>Zx ((w.alloc O).alloc (.cells #[x] E)) t x (zM (zM b O) (.cells #[x] E));clear i h j c k;go_enter func107,ntmps107
 go_wp2
 refine YG 1 ?_;rw[QK]
 go_wp2
 go_ret;refine⟨rfl,fin _,λbase d f=>?_⟩;exact (((zi base w).alloc f _).alloc (by simp;omega) _).setCell d _
theorem Tryz.stUnwraps(v:Value)(a:TypeId)(w:World):(Instr.typeAssert (.iface 143 v) a 293 true).run prog w = .ok (.tuple #[.iface 143 v,.bool true]) w:=by kernel_rfl
theorem Tryz.stUnwrap (v:Value) (w:World):(Go.method 554 143 v "Unwrap").run prog w = .ok (288,v) w:=by kernel_rfl
theorem il(n:Int)(E:TypeId)(v:Value)(w:World) :
  Calls prog 288 #[.agg #[.int .i64 n,.iface E v]] w λe a=>e = .returned (.iface E v)/\Below w.heap.size w a:=by
 go_enter func288,ntmps288
 go_wp2
 go_ret;exact⟨rfl,by first|exact zi _ _|exact nB w _⟩
theorem Ib(E T:TypeId)(n:Int)(v d i j k:Value)(w:World)(b:yX 143)(a:yX E)(h:uu E)(f:Assign 143 T false)(g:Assign E T false) :
  Calls prog 107 #[.iface 143 (.agg #[.int .i64 n,.iface E v]),d,.agg #[i,j,k],.iface 289 (.agg #[.pointer (some ⟨7,T,none⟩)])] w λe r=>e = .returned (.bool false)/\Below w.heap.size w r:=by
 have o:=@xm prog 102 _ ReflectliteType.typeOf func102 (by kernel_rfl) (by kernel_rfl) (by kernel_rfl) (by kernel_rfl)
 have p:=@xm prog 299 _ (ReflectliteType.relation "AssignableTo" ReflectliteType.assignableTo) func299 (by kernel_rfl) (by kernel_rfl) (by kernel_rfl) (by kernel_rfl)
 have y:=a.typeOf;have z:=b.typeOf;have s:=Tryz.erAssignableTo;have m:=g;have l:=f;unfold Assign at m l;have t:=a.noAs;have q:=h;unfold uu at q;have u:=a.noUnwraps;have x:=b.noAs;have u1:=Tryz.stUnwraps;have u2:=Tryz.stUnwrap;clear a h f g b;go_enter func107,ntmps107
 go_wp2
 refine YG 2 ?_;rw[QK]
 go_wp2_with (go_at_call 288;refine (il n E v _).mono ?_;rintro e A ⟨rfl,c⟩)
 rw[QK]
 go_wp2
 go_ret;exact⟨rfl,(nB w _).trans (c.mono (by simp))⟩
theorem Ia(E i:TypeId)(ok:Value->Prop)(n:Int)(x r old:Value)(a t:Addr)(w:World)(k:yX 143)(y:yX E)(u:Assign 143 E false)(v:Assign E E true)(z:kg E i)(j:Xu E ok)(A:ok x)
  (R:w.cell? a=some (.pointer (some t)))(q:w.cell? t=some old)(S:w.frozen? t=false) :
  Calls prog 107 #[.iface 143 (.agg #[.int .i64 n,.iface E (.agg #[x])]),r,.agg #[.pointer (some ⟨7,i,none⟩),.pointer (some a),.int .u64 150],.iface 289 (.agg #[.pointer (some ⟨7,E,none⟩)])] w λe C=>
   e = .returned (.bool true)/\C.cell? t=some x/\∀base,base<=t.block->base<=w.heap.size->Below base w C:=by
 have L:=@xm prog 102 _ ReflectliteType.typeOf func102 (by kernel_rfl) (by kernel_rfl) (by kernel_rfl) (by kernel_rfl)
 have Q:=@xm prog 299 _ (ReflectliteType.relation "AssignableTo" ReflectliteType.assignableTo) func299 (by kernel_rfl) (by kernel_rfl) (by kernel_rfl) (by kernel_rfl)
 have U:=@xm prog 104 _ (λargs=>ReflectliteValue.unpack (args.getD 0 (.tuple #[]))) func104 (by kernel_rfl) (by kernel_rfl) (by kernel_rfl) (by kernel_rfl)
 have M:=@xm prog 153 _ (ReflectliteValue.method (ReflectliteValue.valueError "reflectlite.Value.Elem" 0) ReflectliteValue.elem) func153 (by kernel_rfl) (by kernel_rfl) (by kernel_rfl) (by kernel_rfl)
 have N:=@xm prog 154 _ ReflectliteValue.set func154 (by kernel_rfl) (by kernel_rfl) (by kernel_rfl) (by kernel_rfl);have Y:=y.typeOf;have Z:=k.typeOf;have V:=Tryz.erAssignableTo;have F:=v;have D:=u;unfold Assign at F D;have X:=k.noAs;have u1:=Tryz.stUnwraps;have u2:=Tryz.stUnwrap;have vH:=λw=>j.held x w A;have s:=λW h=>z.elemV a t W h;have B:=λW b K O P=>j.set t b x old W A K O P;clear y u v z j k;go_enter func107,ntmps107
 go_wp2
 refine YG 2 ?_;rw[QK]
 go_wp2_with (go_at_call 288;refine (il n E (.agg #[x]) _).mono ?_;rintro e f ⟨rfl,c⟩)
 have l:=zh c (zM R _);have d:=zh c (zM q _)
 have o:=(c.frozen (p:=t) (by
  have h:=zM q (.cells #[.pointer (some ⟨7,i,none⟩),.pointer (some a),.int .u64 150] 209)
  rcases Nat.lt_or_ge t.block (w.alloc (.cells #[.pointer (some ⟨7,i,none⟩),.pointer (some a),.int .u64 150] 209)).heap.size with h'|h'
  ·exact h'
  ·simp[World.cell?,Array.getElem?_eq_none h'] at h)).trans (xZ q S _)
 have J:=s f l;have G:f.cell? ⟨w.heap.size,0,none⟩=some (.pointer (some ⟨7,i,none⟩)):=zh c (by simp);have H:f.cell? ⟨w.heap.size,1,none⟩=some (.pointer (some a)):=zh c (by simp);have I:f.cell? ⟨w.heap.size,2,none⟩=some (.int .u64 150):=zh c (by simp);have T:=B (f.alloc (.cells #[x] E)) ⟨f.heap.size,0,none⟩ (by rw[JE _ _ _ _ (by simp)];rfl) (zM d _) (xZ d o _);have fin:=Zx (f.alloc (.cells #[x] E)) t x (zM d _);clear s B;rw[QK]
 go_wp2
 go_ret;refine⟨rfl,fin,λbase g m=>?_⟩;exact ((((zi base w).alloc m _).trans (c.mono (by simp;omega))).alloc (by have:=c.size;simp at this;omega) _).setCell g _
theorem Tryz.stHeld(n:Int)(u:Value)(w:World):(ReflectliteValue.unpack (.iface 143 (.agg #[.int .i64 n,u]))).run prog w = .ok (.agg #[.pointer (some ⟨7,143,none⟩),.pointer (some ⟨w.heap.size,0,none⟩),.int .u64 153]) (w.alloc (.cells #[.int .i64 n,u] 143)):=by kernel_rfl
theorem Tryz.stPartsA(a:Addr)(w:World):(ReflectliteValue.parts (.agg #[.pointer (some ⟨7,143,none⟩),.pointer (some a),.int .u64 409])).run prog w = .ok (some (143,a,409)) w:=by kernel_rfl
theorem Tryz.stPartsB(a:Addr)(w:World):(ReflectliteValue.parts (.agg #[.pointer (some ⟨7,143,none⟩),.pointer (some a),.int .u64 153])).run prog w = .ok (some (143,a,153)) w:=by kernel_rfl
theorem Tryz.stDirect(w:World):(Rtype.directlyAssignable 143 143).run prog w = .ok true w:=by kernel_rfl
theorem JQ(v x:Value)(a:Value->Value->Sem Value)(b:Array Value->Sem Value):ReflectliteValue.set.match_3 (λ_=>Sem Value) #[v,x] a b=a v x:=rfl
theorem Z0(v:Value)(a:Value->Sem Value)(b:Array Value->Sem Value):ReflectliteValue.method.match_2 (λ_=>Sem Value) #[v] a b=a v:=rfl
theorem Tryz.stSet(a b:Nat)(n:Int)(E:TypeId)(v h c:Value)(W:World)(f:W.cell? ⟨b,0,none⟩=some (.int .i64 n))(g:W.cell? ⟨b,1,none⟩=some (.iface E v))(i:W.cell? ⟨a,0,none⟩=some h)(j:W.cell? ⟨a,1,none⟩=some c)(f1:W.frozen? ⟨a,0,none⟩=false)(f2:W.frozen? ⟨a,1,none⟩=false) :
  (ReflectliteValue.set #[.agg #[.pointer (some ⟨7,143,none⟩),.pointer (some ⟨a,0,none⟩),.int .u64 409],.agg #[.pointer (some ⟨7,143,none⟩),.pointer (some ⟨b,0,none⟩),.int .u64 153]]).run prog W
    = .ok (.tuple #[]) ((W.setCell ⟨a,0,none⟩ (.int .i64 n)).setCell ⟨a,1,none⟩ (.iface E v)):=by
 delta ReflectliteValue.set
 rw[JQ];simp only[vS,Tryz.stPartsA,Tryz.stPartsB,Result.andThen];have d:(W.setCell ⟨a,0,none⟩ (.int .i64 n)).cell? ⟨a,1,none⟩=some c:=(xW _ _ _ _ (by simp)).trans j;have e:(W.setCell ⟨a,0,none⟩ (.int .i64 n)).frozen? ⟨a,1,none⟩=false:=by rw[World.frozen?_setCell];exact f2
 simp[ReflectliteValue.flagAddr,loadVar,isAgg,Tryz.sizeOf143,loadCells,loadCellsFrom,f,g,Result.andThen,Tryz.stDirect,storeVar,Value.cells,storeCells,Addr.add];rw[Zk prog W ⟨a,0,none⟩ _ _ (by rfl)];simp[i,f1];rw[Zk prog _ ⟨a,1,none⟩ _ _ (by rfl)];simp[d,e]
theorem Hz(p E:TypeId)(n:Int)(v h m o:Value)(a:Addr)(b:Nat)(w:World)(j:yX 143)(i:Assign 143 143 true)(k:kg 143 p)
  (l:w.cell? a=some (.pointer (some ⟨b,0,none⟩)))(d:w.cell? ⟨b,0,none⟩=some m)(g:w.cell? ⟨b,1,none⟩=some o)(f1:w.frozen? ⟨b,0,none⟩=false)(f2:w.frozen? ⟨b,1,none⟩=false) :
  Calls prog 107 #[.iface 143 (.agg #[.int .i64 n,.iface E v]),h,.agg #[.pointer (some ⟨7,p,none⟩),.pointer (some a),.int .u64 150],.iface 289 (.agg #[.pointer (some ⟨7,143,none⟩)])] w λe q=>
   e = .returned (.bool true)/\q.cell? ⟨b,0,none⟩=some (.int .i64 n)/\∀base,base<=b->base<=w.heap.size->Below base w q:=by
 have s:=@xm prog 102 _ ReflectliteType.typeOf func102 (by kernel_rfl) (by kernel_rfl) (by kernel_rfl) (by kernel_rfl)
 have x:=@xm prog 299 _ (ReflectliteType.relation "AssignableTo" ReflectliteType.assignableTo) func299 (by kernel_rfl) (by kernel_rfl) (by kernel_rfl) (by kernel_rfl)
 have z:=@xm prog 104 _ (λargs=>ReflectliteValue.unpack (args.getD 0 (.tuple #[]))) func104 (by kernel_rfl) (by kernel_rfl) (by kernel_rfl) (by kernel_rfl)
 have t:=@xm prog 153 _ (ReflectliteValue.method (ReflectliteValue.valueError "reflectlite.Value.Elem" 0) ReflectliteValue.elem) func153 (by kernel_rfl) (by kernel_rfl) (by kernel_rfl) (by kernel_rfl)
 have u:=@xm prog 154 _ ReflectliteValue.set func154 (by kernel_rfl) (by kernel_rfl) (by kernel_rfl) (by kernel_rfl);have C:=j.typeOf;have A:=Tryz.erAssignableTo;have r:=i;unfold Assign at r;have D:=λw=>Tryz.stHeld n (.iface E v) w;have y:=λO=>k.elemV a ⟨b,0,none⟩ (w.alloc O) (zM l O);have B:=λO=>Tryz.stSet b (w.heap.size+1) n E v m o ((w.alloc O).alloc (.cells #[.int .i64 n,.iface E v] 143)) (by rw[JE _ _ _ _ (by simp)];rfl) (by rw[JE _ _ _ _ (by simp)];rfl) (zM (zM d O) _) (zM (zM g O) _) (xZ (zM d O) (xZ d f1 O) _) (xZ (zM g O) (xZ g f2 O) _);have fin:=λO=>(xW (((w.alloc O).alloc (.cells #[.int .i64 n,.iface E v] 143)).setCell ⟨b,0,none⟩ (.int .i64 n)) ⟨b,1,none⟩ ⟨b,0,none⟩ (.iface E v) (by simp)).trans (Zx ((w.alloc O).alloc (.cells #[.int .i64 n,.iface E v] 143)) ⟨b,0,none⟩ (.int .i64 n) (zM (zM d O) (.cells #[.int .i64 n,.iface E v] 143)));clear i k l j;go_enter func107,ntmps107
 go_wp2
 refine YG 1 ?_;rw[QK]
 go_wp2
 go_ret;refine⟨rfl,fin _,λbase c f=>?_⟩;exact ((((zi base w).alloc f _).alloc (by simp;omega) _).setCell c _).setCell c _
theorem Tryz.erTypeLong(v:Value)(w:World):(ReflectliteType.typeOf #[.iface 414 v]).run prog w = .ok (.iface 289 (.agg #[.pointer (some ⟨7,414,none⟩)])) w:=by kernel_rfl
theorem Tryz.erComparable (h:Value) (w:World):(Go.method 554 289 (.agg #[h]) "Comparable").run prog w = .ok (300,.agg #[h]) w:=by kernel_rfl
theorem Tryz.erComparableLong (w:World):(ReflectliteType.method (λt=>do Rtype.noPackHeld "Comparable" t;(λa=>Value.bool a.comparable) <$> typeInfo t) #[.agg #[.pointer (some ⟨7,414,none⟩)]]).run prog w = .ok (.bool true) w:=by kernel_rfl
theorem Hw(E:TypeId)(v:Value)(c:Addr)(w:World)(a:yX E)(b:uu E) :
  Calls prog 58 #[.iface E v,.iface 414 (.pointer (some c))] w λe h=>e = .returned (.bool false)/\h=w:=by
 have k:=@xm prog 102 _ ReflectliteType.typeOf func102 (by kernel_rfl) (by kernel_rfl) (by kernel_rfl) (by kernel_rfl);have o:=Tryz.erTypeLong;have l:=Tryz.erComparable
 have j:=@xm prog 300 _ (ReflectliteType.method (λt=>do Rtype.noPackHeld "Comparable" t;pure (.bool (<- typeInfo t).comparable))) func300 (by kernel_rfl) (by kernel_rfl) (by kernel_rfl) (by kernel_rfl)
 have i:=Tryz.erComparableLong;have m:=a.noIs;have d:=b;unfold uu at d;have n:=a.noUnwraps;have ne:=λf g w=>Bg (P:=prog) E 414 f g underlying86 a.ne w;clear a b;go_enter func58,ntmps58
 go_wp2
 refine YG 1 ?_;rw[QK]
 go_wp2
 go_ret;exact⟨rfl,rfl⟩
theorem oO(E:TypeId)(n:Int)(v:Value)(h:Addr)(w:World)(b:yX 143)(a:yX E)(g:uu E) :
  Calls prog 58 #[.iface 143 (.agg #[.int .i64 n,.iface E v]),.iface 414 (.pointer (some h))] w λe j=>e = .returned (.bool false)/\Below w.heap.size w j:=by
 have m:=@xm prog 102 _ ReflectliteType.typeOf func102 (by kernel_rfl) (by kernel_rfl) (by kernel_rfl) (by kernel_rfl);have u:=Tryz.erTypeLong;have o:=Tryz.erComparable
 have l:=@xm prog 300 _ (ReflectliteType.method (λt=>do Rtype.noPackHeld "Comparable" t;pure (.bool (<- typeInfo t).comparable))) func300 (by kernel_rfl) (by kernel_rfl) (by kernel_rfl) (by kernel_rfl)
 have k:=Tryz.erComparableLong;have p:=a.noIs;have i:=g;unfold uu at i;have q:=a.noUnwraps;have ne:=λd f w=>Bg (P:=prog) E 414 d f underlying86 a.ne w;have r:=λd f w=>Bg (P:=prog) 143 414 d f underlying86 b.ne w;have s:=b.noIs;have u1:=Tryz.stUnwraps;have u2:=Tryz.stUnwrap;clear a g b;go_enter func58,ntmps58
 go_wp2
 refine YG 2 ?_;rw[QK]
 go_wp2_with (go_at_call 288;refine (il n E v _).mono ?_;rintro e x ⟨rfl,c⟩)
 rw[QK]
 go_wp2
 go_ret;exact⟨rfl,c⟩
end Go.Proofs.YtagnlbgbnfnapaaGreatDoor
