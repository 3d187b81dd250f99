/- P -/
import Derived.Test.YtdakgnaojakldaaGreatDoorQ01
import Derived.Shelf.Abstract
open Go.Proofs.Tryz hiding parts
set_option maxRecDepth 100000
set_option maxHeartbeats 400000
namespace Go.Proofs.YtdakgnaojakldaaGreatDoor
open Go.RowKit
def jD(g:Nat)(b:Array Value)(a:Nat->Value)(n:Nat)(p:Nat->Bool)(w:World):Prop:=
 ∀W j,j<n->Below w.heap.size w W->Calls prog g (#[a j]++b) W λe c=>e = .returned (.bool (p j))/\Below W.heap.size W c
def zw(p:Nat->Bool)(n:Nat):Option Nat:=(List.range n).find? p
def vW(p:Nat->Bool)(n:Nat):Bool:=(List.range n).all p
theorem ZY(p:Nat->Bool)(n k:Nat)(b:k<n)(hb:∀j,j<k->p j=false)(h:p k=true):zw p n=some k:=by
 unfold zw;rw[J9];exact⟨h,by simpa using b,λj a=>by simp[hb j a]⟩
theorem ZZ(p:Nat->Bool)(n:Nat)(hb:∀j,j<n->p j=false):zw p n=none:=by
 unfold zw;rw[XD];intro j a;simp[hb j (List.mem_range.1 a)]
theorem Ue(p:Nat->Bool)(n:Nat):vW p n=(zw (λj=>!p j) n).isNone:=by
 unfold vW zw;rw[vN]
 simp
theorem UJ(n b o cap g:Nat)(r:Array Value)(v:Nat->Int)(p:Nat->Bool)(w:World)(z:n<=1000000000000)(x:∀args w,(callFunc g args).run prog w = .ok (.enter g args) w)
  (t:∀j,j<n->w.cell? ⟨b,o+j,none⟩=some (.int .u8 (v j)))(u:jD g r (λj => .int .u8 (v j)) n p w) :
  Calls prog 223 #[.slice (some ⟨b,o,none⟩) n cap,.func (.func g) #[] r] w λe l=>
   e = .returned (.tuple #[.int .i64 (((zw p n).getD 0:Nat):Int),.bool (zw p n).isSome])/\Below w.heap.size w l:=by
 generalize hF:zw p n=F;have m:=hid hF;clear hF;go_enter func223,ntmps223
 go_wp2
 go_loopw [10] (λi wr=>∃k:Nat,k<=n/\i = .int .i64 k/\(∀j,j<k->p j=false)/\Below w.heap.size w wr) (λi _=>n-(intOf i).toNat)
 case atStart=>exact⟨0,zO _,rfl,λj h=>by omega,zh _ _⟩
 case round=>
  obtain⟨k,y,rfl,hb,c⟩:=hrel;have f:=hid hb;clear hb
  by_cases hlt:k<n
  ·have q:=zg c (t k hlt);have a:=λW hb=>u W k hlt hb;simp only at a
   cases hpp:p k with
   | false=>
    rw[hpp] at a;have s:=hid hpp;clear hpp
    go_wp2_with (go_at_fn g;refine (a _ c).mono ?_;rintro e l ⟨rfl,d⟩)
    refine⟨⟨k+1,by omega,by go_num,λj h=>?_,c.trans (d.mono c.size)⟩,by simp[intOf];omega⟩
    by_cases hj:j=k
    ·subst hj;exact s.out
    ·exact f.out j (by omega)
   | true=>
    rw[hpp] at a;have e:=ZY p n k hlt f.out hpp;rw[m.out] at e;subst e;clear hpp
    go_wp2_with (go_at_fn g;refine (a _ c).mono ?_;rintro e l ⟨rfl,d⟩)
    go_ret2;exact⟨rfl,c.trans (d.mono c.size)⟩
  ·have e:=ZZ p n (λj h=>f.out j (by omega));rw[m.out] at e;subst e
   go_wp2
   go_ret2;exact⟨rfl,c⟩
theorem BP(n b o cap g:Nat)(d:Array Value)(v:Nat->Int)(p:Nat->Bool)(w:World)(k:n<=1000000000000)(h:∀args w,(callFunc g args).run prog w = .ok (.enter g args) w)
  (i:∀j,j<n->w.cell? ⟨b,o+j,none⟩=some (.int .u8 (v j)))(l:jD g d (λj => .int .u8 (v j)) n p w) :
  Calls prog 184 #[.slice (some ⟨b,o,none⟩) n cap,.func (.func g) #[] d] w λe f=>
   e = .returned (.bool (zw p n).isSome)/\Below w.heap.size w f:=by
 have c:=UJ n b o cap g d v p w k h i l;generalize zw p n=F at c;go_enter func184,ntmps184
 go_wp2_with (go_at_call 223;refine c.mono ?_;rintro e f ⟨rfl,a⟩)
 go_ret;exact⟨rfl,a⟩
theorem Bz(g:Nat)(c:Array Value)(x:Int)(B:Nat)(y:Bool)(w:World)(f:∀args w,(callFunc g args).run prog w = .ok (.enter g args) w)
  (h:w.cell? ⟨B,0,none⟩=some (.func (.func g) #[] c))(d:Calls prog g (#[.int .u8 x]++c) w λe a=>e = .returned (.bool y)/\Below w.heap.size w a) :
  Calls prog 185 #[.int .u8 x,.pointer (some ⟨B,0,none⟩)] w λe a=>e = .returned (.bool (!y))/\Below w.heap.size w a:=by
 go_enter func185,ntmps185
 go_wp2_with (go_at_fn g;refine d.mono ?_;rintro e a ⟨rfl,b⟩)
 go_ret;exact⟨rfl,b⟩
theorem iq(n b o cap g:Nat)(a:Array Value)(v:Nat->Int)(p:Nat->Bool)(w:World)(m:n<=1000000000000)(k:∀args w,(callFunc g args).run prog w = .ok (.enter g args) w)
  (l:∀j,j<n->w.cell? ⟨b,o+j,none⟩=some (.int .u8 (v j)))(q:jD g a (λj => .int .u8 (v j)) n p w) :
  Calls prog 132 #[.slice (some ⟨b,o,none⟩) n cap,.func (.func g) #[] a] w λe h=>
   e = .returned (.bool (vW p n))/\Below w.heap.size w h:=by
 have i:∀args w,(callFunc 185 args).run prog w = .ok (.enter 185 args) w:=enters_of func185 (by kernel_rfl) rfl
 have c:=BP n b o cap 185 #[.pointer (some ⟨w.heap.size,0,none⟩)] v (λj=>!p j) (w.alloc (.cells #[.func (.func g) #[] a] 257)) m i
  (λj f=>zg (nB w _) (l j f))
  (λW j f hb=>by
    refine Bz g a (v j) w.heap.size (p j) W k ?_ (q W j f ((nB w _).trans (hb.mono (by simp))));exact zg hb (by simp))
 rw[Ue];generalize zw (λj=>!p j) n=F at c;go_enter func132,ntmps132
 go_wp2_with (go_at_call 184;refine c.mono ?_;rintro e h ⟨rfl,d⟩)
 go_ret;exact⟨rfl,(nB w _).trans (d.mono (by simp))⟩
def rowAt(w:World)(ao:Option Addr)(n:Nat)(v:Nat->Int):Prop:=
 n=0\/∃b o,ao=some ⟨b,o,none⟩/\∀j,j<n->w.cell? ⟨b,o+j,none⟩=some (.int .i32 (v j))
theorem eU{w a:World}{ao:Option Addr}{n:Nat}{v:Nat->Int}(h:rowAt w ao n v)(hb:Below w.heap.size w a):rowAt a ao n v:=by
 rcases h with h|⟨b,o,h1,h2⟩
 ·exact .inl h
 ·exact .inr ⟨b,o,h1,λj c=>zg hb (h2 j c)⟩
theorem GJ(n:Nat)(ao:Option Addr)(cap g:Nat)(r:Array Value)(v:Nat->Int)(p:Nat->Bool)(w:World)(z:n<=1000000000000)(x:∀args w,(callFunc g args).run prog w = .ok (.enter g args) w)
  (t:rowAt w ao n v)(u:jD g r (λj => .int .i32 (v j)) n p w) :
  Calls prog 262 #[.slice ao n cap,.func (.func g) #[] r] w λe l=>
   e = .returned (.tuple #[.int .i64 (((zw p n).getD 0:Nat):Int),.bool (zw p n).isSome])/\Below w.heap.size w l:=by
 generalize hF:zw p n=F;have m:=hid hF;clear hF;go_enter func262,ntmps262
 go_wp2
 go_loopw [10] (λi wr=>∃k:Nat,k<=n/\i = .int .i64 k/\(∀j,j<k->p j=false)/\Below w.heap.size w wr) (λi _=>n-(intOf i).toNat)
 case atStart=>exact⟨0,zO _,rfl,λj h=>by omega,zh _ _⟩
 case round=>
  obtain⟨k,y,rfl,hb,c⟩:=hrel;have f:=hid hb;clear hb
  by_cases hlt:k<n
  ·rcases t with h0|⟨b,o,rfl,hcc⟩
   ·omega
   have q:=zg c (hcc k hlt);have a:=λW hb=>u W k hlt hb;simp only at a
   cases hpp:p k with
   | false=>
    rw[hpp] at a;have s:=hid hpp;clear hpp
    go_wp2_with (go_at_fn g;refine (a _ c).mono ?_;rintro e l ⟨rfl,d⟩)
    refine⟨⟨k+1,by omega,by go_num,λj h=>?_,c.trans (d.mono c.size)⟩,by simp[intOf];omega⟩
    by_cases hj:j=k
    ·subst hj;exact s.out
    ·exact f.out j (by omega)
   | true=>
    rw[hpp] at a;have e:=ZY p n k hlt f.out hpp;rw[m.out] at e;subst e;clear hpp
    go_wp2_with (go_at_fn g;refine (a _ c).mono ?_;rintro e l ⟨rfl,d⟩)
    go_ret2;exact⟨rfl,c.trans (d.mono c.size)⟩
  ·have e:=ZZ p n (λj h=>f.out j (by omega));rw[m.out] at e;subst e
   go_wp2
   go_ret2;exact⟨rfl,c⟩
theorem BU(n:Nat)(ao:Option Addr)(cap g:Nat)(b:Array Value)(v:Nat->Int)(p:Nat->Bool)(w:World)(i:n<=1000000000000)(f:∀args w,(callFunc g args).run prog w = .ok (.enter g args) w)
  (h:rowAt w ao n v)(k:jD g b (λj => .int .i32 (v j)) n p w) :
  Calls prog 254 #[.slice ao n cap,.func (.func g) #[] b] w λe d=>
   e = .returned (.bool (zw p n).isSome)/\Below w.heap.size w d:=by
 have c:=GJ n ao cap g b v p w i f h k;generalize zw p n=F at c;go_enter func254,ntmps254
 go_wp2_with (go_at_call 262;refine c.mono ?_;rintro e d ⟨rfl,a⟩)
 go_ret;exact⟨rfl,a⟩
theorem BL(g:Nat)(c:Array Value)(x:Int)(B:Nat)(y:Bool)(w:World)(f:∀args w,(callFunc g args).run prog w = .ok (.enter g args) w)
  (h:w.cell? ⟨B,0,none⟩=some (.func (.func g) #[] c))(d:Calls prog g (#[.int .i32 x]++c) w λe a=>e = .returned (.bool y)/\Below w.heap.size w a) :
  Calls prog 255 #[.int .i32 x,.pointer (some ⟨B,0,none⟩)] w λe a=>e = .returned (.bool (!y))/\Below w.heap.size w a:=by
 go_enter func255,ntmps255
 go_wp2_with (go_at_fn g;refine d.mono ?_;rintro e a ⟨rfl,b⟩)
 go_ret;exact⟨rfl,b⟩
theorem BK(n:Nat)(ao:Option Addr)(cap g:Nat)(a:Array Value)(v:Nat->Int)(p:Nat->Bool)(w:World)(l:n<=1000000000000)(h:∀args w,(callFunc g args).run prog w = .ok (.enter g args) w)
  (i:rowAt w ao n v)(m:jD g a (λj => .int .i32 (v j)) n p w) :
  Calls prog 240 #[.slice ao n cap,.func (.func g) #[] a] w λe d=>
   e = .returned (.bool (vW p n))/\Below w.heap.size w d:=by
 have f:∀args w,(callFunc 255 args).run prog w = .ok (.enter 255 args) w:=enters_of func255 (by kernel_rfl) rfl
 have c:=BU n ao cap 255 #[.pointer (some ⟨w.heap.size,0,none⟩)] v (λj=>!p j) (w.alloc (.cells #[.func (.func g) #[] a] 390)) l f
  (eU i (nB w _))
  (λW j k hb=>by
    refine BL g a (v j) w.heap.size (p j) W h ?_ (m W j k ((nB w _).trans (hb.mono (by simp))));exact zg hb (by simp))
 rw[Ue];generalize zw (λj=>!p j) n=F at c;go_enter func240,ntmps240
 go_wp2_with (go_at_call 254;refine c.mono ?_;rintro e d ⟨rfl,b⟩)
 go_ret;exact⟨rfl,(nB w _).trans (b.mono (by simp))⟩
theorem fV(w:World):(Instr.typeAssert .nilIface 114 270 true).run prog w = .ok (.tuple #[.string ⟨#[]⟩,.bool false]) w:=by kernel_rfl
theorem VS(v:Value)(w:World):(Instr.typeAssert (.iface 270 v) 114 270 true).run prog w = .ok (.tuple #[v,.bool true]) w:=by kernel_rfl
theorem gm(v:Value)(w:World):(Instr.typeAssert (.iface 271 v) 114 270 true).run prog w = .ok (.tuple #[.string ⟨#[]⟩,.bool false]) w:=by kernel_rfl
theorem fU(v:Value)(w:World):(Instr.typeAssert (.iface 121 v) 114 270 true).run prog w = .ok (.tuple #[.string ⟨#[]⟩,.bool false]) w:=by kernel_rfl
theorem fZ(v:Value)(w:World):(Instr.typeAssert (.iface 118 v) 114 270 true).run prog w = .ok (.tuple #[.string ⟨#[]⟩,.bool false]) w:=by kernel_rfl
theorem WK(v:Value)(w:World):(Instr.typeAssert (.iface 270 v) 114 271 true).run prog w = .ok (.tuple #[.bool false,.bool false]) w:=by kernel_rfl
theorem WM(v:Value)(w:World):(Instr.typeAssert (.iface 271 v) 114 271 true).run prog w = .ok (.tuple #[v,.bool true]) w:=by kernel_rfl
theorem WI(v:Value)(w:World):(Instr.typeAssert (.iface 121 v) 114 271 true).run prog w = .ok (.tuple #[.bool false,.bool false]) w:=by kernel_rfl
theorem WJ(v:Value)(w:World):(Instr.typeAssert (.iface 118 v) 114 271 true).run prog w = .ok (.tuple #[.bool false,.bool false]) w:=by kernel_rfl
theorem Wy(w:World):(Instr.typeAssert .nilIface 114 121 true).run prog w = .ok (.tuple #[.slice none 0 0,.bool false]) w:=by kernel_rfl
theorem WA(v:Value)(w:World):(Instr.typeAssert (.iface 270 v) 114 121 true).run prog w = .ok (.tuple #[.slice none 0 0,.bool false]) w:=by kernel_rfl
theorem WB(v:Value)(w:World):(Instr.typeAssert (.iface 271 v) 114 121 true).run prog w = .ok (.tuple #[.slice none 0 0,.bool false]) w:=by kernel_rfl
theorem fO(v:Value)(w:World):(Instr.typeAssert (.iface 121 v) 114 121 true).run prog w = .ok (.tuple #[v,.bool true]) w:=by kernel_rfl
theorem Wz(v:Value)(w:World):(Instr.typeAssert (.iface 118 v) 114 121 true).run prog w = .ok (.tuple #[.slice none 0 0,.bool false]) w:=by kernel_rfl
theorem WE(w:World):(Instr.typeAssert .nilIface 114 118 true).run prog w = .ok (.tuple #[.slice none 0 0,.bool false]) w:=by kernel_rfl
theorem WF(v:Value)(w:World):(Instr.typeAssert (.iface 270 v) 114 118 true).run prog w = .ok (.tuple #[.slice none 0 0,.bool false]) w:=by kernel_rfl
theorem WG(v:Value)(w:World):(Instr.typeAssert (.iface 271 v) 114 118 true).run prog w = .ok (.tuple #[.slice none 0 0,.bool false]) w:=by kernel_rfl
theorem WC(v:Value)(w:World):(Instr.typeAssert (.iface 121 v) 114 118 true).run prog w = .ok (.tuple #[.slice none 0 0,.bool false]) w:=by kernel_rfl
theorem fT(v:Value)(w:World):(Instr.typeAssert (.iface 118 v) 114 118 true).run prog w = .ok (.tuple #[v,.bool true]) w:=by kernel_rfl
namespace Ref
structure Node where
 kind:Int
 text:BA
 names:List BA
 kids:List Nat
structure zn where
 state:Int
 opn:List Nat
 nodes:List Node
 named:Bool
 got:BA
 need:Int
 low:Int
 high:Int
 number:Int
 word:BA
 root:Int
def Ul(b:Int):Bool:=decide (b=32\/b=9\/b=10\/b=13)
def zR(b:Int):Int:=
 if 48<=b/\b<=57 then b-48 else if 97<=b/\b<=102 then b-97+10 else if 65<=b/\b<=70 then b-65+10 else -1
def one(b:Int):BA:=⟨#[UInt8.ofNat b.toNat]⟩
def enc(n:Int):BA:=
 if n<128 then one n else if n<2048 then ⟨#[UInt8.ofNat (192+n / 64).toNat,UInt8.ofNat (128+n % 64).toNat]⟩
 else ⟨#[UInt8.ofNat (224+n / 4096).toNat,UInt8.ofNat (128+n / 64 % 64).toNat,UInt8.ofNat (128+n % 64).toNat]⟩
def XK(o k:Nat)(l:List Node):List Node:=l.modify o λn=>{ n with kids:=n.kids++[k] }
def Yq(o:Nat)(s:BA)(l:List Node):List Node:=l.modify o λn=>{ n with names:=n.names++[s] }
def lay(m:zn)(n:Node):zn:=
 if m.opn=[] then { m with nodes:=m.nodes++[n],root:=m.nodes.length } else { m with nodes:=XK (m.opn.getLastD 0) m.nodes.length (m.nodes++[n]) }
def KA(m:zn):Int:=((m.nodes[m.opn.getLastD 0]?).map Node.kind).getD 0
def Uk(m:zn)(b:Int):Int×zn:=
 if b=123\/b=91 then
  if 8<=m.opn.length then (3,m)
  else
   let m1:=lay { m with state:=if b=91 then 2 else 3 } { kind:=if b=91 then 2 else 1,text:=⟨#[]⟩,names:=[],kids:=[] }
   (0,{ m1 with opn:=m.opn++[m.nodes.length] })
 else if b=34 then (0,{ m with state:=8,named:=false,got:=⟨#[]⟩ })
 else if b=116 then (0,{ lay m { kind:=4,text:=⟨#[]⟩,names:=[],kids:=[] } with state:=7,word:=⟨#[114,117,101]⟩ })
 else if b=102 then (0,{ lay m { kind:=5,text:=⟨#[]⟩,names:=[],kids:=[] } with state:=7,word:=⟨#[97,108,115,101]⟩ })
 else (2,m)
def ko(m:zn)(b:Int):Int×zn:=
 if m.opn=[] then (2,m) else if (KA m==1) != (b==125) then (2,m) else (0,{ m with opn:=m.opn.dropLast,state:=6 })
def after(m:zn)(b:Int):Int×zn:=
 if m.state=5/\b=58 then (0,{ m with state:=1 })
 else if m.state=5\/m.opn=[] then (2,m)
 else if b=125\/b=93 then ko m b
 else if b≠44 then (2,m)
 else (0,{ m with state:=if KA m=1 then 4 else 1 })
def gz(m:zn):List BA:=((m.nodes[m.opn.getLastD 0]?).map Node.names).getD []
def closed(m:zn):Int×zn:=
 if m.named=false then (0,{ lay m { kind:=3,text:=m.got,names:=[],kids:=[] } with state:=6 })
 else if (gz m).any (λs=>s.toList==m.got.toList) then (4,m)
 else (0,{ m with nodes:=Yq (m.opn.getLastD 0) m.got m.nodes,state:=5 })
def plain(m:zn)(b:Int):Int×zn:=
 if b=34 then closed m
 else if b=92 then (0,{ m with state:=10 })
 else if b<32 then (2,m)
 else if b<128 then (0,{ m with got:=m.got++one b })
 else if (qz b).1=0 then (2,m)
 else (0,{ m with need:=(qz b).1,low:=(qz b).2.1,high:=(qz b).2.2,got:=m.got++one b,state:=9 })
def escape(m:zn)(b:Int):Int×zn:=
 if b=34\/b=92\/b=47 then (0,{ m with state:=8,got:=m.got++one b })
 else if b=110 then (0,{ m with state:=8,got:=m.got++one 10 })
 else if b=116 then (0,{ m with state:=8,got:=m.got++one 9 })
 else if b=117 then (0,{ m with state:=11,need:=4,number:=0 })
 else (2,m)
def digit(m:zn)(b:Int):Int×zn:=
 if zR b<0 then (2,m)
 else if m.need-1=2/\216<=16*m.number+zR b/\16*m.number+zR b<=223 then (2,m)
 else if m.need-1=0 then (0,{ m with number:=16*m.number+zR b,need:=m.need-1,got:=m.got++enc (16*m.number+zR b),state:=8 })
 else (0,{ m with number:=16*m.number+zR b,need:=m.need-1 })
def step(m:zn)(b:Int):Int×zn:=
 if m.state=8 then plain m b
 else if m.state=9 then
  if b<m.low\/m.high<b then (2,m) else (0,{ m with got:=m.got++one b,low:=128,high:=191,need:=m.need-1,state:=if m.need-1=0 then 8 else m.state })
 else if m.state=10 then escape m b
 else if m.state=11 then digit m b
 else if m.state=7 then
  if b≠((m.word.data.toList.getD 0 0).toNat:Int) then (2,m) else (0,{ m with word:=m.word.extract 1 m.word.size,state:=if m.word.size=1 then 6 else m.state })
 else if Ul b then (0,m)
 else if m.state=6\/m.state=5 then after m b
 else if (m.state=2/\b=93)\/(m.state=3/\b=125) then ko m b
 else if m.state=3\/m.state=4 then (if b≠34 then (2,m) else (0,{ m with state:=8,named:=true,got:=⟨#[]⟩ }))
 else Uk m b
theorem Kl(m:zn)(x:Int)(h:m.state=8):step m x=plain m x:=by unfold step;rw[zb h]
theorem fB(m:zn)(x:Int)(h:m.state=9):step m x=if x<m.low\/m.high<x then (2,m) else (0,{ m with got:=m.got++one x,low:=128,high:=191,need:=m.need-1,state:=if m.need-1=0 then 8 else 9 }):=by
 unfold step;rw[za (by omega),zb h,h]
theorem TA(m:zn)(x:Int)(h:m.state=10):step m x=escape m x:=by unfold step;rw[za (by omega),za (by omega),zb h]
theorem TB(m:zn)(x:Int)(h:m.state=11):step m x=digit m x:=by unfold step;rw[za (by omega),za (by omega),za (by omega),zb h]
theorem TC(m:zn)(x:Int)(h:m.state=7):step m x=if x≠((m.word.data.toList.getD 0 0).toNat:Int) then (2,m) else (0,{ m with word:=m.word.extract 1 m.word.size,state:=if m.word.size=1 then 6 else 7 }):=by
 unfold step;rw[za (by omega),za (by omega),za (by omega),za (by omega),zb h,h]
theorem VO(m:zn)(x:Int)(h:m.state<7):step m x=if Ul x then (0,m)
 else if m.state=6\/m.state=5 then after m x
 else if (m.state=2/\x=93)\/(m.state=3/\x=125) then ko m x
 else if m.state=3\/m.state=4 then (if x≠34 then (2,m) else (0,{ m with state:=8,named:=true,got:=⟨#[]⟩ }))
 else Uk m x:=by
 unfold step;rw[za (by omega),za (by omega),za (by omega),za (by omega),za (by omega)]
structure Wf (m:zn):Prop where
 lo:1<=m.state
 hi:m.state<=11
 named:8<=m.state->m.named=true->m.opn≠[]
 word:m.state=7->1<=m.word.size
 need9:m.state=9->1<=m.need/\m.need<=3/\0<=m.low/\m.low<=255/\0<=m.high/\m.high<=255
 need11:m.state=11->1<=m.need/\m.need<=4/\0<=m.number/\m.number<=4095/\(m.need=4->m.number=0)/\(m.need=3->m.number<=15)/\(m.need=2->m.number<=255)
 opens:3<=m.state->m.state<=5->m.opn≠[]
 small:m.word.size<=10
theorem oF(m:zn)(d:Node):(lay m d).opn=m.opn:=by unfold lay;split<;>rfl
theorem oH(m:zn)(d:Node):(lay m d).state=m.state:=by unfold lay;split<;>rfl
theorem VD(x:Int):(one x).size=1:=rfl
theorem mP(x:Int):(enc x).size<=3:=by unfold enc one;split<;>(try split)<;>simp[ByteArray.size]
def init:zn:={ state:=1,opn:=[],nodes:=[],named:=false,got:=⟨#[]⟩,need:=0,low:=0,high:=0,number:=0,word:=⟨#[]⟩,root:=0 }
def run:zn->List UInt8->Nat->Int×Nat×zn
 | m,[],p=>(0,p,m)
 | m,c::r,p=>if (step m (c.toNat:Int)).1=0 then run (step m (c.toNat:Int)).2 r (p+1) else ((step m (c.toNat:Int)).1,p,m)
def Ev(a:List Node):Prop:=∀(i:Nat) (n:Node),a[i]?=some n->(∀k ∈ n.kids,k<a.length)/\(n.kind=1->n.names.length=n.kids.length)
def YB:List BA->List Nat->BA->Int
 | s::ss,k::ks,name=>if s.toList==name.toList then (k:Int) else YB ss ks name
 | _,_,_=>-1
def zC(n:Node)(name:BA):Int:=YB n.names n.kids name
def xV(s:BA):Bool:=(parts s).isSome
def qm:BA:=⟨#[110,111,116]⟩
def digits(l:List UInt8):Bool:=l.all λc=>decide (48<=c.toNat/\c.toNat<=57)
def kD(t:BA):Bool:=decide (1<=t.size/\t.size<=18)&&((t.data.toList.getD 0 0).toNat != 48)&&digits t.data.toList
def xe(s:BA):Bool:=
 (s.toList==[48])||kD (if 0<s.size/\(s.data.toList.getD 0 0).toNat=45 then s.extract 1 s.size else s)
theorem UJ(s:BA)(h:0<s.size):s.data.toList.getD 0 0=s[0]:=by
 have e:=WT s 0 h;rw[List.take_zero] at e
 cases hl:s.data.toList with
 | nil=>rw[hl] at e;simp at e
 | cons a r=>rw[hl] at e;simp at e;simpa using e
theorem Oe(s:BA)(h:0<s.size)(a:(s[0].toNat:Int)=48):kD s=false:=by
 unfold kD;rw[UJ s h];simp;omega
theorem ry(s:BA)(h:¬(1<=s.size/\s.size<=18)):kD s=false:=by unfold kD;simp[h]
def QP(op s:BA):Bool:=
 if op.toList==[115,97,109,101] then decide (s.size<=60)
 else if op.toList==[117,110,100,101,114] then decide (s.size<=60) && !s.toList.isEmpty
 else if op.toList==[98,101,108,111,119] then xe s
 else true
def ui(op:BA):Bool:=(op.toList==[115,97,109,101])||(op.toList==[117,110,100,101,114])||(op.toList==[98,101,108,111,119])||(op.toList==[108,105,107,101])
def XU(op:BA)(l:List BA):Bool:=l.all (QP op)&&ui op
def bOp:BA:=⟨#[111,112]⟩
def zx:BA:=⟨#[107,101,121]⟩
def bNo:BA:=⟨#[110,111]⟩
def zz:BA:=⟨#[118,97,108,117,101]⟩
structure jZ where
 op:BA
 key:BA
 vals:List BA
 no:Bool
 sh:Bool
 pt:Bool
def yf(op:BA):Bool:=op.toList==[97,98,115,101,110,116]
def xw(op:BA):Bool:=op.toList==[108,105,107,101]
def jU:jZ:=⟨⟨#[]⟩,⟨#[]⟩,[],false,true,false⟩
structure gP where
 cs:List jZ
 sh:Bool
 pt:Bool
theorem nQ(N:Nat):∀(b:List BA) (a:List Nat) (name:BA),(∀k ∈ a,k<N) -> -1<=YB b a name/\YB b a name<(N:Int)
 | [],a,name,_=>by simp[YB];omega
 | s::b,[],name,_=>by simp[YB];omega
 | s::b,k::a,name,h=>by
  unfold YB
  split
  ·have:=h k (by simp);omega
  ·exact nQ N b a name (λj c=>h j (by simp[c]))
theorem Js{a:List Node}(b:Ev a){i:Nat}{n:Node}(hi:a[i]?=some n)(name:BA):-1<=zC n name/\zC n name<(a.length:Int):=
 nQ a.length n.names n.kids name (b i n hi).1
end Ref
end Go.Proofs.YtdakgnaojakldaaGreatDoor
