/- P -/
import Derived.Test.YtagnlbgbnfnapaaGreatDoorZ01
open Go.Proofs.Tryz hiding parts
set_option maxRecDepth 100000
set_option maxHeartbeats 400000
namespace Go.Proofs.YtagnlbgbnfnapaaGreatDoor
open Go.RowKit
def jQ(g:Nat)(b:Array Value)(a:Nat->Value)(n:Nat)(p:Nat->Bool)(w:World):Prop:=
 ∀W j,j<n->Below w.heap.size w W->Calls prog g (#[a j]++b) W λe c=>e = .returned (.bool (p j))/\Below W.heap.size W c
def zD(p:Nat->Bool)(n:Nat):Option Nat:=(List.range n).find? p
def uz(p:Nat->Bool)(n:Nat):Bool:=(List.range n).all p
theorem QA(p:Nat->Bool)(n k:Nat)(b:k<n)(hb:∀j,j<k->p j=false)(h:p k=true):zD p n=some k:=by
 unfold zD;rw[Vy];exact⟨h,by simpa using b,λj a=>by simp[hb j a]⟩
theorem QB(p:Nat->Bool)(n:Nat)(hb:∀j,j<n->p j=false):zD p n=none:=by
 unfold zD;rw[Ya];intro j a;simp[hb j (List.mem_range.1 a)]
theorem UK(p:Nat->Bool)(n:Nat):uz p n=(zD (λj=>!p j) n).isNone:=by
 unfold uz zD;rw[vk]
 simp
theorem U6(n b o cap g:Nat)(r:Array Value)(v:Nat->Int)(p:Nat->Bool)(w:World)(z:n<=1000000000000)(x:∀args w,(callFunc g args).run prog w = .ok (.enter g args) w)
  (t:∀j,j<n->w.cell? ⟨b,o+j,none⟩=some (.int .u8 (v j)))(u:jQ g r (λj => .int .u8 (v j)) n p w) :
  Calls prog 182 #[.slice (some ⟨b,o,none⟩) n cap,.func (.func g) #[] r] w λe l=>
   e = .returned (.tuple #[.int .i64 (((zD p n).getD 0:Nat):Int),.bool (zD p n).isSome])/\Below w.heap.size w l:=by
 generalize hF:zD p n=F;have m:=hid hF;clear hF;go_enter func182,ntmps182
 go_wp2
 go_loopw [10] (λi wr=>∃k:Nat,k<=n/\i = .int .i64 k/\(∀j,j<k->p j=false)/\Below w.heap.size w wr) (λi _=>n-(intOf i).toNat)
 case atStart=>exact⟨0,zU _,rfl,λj h=>by omega,zi _ _⟩
 case round=>
  obtain⟨k,y,rfl,hb,c⟩:=hrel;have f:=hid hb;clear hb
  by_cases hlt:k<n
  ·have q:=zh c (t k hlt);have a:=λW hb=>u W k hlt hb;simp only at a
   cases hpp:p k with
   | false=>
    rw[hpp] at a;have s:=hid hpp;clear hpp
    go_wp2_with (go_at_fn g;refine (a _ c).mono ?_;rintro e l ⟨rfl,d⟩)
    refine⟨⟨k+1,by omega,by go_num,λj h=>?_,c.trans (d.mono c.size)⟩,by simp[intOf];omega⟩
    by_cases hj:j=k
    ·subst hj;exact s.out
    ·exact f.out j (by omega)
   | true=>
    rw[hpp] at a;have e:=QA p n k hlt f.out hpp;rw[m.out] at e;subst e;clear hpp
    go_wp2_with (go_at_fn g;refine (a _ c).mono ?_;rintro e l ⟨rfl,d⟩)
    go_ret2;exact⟨rfl,c.trans (d.mono c.size)⟩
  ·have e:=QB p n (λj h=>f.out j (by omega));rw[m.out] at e;subst e
   go_wp2
   go_ret2;exact⟨rfl,c⟩
theorem DN(n b o cap g:Nat)(d:Array Value)(v:Nat->Int)(p:Nat->Bool)(w:World)(k:n<=1000000000000)(h:∀args w,(callFunc g args).run prog w = .ok (.enter g args) w)
  (i:∀j,j<n->w.cell? ⟨b,o+j,none⟩=some (.int .u8 (v j)))(l:jQ g d (λj => .int .u8 (v j)) n p w) :
  Calls prog 138 #[.slice (some ⟨b,o,none⟩) n cap,.func (.func g) #[] d] w λe f=>
   e = .returned (.bool (zD p n).isSome)/\Below w.heap.size w f:=by
 have c:=U6 n b o cap g d v p w k h i l;generalize zD p n=F at c;go_enter func138,ntmps138
 go_wp2_with (go_at_call 182;refine c.mono ?_;rintro e f ⟨rfl,a⟩)
 go_ret;exact⟨rfl,a⟩
theorem Dr(g:Nat)(c:Array Value)(x:Int)(B:Nat)(y:Bool)(w:World)(f:∀args w,(callFunc g args).run prog w = .ok (.enter g args) w)
  (h:w.cell? ⟨B,0,none⟩=some (.func (.func g) #[] c))(d:Calls prog g (#[.int .u8 x]++c) w λe a=>e = .returned (.bool y)/\Below w.heap.size w a) :
  Calls prog 139 #[.int .u8 x,.pointer (some ⟨B,0,none⟩)] w λe a=>e = .returned (.bool (!y))/\Below w.heap.size w a:=by
 go_enter func139,ntmps139
 go_wp2_with (go_at_fn g;refine d.mono ?_;rintro e a ⟨rfl,b⟩)
 go_ret;exact⟨rfl,b⟩
theorem mo(n b o cap g:Nat)(a:Array Value)(v:Nat->Int)(p:Nat->Bool)(w:World)(m:n<=1000000000000)(k:∀args w,(callFunc g args).run prog w = .ok (.enter g args) w)
  (l:∀j,j<n->w.cell? ⟨b,o+j,none⟩=some (.int .u8 (v j)))(q:jQ g a (λj => .int .u8 (v j)) n p w) :
  Calls prog 89 #[.slice (some ⟨b,o,none⟩) n cap,.func (.func g) #[] a] w λe h=>
   e = .returned (.bool (uz p n))/\Below w.heap.size w h:=by
 have i:∀args w,(callFunc 139 args).run prog w = .ok (.enter 139 args) w:=qx func139 (by kernel_rfl) rfl
 have c:=DN n b o cap 139 #[.pointer (some ⟨w.heap.size,0,none⟩)] v (λj=>!p j) (w.alloc (.cells #[.func (.func g) #[] a] 182)) m i
  (λj f=>zh (nB w _) (l j f))
  (λW j f hb=>by
    refine Dr g a (v j) w.heap.size (p j) W k ?_ (q W j f ((nB w _).trans (hb.mono (by simp))));exact zh hb (by simp))
 rw[UK];generalize zD (λj=>!p j) n=F at c;go_enter func89,ntmps89
 go_wp2_with (go_at_call 138;refine c.mono ?_;rintro e h ⟨rfl,d⟩)
 go_ret;exact⟨rfl,(nB w _).trans (d.mono (by simp))⟩
def rowAt(w:World)(ao:Option Addr)(n:Nat)(v:Nat->Int):Prop:=
 n=0\/∃b o,ao=some ⟨b,o,none⟩/\∀j,j<n->w.cell? ⟨b,o+j,none⟩=some (.int .i32 (v j))
theorem gZ{w a:World}{ao:Option Addr}{n:Nat}{v:Nat->Int}(h:rowAt w ao n v)(hb:Below w.heap.size w a):rowAt a ao n v:=by
 rcases h with h|⟨b,o,h1,h2⟩
 ·exact .inl h
 ·exact .inr ⟨b,o,h1,λj c=>zh hb (h2 j c)⟩
theorem IX(n:Nat)(ao:Option Addr)(cap g:Nat)(r:Array Value)(v:Nat->Int)(p:Nat->Bool)(w:World)(z:n<=1000000000000)(x:∀args w,(callFunc g args).run prog w = .ok (.enter g args) w)
  (t:rowAt w ao n v)(u:jQ g r (λj => .int .i32 (v j)) n p w) :
  Calls prog 251 #[.slice ao n cap,.func (.func g) #[] r] w λe l=>
   e = .returned (.tuple #[.int .i64 (((zD p n).getD 0:Nat):Int),.bool (zD p n).isSome])/\Below w.heap.size w l:=by
 generalize hF:zD p n=F;have m:=hid hF;clear hF;go_enter func251,ntmps251
 go_wp2
 go_loopw [10] (λi wr=>∃k:Nat,k<=n/\i = .int .i64 k/\(∀j,j<k->p j=false)/\Below w.heap.size w wr) (λi _=>n-(intOf i).toNat)
 case atStart=>exact⟨0,zU _,rfl,λj h=>by omega,zi _ _⟩
 case round=>
  obtain⟨k,y,rfl,hb,c⟩:=hrel;have f:=hid hb;clear hb
  by_cases hlt:k<n
  ·rcases t with h0|⟨b,o,rfl,hcc⟩
   ·omega
   have q:=zh c (hcc k hlt);have a:=λW hb=>u W k hlt hb;simp only at a
   cases hpp:p k with
   | false=>
    rw[hpp] at a;have s:=hid hpp;clear hpp
    go_wp2_with (go_at_fn g;refine (a _ c).mono ?_;rintro e l ⟨rfl,d⟩)
    refine⟨⟨k+1,by omega,by go_num,λj h=>?_,c.trans (d.mono c.size)⟩,by simp[intOf];omega⟩
    by_cases hj:j=k
    ·subst hj;exact s.out
    ·exact f.out j (by omega)
   | true=>
    rw[hpp] at a;have e:=QA p n k hlt f.out hpp;rw[m.out] at e;subst e;clear hpp
    go_wp2_with (go_at_fn g;refine (a _ c).mono ?_;rintro e l ⟨rfl,d⟩)
    go_ret2;exact⟨rfl,c.trans (d.mono c.size)⟩
  ·have e:=QB p n (λj h=>f.out j (by omega));rw[m.out] at e;subst e
   go_wp2
   go_ret2;exact⟨rfl,c⟩
theorem DX(n:Nat)(ao:Option Addr)(cap g:Nat)(b:Array Value)(v:Nat->Int)(p:Nat->Bool)(w:World)(i:n<=1000000000000)(f:∀args w,(callFunc g args).run prog w = .ok (.enter g args) w)
  (h:rowAt w ao n v)(k:jQ g b (λj => .int .i32 (v j)) n p w) :
  Calls prog 232 #[.slice ao n cap,.func (.func g) #[] b] w λe d=>
   e = .returned (.bool (zD p n).isSome)/\Below w.heap.size w d:=by
 have c:=IX n ao cap g b v p w i f h k;generalize zD p n=F at c;go_enter func232,ntmps232
 go_wp2_with (go_at_call 251;refine c.mono ?_;rintro e d ⟨rfl,a⟩)
 go_ret;exact⟨rfl,a⟩
theorem DD(g:Nat)(c:Array Value)(x:Int)(B:Nat)(y:Bool)(w:World)(f:∀args w,(callFunc g args).run prog w = .ok (.enter g args) w)
  (h:w.cell? ⟨B,0,none⟩=some (.func (.func g) #[] c))(d:Calls prog g (#[.int .i32 x]++c) w λe a=>e = .returned (.bool y)/\Below w.heap.size w a) :
  Calls prog 233 #[.int .i32 x,.pointer (some ⟨B,0,none⟩)] w λe a=>e = .returned (.bool (!y))/\Below w.heap.size w a:=by
 go_enter func233,ntmps233
 go_wp2_with (go_at_fn g;refine d.mono ?_;rintro e a ⟨rfl,b⟩)
 go_ret;exact⟨rfl,b⟩
theorem DC(n:Nat)(ao:Option Addr)(cap g:Nat)(a:Array Value)(v:Nat->Int)(p:Nat->Bool)(w:World)(l:n<=1000000000000)(h:∀args w,(callFunc g args).run prog w = .ok (.enter g args) w)
  (i:rowAt w ao n v)(m:jQ g a (λj => .int .i32 (v j)) n p w) :
  Calls prog 200 #[.slice ao n cap,.func (.func g) #[] a] w λe d=>
   e = .returned (.bool (uz p n))/\Below w.heap.size w d:=by
 have f:∀args w,(callFunc 233 args).run prog w = .ok (.enter 233 args) w:=qx func233 (by kernel_rfl) rfl
 have c:=DX n ao cap 233 #[.pointer (some ⟨w.heap.size,0,none⟩)] v (λj=>!p j) (w.alloc (.cells #[.func (.func g) #[] a] 358)) l f
  (gZ i (nB w _))
  (λW j k hb=>by
    refine DD g a (v j) w.heap.size (p j) W h ?_ (m W j k ((nB w _).trans (hb.mono (by simp))));exact zh hb (by simp))
 rw[UK];generalize zD (λj=>!p j) n=F at c;go_enter func200,ntmps200
 go_wp2_with (go_at_call 232;refine c.mono ?_;rintro e d ⟨rfl,b⟩)
 go_ret;exact⟨rfl,(nB w _).trans (b.mono (by simp))⟩
theorem iK(w:World):(Instr.typeAssert .nilIface 118 274 true).run prog w = .ok (.tuple #[.string ⟨#[]⟩,.bool false]) w:=by kernel_rfl
theorem Ul(v:Value)(w:World):(Instr.typeAssert (.iface 274 v) 118 274 true).run prog w = .ok (.tuple #[v,.bool true]) w:=by kernel_rfl
theorem iM(v:Value)(w:World):(Instr.typeAssert (.iface 275 v) 118 274 true).run prog w = .ok (.tuple #[.string ⟨#[]⟩,.bool false]) w:=by kernel_rfl
theorem iJ(v:Value)(w:World):(Instr.typeAssert (.iface 125 v) 118 274 true).run prog w = .ok (.tuple #[.string ⟨#[]⟩,.bool false]) w:=by kernel_rfl
theorem iL(v:Value)(w:World):(Instr.typeAssert (.iface 122 v) 118 274 true).run prog w = .ok (.tuple #[.string ⟨#[]⟩,.bool false]) w:=by kernel_rfl
theorem zas(v:Value)(w:World):(Instr.typeAssert (.iface 274 v) 118 275 true).run prog w = .ok (.tuple #[.bool false,.bool false]) w:=by kernel_rfl
theorem zat(v:Value)(w:World):(Instr.typeAssert (.iface 275 v) 118 275 true).run prog w = .ok (.tuple #[v,.bool true]) w:=by kernel_rfl
theorem zaq(v:Value)(w:World):(Instr.typeAssert (.iface 125 v) 118 275 true).run prog w = .ok (.tuple #[.bool false,.bool false]) w:=by kernel_rfl
theorem zar(v:Value)(w:World):(Instr.typeAssert (.iface 122 v) 118 275 true).run prog w = .ok (.tuple #[.bool false,.bool false]) w:=by kernel_rfl
theorem zaf(w:World):(Instr.typeAssert .nilIface 118 125 true).run prog w = .ok (.tuple #[.slice none 0 0,.bool false]) w:=by kernel_rfl
theorem zai(v:Value)(w:World):(Instr.typeAssert (.iface 274 v) 118 125 true).run prog w = .ok (.tuple #[.slice none 0 0,.bool false]) w:=by kernel_rfl
theorem zaj(v:Value)(w:World):(Instr.typeAssert (.iface 275 v) 118 125 true).run prog w = .ok (.tuple #[.slice none 0 0,.bool false]) w:=by kernel_rfl
theorem iF(v:Value)(w:World):(Instr.typeAssert (.iface 125 v) 118 125 true).run prog w = .ok (.tuple #[v,.bool true]) w:=by kernel_rfl
theorem zah(v:Value)(w:World):(Instr.typeAssert (.iface 122 v) 118 125 true).run prog w = .ok (.tuple #[.slice none 0 0,.bool false]) w:=by kernel_rfl
theorem zal(w:World):(Instr.typeAssert .nilIface 118 122 true).run prog w = .ok (.tuple #[.slice none 0 0,.bool false]) w:=by kernel_rfl
theorem zam(v:Value)(w:World):(Instr.typeAssert (.iface 274 v) 118 122 true).run prog w = .ok (.tuple #[.slice none 0 0,.bool false]) w:=by kernel_rfl
theorem zan(v:Value)(w:World):(Instr.typeAssert (.iface 275 v) 118 122 true).run prog w = .ok (.tuple #[.slice none 0 0,.bool false]) w:=by kernel_rfl
theorem zak(v:Value)(w:World):(Instr.typeAssert (.iface 125 v) 118 122 true).run prog w = .ok (.tuple #[.slice none 0 0,.bool false]) w:=by kernel_rfl
theorem iI(v:Value)(w:World):(Instr.typeAssert (.iface 122 v) 118 122 true).run prog w = .ok (.tuple #[v,.bool true]) w:=by kernel_rfl
namespace Ref
structure Node where
 kind:Int
 text:BA
 names:List BA
 kids:List Nat
structure zA where
 state:Int
 opn:List Nat
 nodes:List Node
 named:Bool
 got:BA
 need:Int
 low:Int
 high:Int
 number:Int
 word:BA
 root:Int
def UQ(b:Int):Bool:=decide (b=32\/b=9\/b=10\/b=13)
def zX(b:Int):Int:=
 if 48<=b/\b<=57 then b-48 else if 97<=b/\b<=102 then b-97+10 else if 65<=b/\b<=70 then b-65+10 else -1
def one(b:Int):BA:=⟨#[UInt8.ofNat b.toNat]⟩
def enc(n:Int):BA:=
 if n<128 then one n else if n<2048 then ⟨#[UInt8.ofNat (192+n / 64).toNat,UInt8.ofNat (128+n % 64).toNat]⟩
 else ⟨#[UInt8.ofNat (224+n / 4096).toNat,UInt8.ofNat (128+n / 64 % 64).toNat,UInt8.ofNat (128+n % 64).toNat]⟩
def Yf(o k:Nat)(l:List Node):List Node:=l.modify o λn=>{ n with kids:=n.kids++[k] }
def YW(o:Nat)(s:BA)(l:List Node):List Node:=l.modify o λn=>{ n with names:=n.names++[s] }
def lay(m:zA)(n:Node):zA:=
 if m.opn=[] then { m with nodes:=m.nodes++[n],root:=m.nodes.length } else { m with nodes:=Yf (m.opn.getLastD 0) m.nodes.length (m.nodes++[n]) }
def KX(m:zA):Int:=((m.nodes[m.opn.getLastD 0]?).map Node.kind).getD 0
def UO(m:zA)(b:Int):Int×zA:=
 if b=123\/b=91 then
  if 8<=m.opn.length then (3,m)
  else
   let m1:=lay { m with state:=if b=91 then 2 else 3 } { kind:=if b=91 then 2 else 1,text:=⟨#[]⟩,names:=[],kids:=[] }
   (0,{ m1 with opn:=m.opn++[m.nodes.length] })
 else if b=34 then (0,{ m with state:=8,named:=false,got:=⟨#[]⟩ })
 else if b=116 then (0,{ lay m { kind:=4,text:=⟨#[]⟩,names:=[],kids:=[] } with state:=7,word:=⟨#[114,117,101]⟩ })
 else if b=102 then (0,{ lay m { kind:=5,text:=⟨#[]⟩,names:=[],kids:=[] } with state:=7,word:=⟨#[97,108,115,101]⟩ })
 else (2,m)
def Zd(m:zA)(b:Int):Int×zA:=
 if m.opn=[] then (2,m) else if (KX m==1) != (b==125) then (2,m) else (0,{ m with opn:=m.opn.dropLast,state:=6 })
def after(m:zA)(b:Int):Int×zA:=
 if m.state=5/\b=58 then (0,{ m with state:=1 })
 else if m.state=5\/m.opn=[] then (2,m)
 else if b=125\/b=93 then Zd m b
 else if b≠44 then (2,m)
 else (0,{ m with state:=if KX m=1 then 4 else 1 })
def iU(m:zA):List BA:=((m.nodes[m.opn.getLastD 0]?).map Node.names).getD []
def closed(m:zA):Int×zA:=
 if m.named=false then (0,{ lay m { kind:=3,text:=m.got,names:=[],kids:=[] } with state:=6 })
 else if (iU m).any (λs=>s.toList==m.got.toList) then (4,m)
 else (0,{ m with nodes:=YW (m.opn.getLastD 0) m.got m.nodes,state:=5 })
def plain(m:zA)(b:Int):Int×zA:=
 if b=34 then closed m
 else if b=92 then (0,{ m with state:=10 })
 else if b<32 then (2,m)
 else if b<128 then (0,{ m with got:=m.got++one b })
 else if (qE b).1=0 then (2,m)
 else (0,{ m with need:=(qE b).1,low:=(qE b).2.1,high:=(qE b).2.2,got:=m.got++one b,state:=9 })
def escape(m:zA)(b:Int):Int×zA:=
 if b=34\/b=92\/b=47 then (0,{ m with state:=8,got:=m.got++one b })
 else if b=110 then (0,{ m with state:=8,got:=m.got++one 10 })
 else if b=116 then (0,{ m with state:=8,got:=m.got++one 9 })
 else if b=117 then (0,{ m with state:=11,need:=4,number:=0 })
 else (2,m)
def digit(m:zA)(b:Int):Int×zA:=
 if zX b<0 then (2,m)
 else if m.need-1=2/\216<=16*m.number+zX b/\16*m.number+zX b<=223 then (2,m)
 else if m.need-1=0 then (0,{ m with number:=16*m.number+zX b,need:=m.need-1,got:=m.got++enc (16*m.number+zX b),state:=8 })
 else (0,{ m with number:=16*m.number+zX b,need:=m.need-1 })
def step(m:zA)(b:Int):Int×zA:=
 if m.state=8 then plain m b
 else if m.state=9 then
  if b<m.low\/m.high<b then (2,m) else (0,{ m with got:=m.got++one b,low:=128,high:=191,need:=m.need-1,state:=if m.need-1=0 then 8 else m.state })
 else if m.state=10 then escape m b
 else if m.state=11 then digit m b
 else if m.state=7 then
  if b≠((m.word.data.toList.getD 0 0).toNat:Int) then (2,m) else (0,{ m with word:=m.word.extract 1 m.word.size,state:=if m.word.size=1 then 6 else m.state })
 else if UQ b then (0,m)
 else if m.state=6\/m.state=5 then after m b
 else if (m.state=2/\b=93)\/(m.state=3/\b=125) then Zd m b
 else if m.state=3\/m.state=4 then (if b≠34 then (2,m) else (0,{ m with state:=8,named:=true,got:=⟨#[]⟩ }))
 else UO m b
theorem KO(m:zA)(x:Int)(h:m.state=8):step m x=plain m x:=by unfold step;rw[zb h]
theorem iw(m:zA)(x:Int)(h:m.state=9):step m x=if x<m.low\/m.high<x then (2,m) else (0,{ m with got:=m.got++one x,low:=128,high:=191,need:=m.need-1,state:=if m.need-1=0 then 8 else 9 }):=by
 unfold step;rw[za (by omega),zb h,h]
theorem Wj(m:zA)(x:Int)(h:m.state=10):step m x=escape m x:=by unfold step;rw[za (by omega),za (by omega),zb h]
theorem Wl(m:zA)(x:Int)(h:m.state=11):step m x=digit m x:=by unfold step;rw[za (by omega),za (by omega),za (by omega),zb h]
theorem Wm(m:zA)(x:Int)(h:m.state=7):step m x=if x≠((m.word.data.toList.getD 0 0).toNat:Int) then (2,m) else (0,{ m with word:=m.word.extract 1 m.word.size,state:=if m.word.size=1 then 6 else 7 }):=by
 unfold step;rw[za (by omega),za (by omega),za (by omega),za (by omega),zb h,h]
theorem Uh(m:zA)(x:Int)(h:m.state<7):step m x=if UQ x then (0,m)
 else if m.state=6\/m.state=5 then after m x
 else if (m.state=2/\x=93)\/(m.state=3/\x=125) then Zd m x
 else if m.state=3\/m.state=4 then (if x≠34 then (2,m) else (0,{ m with state:=8,named:=true,got:=⟨#[]⟩ }))
 else UO m x:=by
 unfold step;rw[za (by omega),za (by omega),za (by omega),za (by omega),za (by omega)]
structure Wf (m:zA):Prop where
 lo:1<=m.state
 hi:m.state<=11
 named:8<=m.state->m.named=true->m.opn≠[]
 word:m.state=7->1<=m.word.size
 need9:m.state=9->1<=m.need/\m.need<=3/\0<=m.low/\m.low<=255/\0<=m.high/\m.high<=255
 need11:m.state=11->1<=m.need/\m.need<=4/\0<=m.number/\m.number<=4095/\(m.need=4->m.number=0)/\(m.need=3->m.number<=15)/\(m.need=2->m.number<=255)
 opens:3<=m.state->m.state<=5->m.opn≠[]
 small:m.word.size<=10
theorem su(m:zA)(d:Node):(lay m d).opn=m.opn:=by unfold lay;split<;>rfl
theorem sD(m:zA)(d:Node):(lay m d).state=m.state:=by unfold lay;split<;>rfl
theorem V7(x:Int):(one x).size=1:=rfl
theorem oK(x:Int):(enc x).size<=3:=by unfold enc one;split<;>(try split)<;>simp[ByteArray.size]
def init:zA:={ state:=1,opn:=[],nodes:=[],named:=false,got:=⟨#[]⟩,need:=0,low:=0,high:=0,number:=0,word:=⟨#[]⟩,root:=0 }
def run:zA->List UInt8->Nat->Int×Nat×zA
 | m,[],p=>(0,p,m)
 | m,c::r,p=>if (step m (c.toNat:Int)).1=0 then run (step m (c.toNat:Int)).2 r (p+1) else ((step m (c.toNat:Int)).1,p,m)
def Ev(a:List Node):Prop:=∀(i:Nat) (n:Node),a[i]?=some n->(∀k ∈ n.kids,k<a.length)/\(n.kind=1->n.names.length=n.kids.length)
def Y4:List BA->List Nat->BA->Int
 | s::ss,k::ks,name=>if s.toList==name.toList then (k:Int) else Y4 ss ks name
 | _,_,_=>-1
def zO(n:Node)(name:BA):Int:=Y4 n.names n.kids name
def yf(s:BA):Bool:=(parts s).isSome
def qH:BA:=⟨#[110,111,116]⟩
def digits(l:List UInt8):Bool:=l.all λc=>decide (48<=c.toNat/\c.toNat<=57)
def Zj(t:BA):Bool:=decide (1<=t.size/\t.size<=18)&&((t.data.toList.getD 0 0).toNat != 48)&&digits t.data.toList
def xB(s:BA):Bool:=
 (s.toList==[48])||Zj (if 0<s.size/\(s.data.toList.getD 0 0).toNat=45 then s.extract 1 s.size else s)
theorem U6(s:BA)(h:0<s.size):s.data.toList.getD 0 0=s[0]:=by
 have e:=zay s 0 h;rw[List.take_zero] at e
 cases hl:s.data.toList with
 | nil=>rw[hl] at e;simp at e
 | cons a r=>rw[hl] at e;simp at e;simpa using e
theorem OM(s:BA)(h:0<s.size)(a:(s[0].toNat:Int)=48):Zj s=false:=by
 unfold Zj;rw[U6 s h];simp;omega
theorem wC(s:BA)(h:¬(1<=s.size/\s.size<=18)):Zj s=false:=by unfold Zj;simp[h]
def Xl(op s:BA):Bool:=
 if op.toList==[115,97,109,101] then decide (s.size<=60)
 else if op.toList==[117,110,100,101,114] then decide (s.size<=60) && !s.toList.isEmpty
 else if op.toList==[98,101,108,111,119] then xB s
 else true
def uJ(op:BA):Bool:=(op.toList==[115,97,109,101])||(op.toList==[117,110,100,101,114])||(op.toList==[98,101,108,111,119])||(op.toList==[108,105,107,101])
def Yl(op:BA)(l:List BA):Bool:=l.all (Xl op)&&uJ op
def bOp:BA:=⟨#[111,112]⟩
def zG:BA:=⟨#[107,101,121]⟩
def bNo:BA:=⟨#[110,111]⟩
def zJ:BA:=⟨#[118,97,108,117,101]⟩
structure Xt where
 op:BA
 key:BA
 vals:List BA
 no:Bool
 sh:Bool
 pt:Bool
def jm(op:BA):Bool:=op.toList==[97,98,115,101,110,116]
def xH(op:BA):Bool:=op.toList==[108,105,107,101]
def Zi:Xt:=⟨⟨#[]⟩,⟨#[]⟩,[],false,true,false⟩
structure lK where
 cs:List Xt
 sh:Bool
 pt:Bool
theorem rq(N:Nat):∀(b:List BA) (a:List Nat) (name:BA),(∀k ∈ a,k<N) -> -1<=Y4 b a name/\Y4 b a name<(N:Int)
 | [],a,name,_=>by simp[Y4];omega
 | s::b,[],name,_=>by simp[Y4];omega
 | s::b,k::a,name,h=>by
  unfold Y4
  split
  ·have:=h k (by simp);omega
  ·exact rq N b a name (λj c=>h j (by simp[c]))
theorem JX{a:List Node}(b:Ev a){i:Nat}{n:Node}(hi:a[i]?=some n)(name:BA):-1<=zO n name/\zO n name<(a.length:Int):=
 rq a.length n.names n.kids name (b i n hi).1
end Ref
end Go.Proofs.YtagnlbgbnfnapaaGreatDoor
