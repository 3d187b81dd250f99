/- P -/
import Derived.Test.YtdakgnaojakldaaGreatDoorS01
set_option maxRecDepth 100000
namespace Go.Proofs.YtdakgnaojakldaaGreatDoor
namespace Ref
structure Node where
 kind:Int
 text:BY
 names:List BY
 kids:List Nat
structure zi where
 state:Int
 opn:List Nat
 nodes:List Node
 named:Bool
 got:BY
 need:Int
 low:Int
 high:Int
 number:Int
 word:BY
 root:Int
def YB(b:Int):Bool:=decide (b=32\/b=9\/b=10\/b=13)
def zC(b:Int):Int:=
 if 48<=b/\b<=57 then b-48 else if 97<=b/\b<=102 then b-97+10 else if 65<=b/\b<=70 then b-65+10 else -1
def one(b:Int):BY:=⟨#[UInt8.ofNat b.toNat]⟩
def enc(n:Int):BY:=
 if n<128 then one n else if n<2048 then ⟨#[UInt8.ofNat (192+n / 64).toNat,UInt8.ofNat (128+n % 64).toNat]⟩
 else ⟨#[UInt8.ofNat (224+n / 4096).toNat,UInt8.ofNat (128+n / 64 % 64).toNat,UInt8.ofNat (128+n % 64).toNat]⟩
def yK(o k:Nat)(l:List Node):List Node:=l.modify o λn=>{ n with kids:=n.kids++[k] }
def yV(o:Nat)(s:BY)(l:List Node):List Node:=l.modify o λn=>{ n with names:=n.names++[s] }
def lay(m:zi)(n:Node):zi:=
 if m.opn=[] then { m with nodes:=m.nodes++[n],root:=m.nodes.length } else { m with nodes:=yK (m.opn.getLastD 0) m.nodes.length (m.nodes++[n]) }
def Xj(m:zi):Int:=((m.nodes[m.opn.getLastD 0]?).map Node.kind).getD 0
def Yz(m:zi)(b:Int):Int×zi:=
 if b=123\/b=91 then
  if 8<=m.opn.length then (3,m)
  else
   let m1:=lay { m with state:=if b=91 then 2 else 3 } { kind:=if b=91 then 2 else 1,text:=⟨#[]⟩,names:=[],kids:=[] }
   (0,{ m1 with opn:=m.opn++[m.nodes.length] })
 else if b=34 then (0,{ m with state:=8,named:=false,got:=⟨#[]⟩ })
 else if b=116 then (0,{ lay m { kind:=4,text:=⟨#[]⟩,names:=[],kids:=[] } with state:=7,word:=⟨#[114,117,101]⟩ })
 else if b=102 then (0,{ lay m { kind:=5,text:=⟨#[]⟩,names:=[],kids:=[] } with state:=7,word:=⟨#[97,108,115,101]⟩ })
 else (2,m)
def jJ(m:zi)(b:Int):Int×zi:=
 if m.opn=[] then (2,m) else if (Xj m==1) != (b==125) then (2,m) else (0,{ m with opn:=m.opn.dropLast,state:=6 })
def after(m:zi)(b:Int):Int×zi:=
 if m.state=5/\b=58 then (0,{ m with state:=1 })
 else if m.state=5\/m.opn=[] then (2,m)
 else if b=125\/b=93 then jJ m b
 else if b≠44 then (2,m)
 else (0,{ m with state:=if Xj m=1 then 4 else 1 })
def Uz(m:zi):List BY:=((m.nodes[m.opn.getLastD 0]?).map Node.names).getD []
def closed(m:zi):Int×zi:=
 if m.named=false then (0,{ lay m { kind:=3,text:=m.got,names:=[],kids:=[] } with state:=6 })
 else if (Uz m).any (λs=>s.toList==m.got.toList) then (4,m)
 else (0,{ m with nodes:=yV (m.opn.getLastD 0) m.got m.nodes,state:=5 })
def plain(m:zi)(b:Int):Int×zi:=
 if b=34 then closed m
 else if b=92 then (0,{ m with state:=10 })
 else if b<32 then (2,m)
 else if b<128 then (0,{ m with got:=m.got++one b })
 else if (zR b).1=0 then (2,m)
 else (0,{ m with need:=(zR b).1,low:=(zR b).2.1,high:=(zR b).2.2,got:=m.got++one b,state:=9 })
def escape(m:zi)(b:Int):Int×zi:=
 if b=34\/b=92\/b=47 then (0,{ m with state:=8,got:=m.got++one b })
 else if b=110 then (0,{ m with state:=8,got:=m.got++one 10 })
 else if b=116 then (0,{ m with state:=8,got:=m.got++one 9 })
 else if b=117 then (0,{ m with state:=11,need:=4,number:=0 })
 else (2,m)
def digit(m:zi)(b:Int):Int×zi:=
 if zC b<0 then (2,m)
 else if m.need-1=2/\216<=16*m.number+zC b/\16*m.number+zC b<=223 then (2,m)
 else if m.need-1=0 then (0,{ m with number:=16*m.number+zC b,need:=m.need-1,got:=m.got++enc (16*m.number+zC b),state:=8 })
 else (0,{ m with number:=16*m.number+zC b,need:=m.need-1 })
def step(m:zi)(b:Int):Int×zi:=
 if m.state=8 then plain m b
 else if m.state=9 then
  if b<m.low\/m.high<b then (2,m) else (0,{ m with got:=m.got++one b,low:=128,high:=191,need:=m.need-1,state:=if m.need-1=0 then 8 else m.state })
 else if m.state=10 then escape m b
 else if m.state=11 then digit m b
 else if m.state=7 then
  if b≠((m.word.data.toList.getD 0 0).toNat:Int) then (2,m) else (0,{ m with word:=m.word.extract 1 m.word.size,state:=if m.word.size=1 then 6 else m.state })
 else if YB b then (0,m)
 else if m.state=6\/m.state=5 then after m b
 else if (m.state=2/\b=93)\/(m.state=3/\b=125) then jJ m b
 else if m.state=3\/m.state=4 then (if b≠34 then (2,m) else (0,{ m with state:=8,named:=true,got:=⟨#[]⟩ }))
 else Yz m b
theorem Jh(m:zi)(x:Int)(h:m.state=8):step m x=plain m x:=by unfold step;rw[if_pos h]
theorem Ua(m:zi)(x:Int)(h:m.state=9):step m x=if x<m.low\/m.high<x then (2,m) else (0,{ m with got:=m.got++one x,low:=128,high:=191,need:=m.need-1,state:=if m.need-1=0 then 8 else 9 }):=by
 unfold step;rw[if_neg (by omega),if_pos h,h]
theorem IC(m:zi)(x:Int)(h:m.state=10):step m x=escape m x:=by unfold step;rw[if_neg (by omega),if_neg (by omega),if_pos h]
theorem IE(m:zi)(x:Int)(h:m.state=11):step m x=digit m x:=by unfold step;rw[if_neg (by omega),if_neg (by omega),if_neg (by omega),if_pos h]
theorem IG(m:zi)(x:Int)(h:m.state=7):step m x=if x≠((m.word.data.toList.getD 0 0).toNat:Int) then (2,m) else (0,{ m with word:=m.word.extract 1 m.word.size,state:=if m.word.size=1 then 6 else 7 }):=by
 unfold step;rw[if_neg (by omega),if_neg (by omega),if_neg (by omega),if_neg (by omega),if_pos h,h]
theorem Yf(m:zi)(x:Int)(h:m.state<7):step m x=if YB x then (0,m)
 else if m.state=6\/m.state=5 then after m x
 else if (m.state=2/\x=93)\/(m.state=3/\x=125) then jJ m x
 else if m.state=3\/m.state=4 then (if x≠34 then (2,m) else (0,{ m with state:=8,named:=true,got:=⟨#[]⟩ }))
 else Yz m x:=by
 unfold step;rw[if_neg (by omega),if_neg (by omega),if_neg (by omega),if_neg (by omega),if_neg (by omega)]
structure Wf (m:zi):Prop where
 lo:1<=m.state
 hi:m.state<=11
 named:8<=m.state->m.named=true->m.opn≠[]
 word:m.state=7->1<=m.word.size
 need9:m.state=9->1<=m.need/\m.need<=3/\0<=m.low/\m.low<=255/\0<=m.high/\m.high<=255
 need11:m.state=11->1<=m.need/\m.need<=4/\0<=m.number/\m.number<=4095/\(m.need=4->m.number=0)/\(m.need=3->m.number<=15)/\(m.need=2->m.number<=255)
 opens:3<=m.state->m.state<=5->m.opn≠[]
 small:m.word.size<=10
structure Bnd (n:Nat) (m:zi):Prop where
 nodes:m.nodes.length<=n
 opn:m.opn.length<=n
 kids:∀(i:Nat) (d:Node),m.nodes[i]?=some d->d.kids.length<=n/\d.names.length<=n
 got:m.got.size<=3*n
 top:∀o ∈ m.opn,o<m.nodes.length
theorem Bnd.like{n:Nat}{m m':zi}(h:Bnd n m)(b:m'.opn=m.opn)(a:m'.nodes=m.nodes)(c:m'.got.size<=3*n):Bnd n m':=
 ⟨by rw[a];exact h.nodes,by rw[b];exact h.opn,by rw[a];exact h.kids,c,by rw[b,a];exact h.top⟩
theorem Bnd.succ{n:Nat}{m m':zi}(h:Bnd n m)(b:m'.opn=m.opn)(a:m'.nodes=m.nodes)(g:m'.got.size<=m.got.size+3):Bnd (n+1) m':=by
 have c:=h.nodes;have e:=h.opn;have f:=h.got;exact⟨by rw[a];omega,by rw[b];omega,by rw[a];intro i d hd;have:=h.kids i d hd;omega,by omega,by rw[b,a];exact h.top⟩
theorem bn(m:zi)(d:Node):(lay m d).opn=m.opn:=by unfold lay;split<;>rfl
theorem bu(m:zi)(d:Node):(lay m d).state=m.state:=by unfold lay;split<;>rfl
theorem XZ(x:Int):(one x).size=1:=rfl
theorem K5(x:Int):(enc x).size<=3:=by unfold enc one;split<;>(try split)<;>simp[ByteArray.size]
def init:zi:={ state:=1,opn:=[],nodes:=[],named:=false,got:=⟨#[]⟩,need:=0,low:=0,high:=0,number:=0,word:=⟨#[]⟩,root:=0 }
def run:zi->List UInt8->Nat->Int×Nat×zi
 | m,[],p=>(0,p,m)
 | m,c::r,p=>if (step m (c.toNat:Int)).1=0 then run (step m (c.toNat:Int)).2 r (p+1) else ((step m (c.toNat:Int)).1,p,m)
def pend(m:zi):Prop:=m.state=5\/m.state=1\/(8<=m.state/\m.named=false)
def asks(m:zi):Prop:=(2<=m.state/\m.state<=7)\/(8<=m.state/\m.named=true)
def UA(m:zi):Prop:=∀(i:Nat) (n:Node),m.opn.getLast?=some i->m.nodes[i]?=some n->n.kind≠1
def Ev(a:List Node):Prop:=∀(i:Nat) (n:Node),a[i]?=some n->(∀k ∈ n.kids,k<a.length)/\(n.kind=1->n.names.length=n.kids.length)
structure Tree (m:zi):Prop where
 kids:∀(i:Nat) (n:Node),m.nodes[i]?=some n->∀k ∈ n.kids,k<m.nodes.length
 even:∀(i:Nat) (n:Node),m.nodes[i]?=some n->¬(pend m/\m.opn.getLast?=some i)->n.kind=1->n.names.length=n.kids.length
 odd:∀(i:Nat) (n:Node),m.nodes[i]?=some n->pend m->m.opn.getLast?=some i->n.kind=1->n.names.length=n.kids.length+1
 two:m.state=2->UA m
 full:asks m->m.nodes≠[]
 root0:0<=m.root
 root:m.nodes≠[]->m.root<(m.nodes.length:Int)
theorem Tree.like{m m':zi}(h:Tree m)(b:m'.opn=m.opn)(a:m'.nodes=m.nodes)(d:m'.root=m.root)(c:pend m'↔pend m)(f:m'.state=2->m.state=2)(g:asks m'->asks m):Tree m':=by
 refine⟨by rw[a];exact h.kids,by rw[a,b,c];exact h.even,by rw[a,b,c];exact h.odd,λe=>?_,λe=>by rw[a];exact h.full (g e),by rw[d];exact h.root0,by rw[a,d];exact h.root⟩
 have:=h.two (f e)
 unfold UA at this |-;rw[b,a];exact this
theorem Tree.ev{m:zi}(h:Tree m)(a:¬pend m):Ev m.nodes:=λi n hi=>⟨h.kids i n hi,h.even i n hi (λe=>a e.1)⟩
theorem Tree.of{m:zi}(h:Ev m.nodes)(d:¬pend m)(b:m.state=2->UA m)(c:m.nodes≠[])(a:0<=m.root)(f:m.root<(m.nodes.length:Int)):Tree m:=
 ⟨λi n hi=>(h i n hi).1,λi n hi _=>(h i n hi).2,λ_ _ _ e=>absurd e d,b,λ_=>c,a,λ_=>f⟩
def vQ:List BY->List Nat->BY->Int
 | s::ss,k::ks,name=>if s.toList==name.toList then (k:Int) else vQ ss ks name
 | _,_,_=>-1
def zt(n:Node)(name:BY):Int:=vQ n.names n.kids name
def X0(n:Node)(names:List BY):Bool:=n.names.all (λs=>names.any λt=>t.toList==s.toList)&&n.kind==1
def iP(K:Nat)(a:List Node):Prop:=∀(i:Nat) (n:Node),a[i]?=some n->n.text.size<=K
def Jk(a:List Node):List Nat->Option (List BY)
 | []=>some []
 | k::ks=>match a[k]? with
  | some x=>if x.kind=3 then (Jk a ks).map λl=>x.text::l else none
  | none=>none
def uJ(a:List Node)(k:Int):Option (List BY):=
 if k<0 then none
 else match a[k.toNat]? with
  | none=>none
  | some n=>if n.kind=3 then some [n.text] else if n.kind≠2\/n.kids.length<1\/10<n.kids.length then none else Jk a n.kids
def qf(s:BY):Bool:=(parts s).isSome
def qb:BY:=⟨#[110,111,116]⟩
def XF(a:List Node)(k:Int):Bool×Option (List BY):=
 if k<0 then (false,none)
 else match a[k.toNat]? with
  | none=>(false,none)
  | some n=>if n.kind=1 then (if X0 n [qb]=true/\n.names.length=1 then (true,uJ a (n.kids.getD 0 0:Nat)) else (false,none)) else (false,uJ a k)
def digits(l:List UInt8):Bool:=l.all λc=>decide (48<=c.toNat/\c.toNat<=57)
def jN(t:BY):Bool:=decide (1<=t.size/\t.size<=18)&&((t.data.toList.getD 0 0).toNat != 48)&&digits t.data.toList
def qj(s:BY):Bool:=
 (s.toList==[48])||jN (if 0<s.size/\(s.data.toList.getD 0 0).toNat=45 then s.extract 1 s.size else s)
theorem YN(s:BY)(h:0<s.size):s.data.toList.getD 0 0=s[0]:=by
 have e:=LQ s 0 h;rw[List.take_zero] at e
 cases hl:s.data.toList with
 | nil=>rw[hl] at e;simp at e
 | cons a r=>rw[hl] at e;simp at e;simpa using e
theorem Ec(s:BY)(h:0<s.size)(a:(s[0].toNat:Int)=48):jN s=false:=by
 unfold jN;rw[YN s h];simp;omega
theorem dE(s:BY)(h:¬(1<=s.size/\s.size<=18)):jN s=false:=by unfold jN;simp[h]
def kI(op s:BY):Bool:=
 if op.toList==[115,97,109,101] then decide (s.size<=60)
 else if op.toList==[117,110,100,101,114] then decide (s.size<=60) && !s.toList.isEmpty
 else if op.toList==[98,101,108,111,119] then qj s
 else true
def jO(op:BY):Bool:=(op.toList==[115,97,109,101])||(op.toList==[117,110,100,101,114])||(op.toList==[98,101,108,111,119])||(op.toList==[108,105,107,101])
def Zk(op:BY)(l:List BY):Bool:=l.all (kI op)&&jO op
def bOp:BY:=⟨#[111,112]⟩
def zw:BY:=⟨#[107,101,121]⟩
def bNo:BY:=⟨#[110,111]⟩
def zq:BY:=⟨#[118,97,108,117,101]⟩
structure qH where
 op:BY
 key:BY
 vals:List BY
 no:Bool
 sh:Bool
 pt:Bool
def kindOf(a:List Node)(k:Int):Int:=match a[k.toNat]? with
 | some x=>x.kind
 | none=>0
def textOf(a:List Node)(k:Int):BY:=match a[k.toNat]? with
 | some x=>x.text
 | none=>⟨#[]⟩
def zX(op:BY):Bool:=op.toList==[97,98,115,101,110,116]
def qp(op:BY):Bool:=op.toList==[108,105,107,101]
def noT(a:List Node)(no:Int):Bool:=decide (0<=no)&&(kindOf a no==4)
def YZ(a:List Node)(no:Int):Bool:=decide (0<=no)&&(!(kindOf a no==4) && !(kindOf a no==5))
def xZ:qH:=⟨⟨#[]⟩,⟨#[]⟩,[],false,true,false⟩
def XI(a:List Node)(n:Node):qH:=
 if zt n bOp<0\/zt n zw<0\/kindOf a (zt n bOp)≠3\/kindOf a (zt n zw)≠3 then xZ
 else if zX (textOf a (zt n bOp)) then
  ⟨textOf a (zt n bOp),textOf a (zt n zw),[],noT a (zt n bNo),YZ a (zt n bNo) || !zH (textOf a (zt n zw)) || !X0 n [bOp,zw,bNo],false⟩
 else
  ⟨textOf a (zt n bOp),textOf a (zt n zw),(uJ a (zt n zq)).getD [],noT a (zt n bNo),
   YZ a (zt n bNo)||(!(uJ a (zt n zq)).isSome || !Zk (textOf a (zt n bOp)) ((uJ a (zt n zq)).getD [])) || !zH (textOf a (zt n zw)) || !X0 n [bOp,zw,bNo,zq],
   qp (textOf a (zt n bOp)) && !((uJ a (zt n zq)).getD []).all qf⟩
structure Jr where
 cs:List qH
 sh:Bool
 pt:Bool
def XJ(a:List Node)(b:List Nat):List qH:=b.map λk=>match a[k]? with
 | some n=>XI a n
 | none=>xZ
def J5(a:List Node)(k:Int):Jr:=
 if k<0 then ⟨[],false,false⟩
 else match a[k.toNat]? with
  | none=>⟨[],true,false⟩
  | some n=>if n.kind≠2\/5<n.kids.length then ⟨[],true,false⟩ else ⟨XJ a n.kids,(XJ a n.kids).any qH.sh,(XJ a n.kids).any qH.pt⟩
theorem aO(N:Nat):∀(b:List BY) (a:List Nat) (name:BY),(∀k ∈ a,k<N) -> -1<=vQ b a name/\vQ b a name<(N:Int)
 | [],a,name,_=>by simp[vQ];omega
 | s::b,[],name,_=>by simp[vQ];omega
 | s::b,k::a,name,h=>by
  unfold vQ
  split
  ·have:=h k (by simp);omega
  ·exact aO N b a name (λj c=>h j (by simp[c]))
theorem Vt{a:List Node}(b:Ev a){i:Nat}{n:Node}(hi:a[i]?=some n)(name:BY):-1<=zt n name/\zt n name<(a.length:Int):=
 aO a.length n.names n.kids name (b i n hi).1
def naming(m:zi):Prop:=m.state=3\/m.state=4\/(8<=m.state/\m.named=true)
def NoN(a:List Node):Prop:=∀(i:Nat) (n:Node),a[i]?=some n->n.kind≠1->n.names=[]
structure JC (m:zi):Prop where
 non:NoN m.nodes
 top:naming m->Xj m=1
theorem JC.like{m m':zi}(h:JC m)(b:m'.opn=m.opn)(a:m'.nodes=m.nodes)(c:naming m'->naming m):JC m':=
 ⟨by rw[a];exact h.non,λe=>by have:=h.top (c e);unfold Xj at this |-;rw[a,b];exact this⟩
end Ref
end Go.Proofs.YtdakgnaojakldaaGreatDoor
