/- P -/
import Derived.Test.YtdakgnaojakldabGreatDoorT01
set_option maxRecDepth 100000
namespace Go.Proofs.YtdakgnaojakldabGreatDoor
namespace Ref
structure Node where
 kind:Int
 text:BA
 names:List BA
 kids:List Nat
structure zh where
 state:Int
 opn:List Nat
 nodes:List Node
 named:Bool
 got:BA
 need:Int
 low:Int
 high:Int
 number:Int
 word:BA
 root:Int
def Jb(b:Int):Bool:=decide (b=32\/b=9\/b=10\/b=13)
def zG(b:Int):Int:=
 if 48<=b/\b<=57 then b-48 else if 97<=b/\b<=102 then b-97+10 else if 65<=b/\b<=70 then b-65+10 else -1
def one(b:Int):BA:=⟨#[UInt8.ofNat b.toNat]⟩
def enc(n:Int):BA:=
 if n<128 then one n else if n<2048 then ⟨#[UInt8.ofNat (192+n / 64).toNat,UInt8.ofNat (128+n % 64).toNat]⟩
 else ⟨#[UInt8.ofNat (224+n / 4096).toNat,UInt8.ofNat (128+n / 64 % 64).toNat,UInt8.ofNat (128+n % 64).toNat]⟩
def Qh(o k:Nat)(l:List Node):List Node:=l.modify o λn=>{ n with kids:=n.kids++[k] }
def QP(o:Nat)(s:BA)(l:List Node):List Node:=l.modify o λn=>{ n with names:=n.names++[s] }
def lay(m:zh)(n:Node):zh:=
 if m.opn=[] then { m with nodes:=m.nodes++[n],root:=m.nodes.length } else { m with nodes:=Qh (m.opn.getLastD 0) m.nodes.length (m.nodes++[n]) }
def XZ(m:zh):Int:=((m.nodes[m.opn.getLastD 0]?).map Node.kind).getD 0
def Ja(m:zh)(b:Int):Int×zh:=
 if b=123\/b=91 then
  if 8<=m.opn.length then (3,m)
  else
   let m1:=lay { m with state:=if b=91 then 2 else 3 } { kind:=if b=91 then 2 else 1,text:=⟨#[]⟩,names:=[],kids:=[] }
   (0,{ m1 with opn:=m.opn++[m.nodes.length] })
 else if b=34 then (0,{ m with state:=8,named:=false,got:=⟨#[]⟩ })
 else if b=116 then (0,{ lay m { kind:=4,text:=⟨#[]⟩,names:=[],kids:=[] } with state:=7,word:=⟨#[114,117,101]⟩ })
 else if b=102 then (0,{ lay m { kind:=5,text:=⟨#[]⟩,names:=[],kids:=[] } with state:=7,word:=⟨#[97,108,115,101]⟩ })
 else (2,m)
def vG(m:zh)(b:Int):Int×zh:=
 if m.opn=[] then (2,m) else if (XZ m==1) != (b==125) then (2,m) else (0,{ m with opn:=m.opn.dropLast,state:=6 })
def after(m:zh)(b:Int):Int×zh:=
 if m.state=5/\b=58 then (0,{ m with state:=1 })
 else if m.state=5\/m.opn=[] then (2,m)
 else if b=125\/b=93 then vG m b
 else if b≠44 then (2,m)
 else (0,{ m with state:=if XZ m=1 then 4 else 1 })
def KM(m:zh):List BA:=((m.nodes[m.opn.getLastD 0]?).map Node.names).getD []
def closed(m:zh):Int×zh:=
 if m.named=false then (0,{ lay m { kind:=3,text:=m.got,names:=[],kids:=[] } with state:=6 })
 else if (KM m).any (λs=>s.toList==m.got.toList) then (4,m)
 else (0,{ m with nodes:=QP (m.opn.getLastD 0) m.got m.nodes,state:=5 })
def plain(m:zh)(b:Int):Int×zh:=
 if b=34 then closed m
 else if b=92 then (0,{ m with state:=10 })
 else if b<32 then (2,m)
 else if b<128 then (0,{ m with got:=m.got++one b })
 else if (qa b).1=0 then (2,m)
 else (0,{ m with need:=(qa b).1,low:=(qa b).2.1,high:=(qa b).2.2,got:=m.got++one b,state:=9 })
def escape(m:zh)(b:Int):Int×zh:=
 if b=34\/b=92\/b=47 then (0,{ m with state:=8,got:=m.got++one b })
 else if b=110 then (0,{ m with state:=8,got:=m.got++one 10 })
 else if b=116 then (0,{ m with state:=8,got:=m.got++one 9 })
 else if b=117 then (0,{ m with state:=11,need:=4,number:=0 })
 else (2,m)
def digit(m:zh)(b:Int):Int×zh:=
 if zG b<0 then (2,m)
 else if m.need-1=2/\216<=16*m.number+zG b/\16*m.number+zG b<=223 then (2,m)
 else if m.need-1=0 then (0,{ m with number:=16*m.number+zG b,need:=m.need-1,got:=m.got++enc (16*m.number+zG b),state:=8 })
 else (0,{ m with number:=16*m.number+zG b,need:=m.need-1 })
def step(m:zh)(b:Int):Int×zh:=
 if m.state=8 then plain m b
 else if m.state=9 then
  if b<m.low\/m.high<b then (2,m) else (0,{ m with got:=m.got++one b,low:=128,high:=191,need:=m.need-1,state:=if m.need-1=0 then 8 else m.state })
 else if m.state=10 then escape m b
 else if m.state=11 then digit m b
 else if m.state=7 then
  if b≠((m.word.data.toList.getD 0 0).toNat:Int) then (2,m) else (0,{ m with word:=m.word.extract 1 m.word.size,state:=if m.word.size=1 then 6 else m.state })
 else if Jb b then (0,m)
 else if m.state=6\/m.state=5 then after m b
 else if (m.state=2/\b=93)\/(m.state=3/\b=125) then vG m b
 else if m.state=3\/m.state=4 then (if b≠34 then (2,m) else (0,{ m with state:=8,named:=true,got:=⟨#[]⟩ }))
 else Ja m b
theorem Vd(m:zh)(x:Int)(h:m.state=8):step m x=plain m x:=by unfold step;rw[if_pos h]
theorem mg(m:zh)(x:Int)(h:m.state=9):step m x=if x<m.low\/m.high<x then (2,m) else (0,{ m with got:=m.got++one x,low:=128,high:=191,need:=m.need-1,state:=if m.need-1=0 then 8 else 9 }):=by
 unfold step;rw[if_neg (by omega),if_pos h,h]
theorem Og(m:zh)(x:Int)(h:m.state=10):step m x=escape m x:=by unfold step;rw[if_neg (by omega),if_neg (by omega),if_pos h]
theorem Oh(m:zh)(x:Int)(h:m.state=11):step m x=digit m x:=by unfold step;rw[if_neg (by omega),if_neg (by omega),if_neg (by omega),if_pos h]
theorem Oi(m:zh)(x:Int)(h:m.state=7):step m x=if x≠((m.word.data.toList.getD 0 0).toNat:Int) then (2,m) else (0,{ m with word:=m.word.extract 1 m.word.size,state:=if m.word.size=1 then 6 else 7 }):=by
 unfold step;rw[if_neg (by omega),if_neg (by omega),if_neg (by omega),if_neg (by omega),if_pos h,h]
theorem YQ(m:zh)(x:Int)(h:m.state<7):step m x=if Jb x then (0,m)
 else if m.state=6\/m.state=5 then after m x
 else if (m.state=2/\x=93)\/(m.state=3/\x=125) then vG m x
 else if m.state=3\/m.state=4 then (if x≠34 then (2,m) else (0,{ m with state:=8,named:=true,got:=⟨#[]⟩ }))
 else Ja m x:=by
 unfold step;rw[if_neg (by omega),if_neg (by omega),if_neg (by omega),if_neg (by omega),if_neg (by omega)]
structure Bnd (n:Nat) (m:zh):Prop where
 nodes:m.nodes.length<=n
 opn:m.opn.length<=n
 kids:∀(i:Nat) (d:Node),m.nodes[i]?=some d->d.kids.length<=n/\d.names.length<=n
 got:m.got.size<=3*n
 top:∀o ∈ m.opn,o<m.nodes.length
theorem Bnd.like{n:Nat}{m m':zh}(h:Bnd n m)(b:m'.opn=m.opn)(a:m'.nodes=m.nodes)(c:m'.got.size<=3*n):Bnd n m':=
 ⟨by rw[a];exact h.nodes,by rw[b];exact h.opn,by rw[a];exact h.kids,c,by rw[b,a];exact h.top⟩
theorem Bnd.succ{n:Nat}{m m':zh}(h:Bnd n m)(b:m'.opn=m.opn)(a:m'.nodes=m.nodes)(g:m'.got.size<=m.got.size+3):Bnd (n+1) m':=by
 have c:=h.nodes;have e:=h.opn;have f:=h.got;exact⟨by rw[a];omega,by rw[b];omega,by rw[a];intro i d hd;have:=h.kids i d hd;omega,by omega,by rw[b,a];exact h.top⟩
theorem eZ(m:zh)(d:Node):(lay m d).opn=m.opn:=by unfold lay;split<;>rfl
theorem fq(m:zh)(d:Node):(lay m d).state=m.state:=by unfold lay;split<;>rfl
theorem YH(x:Int):(one x).size=1:=rfl
theorem bY(x:Int):(enc x).size<=3:=by unfold enc one;split<;>(try split)<;>simp[ByteArray.size]
def init:zh:={ state:=1,opn:=[],nodes:=[],named:=false,got:=⟨#[]⟩,need:=0,low:=0,high:=0,number:=0,word:=⟨#[]⟩,root:=0 }
def run:zh->List UInt8->Nat->Int×Nat×zh
 | m,[],p=>(0,p,m)
 | m,c::r,p=>if (step m (c.toNat:Int)).1=0 then run (step m (c.toNat:Int)).2 r (p+1) else ((step m (c.toNat:Int)).1,p,m)
def pend(m:zh):Prop:=m.state=5\/m.state=1\/(8<=m.state/\m.named=false)
def asks(m:zh):Prop:=(2<=m.state/\m.state<=7)\/(8<=m.state/\m.named=true)
def KQ(m:zh):Prop:=∀(i:Nat) (n:Node),m.opn.getLast?=some i->m.nodes[i]?=some n->n.kind≠1
def Ev(a:List Node):Prop:=∀(i:Nat) (n:Node),a[i]?=some n->(∀k ∈ n.kids,k<a.length)/\(n.kind=1->n.names.length=n.kids.length)
structure Tree (m:zh):Prop where
 kids:∀(i:Nat) (n:Node),m.nodes[i]?=some n->∀k ∈ n.kids,k<m.nodes.length
 even:∀(i:Nat) (n:Node),m.nodes[i]?=some n->¬(pend m/\m.opn.getLast?=some i)->n.kind=1->n.names.length=n.kids.length
 odd:∀(i:Nat) (n:Node),m.nodes[i]?=some n->pend m->m.opn.getLast?=some i->n.kind=1->n.names.length=n.kids.length+1
 two:m.state=2->KQ m
 full:asks m->m.nodes≠[]
 root0:0<=m.root
 root:m.nodes≠[]->m.root<(m.nodes.length:Int)
theorem Tree.like{m m':zh}(h:Tree m)(b:m'.opn=m.opn)(a:m'.nodes=m.nodes)(d:m'.root=m.root)(c:pend m'↔pend m)(f:m'.state=2->m.state=2)(g:asks m'->asks m):Tree m':=by
 refine⟨by rw[a];exact h.kids,by rw[a,b,c];exact h.even,by rw[a,b,c];exact h.odd,λe=>?_,λe=>by rw[a];exact h.full (g e),by rw[d];exact h.root0,by rw[a,d];exact h.root⟩
 have:=h.two (f e)
 unfold KQ at this |-;rw[b,a];exact this
theorem Tree.ev{m:zh}(h:Tree m)(b:¬pend m):Ev m.nodes:=λi n a=>⟨h.kids i n a,h.even i n a (λe=>b e.1)⟩
theorem Tree.of{m:zh}(h:Ev m.nodes)(f:¬pend m)(c:m.state=2->KQ m)(d:m.nodes≠[])(b:0<=m.root)(g:m.root<(m.nodes.length:Int)):Tree m:=
 ⟨λi n a=>(h i n a).1,λi n a _=>(h i n a).2,λ_ _ _ e=>absurd e f,c,λ_=>d,b,λ_=>g⟩
def uL:List BA->List Nat->BA->Int
 | s::ss,k::ks,name=>if s.toList==name.toList then (k:Int) else uL ss ks name
 | _,_,_=>-1
def zu(n:Node)(name:BA):Int:=uL n.names n.kids name
def YI(n:Node)(names:List BA):Bool:=n.names.all (λs=>names.any λt=>t.toList==s.toList)&&n.kind==1
def Vh(a:List Node):List Nat->Option (List BA)
 | []=>some []
 | k::ks=>match a[k]? with
  | some x=>if x.kind=3 then (Vh a ks).map λl=>x.text::l else none
  | none=>none
def kY(a:List Node)(k:Int):Option (List BA):=
 if k<0 then none
 else match a[k.toNat]? with
  | none=>none
  | some n=>if n.kind=3 then some [n.text] else if n.kind≠2\/n.kids.length<1\/10<n.kids.length then none else Vh a n.kids
def qX(s:BA):Bool:=(parts s).isSome
def zZ:BA:=⟨#[110,111,116]⟩
def Ym(a:List Node)(k:Int):Bool×Option (List BA):=
 if k<0 then (false,none)
 else match a[k.toNat]? with
  | none=>(false,none)
  | some n=>if n.kind=1 then (if YI n [zZ]=true/\n.names.length=1 then (true,kY a (n.kids.getD 0 0:Nat)) else (false,none)) else (false,kY a k)
def digits(l:List UInt8):Bool:=l.all λc=>decide (48<=c.toNat/\c.toNat<=57)
def vK(t:BA):Bool:=decide (1<=t.size/\t.size<=18)&&((t.data.toList.getD 0 0).toNat != 48)&&digits t.data.toList
def qE(s:BA):Bool:=
 (s.toList==[48])||vK (if 0<s.size/\(s.data.toList.getD 0 0).toNat=45 then s.extract 1 s.size else s)
theorem Jr(s:BA)(h:0<s.size):s.data.toList.getD 0 0=s[0]:=by
 have e:=PQ s 0 h;rw[List.take_zero] at e
 cases hl:s.data.toList with
 | nil=>rw[hl] at e;simp at e
 | cons a r=>rw[hl] at e;simp at e;simpa using e
theorem Hu(s:BA)(h:0<s.size)(a:(s[0].toNat:Int)=48):vK s=false:=by
 unfold vK;rw[Jr s h];simp;omega
theorem gJ(s:BA)(h:¬(1<=s.size/\s.size<=18)):vK s=false:=by unfold vK;simp[h]
def Zx(op s:BA):Bool:=
 if op.toList==[115,97,109,101] then decide (s.size<=60)
 else if op.toList==[117,110,100,101,114] then decide (s.size<=60) && !s.toList.isEmpty
 else if op.toList==[98,101,108,111,119] then qE s
 else true
def jK(op:BA):Bool:=(op.toList==[115,97,109,101])||(op.toList==[117,110,100,101,114])||(op.toList==[98,101,108,111,119])||(op.toList==[108,105,107,101])
def ZY(op:BA)(l:List BA):Bool:=l.all (Zx op)&&jK op
def bOp:BA:=⟨#[111,112]⟩
def zt:BA:=⟨#[107,101,121]⟩
def bNo:BA:=⟨#[110,111]⟩
def zy:BA:=⟨#[118,97,108,117,101]⟩
structure yA where
 op:BA
 key:BA
 vals:List BA
 no:Bool
 sh:Bool
 pt:Bool
def kindOf(a:List Node)(k:Int):Int:=match a[k.toNat]? with
 | some x=>x.kind
 | none=>0
def textOf(a:List Node)(k:Int):BA:=match a[k.toNat]? with
 | some x=>x.text
 | none=>⟨#[]⟩
def xI(op:BA):Bool:=op.toList==[97,98,115,101,110,116]
def qD(op:BA):Bool:=op.toList==[108,105,107,101]
def noT(a:List Node)(no:Int):Bool:=decide (0<=no)&&(kindOf a no==4)
def JJ(a:List Node)(no:Int):Bool:=decide (0<=no)&&(!(kindOf a no==4) && !(kindOf a no==5))
def ji:yA:=⟨⟨#[]⟩,⟨#[]⟩,[],false,true,false⟩
def Yp(a:List Node)(n:Node):yA:=
 if zu n bOp<0\/zu n zt<0\/kindOf a (zu n bOp)≠3\/kindOf a (zu n zt)≠3 then ji
 else if xI (textOf a (zu n bOp)) then
  ⟨textOf a (zu n bOp),textOf a (zu n zt),[],noT a (zu n bNo),JJ a (zu n bNo) || !zM (textOf a (zu n zt)) || !YI n [bOp,zt,bNo],false⟩
 else
  ⟨textOf a (zu n bOp),textOf a (zu n zt),(kY a (zu n zy)).getD [],noT a (zu n bNo),
   JJ a (zu n bNo)||(!(kY a (zu n zy)).isSome || !ZY (textOf a (zu n bOp)) ((kY a (zu n zy)).getD [])) || !zM (textOf a (zu n zt)) || !YI n [bOp,zt,bNo,zy],
   qD (textOf a (zu n bOp)) && !((kY a (zu n zy)).getD []).all qX⟩
structure Vs where
 cs:List yA
 sh:Bool
 pt:Bool
def Yq(a:List Node)(b:List Nat):List yA:=b.map λk=>match a[k]? with
 | some n=>Yp a n
 | none=>ji
def V6(a:List Node)(k:Int):Vs:=
 if k<0 then ⟨[],false,false⟩
 else match a[k.toNat]? with
  | none=>⟨[],true,false⟩
  | some n=>if n.kind≠2\/5<n.kids.length then ⟨[],true,false⟩ else ⟨Yq a n.kids,(Yq a n.kids).any yA.sh,(Yq a n.kids).any yA.pt⟩
theorem dV(N:Nat):∀(b:List BA) (a:List Nat) (name:BA),(∀k ∈ a,k<N) -> -1<=uL b a name/\uL b a name<(N:Int)
 | [],a,name,_=>by simp[uL];omega
 | s::b,[],name,_=>by simp[uL];omega
 | s::b,k::a,name,h=>by
  unfold uL
  split
  ·have:=h k (by simp);omega
  ·exact dV N b a name (λj c=>h j (by simp[c]))
theorem Jv{a:List Node}(b:Ev a){i:Nat}{n:Node}(c:a[i]?=some n)(name:BA):-1<=zu n name/\zu n name<(a.length:Int):=
 dV a.length n.names n.kids name (b i n c).1
def naming(m:zh):Prop:=m.state=3\/m.state=4\/(8<=m.state/\m.named=true)
def NoN(a:List Node):Prop:=∀(i:Nat) (n:Node),a[i]?=some n->n.kind≠1->n.names=[]
structure VA (m:zh):Prop where
 non:NoN m.nodes
 top:naming m->XZ m=1
theorem VA.like{m m':zh}(h:VA m)(b:m'.opn=m.opn)(a:m'.nodes=m.nodes)(c:naming m'->naming m):VA m':=
 ⟨by rw[a];exact h.non,λe=>by have:=h.top (c e);unfold XZ at this |-;rw[a,b];exact this⟩
end Ref
end Go.Proofs.YtdakgnaojakldabGreatDoor
