/- P -/
import Derived.Test.YtdakgnaojakldaaGreatDoorP05
import Derived.KernelRfl
set_option maxRecDepth 100000
namespace Go.Proofs.YtdakgnaojakldaaGreatDoor
namespace Rd
open Ref
def zK (ms:List (ByteArray×V)) (nm:ByteArray):Option V:=(ms.find? fun m=>m.1.toList==nm.toList).map Prod.snd
def Zf:List V→Option (List ByteArray)
 | []=>some []
 | .str s::vs=>(Zf vs).map fun l=>s::l
 | _::_=>none
def zS:Option V→Option (List ByteArray)
 | some (.str s)=>some [s]
 | some (.list vs)=>if vs.length<1∨10<vs.length then none else Zf vs
 | _=>none
def qX (ms:List (ByteArray×V)) (names:List ByteArray):Bool:=ms.all fun m=>names.any fun t=>t.toList==m.1.toList
def xZ:Option V→Bool×Option (List ByteArray)
 | some (.obj ms)=>if qX ms [ZF]=true∧ms.length=1 then (true,zS ((ms.map Prod.snd)[0]?)) else (false,none)
 | x=>(false,zS x)
def opV (x:Option V):Option ByteArray:=match x with
 | some (.str s)=>some s
 | _=>none
def zgB:Option V→Bool
 | some (.word b)=>b
 | _=>false
def jV:Option V→Bool
 | none=>false
 | some (.word _)=>false
 | _=>true
def zaO (ms:List (ByteArray×V)):xg:=match opV (zK ms bOp),opV (zK ms x9) with
 | some op,some key=>
  if zV op then ⟨op,key,[],zgB (zK ms bNo),jV (zK ms bNo) || !zY key || !qX ms [bOp,x9,bNo],false⟩
  else ⟨op,key,(zS (zK ms zt)).getD [],zgB (zK ms bNo),
   jV (zK ms bNo)||(!(zS (zK ms zt)).isSome || !zgA op ((zS (zK ms zt)).getD [])) || !zY key || !qX ms [bOp,x9,bNo,zt],
   xR op && !((zS (zK ms zt)).getD []).all xY⟩
 | _,_=>xQ
def yE:V→xg
 | .obj ms=>zaO ms
 | _=>xQ
def qZ:Option V→zeO
 | none=>⟨[],false,false⟩
 | some (.list vs)=>if 5<vs.length then ⟨[],true,false⟩ else ⟨vs.map yE,(vs.map yE).any xg.sh,(vs.map yE).any xg.pt⟩
 | some _=>⟨[],true,false⟩
theorem Jz {ns:List Ref.Node} {i:Nat} {v:V} (h:Rep ns i v):∃n,ns[i]?=some n:=by
 cases h with
 | str _ n _ h=>exact ⟨n,h⟩
 | word _ n _ h=>exact ⟨n,h⟩
 | list _ n _ h=>exact ⟨n,h⟩
 | obj _ n _ h=>exact ⟨n,h⟩
theorem zes (ns:List Ref.Node) (nm:ByteArray):∀(ms:List (ByteArray×V)) (ks:List Nat),ks.length=ms.length→(∀(j k:Nat) (x:ByteArray×V),ks[j]?=some k→ms[j]?=some x→Rep ns k x.2) →
  (zK ms nm=none∧Uz (ms.map Prod.fst) ks nm = -1)∨∃v k,zK ms nm=some v∧Uz (ms.map Prod.fst) ks nm=((k:Nat):Int)∧Rep ns k v
 | [],ks,_,_=>by left;exact ⟨rfl,by simp [Uz]⟩
 | m::ms,[],hl,_=>by simp at hl
 | m::ms,k::ks,hl,h=>by
  unfold zK
  simp only [List.map_cons,Uz,List.find?_cons]
  by_cases e:(m.1.toList==nm.toList)=true
  ·rw [e]
   right
   exact ⟨m.2,k,rfl,by simp,h 0 k m rfl rfl⟩
  ·have e':(m.1.toList==nm.toList)=false:=by simpa using e
   rw [e']
   simp only [Bool.false_eq_true,if_false]
   exact zes ns nm ms ks (by simpa using hl) (fun j k' x h1 h2=>h (j+1) k' x (by simpa using h1) (by simpa using h2))
theorem vZ {ns:List Ref.Node} {i:Nat} {n:Ref.Node} {ms:List (ByteArray×V)} (h:Rep ns i (.obj ms)) (hn:ns[i]?=some n) (nm:ByteArray) :
  (zK ms nm=none∧zX n nm = -1)∨∃v k,zK ms nm=some v∧zX n nm=((k:Nat):Int)∧Rep ns k v:=by
 cases h with
 | obj _ n' _ h1 h2 h3 h4 h5 h6=>
  rw [hn] at h1
  injection h1 with h1
  subst h1
  unfold zX
  rw [h3]
  exact zes ns nm ms n.kids h4 h6
theorem Qh {ns:List Ref.Node} {i:Nat} {n:Ref.Node} {v:V} (h:Rep ns i v) (hn:ns[i]?=some n) (hv:∀ms,v ≠ .obj ms) (nm:ByteArray):zX n nm = -1∧n.kind≠1∧n.names=[]:=by
 have key:n.names=[]∧n.kind≠1:=by
  cases h with
  | str _ n' _ h1 h2 h3 h4 h5=>rw [hn] at h1;injection h1 with h1;subst h1;exact ⟨h5,by omega⟩
  | word _ n' b h1 h2 h3 h4=>rw [hn] at h1;injection h1 with h1;subst h1;exact ⟨h4,by cases b<;>simp at h2<;>omega⟩
  | list _ n' _ h1 h2 h3=>rw [hn] at h1;injection h1 with h1;subst h1;exact ⟨h3,by omega⟩
  | obj _ n' ms=>exact absurd rfl (hv ms)
 refine ⟨?_,key.2,key.1⟩
 unfold zX
 rw [key.1]
 simp [Uz]
theorem Jg {ns:List Ref.Node} {k:Nat} {v:V} (h:Rep ns k v):(kindOf ns k=1↔∃ms,v = .obj ms)∧(kindOf ns k=2↔∃vs,v = .list vs)∧(kindOf ns k=3↔∃s,v = .str s)∧(kindOf ns k=4↔v = .word true)∧(kindOf ns k=5↔v = .word false)∧(∀s,v = .str s→textOf ns k=s):=by
 unfold kindOf textOf
 rw [show ((k:Int)).toNat=k by simp]
 cases h with
 | str _ n s h1 h2 h3=>rw [h1];simp [h2,h3]
 | word _ n b h1 h2=>rw [h1];cases b<;>simp at h2<;>simp [h2]
 | list _ n vs h1 h2=>rw [h1];simp [h2]
 | obj _ n ms h1 h2=>rw [h1];simp [h2]
theorem YW (ns:List Ref.Node):∀(vs:List V) (ks:List Nat),ks.length=vs.length→(∀(j k:Nat) (v:V),ks[j]?=some k→vs[j]?=some v→Rep ns k v)→xm ns ks=Zf vs
 | [],[],_,_=>rfl
 | [],k::ks,hl,_=>by simp at hl
 | v::vs,[],hl,_=>by simp at hl
 | v::vs,k::ks,hl,h=>by
  have h0:=h 0 k v rfl rfl
  have ih:=YW ns vs ks (by simpa using hl) (fun j k' x h1 h2=>h (j+1) k' x (by simpa using h1) (by simpa using h2))
  rw [xm,ih]
  cases h0 with
  | str _ n s h1 h2 h3=>rw [h1];simp [h2,h3,Zf]
  | word _ n b h1 h2=>rw [h1];cases b<;>simp at h2<;>simp [h2,Zf]
  | list _ n vs' h1 h2=>rw [h1];simp [h2,Zf]
  | obj _ n ms h1 h2=>rw [h1];simp [h2,Zf]
theorem Q7 {ns:List Ref.Node} {k:Nat} {v:V} (h:Rep ns k v):zH ns k=zS (some v):=by
 unfold zH
 rw [if_neg (by omega),show ((k:Int)).toNat=k by simp]
 cases h with
 | str _ n s h1 h2 h3=>rw [h1];simp [h2,h3,zS]
 | word _ n b h1 h2=>rw [h1];cases b<;>simp at h2<;>simp [h2,zS]
 | list _ n vs h1 h2 h3 h4 h5 h6=>
  rw [h1]
  simp only [h2,zS]
  rw [if_neg (by decide),h4]
  by_cases c:vs.length<1∨10<vs.length
  ·rw [if_pos (.inr c),if_pos c]
  ·rw [if_neg (by simpa using c),if_neg c]
   exact YW ns vs n.kids h4 h6
 | obj _ n ms h1 h2=>rw [h1];simp [h2,zS]
theorem zcP (ns:List Ref.Node):zH ns (-1)=zS none:=by
 unfold zH;rw [if_pos (by decide)];rfl
theorem Jh {ns:List Ref.Node} {i:Nat} {n:Ref.Node} {ms:List (ByteArray×V)} (h:Rep ns i (.obj ms)) (hn:ns[i]?=some n) (names:List ByteArray):vM n names=qX ms names:=by
 cases h with
 | obj _ n' _ h1 h2 h3 h4 h5 h6=>
  rw [hn] at h1
  injection h1 with h1
  subst h1
  unfold vM qX
  rw [h3,h2,List.all_map]
  simp [Function.comp_def]
theorem zfH {ns:List Ref.Node} {k:Nat} {v:V} (h:Rep ns k v):qY ns k=xZ (some v):=by
 have hs:=Q7 h
 have hk:=Jg h
 obtain ⟨n,hn⟩:=Jz h
 unfold qY
 rw [if_neg (by omega),show ((k:Int)).toNat=k by simp,hn]
 simp only
 have hkn:kindOf ns k=n.kind:=by unfold kindOf;rw [show ((k:Int)).toNat=k by simp,hn]
 rw [hkn] at hk
 by_cases c:n.kind=1
 ·rw [if_pos c]
  obtain ⟨ms,rfl⟩:=hk.1.1 c
  rw [Jh h hn]
  cases h with
  | obj _ n' _ h1 h2 h3 h4 h5 h6=>
   rw [hn] at h1
   injection h1 with h1
   subst h1
   have hl:n.names.length=ms.length:=by rw [h3];simp
   unfold xZ
   simp only
   rw [hl]
   by_cases c2:qX ms [ZF]=true∧ms.length=1
   ·rw [if_pos c2,if_pos c2]
    have h0:0<ms.length:=by omega
    have hk0:n.kids[0]?=some (n.kids[0]'(by omega)):=List.getElem?_eq_getElem (by omega)
    have hm0:ms[0]?=some ms[0]:=List.getElem?_eq_getElem h0
    have hr:=Q7 (h6 0 _ _ hk0 hm0)
    have e1:n.kids.getD 0 0=n.kids[0]'(by omega):=by rw [List.getD_eq_getElem?_getD,hk0];rfl
    have e2:(ms.map Prod.snd)[0]?=some ms[0].2:=by rw [List.getElem?_map,hm0];rfl
    rw [e1,e2,hr]
   ·rw [if_neg c2,if_neg c2]
 ·rw [if_neg c]
  have hno:∀ms,v ≠ .obj ms:=fun ms e=>c (hk.1.2 ⟨ms,e⟩)
  rw [hs]
  cases v with
  | obj ms=>exact absurd rfl (hno ms)
  | _=>rfl
theorem zfF (ns:List Ref.Node):qY ns (-1)=xZ none:=by
 unfold qY;rw [if_pos (by decide)];rfl
def KT (ns:List Ref.Node) (h:Int) (x:Option V):Prop:=(x=none∧h = -1)∨∃v k,x=some v∧h=((k:Nat):Int)∧Rep ns k v
theorem KT.strings {ns:List Ref.Node} {h:Int} {x:Option V} (r:KT ns h x):zH ns h=zS x:=by
 rcases r with ⟨rfl,rfl⟩|⟨v,k,rfl,rfl,hr⟩
 ·exact zcP ns
 ·exact Q7 hr
theorem KT.choice {ns:List Ref.Node} {h:Int} {x:Option V} (r:KT ns h x):qY ns h=xZ x:=by
 rcases r with ⟨rfl,rfl⟩|⟨v,k,rfl,rfl,hr⟩
 ·exact zfF ns
 ·exact zfH hr
theorem KT.noT {ns:List Ref.Node} {h:Int} {x:Option V} (r:KT ns h x):Ref.noT ns h=zgB x∧Ref.QB ns h=jV x:=by
 rcases r with ⟨rfl,rfl⟩|⟨v,k,rfl,rfl,hr⟩
 ·exact ⟨rfl,rfl⟩
 ·have hk:=Jg hr
  unfold Ref.noT Ref.QB
  cases v with
  | word b=>
   cases b with
   | true=>
    have:=hk.2.2.2.1.2 rfl
    rw [this];simp [zgB,jV]
   | false=>
    have:=hk.2.2.2.2.1.2 rfl
    rw [this];simp [zgB,jV]
  | str s=>
   have:=hk.2.2.1.2 ⟨s,rfl⟩
   rw [this];simp [zgB,jV]
  | list l=>
   have:=hk.2.1.2 ⟨l,rfl⟩
   rw [this];simp [zgB,jV]
  | obj l=>
   have:=hk.1.2 ⟨l,rfl⟩
   rw [this];simp [zgB,jV]
theorem KT.op {ns:List Ref.Node} {h:Int} {x:Option V} (r:KT ns h x):(opV x=none∧(h<0∨kindOf ns h≠3))∨∃s,opV x=some s∧0≤h∧kindOf ns h=3∧textOf ns h=s:=by
 rcases r with ⟨rfl,rfl⟩|⟨v,k,rfl,rfl,hr⟩
 ·left;exact ⟨rfl, .inl (by decide)⟩
 ·have hk:=Jg hr
  cases v with
  | str s=>right;exact ⟨s,rfl,by omega,hk.2.2.1.2 ⟨s,rfl⟩,hk.2.2.2.2.2 s rfl⟩
  | word b=>left;exact ⟨rfl, .inr (fun e=>by obtain ⟨s,hs⟩:=hk.2.2.1.1 e;cases hs)⟩
  | list l=>left;exact ⟨rfl, .inr (fun e=>by obtain ⟨s,hs⟩:=hk.2.2.1.1 e;cases hs)⟩
  | obj l=>left;exact ⟨rfl, .inr (fun e=>by obtain ⟨s,hs⟩:=hk.2.2.1.1 e;cases hs)⟩
theorem zjX {ns:List Ref.Node} {k:Nat} {n:Ref.Node} {v:V} (h:Rep ns k v) (hn:ns[k]?=some n):Yy ns n=yE v:=by
 by_cases ho:∃ms,v = .obj ms
 ·obtain ⟨ms,rfl⟩:=ho
  have r1:KT ns (zX n bOp) (zK ms bOp):=vZ h hn bOp
  have r2:KT ns (zX n x9) (zK ms x9):=vZ h hn x9
  have r3:KT ns (zX n bNo) (zK ms bNo):=vZ h hn bNo
  have r4:KT ns (zX n zt) (zK ms zt):=vZ h hn zt
  have hs:=r4.strings
  obtain ⟨hn1,hn2⟩:=r3.noT
  show Yy ns n=zaO ms
  unfold Yy zaO
  rw [Jh h hn,Jh h hn,hs,hn1,hn2]
  rcases r1.op with ⟨e1,c1⟩|⟨s1,e1,a1,b1,t1⟩
  ·rw [if_pos (by rcases c1 with c1|c1;exact .inl c1;exact .inr (.inr (.inl c1))),e1]
  rcases r2.op with ⟨e2,c2⟩|⟨s2,e2,a2,b2,t2⟩
  ·rw [if_pos (by rcases c2 with c2|c2;exact .inr (.inl c2);exact .inr (.inr (.inr c2))),e1,e2]
  rw [if_neg (by omega),e1,e2,t1,t2]
 ·have hv:∀ms,v ≠ .obj ms:=fun ms e=>ho ⟨ms,e⟩
  have hx:=(Qh h hn hv bOp).1
  unfold Yy
  rw [if_pos (.inl (by rw [hx];decide))]
  cases v with
  | obj ms=>exact absurd rfl (hv ms)
  | _=>rfl
theorem V4 (ns:List Ref.Node):∀(vs:List V) (ks:List Nat),ks.length=vs.length→(∀(j k:Nat) (v:V),ks[j]?=some k→vs[j]?=some v→Rep ns k v)→yf ns ks=vs.map yE
 | [],[],_,_=>rfl
 | [],k::ks,hl,_=>by simp at hl
 | v::vs,[],hl,_=>by simp at hl
 | v::vs,k::ks,hl,h=>by
  have h0:=h 0 k v rfl rfl
  have ih:=V4 ns vs ks (by simpa using hl) (fun j k' x h1 h2=>h (j+1) k' x (by simpa using h1) (by simpa using h2))
  unfold yf at ih ⊢
  rw [List.map_cons,List.map_cons,ih]
  obtain ⟨n,hn⟩:=Jz h0
  rw [hn]
  simp only
  rw [zjX h0 hn]
theorem KT.conds {ns:List Ref.Node} {h:Int} {x:Option V} (r:KT ns h x):QJ ns h=qZ x:=by
 rcases r with ⟨rfl,rfl⟩|⟨v,k,rfl,rfl,hr⟩
 ·unfold QJ;rw [if_pos (by decide)];rfl
 ·unfold QJ
  rw [if_neg (by omega),show ((k:Int)).toNat=k by simp]
  cases hr with
  | str _ n s h1 h2 h3=>rw [h1];simp [h2,qZ]
  | word _ n b h1 h2=>rw [h1];cases b<;>simp at h2<;>simp [h2,qZ]
  | obj _ n ms h1 h2=>rw [h1];simp [h2,qZ]
  | list _ n vs h1 h2 h3 h4 h5 h6=>
   rw [h1]
   simp only [qZ]
   rw [h2,h4,V4 ns vs n.kids h4 h6]
   by_cases c:5<vs.length
   ·rw [if_pos (.inr c),if_pos c]
   ·rw [if_neg (by omega),if_neg c]
structure qN where
 eff:ByteArray
 who:Bool×List ByteArray
 act:Bool×List ByteArray
 on:Bool×List ByteArray
 cs:List xg
 sh:Bool
 pt:Bool
def zk:ByteArray:=⟨#[101,102,102,101,99,116]⟩
def jB:ByteArray:=⟨#[119,104,111]⟩
def bDo:ByteArray:=⟨#[100,111]⟩
def bOn:ByteArray:=⟨#[111,110]⟩
def bIf:ByteArray:=⟨#[105,102]⟩
def zN:ByteArray:=⟨#[115,116,97,116,101,109,101,110,116]⟩
def zZ (s:ByteArray):Bool:=(s.toList==[97,108,108,111,119])||(s.toList==[100,101,110,121])
def yJ:qN:=⟨⟨#[]⟩,(false,[]),(false,[]),(false,[]),[],true,false⟩
def chD (c:Bool×Option (List ByteArray)):Bool×List ByteArray:=(c.1,c.2.getD [])
def chP (c:Bool×Option (List ByteArray)):Bool:=!((c.2.getD []).all xY)
def Xo (eff:ByteArray) (a b c:Bool×Option (List ByteArray)) (cs:zeO):qN:=
 ⟨eff,chD a,chD b,chD c,cs.cs,!zZ eff || !a.2.isSome || !b.2.isSome || !c.2.isSome||cs.sh,chP a||chP b||chP c||cs.pt⟩
def Xy (ns:List Ref.Node) (n:Ref.Node):qN:=
 if vM n [zk,jB,bDo,bOn,bIf]=false∨zX n zk<0∨kindOf ns (zX n zk)≠3 then yJ
 else Xo (textOf ns (zX n zk)) (qY ns (zX n jB)) (qY ns (zX n bDo)) (qY ns (zX n bOn)) (QJ ns (zX n bIf))
def zaF (ms:List (ByteArray×V)):qN:=match qX ms [zk,jB,bDo,bOn,bIf],opV (zK ms zk) with
 | true,some eff=>Xo eff (xZ (zK ms jB)) (xZ (zK ms bDo)) (xZ (zK ms bOn)) (qZ (zK ms bIf))
 | _,_=>yJ
def jC:V→qN
 | .obj ms=>zaF ms
 | _=>yJ
theorem zkv {ns:List Ref.Node} {k:Nat} {n:Ref.Node} {v:V} (h:Rep ns k v) (hn:ns[k]?=some n):Xy ns n=jC v:=by
 by_cases ho:∃ms,v = .obj ms
 ·obtain ⟨ms,rfl⟩:=ho
  have r1:KT ns (zX n zk) (zK ms zk):=vZ h hn zk
  have r2:KT ns (zX n jB) (zK ms jB):=vZ h hn jB
  have r3:KT ns (zX n bDo) (zK ms bDo):=vZ h hn bDo
  have r4:KT ns (zX n bOn) (zK ms bOn):=vZ h hn bOn
  have r5:KT ns (zX n bIf) (zK ms bIf):=vZ h hn bIf
  show Xy ns n=zaF ms
  unfold Xy zaF
  rw [Jh h hn,r2.choice,r3.choice,r4.choice,r5.conds]
  cases ho:qX ms [zk,jB,bDo,bOn,bIf] with
  | false=>rw [if_pos (.inl rfl)]
  | true=>
   rcases r1.op with ⟨e1,c1⟩|⟨s1,e1,a1,b1,t1⟩
   ·rw [if_pos (.inr c1),e1]
   ·rw [if_neg (by simp;omega),e1,t1]
 ·have hv:∀ms,v ≠ .obj ms:=fun ms e=>ho ⟨ms,e⟩
  have hx:=(Qh h hn hv zk).1
  unfold Xy
  rw [if_pos (.inr (.inl (by rw [hx];decide)))]
  cases v with
  | obj ms=>exact absurd rfl (hv ms)
  | _=>rfl
def yz:List qN→Nat→Int×Nat
 | [],_=>(0,0)
 | r::rs,i=>if r.sh then (5,i+1) else if r.pt then (6,i+1) else yz rs (i+1)
def zan:V→Int×Nat
 | .obj ms=>match zK ms zN with
  | some (.list vs)=>if ms.length≠1∨vs.length<1∨10<vs.length then (5,0) else yz (vs.map jC) 0
  | _=>(5,0)
 | _=>(5,0)
def vz (ns:List Ref.Node) (ks:List Nat):List qN:=ks.map fun k=>match ns[k]? with
 | some n=>Xy ns n
 | none=>yJ
def zmj (ns:List Ref.Node) (root:Nat):Int×Nat:=match ns[root]? with
 | none=>(5,0)
 | some r=>if r.kind≠1∨r.names.length≠1∨zX r zN<0 then (5,0) else match ns[(zX r zN).toNat]? with
  | none=>(5,0)
  | some n=>if n.kind≠2∨n.kids.length<1∨10<n.kids.length then (5,0) else yz (vz ns n.kids) 0
theorem Yr (ns:List Ref.Node):∀(vs:List V) (ks:List Nat),ks.length=vs.length→(∀(j k:Nat) (v:V),ks[j]?=some k→vs[j]?=some v→Rep ns k v)→vz ns ks=vs.map jC
 | [],[],_,_=>rfl
 | [],k::ks,hl,_=>by simp at hl
 | v::vs,[],hl,_=>by simp at hl
 | v::vs,k::ks,hl,h=>by
  have h0:=h 0 k v rfl rfl
  have ih:=Yr ns vs ks (by simpa using hl) (fun j k' x h1 h2=>h (j+1) k' x (by simpa using h1) (by simpa using h2))
  unfold vz at ih ⊢
  rw [List.map_cons,List.map_cons,ih]
  obtain ⟨n,hn⟩:=Jz h0
  rw [hn]
  simp only
  rw [zkv h0 hn]
theorem zkP {ns:List Ref.Node} {k:Nat} {v:V} (h:Rep ns k v):zmj ns k=zan v:=by
 obtain ⟨r,hr⟩:=Jz h
 have hk:=Jg h
 have hkn:kindOf ns k=r.kind:=by unfold kindOf;rw [show ((k:Int)).toNat=k by simp,hr]
 rw [hkn] at hk
 unfold zmj
 rw [hr]
 simp only
 by_cases ho:∃ms,v = .obj ms
 ·obtain ⟨ms,rfl⟩:=ho
  have h1:=hk.1.2 ⟨ms,rfl⟩
  have hl:r.names.length=ms.length:=by
   cases h with
   | obj _ n' _ h1 h2 h3=>rw [hr] at h1;injection h1 with h1;subst h1;rw [h3];simp
  rw [hl]
  unfold zan
  simp only
  rcases vZ h hr zN with ⟨e,c⟩|⟨x,j,e,c,hx⟩
  ·rw [if_pos (.inr (.inr (by rw [c];decide))),e]
  ·rw [e,c]
   by_cases c1:ms.length=1
   ·rw [if_neg (by omega),show (((j:Nat):Int)).toNat=j by simp]
    cases hx with
    | str _ n s h1 h2 h3=>rw [h1];simp [h2]
    | word _ n b h1 h2=>rw [h1];cases b<;>simp at h2<;>simp [h2]
    | obj _ n ms h1 h2=>rw [h1];simp [h2]
    | list _ n vs g1 g2 g3 g4 g5 g6=>
     rw [g1]
     simp only
     rw [g2,g4,Yr ns vs n.kids g4 g6]
     by_cases c2:vs.length<1∨10<vs.length
     ·rw [if_pos (.inr c2),if_pos (.inr c2)]
     ·rw [if_neg (by omega),if_neg (by omega)]
   ·rw [if_pos (.inr (.inl c1))]
    cases x with
    | list vs=>simp only;rw [if_pos (.inl c1)]
    | _=>rfl
 ·rw [if_pos (.inl (fun e=>ho (hk.1.1 e)))]
  cases v with
  | obj ms=>exact absurd ⟨ms,rfl⟩ ho
  | _=>rfl
def cls (sh pt:Bool):Nat:=if sh then 1 else if pt then 2 else 0
def Zc (l:List Nat):Nat:=if l.any (fun c=>c==1) then 1 else if l.any (fun c=>c==2) then 2 else 0
theorem zk5 (sh pt:Bool):(cls sh pt==1)=sh:=by cases sh<;>cases pt<;>rfl
theorem zkU (pt:Bool):(cls false pt==2)=pt:=by cases pt<;>rfl
theorem Xt:∀(l:List (Bool×Bool)),Zc (l.map fun x=>cls x.1 x.2)=cls (l.any Prod.fst) (l.any Prod.snd):=by
 intro l
 have e1:(l.map fun x=>cls x.1 x.2).any (fun c=>c==1)=l.any Prod.fst:=by
  rw [List.any_map]
  exact congrArg (fun f=>l.any f) (funext fun x=>zk5 x.1 x.2)
 unfold Zc
 rw [e1]
 cases h:l.any Prod.fst with
 | true=>rfl
 | false=>
  have e2:(l.map fun x=>cls x.1 x.2).any (fun c=>c==2)=l.any Prod.snd:=by
   rw [List.any_eq_false] at h
   clear e1
   induction l with
   | nil=>rfl
   | cons a r ih=>
    have ha:a.1=false:=by have:=h a (by simp);simpa using this
    rw [List.map_cons,List.any_cons,List.any_cons,ih (fun x hx=>h x (by simp [hx])),ha,zkU]
  rw [e2]
  rfl
theorem zeQ (c:Nat) (h:c≤2):Zc [c]=c:=by
 have:c=0∨c=1∨c=2:=by omega
 rcases this with rfl|rfl|rfl<;>rfl
theorem zkN (sh pt:Bool):cls sh pt≤2:=by cases sh<;>cases pt<;>decide
theorem Yj (l:List Nat):Zc l≤2:=by unfold Zc;split;decide;split<;>decide
def Zu (c:Option V→Nat):Option V→Nat
 | some (.list vs)=>if vs.length<1∨10<vs.length then 1 else Zc (vs.map fun v=>c (some v))
 | x=>Zc [c x]
def ZE (f:Option V→ByteArray):Option V→List ByteArray
 | some (.list vs)=>if vs.length<1∨10<vs.length then [] else vs.map fun v=>f (some v)
 | x=>[f x]
def strOf:Option V→ByteArray
 | some (.str s)=>s
 | _=>⟨#[]⟩
def VH:Option V→Nat
 | some (.str s)=>cls false (!xY s)
 | _=>1
def zT (f:ByteArray→Bool):Option V→Nat
 | some (.str s)=>cls (!f s) false
 | _=>1
def qO (f:ByteArray→Bool):Option V→ByteArray
 | some (.str s)=>if f s then s else ⟨#[]⟩
 | _=>⟨#[]⟩
theorem ui:∀(vs:List V),(∃l,Zf vs=some l∧vs=l.map .str)∨(Zf vs=none∧∃v ∈ vs,∀s,v ≠ .str s)
 | [] => .inl ⟨[],rfl,rfl⟩
 | v::vs=>by
  cases v with
  | str s=>
   rcases ui vs with ⟨l,h1,h2⟩|⟨h1,v,hv,h2⟩
   ·left;exact ⟨s::l,by simp [Zf,h1],by simp [h2]⟩
   ·right;exact ⟨by simp [Zf,h1],v,by simp [hv],h2⟩
  | word b=>right;exact ⟨rfl, .word b,by simp,fun s e=>by cases e⟩
  | list l=>right;exact ⟨rfl, .list l,by simp,fun s e=>by cases e⟩
  | obj l=>right;exact ⟨rfl, .obj l,by simp,fun s e=>by cases e⟩
theorem XC {l:List Nat} (h:1 ∈ l):Zc l=1:=by
 unfold Zc
 rw [if_pos]
 rw [List.any_eq_true]
 exact ⟨1,h,rfl⟩
theorem ziR (f:ByteArray→Bool) (l:List ByteArray):Zc (l.map fun s=>cls false (!f s))=cls false (!l.all f):=by
 have:=Xt (l.map fun s=>(false,!f s))
 rw [List.map_map] at this
 have e:((fun x:Bool×Bool=>cls x.1 x.2) ∘ fun s=>(false,!f s))=fun s=>cls false (!f s):=rfl
 rw [e] at this
 rw [this]
 have a1:(l.map fun s=>(false,!f s)).any Prod.fst=false:=by rw [List.any_map,List.any_eq_false];intro x _;simp
 have a2:(l.map fun s=>(false,!f s)).any Prod.snd = !l.all f:=by rw [List.any_map,List.not_all_eq_any_not];rfl
 rw [a1,a2]
theorem zdn (f:ByteArray→Bool) (l:List ByteArray):Zc (l.map fun s=>cls (!f s) false)=cls (!l.all f) false:=by
 have:=Xt (l.map fun s=>(!f s,false))
 rw [List.map_map] at this
 have e:((fun x:Bool×Bool=>cls x.1 x.2) ∘ fun s=>(!f s,false))=fun s=>cls (!f s) false:=rfl
 rw [e] at this
 rw [this]
 have a1:(l.map fun s=>(!f s,false)).any Prod.snd=false:=by rw [List.any_map,List.any_eq_false];intro x _;simp
 have a2:(l.map fun s=>(!f s,false)).any Prod.fst = !l.all f:=by rw [List.any_map,List.not_all_eq_any_not];rfl
 rw [a1,a2]
theorem Qi (x:Option V):Zu VH x=cls (!(zS x).isSome) (!((zS x).getD []).all xY):=by
 have hno:∀x:Option V,zS x=none→VH x=1→(∀vs,x≠some (.list vs))→Zu VH x=cls (!(zS x).isSome) (!((zS x).getD []).all xY):=by
  intro x h h1 h2
  rw [h]
  unfold Zu
  split
  ·rename_i vs;exact absurd rfl (h2 vs)
  ·rw [h1];rfl
 match x with
 | none=>exact hno none rfl rfl (by simp)
 | some (.word b)=>exact hno _ rfl rfl (by simp)
 | some (.obj ms)=>exact hno _ rfl rfl (by simp)
 | some (.str s)=>
  show Zc [VH (some (.str s))]=_
  simp only [VH,zS,Option.getD_some,Option.isSome_some,List.all_cons,List.all_nil,Bool.and_true,Bool.not_true]
  exact zeQ _ (zkN _ _)
 | some (.list vs)=>
  simp only [Zu,zS]
  by_cases c:vs.length<1∨10<vs.length
  ·rw [if_pos c,if_pos c];rfl
  ·rw [if_neg c,if_neg c]
   rcases ui vs with ⟨l,h1,rfl⟩|⟨h1,v,hv,h2⟩
   ·rw [h1,List.map_map]
    exact ziR xY l
   ·rw [h1]
    rw [XC]
    ·rfl
    ·rw [List.mem_map]
     refine ⟨v,hv,?_⟩
     cases v with
     | str s=>exact absurd rfl (h2 s)
     | _=>rfl
theorem Qm (f:ByteArray→Bool) (x:Option V):Zu (zT f) x=cls (!(zS x).isSome || !((zS x).getD []).all f) false:=by
 have hno:∀x:Option V,zS x=none→zT f x=1→(∀vs,x≠some (.list vs))→Zu (zT f) x=cls (!(zS x).isSome || !((zS x).getD []).all f) false:=by
  intro x h h1 h2
  rw [h]
  unfold Zu
  split
  ·rename_i vs;exact absurd rfl (h2 vs)
  ·rw [h1];rfl
 match x with
 | none=>exact hno none rfl rfl (by simp)
 | some (.word b)=>exact hno _ rfl rfl (by simp)
 | some (.obj ms)=>exact hno _ rfl rfl (by simp)
 | some (.str s)=>
  show Zc [zT f (some (.str s))]=_
  simp only [zT,zS,Option.getD_some,Option.isSome_some,List.all_cons,List.all_nil,Bool.and_true,Bool.not_true,Bool.false_or]
  exact zeQ _ (zkN _ _)
 | some (.list vs)=>
  simp only [Zu,zS]
  by_cases c:vs.length<1∨10<vs.length
  ·rw [if_pos c,if_pos c];rfl
  ·rw [if_neg c,if_neg c]
   rcases ui vs with ⟨l,h1,rfl⟩|⟨h1,v,hv,h2⟩
   ·rw [h1,List.map_map]
    exact zdn f l
   ·rw [h1]
    rw [XC]
    ·rfl
    ·rw [List.mem_map]
     refine ⟨v,hv,?_⟩
     cases v with
     | str s=>exact absurd rfl (h2 s)
     | _=>rfl
theorem zdV (x:Option V) (h:(zS x).isSome):ZE strOf x=(zS x).getD []:=by
 match x with
 | none=>simp [zS] at h
 | some (.word b)=>simp [zS] at h
 | some (.obj ms)=>simp [zS] at h
 | some (.str s)=>rfl
 | some (.list vs)=>
  simp only [ZE,zS] at h ⊢
  by_cases c:vs.length<1∨10<vs.length
  ·rw [if_pos c] at h;simp at h
  ·rw [if_neg c] at h ⊢
   rw [if_neg c]
   rcases ui vs with ⟨l,h1,rfl⟩|⟨h1,v,hv,h2⟩
   ·rw [h1,List.map_map]
    exact List.map_id' l
   ·rw [h1] at h;simp at h
theorem ze3 (f:ByteArray→Bool) (x:Option V) (h:(zS x).isSome) (hf:((zS x).getD []).all f=true):ZE (qO f) x=(zS x).getD []:=by
 match x with
 | none=>simp [zS] at h
 | some (.word b)=>simp [zS] at h
 | some (.obj ms)=>simp [zS] at h
 | some (.str s)=>
  simp only [zS,Option.getD_some,List.all_cons,List.all_nil,Bool.and_true] at hf
  simp [ZE,qO,hf,zS]
 | some (.list vs)=>
  simp only [ZE,zS] at h hf ⊢
  by_cases c:vs.length<1∨10<vs.length
  ·rw [if_pos c] at h;simp at h
  ·rw [if_neg c] at h hf ⊢
   rw [if_neg c]
   rcases ui vs with ⟨l,h1,rfl⟩|⟨h1,v,hv,h2⟩
   ·rw [h1] at hf ⊢
    rw [List.map_map]
    simp only [Option.getD_some] at hf ⊢
    have:∀s ∈ l,((fun v=>qO f (some v)) ∘ V.str) s=s:=by
     intro s hs
     rw [List.all_eq_true] at hf
     simp [qO,hf s hs]
    rw [List.map_congr_left this]
    exact List.map_id' l
   ·rw [h1] at h;simp at h
inductive Good (L:Nat):V→Prop
 | str (s:ByteArray):s.size≤L→Good L (.str s)
 | word (b:Bool):Good L (.word b)
 | list (vs:List V):vs.length≤L→(∀v ∈ vs,Good L v)→Good L (.list vs)
 | obj (ms:List (ByteArray×V)):ms.length≤L→(ms.map fun m=>m.1.toList).Nodup→(∀m ∈ ms,m.1.size≤L)→(∀m ∈ ms,Good L m.2)→Good L (.obj ms)
theorem U4 {l:List UInt8}:∀{r:List Nat} {p q:Nat} {u:Unit},xu l r p = .ok u q→(∀b ∈ r,b≠0)→p≤l.length→p≤q∧q≤l.length
 | [],p,q,u,h,_,hp=>by
  rw [xu] at h
  injection h with h1 h2
  omega
 | b::r,p,q,u,h,hb,hp=>by
  rw [xu] at h
  split at h
  ·rename_i hpk
   have h0:b≠0:=hb b (by simp)
   have hlt:=zx l p (by omega)
   have:=U4 h (fun x hx=>hb x (by simp [hx])) (by omega)
   omega
  ·cases h
theorem zd8 (l:List UInt8):∀(f:Nat),
  (∀d p v q,qj l f d p = .ok v q→Good l.length v∧p<q∧q≤l.length) ∧
  (∀d p acc v q,Yd l f d p acc = .ok v q→acc.length≤p→(∀x ∈ acc,Good l.length x)→Good l.length v∧p<q∧q≤l.length) ∧
  (∀d p acc v q,zfK l f d p acc = .ok v q→acc.length≤p→(acc.map fun m=>m.1.toList).Nodup→(∀x ∈ acc,x.1.size≤l.length∧Good l.length x.2)→Good l.length v∧p<q∧q≤l.length)
 | 0=>by
  refine ⟨fun d p v q h=>?_,fun d p acc v q h=>?_,fun d p acc v q h=>?_⟩
  ·rw [qj] at h;cases h
  ·rw [Yd] at h;cases h
  ·rw [zfK] at h;cases h
 | f+1=>by
  obtain ⟨ihV,ihL,ihO⟩:=zd8 l f
  refine ⟨fun d p v q h=>?_,fun d p acc v q h ha hg=>?_,fun d p acc v q h ha hn hg=>?_⟩
  ·rw [qj] at h
   have hsk:=xy l (p+1)
   by_cases c1:peek l p=123
   ·rw [if_pos c1] at h
    split at h
    ·cases h
    split at h
    ·rename_i hpk
     injection h with h1 h2
     subst h1
     have:=zx l (skip l (p+1)) (by omega)
     exact ⟨.obj [] (Nat.zero_le _) (by simp) (by simp) (by simp),by omega,by omega⟩
    ·obtain ⟨a,b,c⟩:=ihO _ _ _ _ _ h (by simp) (by simp) (by simp)
     exact ⟨a,by omega,c⟩
   rw [if_neg c1] at h
   by_cases c2:peek l p=91
   ·rw [if_pos c2] at h
    split at h
    ·cases h
    split at h
    ·rename_i hpk
     injection h with h1 h2
     subst h1
     have:=zx l (skip l (p+1)) (by omega)
     exact ⟨.list [] (Nat.zero_le _) (by simp),by omega,by omega⟩
    ·obtain ⟨a,b,c⟩:=ihL _ _ _ _ _ h (by simp) (by simp)
     exact ⟨a,by omega,c⟩
   rw [if_neg c2] at h
   by_cases c3:peek l p=34
   ·rw [if_pos c3] at h
    have hq:uf l p=zca l (p+1):=by unfold uf;rw [if_pos c3]
    cases hs:zca l (p+1) with
    | err c q'=>rw [hs] at h;cases h
    | ok s q'=>
     rw [hs] at h
     injection h with h1 h2
     subst h1
     subst h2
     rw [hs] at hq
     have a1:=Y9 hq
     have a2:=KQ hq
     exact ⟨.str s (by omega),by omega,a2⟩
   rw [if_neg c3] at h
   by_cases c4:peek l p=116
   ·rw [if_pos c4] at h
    have hlt:=zx l p (by omega)
    cases hw:xu l [114,117,101] (p+1) with
    | err c q'=>rw [hw] at h;cases h
    | ok s q'=>
     rw [hw] at h
     injection h with h1 h2
     subst h1
     subst h2
     have:=U4 hw (by decide) (by omega)
     exact ⟨.word true,by omega,this.2⟩
   rw [if_neg c4] at h
   by_cases c5:peek l p=102
   ·rw [if_pos c5] at h
    have hlt:=zx l p (by omega)
    cases hw:xu l [97,108,115,101] (p+1) with
    | err c q'=>rw [hw] at h;cases h
    | ok s q'=>
     rw [hw] at h
     injection h with h1 h2
     subst h1
     subst h2
     have:=U4 hw (by decide) (by omega)
     exact ⟨.word false,by omega,this.2⟩
   rw [if_neg c5] at h
   cases h
  ·rw [Yd] at h
   cases hv:qj l f (d+1) p with
   | err c q'=>rw [hv] at h;cases h
   | ok x q'=>
    rw [hv] at h
    simp only at h
    obtain ⟨g1,g2,g3⟩:=ihV _ _ _ _ hv
    have s1:=xy l q'
    have hg2:∀y ∈ acc++[x],Good l.length y:=by
     intro y hy
     rcases List.mem_append.1 hy with hy|hy
     ·exact hg y hy
     ·simp only [List.mem_singleton] at hy;subst hy;exact g1
    split at h
    ·have s2:=xy l (skip l q'+1)
     obtain ⟨a,b,c⟩:=ihL _ _ _ _ _ h (by simp;omega) hg2
     exact ⟨a,by omega,c⟩
    split at h
    ·rename_i hpk
     injection h with h1 h2
     subst h1
     have:=zx l (skip l q') (by omega)
     exact ⟨.list _ (by simp;omega) hg2,by omega,by omega⟩
    ·cases h
  ·rw [zfK] at h
   split at h
   ·cases h
   rename_i c3
   have c3':peek l p=34:=by omega
   have hq:uf l p=zca l (p+1):=by unfold uf;rw [if_pos c3']
   cases hs:zca l (p+1) with
   | err c q'=>rw [hs] at h;cases h
   | ok s q1=>
    rw [hs] at h
    rw [hs] at hq
    simp only at h
    have a1:=Y9 hq
    have a2:=KQ hq
    split at h
    ·cases h
    rename_i htw
    split at h
    ·cases h
    cases hv:qj l f (d+1) (skip l (skip l q1+1)) with
    | err c q'=>rw [hv] at h;cases h
    | ok x q'=>
     rw [hv] at h
     simp only at h
     obtain ⟨g1,g2,g3⟩:=ihV _ _ _ _ hv
     have s0:=xy l q1
     have s0':=xy l (skip l q1+1)
     have s1:=xy l q'
     have hg2:∀y ∈ acc++[(s,x)],y.1.size≤l.length∧Good l.length y.2:=by
      intro y hy
      rcases List.mem_append.1 hy with hy|hy
      ·exact hg y hy
      ·simp only [List.mem_singleton] at hy;subst hy;exact ⟨by simp only;omega,g1⟩
     have hn2:((acc++[(s,x)]).map fun m=>m.1.toList).Nodup:=by
      rw [List.map_append,List.nodup_append]
      refine ⟨hn,by simp,?_⟩
      intro a ha b hb
      simp only [List.map_cons,List.map_nil,List.mem_singleton] at hb
      subst hb
      rw [List.mem_map] at ha
      obtain ⟨m,hm,rfl⟩:=ha
      intro e
      apply htw
      rw [List.any_eq_true]
      exact ⟨m,hm,by simp [e]⟩
     split at h
     ·have s2:=xy l (skip l q'+1)
      obtain ⟨a,b,c⟩:=ihO _ _ _ _ _ h (by simp;omega) hn2 hg2
      exact ⟨a,by omega,c⟩
     split at h
     ·rename_i hpk
      injection h with h1 h2
      subst h1
      have:=zx l (skip l q') (by omega)
      exact ⟨.obj _ (by simp;omega) hn2 (fun m hm=>(hg2 m hm).1) (fun m hm=>(hg2 m hm).2),by omega,by omega⟩
     ·cases h
theorem XB {l:List UInt8} {v:V} {q:Nat} (h:vK l = .ok v q):Good l.length v:=by
 unfold vK at h
 cases hv:qj l (2*l.length+1) 1 (skip l 0) with
 | err c q'=>rw [hv] at h;cases h
 | ok x q'=>
  rw [hv] at h
  simp only at h
  split at h
  ·cases h
  ·injection h with h1 h2
   subst h1
   exact ((zd8 l _).1 _ _ _ _ hv).1
def chC:Option V→Nat
 | some (.obj ms)=>if qX ms [ZF] then Zu VH (zK ms ZF) else 1
 | x=>Zu VH x
theorem zeL {L:Nat} (x:Option V) (h:∀v,x=some v→Good L v):chC x=cls (!(xZ x).2.isSome) (chP (xZ x)):=by
 match x with
 | none=>exact Qi none
 | some (.word b)=>exact Qi (some (.word b))
 | some (.str s)=>exact Qi (some (.str s))
 | some (.list vs)=>exact Qi (some (.list vs))
 | some (.obj ms)=>
  simp only [chC,xZ]
  by_cases c:qX ms [ZF]=true
  ·rw [if_pos c]
   have hg:=h _ rfl
   cases hg with
   | obj _ h1 h2 h3 h4=>
    match ms with
    | []=>rfl
    | [m]=>
     have e:(m.1.toList==ZF.toList)=true:=by
      simp [qX] at c
      simp [c]
     rw [if_pos ⟨c,rfl⟩]
     have hg:zK [m] ZF=some m.2:=by unfold zK;rw [List.find?_cons,e];rfl
     rw [hg]
     exact Qi _
    | m::m'::r=>
     exfalso
     simp [qX] at c
     simp only [List.map_cons,List.nodup_cons,List.mem_cons,not_or] at h2
     exact h2.1.1 (by rw [← c.1,← c.2.1])
  ·rw [if_neg c,if_neg (fun e=>c e.1)]
   rfl
def short (s:ByteArray):Bool:=decide (s.size≤60)
def filled (s:ByteArray):Bool:=!s.toList.isEmpty&&short s
def kJ (op:ByteArray):Bool:=op.toList==[115,97,109,101]
def jZ (op:ByteArray):Bool:=op.toList==[98,101,108,111,119]
def vT (op:ByteArray):Bool:=op.toList==[117,110,100,101,114]
def jY (op:ByteArray) (x:Option V):Nat:=
 if xR op then Zu VH x
 else if kJ op then Zu (zT short) x
 else if jZ op then Zu (zT ZA) x
 else if vT op then Zu (zT filled) x
 else if x.isNone then 0 else 1
def ZB (op:ByteArray) (x:Option V):List ByteArray:=
 if xR op then ZE strOf x
 else if kJ op then ZE (qO short) x
 else if jZ op then ZE (qO ZA) x
 else if vT op then ZE (qO filled) x
 else []
theorem Je {f g:ByteArray→Bool} (h:∀s,f s=g s) (l:List ByteArray):l.all f=l.all g:=by rw [show f=g from funext h]
theorem zeA (op:ByteArray) (x:Option V) (h:zec op=true):jY op x=cls (!(zS x).isSome || !zgA op ((zS x).getD [])) (xR op && !((zS x).getD []).all xY):=by
 unfold jY zgA
 rw [h,Bool.and_true]
 by_cases c1:xR op=true
 ·rw [if_pos c1]
  have e:op.toList=[108,105,107,101]:=by simpa [xR] using c1
  have hv:∀s,Qx op s=true:=by intro s;unfold Qx;rw [e];rfl
  rw [Je hv,c1,Qi,show ((zS x).getD []).all (fun _=>true)=true from by simp]
  simp
 rw [if_neg c1]
 have c1':xR op=false:=by simpa using c1
 rw [c1',Bool.false_and]
 by_cases c2:kJ op=true
 ·rw [if_pos c2]
  have e:op.toList=[115,97,109,101]:=by simpa [kJ] using c2
  have hv:∀s,Qx op s=short s:=by intro s;unfold Qx;rw [e];rfl
  rw [Je hv,Qm]
 rw [if_neg c2]
 by_cases c3:jZ op=true
 ·rw [if_pos c3]
  have e:op.toList=[98,101,108,111,119]:=by simpa [jZ] using c3
  have hv:∀s,Qx op s=ZA s:=by intro s;unfold Qx;rw [e];rfl
  rw [Je hv,Qm]
 rw [if_neg c3]
 by_cases c4:vT op=true
 ·rw [if_pos c4]
  have e:op.toList=[117,110,100,101,114]:=by simpa [vT] using c4
  have hv:∀s,Qx op s=filled s:=by
   intro s
   unfold Qx
   rw [e]
   show (decide (s.size≤60) && !s.toList.isEmpty)=(!s.toList.isEmpty&&short s)
   rw [Bool.and_comm]
   rfl
  rw [Je hv,Qm]
 exfalso
 unfold zec at h
 unfold xR at c1
 unfold kJ at c2
 unfold jZ at c3
 unfold vT at c4
 simp only [Bool.or_eq_true] at h
 rcases h with ((h|h)|h)|h
 ·exact c2 h
 ·exact c4 h
 ·exact c3 h
 ·exact c1 h
theorem ze9 (ms:List (ByteArray×V)):qX ms [bOp,x9,zt,bNo]=qX ms [bOp,x9,bNo,zt]:=by
 unfold qX
 refine congrArg (fun f=>ms.all f) (funext fun m=>?_)
 simp only [List.any_cons,List.any_nil,Bool.or_false]
 rw [Bool.or_comm (zt.toList==m.1.toList) (bNo.toList==m.1.toList)]
theorem zbv (m:ByteArray×V) (ms:List (ByteArray×V)) (ns:List ByteArray):qX (m::ms) ns=((ns.any fun t=>t.toList==m.1.toList)&&qX ms ns):=by
 unfold qX;rw [List.all_cons]
theorem zbK:∀(ms:List (ByteArray×V)),qX ms [bOp,x9,bNo]=(qX ms [bOp,x9,bNo,zt]&&(zK ms zt).isNone)
 | []=>rfl
 | m::ms=>by
  rw [zbv,zbv,zbK ms]
  unfold zK
  rw [List.find?_cons]
  by_cases c:(m.1.toList==zt.toList)=true
  ·rw [c]
   have e:m.1.toList=zt.toList:=by simpa using c
   rw [e]
   have:([bOp,x9,bNo].any fun t=>t.toList==zt.toList)=false:=by kernel_rfl
   rw [this]
   simp
  ·have c':(m.1.toList==zt.toList)=false:=by simpa using c
   have c2:(zt.toList==m.1.toList)=false:=by rw [Bool.beq_comm];exact c'
   rw [c']
   simp only [List.any_cons,List.any_nil,Bool.or_false,c2]
   rw [Bool.and_assoc]
def condC:V→Nat
 | .obj ms=>if qX ms [bOp,x9,zt,bNo] then (match opV (zK ms bOp) with
  | some op=>if zec op||zV op then Zc [zT zY (zK ms x9),jY op (zK ms zt),cls (jV (zK ms bNo)) false] else 1
  | none=>1) else 1
 | _=>1
theorem zmh (a b c a' b' c':Bool):Zc [cls a a',cls b b',cls c c']=cls (a||b||c) (a'||b'||c'):=by
 have:=Xt [(a,a'),(b,b'),(c,c')]
 simp only [List.map_cons,List.map_nil,List.any_cons,List.any_nil,Bool.or_false] at this
 rw [this,Bool.or_assoc,Bool.or_assoc]
theorem V6 (op:ByteArray) (h:zV op=true):zec op=false∧xR op=false∧kJ op=false∧jZ op=false∧vT op=false:=by
 have e:op.toList=[97,98,115,101,110,116]:=by simpa [zV] using h
 unfold zec xR kJ jZ vT
 rw [e]
 decide
theorem zeB (v:V):condC v=cls (yE v).sh (yE v).pt:=by
 cases v with
 | str s=>rfl
 | word b=>rfl
 | list l=>rfl
 | obj ms=>
  simp only [condC,yE,zaO]
  cases ho:opV (zK ms bOp) with
  | none=>simp only [ite_self];rfl
  | some op=>
   simp only
   cases hk:opV (zK ms x9) with
   | none=>
    have hr:zT zY (zK ms x9)=1:=by
     unfold opV at hk
     split at hk
     ·cases hk
     ·rename_i hne
      unfold zT
      split
      ·rename_i s he;exact absurd he (hne s)
      ·rfl
    rw [hr]
    have:Zc [1,jY op (zK ms zt),cls (jV (zK ms bNo)) false]=1:=XC (by simp)
    rw [this]
    simp only [ite_self]
    rfl
   | some key=>
    have hr:zT zY (zK ms x9)=cls (!zY key) false:=by
     unfold opV at hk
     split at hk
     ·rename_i s he
      injection hk with hk
      subst hk
      rw [he]
      rfl
     ·cases hk
    rw [hr,ze9]
    by_cases ca:zV op=true
    ·obtain ⟨n0,n1,n2,n3,n4⟩:=V6 op ca
     simp only [ca,Bool.or_true,if_true]
     rw [zbK]
     have hl:jY op (zK ms zt)=cls (!(zK ms zt).isNone) false:=by
      unfold jY
      rw [n1,n2,n3,n4]
      cases (zK ms zt).isNone<;>rfl
     rw [hl,zmh]
     cases qX ms [bOp,x9,bNo,zt]<;>cases (zK ms zt).isNone<;>cases zY key<;>cases jV (zK ms bNo)<;>rfl
    ·have ca':zV op=false:=by simpa using ca
     simp only [ca',Bool.or_false,Bool.false_eq_true,if_false]
     cases ok:zec op with
     | false=>
      have:zgA op ((zS (zK ms zt)).getD [])=false:=by unfold zgA;rw [ok,Bool.and_false]
      rw [this]
      simp only [Bool.false_eq_true,if_false,ite_self,Bool.not_false,Bool.or_true,Bool.true_or]
      rfl
     | true=>
      rw [zeA op _ ok,zmh]
      simp only [if_true]
      generalize (!(zS (zK ms zt)).isSome || !zgA op ((zS (zK ms zt)).getD []))=A
      generalize (xR op && !((zS (zK ms zt)).getD []).all xY)=B
      cases qX ms [bOp,x9,bNo,zt]<;>cases A<;>cases B<;>cases zY key<;>cases jV (zK ms bNo)<;>rfl
def jD:Option V→Nat
 | none=>0
 | some (.list vs)=>if 5<vs.length then 1 else Zc (vs.map condC)
 | some _=>1
theorem zhn (x:Option V):jD x=cls (qZ x).sh (qZ x).pt:=by
 match x with
 | none=>rfl
 | some (.str s)=>rfl
 | some (.word b)=>rfl
 | some (.obj ms)=>rfl
 | some (.list vs)=>
  simp only [jD,qZ]
  split
  ·rfl
  ·have:=Xt (vs.map fun v=>((yE v).sh,(yE v).pt))
   rw [List.map_map] at this
   have e:((fun x:Bool×Bool=>cls x.1 x.2) ∘ fun v=>((yE v).sh,(yE v).pt))=condC:=funext fun v=>(zeB v).symm
   rw [e] at this
   rw [this]
   simp only [List.any_map]
   rfl
def jX:V→Nat
 | .obj ms=>if qX ms [zk,jB,bDo,bOn,bIf] then Zc [zT zZ (zK ms zk),chC (zK ms jB),chC (zK ms bDo),chC (zK ms bOn),jD (zK ms bIf)] else 1
 | _=>1
theorem qx {L:Nat} {ms:List (ByteArray×V)} (h:Good L (.obj ms)) (nm:ByteArray):∀v,zK ms nm=some v→Good L v:=by
 intro v hv
 cases h with
 | obj _ h1 h2 h3 h4=>
  unfold zK at hv
  obtain ⟨m,hm,rfl⟩:=Option.map_eq_some_iff.1 hv
  exact h4 m (List.mem_of_find?_eq_some hm)
theorem zmB (a b c d e a' b' c' d' e':Bool):Zc [cls a a',cls b b',cls c c',cls d d',cls e e']=cls (a||b||c||d||e) (a'||b'||c'||d'||e'):=by
 have:=Xt [(a,a'),(b,b'),(c,c'),(d,d'),(e,e')]
 simp only [List.map_cons,List.map_nil,List.any_cons,List.any_nil,Bool.or_false] at this
 rw [this]
 simp only [Bool.or_assoc]
theorem zeM {L:Nat} (v:V) (h:Good L v):jX v=cls (jC v).sh (jC v).pt:=by
 cases v with
 | str s=>rfl
 | word b=>rfl
 | list l=>rfl
 | obj ms=>
  simp only [jX,jC,zaF]
  cases ho:qX ms [zk,jB,bDo,bOn,bIf] with
  | false=>rfl
  | true=>
   simp only [if_true]
   cases hk:opV (zK ms zk) with
   | none=>
    have hr:zT zZ (zK ms zk)=1:=by
     unfold opV at hk
     split at hk
     ·cases hk
     ·rename_i hne
      unfold zT
      split
      ·rename_i s he;exact absurd he (hne s)
      ·rfl
    rw [hr]
    rw [XC (by simp)]
    rfl
   | some eff=>
    have hr:zT zZ (zK ms zk)=cls (!zZ eff) false:=by
     unfold opV at hk
     split at hk
     ·rename_i s he
      injection hk with hk
      subst hk
      rw [he]
      rfl
     ·cases hk
    rw [hr,zeL _ (qx h jB),zeL _ (qx h bDo),zeL _ (qx h bOn),zhn,zmB]
    simp only [Xo,Bool.false_or]
def ZW:List Nat→Nat→Int×Nat
 | [],_=>(0,0)
 | c::cs,i=>if c=1 then (5,i+1) else if c=2 then (6,i+1) else ZW cs (i+1)
theorem zbF {L:Nat}:∀(vs:List V) (i:Nat),(∀v ∈ vs,Good L v)→yz (vs.map jC) i=ZW (vs.map jX) i
 | [],_,_=>rfl
 | v::vs,i,h=>by
  rw [List.map_cons,List.map_cons,yz,ZW,zeM v (h v (by simp)),zbF vs (i+1) (fun x hx=>h x (by simp [hx]))]
  cases (jC v).sh<;>cases (jC v).pt<;>rfl
def qU (s:ByteArray):Int×Nat:=
 if 4000<s.size then (1,0) else match vK s.data.toList with
  | .err e q=>(e,q)
  | .ok v _=>zan v
def Code (c:Int):Prop:=c=2∨c=3∨c=4
theorem zhl (l:List UInt8):∀(f:Nat),
  (∀d p c q,qj l f d p = .err c q→Code c) ∧
  (∀d p acc c q,Yd l f d p acc = .err c q→Code c) ∧
  (∀d p acc c q,zfK l f d p acc = .err c q→Code c)
 | 0=>by
  refine ⟨fun d p c q h=>?_,fun d p acc c q h=>?_,fun d p acc c q h=>?_⟩
  ·rw [qj] at h;injection h with h1 h2;exact .inl h1.symm
  ·rw [Yd] at h;injection h with h1 h2;exact .inl h1.symm
  ·rw [zfK] at h;injection h with h1 h2;exact .inl h1.symm
 | f+1=>by
  obtain ⟨ihV,ihL,ihO⟩:=zhl l f
  refine ⟨fun d p c q h=>?_,fun d p acc c q h=>?_,fun d p acc c q h=>?_⟩
  ·rw [qj] at h
   by_cases c1:peek l p=123
   ·rw [if_pos c1] at h
    split at h
    ·injection h with h1 h2;exact .inr (.inl h1.symm)
    split at h
    ·cases h
    ·exact ihO _ _ _ _ _ h
   rw [if_neg c1] at h
   by_cases c2:peek l p=91
   ·rw [if_pos c2] at h
    split at h
    ·injection h with h1 h2;exact .inr (.inl h1.symm)
    split at h
    ·cases h
    ·exact ihL _ _ _ _ _ h
   rw [if_neg c2] at h
   by_cases c3:peek l p=34
   ·rw [if_pos c3] at h
    cases hs:zca l (p+1) with
    | ok s q'=>rw [hs] at h;cases h
    | err e q'=>
     rw [hs] at h
     injection h with h1 h2
     subst h1
     exact .inl (U8 hs)
   rw [if_neg c3] at h
   by_cases c4:peek l p=116
   ·rw [if_pos c4] at h
    cases hw:xu l [114,117,101] (p+1) with
    | ok s q'=>rw [hw] at h;cases h
    | err e q'=>
     rw [hw] at h
     injection h with h1 h2
     subst h1
     exact .inl (Xk hw)
   rw [if_neg c4] at h
   by_cases c5:peek l p=102
   ·rw [if_pos c5] at h
    cases hw:xu l [97,108,115,101] (p+1) with
    | ok s q'=>rw [hw] at h;cases h
    | err e q'=>
     rw [hw] at h
     injection h with h1 h2
     subst h1
     exact .inl (Xk hw)
   rw [if_neg c5] at h
   injection h with h1 h2
   exact .inl h1.symm
  ·rw [Yd] at h
   cases hv:qj l f (d+1) p with
   | err e q'=>
    rw [hv] at h
    injection h with h1 h2
    subst h1
    exact ihV _ _ _ _ hv
   | ok x q'=>
    rw [hv] at h
    simp only at h
    split at h
    ·exact ihL _ _ _ _ _ h
    split at h
    ·cases h
    ·injection h with h1 h2;exact .inl h1.symm
  ·rw [zfK] at h
   split at h
   ·injection h with h1 h2;exact .inl h1.symm
   cases hs:zca l (p+1) with
   | err e q'=>
    rw [hs] at h
    injection h with h1 h2
    subst h1
    exact .inl (U8 hs)
   | ok s q1=>
    rw [hs] at h
    simp only at h
    split at h
    ·injection h with h1 h2;exact .inr (.inr h1.symm)
    split at h
    ·injection h with h1 h2;exact .inl h1.symm
    cases hv:qj l f (d+1) (skip l (skip l q1+1)) with
    | err e q'=>
     rw [hv] at h
     injection h with h1 h2
     subst h1
     exact ihV _ _ _ _ hv
    | ok x q'=>
     rw [hv] at h
     simp only at h
     split at h
     ·exact ihO _ _ _ _ _ h
     split at h
     ·cases h
     ·injection h with h1 h2;exact .inl h1.symm
theorem Xq {l:List UInt8} {c:Int} {q:Nat} (h:vK l = .err c q):Code c:=by
 unfold vK at h
 cases hv:qj l (2*l.length+1) 1 (skip l 0) with
 | err e q'=>
  rw [hv] at h
  injection h with h1 h2
  subst h1
  exact (zhl l _).1 _ _ _ _ hv
 | ok x q'=>
  rw [hv] at h
  simp only at h
  split at h
  ·injection h with h1 h2;exact .inl h1.symm
  ·cases h
theorem zj7 (v:V):jX v≤2:=by
 cases v with
 | obj ms=>simp only [jX];split;exact Yj _;decide
 | _=>simp [jX]
theorem JP:∀(cs:List Nat) (i:Nat),(∀c ∈ cs,c=0)→ZW cs i=(0,0)
 | [],_,_=>rfl
 | c::cs,i,h=>by
  have hc:=h c (by simp)
  rw [ZW,if_neg (by omega),if_neg (by omega)]
  exact JP cs _ (fun x hx=>h x (by simp [hx]))
theorem Vu:∀(cs:List Nat) (i k:Nat),(hk:k<cs.length)→(∀j,(h:j<k)→cs[j]=0)→cs[k]≠0→cs[k]≤2→ZW cs i=(if cs[k]=1 then 5 else 6,i+k+1)
 | [],_,k,hk,_,_,_=>by simp at hk
 | c::cs,i,0,hk,_,h1,h2=>by
  simp only [List.getElem_cons_zero] at h1 h2 ⊢
  rw [ZW]
  by_cases e:c=1
  ·rw [if_pos e,if_pos e]
  ·rw [if_neg e,if_pos (by omega),if_neg e]
 | c::cs,i,k+1,hk,h0,h1,h2=>by
  have hc:c=0:=h0 0 (by omega)
  simp only [List.getElem_cons_succ] at h1 h2 ⊢
  rw [ZW,if_neg (by omega),if_neg (by omega),Vu cs (i+1) k (by simpa using hk) (fun j hj=>by have:=h0 (j+1) (by omega);simpa using this) h1 h2]
  have e:i+1+k+1=i+(k+1)+1:=by omega
  rw [e]
end Rd
end Go.Proofs.YtdakgnaojakldaaGreatDoor
