/- P -/
import Derived.Test.YtagnlbgbnfnapaaGreatDoorZ30
open Go.Proofs.Tryz
set_option maxRecDepth 100000
namespace Go.Proofs.YtagnlbgbnfnapaaGreatDoor
namespace Ref
def hexDigits:BA:=⟨#[48,49,50,51,52,53,54,55,56,57,97,98,99,100,101,102]⟩
def bY(s o:BA)(i:Nat)(c:Int):BA:=
 if c=34\/c=92 then o++⟨#[92]⟩++s.extract i (i+1)
 else if c=10 then o++⟨#[92,110]⟩
 else if c=9 then o++⟨#[92,116]⟩
 else if c<32 then o++⟨#[92,117,48,48]⟩++hexDigits.extract (c / 16).toNat ((c / 16).toNat+1)++hexDigits.extract (c % 16).toNat ((c % 16).toNat+1)
 else o++s.extract i (i+1)
def Vk(s:BA):Nat->BA
 | 0=>⟨#[34]⟩
 | k+1=>bY s (Vk s k) k ((s.data.toList.getD k 0).toNat:Int)
def KH(s:BA):BA:=Vk s s.size++⟨#[34]⟩
theorem ext_size(t:BA)(i:Nat):(t.extract i (i+1)).size<=1:=by rw[jK];omega
theorem Im(s o:BA)(i:Nat)(c:Int):(bY s o i c).size<=o.size+6:=by
 have a:=ext_size s i;have b:=ext_size hexDigits (c / 16).toNat;have d:=ext_size hexDigits (c % 16).toNat;have e:(⟨#[92]⟩:BA).size=1:=rfl;have f:(⟨#[92,110]⟩:BA).size=2:=rfl;have g:(⟨#[92,116]⟩:BA).size=2:=rfl;have h:(⟨#[92,117,48,48]⟩:BA).size=4:=rfl;unfold bY
 split
 ·rw[qD,qD];omega
 split
 ·rw[qD];omega
 split
 ·rw[qD];omega
 split
 ·rw[qD,qD,qD];omega
 ·rw[qD];omega
theorem AJ(s:BA):∀k,(Vk s k).size<=1+6*k
 | 0=>by simp[Vk,ByteArray.size]
 | k+1=>by rw[Vk];have:=Im s (Vk s k) k ((s.data.toList.getD k 0).toNat:Int);have:=AJ s k;omega
def yg(l:List BA):Nat->BA
 | 0=>⟨#[91]⟩
 | k+1=>(if 0<k then yg l k++⟨#[44]⟩ else yg l k)++KH (l.getD k ⟨#[]⟩)
theorem RF(s:BA):(KH s).size<=2+6*s.size:=by
 have:=AJ s s.size
 have z:(⟨#[34]⟩:BA).size=1:=rfl;rw[KH,qD];omega
theorem V3(l:List BA)(h:∀s ∈ l,s.size<=12000):∀k,(yg l k).size<=1+80000*k
 | 0=>by simp[yg,ByteArray.size]
 | k+1=>by
  have a:=V3 l h k;have b:=RF (l.getD k ⟨#[]⟩);have z:(⟨#[44]⟩:BA).size=1:=rfl
  have c:(l.getD k ⟨#[]⟩).size<=12000:=by
   rw[zQ]
   cases e:l[k]? with
   | none=>exact zU _
   | some s=>exact h s (Qm e)
  rw[yg,qD]
  split
  ·rw[qD];omega
  ·omega
theorem sO(l:List BA)(k:Nat)(h:k<l.length):yg l (k+1)=(if 0<k then yg l k++⟨#[44]⟩ else yg l k)++KH l[k]:=by
 rw[yg,zQ,zt h];rfl
def UH(c:Xt):Prop:=c.op.size<=12000/\c.key.size<=12000/\c.vals.length<=10/\∀s ∈ c.vals,s.size<=12000
def XD(l:List BA):Prop:=l.length<=10/\∀s ∈ l,s.size<=12000
structure UI (s:Rd.Qq):Prop where
 eff:s.eff.size<=12000
 who:XD s.who.2
 act:XD s.act.2
 on:XD s.on.2
 len:s.cs.length<=5
 cs:∀c ∈ s.cs,UH c
end Ref
end Go.Proofs.YtagnlbgbnfnapaaGreatDoor
namespace Go.Proofs.YtagnlbgbnfnapaaGreatDoor
open Go.RowKit
theorem VV{l:List Nat}(h:Rd.qA l=0):∀c ∈ l,c≠1/\c≠2:=by
 unfold Rd.qA at h
 split at h
 ·simp at h
 rename_i b
 split at h
 ·simp at h
 rename_i d;intro c a;refine⟨λe=>b ?_,λe=>d ?_⟩
 ·rw[uT];exact⟨c,a,by simp[e]⟩
 ·rw[uT];exact⟨c,a,by simp[e]⟩
theorem Ba{f:BA->Bool}{x:Option Rd.V}(h:Rd.qf f x≠1):∃s,x=some (.str s)/\f s=true/\Rd.qZ f x=s:=by
 match x with
 | none=>exact absurd rfl h
 | some (.word b)=>exact absurd rfl h
 | some (.list vs)=>exact absurd rfl h
 | some (.obj ms)=>exact absurd rfl h
 | some (.str s)=>
  have a:f s=true:=by
   cases e:f s with
   | true=>rfl
   | false=>exact absurd (by simp[Rd.qf,e,Rd.cls]) h
  exact⟨s,rfl,a,by simp[Rd.qZ,a]⟩
theorem aY{L:Nat}(x:Option Rd.V)(d:∀v,x=some v->Rd.Good L v)(h:Rd.chC x≠1):(Rd.kr x).2.isSome=true/\chS x=Rd.chD (Rd.kr x):=by
 have f:=Rd.UU x d
 have a:(Rd.kr x).2.isSome=true:=by
  cases e:(Rd.kr x).2.isSome with
  | true=>rfl
  | false=>rw[e] at f;exact absurd f h
 refine⟨a,?_⟩;unfold Rd.chD;have gen:∀y:Option Rd.V,(Rd.zR y).isSome=true->Rd.qW Rd.strOf y=(Rd.zR y).getD []:=λy g=>Rd.wM y g
 match x with
 | none=>exact absurd a (by simp[Rd.kr,Rd.zR])
 | some (.word b)=>exact absurd a (by simp[Rd.kr,Rd.zR])
 | some (.str s)=>rfl
 | some (.list vs)=>exact congrArg (Prod.mk false) (gen _ a)
 | some (.obj ms)=>
  simp only[chS,Rd.kr] at a |-
  by_cases c:Rd.qh ms [Ref.qH]=true/\ms.length=1
  ·rw[zb c] at a |-;rw[zb c.1]
   match ms,c with
   | [m],c=>
    have e:(m.1.toList==Ref.qH.toList)=true:=by
     have:=c.1
     simp[Rd.qh] at this;simp[this]
    have d:Rd.zl [m] Ref.qH=some m.2:=by unfold Rd.zl;rw[UA,e];rfl
    rw[d];exact congrArg (Prod.mk true) (gen _ a)
  ·rw[za c] at a;simp at a
def toS(c:Ref.Xt):qF:=⟨c.op,c.key,c.vals,c.no⟩
theorem NK(op:BA)(x:Option Rd.V)(a:Ref.uJ op=true)(h:Rd.qB op x≠1):Rd.xC op x=(Rd.zR x).getD []/\(Rd.zR x).isSome=true:=by
 have g:=Rd.sS op x a
 have c:(Rd.zR x).isSome=true:=by
  cases e:(Rd.zR x).isSome with
  | true=>rfl
  | false=>rw[e] at g;exact absurd g h
 refine⟨?_,c⟩
 have d:∀f:BA->Bool,Rd.qP (Rd.qf f) x≠1->Rd.qW (Rd.qZ f) x=(Rd.zR x).getD []:=by
  intro f b;rw[Rd.Ko] at b;refine Rd.OZ f x c ?_
  cases e:((Rd.zR x).getD []).all f with
  | true=>rfl
  | false=>rw[e] at b;simp[Rd.cls] at b
 unfold Rd.qB at h;unfold Rd.xC
 by_cases c1:Ref.xH op=true
 ·rw[zb c1];exact Rd.wM x c
 rw[za c1] at h |-
 by_cases c2:Rd.yQ op=true
 ·rw[zb c2] at h |-;exact d _ h
 rw[za c2] at h |-
 by_cases c3:Rd.jG op=true
 ·rw[zb c3] at h |-;exact d _ h
 rw[za c3] at h |-
 by_cases c4:Rd.ZG op=true
 ·rw[zb c4] at h |-;exact d _ h
 exfalso;unfold Ref.uJ at a;unfold Ref.xH at c1;unfold Rd.yQ at c2;unfold Rd.jG at c3;unfold Rd.ZG at c4;simp only[Vt] at a
 rcases a with ((a|a)|a)|a
 ·exact c2 a
 ·exact c4 a
 ·exact c3 a
 ·exact c1 a
theorem Fz(v:Rd.V)(h:Rd.condC v≠1/\Rd.condC v≠2):jS v=toS (Rd.xG v):=by
 match v with
 | .str s=>exact absurd rfl h.1
 | .word b=>exact absurd rfl h.1
 | .list l=>exact absurd rfl h.1
 | .obj ms=>
  rw[UW] at h;simp only[jS,Rd.xG]
  cases ho:Rd.qh ms [Ref.bOp,Ref.zG,Ref.zJ,Ref.bNo] with
  | false=>rw[ho] at h;exact absurd rfl h.1
  | true=>
   rw[ho] at h;simp only[qO] at h |-
   cases hop:Qa (Rd.zl ms Ref.bOp) with
   | none=>rw[hop] at h;exact absurd rfl h.1
   | some k=>
    rw[hop] at h;simp only at h |-
    have f:Rd.qA [Rd.qf Ref.qm (Rd.zl ms Ref.zG),Rd.qB (opN k) (Rd.zl ms Ref.zJ),Rd.cls (Rd.Zh (Rd.zl ms Ref.bNo)) false]=0:=by
     have:=Rd.JV [Rd.qf Ref.qm (Rd.zl ms Ref.zG),Rd.qB (opN k) (Rd.zl ms Ref.zJ),Rd.cls (Rd.Zh (Rd.zl ms Ref.bNo)) false]
     omega
    have f:=VV f;obtain⟨key,d,n,j⟩:=Ba (f (Rd.qf Ref.qm (Rd.zl ms Ref.zG)) (by simp)).1;have m:=(f (Rd.qB (opN k) (Rd.zl ms Ref.zJ)) (by simp)).1
    obtain⟨s,i,c⟩:∃s,Rd.zl ms Ref.bOp=some (.str s)/\jJ s=some k:=by
     match hgm:Rd.zl ms Ref.bOp with
     | none=>rw[hgm] at hop;cases hop
     | some (.word b)=>rw[hgm] at hop;cases hop
     | some (.list vs)=>rw[hgm] at hop;cases hop
     | some (.obj ms)=>rw[hgm] at hop;cases hop
     | some (.str s)=>rw[hgm] at hop;exact⟨s,rfl,hop⟩
    obtain⟨_,a,e⟩:=gz c;rw[j,a];rw[a] at m;simp only[Rd.JM,i,d,Rd.opV,toS]
    by_cases ca:Ref.jm s=true
    ·obtain⟨t,o,p,q,r⟩:=Rd.mg s ca;rw[zb ca];simp only[Rd.xC,o,p,q,r,yB,yu]
    ·have ok:Ref.uJ s=true:=by
      have g:Ref.jm s=false:=by simpa using ca
      rw[g,Xp] at e;exact e
     rw[za ca,(NK s _ ok m).1]
theorem FK(x:Option Rd.V)(h:Rd.jD x≠1/\Rd.jD x≠2):XN x=(Rd.xY x).cs.map toS:=by
 match x with
 | none=>rfl
 | some (.str s)=>exact absurd rfl h.1
 | some (.word b)=>exact absurd rfl h.1
 | some (.obj ms)=>exact absurd rfl h.1
 | some (.list vs)=>
  simp only[XN,Rd.xY,Rd.jD] at h |-
  by_cases c:5<vs.length
  ·rw[zb c] at h;exact absurd rfl h.1
  ·rw[za c] at h |-;rw[za c]
   have a:Rd.qA (vs.map Rd.condC)=0:=by
    have:=Rd.JV (vs.map Rd.condC)
    omega
   have a:=VV a;simp only[jw];exact Jt λv d=>Fz v (a _ (qR.2 ⟨v,d,rfl⟩))
def YD(r:Rd.Qq):zT:=⟨r.eff,r.who,r.act,r.on,r.cs.map toS⟩
theorem WC{L:Nat}(v:Rd.V)(c:Rd.Good L v)(h:Rd.xM v≠1/\Rd.xM v≠2):yx v=YD (Rd.yz v):=by
 match v,c with
 | .str s,_=>exact absurd rfl h.1
 | .word b,_=>exact absurd rfl h.1
 | .list l,_=>exact absurd rfl h.1
 | .obj ms,c=>
  simp only[Rd.xM] at h;simp only[yx,Rd.yz,Rd.Vp]
  cases ho:Rd.qh ms [Rd.ql,Rd.qz,Rd.bDo,Rd.bOn,Rd.bIf] with
  | false=>rw[ho] at h;exact absurd rfl h.1
  | true=>
   rw[ho] at h;simp only[qO] at h |-
   have a:Rd.qA [Rd.qf Rd.yG (Rd.zl ms Rd.ql),Rd.chC (Rd.zl ms Rd.qz),Rd.chC (Rd.zl ms Rd.bDo),Rd.chC (Rd.zl ms Rd.bOn),Rd.jD (Rd.zl ms Rd.bIf)]=0:=by
    have:=Rd.JV [Rd.qf Rd.yG (Rd.zl ms Rd.ql),Rd.chC (Rd.zl ms Rd.qz),Rd.chC (Rd.zl ms Rd.bDo),Rd.chC (Rd.zl ms Rd.bOn),Rd.jD (Rd.zl ms Rd.bIf)]
    omega
   have a:=VV a;obtain⟨eff,e,f,d⟩:=Ba (a (Rd.qf Rd.yG (Rd.zl ms Rd.ql)) (by simp)).1;rw[d];have c1:=(aY _ (Rd.yt c Rd.qz) (a (Rd.chC (Rd.zl ms Rd.qz)) (by simp)).1).2;have c2:=(aY _ (Rd.yt c Rd.bDo) (a (Rd.chC (Rd.zl ms Rd.bDo)) (by simp)).1).2;have c3:=(aY _ (Rd.yt c Rd.bOn) (a (Rd.chC (Rd.zl ms Rd.bOn)) (by simp)).1).2;have c4:=FK _ (a (Rd.jD (Rd.zl ms Rd.bIf)) (by simp));rw[c1,c2,c3,c4];simp only[e,Rd.opV,YD,Rd.J4]
def lL(s:Rd.Qq):Prop:=∀c ∈ s.cs,Ref.jm c.op=decide (c.vals.length=0)
namespace Kp
open Rd Ref
theorem V6(f:Option V->BA){l:List BA}(c:Int)(h:1<=l.length)(i:l.length<=10)(b:∀s ∈ l,f (some (.str s))=s):qW f (some (qd l c))=l:=by
 unfold qd
 by_cases e:l.length=1/\bit c 32=true
 ·rw[zb e];obtain⟨a,rfl⟩:=List.length_eq_one_iff.1 e.1;show [f (some (.str a))]=[a];rw[b a (by simp)]
 ·rw[za e];show (if (l.map V.str).length<1\/10<(l.map V.str).length then [] else (l.map V.str).map λv=>f (some v))=l
  rw[qg,za (by omega),jw];refine (Jt (g:=id) (λs d=>b s d)).trans (by simp)
theorem Nv(l:List BA):qd l 0 = .list (l.map .str):=by
 unfold qd
 rw[za (by intro h;have:bit 0 32=false:=by decide
           rw[this] at h;simp at h)]
theorem EM{c:Bool×List BA}(a:Int)(f:1<=c.2.length)(g:c.2.length<=10):chS (some (if c.1 then .obj [(qH,qd c.2 a)] else qd c.2 a))=c:=by
 obtain⟨nt,l⟩:=c;simp only at f g |-;have h:=V6 strOf (l:=l) a f g (λs _=>rfl)
 cases nt with
 | true=>
  have i:qh [(qH,qd l a)] [qH]=true:=by kernel_rfl
  have j:zl [(qH,qd l a)] qH=some (qd l a):=by kernel_rfl
  simp only[qO,chS];rw[zb i,j,h]
 | false=>
  simp only[yB,yu]
  have d:∀ms,qd l a ≠ .obj ms:=by
   intro ms;unfold qd
   split<;>(intro e;cases e)
  have k:chS (some (qd l a))=(false,qW strOf (some (qd l a))):=by
   cases hv:qd l a with
   | obj ms=>exact absurd hv (d ms)
   | str s=>rfl
   | word b=>rfl
   | list m=>rfl
  rw[k,h]
def Q7(r:zm):qF:=
 match zy r.iff 8 with
 | 1=>⟨vV,keyOf r,[],r.no⟩
 | 6=>⟨JI,keyOf r,[patterns.getD (zy r.val 14) ⟨#[]⟩,⟨#[120]⟩],r.no⟩
 | 2=>⟨XI,keyOf r,[words.getD (zy r.val 14) ⟨#[]⟩],r.no⟩
 | 3=>⟨ZW,keyOf r,[nums.getD (zy r.val 4) ⟨#[]⟩],r.no⟩
 | 4=>⟨kY,keyOf r,[QO.getD (zy r.val 3) ⟨#[]⟩],r.no⟩
 | _=>QF
def Z6(r:zm):Bool:=decide ((xU r).size≠0)
def stK(r:zm):zT:=⟨Qx r,(decide (zy r.nt 16=2),qU r.who),(decide (zy r.nt 16=3),qU r.act),(decide (zy r.nt 16=1),qU r.on),if Z6 r then [Q7 r] else []⟩
def Ug(l:List zm):List zm:=if l.length=0 then [xu] else l.take 4
def Zc(l:List zm):List zT:=(Ug l).map stK
structure Uw (c:qF):Prop where
 op:∃k,k<5/\c.op=opN k
 key:qm c.key=true
 some:0<c.vals.length->qB c.op (some (.list (c.vals.map .str)))=0/\xC c.op (some (.list (c.vals.map .str)))=c.vals
 none:c.vals.length=0->qB c.op none=0/\xC c.op none=[]
theorem Pw:∀k,k<5->Qa (some (.str (opN k)))=some k:=by decide +kernel
theorem wV{k:Nat}(h:k<5):Qa (some (.str (opN k)))=some k:=Pw k h
theorem og{ms:List (BA×V)}{c:qF}(b:Uw c)(x:Option V)(i:qB c.op x=0/\xC c.op x=c.vals)(d:qh ms [bOp,zG,zJ,bNo]=true)(e:zl ms bOp=some (.str c.op))(f:zl ms zG=some (.str c.key))(g:zl ms zJ=x)(j:zl ms bNo=if c.no then some (.word true) else none):jS (.obj ms)=c/\condC (.obj ms)=0:=by
 obtain⟨k,h,a⟩:=b.op
 have m:qZ qm (some (.str c.key))=c.key:=by
  show (if qm c.key then c.key else ⟨#[]⟩)=c.key
  rw[b.key];rfl
 have l:qf qm (some (.str c.key))=0:=QJ b.key
 have hb:Jc (zl ms bNo)=c.no/\Zh (zl ms bNo)=false:=by
  rw[j]
  cases c.no<;>exact⟨rfl,rfl⟩
 constructor
 ·unfold jS;simp only;rw[zb d,e,a,wV h];simp only;rw[f,g,m,hb.1,<- a,i.2]
 ·rw[UW,zb d,e,a,wV h];simp only;rw[f,g,hb.2,<- a,i.1,l]
  rfl
def Ux(c:Bool×List BA):Prop:=1<=c.2.length/\c.2.length<=10/\∀p ∈ c.2,yf p=true
structure lM (s:zT):Prop where
 eff:yG s.eff=true
 who:Ux s.who
 act:Ux s.act
 on:Ux s.on
 few:s.ifs.length<=5
 ifs:∀c ∈ s.ifs,Uw c
theorem BM{ms:List (BA×V)}{s:zT}(i:lM s)(w a o:V)(x:Option V)(k:chS (some w)=s.who/\chC (some w)=0)(h:chS (some a)=s.act/\chC (some a)=0)(j:chS (some o)=s.on/\chC (some o)=0)(l:XN x=s.ifs/\jD x=0)
  (b:qh ms [ql,qz,bDo,bOn,bIf]=true)(c:zl ms ql=some (.str s.eff))(d:zl ms qz=some w)(e:zl ms bDo=some a)(f:zl ms bOn=some o)(g:zl ms bIf=x):yx (.obj ms)=s/\xM (.obj ms)=0:=by
 have m:qZ yG (some (.str s.eff))=s.eff:=by
  show (if yG s.eff then s.eff else ⟨#[]⟩)=s.eff
  rw[i.eff];rfl
 constructor
 ·unfold yx;simp only;rw[zb b,c,d,e,f,g,m,k.1,h.1,j.1,l.1]
 ·unfold xM;simp only;rw[zb b,c,d,e,f,g,QJ i.eff,k.2,h.2,j.2,l.2]
  rfl
theorem bI(nt:Bool)(raw:List Int):Ux (nt,qU raw):=⟨(XL raw).1,by have:=(XL raw).2;simp only;omega,λp a=>Kv p (VN a)⟩
theorem NH{l:List BA}(b:1<=l.length)(c:l.length<=10)(h:∀s ∈ l,yf s=true)(a:Int):qB JI (some (qd l a))=0/\xC JI (some (qd l a))=l:=by
 unfold qB xC;rw[zb (by kernel_rfl),zb (by kernel_rfl)];exact⟨XX a b c (λs d=>Ku (h s d)),V6 strOf a b c (λs _=>rfl)⟩
theorem gY{f:BA->Bool}{s:BA}(h:f s=true):qZ f (some (.str s))=s:=by
 show (if f s then s else ⟨#[]⟩)=s
 rw[h];rfl
theorem NI{l:List BA}(c:1<=l.length)(d:l.length<=10)(h:∀s ∈ l,short s=true)(a:Int):qB XI (some (qd l a))=0/\xC XI (some (qd l a))=l:=by
 unfold qB xC;rw[show xH XI=false by kernel_rfl,show yQ XI=true by kernel_rfl];exact⟨XX a c d (λs b=>QJ (h s b)),V6 _ a c d (λs b=>gY (h s b))⟩
theorem NG{l:List BA}(c:1<=l.length)(d:l.length<=10)(h:∀s ∈ l,xB s=true)(a:Int):qB ZW (some (qd l a))=0/\xC ZW (some (qd l a))=l:=by
 unfold qB xC;rw[show xH ZW=false by kernel_rfl,show yQ ZW=false by kernel_rfl,show jG ZW=true by kernel_rfl];exact⟨XX a c d (λs b=>QJ (h s b)),V6 _ a c d (λs b=>gY (h s b))⟩
theorem NJ{l:List BA}(c:1<=l.length)(d:l.length<=10)(h:∀s ∈ l,filled s=true)(a:Int):qB kY (some (qd l a))=0/\xC kY (some (qd l a))=l:=by
 unfold qB xC;rw[show xH kY=false by kernel_rfl,show yQ kY=false by kernel_rfl,show jG kY=false by kernel_rfl,show ZG kY=true by kernel_rfl];exact⟨XX a c d (λs b=>QJ (h s b)),V6 _ a c d (λs b=>gY (h s b))⟩
theorem sU:qB vV none=0/\xC vV none=[]:=⟨by kernel_rfl,by kernel_rfl⟩
theorem La{op key:BA}{l:List BA}{no:Bool}(c:∃k,k<5/\op=opN k)(b:qm key=true)(e:1<=l.length)(h:∀a,qB op (some (qd l a))=0/\xC op (some (qd l a))=l):Uw ⟨op,key,l,no⟩:=
 ⟨c,b,λ_=>by have:=h 0;rw[Nv] at this;exact this,λd=>by simp only at d;omega⟩
theorem nY(r:zm)(h:Z6 r=true):ku r = .obj ([(zG,.str (keyOf r)),(bOp,.str vV)]++vZ r)/\Q7 r=⟨vV,keyOf r,[],r.no⟩
  \/ ∃op l,ku r=XM r op l/\Q7 r=⟨op,keyOf r,l,r.no⟩/\(∃k,k<5/\op=opN k)/\1<=l.length/\l.length<=2/\(∀s ∈ l,Pl s/\s.size<=8)/\∀b,qB op (some (qd l b))=0/\xC op (some (qd l b))=l:=by
 have h:=XW h;unfold xU at h;unfold ku Q7
 revert h
 generalize zy r.iff 8=j;intro h
 split
 ·exact .inl ⟨rfl,rfl⟩
 ·refine .inr ⟨JI,_,rfl,rfl,⟨0,by decide,rfl⟩,by simp,by simp,?_,NH (by simp) (by simp) ?_⟩
  ·intro s a
   rcases vz.1 a with rfl|a
   ·have:=ky (l:=patterns) (xI r.val 14 (by decide))
    exact⟨Kw _ this,Ky _ this⟩
   ·rw[xP] at a;subst a;exact⟨Yv _ rfl,by decide⟩
  ·intro s a
   rcases vz.1 a with rfl|a
   ·exact Kv _ (ky (xI r.val 14 (by decide)))
   ·rw[xP] at a;subst a;kernel_rfl
 ·have:=ky (l:=words) (xI r.val 14 (by decide))
  exact .inr ⟨XI,_,rfl,rfl,⟨1,by decide,rfl⟩,by simp,by simp,λs a=>by rw[xP] at a;subst a;exact⟨Ct _ this,K6 _ this⟩,NI (by simp) (by simp) (λs a=>by rw[xP] at a;subst a;exact K5 _ this)⟩
 ·have:=ky (l:=nums) (xI r.val 4 (by decide))
  exact .inr ⟨ZW,_,rfl,rfl,⟨2,by decide,rfl⟩,by simp,by simp,λs a=>by rw[xP] at a;subst a;exact⟨wF _ this,fZ _ this⟩,NG (by simp) (by simp) (λs a=>by rw[xP] at a;subst a;exact wE _ this)⟩
 ·have:=ky (l:=QO) (xI r.val 3 (by decide))
  exact .inr ⟨kY,_,rfl,rfl,⟨3,by decide,rfl⟩,by simp,by simp,λs a=>by rw[xP] at a;subst a;exact⟨Ci _ this,iY _ this⟩,NJ (by simp) (by simp) (λs a=>by rw[xP] at a;subst a;exact Ch _ this)⟩
 ·rename_i c d e f g;exfalso;apply h
  split
  all_goals first|rfl|(exfalso;first|exact c rfl|exact d rfl|exact e rfl|exact f rfl|exact g rfl)
theorem rX(r:zm):qm (keyOf r)=true:=fF _ (Ke r)
theorem nZ(r:zm)(h:Z6 r=true):Uw (Q7 r):=by
 rcases nY r h with ⟨_,e⟩|⟨op,l,_,e,ho,h0,_,_,hl⟩
 ·rw[e];exact⟨⟨4,by decide,rfl⟩,rX r,λh=>by simp at h,λ_=>sU⟩
 ·rw[e];exact La ho (rX r) h0 hl
theorem FB(r:zm)(h:Z6 r=true):jS (ku r)=Q7 r/\condC (ku r)=0:=by
 have a:=nZ r h
 rcases nY r h with ⟨e,e2⟩|⟨op,l,e,e2,_,h0,_,_,hl⟩
 ·rw[e2] at a |-;rw[e];unfold vZ;refine og a none sU ?_ ?_ ?_ ?_ ?_
  all_goals (cases r.no<;>kernel_rfl)
 ·rw[e2] at a |-;rw[e];unfold XM vZ;refine og a (some (qd l r.style)) (hl _) ?_ ?_ ?_ ?_ ?_
  all_goals (cases r.no<;>kernel_rfl)
theorem Ha(r:zm):yG (Qx r)=true:=by unfold Qx;cases r.deny<;>kernel_rfl
theorem TZ(r:zm):lM (stK r):=by
 refine⟨Ha r,bI _ _,bI _ _,bI _ _,?_,?_⟩
 ·unfold stK;simp only;split<;>simp
 ·intro c a;unfold stK at a;simp only at a
  split at a
  ·rename_i h;rw[xP] at a;subst a;exact nZ r h
  ·simp at a
theorem bB(raw:List Int)(nt:Bool)(a:Int):chS (some (vD raw nt a))=(nt,qU raw)/\chC (some (vD raw nt a))=0:=by
 refine⟨?_,UT raw nt a⟩
 have:=EM (c:=(nt,qU raw)) a (XL raw).1 (by have:=(XL raw).2;simp only;omega)
 exact this
theorem BN(r:zm):yx (Xj r)=stK r:=by
 have c:=TZ r;have c1:=bB r.who (decide (zy r.nt 16=2)) r.style;have c2:=bB r.act (decide (zy r.nt 16=3)) r.style;have c3:=bB r.on (decide (zy r.nt 16=1)) r.style;unfold Xj Y7
 by_cases hz:(xU r).size=0
 ·rw[zb hz];have a:Z6 r=false:=zH (λh=>h hz);have hi:(stK r).ifs=[]:=by unfold stK;simp only;rw[a];rfl
  exact (BM c _ _ _ none c1 c2 c3 ⟨by rw[hi];rfl,rfl⟩ (by kernel_rfl) (by kernel_rfl) (by kernel_rfl) (by kernel_rfl) (by kernel_rfl) (by kernel_rfl)).1
 ·rw[za hz];have a:Z6 r=true:=zF hz;have hi:(stK r).ifs=[Q7 r]:=by unfold stK;simp only;rw[a];rfl
  have b:=FB r a;refine (BM c _ _ _ (some (.list [ku r])) c1 c2 c3 ⟨?_,?_⟩ (by kernel_rfl) (by kernel_rfl) (by kernel_rfl) (by kernel_rfl) (by kernel_rfl) (by kernel_rfl)).1
  ·rw[hi];show [jS (ku r)]=[Q7 r];rw[b.1]
  ·show qA [condC (ku r)]=0;rw[b.2];rfl
theorem Uq(l:List zm):um (qQ l)=Zc l:=by
 unfold um;have b:=Aa l;have a:=gJ l;unfold bl at a;rw[za (by omega),a];simp only
 have:stX (JN l)=some (.list (ZK l)):=by unfold JN stX;kernel_rfl
 rw[this];show (ZK l).map yx=Zc l;unfold ZK Zc Ug
 split
 ·simp only[vw,Zv,BN]
 ·rw[jw];exact Jt λr _=>BN r
theorem Gv{l:List zm}{s:zT}(h:s ∈ Zc l):∃r ∈ Ug l,stK r=s:=qR.1 h
end Kp
theorem sQ(w:World)(cs:Array Value)(t:TypeId):∀(j:Nat) (u:Value),cs.toList[j]?=some u->(w.alloc (.cells cs t)).cell? ((⟨w.heap.size,0,none⟩:Addr).add j)=some u:=by
 intro j u a;have h:=(zf (zL w (.cells cs t)) j).1;rw[addr_add];simp only[qM];rw[h]
 simpa using a
def UE(w:World)(outs:List BA)(e:Ending)(b:World):Prop:=∃a,e = .returned a/\zZ b w.heap.size a outs/\Below w.heap.size w b
theorem WY:(prog.info? 9).map (λi=>(i.zero,i.size,i.bytes))=some (some (.string ⟨#[]⟩),1,16):=by kernel_rfl
theorem zac{w:World}{B:Nat}{a:Value}{l:List BA}{s:BA}(h:w.ownsRow B 9 1 a (l.length+1) (l.map Value.string++[.string s])):zZ w B a (l++[s]):=by
 unfold zZ;rw[jN,qL];exact h
end Go.Proofs.YtagnlbgbnfnapaaGreatDoor
namespace Go.Proofs.YtagnlbgbnfnapaaGreatDoor
open Go.Shelf
end Go.Proofs.YtagnlbgbnfnapaaGreatDoor
namespace Go.Proofs.YtagnlbgbnfnapaaGreatDoor
open Go.RowKit
def Dc(c:qF):Prop:=c.op.size<=12000/\c.key.size<=12000/\Ref.XD c.vals
structure aJ (s:zT):Prop where
 eff:s.eff.size<=12000
 who:Ref.XD s.who.2
 act:Ref.XD s.act.2
 on:Ref.XD s.on.2
 len:s.ifs.length<=5
 cs:∀c ∈ s.ifs,Dc c
end Go.Proofs.YtagnlbgbnfnapaaGreatDoor
