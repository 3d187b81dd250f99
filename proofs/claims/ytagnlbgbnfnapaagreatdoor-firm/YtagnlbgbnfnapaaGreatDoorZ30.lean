/- P -/
import Derived.Test.YtagnlbgbnfnapaaGreatDoorZ29
set_option maxRecDepth 100000
namespace Go.Proofs.YtagnlbgbnfnapaaGreatDoor
namespace Kp
open Rd Ref
def Yd(t:List UInt8):Prop:=∀b ∈ t,32<=b.toNat/\b.toNat<128/\b.toNat≠34/\b.toNat≠92
instance (t:List UInt8):Decidable (Yd t):=by unfold Yd;infer_instance
theorem Ui{d:Nat}{t:List UInt8}(h:Yd t):W d (34::(t++[34])) (.str ⟨⟨t⟩⟩):=W.str (KQ h)
theorem Ki{d:Nat}{n t e:List UInt8}{v:V}(f:Yd n)(g:W (d+1) t v)(a:Blanks e):WO d (34::(n++34::58::(t++(e++[125])))) [(⟨⟨n⟩⟩,v)]:=by
 have:=WO.last (d:=d) (KQ f) (b:=[]) (c:=[]) xk xk g a
 simpa only[yn,kQ,List.nil_append] using this
theorem Yr{d:Nat}{n t e g a:List UInt8}{v:V}{ms:List (BA×V)}(i:Yd n)(k:W (d+1) t v)(f:Blanks e)(h:Blanks g)(j:WO d a ms):WO d (34::(n++34::58::(t++(e++44::(g++a))))) ((⟨⟨n⟩⟩,v)::ms):=by
 have:=WO.more (d:=d) (KQ i) (b:=[]) (c:=[]) xk xk k f h j
 simpa only[yn,kQ,List.nil_append] using this
theorem ky{l:List BA}{k:Nat}(h:k<l.length):l.getD k ⟨#[]⟩ ∈ l:=by
 rw[zQ,zt h];exact xg _
def keyOf(r:zm):BA:=keys.getD (zy r.key 5) ⟨#[]⟩
theorem Na:∀s ∈ keys,Yd (bl s):=by decide
theorem Ke(r:zm):keyOf r ∈ keys:=ky (xI r.key 5 (by decide))
def vZ(r:zm):List (BA×V):=if r.no then [(bNo,.word true)] else []
def vV:BA:=⟨#[97,98,115,101,110,116]⟩
def JI:BA:=⟨#[108,105,107,101]⟩
def XI:BA:=⟨#[115,97,109,101]⟩
def ZW:BA:=⟨#[98,101,108,111,119]⟩
def kY:BA:=⟨#[117,110,100,101,114]⟩
def XM(r:zm)(op:BA)(l:List BA):V := .obj ([(zG,.str (keyOf r)),(bOp,.str op),(zJ,qd l r.style)]++vZ r)
def ku(r:zm):V:=
 match zy r.iff 8 with
 | 1 => .obj ([(zG,.str (keyOf r)),(bOp,.str vV)]++vZ r)
 | 6=>XM r JI [patterns.getD (zy r.val 14) ⟨#[]⟩,⟨#[120]⟩]
 | 2=>XM r XI [words.getD (zy r.val 14) ⟨#[]⟩]
 | 3=>XM r ZW [nums.getD (zy r.val 4) ⟨#[]⟩]
 | 4=>XM r kY [QO.getD (zy r.val 3) ⟨#[]⟩]
 | _ => .obj []
theorem ww{d:Nat}{n t e:List UInt8}{v:V}(r:zm)(b:Yd n)(c:W (d+1) t v)(a:Blanks e):WO d (34::(n++34::58::(t++(e++(bl (noB r)++[125]))))) ((⟨⟨n⟩⟩,v)::vZ r):=by
 unfold noB vZ
 cases r.no with
 | false=>exact Ki b c a
 | true=>
  have f:WO d (34::([110,111]++34::58::([116,114,117,101]++([]++[125])))) [(⟨⟨[110,111]⟩⟩,.word true)]:=Ki (by decide) .yes xk;exact Yr (g:=[]) b c a xk f
theorem rC{d:Nat}{t:List UInt8}{ms:List (BA×V)}(r:zm)(b:WO d (34::([111,112]++34::58::t)) ms):WO d (bl (XQ r)++t) ((zG,.str (keyOf r))::ms):=by
 have a:WO d (34::([107,101,121]++34::58::((34::(bl (keyOf r)++[34]))++([]++44::([]++(34::([111,112]++34::58::t))))))) ((⟨⟨[107,101,121]⟩⟩,.str ⟨⟨bl (keyOf r)⟩⟩)::ms):=Yr (by decide) (Ui (Na _ (Ke r))) xk xk b
 have e:bl (XQ r)++t=(34::([107,101,121]++34::58::((34::(bl (keyOf r)++[34]))++([]++44::([]++(34::([111,112]++34::58::t))))))):=by
  rw[XQ,xL,xL];show _++bl (keyOf r)++_++t=_;simp only[bl,yn,kQ,List.nil_append]
 rw[e];exact a
theorem UZ{d:Nat}(hd:d<=6)(r:zm)(op:List UInt8)(a:BA)(l:List BA)(k:Yd op)(i:bl a=34::(op++[34,44,34,118,97,108,117,101,34,58]))(f:l≠[])(o:∀s ∈ l,Pl s)(j:((([(zG,V.str (keyOf r)),(bOp,.str ⟨⟨op⟩⟩),(zJ,qd l r.style)]++vZ r)).map λm=>m.1.toList).Nodup):W d (bl (ZB r a l)) (XM r ⟨⟨op⟩⟩ l):=by
 obtain⟨t,b,e,hb,p⟩:=fK (d:=d+1) (by omega) r.style f o;have g:WO d (34::([118,97,108,117,101]++34::58::(t++(b++(bl (noB r)++[125]))))) ((⟨⟨[118,97,108,117,101]⟩⟩,qd l r.style)::vZ r):=ww r (by decide) p hb;have h:=rC r (Yr (n:=[111,112]) (by decide) (Ui k) xk xk g);have c:=W.obj (by omega) xk h j;unfold ZB;rw[xL,xL,xL,xL,xL,e,i];simp only[bl,yn,kQ,List.nil_append] at c |-;exact c
theorem Km(r:zm)(v:V)(op:BA):(([(zG,V.str (keyOf r)),(bOp,V.str op),(zJ,v)]++vZ r).map λm=>m.1.toList).Nodup:=by
 unfold vZ
 cases r.no with
 | false=>exact (by kernel_rfl:decide ([zG.toList,bOp.toList,zJ.toList].Nodup)=true) |> XW
 | true=>exact (by kernel_rfl:decide ([zG.toList,bOp.toList,zJ.toList,bNo.toList].Nodup)=true) |> XW
theorem OI(r:zm)(op:BA):(([(zG,V.str (keyOf r)),(bOp,V.str op)]++vZ r).map λm=>m.1.toList).Nodup:=by
 unfold vZ
 cases r.no with
 | false=>exact (by kernel_rfl:decide ([zG.toList,bOp.toList].Nodup)=true) |> XW
 | true=>exact (by kernel_rfl:decide ([zG.toList,bOp.toList,bNo.toList].Nodup)=true) |> XW
theorem gu{l:List BA}{k:Nat}(h:∀s ∈ l,Pl s)(b:k<l.length):∀s ∈ [l.getD k ⟨#[]⟩],Pl s:=λs a=>by
 rw[xP] at a;subst a;exact h _ (ky b)
theorem FH{d:Nat}(hd:d<=6)(r:zm)(h:(xU r).size≠0):W d (bl (xU r)) (ku r):=by
 unfold xU at h |-;unfold ku
 revert h
 generalize zy r.iff 8=j;intro h
 split
 ·have c:WO d (34::([111,112]++34::58::((34::([97,98,115,101,110,116]++[34]))++([]++(bl (noB r)++[125]))))) ((⟨⟨[111,112]⟩⟩,.str ⟨⟨[97,98,115,101,110,116]⟩⟩)::vZ r):=ww r (by decide) (Ui (by decide)) xk;have e:=rC r c;have a:=W.obj (by omega) xk e (OI r _);rw[xL,xL,xL,xL];simp only[bl,yn,kQ,List.nil_append] at a |-;exact a
 ·refine UZ hd r [108,105,107,101] sI _ (by decide) rfl (List.cons_ne_nil _ _) ?_ (Km r _ _);intro s b
  rcases vz.1 b with rfl|b
  ·exact Kw _ (ky (xI r.val 14 (by decide)))
  ·rw[xP] at b;subst b;exact Yv _ rfl
 ·exact UZ hd r [115,97,109,101] Bi _ (by decide) rfl (by simp) (gu Ct (xI r.val 14 (by decide))) (Km r _ _)
 ·exact UZ hd r [98,101,108,111,119] nk _ (by decide) rfl (by simp) (gu wF (xI r.val 4 (by decide))) (Km r _ _)
 ·exact UZ hd r [117,110,100,101,114] Cg _ (by decide) rfl (by simp) (gu Ci (xI r.val 3 (by decide))) (Km r _ _)
 ·rename_i c e a f g;exfalso;apply h
  split
  all_goals first|rfl|(exfalso;first|exact c rfl|exact e rfl|exact a rfl|exact f rfl|exact g rfl)
def Y7(r:zm):List (BA×V):=if (xU r).size=0 then [] else [(bIf,.list [ku r])]
def xR:BA:=⟨#[97,108,108,111,119]⟩
def yo:BA:=⟨#[100,101,110,121]⟩
def Qx(r:zm):BA:=if r.deny then yo else xR
def Xj(r:zm):V := .obj ((ql,.str (Qx r))::(Y7 r++[(bOn,vD r.on (decide (zy r.nt 16=1)) r.style),(qz,vD r.who (decide (zy r.nt 16=2)) r.style),(bDo,vD r.act (decide (zy r.nt 16=3)) r.style)]))
theorem WE(r:zm)(a b c:V):(((ql,V.str (Qx r))::(Y7 r++[(bOn,a),(qz,b),(bDo,c)])).map λm=>m.1.toList).Nodup:=by
 unfold Y7
 split
 ·exact (by kernel_rfl:decide ([ql.toList,bOn.toList,qz.toList,bDo.toList].Nodup)=true) |> XW
 ·exact (by kernel_rfl:decide ([ql.toList,bIf.toList,bOn.toList,qz.toList,bDo.toList].Nodup)=true) |> XW
theorem Sz{d:Nat}(hd:d<=6)(r:zm):WO d (bl ⟨#[34,111,110,34,58]⟩++bl (ji r.on (decide (zy r.nt 16=1)) r.style)++bl ⟨#[44,34,119,104,111,34,58]⟩++bl (ji r.who (decide (zy r.nt 16=2)) r.style)++bl ⟨#[44,34,100,111,34,58]⟩++bl (ji r.act (decide (zy r.nt 16=3)) r.style)++bl ⟨#[125]⟩)
  [(bOn,vD r.on (decide (zy r.nt 16=1)) r.style),(qz,vD r.who (decide (zy r.nt 16=2)) r.style),(bDo,vD r.act (decide (zy r.nt 16=3)) r.style)]:=by
 obtain⟨p,l,f,a,hw1⟩:=bG (d:=d+1) (by omega) r.on (decide (zy r.nt 16=1)) r.style;obtain⟨q,m,h,b,hw2⟩:=bG (d:=d+1) (by omega) r.who (decide (zy r.nt 16=2)) r.style;obtain⟨s,o,i,c,hw3⟩:=bG (d:=d+1) (by omega) r.act (decide (zy r.nt 16=3)) r.style;have k:=Ki (n:=[100,111]) (by decide) hw3 c;have j:=Yr (n:=[119,104,111]) (g:=[]) (by decide) hw2 b xk k;have e:=Yr (n:=[111,110]) (g:=[]) (by decide) hw1 a xk j;rw[f,h,i];simp only[bl,yn,kQ,List.nil_append] at e |-;exact e
theorem Mo{d:Nat}(hd:d<=4)(r:zm){t:List UInt8}{ms:List (BA×V)}(h:WO d t ms):WO d (bl (if (xU r).size=0 then ⟨#[]⟩ else ⟨#[34,105,102,34,58,91]⟩++xU r++⟨#[93,44]⟩)++t) (Y7 r++ms):=by
 unfold Y7
 by_cases c:(xU r).size=0
 ·rw[zb c,zb c];exact h
 ·rw[za c,za c];have b:=FH (d:=d+2) (by omega) r c;have f:W (d+1) ([91]++[]++(bl (xU r)++[]++[93])) (.list [ku r]) := .list (by omega) xk (.last b xk);have a:=Yr (n:=[105,102]) (g:=[]) (e:=[]) (by decide) f xk xk h;rw[xL,xL];simp only[bl,yn,kQ,List.nil_append] at a |-;exact a
theorem za1(r:zm):Xm r=ZZ r++(if (xU r).size=0 then ⟨#[]⟩ else ⟨#[34,105,102,34,58,91]⟩++xU r++⟨#[93,44]⟩):=by
 unfold Xm
 split
 ·apply uS;simp[ByteArray.data_append]
 ·apply uS;simp[ByteArray.data_append]
theorem WI{d:Nat}(hd:d<=4)(r:zm):W d (bl (jZ r)) (Xj r):=by
 have c:=Mo hd r (Sz (d:=d) (by omega) r);unfold jZ Xj;rw[za1];simp only[xL,yn] at c |-;have a:=WE r (vD r.on (decide (zy r.nt 16=1)) r.style) (vD r.who (decide (zy r.nt 16=2)) r.style) (vD r.act (decide (zy r.nt 16=3)) r.style);unfold ZZ;unfold Qx at a |-
 cases hdn:r.deny with
 | false=>
  rw[hdn] at a;simp only[yB,yu] at a |-;have f:=Yr (n:=[101,102,102,101,99,116]) (e:=[]) (g:=[]) (by decide) (Ui (t:=[97,108,108,111,119]) (by decide)) xk xk c;have b:=W.obj (by omega) xk f a;simp only[bl,kQ,List.nil_append] at b |-;exact b
 | true=>
  rw[hdn] at a;simp only[qO] at a |-;have f:=Yr (n:=[101,102,102,101,99,116]) (e:=[]) (by decide) (Ui (t:=[100,101,110,121]) (by decide)) xk (Ub r.style) c;have b:=W.obj (by omega) xk f a;simp only[xL];simp only[bl,kQ,List.nil_append] at b |-;exact b
def ZK(l:List zm):List V:=if l.length=0 then [Xj xu] else (l.take 4).map Xj
def JN(l:List zm):V := .obj [(vC,.list (ZK l))]
theorem gH(l:List zm):∀k,k<=l.length->bl (vJ l k)=uG [44] ((l.take k).map λr=>bl (jZ r))
 | 0,_=>rfl
 | k+1,h=>by
  have a:k<l.length:=by omega
  rw[vJ,xL,zt a,Xy a,jN,List.map_singleton]
  by_cases h0:0<k
  ·rw[zb h0,xL,gH l k (by omega),dP _ _ _ (by
    intro e
    have:=congrArg List.length e
    rw[qg,xE,QW] at this;omega)]
   rfl
  ·have:k=0:=by omega
   subst this;rw[za h0,gH l 0 (by omega)]
   rfl
theorem ED{d:Nat}(hd:d<=3)(l:List zm):WL d (bl (Q6 l)++[93]) (ZK l):=by
 have key:∀xs:List zm,xs≠[]->WL d (uG [44] (xs.map λr=>bl (jZ r))++[93]) (xs.map Xj):=by
  intro xs b
  have:=lq (d:=d) xk (xs.map λr=>(bl (jZ r),Xj r)) (by simpa using b) (by
   intro x f;obtain⟨r,_,rfl⟩:=qR.1 f;exact WI (by omega) r)
  rw[jw,jw] at this;exact this
 unfold Q6 ZK
 by_cases c:l.length=0
 ·rw[zb c,zb c];exact key [xu] (by simp)
 ·rw[za c,za c,gH l _ (Nat.min_le_left _ _)]
  have e:l.take (min l.length 4)=l.take 4:=by
   rw[List.take_eq_take_iff];omega
  rw[e];refine key (l.take 4) ?_;intro a
  have:=congrArg List.length a
  rw[xE,QW] at this;omega
theorem GK(l:List zm):W 1 (bl (qQ l)) (JN l):=by
 have c:W 2 ([91]++[]++(bl (Q6 l)++[93])) (.list (ZK l)) := .list (by omega) xk (ED (d:=2) (by omega) l);have b:=Ki (d:=1) (n:=[115,116,97,116,101,109,101,110,116]) (e:=[]) (by decide) c xk;have a:=W.obj (by omega) xk b (by simp);unfold qQ;simp only[xL];simp only[bl,yn,kQ,List.nil_append] at a |-;exact a
theorem gJ(l:List zm):yS (bl (qQ l)) = .ok (JN l) (bl (qQ l)).length:=RX (GK l)
end Kp
namespace Rd
open Ref
end Rd
namespace Kp
open Rd Ref
theorem Kv:∀s ∈ patterns,yf s=true:=by
 have h:patterns.all yf=true:=by kernel_rfl
 exact vP.1 h
theorem K5:∀s ∈ words,short s=true:=by
 have h:words.all short=true:=by kernel_rfl
 exact vP.1 h
theorem wE:∀s ∈ nums,xB s=true:=by
 have h:nums.all xB=true:=by kernel_rfl
 exact vP.1 h
theorem Ch:∀s ∈ QO,filled s=true:=by
 have h:QO.all filled=true:=by kernel_rfl
 exact vP.1 h
theorem fF:∀s ∈ keys,qm s=true:=by
 have h:keys.all qm=true:=by kernel_rfl
 exact vP.1 h
theorem Yo{l:List Nat}(h:∀c ∈ l,c=0):qA l=0:=by
 unfold qA
 have b:l.any (λc=>c==1)=false:=by
  rw[QU];intro c a;rw[h c a]
  decide
 have d:l.any (λc=>c==2)=false:=by
  rw[QU];intro c a;rw[h c a]
  decide
 rw[b,d]
 rfl
theorem XX{c:Option V->Nat}{l:List BA}(d:Int)(g:1<=l.length)(h:l.length<=10)(b:∀s ∈ l,c (some (.str s))=0):qP c (some (qd l d))=0:=by
 unfold qd
 by_cases e:l.length=1/\bit d 32=true
 ·rw[zb e];show qA [c (some (.str (l.getD 0 ⟨#[]⟩)))]=0;refine Yo (λx a=>?_);rw[xP] at a;subst a;exact b _ (ky (by omega))
 ·rw[za e];show (if (l.map V.str).length<1\/10<(l.map V.str).length then 1 else qA ((l.map V.str).map λv=>c (some v)))=0
  rw[qg,za (by omega)];refine Yo (λx a=>?_);rw[jw] at a;obtain⟨s,f,rfl⟩:=qR.1 a;exact b s f
theorem Ku{s:BA}(h:yf s=true):yM (some (.str s))=0:=by
 show cls false (!yf s)=0;rw[h];rfl
theorem QJ{f:BA->Bool}{s:BA}(h:f s=true):qf f (some (.str s))=0:=by
 show cls (!f s) false=0;rw[h];rfl
theorem UT(raw:List Int)(nt:Bool)(a:Int):chC (some (vD raw nt a))=0:=by
 have i:=XL raw;have h:=XX (c:=yM) (l:=qU raw) a i.1 (by omega) (λs j=>Ku (Kv s (VN j)));unfold vD
 cases nt with
 | true=>
  have d:qh [(qH,qd (qU raw) a)] [qH]=true:=by kernel_rfl
  have f:zl [(qH,qd (qU raw) a)] qH=some (qd (qU raw) a):=by kernel_rfl
  simp only[qO,chC];rw[d,f,zb rfl];exact h
 | false=>
  simp only[yB,yu]
  have:∀ms,qd (qU raw) a ≠ .obj ms:=by
   intro ms;unfold qd
   split<;>(intro e;cases e)
  have g:chC (some (qd (qU raw) a))=qP yM (some (qd (qU raw) a)):=by
   cases hv:qd (qU raw) a with
   | obj ms=>exact absurd hv (this ms)
   | str s=>rfl
   | word b=>rfl
   | list k=>rfl
  rw[g];exact h
theorem UX(r:zm)(op:BA)(l:List BA)(j:uJ op=true)(i:qB op (some (qd l r.style))=0):condC (XM r op l)=0:=by
 have h:=QJ (fF _ (Ke r));unfold XM
 have key:∀(x:List (BA×V)),qh ([(zG,V.str (keyOf r)),(bOp,V.str op),(zJ,qd l r.style)]++x) [bOp,zG,zJ,bNo]=true->zl ([(zG,V.str (keyOf r)),(bOp,V.str op),(zJ,qd l r.style)]++x) bOp=some (.str op)->zl ([(zG,V.str (keyOf r)),(bOp,V.str op),(zJ,qd l r.style)]++x) zG=some (.str (keyOf r))->zl ([(zG,V.str (keyOf r)),(bOp,V.str op),(zJ,qd l r.style)]++x) zJ=some (qd l r.style)->Zh (zl ([(zG,V.str (keyOf r)),(bOp,V.str op),(zJ,qd l r.style)]++x) bNo)=false->condC (.obj ([(zG,V.str (keyOf r)),(bOp,V.str op),(zJ,qd l r.style)]++x))=0:=by
  intro x b d e f g;unfold condC;simp only;rw[zb b,d];simp only[Rd.opV];rw[j,YK,zb rfl,e,f,g];refine Yo (λc a=>?_);simp only[vz,YR,or_false] at a
  rcases a with rfl|rfl|rfl
  ·exact h
  ·exact i
  ·rfl
 unfold vZ
 cases r.no with
 | false=>exact key _ (by kernel_rfl) (by kernel_rfl) (by kernel_rfl) (by kernel_rfl) (by kernel_rfl)
 | true=>exact key _ (by kernel_rfl) (by kernel_rfl) (by kernel_rfl) (by kernel_rfl) (by kernel_rfl)
theorem Fs(r:zm):condC (.obj ([(zG,.str (keyOf r)),(bOp,.str vV)]++vZ r))=0:=by
 have j:=QJ (fF _ (Ke r))
 have key:∀(x:List (BA×V)),qh ([(zG,V.str (keyOf r)),(bOp,V.str vV)]++x) [bOp,zG,zJ,bNo]=true->zl ([(zG,V.str (keyOf r)),(bOp,V.str vV)]++x) bOp=some (.str vV)->zl ([(zG,V.str (keyOf r)),(bOp,V.str vV)]++x) zG=some (.str (keyOf r))->zl ([(zG,V.str (keyOf r)),(bOp,V.str vV)]++x) zJ=none->Zh (zl ([(zG,V.str (keyOf r)),(bOp,V.str vV)]++x) bNo)=false->condC (.obj ([(zG,V.str (keyOf r)),(bOp,V.str vV)]++x))=0:=by
  intro x b d e f g;unfold condC;simp only;rw[zb b,d];simp only[Rd.opV];have h:(uJ vV||jm vV)=true:=by kernel_rfl
  have i:qB vV none=0:=by kernel_rfl
  rw[zb h,e,f,g,i];refine Yo (λc a=>?_);simp only[vz,YR,or_false] at a
  rcases a with rfl|rfl|rfl
  ·exact j
  ·rfl
  ·rfl
 unfold vZ
 cases r.no with
 | false=>exact key _ (by kernel_rfl) (by kernel_rfl) (by kernel_rfl) (by kernel_rfl) (by kernel_rfl)
 | true=>exact key _ (by kernel_rfl) (by kernel_rfl) (by kernel_rfl) (by kernel_rfl) (by kernel_rfl)
theorem gq{c:Option V->Nat}{l:List BA}{k:Nat}(h:∀s ∈ l,c (some (.str s))=0)(b:k<l.length):∀s ∈ [l.getD k ⟨#[]⟩],c (some (.str s))=0:=λs a=>by
 rw[xP] at a;subst a;exact h _ (ky b)
theorem Fu(r:zm)(h:(xU r).size≠0):condC (ku r)=0:=by
 unfold xU at h;unfold ku
 revert h
 generalize zy r.iff 8=j;intro h
 split
 ·exact Fs r
 ·refine UX r JI _ (by kernel_rfl) ?_;unfold qB;rw[zb (by kernel_rfl)];refine XX r.style (by simp) (by simp) (λs a=>?_)
  rcases vz.1 a with rfl|a
  ·exact Ku (Kv _ (ky (xI r.val 14 (by decide))))
  ·rw[xP] at a;subst a;exact Ku (by kernel_rfl)
 ·refine UX r XI _ (by kernel_rfl) ?_;unfold qB
  rw[za (by intro e;have b:xH XI=false:=by kernel_rfl
            rw[b] at e;cases e),zb (by kernel_rfl)]
  exact XX r.style (by simp) (by simp) (gq (λs a=>QJ (K5 s a)) (xI r.val 14 (by decide)))
 ·refine UX r ZW _ (by kernel_rfl) ?_;unfold qB;rw[show xH ZW=false by kernel_rfl,show yQ ZW=false by kernel_rfl,show jG ZW=true by kernel_rfl];exact XX r.style (by simp) (by simp) (gq (λs a=>QJ (wE s a)) (xI r.val 4 (by decide)))
 ·refine UX r kY _ (by kernel_rfl) ?_;unfold qB;rw[show xH kY=false by kernel_rfl,show yQ kY=false by kernel_rfl,show jG kY=false by kernel_rfl,show ZG kY=true by kernel_rfl];exact XX r.style (by simp) (by simp) (gq (λs a=>QJ (Ch s a)) (xI r.val 3 (by decide)))
 ·rename_i c d f g i;exfalso;apply h
  split
  all_goals first|rfl|(exfalso;first|exact c rfl|exact d rfl|exact f rfl|exact g rfl|exact i rfl)
theorem BJ(r:zm):xM (Xj r)=0:=by
 have j:qf yG (some (.str (Qx r)))=0:=by
  refine QJ ?_;unfold Qx
  cases r.deny<;>kernel_rfl
 have f:=UT r.on (decide (zy r.nt 16=1)) r.style;have g:=UT r.who (decide (zy r.nt 16=2)) r.style;have h:=UT r.act (decide (zy r.nt 16=3)) r.style;unfold Xj;generalize vD r.on (decide (zy r.nt 16=1)) r.style=a at f |-;generalize vD r.who (decide (zy r.nt 16=2)) r.style=b at g |-;generalize vD r.act (decide (zy r.nt 16=3)) r.style=c at h |-;have i:=Fu r;unfold Y7;generalize ku r=cv at i |-;generalize Qx r=ef at j |-
 have key:∀(ms:List (BA×V)) (x:Option V),qh ms [ql,qz,bDo,bOn,bIf]=true->zl ms ql=some (.str ef)->zl ms bOn=some a->zl ms qz=some b->zl ms bDo=some c->zl ms bIf=x->jD x=0->xM (.obj ms)=0:=by
  intro ms x k l m n o p q;unfold xM;simp only;rw[zb k,l,m,n,o,p];refine Yo (λy d=>?_);simp only[vz,YR,or_false] at d
  rcases d with rfl|rfl|rfl|rfl|rfl
  ·exact j
  ·exact g
  ·exact h
  ·exact f
  ·exact q
 by_cases e:(xU r).size=0
 ·rw[zb e];exact key _ none (by kernel_rfl) (by kernel_rfl) (by kernel_rfl) (by kernel_rfl) (by kernel_rfl) (by kernel_rfl) rfl
 ·rw[za e];refine key _ (some (.list [cv])) (by kernel_rfl) (by kernel_rfl) (by kernel_rfl) (by kernel_rfl) (by kernel_rfl) (by kernel_rfl) ?_;show qA [condC cv]=0;refine Yo (λy d=>?_);rw[xP] at d;subst d;exact i e
theorem WJ(l:List zm):1<=(ZK l).length/\(ZK l).length<=4:=by
 unfold ZK
 split
 ·simp
 ·rw[qg,xE];omega
theorem GI(l:List zm):ZC (JN l)=(0,0):=by
 have d:=Ue (gJ l);have g:=WJ l;unfold JN at d |-;have e:zl [(vC,.list (ZK l))] vC=some (.list (ZK l)):=by kernel_rfl
 have b:=yt d vC _ e;unfold ZC;simp only;rw[e];simp only[xV];rw[za (by omega)];rw[cB (L:=(bl (qQ l)).length) _ 0 (by cases b;assumption)];refine cK _ 0 (λc f=>?_);obtain⟨v,a,rfl⟩:=qR.1 f;unfold ZK at a
 split at a
 ·rw[xP] at a;subst a;exact BJ xu
 ·obtain⟨r,_,rfl⟩:=qR.1 a;exact BJ r
theorem Qb(l:List zm):jT (qQ l)=(0,0):=by
 have a:=Aa l;unfold jT;rw[za (by omega)]
 have:=gJ l
 unfold bl at this;rw[this];exact GI l
end Kp
end Go.Proofs.YtagnlbgbnfnapaaGreatDoor
