/- P -/
import Derived.Test.YtdakgnaojakldaaGreatDoorF28
set_option maxRecDepth 100000
namespace Go.Proofs.YtdakgnaojakldaaGreatDoor
namespace Kp
open Rd Ref
def Qu(t:List UInt8):Prop:=∀b ∈ t,32<=b.toNat/\b.toNat<128/\b.toNat≠34/\b.toNat≠92
instance (t:List UInt8):Decidable (Qu t):=by unfold Qu;infer_instance
theorem Jl{d:Nat}{t:List UInt8}(h:Qu t):W d (34::(t++[34])) (.str ⟨⟨t⟩⟩):=W.str (VJ h)
theorem Vf{d:Nat}{n t e:List UInt8}{v:V}(f:Qu n)(g:W (d+1) t v)(a:Blanks e):WO d (34::(n++34::58::(t++(e++[125])))) [(⟨⟨n⟩⟩,v)]:=by
 have:=WO.last (d:=d) (VJ f) (b:=[]) (c:=[]) ql ql g a
 simpa only[List.append_assoc,List.cons_append,List.nil_append] using this
theorem QI{d:Nat}{n t e g a:List UInt8}{v:V}{ms:List (BA×V)}(i:Qu n)(k:W (d+1) t v)(f:Blanks e)(h:Blanks g)(j:WO d a ms):WO d (34::(n++34::58::(t++(e++44::(g++a))))) ((⟨⟨n⟩⟩,v)::ms):=by
 have:=WO.more (d:=d) (VJ i) (b:=[]) (c:=[]) ql ql k f h j
 simpa only[List.append_assoc,List.cons_append,List.nil_append] using this
theorem ve{l:List BA}{k:Nat}(h:k<l.length):l.getD k ⟨#[]⟩ ∈ l:=by
 rw[List.getD_eq_getElem?_getD,List.getElem?_eq_getElem h];exact List.getElem_mem _
def keyOf(r:zi):BA:=keys.getD (zm r.key 5) ⟨#[]⟩
theorem GR:∀s ∈ keys,Qu (bl s):=by decide
theorem Vb(r:zi):keyOf r ∈ keys:=ve (qR r.key 5 (by decide))
def jy(r:zi):List (BA×V):=if r.no then [(bNo,.word true)] else []
def jm:BA:=⟨#[97,98,115,101,110,116]⟩
def XM:BA:=⟨#[108,105,107,101]⟩
def Z4:BA:=⟨#[115,97,109,101]⟩
def uQ:BA:=⟨#[98,101,108,111,119]⟩
def vR:BA:=⟨#[117,110,100,101,114]⟩
def Z9(r:zi)(op:BA)(l:List BA):V := .obj ([(zo,.str (keyOf r)),(bOp,.str op),(zt,zK l r.style)]++jy r)
def jY(r:zi):V:=
 match zm r.iff 8 with
 | 1 => .obj ([(zo,.str (keyOf r)),(bOp,.str jm)]++jy r)
 | 6=>Z9 r XM [patterns.getD (zm r.val 14) ⟨#[]⟩,⟨#[120]⟩]
 | 2=>Z9 r Z4 [words.getD (zm r.val 14) ⟨#[]⟩]
 | 3=>Z9 r uQ [nums.getD (zm r.val 4) ⟨#[]⟩]
 | 4=>Z9 r vR [Zk.getD (zm r.val 3) ⟨#[]⟩]
 | _ => .obj []
theorem lg{d:Nat}{n t e:List UInt8}{v:V}(r:zi)(b:Qu n)(c:W (d+1) t v)(a:Blanks e):WO d (34::(n++34::58::(t++(e++(bl (noB r)++[125]))))) ((⟨⟨n⟩⟩,v)::jy r):=by
 unfold noB jy
 cases r.no with
 | false=>exact Vf b c a
 | true=>
  have f:WO d (34::([110,111]++34::58::([116,114,117,101]++([]++[125])))) [(⟨⟨[110,111]⟩⟩,.word true)]:=Vf (by decide) .yes ql;exact QI (g:=[]) b c a ql f
theorem gB{d:Nat}{t:List UInt8}{ms:List (BA×V)}(r:zi)(b:WO d (34::([111,112]++34::58::t)) ms):WO d (bl (Qf r)++t) ((zo,.str (keyOf r))::ms):=by
 have a:WO d (34::([107,101,121]++34::58::((34::(bl (keyOf r)++[34]))++([]++44::([]++(34::([111,112]++34::58::t))))))) ((⟨⟨[107,101,121]⟩⟩,.str ⟨⟨bl (keyOf r)⟩⟩)::ms):=QI (by decide) (Jl (GR _ (Vb r))) ql ql b
 have e:bl (Qf r)++t=(34::([107,101,121]++34::58::((34::(bl (keyOf r)++[34]))++([]++44::([]++(34::([111,112]++34::58::t))))))):=by
  rw[Qf,qK,qK];show _++bl (keyOf r)++_++t=_;simp only[bl,List.append_assoc,List.cons_append,List.nil_append]
 rw[e];exact a
theorem JP{d:Nat}(hd:d<=6)(r:zi)(op:List UInt8)(a:BA)(l:List BA)(k:Qu op)(i:bl a=34::(op++[34,44,34,118,97,108,117,101,34,58]))(f:l≠[])(o:∀s ∈ l,Pl s)(j:((([(zo,V.str (keyOf r)),(bOp,.str ⟨⟨op⟩⟩),(zt,zK l r.style)]++jy r)).map λm=>m.1.toList).Nodup):W d (bl (Qa r a l)) (Z9 r ⟨⟨op⟩⟩ l):=by
 obtain⟨t,b,e,hb,p⟩:=Kl (d:=d+1) (by omega) r.style f o;have g:WO d (34::([118,97,108,117,101]++34::58::(t++(b++(bl (noB r)++[125]))))) ((⟨⟨[118,97,108,117,101]⟩⟩,zK l r.style)::jy r):=lg r (by decide) p hb;have h:=gB r (QI (n:=[111,112]) (by decide) (Jl k) ql ql g);have c:=W.obj (by omega) ql h j;unfold Qa;rw[qK,qK,qK,qK,qK,e,i];simp only[bl,List.append_assoc,List.cons_append,List.nil_append] at c |-;exact c
theorem Vl(r:zi)(v:V)(op:BA):(([(zo,V.str (keyOf r)),(bOp,V.str op),(zt,v)]++jy r).map λm=>m.1.toList).Nodup:=by
 unfold jy
 cases r.no with
 | false=>exact (by kernel_rfl:decide ([zo.toList,bOp.toList,zt.toList].Nodup)=true) |> of_decide_eq_true
 | true=>exact (by kernel_rfl:decide ([zo.toList,bOp.toList,zt.toList,bNo.toList].Nodup)=true) |> of_decide_eq_true
theorem Lg(r:zi)(op:BA):(([(zo,V.str (keyOf r)),(bOp,V.str op)]++jy r).map λm=>m.1.toList).Nodup:=by
 unfold jy
 cases r.no with
 | false=>exact (by kernel_rfl:decide ([zo.toList,bOp.toList].Nodup)=true) |> of_decide_eq_true
 | true=>exact (by kernel_rfl:decide ([zo.toList,bOp.toList,bNo.toList].Nodup)=true) |> of_decide_eq_true
theorem Kz{l:List BA}{k:Nat}(h:∀s ∈ l,Pl s)(b:k<l.length):∀s ∈ [l.getD k ⟨#[]⟩],Pl s:=λs a=>by
 rw[List.mem_singleton] at a;subst a;exact h _ (ve b)
theorem AA{d:Nat}(hd:d<=6)(r:zi)(h:(qY r).size≠0):W d (bl (qY r)) (jY r):=by
 unfold qY at h |-;unfold jY
 revert h
 generalize zm r.iff 8=j;intro h
 split
 ·have c:WO d (34::([111,112]++34::58::((34::([97,98,115,101,110,116]++[34]))++([]++(bl (noB r)++[125]))))) ((⟨⟨[111,112]⟩⟩,.str ⟨⟨[97,98,115,101,110,116]⟩⟩)::jy r):=lg r (by decide) (Jl (by decide)) ql;have e:=gB r c;have a:=W.obj (by omega) ql e (Lg r _);rw[qK,qK,qK,qK];simp only[bl,List.append_assoc,List.cons_append,List.nil_append] at a |-;exact a
 ·refine JP hd r [108,105,107,101] gY _ (by decide) rfl (List.cons_ne_nil _ _) ?_ (Vl r _ _);intro s b
  rcases List.mem_cons.1 b with rfl|b
  ·exact Vt _ (ve (qR r.val 14 (by decide)))
  ·rw[List.mem_singleton] at b;subst b;exact QO _ rfl
 ·exact JP hd r [115,97,109,101] nO _ (by decide) rfl (by simp) (Kz pR (qR r.val 14 (by decide))) (Vl r _ _)
 ·exact JP hd r [98,101,108,111,119] bY _ (by decide) rfl (by simp) (Kz lw (qR r.val 4 (by decide))) (Vl r _ _)
 ·exact JP hd r [117,110,100,101,114] pg _ (by decide) rfl (by simp) (Kz pu (qR r.val 3 (by decide))) (Vl r _ _)
 ·rename_i c e a f g;exfalso;apply h
  split
  all_goals first|rfl|(exfalso;first|exact c rfl|exact e rfl|exact a rfl|exact f rfl|exact g rfl)
def Xn(r:zi):List (BA×V):=if (qY r).size=0 then [] else [(bIf,.list [jY r])]
def yh:BA:=⟨#[97,108,108,111,119]⟩
def yj:BA:=⟨#[100,101,110,121]⟩
def kQ(r:zi):BA:=if r.deny then yj else yh
def ZL(r:zi):V := .obj ((zO,.str (kQ r))::(Xn r++[(bOn,y9 r.on (decide (zm r.nt 16=1)) r.style),(zQ,y9 r.who (decide (zm r.nt 16=2)) r.style),(bDo,y9 r.act (decide (zm r.nt 16=3)) r.style)]))
theorem PY(r:zi)(a b c:V):(((zO,V.str (kQ r))::(Xn r++[(bOn,a),(zQ,b),(bDo,c)])).map λm=>m.1.toList).Nodup:=by
 unfold Xn
 split
 ·exact (by kernel_rfl:decide ([zO.toList,bOn.toList,zQ.toList,bDo.toList].Nodup)=true) |> of_decide_eq_true
 ·exact (by kernel_rfl:decide ([zO.toList,bIf.toList,bOn.toList,zQ.toList,bDo.toList].Nodup)=true) |> of_decide_eq_true
theorem NS{d:Nat}(hd:d<=6)(r:zi):WO d (bl ⟨#[34,111,110,34,58]⟩++bl (ym r.on (decide (zm r.nt 16=1)) r.style)++bl ⟨#[44,34,119,104,111,34,58]⟩++bl (ym r.who (decide (zm r.nt 16=2)) r.style)++bl ⟨#[44,34,100,111,34,58]⟩++bl (ym r.act (decide (zm r.nt 16=3)) r.style)++bl ⟨#[125]⟩)
  [(bOn,y9 r.on (decide (zm r.nt 16=1)) r.style),(zQ,y9 r.who (decide (zm r.nt 16=2)) r.style),(bDo,y9 r.act (decide (zm r.nt 16=3)) r.style)]:=by
 obtain⟨p,l,f,a,hw1⟩:=Uv (d:=d+1) (by omega) r.on (decide (zm r.nt 16=1)) r.style;obtain⟨q,m,h,b,hw2⟩:=Uv (d:=d+1) (by omega) r.who (decide (zm r.nt 16=2)) r.style;obtain⟨s,o,i,c,hw3⟩:=Uv (d:=d+1) (by omega) r.act (decide (zm r.nt 16=3)) r.style;have k:=Vf (n:=[100,111]) (by decide) hw3 c;have j:=QI (n:=[119,104,111]) (g:=[]) (by decide) hw2 b ql k;have e:=QI (n:=[111,110]) (g:=[]) (by decide) hw1 a ql j;rw[f,h,i];simp only[bl,List.append_assoc,List.cons_append,List.nil_append] at e |-;exact e
theorem Fb{d:Nat}(hd:d<=4)(r:zi){t:List UInt8}{ms:List (BA×V)}(h:WO d t ms):WO d (bl (if (qY r).size=0 then ⟨#[]⟩ else ⟨#[34,105,102,34,58,91]⟩++qY r++⟨#[93,44]⟩)++t) (Xn r++ms):=by
 unfold Xn
 by_cases c:(qY r).size=0
 ·rw[if_pos c,if_pos c];exact h
 ·rw[if_neg c,if_neg c];have b:=AA (d:=d+2) (by omega) r c;have f:W (d+1) ([91]++[]++(bl (qY r)++[]++[93])) (.list [jY r]) := .list (by omega) ql (.last b ql);have a:=QI (n:=[105,102]) (g:=[]) (e:=[]) (by decide) f ql ql h;rw[qK,qK];simp only[bl,List.append_assoc,List.cons_append,List.nil_append] at a |-;exact a
theorem SS(r:zi):ZO r=uT r++(if (qY r).size=0 then ⟨#[]⟩ else ⟨#[34,105,102,34,58,91]⟩++qY r++⟨#[93,44]⟩):=by
 unfold ZO
 split
 ·apply ByteArray.ext;simp[ByteArray.data_append]
 ·apply ByteArray.ext;simp[ByteArray.data_append]
theorem Rc{d:Nat}(hd:d<=4)(r:zi):W d (bl (yU r)) (ZL r):=by
 have c:=Fb hd r (NS (d:=d) (by omega) r);unfold yU ZL;rw[SS];simp only[qK,List.append_assoc] at c |-;have a:=PY r (y9 r.on (decide (zm r.nt 16=1)) r.style) (y9 r.who (decide (zm r.nt 16=2)) r.style) (y9 r.act (decide (zm r.nt 16=3)) r.style);unfold uT;unfold kQ at a |-
 cases hdn:r.deny with
 | false=>
  rw[hdn] at a;simp only[Bool.false_eq_true,if_false] at a |-;have f:=QI (n:=[101,102,102,101,99,116]) (e:=[]) (g:=[]) (by decide) (Jl (t:=[97,108,108,111,119]) (by decide)) ql ql c;have b:=W.obj (by omega) ql f a;simp only[bl,List.cons_append,List.nil_append] at b |-;exact b
 | true=>
  rw[hdn] at a;simp only[if_true] at a |-;have f:=QI (n:=[101,102,102,101,99,116]) (e:=[]) (by decide) (Jl (t:=[100,101,110,121]) (by decide)) ql (Jd r.style) c;have b:=W.obj (by omega) ql f a;simp only[qK];simp only[bl,List.cons_append,List.nil_append] at b |-;exact b
def uD(l:List zi):List V:=if l.length=0 then [ZL qU] else (l.take 4).map ZL
def XR(l:List zi):V := .obj [(y8,.list (uD l))]
theorem KI(l:List zi):∀k,k<=l.length->bl (jd l k)=jN [44] ((l.take k).map λr=>bl (yU r))
 | 0,_=>rfl
 | k+1,h=>by
  have a:k<l.length:=by omega
  rw[jd,qK,List.getElem?_eq_getElem a,List.take_succ_eq_append_getElem a,List.map_append,List.map_singleton]
  by_cases h0:0<k
  ·rw[if_pos h0,qK,KI l k (by omega),Kc _ _ _ (by
    intro e
    have:=congrArg List.length e
    rw[List.length_map,List.length_take,List.length_nil] at this;omega)]
   rfl
  ·have:k=0:=by omega
   subst this;rw[if_neg h0,KI l 0 (by omega)]
   rfl
theorem wD{d:Nat}(hd:d<=3)(l:List zi):WL d (bl (Zx l)++[93]) (uD l):=by
 have key:∀xs:List zi,xs≠[]->WL d (jN [44] (xs.map λr=>bl (yU r))++[93]) (xs.map ZL):=by
  intro xs b
  have:=aP (d:=d) ql (xs.map λr=>(bl (yU r),ZL r)) (by simpa using b) (by
   intro x f;obtain⟨r,_,rfl⟩:=List.mem_map.1 f;exact Rc (by omega) r)
  rw[List.map_map,List.map_map] at this;exact this
 unfold Zx uD
 by_cases c:l.length=0
 ·rw[if_pos c,if_pos c];exact key [qU] (by simp)
 ·rw[if_neg c,if_neg c,KI l _ (Nat.min_le_left _ _)]
  have e:l.take (min l.length 4)=l.take 4:=by
   rw[List.take_eq_take_iff];omega
  rw[e];refine key (l.take 4) ?_;intro a
  have:=congrArg List.length a
  rw[List.length_take,List.length_nil] at this;omega
theorem BP(l:List zi):W 1 (bl (qi l)) (XR l):=by
 have c:W 2 ([91]++[]++(bl (Zx l)++[93])) (.list (uD l)) := .list (by omega) ql (wD (d:=2) (by omega) l);have b:=Vf (d:=1) (n:=[115,116,97,116,101,109,101,110,116]) (e:=[]) (by decide) c ql;have a:=W.obj (by omega) ql b (by simp);unfold qi;simp only[qK];simp only[bl,List.append_assoc,List.cons_append,List.nil_append] at a |-;exact a
theorem KL(l:List zi):xO (bl (qi l)) = .ok (XR l) (bl (qi l)).length:=Nu (BP l)
end Kp
namespace Rd
open Ref
end Rd
namespace Kp
open Rd Ref
theorem Vs:∀s ∈ patterns,qX s=true:=by
 have h:patterns.all qX=true:=by kernel_rfl
 exact List.all_eq_true.1 h
theorem VT:∀s ∈ words,short s=true:=by
 have h:words.all short=true:=by kernel_rfl
 exact List.all_eq_true.1 h
theorem lu:∀s ∈ nums,qF s=true:=by
 have h:nums.all qF=true:=by kernel_rfl
 exact List.all_eq_true.1 h
theorem pq:∀s ∈ Zk,filled s=true:=by
 have h:Zk.all filled=true:=by kernel_rfl
 exact List.all_eq_true.1 h
theorem Ke:∀s ∈ keys,zI s=true:=by
 have h:keys.all zI=true:=by kernel_rfl
 exact List.all_eq_true.1 h
theorem QF{l:List Nat}(h:∀c ∈ l,c=0):zR l=0:=by
 unfold zR
 have b:l.any (λc=>c==1)=false:=by
  rw[List.any_eq_false];intro c a;rw[h c a]
  decide
 have d:l.any (λc=>c==2)=false:=by
  rw[List.any_eq_false];intro c a;rw[h c a]
  decide
 rw[b,d]
 rfl
theorem Qm{c:Option V->Nat}{l:List BA}(d:Int)(g:1<=l.length)(h:l.length<=10)(b:∀s ∈ l,c (some (.str s))=0):qc c (some (zK l d))=0:=by
 unfold zK
 by_cases e:l.length=1/\bit d 32=true
 ·rw[if_pos e];show zR [c (some (.str (l.getD 0 ⟨#[]⟩)))]=0;refine QF (λx a=>?_);rw[List.mem_singleton] at a;subst a;exact b _ (ve (by omega))
 ·rw[if_neg e];show (if (l.map V.str).length<1\/10<(l.map V.str).length then 1 else zR ((l.map V.str).map λv=>c (some v)))=0
  rw[List.length_map,if_neg (by omega)];refine QF (λx a=>?_);rw[List.map_map] at a;obtain⟨s,f,rfl⟩:=List.mem_map.1 a;exact b s f
theorem Vr{s:BA}(h:qX s=true):xD (some (.str s))=0:=by
 show cls false (!qX s)=0;rw[h];rfl
theorem Zf{f:BA->Bool}{s:BA}(h:f s=true):zL f (some (.str s))=0:=by
 show cls (!f s) false=0;rw[h];rfl
theorem JJ(raw:List Int)(nt:Bool)(a:Int):chC (some (y9 raw nt a))=0:=by
 have i:=Z8 raw;have h:=Qm (c:=xD) (l:=qp raw) a i.1 (by omega) (λs j=>Vr (Vs s (YL j)));unfold y9
 cases nt with
 | true=>
  have d:zJ [(zX,zK (qp raw) a)] [zX]=true:=by kernel_rfl
  have f:zf [(zX,zK (qp raw) a)] zX=some (zK (qp raw) a):=by kernel_rfl
  simp only[if_true,chC];rw[d,f,if_pos rfl];exact h
 | false=>
  simp only[Bool.false_eq_true,if_false]
  have:∀ms,zK (qp raw) a ≠ .obj ms:=by
   intro ms;unfold zK
   split<;>(intro e;cases e)
  have g:chC (some (zK (qp raw) a))=qc xD (some (zK (qp raw) a)):=by
   cases hv:zK (qp raw) a with
   | obj ms=>exact absurd hv (this ms)
   | str s=>rfl
   | word b=>rfl
   | list k=>rfl
  rw[g];exact h
theorem JN(r:zi)(op:BA)(l:List BA)(j:jQ op=true)(i:zS op (some (zK l r.style))=0):condC (Z9 r op l)=0:=by
 have h:=Zf (Ke _ (Vb r));unfold Z9
 have key:∀(x:List (BA×V)),zJ ([(zo,V.str (keyOf r)),(bOp,V.str op),(zt,zK l r.style)]++x) [bOp,zo,zt,bNo]=true->zf ([(zo,V.str (keyOf r)),(bOp,V.str op),(zt,zK l r.style)]++x) bOp=some (.str op)->zf ([(zo,V.str (keyOf r)),(bOp,V.str op),(zt,zK l r.style)]++x) zo=some (.str (keyOf r))->zf ([(zo,V.str (keyOf r)),(bOp,V.str op),(zt,zK l r.style)]++x) zt=some (zK l r.style)->yF (zf ([(zo,V.str (keyOf r)),(bOp,V.str op),(zt,zK l r.style)]++x) bNo)=false->condC (.obj ([(zo,V.str (keyOf r)),(bOp,V.str op),(zt,zK l r.style)]++x))=0:=by
  intro x b d e f g;unfold condC;simp only;rw[if_pos b,d];simp only[Rd.opV];rw[j,Bool.true_or,if_pos rfl,e,f,g];refine QF (λc a=>?_);simp only[List.mem_cons,List.not_mem_nil,or_false] at a
  rcases a with rfl|rfl|rfl
  ·exact h
  ·exact i
  ·rfl
 unfold jy
 cases r.no with
 | false=>exact key _ (by kernel_rfl) (by kernel_rfl) (by kernel_rfl) (by kernel_rfl) (by kernel_rfl)
 | true=>exact key _ (by kernel_rfl) (by kernel_rfl) (by kernel_rfl) (by kernel_rfl) (by kernel_rfl)
theorem Aj(r:zi):condC (.obj ([(zo,.str (keyOf r)),(bOp,.str jm)]++jy r))=0:=by
 have j:=Zf (Ke _ (Vb r))
 have key:∀(x:List (BA×V)),zJ ([(zo,V.str (keyOf r)),(bOp,V.str jm)]++x) [bOp,zo,zt,bNo]=true->zf ([(zo,V.str (keyOf r)),(bOp,V.str jm)]++x) bOp=some (.str jm)->zf ([(zo,V.str (keyOf r)),(bOp,V.str jm)]++x) zo=some (.str (keyOf r))->zf ([(zo,V.str (keyOf r)),(bOp,V.str jm)]++x) zt=none->yF (zf ([(zo,V.str (keyOf r)),(bOp,V.str jm)]++x) bNo)=false->condC (.obj ([(zo,V.str (keyOf r)),(bOp,V.str jm)]++x))=0:=by
  intro x b d e f g;unfold condC;simp only;rw[if_pos b,d];simp only[Rd.opV];have h:(jQ jm||qZ jm)=true:=by kernel_rfl
  have i:zS jm none=0:=by kernel_rfl
  rw[if_pos h,e,f,g,i];refine QF (λc a=>?_);simp only[List.mem_cons,List.not_mem_nil,or_false] at a
  rcases a with rfl|rfl|rfl
  ·exact j
  ·rfl
  ·rfl
 unfold jy
 cases r.no with
 | false=>exact key _ (by kernel_rfl) (by kernel_rfl) (by kernel_rfl) (by kernel_rfl) (by kernel_rfl)
 | true=>exact key _ (by kernel_rfl) (by kernel_rfl) (by kernel_rfl) (by kernel_rfl) (by kernel_rfl)
theorem Ky{c:Option V->Nat}{l:List BA}{k:Nat}(h:∀s ∈ l,c (some (.str s))=0)(b:k<l.length):∀s ∈ [l.getD k ⟨#[]⟩],c (some (.str s))=0:=λs a=>by
 rw[List.mem_singleton] at a;subst a;exact h _ (ve b)
theorem Ak(r:zi)(h:(qY r).size≠0):condC (jY r)=0:=by
 unfold qY at h;unfold jY
 revert h
 generalize zm r.iff 8=j;intro h
 split
 ·exact Aj r
 ·refine JN r XM _ (by kernel_rfl) ?_;unfold zS;rw[if_pos (by kernel_rfl)];refine Qm r.style (by simp) (by simp) (λs a=>?_)
  rcases List.mem_cons.1 a with rfl|a
  ·exact Vr (Vs _ (ve (qR r.val 14 (by decide))))
  ·rw[List.mem_singleton] at a;subst a;exact Vr (by kernel_rfl)
 ·refine JN r Z4 _ (by kernel_rfl) ?_;unfold zS
  rw[if_neg (by intro e;have b:qE Z4=false:=by kernel_rfl
                rw[b] at e;cases e),if_pos (by kernel_rfl)]
  exact Qm r.style (by simp) (by simp) (Ky (λs a=>Zf (VT s a)) (qR r.val 14 (by decide)))
 ·refine JN r uQ _ (by kernel_rfl) ?_;unfold zS;rw[show qE uQ=false by kernel_rfl,show xL uQ=false by kernel_rfl,show yD uQ=true by kernel_rfl];exact Qm r.style (by simp) (by simp) (Ky (λs a=>Zf (lu s a)) (qR r.val 4 (by decide)))
 ·refine JN r vR _ (by kernel_rfl) ?_;unfold zS;rw[show qE vR=false by kernel_rfl,show xL vR=false by kernel_rfl,show yD vR=false by kernel_rfl,show uy vR=true by kernel_rfl];exact Qm r.style (by simp) (by simp) (Ky (λs a=>Zf (pq s a)) (qR r.val 3 (by decide)))
 ·rename_i c d f g i;exfalso;apply h
  split
  all_goals first|rfl|(exfalso;first|exact c rfl|exact d rfl|exact f rfl|exact g rfl|exact i rfl)
theorem oz(r:zi):qM (ZL r)=0:=by
 have j:zL xz (some (.str (kQ r)))=0:=by
  refine Zf ?_;unfold kQ
  cases r.deny<;>kernel_rfl
 have f:=JJ r.on (decide (zm r.nt 16=1)) r.style;have g:=JJ r.who (decide (zm r.nt 16=2)) r.style;have h:=JJ r.act (decide (zm r.nt 16=3)) r.style;unfold ZL;generalize y9 r.on (decide (zm r.nt 16=1)) r.style=a at f |-;generalize y9 r.who (decide (zm r.nt 16=2)) r.style=b at g |-;generalize y9 r.act (decide (zm r.nt 16=3)) r.style=c at h |-;have i:=Ak r;unfold Xn;generalize jY r=cv at i |-;generalize kQ r=ef at j |-
 have key:∀(ms:List (BA×V)) (x:Option V),zJ ms [zO,zQ,bDo,bOn,bIf]=true->zf ms zO=some (.str ef)->zf ms bOn=some a->zf ms zQ=some b->zf ms bDo=some c->zf ms bIf=x->yA x=0->qM (.obj ms)=0:=by
  intro ms x k l m n o p q;unfold qM;simp only;rw[if_pos k,l,m,n,o,p];refine QF (λy d=>?_);simp only[List.mem_cons,List.not_mem_nil,or_false] at d
  rcases d with rfl|rfl|rfl|rfl|rfl
  ·exact j
  ·exact g
  ·exact h
  ·exact f
  ·exact q
 by_cases e:(qY r).size=0
 ·rw[if_pos e];exact key _ none (by kernel_rfl) (by kernel_rfl) (by kernel_rfl) (by kernel_rfl) (by kernel_rfl) (by kernel_rfl) rfl
 ·rw[if_neg e];refine key _ (some (.list [cv])) (by kernel_rfl) (by kernel_rfl) (by kernel_rfl) (by kernel_rfl) (by kernel_rfl) (by kernel_rfl) ?_;show zR [condC cv]=0;refine QF (λy d=>?_);rw[List.mem_singleton] at d;subst d;exact i e
theorem Re(l:List zi):1<=(uD l).length/\(uD l).length<=4:=by
 unfold uD
 split
 ·simp
 ·rw[List.length_map,List.length_take];omega
theorem BO(l:List zi):ut (XR l)=(0,0):=by
 have d:=Jg (KL l);have g:=Re l;unfold XR at d |-;have e:zf [(y8,.list (uD l))] y8=some (.list (uD l)):=by kernel_rfl
 have b:=xk d y8 _ e;unfold ut;simp only;rw[e];simp only[List.length_singleton];rw[if_neg (by omega)];rw[UQ (L:=(bl (qi l)).length) _ 0 (by cases b;assumption)];refine UR _ 0 (λc f=>?_);obtain⟨v,a,rfl⟩:=List.mem_map.1 f;unfold uD at a
 split at a
 ·rw[List.mem_singleton] at a;subst a;exact oz qU
 ·obtain⟨r,_,rfl⟩:=List.mem_map.1 a;exact oz r
theorem ZG(l:List zi):xW (qi l)=(0,0):=by
 have a:=lY l;unfold xW;rw[if_neg (by omega)]
 have:=KL l
 unfold bl at this;rw[this];exact BO l
end Kp
end Go.Proofs.YtdakgnaojakldaaGreatDoor
