/- P -/
import Derived.Test.YtdakgnaojakldaaGreatDoorQ30
set_option maxRecDepth 100000
namespace Go.Proofs.YtdakgnaojakldaaGreatDoor
namespace Kp
open Rd Ref
def Q8(t:List UInt8):Prop:=∀b ∈ t,32<=b.toNat/\b.toNat<128/\b.toNat≠34/\b.toNat≠92
instance (t:List UInt8):Decidable (Q8 t):=by unfold Q8;infer_instance
theorem VP{d:Nat}{t:List UInt8}(h:Q8 t):W d (34::(t++[34])) (.str ⟨⟨t⟩⟩):=W.str (Kq h)
theorem QH{d:Nat}{n t e:List UInt8}{v:V}(f:Q8 n)(g:W (d+1) t v)(a:Blanks e):WO d (34::(n++34::58::(t++(e++[125])))) [(⟨⟨n⟩⟩,v)]:=by
 have:=WO.last (d:=d) (Kq f) (b:=[]) (c:=[]) zP zP g a
 simpa only[List.append_assoc,yZ,List.nil_append] using this
theorem uH{d:Nat}{n t e g a:List UInt8}{v:V}{ms:List (BA×V)}(i:Q8 n)(k:W (d+1) t v)(f:Blanks e)(h:Blanks g)(j:WO d a ms):WO d (34::(n++34::58::(t++(e++44::(g++a))))) ((⟨⟨n⟩⟩,v)::ms):=by
 have:=WO.more (d:=d) (Kq i) (b:=[]) (c:=[]) zP zP k f h j
 simpa only[List.append_assoc,yZ,List.nil_append] using this
theorem uB{l:List BA}{k:Nat}(h:k<l.length):l.getD k ⟨#[]⟩ ∈ l:=by
 rw[zL,zl h];exact qH _
def keyOf(r:zt):BA:=keys.getD (zo r.key 5) ⟨#[]⟩
theorem Mr:∀s ∈ keys,Q8 (bl s):=by decide
theorem Jv(r:zt):keyOf r ∈ keys:=uB (xK r.key 5 (by decide))
def vB(r:zt):List (BA×V):=if r.no then [(bNo,.word true)] else []
def vv:BA:=⟨#[97,98,115,101,110,116]⟩
def Ja:BA:=⟨#[108,105,107,101]⟩
def Xc:BA:=⟨#[115,97,109,101]⟩
def Zp:BA:=⟨#[98,101,108,111,119]⟩
def uZ:BA:=⟨#[117,110,100,101,114]⟩
def Xf(r:zt)(op:BA)(l:List BA):V := .obj ([(zx,.str (keyOf r)),(bOp,.str op),(zz,qb l r.style)]++vB r)
def uz(r:zt):V:=
 match zo r.iff 8 with
 | 1 => .obj ([(zx,.str (keyOf r)),(bOp,.str vv)]++vB r)
 | 6=>Xf r Ja [patterns.getD (zo r.val 14) ⟨#[]⟩,⟨#[120]⟩]
 | 2=>Xf r Xc [words.getD (zo r.val 14) ⟨#[]⟩]
 | 3=>Xf r Zp [nums.getD (zo r.val 4) ⟨#[]⟩]
 | 4=>Xf r uZ [Qg.getD (zo r.val 3) ⟨#[]⟩]
 | _ => .obj []
theorem rf{d:Nat}{n t e:List UInt8}{v:V}(r:zt)(b:Q8 n)(c:W (d+1) t v)(a:Blanks e):WO d (34::(n++34::58::(t++(e++(bl (noB r)++[125]))))) ((⟨⟨n⟩⟩,v)::vB r):=by
 unfold noB vB
 cases r.no with
 | false=>exact QH b c a
 | true=>
  have f:WO d (34::([110,111]++34::58::([116,114,117,101]++([]++[125])))) [(⟨⟨[110,111]⟩⟩,.word true)]:=QH (by decide) .yes zP;exact uH (g:=[]) b c a zP f
theorem nU{d:Nat}{t:List UInt8}{ms:List (BA×V)}(r:zt)(b:WO d (34::([111,112]++34::58::t)) ms):WO d (bl (Xl r)++t) ((zx,.str (keyOf r))::ms):=by
 have a:WO d (34::([107,101,121]++34::58::((34::(bl (keyOf r)++[34]))++([]++44::([]++(34::([111,112]++34::58::t))))))) ((⟨⟨[107,101,121]⟩⟩,.str ⟨⟨bl (keyOf r)⟩⟩)::ms):=uH (by decide) (VP (Mr _ (Jv r))) zP zP b
 have e:bl (Xl r)++t=(34::([107,101,121]++34::58::((34::(bl (keyOf r)++[34]))++([]++44::([]++(34::([111,112]++34::58::t))))))):=by
  rw[Xl,qB,qB];show _++bl (keyOf r)++_++t=_;simp only[bl,List.append_assoc,yZ,List.nil_append]
 rw[e];exact a
theorem Uz{d:Nat}(hd:d<=6)(r:zt)(op:List UInt8)(a:BA)(l:List BA)(k:Q8 op)(i:bl a=34::(op++[34,44,34,118,97,108,117,101,34,58]))(f:l≠[])(o:∀s ∈ l,Pl s)(j:((([(zx,V.str (keyOf r)),(bOp,.str ⟨⟨op⟩⟩),(zz,qb l r.style)]++vB r)).map λm=>m.1.toList).Nodup):W d (bl (Xg r a l)) (Xf r ⟨⟨op⟩⟩ l):=by
 obtain⟨t,b,e,hb,p⟩:=di (d:=d+1) (by omega) r.style f o;have g:WO d (34::([118,97,108,117,101]++34::58::(t++(b++(bl (noB r)++[125]))))) ((⟨⟨[118,97,108,117,101]⟩⟩,qb l r.style)::vB r):=rf r (by decide) p hb;have h:=nU r (uH (n:=[111,112]) (by decide) (VP k) zP zP g);have c:=W.obj (by omega) zP h j;unfold Xg;rw[qB,qB,qB,qB,qB,e,i];simp only[bl,List.append_assoc,yZ,List.nil_append] at c |-;exact c
theorem U2(r:zt)(v:V)(op:BA):(([(zx,V.str (keyOf r)),(bOp,V.str op),(zz,v)]++vB r).map λm=>m.1.toList).Nodup:=by
 unfold vB
 cases r.no with
 | false=>exact (by kernel_rfl:decide ([zx.toList,bOp.toList,zz.toList].Nodup)=true) |> of_decide_eq_true
 | true=>exact (by kernel_rfl:decide ([zx.toList,bOp.toList,zz.toList,bNo.toList].Nodup)=true) |> of_decide_eq_true
theorem Ob(r:zt)(op:BA):(([(zx,V.str (keyOf r)),(bOp,V.str op)]++vB r).map λm=>m.1.toList).Nodup:=by
 unfold vB
 cases r.no with
 | false=>exact (by kernel_rfl:decide ([zx.toList,bOp.toList].Nodup)=true) |> of_decide_eq_true
 | true=>exact (by kernel_rfl:decide ([zx.toList,bOp.toList,bNo.toList].Nodup)=true) |> of_decide_eq_true
theorem dG{l:List BA}{k:Nat}(h:∀s ∈ l,Pl s)(b:k<l.length):∀s ∈ [l.getD k ⟨#[]⟩],Pl s:=λs a=>by
 rw[xE] at a;subst a;exact h _ (uB b)
theorem En{d:Nat}(hd:d<=6)(r:zt)(h:(xR r).size≠0):W d (bl (xR r)) (uz r):=by
 unfold xR at h |-;unfold uz
 revert h
 generalize zo r.iff 8=j;intro h
 split
 ·have c:WO d (34::([111,112]++34::58::((34::([97,98,115,101,110,116]++[34]))++([]++(bl (noB r)++[125]))))) ((⟨⟨[111,112]⟩⟩,.str ⟨⟨[97,98,115,101,110,116]⟩⟩)::vB r):=rf r (by decide) (VP (by decide)) zP;have e:=nU r c;have a:=W.obj (by omega) zP e (Ob r _);rw[qB,qB,qB,qB];simp only[bl,List.append_assoc,yZ,List.nil_append] at a |-;exact a
 ·refine Uz hd r [108,105,107,101] oK _ (by decide) rfl (List.cons_ne_nil _ _) ?_ (U2 r _ _);intro s b
  rcases x8.1 b with rfl|b
  ·exact JJ _ (uB (xK r.val 14 (by decide)))
  ·rw[xE] at b;subst b;exact Qa _ rfl
 ·exact Uz hd r [115,97,109,101] ww _ (by decide) rfl (by simp) (dG AY (xK r.val 14 (by decide))) (U2 r _ _)
 ·exact Uz hd r [98,101,108,111,119] iO _ (by decide) rfl (by simp) (dG rC (xK r.val 4 (by decide))) (U2 r _ _)
 ·exact Uz hd r [117,110,100,101,114] Ay _ (by decide) rfl (by simp) (dG AA (xK r.val 3 (by decide))) (U2 r _ _)
 ·rename_i c e a f g;exfalso;apply h
  split
  all_goals first|rfl|(exfalso;first|exact c rfl|exact e rfl|exact a rfl|exact f rfl|exact g rfl)
def YE(r:zt):List (BA×V):=if (xR r).size=0 then [] else [(bIf,.list [uz r])]
def vX:BA:=⟨#[97,108,108,111,119]⟩
def ZQ:BA:=⟨#[100,101,110,121]⟩
def Zb(r:zt):BA:=if r.deny then ZQ else vX
def QN(r:zt):V := .obj ((qa,.str (Zb r))::(YE r++[(bOn,jR r.on (decide (zo r.nt 16=1)) r.style),(qg,jR r.who (decide (zo r.nt 16=2)) r.style),(bDo,jR r.act (decide (zo r.nt 16=3)) r.style)]))
theorem TV(r:zt)(a b c:V):(((qa,V.str (Zb r))::(YE r++[(bOn,a),(qg,b),(bDo,c)])).map λm=>m.1.toList).Nodup:=by
 unfold YE
 split
 ·exact (by kernel_rfl:decide ([qa.toList,bOn.toList,qg.toList,bDo.toList].Nodup)=true) |> of_decide_eq_true
 ·exact (by kernel_rfl:decide ([qa.toList,bIf.toList,bOn.toList,qg.toList,bDo.toList].Nodup)=true) |> of_decide_eq_true
theorem RU{d:Nat}(hd:d<=6)(r:zt):WO d (bl ⟨#[34,111,110,34,58]⟩++bl (jb r.on (decide (zo r.nt 16=1)) r.style)++bl ⟨#[44,34,119,104,111,34,58]⟩++bl (jb r.who (decide (zo r.nt 16=2)) r.style)++bl ⟨#[44,34,100,111,34,58]⟩++bl (jb r.act (decide (zo r.nt 16=3)) r.style)++bl ⟨#[125]⟩)
  [(bOn,jR r.on (decide (zo r.nt 16=1)) r.style),(qg,jR r.who (decide (zo r.nt 16=2)) r.style),(bDo,jR r.act (decide (zo r.nt 16=3)) r.style)]:=by
 obtain⟨p,l,f,a,hw1⟩:=aG (d:=d+1) (by omega) r.on (decide (zo r.nt 16=1)) r.style;obtain⟨q,m,h,b,hw2⟩:=aG (d:=d+1) (by omega) r.who (decide (zo r.nt 16=2)) r.style;obtain⟨s,o,i,c,hw3⟩:=aG (d:=d+1) (by omega) r.act (decide (zo r.nt 16=3)) r.style;have k:=QH (n:=[100,111]) (by decide) hw3 c;have j:=uH (n:=[119,104,111]) (g:=[]) (by decide) hw2 b zP k;have e:=uH (n:=[111,110]) (g:=[]) (by decide) hw1 a zP j;rw[f,h,i];simp only[bl,List.append_assoc,yZ,List.nil_append] at e |-;exact e
theorem IC{d:Nat}(hd:d<=4)(r:zt){t:List UInt8}{ms:List (BA×V)}(h:WO d t ms):WO d (bl (if (xR r).size=0 then ⟨#[]⟩ else ⟨#[34,105,102,34,58,91]⟩++xR r++⟨#[93,44]⟩)++t) (YE r++ms):=by
 unfold YE
 by_cases c:(xR r).size=0
 ·rw[zb c,zb c];exact h
 ·rw[za c,za c];have b:=En (d:=d+2) (by omega) r c;have f:W (d+1) ([91]++[]++(bl (xR r)++[]++[93])) (.list [uz r]) := .list (by omega) zP (.last b zP);have a:=uH (n:=[105,102]) (g:=[]) (e:=[]) (by decide) f zP zP h;rw[qB,qB];simp only[bl,List.append_assoc,yZ,List.nil_append] at a |-;exact a
theorem zay(r:zt):QQ r=Zu r++(if (xR r).size=0 then ⟨#[]⟩ else ⟨#[34,105,102,34,58,91]⟩++xR r++⟨#[93,44]⟩):=by
 unfold QQ
 split
 ·apply jk;simp[ByteArray.data_append]
 ·apply jk;simp[ByteArray.data_append]
theorem We{d:Nat}(hd:d<=4)(r:zt):W d (bl (jK r)) (QN r):=by
 have c:=IC hd r (RU (d:=d) (by omega) r);unfold jK QN;rw[zay];simp only[qB,List.append_assoc] at c |-;have a:=TV r (jR r.on (decide (zo r.nt 16=1)) r.style) (jR r.who (decide (zo r.nt 16=2)) r.style) (jR r.act (decide (zo r.nt 16=3)) r.style);unfold Zu;unfold Zb at a |-
 cases hdn:r.deny with
 | false=>
  rw[hdn] at a;simp only[xz,qW] at a |-;have f:=uH (n:=[101,102,102,101,99,116]) (e:=[]) (g:=[]) (by decide) (VP (t:=[97,108,108,111,119]) (by decide)) zP zP c;have b:=W.obj (by omega) zP f a;simp only[bl,yZ,List.nil_append] at b |-;exact b
 | true=>
  rw[hdn] at a;simp only[qh] at a |-;have f:=uH (n:=[101,102,102,101,99,116]) (e:=[]) (by decide) (VP (t:=[100,101,110,121]) (by decide)) zP (VH r.style) c;have b:=W.obj (by omega) zP f a;simp only[qB];simp only[bl,yZ,List.nil_append] at b |-;exact b
def Zi(l:List zt):List V:=if l.length=0 then [QN xX] else (l.take 4).map QN
def Jj(l:List zt):V := .obj [(jE,.list (Zi l))]
theorem dM(l:List zt):∀k,k<=l.length->bl (jV l k)=yJ [44] ((l.take k).map λr=>bl (jK r))
 | 0,_=>rfl
 | k+1,h=>by
  have a:k<l.length:=by omega
  rw[jV,qB,zl a,QZ a,jm,List.map_singleton]
  by_cases h0:0<k
  ·rw[zb h0,qB,dM l k (by omega),bT _ _ _ (by
    intro e
    have:=congrArg List.length e
    rw[zN,xC,uo] at this;omega)]
   rfl
  ·have:k=0:=by omega
   subst this;rw[za h0,dM l 0 (by omega)]
   rfl
theorem Dl{d:Nat}(hd:d<=3)(l:List zt):WL d (bl (Qy l)++[93]) (Zi l):=by
 have key:∀xs:List zt,xs≠[]->WL d (yJ [44] (xs.map λr=>bl (jK r))++[93]) (xs.map QN):=by
  intro xs b
  have:=KF (d:=d) zP (xs.map λr=>(bl (jK r),QN r)) (by simpa using b) (by
   intro x f;obtain⟨r,_,rfl⟩:=ql.1 f;exact We (by omega) r)
  rw[xD,xD] at this;exact this
 unfold Qy Zi
 by_cases c:l.length=0
 ·rw[zb c,zb c];exact key [xX] (by simp)
 ·rw[za c,za c,dM l _ (Nat.min_le_left _ _)]
  have e:l.take (min l.length 4)=l.take 4:=by
   rw[List.take_eq_take_iff];omega
  rw[e];refine key (l.take 4) ?_;intro a
  have:=congrArg List.length a
  rw[xC,uo] at this;omega
theorem Fq(l:List zt):W 1 (bl (jh l)) (Jj l):=by
 have c:W 2 ([91]++[]++(bl (Qy l)++[93])) (.list (Zi l)) := .list (by omega) zP (Dl (d:=2) (by omega) l);have b:=QH (d:=1) (n:=[115,116,97,116,101,109,101,110,116]) (e:=[]) (by decide) c zP;have a:=W.obj (by omega) zP b (by simp);unfold jh;simp only[qB];simp only[bl,List.append_assoc,yZ,List.nil_append] at a |-;exact a
theorem dO(l:List zt):yh (bl (jh l)) = .ok (Jj l) (bl (jh l)).length:=tH (Fq l)
end Kp
namespace Rd
open Ref
end Rd
namespace Kp
open Rd Ref
theorem U6:∀s ∈ patterns,xV s=true:=by
 have h:patterns.all xV=true:=by kernel_rfl
 exact ve.1 h
theorem KG:∀s ∈ words,short s=true:=by
 have h:words.all short=true:=by kernel_rfl
 exact ve.1 h
theorem rA:∀s ∈ nums,xe s=true:=by
 have h:nums.all xe=true:=by kernel_rfl
 exact ve.1 h
theorem Az:∀s ∈ Qg,filled s=true:=by
 have h:Qg.all filled=true:=by kernel_rfl
 exact ve.1 h
theorem bX:∀s ∈ keys,qj s=true:=by
 have h:keys.all qj=true:=by kernel_rfl
 exact ve.1 h
theorem Xj{l:List Nat}(h:∀c ∈ l,c=0):qo l=0:=by
 unfold qo
 have b:l.any (λc=>c==1)=false:=by
  rw[Qo];intro c a;rw[h c a]
  decide
 have d:l.any (λc=>c==2)=false:=by
  rw[Qo];intro c a;rw[h c a]
  decide
 rw[b,d]
 rfl
theorem QI{c:Option V->Nat}{l:List BA}(st:Int)(f:1<=l.length)(g:l.length<=10)(b:∀s ∈ l,c (some (.str s))=0):qG c (some (qb l st))=0:=by
 unfold qb
 by_cases e:l.length=1/\bit st 32=true
 ·rw[zb e];show qo [c (some (.str (l.getD 0 ⟨#[]⟩)))]=0;refine Xj (λx a=>?_);rw[xE] at a;subst a;exact b _ (uB (by omega))
 ·rw[za e];show (if (l.map V.str).length<1\/10<(l.map V.str).length then 1 else qo ((l.map V.str).map λv=>c (some v)))=0
  rw[zN,za (by omega)];refine Xj (λx a=>?_);rw[xD] at a;obtain⟨s,d,rfl⟩:=ql.1 a;exact b s d
theorem VJ{s:BA}(h:xV s=true):yg (some (.str s))=0:=by
 show cls false (!xV s)=0;rw[h];rfl
theorem Qb{f:BA->Bool}{s:BA}(h:f s=true):qd f (some (.str s))=0:=by
 show cls (!f s) false=0;rw[h];rfl
theorem Uq(raw:List Int)(nt:Bool)(st:Int):chC (some (jR raw nt st))=0:=by
 have g:=Qz raw;have h:=QI (c:=yg) (l:=qE raw) st g.1 (by omega) (λs i=>VJ (U6 s (XP i)));unfold jR
 cases nt with
 | true=>
  have a:qc [(qm,qb (qE raw) st)] [qm]=true:=by kernel_rfl
  have d:zk [(qm,qb (qE raw) st)] qm=some (qb (qE raw) st):=by kernel_rfl
  simp only[qh,chC];rw[a,d,zb rfl];exact h
 | false=>
  simp only[xz,qW]
  have:∀ms,qb (qE raw) st ≠ .obj ms:=by
   intro ms;unfold qb
   split<;>(intro e;cases e)
  have f:chC (some (qb (qE raw) st))=qG yg (some (qb (qE raw) st)):=by
   cases hv:qb (qE raw) st with
   | obj ms=>exact absurd hv (this ms)
   | str s=>rfl
   | word b=>rfl
   | list j=>rfl
  rw[f];exact h
theorem Uw(r:zt)(op:BA)(l:List BA)(j:ui op=true)(i:qx op (some (qb l r.style))=0):condC (Xf r op l)=0:=by
 have h:=Qb (bX _ (Jv r));unfold Xf
 have key:∀(x:List (BA×V)),qc ([(zx,V.str (keyOf r)),(bOp,V.str op),(zz,qb l r.style)]++x) [bOp,zx,zz,bNo]=true->zk ([(zx,V.str (keyOf r)),(bOp,V.str op),(zz,qb l r.style)]++x) bOp=some (.str op)->zk ([(zx,V.str (keyOf r)),(bOp,V.str op),(zz,qb l r.style)]++x) zx=some (.str (keyOf r))->zk ([(zx,V.str (keyOf r)),(bOp,V.str op),(zz,qb l r.style)]++x) zz=some (qb l r.style)->kC (zk ([(zx,V.str (keyOf r)),(bOp,V.str op),(zz,qb l r.style)]++x) bNo)=false->condC (.obj ([(zx,V.str (keyOf r)),(bOp,V.str op),(zz,qb l r.style)]++x))=0:=by
  intro x b d e f g;unfold condC;simp only;rw[zb b,d];simp only[Rd.opV];rw[j,Ye,zb rfl,e,f,g];refine Xj (λc a=>?_);simp only[x8,Yj,or_false] at a
  rcases a with rfl|rfl|rfl
  ·exact h
  ·exact i
  ·rfl
 unfold vB
 cases r.no with
 | false=>exact key _ (by kernel_rfl) (by kernel_rfl) (by kernel_rfl) (by kernel_rfl) (by kernel_rfl)
 | true=>exact key _ (by kernel_rfl) (by kernel_rfl) (by kernel_rfl) (by kernel_rfl) (by kernel_rfl)
theorem DY(r:zt):condC (.obj ([(zx,.str (keyOf r)),(bOp,.str vv)]++vB r))=0:=by
 have j:=Qb (bX _ (Jv r))
 have key:∀(x:List (BA×V)),qc ([(zx,V.str (keyOf r)),(bOp,V.str vv)]++x) [bOp,zx,zz,bNo]=true->zk ([(zx,V.str (keyOf r)),(bOp,V.str vv)]++x) bOp=some (.str vv)->zk ([(zx,V.str (keyOf r)),(bOp,V.str vv)]++x) zx=some (.str (keyOf r))->zk ([(zx,V.str (keyOf r)),(bOp,V.str vv)]++x) zz=none->kC (zk ([(zx,V.str (keyOf r)),(bOp,V.str vv)]++x) bNo)=false->condC (.obj ([(zx,V.str (keyOf r)),(bOp,V.str vv)]++x))=0:=by
  intro x b d e f g;unfold condC;simp only;rw[zb b,d];simp only[Rd.opV];have h:(ui vv||yf vv)=true:=by kernel_rfl
  have i:qx vv none=0:=by kernel_rfl
  rw[zb h,e,f,g,i];refine Xj (λc a=>?_);simp only[x8,Yj,or_false] at a
  rcases a with rfl|rfl|rfl
  ·exact j
  ·rfl
  ·rfl
 unfold vB
 cases r.no with
 | false=>exact key _ (by kernel_rfl) (by kernel_rfl) (by kernel_rfl) (by kernel_rfl) (by kernel_rfl)
 | true=>exact key _ (by kernel_rfl) (by kernel_rfl) (by kernel_rfl) (by kernel_rfl) (by kernel_rfl)
theorem dF{c:Option V->Nat}{l:List BA}{k:Nat}(h:∀s ∈ l,c (some (.str s))=0)(b:k<l.length):∀s ∈ [l.getD k ⟨#[]⟩],c (some (.str s))=0:=λs a=>by
 rw[xE] at a;subst a;exact h _ (uB b)
theorem DZ(r:zt)(h:(xR r).size≠0):condC (uz r)=0:=by
 unfold xR at h;unfold uz
 revert h
 generalize zo r.iff 8=j;intro h
 split
 ·exact DY r
 ·refine Uw r Ja _ (by kernel_rfl) ?_;unfold qx;rw[zb (by kernel_rfl)];refine QI r.style (by simp) (by simp) (λs a=>?_)
  rcases x8.1 a with rfl|a
  ·exact VJ (U6 _ (uB (xK r.val 14 (by decide))))
  ·rw[xE] at a;subst a;exact VJ (by kernel_rfl)
 ·refine Uw r Xc _ (by kernel_rfl) ?_;unfold qx
  rw[za (by intro e;have b:xw Xc=false:=by kernel_rfl
            rw[b] at e;cases e),zb (by kernel_rfl)]
  exact QI r.style (by simp) (by simp) (dF (λs a=>Qb (KG s a)) (xK r.val 14 (by decide)))
 ·refine Uw r Zp _ (by kernel_rfl) ?_;unfold qx;rw[show xw Zp=false by kernel_rfl,show yI Zp=false by kernel_rfl,show jw Zp=true by kernel_rfl];exact QI r.style (by simp) (by simp) (dF (λs a=>Qb (rA s a)) (xK r.val 4 (by decide)))
 ·refine Uw r uZ _ (by kernel_rfl) ?_;unfold qx;rw[show xw uZ=false by kernel_rfl,show yI uZ=false by kernel_rfl,show jw uZ=false by kernel_rfl,show Ze uZ=true by kernel_rfl];exact QI r.style (by simp) (by simp) (dF (λs a=>Qb (Az s a)) (xK r.val 3 (by decide)))
 ·rename_i c d f g i;exfalso;apply h
  split
  all_goals first|rfl|(exfalso;first|exact c rfl|exact d rfl|exact f rfl|exact g rfl|exact i rfl)
theorem wY(r:zt):xy (QN r)=0:=by
 have j:qd yz (some (.str (Zb r)))=0:=by
  refine Qb ?_;unfold Zb
  cases r.deny<;>kernel_rfl
 have f:=Uq r.on (decide (zo r.nt 16=1)) r.style;have g:=Uq r.who (decide (zo r.nt 16=2)) r.style;have h:=Uq r.act (decide (zo r.nt 16=3)) r.style;unfold QN;generalize jR r.on (decide (zo r.nt 16=1)) r.style=a at f |-;generalize jR r.who (decide (zo r.nt 16=2)) r.style=b at g |-;generalize jR r.act (decide (zo r.nt 16=3)) r.style=c at h |-;have i:=DZ r;unfold YE;generalize uz r=cv at i |-;generalize Zb r=ef at j |-
 have key:∀(ms:List (BA×V)) (x:Option V),qc ms [qa,qg,bDo,bOn,bIf]=true->zk ms qa=some (.str ef)->zk ms bOn=some a->zk ms qg=some b->zk ms bDo=some c->zk ms bIf=x->jd x=0->xy (.obj ms)=0:=by
  intro ms x k l m n o p q;unfold xy;simp only;rw[zb k,l,m,n,o,p];refine Xj (λy d=>?_);simp only[x8,Yj,or_false] at d
  rcases d with rfl|rfl|rfl|rfl|rfl
  ·exact j
  ·exact g
  ·exact h
  ·exact f
  ·exact q
 by_cases e:(xR r).size=0
 ·rw[zb e];exact key _ none (by kernel_rfl) (by kernel_rfl) (by kernel_rfl) (by kernel_rfl) (by kernel_rfl) (by kernel_rfl) rfl
 ·rw[za e];refine key _ (some (.list [cv])) (by kernel_rfl) (by kernel_rfl) (by kernel_rfl) (by kernel_rfl) (by kernel_rfl) (by kernel_rfl) ?_;show qo [condC cv]=0;refine Xj (λy d=>?_);rw[xE] at d;subst d;exact i e
theorem Wh(l:List zt):1<=(Zi l).length/\(Zi l).length<=4:=by
 unfold Zi
 split
 ·simp
 ·rw[zN,xC];omega
theorem Fj(l:List zt):Za (Jj l)=(0,0):=by
 have d:=JO (dO l);have g:=Wh l;unfold Jj at d |-;have e:zk [(jE,.list (Zi l))] jE=some (.list (Zi l)):=by kernel_rfl
 have b:=yc d jE _ e;unfold Za;simp only;rw[e];simp only[y8];rw[za (by omega)];rw[UG (L:=(bl (jh l)).length) _ 0 (by cases b;assumption)];refine UH _ 0 (λc f=>?_);obtain⟨v,a,rfl⟩:=ql.1 f;unfold Zi at a
 split at a
 ·rw[xE] at a;subst a;exact wY xX
 ·obtain⟨r,_,rfl⟩:=ql.1 a;exact wY r
theorem VI(l:List zt):x9 (jh l)=(0,0):=by
 have a:=rW l;unfold x9;rw[za (by omega)]
 have:=dO l
 unfold bl at this;rw[this];exact Fj l
end Kp
end Go.Proofs.YtdakgnaojakldaaGreatDoor
