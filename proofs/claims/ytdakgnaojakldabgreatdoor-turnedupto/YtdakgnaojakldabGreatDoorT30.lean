/- P -/
import Derived.Test.YtdakgnaojakldabGreatDoorT29
set_option maxRecDepth 100000
namespace Go.Proofs.YtdakgnaojakldabGreatDoor
namespace Kp
open Rd Ref
def Qg(t:List UInt8):Prop:=∀b ∈ t,32<=b.toNat/\b.toNat<128/\b.toNat≠34/\b.toNat≠92
instance (t:List UInt8):Decidable (Qg t):=by unfold Qg;infer_instance
theorem YR{d:Nat}{t:List UInt8}(h:Qg t):W d (34::(t++[34])) (.str ⟨⟨t⟩⟩):=W.str (Vf h)
theorem JH{d:Nat}{n t e:List UInt8}{v:V}(f:Qg n)(g:W (d+1) t v)(a:Blanks e):WO d (34::(n++34::58::(t++(e++[125])))) [(⟨⟨n⟩⟩,v)]:=by
 have:=WO.last (d:=d) (Vf f) (b:=[]) (c:=[]) qm qm g a
 simpa only[List.append_assoc,List.cons_append,List.nil_append] using this
theorem Qt{d:Nat}{n t e g a:List UInt8}{v:V}{ms:List (BA×V)}(i:Qg n)(k:W (d+1) t v)(f:Blanks e)(h:Blanks g)(j:WO d a ms):WO d (34::(n++34::58::(t++(e++44::(g++a))))) ((⟨⟨n⟩⟩,v)::ms):=by
 have:=WO.more (d:=d) (Vf i) (b:=[]) (c:=[]) qm qm k f h j
 simpa only[List.append_assoc,List.cons_append,List.nil_append] using this
theorem jV{l:List BA}{k:Nat}(h:k<l.length):l.getD k ⟨#[]⟩ ∈ l:=by
 rw[List.getD_eq_getElem?_getD,List.getElem?_eq_getElem h];exact List.getElem_mem _
def keyOf(r:zg):BA:=keys.getD (zk r.key 5) ⟨#[]⟩
theorem FJ:∀s ∈ keys,Qg (bl s):=by decide
theorem JE(r:zg):keyOf r ∈ keys:=jV (qO r.key 5 (by decide))
def jk(r:zg):List (BA×V):=if r.no then [(bNo,.word true)] else []
def jf:BA:=⟨#[97,98,115,101,110,116]⟩
def Xr:BA:=⟨#[108,105,107,101]⟩
def ZN:BA:=⟨#[115,97,109,101]⟩
def uA:BA:=⟨#[98,101,108,111,119]⟩
def vC:BA:=⟨#[117,110,100,101,114]⟩
def ZT(r:zg)(op:BA)(l:List BA):V := .obj ([(zt,.str (keyOf r)),(bOp,.str op),(zy,zK l r.style)]++jk r)
def jS(r:zg):V:=
 match zk r.iff 8 with
 | 1 => .obj ([(zt,.str (keyOf r)),(bOp,.str jf)]++jk r)
 | 6=>ZT r Xr [patterns.getD (zk r.val 14) ⟨#[]⟩,⟨#[120]⟩]
 | 2=>ZT r ZN [words.getD (zk r.val 14) ⟨#[]⟩]
 | 3=>ZT r uA [nums.getD (zk r.val 4) ⟨#[]⟩]
 | 4=>ZT r vC [Za.getD (zk r.val 3) ⟨#[]⟩]
 | _ => .obj []
theorem gH{d:Nat}{n t e:List UInt8}{v:V}(r:zg)(b:Qg n)(c:W (d+1) t v)(a:Blanks e):WO d (34::(n++34::58::(t++(e++(bl (noB r)++[125]))))) ((⟨⟨n⟩⟩,v)::jk r):=by
 unfold noB jk
 cases r.no with
 | false=>exact JH b c a
 | true=>
  have f:WO d (34::([110,111]++34::58::([116,114,117,101]++([]++[125])))) [(⟨⟨[110,111]⟩⟩,.word true)]:=JH (by decide) .yes qm;exact Qt (g:=[]) b c a qm f
theorem ed{d:Nat}{t:List UInt8}{ms:List (BA×V)}(r:zg)(b:WO d (34::([111,112]++34::58::t)) ms):WO d (bl (ZZ r)++t) ((zt,.str (keyOf r))::ms):=by
 have a:WO d (34::([107,101,121]++34::58::((34::(bl (keyOf r)++[34]))++([]++44::([]++(34::([111,112]++34::58::t))))))) ((⟨⟨[107,101,121]⟩⟩,.str ⟨⟨bl (keyOf r)⟩⟩)::ms):=Qt (by decide) (YR (FJ _ (JE r))) qm qm b
 have e:bl (ZZ r)++t=(34::([107,101,121]++34::58::((34::(bl (keyOf r)++[34]))++([]++44::([]++(34::([111,112]++34::58::t))))))):=by
  rw[ZZ,qN,qN];show _++bl (keyOf r)++_++t=_;simp only[bl,List.append_assoc,List.cons_append,List.nil_append]
 rw[e];exact a
theorem Jj{d:Nat}(hd:d<=6)(r:zg)(op:List UInt8)(a:BA)(l:List BA)(o:Qg op)(j:bl a=34::(op++[34,44,34,118,97,108,117,101,34,58]))(f:l≠[])(p:∀s ∈ l,Pl s)(k:((([(zt,V.str (keyOf r)),(bOp,.str ⟨⟨op⟩⟩),(zy,zK l r.style)]++jk r)).map λm=>m.1.toList).Nodup):W d (bl (vW r a l)) (ZT r ⟨⟨op⟩⟩ l):=by
 obtain⟨t,b,e,i,q⟩:=UF (d:=d+1) (by omega) r.style f p;have g:WO d (34::([118,97,108,117,101]++34::58::(t++(b++(bl (noB r)++[125]))))) ((⟨⟨[118,97,108,117,101]⟩⟩,zK l r.style)::jk r):=gH r (by decide) q i;have h:=ed r (Qt (n:=[111,112]) (by decide) (YR o) qm qm g);have c:=W.obj (by omega) qm h k;unfold vW;rw[qN,qN,qN,qN,qN,e,j];simp only[bl,List.append_assoc,List.cons_append,List.nil_append] at c |-;exact c
theorem JK(r:zg)(v:V)(op:BA):(([(zt,V.str (keyOf r)),(bOp,V.str op),(zy,v)]++jk r).map λm=>m.1.toList).Nodup:=by
 unfold jk
 cases r.no with
 | false=>exact (by kernel_rfl:decide ([zt.toList,bOp.toList,zy.toList].Nodup)=true) |> of_decide_eq_true
 | true=>exact (by kernel_rfl:decide ([zt.toList,bOp.toList,zy.toList,bNo.toList].Nodup)=true) |> of_decide_eq_true
theorem Hq(r:zg)(op:BA):(([(zt,V.str (keyOf r)),(bOp,V.str op)]++jk r).map λm=>m.1.toList).Nodup:=by
 unfold jk
 cases r.no with
 | false=>exact (by kernel_rfl:decide ([zt.toList,bOp.toList].Nodup)=true) |> of_decide_eq_true
 | true=>exact (by kernel_rfl:decide ([zt.toList,bOp.toList,bNo.toList].Nodup)=true) |> of_decide_eq_true
theorem UQ{l:List BA}{k:Nat}(h:∀s ∈ l,Pl s)(b:k<l.length):∀s ∈ [l.getD k ⟨#[]⟩],Pl s:=λs a=>by
 rw[List.mem_singleton] at a;subst a;exact h _ (jV b)
theorem wE{d:Nat}(hd:d<=6)(r:zg)(h:(qV r).size≠0):W d (bl (qV r)) (jS r):=by
 unfold qV at h |-;unfold jS
 revert h
 generalize zk r.iff 8=j;intro h
 split
 ·have c:WO d (34::([111,112]++34::58::((34::([97,98,115,101,110,116]++[34]))++([]++(bl (noB r)++[125]))))) ((⟨⟨[111,112]⟩⟩,.str ⟨⟨[97,98,115,101,110,116]⟩⟩)::jk r):=gH r (by decide) (YR (by decide)) qm;have e:=ed r c;have a:=W.obj (by omega) qm e (Hq r _);rw[qN,qN,qN,qN];simp only[bl,List.append_assoc,List.cons_append,List.nil_append] at a |-;exact a
 ·refine Jj hd r [108,105,107,101] fD _ (by decide) rfl (List.cons_ne_nil _ _) ?_ (JK r _ _);intro s b
  rcases List.mem_cons.1 b with rfl|b
  ·exact JR _ (jV (qO r.val 14 (by decide)))
  ·rw[List.mem_singleton] at b;subst b;exact Qw _ rfl
 ·exact Jj hd r [115,97,109,101] lI _ (by decide) rfl (by simp) (UQ nL (qO r.val 14 (by decide))) (JK r _ _)
 ·exact Jj hd r [98,101,108,111,119] aI _ (by decide) rfl (by simp) (UQ gM (qO r.val 4 (by decide))) (JK r _ _)
 ·exact Jj hd r [117,110,100,101,114] nk _ (by decide) rfl (by simp) (UQ ny (qO r.val 3 (by decide))) (JK r _ _)
 ·rename_i c e a f g;exfalso;apply h
  split
  all_goals first|rfl|(exfalso;first|exact c rfl|exact e rfl|exact a rfl|exact f rfl|exact g rfl)
def Q4(r:zg):List (BA×V):=if (qV r).size=0 then [] else [(bIf,.list [jS r])]
def xE:BA:=⟨#[97,108,108,111,119]⟩
def jE:BA:=⟨#[100,101,110,121]⟩
def ZW(r:zg):BA:=if r.deny then jE else xE
def Zu(r:zg):V := .obj ((zQ,.str (ZW r))::(Q4 r++[(bOn,yT r.on (decide (zk r.nt 16=1)) r.style),(zS,yT r.who (decide (zk r.nt 16=2)) r.style),(bDo,yT r.act (decide (zk r.nt 16=3)) r.style)]))
theorem OJ(r:zg)(a b c:V):(((zQ,V.str (ZW r))::(Q4 r++[(bOn,a),(zS,b),(bDo,c)])).map λm=>m.1.toList).Nodup:=by
 unfold Q4
 split
 ·exact (by kernel_rfl:decide ([zQ.toList,bOn.toList,zS.toList,bDo.toList].Nodup)=true) |> of_decide_eq_true
 ·exact (by kernel_rfl:decide ([zQ.toList,bIf.toList,bOn.toList,zS.toList,bDo.toList].Nodup)=true) |> of_decide_eq_true
theorem MF{d:Nat}(hd:d<=6)(r:zg):WO d (bl ⟨#[34,111,110,34,58]⟩++bl (xZ r.on (decide (zk r.nt 16=1)) r.style)++bl ⟨#[44,34,119,104,111,34,58]⟩++bl (xZ r.who (decide (zk r.nt 16=2)) r.style)++bl ⟨#[44,34,100,111,34,58]⟩++bl (xZ r.act (decide (zk r.nt 16=3)) r.style)++bl ⟨#[125]⟩)
  [(bOn,yT r.on (decide (zk r.nt 16=1)) r.style),(zS,yT r.who (decide (zk r.nt 16=2)) r.style),(bDo,yT r.act (decide (zk r.nt 16=3)) r.style)]:=by
 obtain⟨p,l,f,a,hw1⟩:=VX (d:=d+1) (by omega) r.on (decide (zk r.nt 16=1)) r.style;obtain⟨q,m,h,b,hw2⟩:=VX (d:=d+1) (by omega) r.who (decide (zk r.nt 16=2)) r.style;obtain⟨s,o,i,c,hw3⟩:=VX (d:=d+1) (by omega) r.act (decide (zk r.nt 16=3)) r.style;have k:=JH (n:=[100,111]) (by decide) hw3 c;have j:=Qt (n:=[119,104,111]) (g:=[]) (by decide) hw2 b qm k;have e:=Qt (n:=[111,110]) (g:=[]) (by decide) hw1 a qm j;rw[f,h,i];simp only[bl,List.append_assoc,List.cons_append,List.nil_append] at e |-;exact e
theorem DY{d:Nat}(hd:d<=4)(r:zg){t:List UInt8}{ms:List (BA×V)}(h:WO d t ms):WO d (bl (if (qV r).size=0 then ⟨#[]⟩ else ⟨#[34,105,102,34,58,91]⟩++qV r++⟨#[93,44]⟩)++t) (Q4 r++ms):=by
 unfold Q4
 by_cases c:(qV r).size=0
 ·rw[if_pos c,if_pos c];exact h
 ·rw[if_neg c,if_neg c];have b:=wE (d:=d+2) (by omega) r c;have f:W (d+1) ([91]++[]++(bl (qV r)++[]++[93])) (.list [jS r]) := .list (by omega) qm (.last b qm);have a:=Qt (n:=[105,102]) (g:=[]) (e:=[]) (by decide) f qm qm h;rw[qN,qN];simp only[bl,List.append_assoc,List.cons_append,List.nil_append] at a |-;exact a
theorem RF(r:zg):Zy r=uD r++(if (qV r).size=0 then ⟨#[]⟩ else ⟨#[34,105,102,34,58,91]⟩++qV r++⟨#[93,44]⟩):=by
 unfold Zy
 split
 ·apply ByteArray.ext;simp[ByteArray.data_append]
 ·apply ByteArray.ext;simp[ByteArray.data_append]
theorem OP{d:Nat}(hd:d<=4)(r:zg):W d (bl (yO r)) (Zu r):=by
 have c:=DY hd r (MF (d:=d) (by omega) r);unfold yO Zu;rw[RF];simp only[qN,List.append_assoc] at c |-;have a:=OJ r (yT r.on (decide (zk r.nt 16=1)) r.style) (yT r.who (decide (zk r.nt 16=2)) r.style) (yT r.act (decide (zk r.nt 16=3)) r.style);unfold uD;unfold ZW at a |-
 cases hdn:r.deny with
 | false=>
  rw[hdn] at a;simp only[Bool.false_eq_true,if_false] at a |-;have f:=Qt (n:=[101,102,102,101,99,116]) (e:=[]) (g:=[]) (by decide) (YR (t:=[97,108,108,111,119]) (by decide)) qm qm c;have b:=W.obj (by omega) qm f a;simp only[bl,List.cons_append,List.nil_append] at b |-;exact b
 | true=>
  rw[hdn] at a;simp only[if_true] at a |-;have f:=Qt (n:=[101,102,102,101,99,116]) (e:=[]) (by decide) (YR (t:=[100,101,110,121]) (by decide)) qm (YM r.style) c;have b:=W.obj (by omega) qm f a;simp only[qN];simp only[bl,List.cons_append,List.nil_append] at b |-;exact b
def um(l:List zg):List V:=if l.length=0 then [Zu qI] else (l.take 4).map Zu
def Xy(l:List zg):V := .obj [(yS,.list (um l))]
theorem UY(l:List zg):∀k,k<=l.length->bl (yZ l k)=jH [44] ((l.take k).map λr=>bl (yO r))
 | 0,_=>rfl
 | k+1,h=>by
  have a:k<l.length:=by omega
  rw[yZ,qN,List.getElem?_eq_getElem a,List.take_succ_eq_append_getElem a,List.map_append,List.map_singleton]
  by_cases h0:0<k
  ·rw[if_pos h0,qN,UY l k (by omega),Uz _ _ _ (by
    intro e
    have:=congrArg List.length e
    rw[List.length_map,List.length_take,List.length_nil] at this;omega)]
   rfl
  ·have:k=0:=by omega
   subst this;rw[if_neg h0,UY l 0 (by omega)]
   rfl
theorem rU{d:Nat}(hd:d<=3)(l:List zg):WL d (bl (Zi l)++[93]) (um l):=by
 have key:∀xs:List zg,xs≠[]->WL d (jH [44] (xs.map λr=>bl (yO r))++[93]) (xs.map Zu):=by
  intro xs b
  have:=KT (d:=d) qm (xs.map λr=>(bl (yO r),Zu r)) (by simpa using b) (by
   intro x f;obtain⟨r,_,rfl⟩:=List.mem_map.1 f;exact OP (by omega) r)
  rw[List.map_map,List.map_map] at this;exact this
 unfold Zi um
 by_cases c:l.length=0
 ·rw[if_pos c,if_pos c];exact key [qI] (by simp)
 ·rw[if_neg c,if_neg c,UY l _ (Nat.min_le_left _ _)]
  have e:l.take (min l.length 4)=l.take 4:=by
   rw[List.take_eq_take_iff];omega
  rw[e];refine key (l.take 4) ?_;intro a
  have:=congrArg List.length a
  rw[List.length_take,List.length_nil] at this;omega
theorem Ay(l:List zg):W 1 (bl (xh l)) (Xy l):=by
 have c:W 2 ([91]++[]++(bl (Zi l)++[93])) (.list (um l)) := .list (by omega) qm (rU (d:=2) (by omega) l);have b:=JH (d:=1) (n:=[115,116,97,116,101,109,101,110,116]) (e:=[]) (by decide) c qm;have a:=W.obj (by omega) qm b (by simp);unfold xh;simp only[qN];simp only[bl,List.append_assoc,List.cons_append,List.nil_append] at a |-;exact a
theorem U0(l:List zg):xN (bl (xh l)) = .ok (Xy l) (bl (xh l)).length:=Md (Ay l)
end Kp
namespace Rd
open Ref
end Rd
namespace Kp
open Rd Ref
theorem JQ:∀s ∈ patterns,qX s=true:=by
 have h:patterns.all qX=true:=by kernel_rfl
 exact List.all_eq_true.1 h
theorem Vq:∀s ∈ words,short s=true:=by
 have h:words.all short=true:=by kernel_rfl
 exact List.all_eq_true.1 h
theorem gL:∀s ∈ nums,qE s=true:=by
 have h:nums.all qE=true:=by kernel_rfl
 exact List.all_eq_true.1 h
theorem nu:∀s ∈ Za,filled s=true:=by
 have h:Za.all filled=true:=by kernel_rfl
 exact List.all_eq_true.1 h
theorem UA:∀s ∈ keys,zM s=true:=by
 have h:keys.all zM=true:=by kernel_rfl
 exact List.all_eq_true.1 h
theorem Qp{l:List Nat}(h:∀c ∈ l,c=0):zT l=0:=by
 unfold zT
 have b:l.any (λc=>c==1)=false:=by
  rw[List.any_eq_false];intro c a;rw[h c a]
  decide
 have d:l.any (λc=>c==2)=false:=by
  rw[List.any_eq_false];intro c a;rw[h c a]
  decide
 rw[b,d]
 rfl
theorem Z7{c:Option V->Nat}{l:List BA}(d:Int)(g:1<=l.length)(h:l.length<=10)(b:∀s ∈ l,c (some (.str s))=0):qf c (some (zK l d))=0:=by
 unfold zK
 by_cases e:l.length=1/\bit d 32=true
 ·rw[if_pos e];show zT [c (some (.str (l.getD 0 ⟨#[]⟩)))]=0;refine Qp (λx a=>?_);rw[List.mem_singleton] at a;subst a;exact b _ (jV (by omega))
 ·rw[if_neg e];show (if (l.map V.str).length<1\/10<(l.map V.str).length then 1 else zT ((l.map V.str).map λv=>c (some v)))=0
  rw[List.length_map,if_neg (by omega)];refine Qp (λx a=>?_);rw[List.map_map] at a;obtain⟨s,f,rfl⟩:=List.mem_map.1 a;exact b s f
theorem JP{s:BA}(h:qX s=true):xB (some (.str s))=0:=by
 show cls false (!qX s)=0;rw[h];rfl
theorem kU{f:BA->Bool}{s:BA}(h:f s=true):zL f (some (.str s))=0:=by
 show cls (!f s) false=0;rw[h];rfl
theorem Jd(raw:List Int)(nt:Bool)(a:Int):chC (some (yT raw nt a))=0:=by
 have i:=ZR raw;have h:=Z7 (c:=xB) (l:=qg raw) a i.1 (by omega) (λs j=>JP (JQ s (Yn j)));unfold yT
 cases nt with
 | true=>
  have d:zJ [(zZ,zK (qg raw) a)] [zZ]=true:=by kernel_rfl
  have f:zf [(zZ,zK (qg raw) a)] zZ=some (zK (qg raw) a):=by kernel_rfl
  simp only[if_true,chC];rw[d,f,if_pos rfl];exact h
 | false=>
  simp only[Bool.false_eq_true,if_false]
  have:∀ms,zK (qg raw) a ≠ .obj ms:=by
   intro ms;unfold zK
   split<;>(intro e;cases e)
  have g:chC (some (zK (qg raw) a))=qf xB (some (zK (qg raw) a)):=by
   cases hv:zK (qg raw) a with
   | obj ms=>exact absurd hv (this ms)
   | str s=>rfl
   | word b=>rfl
   | list k=>rfl
  rw[g];exact h
theorem Jh(r:zg)(op:BA)(l:List BA)(j:jK op=true)(i:zU op (some (zK l r.style))=0):condC (ZT r op l)=0:=by
 have h:=kU (UA _ (JE r));unfold ZT
 have key:∀(x:List (BA×V)),zJ ([(zt,V.str (keyOf r)),(bOp,V.str op),(zy,zK l r.style)]++x) [bOp,zt,zy,bNo]=true->zf ([(zt,V.str (keyOf r)),(bOp,V.str op),(zy,zK l r.style)]++x) bOp=some (.str op)->zf ([(zt,V.str (keyOf r)),(bOp,V.str op),(zy,zK l r.style)]++x) zt=some (.str (keyOf r))->zf ([(zt,V.str (keyOf r)),(bOp,V.str op),(zy,zK l r.style)]++x) zy=some (zK l r.style)->yx (zf ([(zt,V.str (keyOf r)),(bOp,V.str op),(zy,zK l r.style)]++x) bNo)=false->condC (.obj ([(zt,V.str (keyOf r)),(bOp,V.str op),(zy,zK l r.style)]++x))=0:=by
  intro x b d e f g;unfold condC;simp only;rw[if_pos b,d];simp only[Rd.opV];rw[j,Bool.true_or,if_pos rfl,e,f,g];refine Qp (λc a=>?_);simp only[List.mem_cons,List.not_mem_nil,or_false] at a
  rcases a with rfl|rfl|rfl
  ·exact h
  ·exact i
  ·rfl
 unfold jk
 cases r.no with
 | false=>exact key _ (by kernel_rfl) (by kernel_rfl) (by kernel_rfl) (by kernel_rfl) (by kernel_rfl)
 | true=>exact key _ (by kernel_rfl) (by kernel_rfl) (by kernel_rfl) (by kernel_rfl) (by kernel_rfl)
theorem tH(r:zg):condC (.obj ([(zt,.str (keyOf r)),(bOp,.str jf)]++jk r))=0:=by
 have j:=kU (UA _ (JE r))
 have key:∀(x:List (BA×V)),zJ ([(zt,V.str (keyOf r)),(bOp,V.str jf)]++x) [bOp,zt,zy,bNo]=true->zf ([(zt,V.str (keyOf r)),(bOp,V.str jf)]++x) bOp=some (.str jf)->zf ([(zt,V.str (keyOf r)),(bOp,V.str jf)]++x) zt=some (.str (keyOf r))->zf ([(zt,V.str (keyOf r)),(bOp,V.str jf)]++x) zy=none->yx (zf ([(zt,V.str (keyOf r)),(bOp,V.str jf)]++x) bNo)=false->condC (.obj ([(zt,V.str (keyOf r)),(bOp,V.str jf)]++x))=0:=by
  intro x b d e f g;unfold condC;simp only;rw[if_pos b,d];simp only[Rd.opV];have h:(jK jf||xI jf)=true:=by kernel_rfl
  have i:zU jf none=0:=by kernel_rfl
  rw[if_pos h,e,f,g,i];refine Qp (λc a=>?_);simp only[List.mem_cons,List.not_mem_nil,or_false] at a
  rcases a with rfl|rfl|rfl
  ·exact j
  ·rfl
  ·rfl
 unfold jk
 cases r.no with
 | false=>exact key _ (by kernel_rfl) (by kernel_rfl) (by kernel_rfl) (by kernel_rfl) (by kernel_rfl)
 | true=>exact key _ (by kernel_rfl) (by kernel_rfl) (by kernel_rfl) (by kernel_rfl) (by kernel_rfl)
theorem UO{c:Option V->Nat}{l:List BA}{k:Nat}(h:∀s ∈ l,c (some (.str s))=0)(b:k<l.length):∀s ∈ [l.getD k ⟨#[]⟩],c (some (.str s))=0:=λs a=>by
 rw[List.mem_singleton] at a;subst a;exact h _ (jV b)
theorem tJ(r:zg)(h:(qV r).size≠0):condC (jS r)=0:=by
 unfold qV at h;unfold jS
 revert h
 generalize zk r.iff 8=j;intro h
 split
 ·exact tH r
 ·refine Jh r Xr _ (by kernel_rfl) ?_;unfold zU;rw[if_pos (by kernel_rfl)];refine Z7 r.style (by simp) (by simp) (λs a=>?_)
  rcases List.mem_cons.1 a with rfl|a
  ·exact JP (JQ _ (jV (qO r.val 14 (by decide))))
  ·rw[List.mem_singleton] at a;subst a;exact JP (by kernel_rfl)
 ·refine Jh r ZN _ (by kernel_rfl) ?_;unfold zU
  rw[if_neg (by intro e;have b:qD ZN=false:=by kernel_rfl
                rw[b] at e;cases e),if_pos (by kernel_rfl)]
  exact Z7 r.style (by simp) (by simp) (UO (λs a=>kU (Vq s a)) (qO r.val 14 (by decide)))
 ·refine Jh r uA _ (by kernel_rfl) ?_;unfold zU;rw[show qD uA=false by kernel_rfl,show xJ uA=false by kernel_rfl,show yu uA=true by kernel_rfl];exact Z7 r.style (by simp) (by simp) (UO (λs a=>kU (gL s a)) (qO r.val 4 (by decide)))
 ·refine Jh r vC _ (by kernel_rfl) ?_;unfold zU;rw[show qD vC=false by kernel_rfl,show xJ vC=false by kernel_rfl,show yu vC=false by kernel_rfl,show uf vC=true by kernel_rfl];exact Z7 r.style (by simp) (by simp) (UO (λs a=>kU (nu s a)) (qO r.val 3 (by decide)))
 ·rename_i c d f g i;exfalso;apply h
  split
  all_goals first|rfl|(exfalso;first|exact c rfl|exact d rfl|exact f rfl|exact g rfl|exact i rfl)
theorem mq(r:zg):qP (Zu r)=0:=by
 have j:zL xx (some (.str (ZW r)))=0:=by
  refine kU ?_;unfold ZW
  cases r.deny<;>kernel_rfl
 have f:=Jd r.on (decide (zk r.nt 16=1)) r.style;have g:=Jd r.who (decide (zk r.nt 16=2)) r.style;have h:=Jd r.act (decide (zk r.nt 16=3)) r.style;unfold Zu;generalize yT r.on (decide (zk r.nt 16=1)) r.style=a at f |-;generalize yT r.who (decide (zk r.nt 16=2)) r.style=b at g |-;generalize yT r.act (decide (zk r.nt 16=3)) r.style=c at h |-;have i:=tJ r;unfold Q4;generalize jS r=cv at i |-;generalize ZW r=ef at j |-
 have key:∀(ms:List (BA×V)) (x:Option V),zJ ms [zQ,zS,bDo,bOn,bIf]=true->zf ms zQ=some (.str ef)->zf ms bOn=some a->zf ms zS=some b->zf ms bDo=some c->zf ms bIf=x->ym x=0->qP (.obj ms)=0:=by
  intro ms x k l m n o p q;unfold qP;simp only;rw[if_pos k,l,m,n,o,p];refine Qp (λy d=>?_);simp only[List.mem_cons,List.not_mem_nil,or_false] at d
  rcases d with rfl|rfl|rfl|rfl|rfl
  ·exact j
  ·exact g
  ·exact h
  ·exact f
  ·exact q
 by_cases e:(qV r).size=0
 ·rw[if_pos e];exact key _ none (by kernel_rfl) (by kernel_rfl) (by kernel_rfl) (by kernel_rfl) (by kernel_rfl) (by kernel_rfl) rfl
 ·rw[if_neg e];refine key _ (some (.list [cv])) (by kernel_rfl) (by kernel_rfl) (by kernel_rfl) (by kernel_rfl) (by kernel_rfl) (by kernel_rfl) ?_;show zT [condC cv]=0;refine Qp (λy d=>?_);rw[List.mem_singleton] at d;subst d;exact i e
theorem OQ(l:List zg):1<=(um l).length/\(um l).length<=4:=by
 unfold um
 split
 ·simp
 ·rw[List.length_map,List.length_take];omega
theorem Av(l:List zg):vX (Xy l)=(0,0):=by
 have d:=YP (U0 l);have g:=OQ l;unfold Xy at d |-;have e:zf [(yS,.list (um l))] yS=some (.list (um l)):=by kernel_rfl
 have b:=xg d yS _ e;unfold vX;simp only;rw[e];simp only[List.length_singleton];rw[if_neg (by omega)];rw[Ug (L:=(bl (xh l)).length) _ 0 (by cases b;assumption)];refine Uh _ 0 (λc f=>?_);obtain⟨v,a,rfl⟩:=List.mem_map.1 f;unfold um at a
 split at a
 ·rw[List.mem_singleton] at a;subst a;exact mq qI
 ·obtain⟨r,_,rfl⟩:=List.mem_map.1 a;exact mq r
theorem Xa(l:List zg):yU (xh l)=(0,0):=by
 have a:=iw l;unfold yU;rw[if_neg (by omega)]
 have:=U0 l
 unfold bl at this;rw[this];exact Av l
end Kp
end Go.Proofs.YtdakgnaojakldabGreatDoor
