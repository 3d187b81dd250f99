/- P -/
import Derived.Test.YtdakgnaojakldaaGreatDoorG28
set_option maxRecDepth 100000
namespace Go.Proofs.YtdakgnaojakldaaGreatDoor
namespace Kp
open Rd Ref
def Z5(t:List UInt8):Prop:=∀b ∈ t,32<=b.toNat/\b.toNat<128/\b.toNat≠34/\b.toNat≠92
instance (t:List UInt8):Decidable (Z5 t):=by unfold Z5;infer_instance
theorem JE{d:Nat}{t:List UInt8}(h:Z5 t):W d (34::(t++[34])) (.str ⟨⟨t⟩⟩):=W.str (V5 h)
theorem ZJ{d:Nat}{n t e:List UInt8}{v:V}(f:Z5 n)(g:W (d+1) t v)(a:Blanks e):WO d (34::(n++34::58::(t++(e++[125])))) [(⟨⟨n⟩⟩,v)]:=by
 have:=WO.last (d:=d) (V5 f) (b:=[]) (c:=[]) zC zC g a
 simpa only[List.append_assoc,List.cons_append,List.nil_append] using this
theorem vv{d:Nat}{n t e g a:List UInt8}{v:V}{ms:List (BA×V)}(i:Z5 n)(k:W (d+1) t v)(f:Blanks e)(h:Blanks g)(j:WO d a ms):WO d (34::(n++34::58::(t++(e++44::(g++a))))) ((⟨⟨n⟩⟩,v)::ms):=by
 have:=WO.more (d:=d) (V5 i) (b:=[]) (c:=[]) zC zC k f h j
 simpa only[List.append_assoc,List.cons_append,List.nil_append] using this
theorem ve{l:List BA}{k:Nat}(h:k<l.length):l.getD k ⟨#[]⟩ ∈ l:=by
 rw[List.getD_eq_getElem?_getD,List.getElem?_eq_getElem h];exact List.getElem_mem _
def keyOf(r:zl):BA:=keys.getD (zk r.key 5) ⟨#[]⟩
theorem IB:∀s ∈ keys,Z5 (bl s):=by decide
theorem Yg(r:zl):keyOf r ∈ keys:=ve (qP r.key 5 (by decide))
def jC(r:zl):List (BA×V):=if r.no then [(bNo,.word true)] else []
def jy:BA:=⟨#[97,98,115,101,110,116]⟩
def XV:BA:=⟨#[108,105,107,101]⟩
def Z8:BA:=⟨#[115,97,109,101]⟩
def uS:BA:=⟨#[98,101,108,111,119]⟩
def vR:BA:=⟨#[117,110,100,101,114]⟩
def Qc(r:zl)(op:BA)(l:List BA):V := .obj ([(zm,.str (keyOf r)),(bOp,.str op),(zo,zP l r.style)]++jC r)
def jY(r:zl):V:=
 match zk r.iff 8 with
 | 1 => .obj ([(zm,.str (keyOf r)),(bOp,.str jy)]++jC r)
 | 6=>Qc r XV [patterns.getD (zk r.val 14) ⟨#[]⟩,⟨#[120]⟩]
 | 2=>Qc r Z8 [words.getD (zk r.val 14) ⟨#[]⟩]
 | 3=>Qc r uS [nums.getD (zk r.val 4) ⟨#[]⟩]
 | 4=>Qc r vR [Zk.getD (zk r.val 3) ⟨#[]⟩]
 | _ => .obj []
theorem mJ{d:Nat}{n t e:List UInt8}{v:V}(r:zl)(b:Z5 n)(c:W (d+1) t v)(a:Blanks e):WO d (34::(n++34::58::(t++(e++(bl (noB r)++[125]))))) ((⟨⟨n⟩⟩,v)::jC r):=by
 unfold noB jC
 cases r.no with
 | false=>exact ZJ b c a
 | true=>
  have f:WO d (34::([110,111]++34::58::([116,114,117,101]++([]++[125])))) [(⟨⟨[110,111]⟩⟩,.word true)]:=ZJ (by decide) .yes zC;exact vv (g:=[]) b c a zC f
theorem iD{d:Nat}{t:List UInt8}{ms:List (BA×V)}(r:zl)(b:WO d (34::([111,112]++34::58::t)) ms):WO d (bl (Ql r)++t) ((zm,.str (keyOf r))::ms):=by
 have a:WO d (34::([107,101,121]++34::58::((34::(bl (keyOf r)++[34]))++([]++44::([]++(34::([111,112]++34::58::t))))))) ((⟨⟨[107,101,121]⟩⟩,.str ⟨⟨bl (keyOf r)⟩⟩)::ms):=vv (by decide) (JE (IB _ (Yg r))) zC zC b
 have e:bl (Ql r)++t=(34::([107,101,121]++34::58::((34::(bl (keyOf r)++[34]))++([]++44::([]++(34::([111,112]++34::58::t))))))):=by
  rw[Ql,qc,qc];show _++bl (keyOf r)++_++t=_;simp only[bl,List.append_assoc,List.cons_append,List.nil_append]
 rw[e];exact a
theorem Vg{d:Nat}(hd:d<=6)(r:zl)(op:List UInt8)(a:BA)(l:List BA)(k:Z5 op)(i:bl a=34::(op++[34,44,34,118,97,108,117,101,34,58]))(f:l≠[])(o:∀s ∈ l,Pl s)(j:((([(zm,V.str (keyOf r)),(bOp,.str ⟨⟨op⟩⟩),(zo,zP l r.style)]++jC r)).map λm=>m.1.toList).Nodup):W d (bl (Qd r a l)) (Qc r ⟨⟨op⟩⟩ l):=by
 obtain⟨t,b,e,hb,p⟩:=KN (d:=d+1) (by omega) r.style f o;have g:WO d (34::([118,97,108,117,101]++34::58::(t++(b++(bl (noB r)++[125]))))) ((⟨⟨[118,97,108,117,101]⟩⟩,zP l r.style)::jC r):=mJ r (by decide) p hb;have h:=iD r (vv (n:=[111,112]) (by decide) (JE k) zC zC g);have c:=W.obj (by omega) zC h j;unfold Qd;rw[qc,qc,qc,qc,qc,e,i];simp only[bl,List.append_assoc,List.cons_append,List.nil_append] at c |-;exact c
theorem VG(r:zl)(v:V)(op:BA):(([(zm,V.str (keyOf r)),(bOp,V.str op),(zo,v)]++jC r).map λm=>m.1.toList).Nodup:=by
 unfold jC
 cases r.no with
 | false=>exact (by kernel_rfl:decide ([zm.toList,bOp.toList,zo.toList].Nodup)=true) |> of_decide_eq_true
 | true=>exact (by kernel_rfl:decide ([zm.toList,bOp.toList,zo.toList,bNo.toList].Nodup)=true) |> of_decide_eq_true
theorem Mk(r:zl)(op:BA):(([(zm,V.str (keyOf r)),(bOp,V.str op)]++jC r).map λm=>m.1.toList).Nodup:=by
 unfold jC
 cases r.no with
 | false=>exact (by kernel_rfl:decide ([zm.toList,bOp.toList].Nodup)=true) |> of_decide_eq_true
 | true=>exact (by kernel_rfl:decide ([zm.toList,bOp.toList,bNo.toList].Nodup)=true) |> of_decide_eq_true
theorem KX{l:List BA}{k:Nat}(h:∀s ∈ l,Pl s)(b:k<l.length):∀s ∈ [l.getD k ⟨#[]⟩],Pl s:=λs a=>by
 rw[List.mem_singleton] at a;subst a;exact h _ (ve b)
theorem BP{d:Nat}(hd:d<=6)(r:zl)(h:(xm r).size≠0):W d (bl (xm r)) (jY r):=by
 unfold xm at h |-;unfold jY
 revert h
 generalize zk r.iff 8=j;intro h
 split
 ·have c:WO d (34::([111,112]++34::58::((34::([97,98,115,101,110,116]++[34]))++([]++(bl (noB r)++[125]))))) ((⟨⟨[111,112]⟩⟩,.str ⟨⟨[97,98,115,101,110,116]⟩⟩)::jC r):=mJ r (by decide) (JE (by decide)) zC;have e:=iD r c;have a:=W.obj (by omega) zC e (Mk r _);rw[qc,qc,qc,qc];simp only[bl,List.append_assoc,List.cons_append,List.nil_append] at a |-;exact a
 ·refine Vg hd r [108,105,107,101] lh _ (by decide) rfl (List.cons_ne_nil _ _) ?_ (VG r _ _);intro s b
  rcases List.mem_cons.1 b with rfl|b
  ·exact Yu _ (ve (qP r.val 14 (by decide)))
  ·rw[List.mem_singleton] at b;subst b;exact Ze _ rfl
 ·exact Vg hd r [115,97,109,101] oQ _ (by decide) rfl (by simp) (KX sK (qP r.val 14 (by decide))) (VG r _ _)
 ·exact Vg hd r [98,101,108,111,119] dQ _ (by decide) rfl (by simp) (KX mU (qP r.val 4 (by decide))) (VG r _ _)
 ·exact Vg hd r [117,110,100,101,114] rY _ (by decide) rfl (by simp) (KX si (qP r.val 3 (by decide))) (VG r _ _)
 ·rename_i c e a f g;exfalso;apply h
  split
  all_goals first|rfl|(exfalso;first|exact c rfl|exact e rfl|exact a rfl|exact f rfl|exact g rfl)
def Xq(r:zl):List (BA×V):=if (xm r).size=0 then [] else [(bIf,.list [jY r])]
def jX:BA:=⟨#[97,108,108,111,119]⟩
def Zy:BA:=⟨#[100,101,110,121]⟩
def uw(r:zl):BA:=if r.deny then Zy else jX
def ZQ(r:zl):V := .obj ((zN,.str (uw r))::(Xq r++[(bOn,jh r.on (decide (zk r.nt 16=1)) r.style),(zT,jh r.who (decide (zk r.nt 16=2)) r.style),(bDo,jh r.act (decide (zk r.nt 16=3)) r.style)]))
theorem Si(r:zl)(a b c:V):(((zN,V.str (uw r))::(Xq r++[(bOn,a),(zT,b),(bDo,c)])).map λm=>m.1.toList).Nodup:=by
 unfold Xq
 split
 ·exact (by kernel_rfl:decide ([zN.toList,bOn.toList,zT.toList,bDo.toList].Nodup)=true) |> of_decide_eq_true
 ·exact (by kernel_rfl:decide ([zN.toList,bIf.toList,bOn.toList,zT.toList,bDo.toList].Nodup)=true) |> of_decide_eq_true
theorem Pb{d:Nat}(hd:d<=6)(r:zl):WO d (bl ⟨#[34,111,110,34,58]⟩++bl (yw r.on (decide (zk r.nt 16=1)) r.style)++bl ⟨#[44,34,119,104,111,34,58]⟩++bl (yw r.who (decide (zk r.nt 16=2)) r.style)++bl ⟨#[44,34,100,111,34,58]⟩++bl (yw r.act (decide (zk r.nt 16=3)) r.style)++bl ⟨#[125]⟩)
  [(bOn,jh r.on (decide (zk r.nt 16=1)) r.style),(zT,jh r.who (decide (zk r.nt 16=2)) r.style),(bDo,jh r.act (decide (zk r.nt 16=3)) r.style)]:=by
 obtain⟨p,l,f,a,hw1⟩:=UN (d:=d+1) (by omega) r.on (decide (zk r.nt 16=1)) r.style;obtain⟨q,m,h,b,hw2⟩:=UN (d:=d+1) (by omega) r.who (decide (zk r.nt 16=2)) r.style;obtain⟨s,o,i,c,hw3⟩:=UN (d:=d+1) (by omega) r.act (decide (zk r.nt 16=3)) r.style;have k:=ZJ (n:=[100,111]) (by decide) hw3 c;have j:=vv (n:=[119,104,111]) (g:=[]) (by decide) hw2 b zC k;have e:=vv (n:=[111,110]) (g:=[]) (by decide) hw1 a zC j;rw[f,h,i];simp only[bl,List.append_assoc,List.cons_append,List.nil_append] at e |-;exact e
theorem Gh{d:Nat}(hd:d<=4)(r:zl){t:List UInt8}{ms:List (BA×V)}(h:WO d t ms):WO d (bl (if (xm r).size=0 then ⟨#[]⟩ else ⟨#[34,105,102,34,58,91]⟩++xm r++⟨#[93,44]⟩)++t) (Xq r++ms):=by
 unfold Xq
 by_cases c:(xm r).size=0
 ·rw[if_pos c,if_pos c];exact h
 ·rw[if_neg c,if_neg c];have b:=BP (d:=d+2) (by omega) r c;have f:W (d+1) ([91]++[]++(bl (xm r)++[]++[93])) (.list [jY r]) := .list (by omega) zC (.last b zC);have a:=vv (n:=[105,102]) (g:=[]) (e:=[]) (by decide) f zC zC h;rw[qc,qc];simp only[bl,List.append_assoc,List.cons_append,List.nil_append] at a |-;exact a
theorem TZ(r:zl):ZT r=uX r++(if (xm r).size=0 then ⟨#[]⟩ else ⟨#[34,105,102,34,58,91]⟩++xm r++⟨#[93,44]⟩):=by
 unfold ZT
 split
 ·apply ByteArray.ext;simp[ByteArray.data_append]
 ·apply ByteArray.ext;simp[ByteArray.data_append]
theorem Sn{d:Nat}(hd:d<=4)(r:zl):W d (bl (jc r)) (ZQ r):=by
 have c:=Gh hd r (Pb (d:=d) (by omega) r);unfold jc ZQ;rw[TZ];simp only[qc,List.append_assoc] at c |-;have a:=Si r (jh r.on (decide (zk r.nt 16=1)) r.style) (jh r.who (decide (zk r.nt 16=2)) r.style) (jh r.act (decide (zk r.nt 16=3)) r.style);unfold uX;unfold uw at a |-
 cases hdn:r.deny with
 | false=>
  rw[hdn] at a;simp only[Bool.false_eq_true,if_false] at a |-;have f:=vv (n:=[101,102,102,101,99,116]) (e:=[]) (g:=[]) (by decide) (JE (t:=[97,108,108,111,119]) (by decide)) zC zC c;have b:=W.obj (by omega) zC f a;simp only[bl,List.cons_append,List.nil_append] at b |-;exact b
 | true=>
  rw[hdn] at a;simp only[if_true] at a |-;have f:=vv (n:=[101,102,102,101,99,116]) (e:=[]) (by decide) (JE (t:=[100,101,110,121]) (by decide)) zC (Ju r.style) c;have b:=W.obj (by omega) zC f a;simp only[qc];simp only[bl,List.cons_append,List.nil_append] at b |-;exact b
def uH(l:List zl):List V:=if l.length=0 then [ZQ xu] else (l.take 4).map ZQ
def X4(l:List zl):V := .obj [(yU,.list (uH l))]
theorem K8(l:List zl):∀k,k<=l.length->bl (jm l k)=xW [44] ((l.take k).map λr=>bl (jc r))
 | 0,_=>rfl
 | k+1,h=>by
  have a:k<l.length:=by omega
  rw[jm,qc,List.getElem?_eq_getElem a,List.take_succ_eq_append_getElem a,List.map_append,List.map_singleton]
  by_cases h0:0<k
  ·rw[if_pos h0,qc,K8 l k (by omega),Kz _ _ _ (by
    intro e
    have:=congrArg List.length e
    rw[List.length_map,List.length_take,List.length_nil] at this;omega)]
   rfl
  ·have:k=0:=by omega
   subst this;rw[if_neg h0,K8 l 0 (by omega)]
   rfl
theorem Ay{d:Nat}(hd:d<=3)(l:List zl):WL d (bl (ZA l)++[93]) (uH l):=by
 have key:∀xs:List zl,xs≠[]->WL d (xW [44] (xs.map λr=>bl (jc r))++[93]) (xs.map ZQ):=by
  intro xs b
  have:=Ue (d:=d) zC (xs.map λr=>(bl (jc r),ZQ r)) (by simpa using b) (by
   intro x f;obtain⟨r,_,rfl⟩:=List.mem_map.1 f;exact Sn (by omega) r)
  rw[List.map_map,List.map_map] at this;exact this
 unfold ZA uH
 by_cases c:l.length=0
 ·rw[if_pos c,if_pos c];exact key [xu] (by simp)
 ·rw[if_neg c,if_neg c,K8 l _ (Nat.min_le_left _ _)]
  have e:l.take (min l.length 4)=l.take 4:=by
   rw[List.take_eq_take_iff];omega
  rw[e];refine key (l.take 4) ?_;intro a
  have:=congrArg List.length a
  rw[List.length_take,List.length_nil] at this;omega
theorem Dn(l:List zl):W 1 (bl (qp l)) (X4 l):=by
 have c:W 2 ([91]++[]++(bl (ZA l)++[93])) (.list (uH l)) := .list (by omega) zC (Ay (d:=2) (by omega) l);have b:=ZJ (d:=1) (n:=[115,116,97,116,101,109,101,110,116]) (e:=[]) (by decide) c zC;have a:=W.obj (by omega) zC b (by simp);unfold qp;simp only[qc];simp only[bl,List.append_assoc,List.cons_append,List.nil_append] at a |-;exact a
theorem aa(l:List zl):xD (bl (qp l)) = .ok (X4 l) (bl (qp l)).length:=oz (Dn l)
end Kp
namespace Rd
open Ref
end Rd
namespace Kp
open Rd Ref
theorem VK:∀s ∈ patterns,xg s=true:=by
 have h:patterns.all xg=true:=by kernel_rfl
 exact List.all_eq_true.1 h
theorem Uf:∀s ∈ words,short s=true:=by
 have h:words.all short=true:=by kernel_rfl
 exact List.all_eq_true.1 h
theorem mR:∀s ∈ nums,qH s=true:=by
 have h:nums.all qH=true:=by kernel_rfl
 exact List.all_eq_true.1 h
theorem rZ:∀s ∈ Zk,filled s=true:=by
 have h:Zk.all filled=true:=by kernel_rfl
 exact List.all_eq_true.1 h
theorem KD:∀s ∈ keys,zO s=true:=by
 have h:keys.all zO=true:=by kernel_rfl
 exact List.all_eq_true.1 h
theorem Qj{l:List Nat}(h:∀c ∈ l,c=0):zW l=0:=by
 unfold zW
 have b:l.any (λc=>c==1)=false:=by
  rw[List.any_eq_false];intro c a;rw[h c a]
  decide
 have d:l.any (λc=>c==2)=false:=by
  rw[List.any_eq_false];intro c a;rw[h c a]
  decide
 rw[b,d]
 rfl
theorem ZL{c:Option V->Nat}{l:List BA}(st:Int)(f:1<=l.length)(g:l.length<=10)(b:∀s ∈ l,c (some (.str s))=0):qh c (some (zP l st))=0:=by
 unfold zP
 by_cases e:l.length=1/\bit st 32=true
 ·rw[if_pos e];show zW [c (some (.str (l.getD 0 ⟨#[]⟩)))]=0;refine Qj (λx a=>?_);rw[List.mem_singleton] at a;subst a;exact b _ (ve (by omega))
 ·rw[if_neg e];show (if (l.map V.str).length<1\/10<(l.map V.str).length then 1 else zW ((l.map V.str).map λv=>c (some v)))=0
  rw[List.length_map,if_neg (by omega)];refine Qj (λx a=>?_);rw[List.map_map] at a;obtain⟨s,d,rfl⟩:=List.mem_map.1 a;exact b s d
theorem Jv{s:BA}(h:xg s=true):xC (some (.str s))=0:=by
 show cls false (!xg s)=0;rw[h];rfl
theorem Zf{f:BA->Bool}{s:BA}(h:f s=true):zQ f (some (.str s))=0:=by
 show cls (!f s) false=0;rw[h];rfl
theorem J7(raw:List Int)(nt:Bool)(st:Int):chC (some (jh raw nt st))=0:=by
 have g:=ZB raw;have h:=ZL (c:=xC) (l:=qg raw) st g.1 (by omega) (λs i=>Jv (VK s (QF i)));unfold jh
 cases nt with
 | true=>
  have a:zM [(zS,zP (qg raw) st)] [zS]=true:=by kernel_rfl
  have d:zf [(zS,zP (qg raw) st)] zS=some (zP (qg raw) st):=by kernel_rfl
  simp only[if_true,chC];rw[a,d,if_pos rfl];exact h
 | false=>
  simp only[Bool.false_eq_true,if_false]
  have:∀ms,zP (qg raw) st ≠ .obj ms:=by
   intro ms;unfold zP
   split<;>(intro e;cases e)
  have f:chC (some (zP (qg raw) st))=qh xC (some (zP (qg raw) st)):=by
   cases hv:zP (qg raw) st with
   | obj ms=>exact absurd hv (this ms)
   | str s=>rfl
   | word b=>rfl
   | list j=>rfl
  rw[f];exact h
theorem Vd(r:zl)(op:BA)(l:List BA)(j:jS op=true)(i:zX op (some (zP l r.style))=0):condC (Qc r op l)=0:=by
 have h:=Zf (KD _ (Yg r));unfold Qc
 have key:∀(x:List (BA×V)),zM ([(zm,V.str (keyOf r)),(bOp,V.str op),(zo,zP l r.style)]++x) [bOp,zm,zo,bNo]=true->zf ([(zm,V.str (keyOf r)),(bOp,V.str op),(zo,zP l r.style)]++x) bOp=some (.str op)->zf ([(zm,V.str (keyOf r)),(bOp,V.str op),(zo,zP l r.style)]++x) zm=some (.str (keyOf r))->zf ([(zm,V.str (keyOf r)),(bOp,V.str op),(zo,zP l r.style)]++x) zo=some (zP l r.style)->yP (zf ([(zm,V.str (keyOf r)),(bOp,V.str op),(zo,zP l r.style)]++x) bNo)=false->condC (.obj ([(zm,V.str (keyOf r)),(bOp,V.str op),(zo,zP l r.style)]++x))=0:=by
  intro x b d e f g;unfold condC;simp only;rw[if_pos b,d];simp only[Rd.opV];rw[j,Bool.true_or,if_pos rfl,e,f,g];refine Qj (λc a=>?_);simp only[List.mem_cons,List.not_mem_nil,or_false] at a
  rcases a with rfl|rfl|rfl
  ·exact h
  ·exact i
  ·rfl
 unfold jC
 cases r.no with
 | false=>exact key _ (by kernel_rfl) (by kernel_rfl) (by kernel_rfl) (by kernel_rfl) (by kernel_rfl)
 | true=>exact key _ (by kernel_rfl) (by kernel_rfl) (by kernel_rfl) (by kernel_rfl) (by kernel_rfl)
theorem Bv(r:zl):condC (.obj ([(zm,.str (keyOf r)),(bOp,.str jy)]++jC r))=0:=by
 have j:=Zf (KD _ (Yg r))
 have key:∀(x:List (BA×V)),zM ([(zm,V.str (keyOf r)),(bOp,V.str jy)]++x) [bOp,zm,zo,bNo]=true->zf ([(zm,V.str (keyOf r)),(bOp,V.str jy)]++x) bOp=some (.str jy)->zf ([(zm,V.str (keyOf r)),(bOp,V.str jy)]++x) zm=some (.str (keyOf r))->zf ([(zm,V.str (keyOf r)),(bOp,V.str jy)]++x) zo=none->yP (zf ([(zm,V.str (keyOf r)),(bOp,V.str jy)]++x) bNo)=false->condC (.obj ([(zm,V.str (keyOf r)),(bOp,V.str jy)]++x))=0:=by
  intro x b d e f g;unfold condC;simp only;rw[if_pos b,d];simp only[Rd.opV];have h:(jS jy||xq jy)=true:=by kernel_rfl
  have i:zX jy none=0:=by kernel_rfl
  rw[if_pos h,e,f,g,i];refine Qj (λc a=>?_);simp only[List.mem_cons,List.not_mem_nil,or_false] at a
  rcases a with rfl|rfl|rfl
  ·exact j
  ·rfl
  ·rfl
 unfold jC
 cases r.no with
 | false=>exact key _ (by kernel_rfl) (by kernel_rfl) (by kernel_rfl) (by kernel_rfl) (by kernel_rfl)
 | true=>exact key _ (by kernel_rfl) (by kernel_rfl) (by kernel_rfl) (by kernel_rfl) (by kernel_rfl)
theorem KW{c:Option V->Nat}{l:List BA}{k:Nat}(h:∀s ∈ l,c (some (.str s))=0)(b:k<l.length):∀s ∈ [l.getD k ⟨#[]⟩],c (some (.str s))=0:=λs a=>by
 rw[List.mem_singleton] at a;subst a;exact h _ (ve b)
theorem Bw(r:zl)(h:(xm r).size≠0):condC (jY r)=0:=by
 unfold xm at h;unfold jY
 revert h
 generalize zk r.iff 8=j;intro h
 split
 ·exact Bv r
 ·refine Vd r XV _ (by kernel_rfl) ?_;unfold zX;rw[if_pos (by kernel_rfl)];refine ZL r.style (by simp) (by simp) (λs a=>?_)
  rcases List.mem_cons.1 a with rfl|a
  ·exact Jv (VK _ (ve (qP r.val 14 (by decide))))
  ·rw[List.mem_singleton] at a;subst a;exact Jv (by kernel_rfl)
 ·refine Vd r Z8 _ (by kernel_rfl) ?_;unfold zX
  rw[if_neg (by intro e;have b:qG Z8=false:=by kernel_rfl
                rw[b] at e;cases e),if_pos (by kernel_rfl)]
  exact ZL r.style (by simp) (by simp) (KW (λs a=>Zf (Uf s a)) (qP r.val 14 (by decide)))
 ·refine Vd r uS _ (by kernel_rfl) ?_;unfold zX;rw[show qG uS=false by kernel_rfl,show xV uS=false by kernel_rfl,show yN uS=true by kernel_rfl];exact ZL r.style (by simp) (by simp) (KW (λs a=>Zf (mR s a)) (qP r.val 4 (by decide)))
 ·refine Vd r vR _ (by kernel_rfl) ?_;unfold zX;rw[show qG vR=false by kernel_rfl,show xV vR=false by kernel_rfl,show yN vR=false by kernel_rfl,show uA vR=true by kernel_rfl];exact ZL r.style (by simp) (by simp) (KW (λs a=>Zf (rZ s a)) (qP r.val 3 (by decide)))
 ·rename_i c d f g i;exfalso;apply h
  split
  all_goals first|rfl|(exfalso;first|exact c rfl|exact d rfl|exact f rfl|exact g rfl|exact i rfl)
theorem pX(r:zl):qN (ZQ r)=0:=by
 have j:zQ xL (some (.str (uw r)))=0:=by
  refine Zf ?_;unfold uw
  cases r.deny<;>kernel_rfl
 have f:=J7 r.on (decide (zk r.nt 16=1)) r.style;have g:=J7 r.who (decide (zk r.nt 16=2)) r.style;have h:=J7 r.act (decide (zk r.nt 16=3)) r.style;unfold ZQ;generalize jh r.on (decide (zk r.nt 16=1)) r.style=a at f |-;generalize jh r.who (decide (zk r.nt 16=2)) r.style=b at g |-;generalize jh r.act (decide (zk r.nt 16=3)) r.style=c at h |-;have i:=Bw r;unfold Xq;generalize jY r=cv at i |-;generalize uw r=ef at j |-
 have key:∀(ms:List (BA×V)) (x:Option V),zM ms [zN,zT,bDo,bOn,bIf]=true->zf ms zN=some (.str ef)->zf ms bOn=some a->zf ms zT=some b->zf ms bDo=some c->zf ms bIf=x->yz x=0->qN (.obj ms)=0:=by
  intro ms x k l m n o p q;unfold qN;simp only;rw[if_pos k,l,m,n,o,p];refine Qj (λy d=>?_);simp only[List.mem_cons,List.not_mem_nil,or_false] at d
  rcases d with rfl|rfl|rfl|rfl|rfl
  ·exact j
  ·exact g
  ·exact h
  ·exact f
  ·exact q
 by_cases e:(xm r).size=0
 ·rw[if_pos e];exact key _ none (by kernel_rfl) (by kernel_rfl) (by kernel_rfl) (by kernel_rfl) (by kernel_rfl) (by kernel_rfl) rfl
 ·rw[if_neg e];refine key _ (some (.list [cv])) (by kernel_rfl) (by kernel_rfl) (by kernel_rfl) (by kernel_rfl) (by kernel_rfl) (by kernel_rfl) ?_;show zW [condC cv]=0;refine Qj (λy d=>?_);rw[List.mem_singleton] at d;subst d;exact i e
theorem Sq(l:List zl):1<=(uH l).length/\(uH l).length<=4:=by
 unfold uH
 split
 ·simp
 ·rw[List.length_map,List.length_take];omega
theorem Dm(l:List zl):uu (X4 l)=(0,0):=by
 have d:=Yz (aa l);have g:=Sq l;unfold X4 at d |-;have e:zf [(yU,.list (uH l))] yU=some (.list (uH l)):=by kernel_rfl
 have b:=xA d yU _ e;unfold uu;simp only;rw[e];simp only[List.length_singleton];rw[if_neg (by omega)];rw[Vm (L:=(bl (qp l)).length) _ 0 (by cases b;assumption)];refine Vn _ 0 (λc f=>?_);obtain⟨v,a,rfl⟩:=List.mem_map.1 f;unfold uH at a
 split at a
 ·rw[List.mem_singleton] at a;subst a;exact pX xu
 ·obtain⟨r,_,rfl⟩:=List.mem_map.1 a;exact pX r
theorem QR(l:List zl):xS (qp l)=(0,0):=by
 have a:=nH l;unfold xS;rw[if_neg (by omega)]
 have:=aa l
 unfold bl at this;rw[this];exact Dm l
end Kp
end Go.Proofs.YtdakgnaojakldaaGreatDoor
