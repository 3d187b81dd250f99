/- P -/
import Derived.Test.YtdakgnaojakldaaGreatDoorG29
import Derived.Test.YtdakgnaojakldaaGreatDoorG31
set_option maxRecDepth 100000
namespace Go.Proofs.YtdakgnaojakldaaGreatDoor
open Go.RowKit
namespace Kp
open Rd Ref
theorem Aw(s:BA)(k:Nat)(h:k<(bl s).length):bl (s.extract k (k+1))=[(bl s)[k]]:=by
 have e:bl (s.extract k (k+1))=((bl s).drop k).take 1:=by
  unfold bl;rw[ByteArray.data_extract,Array.toList_extract,List.extract_eq_take_drop]
  simp
 rw[e,List.drop_eq_getElem_cons h]
 rfl
theorem NP{t:List UInt8}(h:Plain8 t):∀b ∈ t,32<=b.toNat/\b.toNat≠34/\b.toNat≠92:=by
 induction h with
 | nil=>intro b hb;simp at hb
 | one h _ a=>
  intro b hb
  rcases List.mem_cons.1 hb with rfl|hb
  ·exact⟨h.1,h.2.2⟩
  ·exact a b hb
 | two _ a=>
  intro b hb
  rcases List.mem_cons.1 hb with rfl|hb
  ·decide
  rcases List.mem_cons.1 hb with rfl|hb
  ·decide
  ·exact a b hb
theorem NQ{t:List UInt8}(h:Plain8 t):jg t ⟨⟨t⟩⟩:=by
 have e:inner 0 t=t:=by
  unfold inner
  have:∀b:UInt8,bl (esc 0 b)=[b]:=λb=>by
   unfold esc;have a:∀d,bit 0 d=false:=λd=>by unfold bit;simp
   simp[a]
   rfl
  rw[show (λb=>bl (esc 0 b))=λb:UInt8=>[b] from funext this]
  exact List.flatMap_singleton' t
 have:=rE 0 h
 rw[e] at this;exact this
theorem ou(s:BA)(h:∀b ∈ bl s,32<=b.toNat/\b.toNat≠34/\b.toNat≠92):∀k,k<=(bl s).length->bl (Ref.y8 s k)=34::(bl s).take k
 | 0,_=>rfl
 | k+1,hk=>by
  have a:k<(bl s).length:=by omega
  have c:s.data.toList.getD k 0=(bl s)[k]:=by
   rw[List.getD_eq_getElem?_getD];show ((bl s)[k]?).getD 0=_;rw[List.getElem?_eq_getElem a]
   rfl
  obtain⟨d,e,f⟩:=h _ (List.getElem_mem a);rw[Ref.y8,c];unfold Ref.X9;rw[if_neg (by omega),if_neg (by omega),if_neg (by omega),if_neg (by omega),qc,ou s h k (by omega),Aw s k a,List.take_succ_eq_append_getElem a]
  rfl
theorem oq{s:BA}(h:Pl s):bl (Ref.zG s)=[34]++bl s++[34]:=by
 rw[Ref.zG,qc,ou s (NP h) s.size (by rw[QD];omega),List.take_of_length_le (by rw[QD];omega)]
 rfl
theorem JA{d:Nat}{s:BA}(h:Pl s):W d (bl (Ref.zG s)) (.str s):=by
 rw[oq h];exact .str (NQ h)
theorem iM:∀ts:List (List UInt8),xW [44] ts=Lib.join ts [44]
 | []=>rfl
 | [t]=>(Lib.join_one t [44]).symm
 | t::u::ts=>by
  have a:=iM (u::ts);show t++[44]++xW [44] (u::ts)=_;rw[a,Lib.join_cons,Lib.join_cons];simp[Lib.joinTail]
theorem ll(l:List BA):bl (qX l)=[91]++xW [44] (l.map bl)++[93]:=by
 unfold qX yC;rw[qc,qc,iM];simp[bl]
 rfl
theorem KL{d:Nat}(hd:d<=8)(xs:List (BA×V))(a:xs≠[])(h:∀x ∈ xs,W (d+1) (bl x.1) x.2):W d (bl (qX (xs.map Prod.fst))) (.list (xs.map Prod.snd)):=by
 have b:=Ue (d:=d) (c:=[]) zC (xs.map λx=>(bl x.1,x.2)) (by simpa using a) (by
  intro x e;obtain⟨y,f,rfl⟩:=List.mem_map.1 e;exact h y f)
 have:=W.list hd zC b
 rw[ll];simp only[List.map_map,List.append_nil,List.append_assoc] at this |-;exact this
theorem bz{d:Nat}(hd:d<=8)(l:List BA)(a:l≠[])(h:∀s ∈ l,Pl s):W d (bl (qX (l.map Ref.zG))) (.list (l.map .str)):=by
 have:=KL hd (l.map λs=>(Ref.zG s,V.str s)) (by simpa using a) (by
  intro x c;obtain⟨s,b,rfl⟩:=List.mem_map.1 c;exact JA (h s b))
 simp only[List.map_map] at this;exact this
def chV(c:Bool×List BA):V:=if c.1 then .obj [(zS,.list (c.2.map .str))] else .list (c.2.map .str)
theorem UC{d:Nat}(hd:d<=7)(c:Bool×List BA)(a:c.2≠[])(h:∀s ∈ c.2,Pl s):W d (bl (yg c)) (chV c):=by
 unfold yg chV
 cases c.1 with
 | false=>
  simp only[Bool.false_eq_true,if_false];exact bz (by omega) _ a h
 | true=>
  simp only[if_true];have f:=ZJ (n:=[110,111,116]) (e:=[]) (by decide) (bz (d:=d+1) (by omega) _ a h) zC;have b:=W.obj (d:=d) (by omega) zC f (by simp);rw[qc,qc];simp only[bl,List.cons_append,List.nil_append] at b |-;exact b
def Xx(b:Bool):List (BA×V):=if b then [(bNo,.word true)] else []
def YG(l:List BA):List (BA×V):=if 0<l.length then [(zo,.list (l.map .str))] else []
def cdV(c:zJ):V := .obj ([(bOp,.str c.op),(zm,.str c.key)]++YG c.vals++Xx c.no)
theorem iU{d:Nat}{n t:List UInt8}{v:V}(b:Bool)(a:Z5 n)(c:W (d+1) t v):WO d (34::(n++34::58::(t++(bl (if b then ⟨#[44,34,110,111,34,58,116,114,117,101]⟩ else ⟨#[]⟩)++[125])))) ((⟨⟨n⟩⟩,v)::Xx b):=by
 unfold Xx
 cases b with
 | false=>exact ZJ (e:=[]) a c zC
 | true=>
  have f:WO d (34::([110,111]++34::58::([116,114,117,101]++([]++[125])))) [(⟨⟨[110,111]⟩⟩,.word true)]:=ZJ (by decide) .yes zC;exact vv (e:=[]) (g:=[]) a c zC zC f
theorem fA(c:zJ):xK c=⟨#[123,34,111,112,34,58]⟩++Ref.zG c.op++⟨#[44,34,107,101,121,34,58]⟩++Ref.zG c.key++(if 0<c.vals.length then ⟨#[44,34,118,97,108,117,101,34,58]⟩++qX (c.vals.map Ref.zG) else ⟨#[]⟩)++(if c.no then ⟨#[44,34,110,111,34,58,116,114,117,101]⟩ else ⟨#[]⟩)++⟨#[125]⟩:=by
 have b:∀a:BA,a++⟨#[]⟩=a:=λa=>by apply ByteArray.ext;simp[ByteArray.data_append]
 unfold xK
 cases c.no<;>by_cases hv:0<c.vals.length<;>simp only[hv,if_true,if_false,Bool.false_eq_true,b,ByteArray.append_assoc]
theorem AQ{d:Nat}(hd:d<=7)(c:zJ)(f:Pl c.op)(a:Pl c.key)(h:∀s ∈ c.vals,Pl s):W d (bl (xK c)) (cdV c):=by
 have i:WO d (34::([107,101,121]++34::58::(bl (Ref.zG c.key)++(bl (if 0<c.vals.length then ⟨#[44,34,118,97,108,117,101,34,58]⟩++qX (c.vals.map Ref.zG) else ⟨#[]⟩)++(bl (if c.no then ⟨#[44,34,110,111,34,58,116,114,117,101]⟩ else ⟨#[]⟩)++[125]))))) ((zm,.str c.key)::(YG c.vals++Xx c.no)):=by
  unfold YG
  by_cases hv:0<c.vals.length
  ·rw[if_pos hv,if_pos hv,qc]
   have:=vv (n:=[107,101,121]) (e:=[]) (g:=[]) (by decide) (JA (d:=d+1) a) zC zC (iU (n:=[118,97,108,117,101]) c.no (by decide) (bz (d:=d+1) (by omega) c.vals (by intro e;rw[e] at hv;simp at hv) h))
   simp only[bl,List.cons_append,List.nil_append] at this |-;exact this
  ·rw[if_neg hv,if_neg hv];exact iU (n:=[107,101,121]) c.no (by decide) (JA a)
 have k:=vv (n:=[111,112]) (e:=[]) (g:=[]) (by decide) (JA (d:=d+1) f) zC zC i
 have j:((([(bOp,V.str c.op),(zm,.str c.key)]++YG c.vals++Xx c.no)).map λm=>m.1.toList).Nodup:=by
  unfold YG Xx
  by_cases hv:0<c.vals.length
  ·rw[if_pos hv]
   cases c.no with
   | false=>exact (by kernel_rfl:decide ([bOp.toList,zm.toList,zo.toList].Nodup)=true) |> of_decide_eq_true
   | true=>exact (by kernel_rfl:decide ([bOp.toList,zm.toList,zo.toList,bNo.toList].Nodup)=true) |> of_decide_eq_true
  ·rw[if_neg hv]
   cases c.no with
   | false=>exact (by kernel_rfl:decide ([bOp.toList,zm.toList].Nodup)=true) |> of_decide_eq_true
   | true=>exact (by kernel_rfl:decide ([bOp.toList,zm.toList,bNo.toList].Nodup)=true) |> of_decide_eq_true
 have b:=W.obj (d:=d) (by omega) zC k j;rw[fA];simp only[qc];simp only[bl,List.append_assoc,List.cons_append,List.nil_append] at b |-;exact b
def Yf(l:List zJ):List (BA×V):=if 0<l.length then [(bIf,.list (l.map cdV))] else []
def stV(s:zw):V := .obj ([(zN,.str s.eff),(zT,chV s.who),(bDo,chV s.act),(bOn,chV s.on)]++Yf s.ifs)
theorem ry(s:zw):xh s=⟨#[123,34,101,102,102,101,99,116,34,58]⟩++Ref.zG s.eff++(⟨#[44,34,119,104,111,34,58]⟩++yg s.who)++(⟨#[44,34,100,111,34,58]⟩++yg s.act)++(⟨#[44,34,111,110,34,58]⟩++yg s.on)++(if 0<s.ifs.length then ⟨#[44,34,105,102,34,58]⟩++uU s.ifs else ⟨#[]⟩)++⟨#[125]⟩:=by
 have b:∀a:BA,a++⟨#[]⟩=a:=λa=>by apply ByteArray.ext;simp[ByteArray.data_append]
 unfold xh
 by_cases hv:0<s.ifs.length<;>simp only[hv,if_true,if_false,b]
structure PlS (s:zw):Prop where
 eff:Pl s.eff
 who:s.who.2≠[]/\∀p ∈ s.who.2,Pl p
 act:s.act.2≠[]/\∀p ∈ s.act.2,Pl p
 on:s.on.2≠[]/\∀p ∈ s.on.2,Pl p
 ifs:∀c ∈ s.ifs,Pl c.op/\Pl c.key/\∀p ∈ c.vals,Pl p
theorem Rz{d:Nat}(hd:d<=4)(s:zw)(h:PlS s):W d (bl (xh s)) (stV s):=by
 have o:=UC (d:=d+1) (by omega) s.who h.who.1 h.who.2;have k:=UC (d:=d+1) (by omega) s.act h.act.1 h.act.2;have f:=UC (d:=d+1) (by omega) s.on h.on.1 h.on.2
 have j:WO d (34::([111,110]++34::58::(bl (yg s.on)++(bl (if 0<s.ifs.length then ⟨#[44,34,105,102,34,58]⟩++uU s.ifs else ⟨#[]⟩)++[125])))) ((bOn,chV s.on)::Yf s.ifs):=by
  unfold Yf
  by_cases hv:0<s.ifs.length
  ·rw[if_pos hv,if_pos hv,qc]
   have a:=KL (d:=d+1) (by omega) (s.ifs.map λc=>(xK c,cdV c)) (by intro e;have:=congrArg List.length e;simp at this;rw[this] at hv;simp at hv) (by
    intro x p;obtain⟨c,a,rfl⟩:=List.mem_map.1 p;obtain⟨q,q2,r⟩:=h.ifs c a;exact AQ (by omega) c q q2 r)
   simp only[List.map_map] at a
   have:=vv (n:=[111,110]) (e:=[]) (g:=[]) (by decide) f zC zC (ZJ (n:=[105,102]) (e:=[]) (by decide) a zC)
   unfold uU;simp only[bl,List.cons_append,List.nil_append] at this |-;exact this
  ·rw[if_neg hv,if_neg hv];exact ZJ (n:=[111,110]) (e:=[]) (by decide) f zC
 have i:=vv (n:=[101,102,102,101,99,116]) (e:=[]) (g:=[]) (by decide) (JA (d:=d+1) h.eff) zC zC (vv (n:=[119,104,111]) (e:=[]) (g:=[]) (by decide) o zC zC (vv (n:=[100,111]) (e:=[]) (g:=[]) (by decide) k zC zC j))
 have l:((([(zN,V.str s.eff),(zT,chV s.who),(bDo,chV s.act),(bOn,chV s.on)]++Yf s.ifs)).map λm=>m.1.toList).Nodup:=by
  unfold Yf
  by_cases hv:0<s.ifs.length
  ·rw[if_pos hv];exact (by kernel_rfl:decide ([zN.toList,zT.toList,bDo.toList,bOn.toList,bIf.toList].Nodup)=true) |> of_decide_eq_true
  ·rw[if_neg hv];exact (by kernel_rfl:decide ([zN.toList,zT.toList,bDo.toList,bOn.toList].Nodup)=true) |> of_decide_eq_true
 have b:=W.obj (d:=d) (by omega) zC i l;rw[ry];simp only[qc];simp only[bl,List.append_assoc,List.cons_append,List.nil_append] at b |-;exact b
def dcV(l:List zw):V := .obj [(yU,.list (l.map stV))]
theorem Ck(l:List zw)(c:l≠[])(h:∀s ∈ l,PlS s):W 1 (bl (yA l)) (dcV l):=by
 have b:=KL (d:=2) (by omega) (l.map λs=>(xh s,stV s)) (by simpa using c) (by
  intro x i;obtain⟨s,g,rfl⟩:=List.mem_map.1 i;exact Rz (by omega) s (h s g))
 simp only[List.map_map] at b;have f:=ZJ (d:=1) (n:=[115,116,97,116,101,109,101,110,116]) (e:=[]) (by decide) b zC;have a:=W.obj (d:=1) (by omega) zC f (by simp);unfold yA;rw[qc,qc];simp only[bl,List.cons_append,List.nil_append] at a |-;exact a
theorem Oa(l:List zw)(a:l≠[])(h:∀s ∈ l,PlS s):xD (bl (yA l)) = .ok (dcV l) (bl (yA l)).length:=oz (Ck l a h)
theorem Jm(f:Option V->BA){l:List BA}(st:Int)(d:1<=l.length)(h:l.length<=10)(b:∀s ∈ l,f (some (.str s))=s):qm f (some (zP l st))=l:=by
 unfold zP
 by_cases e:l.length=1/\bit st 32=true
 ·rw[if_pos e];obtain⟨a,rfl⟩:=List.length_eq_one_iff.1 e.1;show [f (some (.str a))]=[a];rw[b a (by simp)]
 ·rw[if_neg e];show (if (l.map V.str).length<1\/10<(l.map V.str).length then [] else (l.map V.str).map λv=>f (some v))=l
  rw[List.length_map,if_neg (by omega),List.map_map];refine (List.map_congr_left (g:=id) (λs c=>b s c)).trans (by simp)
theorem lq(l:List BA):zP l 0 = .list (l.map .str):=by
 unfold zP
 rw[if_neg (by intro h;have:bit 0 32=false:=by decide
               rw[this] at h;simp at h)]
theorem eu{c:Bool×List BA}(st:Int)(d:1<=c.2.length)(f:c.2.length<=10):chS (some (if c.1 then .obj [(zS,zP c.2 st)] else zP c.2 st))=c:=by
 obtain⟨nt,l⟩:=c;simp only at d f |-;have g:=Jm strOf (l:=l) st d f (λs _=>rfl)
 cases nt with
 | true=>
  have h:zM [(zS,zP l st)] [zS]=true:=by kernel_rfl
  have i:zf [(zS,zP l st)] zS=some (zP l st):=by kernel_rfl
  simp only[if_true,chS];rw[if_pos h,i,g]
 | false=>
  simp only[Bool.false_eq_true,if_false]
  have a:∀ms,zP l st ≠ .obj ms:=by
   intro ms;unfold zP
   split<;>(intro e;cases e)
  have j:chS (some (zP l st))=(false,qm strOf (some (zP l st))):=by
   cases hv:zP l st with
   | obj ms=>exact absurd hv (a ms)
   | str s=>rfl
   | word b=>rfl
   | list k=>rfl
  rw[j,g]
def yJ(r:zl):zJ:=
 match zk r.iff 8 with
 | 1=>⟨jy,keyOf r,[],r.no⟩
 | 6=>⟨XV,keyOf r,[patterns.getD (zk r.val 14) ⟨#[]⟩,⟨#[120]⟩],r.no⟩
 | 2=>⟨Z8,keyOf r,[words.getD (zk r.val 14) ⟨#[]⟩],r.no⟩
 | 3=>⟨uS,keyOf r,[nums.getD (zk r.val 4) ⟨#[]⟩],r.no⟩
 | 4=>⟨vR,keyOf r,[Zk.getD (zk r.val 3) ⟨#[]⟩],r.no⟩
 | _=>Za
def Qk(r:zl):Bool:=decide ((xm r).size≠0)
def stK(r:zl):zw:=⟨uw r,(decide (zk r.nt 16=2),qg r.who),(decide (zk r.nt 16=3),qg r.act),(decide (zk r.nt 16=1),qg r.on),if Qk r then [yJ r] else []⟩
def XA(l:List zl):List zl:=if l.length=0 then [xu] else l.take 4
def qU(l:List zl):List zw:=(XA l).map stK
structure YM (c:zJ):Prop where
 op:∃k,k<5/\c.op=opN k
 key:zO c.key=true
 some:0<c.vals.length->zX c.op (some (.list (c.vals.map .str)))=0/\qI c.op (some (.list (c.vals.map .str)))=c.vals
 none:c.vals.length=0->zX c.op none=0/\qI c.op none=[]
theorem MR:∀k,k<5->kw (some (.str (opN k)))=some k:=by decide +kernel
theorem nC{k:Nat}(h:k<5):kw (some (.str (opN k)))=some k:=MR k h
theorem Ve{ms:List (BA×V)}{c:zJ}(b:YM c)(x:Option V)(i:zX c.op x=0/\qI c.op x=c.vals)(d:zM ms [bOp,zm,zo,bNo]=true)(e:zf ms bOp=some (.str c.op))(f:zf ms zm=some (.str c.key))(g:zf ms zo=x)(j:zf ms bNo=if c.no then some (.word true) else none):yx (.obj ms)=c/\condC (.obj ms)=0:=by
 obtain⟨k,h,a⟩:=b.op
 have m:qo zO (some (.str c.key))=c.key:=by
  show (if zO c.key then c.key else ⟨#[]⟩)=c.key
  rw[b.key];rfl
 have l:zQ zO (some (.str c.key))=0:=Zf b.key
 have hb:uB (zf ms bNo)=c.no/\yP (zf ms bNo)=false:=by
  rw[j]
  cases c.no<;>exact⟨rfl,rfl⟩
 constructor
 ·unfold yx;simp only;rw[if_pos d,e,a,nC h];simp only;rw[f,g,m,hb.1,<- a,i.2]
 ·rw[Vb,if_pos d,e,a,nC h];simp only;rw[f,g,hb.2,<- a,i.1,l]
  rfl
theorem ed{c:zJ}(a:YM c):yx (cdV c)=c/\condC (cdV c)=0:=by
 unfold cdV YG Xx
 by_cases hv:0<c.vals.length
 ·rw[if_pos hv];refine Ve a (some (.list (c.vals.map .str))) (a.some hv) ?_ ?_ ?_ ?_ ?_
  all_goals (cases c.no<;>kernel_rfl)
 ·rw[if_neg hv];have b:c.vals.length=0:=by omega
  refine Ve a none ⟨(a.none b).1,(a.none b).2.trans (List.length_eq_zero_iff.1 b).symm⟩ ?_ ?_ ?_ ?_ ?_
  all_goals (cases c.no<;>kernel_rfl)
def YN(c:Bool×List BA):Prop:=1<=c.2.length/\c.2.length<=10/\∀p ∈ c.2,xg p=true
theorem XZ{c:Bool×List BA}(h:YN c):chS (some (chV c))=c/\chC (some (chV c))=0:=by
 have f:=lq c.2;have b:=ZL (c:=xC) (l:=c.2) 0 h.1 h.2.1 (λs a=>Jv (h.2.2 s a));have a:=eu (c:=c) 0 h.1 h.2.1;rw[f] at a b;refine⟨a,?_⟩;unfold chV
 cases c.1 with
 | true=>
  have d:zM [(zS,V.list (c.2.map .str))] [zS]=true:=by kernel_rfl
  have e:zf [(zS,V.list (c.2.map .str))] zS=some (.list (c.2.map .str)):=by kernel_rfl
  simp only[if_true,chC];rw[if_pos d,e];exact b
 | false=>exact b
structure Ui (s:zw):Prop where
 eff:xL s.eff=true
 who:YN s.who
 act:YN s.act
 on:YN s.on
 few:s.ifs.length<=5
 ifs:∀c ∈ s.ifs,YM c
theorem V3{ms:List (BA×V)}{s:zw}(i:Ui s)(w a o:V)(x:Option V)(k:chS (some w)=s.who/\chC (some w)=0)(h:chS (some a)=s.act/\chC (some a)=0)(j:chS (some o)=s.on/\chC (some o)=0)(l:ZE x=s.ifs/\yz x=0)
  (b:zM ms [zN,zT,bDo,bOn,bIf]=true)(c:zf ms zN=some (.str s.eff))(d:zf ms zT=some w)(e:zf ms bDo=some a)(f:zf ms bOn=some o)(g:zf ms bIf=x):xk (.obj ms)=s/\qN (.obj ms)=0:=by
 have m:qo xL (some (.str s.eff))=s.eff:=by
  show (if xL s.eff then s.eff else ⟨#[]⟩)=s.eff
  rw[i.eff];rfl
 constructor
 ·unfold xk;simp only;rw[if_pos b,c,d,e,f,g,m,k.1,h.1,j.1,l.1]
 ·unfold qN;simp only;rw[if_pos b,c,d,e,f,g,Zf i.eff,k.2,h.2,j.2,l.2]
  rfl
theorem pJ{s:zw}(a:Ui s):xk (stV s)=s/\qN (stV s)=0:=by
 have d:ZE (some (.list (s.ifs.map cdV)))=s.ifs/\yz (some (.list (s.ifs.map cdV)))=0:=by
  constructor
  ·show (if 5<(s.ifs.map cdV).length then [] else (s.ifs.map cdV).map yx)=s.ifs
   rw[List.length_map,if_neg (by have:=a.few;omega),List.map_map];exact (List.map_congr_left (g:=id) (λc b=>(ed (a.ifs c b)).1)).trans (by simp)
  ·show (if 5<(s.ifs.map cdV).length then 1 else zW ((s.ifs.map cdV).map condC))=0
   rw[List.length_map,if_neg (by have:=a.few;omega),List.map_map];refine Qj (λx e=>?_);obtain⟨c,b,rfl⟩:=List.mem_map.1 e;exact (ed (a.ifs c b)).2
 unfold stV Yf
 by_cases hv:0<s.ifs.length
 ·rw[if_pos hv];exact V3 a _ _ _ (some (.list (s.ifs.map cdV))) (XZ a.who) (XZ a.act) (XZ a.on) d (by kernel_rfl) (by kernel_rfl) (by kernel_rfl) (by kernel_rfl) (by kernel_rfl) (by kernel_rfl)
 ·rw[if_neg hv];have f:s.ifs=[]:=List.length_eq_zero_iff.1 (by omega);exact V3 a _ _ _ none (XZ a.who) (XZ a.act) (XZ a.on) ⟨by rw[f];rfl,rfl⟩ (by kernel_rfl) (by kernel_rfl) (by kernel_rfl) (by kernel_rfl) (by kernel_rfl) (by kernel_rfl)
end Kp
end Go.Proofs.YtdakgnaojakldaaGreatDoor
