/- P -/
import Derived.Test.YtdakgnaojakldabGreatDoorT37
import Derived.Test.YtdakgnaojakldabGreatDoorT32
set_option maxRecDepth 100000
namespace Go.Proofs.YtdakgnaojakldabGreatDoor
open Go.RowKit
structure qK where
 layer:Int
 name:BA
 rs:List Rd.jd
def isR(l:Int)(name:BA)(x:qK):Bool:=(x.layer==l)&&(x.name.toList==name.toList)
def nameAt(a:List qK)(i:Nat):BA:=match a[i]? with
 | some x=>x.name
 | none=>⟨#[]⟩
def YC(a:List qK)(l:Int)(i:Nat):Bool:=match a[i]? with
 | some x=>x.layer==l
 | none=>false
def vU(a:List qK)(l:Int)(ts:List Bool)(i:Nat):Bool:=YC a l i && !(ts.getD i false)
def ZO(a:List qK)(l:Int)(ts:List Bool):Nat->Option Nat
 | 0=>none
 | i+1=>if vU a l ts i then (match ZO a l ts i with
  | none=>some i
  | some b=>if qx (nameAt a i) (nameAt a b)<0 then some i else some b) else ZO a l ts i
theorem VH(c:List qK)(l:Int)(ts:List Bool):∀n,(ZO c l ts n=none->∀i,i<n->vU c l ts i=false)/\(∀b,ZO c l ts n=some b->b<n/\vU c l ts b=true/\∀i,i<n->vU c l ts i=true->¬qx (nameAt c i) (nameAt c b)<0)
 | 0=>⟨λ_ i d=>by omega,λb h=>by simp[ZO] at h⟩
 | n+1=>by
  obtain⟨j,k⟩:=VH c l ts n;rw[ZO]
  cases hc:vU c l ts n with
  | false=>
   simp only[Bool.false_eq_true,if_false];refine⟨λh i d=>?_,λb h=>?_⟩
   ·by_cases e:i=n
    ·subst e;exact hc
    ·exact j h i (by omega)
   ·obtain⟨o,g,f⟩:=k b h;refine⟨by omega,g,λi d a=>?_⟩
    by_cases e:i=n
    ·subst e;rw[hc] at a;cases a
    ·exact f i (by omega) a
  | true=>
   simp only[if_true]
   cases hb:ZO c l ts n with
   | none=>
    refine⟨(λh=>by cases h),λb h=>?_⟩;simp only[Option.some.injEq] at h;subst h;refine⟨by omega,hc,λi d a=>?_⟩
    by_cases e:i=n
    ·subst e;rw[Ql];omega
    ·rw[j hb i (by omega)] at a;cases a
   | some b0=>
    obtain⟨o,g,f⟩:=k b0 hb;simp only
    by_cases hlt:qx (nameAt c n) (nameAt c b0)<0
    ·rw[if_pos hlt];refine⟨(λh=>by cases h),λb h=>?_⟩;simp only[Option.some.injEq] at h;subst h;refine⟨by omega,hc,λi d a m=>?_⟩
     by_cases e:i=n
     ·subst e;rw[Ql] at m;omega
     ·exact f i (by omega) a (Yo m hlt)
    ·rw[if_neg hlt];refine⟨(λh=>by cases h),λb h=>?_⟩;simp only[Option.some.injEq] at h;subst h;refine⟨by omega,g,λi d a=>?_⟩
     by_cases e:i=n
     ·subst e;exact hlt
     ·exact f i (by omega) a
def JO(a:List qK)(b:List Nat):List qK:=b.filterMap λp=>a[p]?
structure Taken (ks:List qK) (l:Int) (ps:List Nat) (ts:List Bool):Prop where
 len:ts.length=ks.length
 nodup:ps.Nodup
 mem:∀i,i<ks.length->(ts.getD i false=true↔i ∈ ps)
 ok:∀p ∈ ps,p<ks.length/\YC ks l p=true
 sorted:ps.Pairwise λa b=>¬qx (nameAt ks b) (nameAt ks a)<0
 ahead:∀p ∈ ps,∀i,i<ks.length->vU ks l ts i=true->¬qx (nameAt ks i) (nameAt ks p)<0
theorem Taken.start(b:List qK)(l:Int):Taken b l [] (List.replicate b.length false):=
 ⟨by simp,List.nodup_nil,λi c=>by simp[List.getD_eq_getElem?_getD,c],λp a=>by simp at a,List.Pairwise.nil,λp a=>by simp at a⟩
theorem si{c:List qK}{l:Int}{ts:List Bool}{b i:Nat}(h:vU c l (ts.set b true) i=true):vU c l ts i=true/\i≠b\/vU c l ts i=true/\ts.length<=b:=by
 unfold vU at h |-;rw[Bool.and_eq_true] at h |-;obtain⟨d,a⟩:=h;rw[List.getD_eq_getElem?_getD,List.getElem?_set] at a
 by_cases e:b=i
 ·subst e
  by_cases hb:b<ts.length
  ·rw[if_pos rfl,if_pos hb] at a;simp at a
  ·exact .inr ⟨⟨d,by rw[List.getD_eq_getElem?_getD,List.getElem?_eq_none (by omega)];rfl⟩,by omega⟩
 ·rw[if_neg e] at a;exact .inl ⟨⟨d,by rw[List.getD_eq_getElem?_getD];exact a⟩,λx=>e x.symm⟩
theorem Taken.next{f:List qK}{l:Int}{n:List Nat}{ts:List Bool}(h:Taken f l n ts){b:Nat}(q:ZO f l ts f.length=some b):Taken f l (n++[b]) (ts.set b true):=by
 obtain⟨k,c,o⟩:=(VH f l ts f.length).2 b q
 have g:b ∉ n:=by
  intro s
  have:=(h.mem b k).2 s
  unfold vU at c;rw[this] at c;simp at c
 refine⟨by rw[List.length_set];exact h.len,?_,λi d=>?_,λp a=>?_,?_,λp a i d r=>?_⟩
 ·rw[List.nodup_append];exact⟨h.nodup,by simp,λx m y j=>by simp at j;subst j;intro e;subst e;exact g m⟩
 ·rw[List.getD_eq_getElem?_getD,List.getElem?_set]
  by_cases e:b=i
  ·subst e;rw[if_pos rfl,if_pos (by rw[h.len];exact d)]
   simp
  ·rw[if_neg e,<- List.getD_eq_getElem?_getD,h.mem i d];simp only[List.mem_append,List.mem_singleton];exact⟨λx => .inl x,λx=>x.elim id (λy=>absurd y.symm e)⟩
 ·rcases List.mem_append.1 a with a|a
  ·exact h.ok p a
  ·rw[List.mem_singleton] at a;subst a;refine⟨k,?_⟩;unfold vU at c;rw[Bool.and_eq_true] at c;exact c.1
 ·rw[List.pairwise_append];refine⟨h.sorted,by simp,λx m y j=>?_⟩;rw[List.mem_singleton] at j;subst j;exact h.ahead x m y k c
 ·rcases si r with ⟨hc1,_⟩|⟨hc1,_⟩
  ·rcases List.mem_append.1 a with a|a
   ·exact h.ahead p a i d hc1
   ·rw[List.mem_singleton] at a;subst a;exact o i d hc1
  ·rcases List.mem_append.1 a with a|a
   ·exact h.ahead p a i d hc1
   ·rw[List.mem_singleton] at a;subst a;exact o i d hc1
theorem Taken.small{a:List qK}{l:Int}{b:List Nat}{ts:List Bool}(h:Taken a l b ts):b.length<=a.length:=by
 have:=h.nodup.length_le_of_subset (l₂:=List.range a.length) (λp c=>List.mem_range.2 (h.ok p c).1)
 simpa using this
def K6(c:List qK)(l:Int)(out:List qK):Prop:=∃d:List Nat,d.Nodup/\(∀p,p ∈ d↔p<c.length/\YC c l p=true)/\(d.Pairwise λa b=>¬qx (nameAt c b) (nameAt c a)<0)/\out=JO c d
theorem Taken.done{a:List qK}{l:Int}{c:List Nat}{ts:List Bool}(h:Taken a l c ts)(e:ZO a l ts a.length=none):K6 a l (JO a c):=by
 have d:=(VH a l ts a.length).1 e;refine⟨c,h.nodup,λp=>⟨λb=>h.ok p b,λ⟨b,f⟩=>?_⟩,h.sorted,rfl⟩
 have:=d p b
 unfold vU at this;rw[f,Bool.true_and] at this;exact (h.mem p b).1 (by simpa using this)
theorem fu{a:List qK}{l:Int}{i:Nat}{x:qK}(h:a[i]?=some x):YC a l i=(x.layer==l):=by unfold YC;rw[h]
theorem fV{a:List qK}{i:Nat}{x:qK}(h:a[i]?=some x):nameAt a i=x.name:=by unfold nameAt;rw[h]
theorem ne_of_lt{a b:BA}(h:qx a b<0):a≠b:=λe=>by rw[e,Ql] at h;omega
theorem LD{L:List zl}(h:yC L){k:Nat}{y:zl}(b:L[k]?=some y):qy L y.1=k:=by
 have d:k<L.length:=(List.getElem?_eq_some_iff.1 b).1;refine KG (ltN y.1) L k (Nat.le_of_lt d) (λj x c a=>?_) (λj x c a=>?_)
 ·unfold ltN;rw[decide_eq_true_eq];exact h.at c a b
 ·unfold ltN;rw[decide_eq_false_iff_not]
  by_cases e:j=k
  ·subst e;rw[b] at a;injection a with a
   rw[<- a,Ql];omega
  ·have:=h.at (show k<j by omega) b a
   rw[V4] at this;omega
theorem Ur{L:List zl}(h:yC L){y:zl}(c:y ∈ L):zu L y.1=true/\L[qy L y.1]?=some y:=by
 obtain⟨k,a⟩:=List.getElem?_of_mem c;have b:=LD h a;unfold zu;rw[b,a];exact⟨by simp[Ql],rfl⟩
theorem UG{L:List zl}{name:BA}(h:zu L name=true):∃e,(name,e) ∈ L/\L[qy L name]?=some (name,e):=by
 unfold zu at h
 split at h
 ·rename_i x c;have d:x.1=name:=V5 (by simpa using h);obtain⟨a,b⟩:=x;simp only at d;subst d;exact⟨b,List.mem_of_getElem? c,c⟩
 ·cases h
theorem NZ{L:List zl}{p:Nat}{x:zl}(h:L[p]?=some x):L=L.take p++x::L.drop (p+1):=by
 obtain⟨a,rfl⟩:=List.getElem?_eq_some_iff.1 h;rw[<- List.drop_eq_getElem_cons a,List.take_append_drop]
theorem GJ{L:List zl}(h:yC L){name:BA}{y:zl}:(y ∈ L.take (qy L name)++L.drop (if zu L name then qy L name+1 else qy L name))↔y ∈ L/\y.1≠name:=by
 cases hh:zu L name with
 | true=>
  obtain⟨g,f,b⟩:=UG hh;have d:=NZ b;rw[if_pos rfl]
  constructor
  ·intro a
   rcases List.mem_append.1 a with a|a
   ·exact⟨List.mem_of_mem_take a,ne_of_lt (VB a)⟩
   ·exact⟨List.mem_of_mem_drop a,Ne.symm (ne_of_lt (VG h (by rw[hh,if_pos rfl];exact a)))⟩
  ·rintro ⟨a,c⟩;rw[d] at a
   rcases List.mem_append.1 a with a|a
   ·exact List.mem_append_left _ a
   ·rcases List.mem_cons.1 a with rfl|a
    ·exact absurd rfl c
    ·exact List.mem_append_right _ a
 | false=>
  simp only[Bool.false_eq_true,if_false];rw[List.take_append_drop];refine⟨λa=>⟨a,λe=>?_⟩,λa=>a.1⟩
  have:=(Ur h a).1
  rw[e,hh] at this
  cases this
theorem YE{L:List zl}(h:yC L){name:BA}{b:List zD}{y:zl}:y ∈ yh L name b↔y=(name,b)\/(y ∈ L/\y.1≠name):=by
 rw[<- GJ h];unfold yh;simp only[List.mem_append,List.mem_singleton]
 constructor
 ·rintro ((a|a)|a)
  ·exact .inr (.inl a)
  ·exact .inl a
  ·exact .inr (.inr a)
 ·rintro (a|a|a)
  ·exact .inl (.inr a)
  ·exact .inl (.inl a)
  ·exact .inr a
theorem lV:∀(A B:List zl),yC A->yC B->(∀y,y ∈ A↔y ∈ B)->A=B
 | [],[],_,_,_=>rfl
 | [],b::B,_,_,h=>by have:=(h b).2 (by simp);simp at this
 | a::A,[],_,_,h=>by have:=(h a).1 (by simp);simp at this
 | a::A,b::B,hA,hB,h=>by
  have c:=List.pairwise_cons.1 hA;have d:=List.pairwise_cons.1 hB
  have e:a=b:=by
   have g:=(h a).1 (by simp);have i:=(h b).2 (by simp)
   rcases List.mem_cons.1 g with e|g
   ·exact e
   ·rcases List.mem_cons.1 i with e|i
    ·exact e.symm
    ·have p:=c.1 b i;have q:=d.1 a g
     have:=Yo p q
     rw[Ql] at this;omega
  subst e
  have k:=lV A B c.2 d.2 (λy=>by
   have j:=h y
   constructor
   ·intro f
    rcases List.mem_cons.1 (j.1 (by simp[f])) with e|e
    ·subst e
     have:=c.1 _ f
     rw[Ql] at this;omega
    ·exact e
   ·intro f
    rcases List.mem_cons.1 (j.2 (by simp[f])) with e|e
    ·subst e
     have:=d.1 _ f
     rw[Ql] at this;omega
    ·exact e)
  rw[k]
def Jk(x:qK):zl:=(x.name,x.rs.map Zv)
structure Agree (st:StO) (ks:List qK):Prop where
 sorted:∀i,i<4->yC (st i)
 mem:∀i,i<4->∀y,y ∈ st i↔∃x ∈ ks,x.layer=(i:Int)/\y=Jk x
 keys:ks.Pairwise λx y=>¬(x.layer=y.layer/\x.name=y.name)
 lay:∀x ∈ ks,∃i:Nat,i<4/\x.layer=(i:Int)
 ok:∀x ∈ ks,Ref.zM x.name=true/\x.rs.length<=10/\(∀r ∈ x.rs,Ref.Yc r)/\Al (x.rs.map Zv)=Ref.kR x.rs
theorem Agree.start:Agree qW []:=
 ⟨λ_ _=>List.Pairwise.nil,λi _ y=>by simp[qW],List.Pairwise.nil,λx a=>by simp at a,λx a=>by simp at a⟩
theorem eD{l:Int}{name:BA}{x:qK}:isR l name x=true↔x.layer=l/\x.name=name:=by
 unfold isR;rw[Bool.and_eq_true,beq_iff_eq,beq_iff_eq]
 constructor
 ·rintro ⟨b,a⟩;refine⟨b,?_⟩;rw[ByteArray.toList_eq,ByteArray.toList_eq] at a;exact ByteArray.ext (Array.toList_inj.1 a)
 ·rintro ⟨b,a⟩;exact⟨b,by rw[a]⟩
theorem Cr{a:List qK}{l:Int}{name:BA}{k:Nat}(h:a.findIdx? (isR l name)=some k):∃x,a[k]?=some x/\x.layer=l/\x.name=name:=by
 obtain⟨b,c,_⟩:=List.findIdx?_eq_some_iff_getElem.1 h;exact⟨_,List.getElem?_eq_getElem b,eD.1 c⟩
theorem Cq{a:List qK}{l:Int}{name:BA}(h:a.findIdx? (isR l name)=none):∀x ∈ a,¬(x.layer=l/\x.name=name):=by
 intro x b e
 have:=List.findIdx?_eq_none_iff.1 h x b
 rw[eD.2 e] at this
 cases this
theorem Agree.has{g:StO}{f:List qK}(h:Agree g f){i:Nat}(a:i<4){name:BA}:zu (g i) name=true↔∃k,f.findIdx? (isR (i:Int) name)=some k:=by
 constructor
 ·intro l;obtain⟨n,c,_⟩:=UG l;obtain⟨x,e,b,j⟩:=(h.mem i a _).1 c
  cases hf:f.findIdx? (isR (i:Int) name) with
  | some k=>exact⟨k,rfl⟩
  | none=>
   have d:x.name=name:=by
    have:=congrArg Prod.fst j
    exact this.symm
   exact absurd ⟨b,d⟩ (Cq hf x e)
 ·rintro ⟨k,m⟩;obtain⟨x,e,b,d⟩:=Cr m;have c:Jk x ∈ g i:=(h.mem i a _).2 ⟨x,List.mem_of_getElem? e,b,rfl⟩
  have:=(Ur (h.sorted i a) c).1
  rw[show (Jk x).1=x.name from rfl,d] at this
  exact this
theorem FI{c:List qK}(h:c.Pairwise λx y=>¬(x.layer=y.layer/\x.name=y.name)){a b:Nat}{x y:qK}(j:c[a]?=some x)(k:c[b]?=some y)(g:x.layer=y.layer)(i:x.name=y.name):a=b:=by
 obtain⟨d,rfl⟩:=List.getElem?_eq_some_iff.1 j;obtain⟨f,rfl⟩:=List.getElem?_eq_some_iff.1 k
 rcases Nat.lt_trichotomy a b with e|e|e
 ·exact absurd ⟨g,i⟩ (List.pairwise_iff_getElem.1 h a b d f e)
 ·exact e
 ·exact absurd ⟨g.symm,i.symm⟩ (List.pairwise_iff_getElem.1 h b a f d e)
theorem Agree.layer{s:StO}{o:List qK}(h:Agree s o){i:Nat}(r:i<4){out:List qK}(z:K6 o (i:Int) out):s i=out.map Jk:=by
 obtain⟨C,t,q,u,rfl⟩:=z
 have d:∀p ∈ C,∃x,o[p]?=some x/\x.layer=(i:Int):=by
  intro p j;obtain⟨k,l⟩:=(q p).1 j;refine⟨_,List.getElem?_eq_getElem k,?_⟩;rw[fu (List.getElem?_eq_getElem k)] at l
  simpa using l
 refine lV _ _ (h.sorted i r) ?_ (λy=>?_)
 ·show List.Pairwise _ _;unfold JO;rw[List.pairwise_map,List.pairwise_filterMap];refine List.Pairwise.imp_of_mem (λ{a b} v w m=>?_) (t.and u);intro x g y l;obtain⟨n,hle⟩:=m;rw[fV g,fV l] at hle;have E:=bq y.name x.name;show qx x.name y.name<0;rw[V4]
  have F:qx y.name x.name≠0:=λe=>by
   obtain⟨D,c,A⟩:=d a v;obtain⟨G,f,B⟩:=d b w;rw[g] at c;injection c with c;subst c
   rw[l] at f;injection f with f;subst f
   exact n (FI h.keys g l (A.trans B.symm) (V5 e).symm)
  omega
 ·rw[h.mem i r];unfold JO;simp only[List.mem_map,List.mem_filterMap]
  constructor
  ·rintro ⟨x,g,k,rfl⟩;obtain⟨p,j⟩:=List.getElem?_of_mem g;refine⟨x,⟨p,(q p).2 ⟨(List.getElem?_eq_some_iff.1 j).1,by rw[fu j];simpa using k⟩,j⟩,rfl⟩
  ·rintro ⟨x,⟨p,j,g⟩,rfl⟩;obtain⟨D,c,k⟩:=d p j;rw[g] at c;injection c with c;subst c
   exact⟨x,List.mem_of_getElem? g,k,rfl⟩
theorem dX{L:List zl}(h:yC L){m:BA}:zu L m=true↔∃a,(m,a) ∈ L:=by
 constructor
 ·intro c;obtain⟨a,b,_⟩:=UG c;exact⟨a,b⟩
 ·rintro ⟨a,d⟩;exact (Ur h d).1
theorem dZ{L:List zl}(h:yC L)(n m:BA)(a:List zD):zu (yh L n a) m=(decide (m=n)||zu L m):=by
 have d:=h.with n a
 rw[Bool.eq_iff_iff,dX d,Bool.or_eq_true,decide_eq_true_eq,dX h]
 constructor
 ·rintro ⟨c,b⟩
  rcases (YE h).1 b with e|⟨e,_⟩
  ·exact .inl (congrArg Prod.fst e)
  ·exact .inr ⟨c,e⟩
 ·rintro (rfl|⟨c,b⟩)
  ·exact⟨a,(YE h).2 (.inl rfl)⟩
  ·by_cases e:m=n
   ·subst e;exact⟨a,(YE h).2 (.inl rfl)⟩
   ·exact⟨c,(YE h).2 (.inr ⟨b,e⟩)⟩
theorem nH(L:List zl)(n:BA)(a:List zD):(yh L n a).length=if zu L n then L.length else L.length+1:=by
 have b:=U3 L n;unfold yh;simp only[List.length_append,List.length_take,List.length_drop,List.length_singleton]
 cases hh:zu L n with
 | true=>
  have:=Jv hh
  simp only[if_true];omega
 | false=>
  simp only[Bool.false_eq_true,if_false];omega
namespace Kp
structure zY where
 layer:Int
 name:Int
 rules:List zg
def zY.lay(p:zY):Nat:=zk p.layer 4
def zY.num(p:zY):Nat:=zk p.name 6
def qi(k:Nat):BA:=QV.getD k ⟨#[]⟩
def zY.nam(p:zY):BA:=qi p.num
def ja(a:StO)(p:zY):StO:=y9 a (p.lay:Int) p.nam (xh p.rules)
def jl(l:List zY)(n:Nat):StO:=(l.take n).foldl ja qW
def ui(l:List zY):StO:=l.foldl ja qW
theorem XD(p:zY):p.lay<4:=qO _ 4 (by decide)
theorem Q7(p:zY):p.num<6:=qO _ 6 (by decide)
theorem GY{k:Nat}(h:k<6):Ref.zM (qi k)=true:=Ak k h
theorem GX:∀j,j<6->∀k,k<6->qi j=qi k->j=k:=by decide +kernel
theorem GZ:∀k,k<6->(qi k).size<=12:=by decide
theorem LB{i k:Nat}(d:i<4)(c:k<6):kQ (i:Int) (qi k)=0:=by
 unfold kQ Qq;have a:decide ((0:Int)<=(i:Int))=true:=decide_eq_true (by omega);have b:decide ((i:Int)<4)=true:=decide_eq_true (by omega);rw[a,b,GY c]
 rfl
theorem Xb(a:StO){i k:Nat}(c:i<4)(d:k<6)(text:BA)(b:Rd.yU text=(0,0)) :
  kS a (i:Int) (qi k) text=(if zu (a i) (qi k)||decide ((a i).length<4) then (0,0) else (10,0)) /\
  y9 a (i:Int) (qi k) text=(if zu (a i) (qi k)||decide ((a i).length<4) then upd a i (yh (a i) (qi k) (jP text)) else a):=by
 have e:=LB c d;unfold kS y9 YN;simp only[Int.toNat_natCast];rw[e,b];simp only[if_true,decide_true,Bool.true_and,and_self]
def ZB(a:StO):Prop:=∀i,i<4->QJ (a i)
def Qd(a:StO):Prop:=∀i,i<4->∀x ∈ a i,(∃k,k<6/\x.1=qi k)/\∃l:List zg,x.2=Qn l
theorem Bf:ZB qW:=λi _=>⟨List.Pairwise.nil,by simp[qW],λx a=>by simp[qW] at a⟩
theorem Bg:Qd qW:=λi _ x a=>by simp[qW] at a
theorem QD(a:StO)(i:Nat)(L:List zl):upd a i L i=L:=by unfold upd;rw[if_pos rfl]
theorem X0(a:StO){i j:Nat}(h:j≠i)(L:List zl):upd a i L j=a j:=by unfold upd;rw[if_neg h]
theorem LG{a:StO}(d:ZB a)(f:Qd a){i k:Nat}(m:i<4)(h:k<6){text:BA}(g:Rd.yU text=(0,0))(n:∃l:List zg,jP text=Qn l):ZB (y9 a (i:Int) (qi k) text)/\Qd (y9 a (i:Int) (qi k) text):=by
 rw[(Xb a m h text g).2]
 cases hb:zu (a i) (qi k)||decide ((a i).length<4) with
 | false=>exact⟨d,f⟩
 | true=>
  simp only[if_true]
  constructor
  ·intro j b
   by_cases e:j=i
   ·subst e;rw[QD];exact (d j b).with hb (ni text (by rw[g]))
   ·rw[X0 a e];exact d j b
  ·intro j b x c
   by_cases e:j=i
   ·subst e;rw[QD] at c
    rcases (YE (d j b).1).1 c with rfl|⟨c,_⟩
    ·exact⟨⟨k,h,rfl⟩,n⟩
    ·exact f j b x c
   ·rw[X0 a e] at c;exact f j b x c
theorem mi{a:StO}(b:ZB a)(c:Qd a)(p:zY):ZB (ja a p)/\Qd (ja a p):=
 LG b c (XD p) (Q7 p) (Xa p.rules) ⟨p.rules,Vn p.rules⟩
theorem dF:∀(l:List zY) (a:StO),ZB a->Qd a->ZB (l.foldl ja a)/\Qd (l.foldl ja a)
 | [],_,hg,hm=>⟨hg,hm⟩
 | p::l,_,hg,hm=>dF l _ (mi hg hm p).1 (mi hg hm p).2
theorem IB(l:List zY)(n:Nat):ZB (jl l n)/\Qd (jl l n):=dF _ _ Bf Bg
theorem IC(l:List zY)(n:Nat)(h:n<l.length):jl l (n+1)=ja (jl l n) l[n]:=by
 unfold jl;rw[List.take_succ_eq_append_getElem h,List.foldl_append]
 rfl
theorem IA(l:List zY)(n:Nat)(h:l.length<=n):jl l n=ui l:=by
 unfold jl ui;rw[List.take_of_length_le h]
theorem Ot(a:StO)(p:zY)(i:Nat):(ja a p i).length=if i=p.lay/\zu (a p.lay) p.nam=false/\(a p.lay).length<4 then (a i).length+1 else (a i).length:=by
 unfold ja;show (y9 a (p.lay:Int) (qi p.num) (xh p.rules) i).length=_;rw[(Xb a (XD p) (Q7 p) _ (Xa p.rules)).2];unfold zY.nam
 by_cases hi:i=p.lay
 ·subst hi
  cases hh:zu (a p.lay) (qi p.num) with
  | true=>
   simp only[Bool.true_or,if_true];rw[QD,nH,hh,if_pos rfl,if_neg (by simp)]
  | false=>
   by_cases h4:(a p.lay).length<4
   ·rw[if_pos (by simp[h4]),QD,nH,hh,if_neg (by simp),if_pos ⟨rfl,rfl,h4⟩]
   ·rw[if_neg (by simp[h4]),if_neg (λh=>h4 h.2.2)]
 ·have b:¬(i=p.lay/\zu (a p.lay) (qi p.num)=false/\(a p.lay).length<4):=λh=>hi h.1;rw[if_neg b]
  cases zu (a p.lay) (qi p.num)||decide ((a p.lay).length<4) with
  | true=>simp only[if_true];rw[X0 a hi]
  | false=>rfl
theorem Oq{a:StO}(c:ZB a)(p:zY){i k:Nat}(d:i<4)(f:k<6):zu (ja a p i) (qi k)=(zu (a i) (qi k)||(decide (i=p.lay)&&decide (k=p.num)&&decide ((a p.lay).length<4))):=by
 unfold ja;show zu (y9 a (p.lay:Int) (qi p.num) (xh p.rules) i) (qi k)=_;rw[(Xb a (XD p) (Q7 p) _ (Xa p.rules)).2]
 by_cases e:i=p.lay
 ·have b:decide (qi k=qi p.num)=decide (k=p.num):=by
   by_cases ek:k=p.num
   ·rw[ek];simp
   ·rw[decide_eq_false ek,decide_eq_false (λh=>ek (GX k f _ (Q7 p) h))]
  subst e;rw[decide_eq_true rfl,Bool.true_and]
  cases hh:zu (a p.lay) (qi p.num) with
  | true=>
   simp only[Bool.true_or,if_true];rw[QD,dZ (c _ d).1,b]
   by_cases ek:k=p.num
   ·rw[ek,hh];simp
   ·rw[decide_eq_false ek];simp
  | false=>
   by_cases h4:(a p.lay).length<4
   ·rw[if_pos (by simp[h4]),QD,dZ (c _ d).1,b,decide_eq_true h4,Bool.and_true,Bool.or_comm]
   ·rw[if_neg (by simp[h4]),decide_eq_false h4];simp
 ·rw[decide_eq_false e];simp only[Bool.false_and,Bool.or_false]
  split
  ·rw[X0 a e]
  ·rfl
end Kp
end Go.Proofs.YtdakgnaojakldabGreatDoor
