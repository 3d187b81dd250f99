/- P -/
import Derived.Test.YtdakgnaojakldaaGreatDoorS37
set_option maxRecDepth 100000
namespace Go.Proofs.YtdakgnaojakldaaGreatDoor
open Go.RowKit
def iB(M:Nat->Prop)(v:Value):Nat->Prop:=λb=>M b\/v.ownBlock=some b
theorem Zz.same{M:Nat->Prop}{W:World}{c:Nat}{a:Value}{f:List zG}(h:Zz M W c a f):Zz (iB M a) W c a f:=by
 obtain⟨xs,i,j⟩:=h.rows;have k:∀b,iB M a b->M b\/W.heap.size<=b:=λb hb=>hb.elim .inl (λe => .inl (h.own b e).1);exact⟨.inl h.mine,h.cell,⟨xs,i,j.more k⟩,λg d=>⟨.inl (h.own g d).1,(h.own g d).2⟩⟩
theorem qM.set{M:Nat->Prop}{W:World}{xs:List Value}{g:List zG}(h:qM M W xs g){k:Nat}(r:k<g.length){d:zG}{b:Option Addr}{f c:Nat}(hd:jD M W (.slice b f c) d.rs):qM M W (((xs.set (k*3) (.int .i64 d.layer)).set (k*3+1) (.string d.name)).set (k*3+2) (.slice b f c)) (g.set k d):=by
 have s:=h.1;refine⟨by simp[s],λj x a=>?_⟩;rw[List.getElem?_set] at a
 by_cases e:k=j
 ·subst e;rw[if_pos rfl,if_pos r] at a;injection a with a
  subst a;refine⟨b,f,c,?_,?_,?_,hd⟩
  ·rw[List.getElem?_set,if_neg (by omega),List.getElem?_set,if_neg (by omega),List.getElem?_set,if_pos rfl,if_pos (by omega)]
  ·rw[List.getElem?_set,if_neg (by omega),List.getElem?_set,if_pos rfl,if_pos (by rw[List.length_set];omega)]
  ·rw[List.getElem?_set,if_pos rfl,if_pos (by rw[List.length_set,List.length_set];omega)]
 ·rw[if_neg e] at a;obtain⟨i,m,l,n,o,p,q⟩:=h.2 j x a;refine⟨i,m,l,?_,?_,?_,q⟩
  ·rw[List.getElem?_set,if_neg (by omega),List.getElem?_set,if_neg (by omega),List.getElem?_set,if_neg (by omega)];exact n
  ·rw[List.getElem?_set,if_neg (by omega),List.getElem?_set,if_neg (by omega),List.getElem?_set,if_neg (by omega)];exact o
  ·rw[List.getElem?_set,if_neg (by omega),List.getElem?_set,if_neg (by omega),List.getElem?_set,if_neg (by omega)];exact p
theorem ne_of_lt{a b:BY}(h:qh a b<0):a≠b:=λe=>by rw[e,ZH] at h;omega
theorem FH{L:List zm}(h:yJ L){k:Nat}{y:zm}(b:L[k]?=some y):qF L y.1=k:=by
 have d:k<L.length:=(List.getElem?_eq_some_iff.1 b).1;refine Uu (ltN y.1) L k (Nat.le_of_lt d) (λj x c a=>?_) (λj x c a=>?_)
 ·unfold ltN;rw[decide_eq_true_eq];exact h.at c a b
 ·unfold ltN;rw[decide_eq_false_iff_not]
  by_cases e:j=k
  ·subst e;rw[b] at a;injection a with a
   rw[<- a,ZH];omega
  ·have:=h.at (show k<j by omega) b a
   rw[JZ] at this;omega
theorem aQ{L:List zm}(h:yJ L){y:zm}(c:y ∈ L):zt L y.1=true/\L[qF L y.1]?=some y:=by
 obtain⟨k,a⟩:=List.getElem?_of_mem c;have b:=FH h a;unfold zt;rw[b,a];exact⟨by simp[ZH],rfl⟩
theorem bU{L:List zm}{name:BY}(h:zt L name=true):∃e,(name,e) ∈ L/\L[qF L name]?=some (name,e):=by
 unfold zt at h
 split at h
 ·rename_i x c;have d:x.1=name:=J2 (by simpa using h);obtain⟨a,b⟩:=x;simp only at d;subst d;exact⟨b,List.mem_of_getElem? c,c⟩
 ·cases h
theorem Iu{L:List zm}{p:Nat}{x:zm}(h:L[p]?=some x):L=L.take p++x::L.drop (p+1):=by
 obtain⟨a,rfl⟩:=List.getElem?_eq_some_iff.1 h;rw[<- List.drop_eq_getElem_cons a,List.take_append_drop]
theorem Dz{L:List zm}(h:yJ L){name:BY}{y:zm}:(y ∈ L.take (qF L name)++L.drop (if zt L name then qF L name+1 else qF L name))↔y ∈ L/\y.1≠name:=by
 cases hh:zt L name with
 | true=>
  obtain⟨g,f,b⟩:=bU hh;have d:=Iu b;rw[if_pos rfl]
  constructor
  ·intro a
   rcases List.mem_append.1 a with a|a
   ·exact⟨List.mem_of_mem_take a,ne_of_lt (JD a)⟩
   ·exact⟨List.mem_of_mem_drop a,Ne.symm (ne_of_lt (JJ h (by rw[hh,if_pos rfl];exact a)))⟩
  ·rintro ⟨a,c⟩;rw[d] at a
   rcases List.mem_append.1 a with a|a
   ·exact List.mem_append_left _ a
   ·rcases List.mem_cons.1 a with rfl|a
    ·exact absurd rfl c
    ·exact List.mem_append_right _ a
 | false=>
  simp only[Bool.false_eq_true,if_false];rw[List.take_append_drop];refine⟨λa=>⟨a,λe=>?_⟩,λa=>a.1⟩
  have:=(aQ h a).1
  rw[e,hh] at this
  cases this
theorem VG{L:List zm}(h:yJ L){name:BY}{b:List zz}{y:zm}:y ∈ yQ L name b↔y=(name,b)\/(y ∈ L/\y.1≠name):=by
 rw[<- Dz h];unfold yQ;simp only[List.mem_append,List.mem_singleton]
 constructor
 ·rintro ((a|a)|a)
  ·exact .inr (.inl a)
  ·exact .inl a
  ·exact .inr (.inr a)
 ·rintro (a|a|a)
  ·exact .inl (.inr a)
  ·exact .inl (.inl a)
  ·exact .inr a
theorem gG:∀(A B:List zm),yJ A->yJ B->(∀y,y ∈ A↔y ∈ B)->A=B
 | [],[],_,_,_=>rfl
 | [],b::B,_,_,h=>by have:=(h b).2 (by simp);simp at this
 | a::A,[],_,_,h=>by have:=(h a).1 (by simp);simp at this
 | a::A,b::B,hA,hB,h=>by
  have c:=List.pairwise_cons.1 hA;have d:=List.pairwise_cons.1 hB
  have e:a=b:=by
   have g:=(h a).1 (by simp);have i:=(h b).2 (by simp)
   rcases List.mem_cons.1 g with e|g
   ·exact e
   ·rcases List.mem_cons.1 i with e|i
    ·exact e.symm
    ·have p:=c.1 b i;have q:=d.1 a g
     have:=XH p q
     rw[ZH] at this;omega
  subst e
  have k:=gG A B c.2 d.2 (λy=>by
   have j:=h y
   constructor
   ·intro f
    rcases List.mem_cons.1 (j.1 (by simp[f])) with e|e
    ·subst e
     have:=c.1 _ f
     rw[ZH] at this;omega
    ·exact e
   ·intro f
    rcases List.mem_cons.1 (j.2 (by simp[f])) with e|e
    ·subst e
     have:=d.1 _ f
     rw[ZH] at this;omega
    ·exact e)
  rw[k]
def ZL(x:zG):zm:=(x.name,x.rs.map yP)
structure Agree (st:StO) (ks:List zG):Prop where
 sorted:∀i,i<4->yJ (st i)
 mem:∀i,i<4->∀y,y ∈ st i↔∃x ∈ ks,x.layer=(i:Int)/\y=ZL x
 keys:ks.Pairwise λx y=>¬(x.layer=y.layer/\x.name=y.name)
 lay:∀x ∈ ks,∃i:Nat,i<4/\x.layer=(i:Int)
 ok:∀x ∈ ks,Ref.zH x.name=true/\x.rs.length<=10/\(∀r ∈ x.rs,Ref.QN r)/\YI (x.rs.map yP)=Ref.Qv x.rs
theorem Agree.start:Agree qI []:=
 ⟨λ_ _=>List.Pairwise.nil,λi _ y=>by simp[qI],List.Pairwise.nil,λx a=>by simp at a,λx a=>by simp at a⟩
theorem aV{l:Int}{name:BY}{x:zG}:isR l name x=true↔x.layer=l/\x.name=name:=by
 unfold isR;rw[Bool.and_eq_true,beq_iff_eq,beq_iff_eq]
 constructor
 ·rintro ⟨b,a⟩;refine⟨b,?_⟩;rw[ByteArray.toList_eq,ByteArray.toList_eq] at a;exact ByteArray.ext (Array.toList_inj.1 a)
 ·rintro ⟨b,a⟩;exact⟨b,by rw[a]⟩
theorem ax{a:List zG}{l:Int}{name:BY}{k:Nat}(h:a.findIdx? (isR l name)=some k):∃x,a[k]?=some x/\x.layer=l/\x.name=name:=by
 obtain⟨b,c,_⟩:=List.findIdx?_eq_some_iff_getElem.1 h;exact⟨_,List.getElem?_eq_getElem b,aV.1 c⟩
theorem au{a:List zG}{l:Int}{name:BY}(h:a.findIdx? (isR l name)=none):∀x ∈ a,¬(x.layer=l/\x.name=name):=by
 intro x b e
 have:=List.findIdx?_eq_none_iff.1 h x b
 rw[aV.2 e] at this
 cases this
theorem Agree.has{f:StO}{e:List zG}(h:Agree f e){i:Nat}(hi:i<4){name:BY}:zt (f i) name=true↔∃k,e.findIdx? (isR (i:Int) name)=some k:=by
 constructor
 ·intro j;obtain⟨m,b,_⟩:=bU j;obtain⟨x,d,a,g⟩:=(h.mem i hi _).1 b
  cases hf:e.findIdx? (isR (i:Int) name) with
  | some k=>exact⟨k,rfl⟩
  | none=>
   have c:x.name=name:=by
    have:=congrArg Prod.fst g
    exact this.symm
   exact absurd ⟨a,c⟩ (au hf x d)
 ·rintro ⟨k,l⟩;obtain⟨x,d,a,c⟩:=ax l;have b:ZL x ∈ f i:=(h.mem i hi _).2 ⟨x,List.mem_of_getElem? d,a,rfl⟩
  have:=(aQ (h.sorted i hi) b).1
  rw[show (ZL x).1=x.name from rfl,c] at this
  exact this
theorem YV{c:List zG}(h:c.Pairwise λx y=>¬(x.layer=y.layer/\x.name=y.name)){a b:Nat}{x y:zG}(i:c[a]?=some x)(j:c[b]?=some y)(f:x.layer=y.layer)(g:x.name=y.name):a=b:=by
 obtain⟨d,rfl⟩:=List.getElem?_eq_some_iff.1 i;obtain⟨hb,rfl⟩:=List.getElem?_eq_some_iff.1 j
 rcases Nat.lt_trichotomy a b with e|e|e
 ·exact absurd ⟨f,g⟩ (List.pairwise_iff_getElem.1 h a b d hb e)
 ·exact e
 ·exact absurd ⟨f.symm,g.symm⟩ (List.pairwise_iff_getElem.1 h b a hb d e)
theorem Agree.layer{r:StO}{o:List zG}(h:Agree r o){i:Nat}(hi:i<4){out:List zG}(v:UM o (i:Int) out):r i=out.map ZL:=by
 obtain⟨A,s,q,t,rfl⟩:=v
 have d:∀p ∈ A,∃x,o[p]?=some x/\x.layer=(i:Int):=by
  intro p j;obtain⟨k,l⟩:=(q p).1 j;refine⟨_,List.getElem?_eq_getElem k,?_⟩;rw[bz (List.getElem?_eq_getElem k)] at l
  simpa using l
 refine gG _ _ (h.sorted i hi) ?_ (λy=>?_)
 ·show List.Pairwise _ _;unfold X6;rw[List.pairwise_map,List.pairwise_filterMap];refine List.Pairwise.imp_of_mem (λ{a b} u hb m=>?_) (s.and t);intro x g y l;obtain⟨n,hle⟩:=m;rw[cz g,cz l] at hle;have C:=Ku y.name x.name;show qh x.name y.name<0;rw[JZ]
  have D:qh y.name x.name≠0:=λe=>by
   obtain⟨B,c,w⟩:=d a u;obtain⟨E,f,z⟩:=d b hb;rw[g] at c;injection c with c;subst c
   rw[l] at f;injection f with f;subst f
   exact n (YV h.keys g l (w.trans z.symm) (J2 e).symm)
  omega
 ·rw[h.mem i hi];unfold X6;simp only[List.mem_map,List.mem_filterMap]
  constructor
  ·rintro ⟨x,g,k,rfl⟩;obtain⟨p,j⟩:=List.getElem?_of_mem g;refine⟨x,⟨p,(q p).2 ⟨(List.getElem?_eq_some_iff.1 j).1,by rw[bz j];simpa using k⟩,j⟩,rfl⟩
  ·rintro ⟨x,⟨p,j,g⟩,rfl⟩;obtain⟨B,c,k⟩:=d p j;rw[g] at c;injection c with c;subst c
   exact⟨x,List.mem_of_getElem? g,k,rfl⟩
theorem Qu{c:List zG}{k:Nat}(f:k<c.length){d x:zG}:x ∈ c.set k d↔x=d\/∃j,j≠k/\c[j]?=some x:=by
 constructor
 ·intro g;obtain⟨j,a⟩:=List.getElem?_of_mem g;rw[List.getElem?_set] at a
  by_cases e:k=j
  ·rw[if_pos e,if_pos f] at a;injection a with a
   exact .inl a.symm
  ·rw[if_neg e] at a;exact .inr ⟨j,λx=>e x.symm,a⟩
 ·rintro (rfl|⟨j,b,a⟩)
  ·exact List.mem_of_getElem? (i:=k) (by rw[List.getElem?_set,if_pos rfl,if_pos f])
  ·exact List.mem_of_getElem? (i:=j) (by rw[List.getElem?_set,if_neg (λe=>b e.symm)];exact a)
theorem dm(text:BY)(c:(Rd.xV text).1=0):(jA text).length<=10/\(∀r ∈ jA text,Ref.QN r)/\YI ((jA text).map yP)=Ref.Qv (jA text)/\yF text=(jA text).map yP:=by
 obtain⟨b,d,e⟩:=gV text c;exact⟨d,λr a=>(b r a).2,(FE _ (λr a=>(b r a).1)).symm,e⟩
theorem Agree.set{w:StO}{r:List zG}(h:Agree w r){i:Nat}(hi:i<4){name text:BY}(C:Ref.zH name=true)(A:(Rd.xV text).1=0){k:Nat}(B:r.findIdx? (isR (i:Int) name)=some k):Agree (upd w i (yQ (w i) name (yF text))) (r.set k ⟨i,name,jA text⟩):=by
 obtain⟨E,F,G,z⟩:=dm text A;obtain⟨H,f,m,n⟩:=ax B;have c:k<r.length:=(List.getElem?_eq_some_iff.1 f).1;refine⟨λj o=>?_,λj o y=>?_,?_,λx g=>?_,λx g=>?_⟩
 ·unfold upd
  split
  ·exact (h.sorted i hi).with name _
  ·exact h.sorted j o
 ·unfold upd
  by_cases e:j=i
  ·subst e;rw[if_pos rfl,VG (h.sorted j o)]
   constructor
   ·rintro (rfl|⟨D,v⟩)
    ·exact⟨_,(Qu c).2 (.inl rfl),rfl,by unfold ZL;rw[z]⟩
    ·obtain⟨x,g,l,rfl⟩:=(h.mem j o _).1 D;obtain⟨p,d⟩:=List.getElem?_of_mem g;refine⟨x,(Qu c).2 (.inr ⟨p,λe=>?_,d⟩),l,rfl⟩;subst e;rw[f] at d;injection d with d
     subst d;exact v n
   ·rintro ⟨x,g,l,rfl⟩
    rcases (Qu c).1 g with rfl|⟨p,d,hpx⟩
    ·exact .inl (by unfold ZL;rw[z])
    ·refine .inr ⟨(h.mem j o _).2 ⟨x,List.mem_of_getElem? hpx,l,rfl⟩,λe=>d ?_⟩;exact YV h.keys hpx f (l.trans m.symm) (e.trans n.symm)
  ·rw[if_neg e,h.mem j o]
   constructor
   ·rintro ⟨x,g,l,rfl⟩;obtain⟨p,d⟩:=List.getElem?_of_mem g;refine⟨x,(Qu c).2 (.inr ⟨p,λq=>?_,d⟩),l,rfl⟩;subst q;rw[f] at d;injection d with d
    subst d;rw[m] at l;omega
   ·rintro ⟨x,g,l,rfl⟩
    rcases (Qu c).1 g with rfl|⟨p,d,hpx⟩
    ·simp only at l;omega
    ·exact⟨x,List.mem_of_getElem? hpx,l,rfl⟩
 ·rw[List.pairwise_iff_getElem];intro a b t hb u;rw[List.length_set] at t hb;rw[List.getElem_set,List.getElem_set]
  by_cases ea:k=a
  ·subst ea;rw[if_pos rfl,if_neg (by omega)];rintro ⟨s,q⟩
   have:=YV h.keys f (List.getElem?_eq_getElem hb) (m.trans s) (n.trans q)
   omega
  ·rw[if_neg ea]
   by_cases eb:k=b
   ·subst eb;rw[if_pos rfl];rintro ⟨s,q⟩
    have:=YV h.keys (List.getElem?_eq_getElem t) f (s.trans m.symm) (q.trans n.symm)
    omega
   ·rw[if_neg eb];exact List.pairwise_iff_getElem.1 h.keys a b t hb u
 ·rcases (Qu c).1 g with rfl|⟨p,_,hpx⟩
  ·exact⟨i,hi,rfl⟩
  ·exact h.lay x (List.mem_of_getElem? hpx)
 ·rcases (Qu c).1 g with rfl|⟨p,_,hpx⟩
  ·exact⟨C,E,F,G⟩
  ·exact h.ok x (List.mem_of_getElem? hpx)
theorem Agree.add{k:StO}{g:List zG}(h:Agree k g){i:Nat}(hi:i<4){name text:BY}(o:Ref.zH name=true)(m:(Rd.xV text).1=0)(n:g.findIdx? (isR (i:Int) name)=none):Agree (upd k i (yQ (k i) name (yF text))) (g++[⟨i,name,jA text⟩]):=by
 obtain⟨q,r,s,l⟩:=dm text m;have d:=au n;refine⟨λj c=>?_,λj c y=>?_,?_,λx a=>?_,λx a=>?_⟩
 ·unfold upd
  split
  ·exact (h.sorted i hi).with name _
  ·exact h.sorted j c
 ·unfold upd
  by_cases e:j=i
  ·subst e;rw[if_pos rfl,VG (h.sorted j c)]
   constructor
   ·rintro (rfl|⟨f,p⟩)
    ·exact⟨⟨(j:Int),name,jA text⟩,List.mem_append_right _ (by simp),rfl,by unfold ZL;rw[l]⟩
    ·obtain⟨x,a,b,rfl⟩:=(h.mem j c _).1 f;exact⟨x,List.mem_append_left _ a,b,rfl⟩
   ·rintro ⟨x,a,b,rfl⟩
    rcases List.mem_append.1 a with a|a
    ·exact .inr ⟨(h.mem j c _).2 ⟨x,a,b,rfl⟩,λe=>d x a ⟨b,e⟩⟩
    ·rw[List.mem_singleton] at a;subst a;exact .inl (by unfold ZL;rw[l])
  ·rw[if_neg e,h.mem j c]
   constructor
   ·rintro ⟨x,a,b,rfl⟩;exact⟨x,List.mem_append_left _ a,b,rfl⟩
   ·rintro ⟨x,a,b,rfl⟩
    rcases List.mem_append.1 a with a|a
    ·exact⟨x,a,b,rfl⟩
    ·rw[List.mem_singleton] at a;subst a;simp only at b;omega
 ·rw[List.pairwise_append];refine⟨h.keys,by simp,λx a y f=>?_⟩;rw[List.mem_singleton] at f;subst f;exact d x a
 ·rcases List.mem_append.1 a with a|a
  ·exact h.lay x a
  ·rw[List.mem_singleton] at a;subst a;exact⟨i,hi,rfl⟩
 ·rcases List.mem_append.1 a with a|a
  ·exact h.ok x a
  ·rw[List.mem_singleton] at a;subst a;exact⟨o,q,r,s⟩
theorem Agree.few{b:StO}{f:List zG}(h:Agree b f)(d:∀i,i<4->(b i).length<=4):f.length<=16:=by
 have g:(f.map λx=>(x.layer,x.name)).Nodup:=by
  rw[List.nodup_iff_pairwise_ne,List.pairwise_map];refine h.keys.imp (λj e=>j ?_);injection e with e1 e2
  exact⟨e1,e2⟩
 have c:(f.map λx=>(x.layer,x.name)) ⊆ ((b 0).map λy=>((0:Int),y.1))++((b 1).map λy=>((1:Int),y.1))++((b 2).map λy=>((2:Int),y.1))++((b 3).map λy=>((3:Int),y.1)):=by
  intro z n;obtain⟨x,l,rfl⟩:=List.mem_map.1 n;obtain⟨i,hi,k⟩:=h.lay x l;have m:=(h.mem i hi _).2 ⟨x,l,k,rfl⟩;have a:(x.layer,x.name) ∈ (b i).map λy=>((i:Int),y.1):=List.mem_map.2 ⟨_,m,by rw[k];rfl⟩;simp only[List.mem_append]
  rcases lt4 hi with rfl|rfl|rfl|rfl
  ·exact .inl (.inl (.inl a))
  ·exact .inl (.inl (.inr a))
  ·exact .inl (.inr a)
  ·exact .inr a
 have:=g.length_le_of_subset c
 simp only[List.length_map,List.length_append] at this;have o:=d 0 (by omega);have p:=d 1 (by omega);have q:=d 2 (by omega);have r:=d 3 (by omega);omega
end Go.Proofs.YtdakgnaojakldaaGreatDoor
