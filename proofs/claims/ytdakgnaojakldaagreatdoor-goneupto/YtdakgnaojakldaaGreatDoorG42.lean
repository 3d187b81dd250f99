/- P -/
import Derived.Test.YtdakgnaojakldaaGreatDoorG41
set_option maxRecDepth 100000
namespace Go.Proofs.YtdakgnaojakldaaGreatDoor
open Go.RowKit
def sF(M:Nat->Prop)(v:Value):Nat->Prop:=λb=>M b\/v.ownBlock=some b
theorem Qy.same{M:Nat->Prop}{W:World}{a:Nat}{lv:Value}{d:List zL}(h:Qy M W a lv d):Qy (sF M lv) W a lv d:=by
 obtain⟨xs,f,i⟩:=h.rows;have j:∀b,sF M lv b->M b\/W.heap.size<=b:=λb hb=>hb.elim .inl (λe => .inl (h.own b e).1);exact⟨.inl h.mine,h.cell,⟨xs,f,i.more j⟩,λg c=>⟨.inl (h.own g c).1,(h.own g c).2⟩⟩
theorem xz.set{M:Nat->Prop}{W:World}{xs:List Value}{g:List zL}(h:xz M W xs g){k:Nat}(r:k<g.length){d:zL}{b:Option Addr}{f c:Nat}(hd:vM M W (.slice b f c) d.rs):xz M W (((xs.set (k*3) (.int .i64 d.layer)).set (k*3+1) (.string d.name)).set (k*3+2) (.slice b f c)) (g.set k d):=by
 have s:=h.1;refine⟨by simp[s],λj x a=>?_⟩;rw[List.getElem?_set] at a
 by_cases e:k=j
 ·subst e;rw[if_pos rfl,if_pos r] at a;injection a with a
  subst a;refine⟨b,f,c,?_,?_,?_,hd⟩
  ·rw[List.getElem?_set,if_neg (by omega),List.getElem?_set,if_neg (by omega),List.getElem?_set,if_pos rfl,if_pos (by omega)]
  ·rw[List.getElem?_set,if_neg (by omega),List.getElem?_set,if_pos rfl,if_pos (by rw[List.length_set];omega)]
  ·rw[List.getElem?_set,if_pos rfl,if_pos (by rw[List.length_set,List.length_set];omega)]
 ·rw[if_neg e] at a;obtain⟨i,m,l,n,o,p,q⟩:=h.2 j x a;refine⟨i,m,l,?_,?_,?_,q⟩
  ·rw[List.getElem?_set,if_neg (by omega),List.getElem?_set,if_neg (by omega),List.getElem?_set,if_neg (by omega)];exact n
  ·rw[List.getElem?_set,if_neg (by omega),List.getElem?_set,if_neg (by omega),List.getElem?_set,if_neg (by omega)];exact o
  ·rw[List.getElem?_set,if_neg (by omega),List.getElem?_set,if_neg (by omega),List.getElem?_set,if_neg (by omega)];exact p
theorem ne_of_lt{a b:BA}(h:qB a b<0):a≠b:=λe=>by rw[e,QG] at h;omega
theorem Oc{L:List zt}(h:xy L){k:Nat}{y:zt}(b:L[k]?=some y):qa L y.1=k:=by
 have d:k<L.length:=(List.getElem?_eq_some_iff.1 b).1;refine bM (ltN y.1) L k (Nat.le_of_lt d) (λj x c a=>?_) (λj x c a=>?_)
 ·unfold ltN;rw[decide_eq_true_eq];exact h.at c a b
 ·unfold ltN;rw[decide_eq_false_iff_not]
  by_cases e:j=k
  ·subst e;rw[b] at a;injection a with a
   rw[<- a,QG];omega
  ·have:=h.at (show k<j by omega) b a
   rw[UV] at this;omega
theorem Yd{L:List zt}(h:xy L){y:zt}(c:y ∈ L):zh L y.1=true/\L[qa L y.1]?=some y:=by
 obtain⟨k,a⟩:=List.getElem?_of_mem c;have b:=Oc h a;unfold zh;rw[b,a];exact⟨by simp[QG],rfl⟩
theorem VC{L:List zt}{name:BA}(h:zh L name=true):∃e,(name,e) ∈ L/\L[qa L name]?=some (name,e):=by
 unfold zh at h
 split at h
 ·rename_i x c;have d:x.1=name:=UW (by simpa using h);obtain⟨a,b⟩:=x;simp only at d;subst d;exact⟨b,List.mem_of_getElem? c,c⟩
 ·cases h
theorem Ry{L:List zt}{p:Nat}{x:zt}(h:L[p]?=some x):L=L.take p++x::L.drop (p+1):=by
 obtain⟨a,rfl⟩:=List.getElem?_eq_some_iff.1 h;rw[<- List.drop_eq_getElem_cons a,List.take_append_drop]
theorem lM{L:List zt}(h:xy L){name:BA}{y:zt}:(y ∈ L.take (qa L name)++L.drop (if zh L name then qa L name+1 else qa L name))↔y ∈ L/\y.1≠name:=by
 cases hh:zh L name with
 | true=>
  obtain⟨g,f,b⟩:=VC hh;have d:=Ry b;rw[if_pos rfl]
  constructor
  ·intro a
   rcases List.mem_append.1 a with a|a
   ·exact⟨List.mem_of_mem_take a,ne_of_lt (Ur a)⟩
   ·exact⟨List.mem_of_mem_drop a,Ne.symm (ne_of_lt (Uw h (by rw[hh,if_pos rfl];exact a)))⟩
  ·rintro ⟨a,c⟩;rw[d] at a
   rcases List.mem_append.1 a with a|a
   ·exact List.mem_append_left _ a
   ·rcases List.mem_cons.1 a with rfl|a
    ·exact absurd rfl c
    ·exact List.mem_append_right _ a
 | false=>
  simp only[Bool.false_eq_true,if_false];rw[List.take_append_drop];refine⟨λa=>⟨a,λe=>?_⟩,λa=>a.1⟩
  have:=(Yd h a).1
  rw[e,hh] at this
  cases this
theorem ZK{L:List zt}(h:xy L){name:BA}{b:List zw}{y:zt}:y ∈ qY L name b↔y=(name,b)\/(y ∈ L/\y.1≠name):=by
 rw[<- lM h];unfold qY;simp only[List.mem_append,List.mem_singleton]
 constructor
 ·rintro ((a|a)|a)
  ·exact .inr (.inl a)
  ·exact .inl a
  ·exact .inr (.inr a)
 ·rintro (a|a|a)
  ·exact .inl (.inr a)
  ·exact .inl (.inl a)
  ·exact .inr a
theorem lL{L:List zt}(h:xy L){name:BA}(a:zh L name=true){y:zt}:y ∈ vX L (qa L name)↔y ∈ L/\y.1≠name:=by
 rw[<- lM h,a,if_pos rfl]
 rfl
theorem VX:∀(A B:List zt),xy A->xy B->(∀y,y ∈ A↔y ∈ B)->A=B
 | [],[],_,_,_=>rfl
 | [],b::B,_,_,h=>by have:=(h b).2 (by simp);simp at this
 | a::A,[],_,_,h=>by have:=(h a).1 (by simp);simp at this
 | a::A,b::B,hA,hB,h=>by
  have c:=List.pairwise_cons.1 hA;have d:=List.pairwise_cons.1 hB
  have e:a=b:=by
   have g:=(h a).1 (by simp);have i:=(h b).2 (by simp)
   rcases List.mem_cons.1 g with e|g
   ·exact e
   ·rcases List.mem_cons.1 i with e|i
    ·exact e.symm
    ·have p:=c.1 b i;have q:=d.1 a g
     have:=YZ p q
     rw[QG] at this;omega
  subst e
  have k:=VX A B c.2 d.2 (λy=>by
   have j:=h y
   constructor
   ·intro f
    rcases List.mem_cons.1 (j.1 (by simp[f])) with e|e
    ·subst e
     have:=c.1 _ f
     rw[QG] at this;omega
    ·exact e
   ·intro f
    rcases List.mem_cons.1 (j.2 (by simp[f])) with e|e
    ·subst e
     have:=d.1 _ f
     rw[QG] at this;omega
    ·exact e)
  rw[k]
def QI(x:zL):zt:=(x.name,x.rs.map jI)
structure Agree (st:StO) (ks:List zL):Prop where
 sorted:∀i,i<4->xy (st i)
 mem:∀i,i<4->∀y,y ∈ st i↔∃x ∈ ks,x.layer=(i:Int)/\y=QI x
 keys:ks.Pairwise λx y=>¬(x.layer=y.layer/\x.name=y.name)
 lay:∀x ∈ ks,∃i:Nat,i<4/\x.layer=(i:Int)
 ok:∀x ∈ ks,Ref.zO x.name=true/\x.rs.length<=10/\(∀r ∈ x.rs,Ref.XU r)/\yA (x.rs.map jI)=Ref.vB x.rs
theorem Agree.start:Agree xe []:=
 ⟨λ_ _=>List.Pairwise.nil,λi _ y=>by simp[xe],List.Pairwise.nil,λx a=>by simp at a,λx a=>by simp at a⟩
theorem iG{l:Int}{name:BA}{x:zL}:isR l name x=true↔x.layer=l/\x.name=name:=by
 unfold isR;rw[Bool.and_eq_true,beq_iff_eq,beq_iff_eq]
 constructor
 ·rintro ⟨b,a⟩;refine⟨b,?_⟩;rw[ByteArray.toList_eq,ByteArray.toList_eq] at a;exact ByteArray.ext (Array.toList_inj.1 a)
 ·rintro ⟨b,a⟩;exact⟨b,by rw[a]⟩
theorem Ki{a:List zL}{l:Int}{name:BA}{k:Nat}(h:a.findIdx? (isR l name)=some k):∃x,a[k]?=some x/\x.layer=l/\x.name=name:=by
 obtain⟨b,c,_⟩:=List.findIdx?_eq_some_iff_getElem.1 h;exact⟨_,List.getElem?_eq_getElem b,iG.1 c⟩
theorem gU{a:List zL}{l:Int}{name:BA}(h:a.findIdx? (isR l name)=none):∀x ∈ a,¬(x.layer=l/\x.name=name):=by
 intro x b e
 have:=List.findIdx?_eq_none_iff.1 h x b
 rw[iG.2 e] at this
 cases this
theorem Agree.has{st:StO}{e:List zL}(h:Agree st e){i:Nat}(hi:i<4){name:BA}:zh (st i) name=true↔∃k,e.findIdx? (isR (i:Int) name)=some k:=by
 constructor
 ·intro g;obtain⟨l,b,_⟩:=VC g;obtain⟨x,d,a,f⟩:=(h.mem i hi _).1 b
  cases hf:e.findIdx? (isR (i:Int) name) with
  | some k=>exact⟨k,rfl⟩
  | none=>
   have c:x.name=name:=by
    have:=congrArg Prod.fst f
    exact this.symm
   exact absurd ⟨a,c⟩ (gU hf x d)
 ·rintro ⟨k,j⟩;obtain⟨x,d,a,c⟩:=Ki j;have b:QI x ∈ st i:=(h.mem i hi _).2 ⟨x,List.mem_of_getElem? d,a,rfl⟩
  have:=(Yd (h.sorted i hi) b).1
  rw[show (QI x).1=x.name from rfl,c] at this
  exact this
theorem Jf{c:List zL}(h:c.Pairwise λx y=>¬(x.layer=y.layer/\x.name=y.name)){a b:Nat}{x y:zL}(i:c[a]?=some x)(j:c[b]?=some y)(f:x.layer=y.layer)(g:x.name=y.name):a=b:=by
 obtain⟨d,rfl⟩:=List.getElem?_eq_some_iff.1 i;obtain⟨hb,rfl⟩:=List.getElem?_eq_some_iff.1 j
 rcases Nat.lt_trichotomy a b with e|e|e
 ·exact absurd ⟨f,g⟩ (List.pairwise_iff_getElem.1 h a b d hb e)
 ·exact e
 ·exact absurd ⟨f.symm,g.symm⟩ (List.pairwise_iff_getElem.1 h b a hb d e)
theorem Agree.layer{st:StO}{o:List zL}(h:Agree st o){i:Nat}(hi:i<4){out:List zL}(u:df o (i:Int) out):st i=out.map QI:=by
 obtain⟨z,r,q,s,rfl⟩:=u
 have d:∀p ∈ z,∃x,o[p]?=some x/\x.layer=(i:Int):=by
  intro p j;obtain⟨k,l⟩:=(q p).1 j;refine⟨_,List.getElem?_eq_getElem k,?_⟩;rw[iY (List.getElem?_eq_getElem k)] at l
  simpa using l
 refine VX _ _ (h.sorted i hi) ?_ (λy=>?_)
 ·show List.Pairwise _ _;unfold Js;rw[List.pairwise_map,List.pairwise_filterMap];refine List.Pairwise.imp_of_mem (λ{a b} t hb m=>?_) (r.and s);intro x g y l;obtain⟨n,hle⟩:=m;rw[lV g,lV l] at hle;have B:=eT y.name x.name;show qB x.name y.name<0;rw[UV]
  have C:qB y.name x.name≠0:=λe=>by
   obtain⟨A,c,v⟩:=d a t;obtain⟨D,f,w⟩:=d b hb;rw[g] at c;injection c with c;subst c
   rw[l] at f;injection f with f;subst f
   exact n (Jf h.keys g l (v.trans w.symm) (UW e).symm)
  omega
 ·rw[h.mem i hi];unfold Js;simp only[List.mem_map,List.mem_filterMap]
  constructor
  ·rintro ⟨x,g,k,rfl⟩;obtain⟨p,j⟩:=List.getElem?_of_mem g;refine⟨x,⟨p,(q p).2 ⟨(List.getElem?_eq_some_iff.1 j).1,by rw[iY j];simpa using k⟩,j⟩,rfl⟩
  ·rintro ⟨x,⟨p,j,g⟩,rfl⟩;obtain⟨A,c,k⟩:=d p j;rw[g] at c;injection c with c;subst c
   exact⟨x,List.mem_of_getElem? g,k,rfl⟩
theorem Xw{c:List zL}{k:Nat}(f:k<c.length){d x:zL}:x ∈ c.set k d↔x=d\/∃j,j≠k/\c[j]?=some x:=by
 constructor
 ·intro g;obtain⟨j,a⟩:=List.getElem?_of_mem g;rw[List.getElem?_set] at a
  by_cases e:k=j
  ·rw[if_pos e,if_pos f] at a;injection a with a
   exact .inl a.symm
  ·rw[if_neg e] at a;exact .inr ⟨j,λx=>e x.symm,a⟩
 ·rintro (rfl|⟨j,b,a⟩)
  ·exact List.mem_of_getElem? (i:=k) (by rw[List.getElem?_set,if_pos rfl,if_pos f])
  ·exact List.mem_of_getElem? (i:=j) (by rw[List.getElem?_set,if_neg (λe=>b e.symm)];exact a)
theorem mem_erase_iff{a:List zL}{k:Nat}{x:zL}:x ∈ a.take k++a.drop (k+1)↔∃j,j≠k/\a[j]?=some x:=by
 rw[<- List.eraseIdx_eq_take_drop_succ];rw[List.mem_eraseIdx_iff_getElem?]
theorem mq(text:BA)(c:(Rd.xS text).1=0):(vI text).length<=10/\(∀r ∈ vI text,Ref.XU r)/\yA ((vI text).map jI)=Ref.vB (vI text)/\xP text=(vI text).map jI:=by
 obtain⟨b,d,e⟩:=rD text c;exact⟨d,λr a=>(b r a).2,(Ob _ (λr a=>(b r a).1)).symm,e⟩
theorem Agree.set{st:StO}{r:List zL}(h:Agree st r){i:Nat}(hi:i<4){name text:BA}(B:Ref.zO name=true)(z:(Rd.xS text).1=0){k:Nat}(A:r.findIdx? (isR (i:Int) name)=some k):Agree (upd st i (qY (st i) name (xP text))) (r.set k ⟨i,name,vI text⟩):=by
 obtain⟨D,E,F,w⟩:=mq text z;obtain⟨G,f,m,n⟩:=Ki A;have c:k<r.length:=(List.getElem?_eq_some_iff.1 f).1;refine⟨λj o=>?_,λj o y=>?_,?_,λx g=>?_,λx g=>?_⟩
 ·unfold upd
  split
  ·exact (h.sorted i hi).with name _
  ·exact h.sorted j o
 ·unfold upd
  by_cases e:j=i
  ·subst e;rw[if_pos rfl,ZK (h.sorted j o)]
   constructor
   ·rintro (rfl|⟨C,v⟩)
    ·exact⟨_,(Xw c).2 (.inl rfl),rfl,by unfold QI;rw[w]⟩
    ·obtain⟨x,g,l,rfl⟩:=(h.mem j o _).1 C;obtain⟨p,d⟩:=List.getElem?_of_mem g;refine⟨x,(Xw c).2 (.inr ⟨p,λe=>?_,d⟩),l,rfl⟩;subst e;rw[f] at d;injection d with d
     subst d;exact v n
   ·rintro ⟨x,g,l,rfl⟩
    rcases (Xw c).1 g with rfl|⟨p,d,hpx⟩
    ·exact .inl (by unfold QI;rw[w])
    ·refine .inr ⟨(h.mem j o _).2 ⟨x,List.mem_of_getElem? hpx,l,rfl⟩,λe=>d ?_⟩;exact Jf h.keys hpx f (l.trans m.symm) (e.trans n.symm)
  ·rw[if_neg e,h.mem j o]
   constructor
   ·rintro ⟨x,g,l,rfl⟩;obtain⟨p,d⟩:=List.getElem?_of_mem g;refine⟨x,(Xw c).2 (.inr ⟨p,λq=>?_,d⟩),l,rfl⟩;subst q;rw[f] at d;injection d with d
    subst d;rw[m] at l;omega
   ·rintro ⟨x,g,l,rfl⟩
    rcases (Xw c).1 g with rfl|⟨p,d,hpx⟩
    ·simp only at l;omega
    ·exact⟨x,List.mem_of_getElem? hpx,l,rfl⟩
 ·rw[List.pairwise_iff_getElem];intro a b t hb u;rw[List.length_set] at t hb;rw[List.getElem_set,List.getElem_set]
  by_cases ea:k=a
  ·subst ea;rw[if_pos rfl,if_neg (by omega)];rintro ⟨s,q⟩
   have:=Jf h.keys f (List.getElem?_eq_getElem hb) (m.trans s) (n.trans q)
   omega
  ·rw[if_neg ea]
   by_cases eb:k=b
   ·subst eb;rw[if_pos rfl];rintro ⟨s,q⟩
    have:=Jf h.keys (List.getElem?_eq_getElem t) f (s.trans m.symm) (q.trans n.symm)
    omega
   ·rw[if_neg eb];exact List.pairwise_iff_getElem.1 h.keys a b t hb u
 ·rcases (Xw c).1 g with rfl|⟨p,_,hpx⟩
  ·exact⟨i,hi,rfl⟩
  ·exact h.lay x (List.mem_of_getElem? hpx)
 ·rcases (Xw c).1 g with rfl|⟨p,_,hpx⟩
  ·exact⟨B,D,E,F⟩
  ·exact h.ok x (List.mem_of_getElem? hpx)
theorem Agree.add{st:StO}{g:List zL}(h:Agree st g){i:Nat}(hi:i<4){name text:BA}(n:Ref.zO name=true)(l:(Rd.xS text).1=0)(m:g.findIdx? (isR (i:Int) name)=none):Agree (upd st i (qY (st i) name (xP text))) (g++[⟨i,name,vI text⟩]):=by
 obtain⟨p,q,r,k⟩:=mq text l;have d:=gU m;refine⟨λj c=>?_,λj c y=>?_,?_,λx a=>?_,λx a=>?_⟩
 ·unfold upd
  split
  ·exact (h.sorted i hi).with name _
  ·exact h.sorted j c
 ·unfold upd
  by_cases e:j=i
  ·subst e;rw[if_pos rfl,ZK (h.sorted j c)]
   constructor
   ·rintro (rfl|⟨f,o⟩)
    ·exact⟨⟨(j:Int),name,vI text⟩,List.mem_append_right _ (by simp),rfl,by unfold QI;rw[k]⟩
    ·obtain⟨x,a,b,rfl⟩:=(h.mem j c _).1 f;exact⟨x,List.mem_append_left _ a,b,rfl⟩
   ·rintro ⟨x,a,b,rfl⟩
    rcases List.mem_append.1 a with a|a
    ·exact .inr ⟨(h.mem j c _).2 ⟨x,a,b,rfl⟩,λe=>d x a ⟨b,e⟩⟩
    ·rw[List.mem_singleton] at a;subst a;exact .inl (by unfold QI;rw[k])
  ·rw[if_neg e,h.mem j c]
   constructor
   ·rintro ⟨x,a,b,rfl⟩;exact⟨x,List.mem_append_left _ a,b,rfl⟩
   ·rintro ⟨x,a,b,rfl⟩
    rcases List.mem_append.1 a with a|a
    ·exact⟨x,a,b,rfl⟩
    ·rw[List.mem_singleton] at a;subst a;simp only at b;omega
 ·rw[List.pairwise_append];refine⟨h.keys,by simp,λx a y f=>?_⟩;rw[List.mem_singleton] at f;subst f;exact d x a
 ·rcases List.mem_append.1 a with a|a
  ·exact h.lay x a
  ·rw[List.mem_singleton] at a;subst a;exact⟨i,hi,rfl⟩
 ·rcases List.mem_append.1 a with a|a
  ·exact h.ok x a
  ·rw[List.mem_singleton] at a;subst a;exact⟨n,p,q,r⟩
theorem Agree.less{st:StO}{n:List zL}(h:Agree st n){i:Nat}(hi:i<4){name:BA}{k:Nat}(q:n.findIdx? (isR (i:Int) name)=some k):Agree (upd st i (vX (st i) (qa (st i) name))) (n.take k++n.drop (k+1)):=by
 obtain⟨u,f,l,m⟩:=Ki q;have s:zh (st i) name=true:=(h.has hi).2 ⟨k,q⟩;refine⟨λj g=>?_,λj g y=>?_,?_,λx c=>?_,λx c=>?_⟩
 ·unfold upd
  split
  ·exact (h.sorted i hi).less _
  ·exact h.sorted j g
 ·unfold upd
  by_cases e:j=i
  ·subst e;rw[if_pos rfl,lL (h.sorted j g) s]
   constructor
   ·rintro ⟨t,o⟩;obtain⟨x,c,d,rfl⟩:=(h.mem j g _).1 t;obtain⟨p,b⟩:=List.getElem?_of_mem c;refine⟨x,mem_erase_iff.2 ⟨p,λe=>?_,b⟩,d,rfl⟩;subst e;rw[f] at b;injection b with b
    subst b;exact o m
   ·rintro ⟨x,c,d,rfl⟩;obtain⟨p,b,a⟩:=mem_erase_iff.1 c;exact⟨(h.mem j g _).2 ⟨x,List.mem_of_getElem? a,d,rfl⟩,λe=>b (Jf h.keys a f (d.trans l.symm) (e.trans m.symm))⟩
  ·rw[if_neg e,h.mem j g]
   constructor
   ·rintro ⟨x,c,d,rfl⟩;obtain⟨p,b⟩:=List.getElem?_of_mem c;refine⟨x,mem_erase_iff.2 ⟨p,λr=>?_,b⟩,d,rfl⟩;subst r;rw[f] at b;injection b with b
    subst b;rw[l] at d;omega
   ·rintro ⟨x,c,d,rfl⟩;obtain⟨p,b,a⟩:=mem_erase_iff.1 c;exact⟨x,List.mem_of_getElem? a,d,rfl⟩
 ·rw[<- List.eraseIdx_eq_take_drop_succ];exact h.keys.sublist (List.eraseIdx_sublist _ _)
 ·obtain⟨p,_,a⟩:=mem_erase_iff.1 c;exact h.lay x (List.mem_of_getElem? a)
 ·obtain⟨p,_,a⟩:=mem_erase_iff.1 c;exact h.ok x (List.mem_of_getElem? a)
theorem Agree.few{st:StO}{d:List zL}(h:Agree st d)(c:∀i,i<4->(st i).length<=4):d.length<=16:=by
 have f:(d.map λx=>(x.layer,x.name)).Nodup:=by
  rw[List.nodup_iff_pairwise_ne,List.pairwise_map];refine h.keys.imp (λg e=>g ?_);injection e with e1 e2
  exact⟨e1,e2⟩
 have b:(d.map λx=>(x.layer,x.name)) ⊆ ((st 0).map λy=>((0:Int),y.1))++((st 1).map λy=>((1:Int),y.1))++((st 2).map λy=>((2:Int),y.1))++((st 3).map λy=>((3:Int),y.1)):=by
  intro z m;obtain⟨x,k,rfl⟩:=List.mem_map.1 m;obtain⟨i,hi,j⟩:=h.lay x k;have l:=(h.mem i hi _).2 ⟨x,k,j,rfl⟩;have a:(x.layer,x.name) ∈ (st i).map λy=>((i:Int),y.1):=List.mem_map.2 ⟨_,l,by rw[j];rfl⟩;simp only[List.mem_append]
  rcases lt4 hi with rfl|rfl|rfl|rfl
  ·exact .inl (.inl (.inl a))
  ·exact .inl (.inl (.inr a))
  ·exact .inl (.inr a)
  ·exact .inr a
 have:=f.length_le_of_subset b
 simp only[List.length_map,List.length_append] at this;have n:=c 0 (by omega);have o:=c 1 (by omega);have p:=c 2 (by omega);have q:=c 3 (by omega);omega
end Go.Proofs.YtdakgnaojakldaaGreatDoor
