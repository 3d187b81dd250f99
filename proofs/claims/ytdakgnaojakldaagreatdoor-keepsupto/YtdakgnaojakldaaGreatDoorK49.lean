/- P -/
import Derived.Test.YtdakgnaojakldaaGreatDoorK48
open Go.Proofs.Tryz
set_option maxRecDepth 100000
set_option maxHeartbeats 4000000
namespace Go.Proofs.YtdakgnaojakldaaGreatDoor
open Go.RowKit
structure xz where
 ob:Nat
 cb:Nat
 lv:Value
 st:StO
 ks:List zw
def uI(a:List xz):List Value:=a.flatMap λp=>[.pointer (some ⟨p.ob,0,none⟩),.pointer (some ⟨p.cb,0,none⟩)]
theorem gB:∀{a:List xz} {i:Nat} {p:xz},a[i]?=some p->(uI a)[i*2]?=some (.pointer (some ⟨p.ob,0,none⟩))/\(uI a)[i*2+1]?=some (.pointer (some ⟨p.cb,0,none⟩))
 | [],i,p,h=>by simp at h
 | q::r,0,p,h=>by
  simp only[jl,Option.some.injEq] at h;subst h;exact⟨rfl,rfl⟩
 | q::r,i+1,p,h=>by
  simp only[uX] at h;have b:=gB h;have e:uI (q::r) = .pointer (some ⟨q.ob,0,none⟩) :: .pointer (some ⟨q.cb,0,none⟩)::uI r:=rfl;rw[e,show (i+1)*2=i*2+1+1 by omega];simp only[uX];exact b
theorem Az(a:List xz)(p:xz):uI (a++[p])=uI a++[.pointer (some ⟨p.ob,0,none⟩),.pointer (some ⟨p.cb,0,none⟩)]:=by
 unfold uI
 simp
theorem Kz:∀{a:List xz} {i:Nat} {p q:xz},a[i]?=some p->q.ob=p.ob->q.cb=p.cb->uI (a.set i q)=uI a
 | [],i,p,q,h,_,_=>by simp at h
 | x::r,0,p,q,h,e1,e2=>by
  simp only[jl,Option.some.injEq] at h;subst h;unfold uI;simp only[List.set_cons_zero,List.flatMap_cons,e1,e2]
 | x::r,i+1,p,q,h,e1,e2=>by
  simp only[uX] at h;have b:=Kz h e1 e2;unfold uI at b |-;simp only[Vx,List.flatMap_cons,b]
theorem Yc{w:World}{base:Nat}{t:TypeId}{size:Nat}{v:Value}{n:Nat}{xs:List Value}(h:w.ownsRow base t size v n xs):∀g,v.ownBlock=some g->g<w.heap.size:=λg a=>by
 rcases h.2 with ⟨rfl,_⟩|⟨g2,cap2,cur,rfl,hbg,hg2,_⟩
 ·cases a
 ·have:g2=g:=by simpa [Value.ownBlock] using a
  subst this;exact zx hg2
def Lm(L:Nat->Nat):Nat->Prop:=λb=>L b≠0
structure xA (w0:World) (L:Nat->Nat) (W:World) (yb:Nat) (psv bkv:Value) (ps:List xz) (m:Nat):Prop where
 low:Below w0.heap.size w0 W
 base:∀b,L b≠0->w0.heap.size<=b/\b<W.heap.size
 play:W.heap[yb]?=some (.cells #[psv,bkv] 89)
 lyb:L yb=1
 row:W.ownsRow 0 175 2 psv ps.length (uI ps)
 lps:∀g,psv.ownBlock=some g->L g=2
 book:Yn (Lm L) W bkv m
 lbk:∀g,bkv.ownBlock=some g->L g=3
 off:∀i p,ps[i]?=some p->xH (Lm L) W p.ob p.st/\L p.ob=10+3*i
 ref:∀i p,ps[i]?=some p->xg (Lm L) W p.cb p.lv p.ks/\L p.cb=11+3*i/\∀g,p.lv.ownBlock=some g->L g=12+3*i
structure Goes (L L':Nat->Nat) (S:Nat->Prop) (W W':World):Prop where
 turn:zu (λb=>S (L b)) W W'
 zero:¬S 0
 old:∀b,b<W.heap.size->L' b=L b
 new:∀b,L' b≠0->b<W'.heap.size
section
variable {L L':Nat->Nat} {S:Nat->Prop} {W W':World}
theorem Goes.more(g:Goes L L' S W W'):∀b,Lm L' b->Lm L b\/W.heap.size<=b:=λb hb=>by
 by_cases h:b<W.heap.size
 ·exact .inl (by unfold Lm at hb |-;rw[g.old b h] at hb;exact hb)
 ·exact .inr (by omega)
theorem Goes.turnM(g:Goes L L' S W W'):zu (Lm L') W W':=g.turn.wide (λk b a=>by
 show L' k≠0;rw[g.old k b];intro e;simp only[e] at a;exact g.zero a)
theorem Goes.far(g:Goes L L' S W W'){b c:Nat}(hb:b<W.heap.size)(d:L b=c)(a:¬S c):W'.heap[b]?=W.heap[b]?:=
 g.turn.block b hb (by show ¬S (L b);rw[d];exact a)
theorem Goes.mine(g:Goes L L' S W W'){b:Nat}(hb:b<W.heap.size)(h:Lm L b):Lm L' b:=by
 unfold Lm at h |-;rw[g.old b hb];exact h
theorem Goes.office(g:Goes L L' S W W'){ob:Nat}{st:StO}{c:Nat}(h:xH (Lm L) W ob st)(d:L ob=c)(f:¬S c):xH (Lm L') W' ob st/\L' ob=c:=by
 obtain⟨j,b,e⟩:=h.row;have a:=zx b;exact⟨⟨g.mine a h.mine,⟨j,(g.far a d f).trans b,λi hi=>((e i hi).more g.more).turn g.turnM⟩,h.good⟩,(g.old ob a).trans d⟩
theorem Goes.ref(g:Goes L L' S W W'){cb:Nat}{lv:Value}{ks:List zw}{c d:Nat}(h:xg (Lm L) W cb lv ks)(f:L cb=c)(i:∀g,lv.ownBlock=some g->L g=d)(l:¬S c)(k:¬S d):xg (Lm L') W' cb lv ks/\L' cb=c/\∀g,lv.ownBlock=some g->L' g=d:=by
 obtain⟨xs,e,j⟩:=h.rows;have b:=zx h.cell;have hb:=Yc e;refine⟨⟨g.mine b h.mine,(g.far b f l).trans h.cell,⟨xs,bE e g.turn (λx a=>?_),(j.more g.more).turn g.turnM⟩,λx a=>⟨g.mine (hb x a) (h.own x a).1,(h.own x a).2⟩⟩,(g.old cb b).trans f,λx a=>(g.old x (hb x a)).trans (i x a)⟩;show ¬S (L x);rw[i x a];exact k
theorem Goes.book(g:Goes L L' S W W'){a:Value}{m c:Nat}(h:Yn (Lm L) W a m)(e:∀g,a.ownBlock=some g->L g=c)(j:¬S c):Yn (Lm L') W' a m/\∀g,a.ownBlock=some g->L' g=c:=by
 obtain⟨l,d,f⟩:=h;have hb:=Yc d;refine⟨⟨l,bE d g.turn (λx b=>?_),λi v k=>((f i v k).more g.more).turn g.turnM⟩,λx b=>(g.old x (hb x b)).trans (e x b)⟩;show ¬S (L x);rw[e x b];exact j
theorem Goes.row(g:Goes L L' S W W'){t:TypeId}{size:Nat}{v:Value}{n c:Nat}{xs:List Value}(h:W.ownsRow 0 t size v n xs)(b:∀g,v.ownBlock=some g->L g=c)(d:¬S c):W'.ownsRow 0 t size v n xs/\∀g,v.ownBlock=some g->L' g=c:=by
 have hb:=Yc h;refine⟨bE h g.turn (λx a=>?_),λx a=>(g.old x (hb x a)).trans (b x a)⟩;show ¬S (L x);rw[b x a];exact d
theorem Goes.low{a:World}(g:Goes L L' S W W')(h:Below a.heap.size a W)(hb:∀b,L b≠0->a.heap.size<=b/\b<W.heap.size):Below a.heap.size a W'/\∀b,L' b≠0->a.heap.size<=b/\b<W'.heap.size:=by
 refine⟨h.trans (g.turn.below (λk f d=>?_) h.size),λb c=>⟨?_,g.new b c⟩⟩
 ·have:L k≠0:=λe=>by
   simp only[e] at d;exact g.zero d
  have:=(hb k this).1
  omega
 ·rcases g.more b c with e|e
  ·exact (hb b e).1
  ·have:=h.size;omega
end
structure xZ (L L':Nat->Nat) (W W':World):Prop where
 size:W.heap.size<=W'.heap.size
 keep:∀b,b<W.heap.size->L b=0->W'.heap[b]?=W.heap[b]?
 old:∀b,b<W.heap.size->L' b=L b
theorem Goes.stay{L L':Nat->Nat}{S:Nat->Prop}{W W':World}(g:Goes L L' S W W'):xZ L L' W W':=⟨g.turn.size,λ_ hb a=>g.far hb a g.zero,g.old⟩
theorem xZ.of{L:Nat->Nat}{W W':World}(h:Below W.heap.size W W'):xZ L L W W':=⟨h.size,λb hb _=>h.block b hb,λ_ _=>rfl⟩
theorem xZ.trans{L L' a:Nat->Nat}{A B C:World}(h:xZ L L' A B)(k:xZ L' a B C):xZ L a A C:=
 ⟨xe h.size k.size,λb hb c=>(k.keep b (xL hb h.size) ((h.old b hb).trans c)).trans (h.keep b hb c),λb hb=>(k.old b (xL hb h.size)).trans (h.old b hb)⟩
theorem xA.below{j:World}{L:Nat->Nat}{W W':World}{k:Nat}{d c:Value}{f:List xz}{m:Nat}(h:xA j L W k d c f m)(hb:Below W.heap.size W W'):xA j L W' k d c f m:=by
 have g:Goes L L (λ_=>False) W W':=⟨zu.of hb,id,λ_ _=>rfl,λb e=>xL (h.base b e).2 hb.size⟩
 exact⟨(g.low h.low h.base).1,(g.low h.low h.base).2,(g.far (zx h.play) h.lyb id).trans h.play,h.lyb,(g.row h.row h.lps id).1,h.lps,(g.book h.book h.lbk id).1,h.lbk,
  λi p a=>g.office (h.off i p a).1 (h.off i p a).2 id,λi p a=>g.ref (h.ref i p a).1 (h.ref i p a).2.1 (h.ref i p a).2.2 id id⟩
theorem xA.offSet{u:World}{L:Nat->Nat}{W W':World}{v:Nat}{l d:Value}{o:List xz}{m:Nat}(h:xA u L W v l d o m){i:Nat}{p:xz}(c:o[i]?=some p)(t:zu (λb=>b=p.ob) W W'){st:StO}(w:xH (Lm L) W' p.ob st):xZ L L W W'/\xA u L W' v l d (o.set i { p with st:=st }) m:=by
 have s:=(h.off i p c).2;have g:Goes L L (λn=>n=10+3*i) W W':=⟨t.wide (λk _ e=>by show L k=_;rw[e];exact s),by omega,λ_ _=>rfl,λb r=>xL (h.base b r).2 t.size⟩;have f:i<o.length:=(zP.1 c).1;refine⟨g.stay,(g.low h.low h.base).1,(g.low h.low h.base).2,(g.far (zx h.play) h.lyb (by omega)).trans h.play,h.lyb,?_,h.lps,(g.book h.book h.lbk (by omega)).1,h.lbk,λj q a=>?_,λj q a=>?_⟩
 ·rw[Kz (q:={ p with st:=st }) c rfl rfl,uA]
  exact (g.row h.row h.lps (by omega)).1
 ·rw[zq] at a
  by_cases e:i=j
  ·subst e;rw[zb rfl,zb f] at a;injection a with a
   subst a;exact⟨w,s⟩
  ·rw[za e] at a;exact g.office (h.off j q a).1 (h.off j q a).2 (by omega)
 ·rw[zq] at a
  by_cases e:i=j
  ·subst e;rw[zb rfl,zb f] at a;injection a with a
   subst a;exact g.ref (h.ref i p c).1 (h.ref i p c).2.1 (h.ref i p c).2.2 (by omega) (by omega)
  ·rw[za e] at a;exact g.ref (h.ref j q a).1 (h.ref j q a).2.1 (h.ref j q a).2.2 (by omega) (by omega)
def lab(L:Nat->Nat)(v:Value)(n:Nat):Nat->Nat:=λb=>if v.ownBlock=some b then n else L b
theorem mg(L:Nat->Nat)(v:Value){n:Nat}(a:n≠0):Lm (lab L v n)=yS (Lm L) v:=by
 funext b
 unfold Lm lab yS
 by_cases e:v.ownBlock=some b
 ·simp[e,a]
 ·simp[e]
theorem aM{L:Nat->Nat}{v:Value}{n:Nat}{W:World}(h:∀g,v.ownBlock=some g->L g=n\/W.heap.size<=g):∀b,b<W.heap.size->lab L v n b=L b:=λb hb=>by
 unfold lab
 by_cases e:v.ownBlock=some b
 ·rw[zb e]
  rcases h b e with h|h
  ·exact h.symm
  ·omega
 ·rw[za e]
theorem aK{L:Nat->Nat}{v:Value}{n:Nat}:∀g,v.ownBlock=some g->lab L v n g=n:=λg a=>by unfold lab;rw[zb a]
theorem xA.refSet{B:World}{L:Nat->Nat}{W W':World}{w:Nat}{o d:Value}{r:List xz}{m:Nat}(h:xA B L W w o d r m){i:Nat}{p:xz}(l:r[i]?=some p)(A:zu (λb=>b=p.cb\/p.lv.ownBlock=some b) W W'){v:Value}{ks:List zw}(z:xg (yS (Lm L) v) W' p.cb v ks)(E:∀g,v.ownBlock=some g->p.lv.ownBlock=some g\/W.heap.size<=g):∃L',xZ L L' W W'/\xA B L' W' w o d (r.set i { p with lv:=v,ks:=ks }) m:=by
 obtain⟨D,y,x⟩:=h.ref i p l;have t:∀g,v.ownBlock=some g->L g=12+3*i\/W.heap.size<=g:=λg C=>(E g C).imp (x g) id;obtain⟨xs,u,_⟩:=z.rows;have s:=Yc u
 have g:Goes L (lab L v (12+3*i)) (λn=>n=11+3*i\/n=12+3*i) W W':=⟨A.wide (λk _ e=>by
  show L k=_\/L k=_
  rcases e with e|e
  ·rw[e];exact .inl y
  ·exact .inr (x k e)),by omega,aM t,λb c=>by
   unfold lab at c
   by_cases e:v.ownBlock=some b
   ·exact s b e
   ·rw[za e] at c;exact xL (h.base b c).2 A.size⟩
 have f:i<r.length:=(zP.1 l).1;refine⟨_,g.stay,(g.low h.low h.base).1,(g.low h.low h.base).2,(g.far (zx h.play) h.lyb (by omega)).trans h.play,(g.old w (zx h.play)).trans h.lyb,?_,(g.row h.row h.lps (by omega)).2,(g.book h.book h.lbk (by omega)).1,(g.book h.book h.lbk (by omega)).2,λj q a=>?_,λj q a=>?_⟩
 ·rw[Kz (q:={ p with lv:=v,ks:=ks }) l rfl rfl,uA]
  exact (g.row h.row h.lps (by omega)).1
 ·rw[zq] at a
  by_cases e:i=j
  ·subst e;rw[zb rfl,zb f] at a;injection a with a
   subst a;exact g.office (h.off i p l).1 (h.off i p l).2 (by omega)
  ·rw[za e] at a;exact g.office (h.off j q a).1 (h.off j q a).2 (by omega)
 ·rw[zq] at a
  by_cases e:i=j
  ·subst e;rw[zb rfl,zb f] at a;injection a with a
   subst a;exact⟨by rw[mg L v (by omega)];exact z,(g.old p.cb (zx D.cell)).trans y,aK⟩
  ·rw[za e] at a;exact g.ref (h.ref j q a).1 (h.ref j q a).2.1 (h.ref j q a).2.2 (by omega) (by omega)
theorem xA.bookAdd{u:World}{L:Nat->Nat}{W W':World}{l:Nat}{c f:Value}{t:List xz}{m:Nat}(h:xA u L W l c f t m){e:Ending}(y:eX (Lm L) W l m c f e W'):∃L' j,xZ L L' W W'/\xA u L' W' l c j t (m+1):=by
 obtain⟨v,_,_,s,w,hb,z⟩:=y;have q:∀g,v.ownBlock=some g->L g=3\/W.heap.size<=g:=λg x=>(z g x).imp (h.lbk g) id;obtain⟨A,r,_⟩:=id hb;have o:=Yc r
 have g:Goes L (lab L v 3) (λn=>n=1\/n=3) W W':=⟨s.wide (λk _ e=>by
  show L k=_\/L k=_
  rcases e with e|e
  ·rw[e];exact .inl h.lyb
  ·exact .inr (h.lbk k e)),by omega,aM q,λb a=>by
   unfold lab at a
   by_cases e:v.ownBlock=some b
   ·exact o b e
   ·rw[za e] at a;exact xL (h.base b a).2 s.size⟩
 exact⟨_,v,g.stay,(g.low h.low h.base).1,(g.low h.low h.base).2,w,(g.old l (zx h.play)).trans h.lyb,(g.row h.row h.lps (by omega)).1,(g.row h.row h.lps (by omega)).2,by rw[mg L v (by omega)];exact hb,aK,
  λi p d=>g.office (h.off i p d).1 (h.off i p d).2 (by omega),λi p d=>g.ref (h.ref i p d).1 (h.ref i p d).2.1 (h.ref i p d).2.2 (by omega) (by omega)⟩
theorem xH.fresh{M M':Nat->Prop}{W W':World}{ob:Nat}(h:xH M W ob ZI)(hb:W'.heap[ob]?=W.heap[ob]?)(f:M' ob):xH M' W' ob ZI:=by
 obtain⟨n,b,d⟩:=h.row;refine⟨f,⟨n,hb.trans b,λi hi=>?_⟩,h.good⟩;obtain⟨a,c,e,j,l,m,_⟩:=d i hi;exact⟨a,c,e,j,l,m,λk x g=>by simp[ZI] at g⟩
theorem xA.pairAdd{N:World}{L:Nat->Nat}{W D W':World}{y:Nat}{p psv' i:Value}{c:List xz}{m:Nat}(h:xA N L W y p i c m){ob cb:Nat}{M:Nat->Prop}(F:xH M D ob ZI)(u:W'.heap[ob]?=D.heap[ob]?)(R:W.heap.size<=ob)(r:W'.heap[cb]?=some (.cells #[.slice none 0 0] 173))(E:W.heap.size<=cb)(z:ob≠cb)
  (H:zu (λb=>b=y\/p.ownBlock=some b) W W')(Q:W'.heap[y]?=some (.cells #[psv',i] 89))(G:W'.ownsRow 0 175 2 psv' (c.length+1) (uI c++[.pointer (some ⟨ob,0,none⟩),.pointer (some ⟨cb,0,none⟩)]))(I:∀g,psv'.ownBlock=some g->p.ownBlock=some g\/(W.heap.size<=g/\g≠ob/\g≠cb)) :
  ∃L',xZ L L' W W'/\xA N L' W' y psv' i (c++[⟨ob,cb,.slice none 0 0,ZI,[]⟩]) m:=by
 have B:∀g,psv'.ownBlock=some g->L g=2\/W.heap.size<=g:=λg t=>(I g t).imp (h.lps g) (λx=>x.1);have A:=Yc G;obtain⟨S,v,_⟩:=F.row;have w:=zx (u.trans v);have s:=zx r;refine⟨λb=>if b=ob then 10+3*c.length else if b=cb then 11+3*c.length else lab L psv' 2 b,?_⟩
 obtain⟨L',d⟩:∃L',L'=λb=>if b=ob then 10+3*c.length else if b=cb then 11+3*c.length else lab L psv' 2 b:=⟨_,rfl⟩
 rw[<- d];have lo:L' ob=10+3*c.length:=by rw[d];simp
 have K:L' cb=11+3*c.length:=by rw[d];simp[Ne.symm z]
 have C:∀b,b≠ob->b≠cb->L' b=lab L psv' 2 b:=λb O P=>by rw[d];simp[O,P]
 have g:Goes L L' (λn=>n=1\/n=2) W W':=⟨H.wide (λk _ e=>by
  show L k=_\/L k=_
  rcases e with e|e
  ·rw[e];exact .inl h.lyb
  ·exact .inr (h.lps k e)),by omega,λb hb=>by
   rw[C b (by omega) (by omega)];exact aM B b hb,λb f=>by
   by_cases e1:b=ob
   ·rw[e1];exact w
   ·by_cases e2:b=cb
    ·rw[e2];exact s
    ·rw[C b e1 e2] at f;unfold lab at f
     by_cases e:psv'.ownBlock=some b
     ·exact A b e
     ·rw[za e] at f;exact xL (h.base b f).2 H.size⟩
 refine⟨g.stay,(g.low h.low h.base).1,(g.low h.low h.base).2,Q,(g.old y (zx h.play)).trans h.lyb,?_,λx J=>?_,(g.book h.book h.lbk (by omega)).1,(g.book h.book h.lbk (by omega)).2,λj q a=>?_,λj q a=>?_⟩
 ·rw[Az,qz];exact G
 ·have:x≠ob/\x≠cb:=by
   rcases I x J with e|e
   ·have:=Yc h.row x e
    exact⟨by omega,by omega⟩
   ·exact e.2
  rw[C x this.1 this.2];exact aK x J
 ·by_cases hj:j<c.length
  ·rw[xJ hj] at a;exact g.office (h.off j q a).1 (h.off j q a).2 (by omega)
  ·have o:=(zP.1 a).1;simp at o;have l:j=c.length:=by omega
   subst l;rw[xY (ze _)] at a;simp at a;subst a;exact⟨F.fresh u (by unfold Lm;rw[lo];omega),lo⟩
 ·by_cases hj:j<c.length
  ·rw[xJ hj] at a;exact g.ref (h.ref j q a).1 (h.ref j q a).2.1 (h.ref j q a).2.2 (by omega) (by omega)
  ·have o:=(zP.1 a).1;simp at o;have l:j=c.length:=by omega
   subst l;rw[xY (ze _)] at a;simp at a;subst a;exact⟨⟨by unfold Lm;rw[K];omega,r,⟨[],qC _ _ _ _,xh.nil⟩,λg t=>by cases t⟩,K,λg t=>by cases t⟩
theorem YP{st:StO}{ks:List zw}(h:Agree st ks){i:Nat}(hi:i<4){name:BY}(b:ks.findIdx? (isR (i:Int) name)=none):zn (st i) name=false:=by
 cases e:zn (st i) name with
 | false=>rfl
 | true=>
  obtain⟨k,a⟩:=(h.has hi).1 e;rw[b] at a
  cases a
theorem Nu{st:StO}{ks:List zw}(h:Agree st ks){l:Int}{name text:BY}{M:Nat->Prop}{cb:Nat}{lv:Value}{w w':World}{e:Ending}(q:Kh ks l name text M cb lv w e w') :
  ∃m a,e = .returned (.tuple #[.int .i64 (ul st l name text).1,.int .i64 ((ul st l name text).2:Int)])/\zu (λb=>b=cb\/lv.ownBlock=some b) w w'/\xg (yS M m) w' cb m a/\(∀g,m.ownBlock=some g->lv.ownBlock=some g\/w.heap.size<=g)/\Agree (uO st l name text) a:=by
 obtain⟨E,A,m,a,f,s,_,r,p,c1,c2,c3,c4⟩:=q;refine⟨m,a,?_,s,r,p,?_⟩
 all_goals
  by_cases hpl:qw l name=0
  ·by_cases hd:(Rd.qX text).1=0
   ·obtain⟨i,rfl,hi,j⟩:=Y2 hpl
    cases hf:ks.findIdx? (isR (i:Int) name) with
    | some k=>
     obtain⟨rfl,rfl,rfl⟩:=c3 hpl hd k hf;have c:=(h.has hi).2 ⟨k,hf⟩
     first
      | (rw[f];unfold ul;rw[zb hpl,zb hd,xP,c];rfl)
      | (unfold uO QT;rw[xP,c,zB hpl,zB hd];exact h.set hi j hd hf)
    | none=>
     obtain⟨out,n,o⟩:=c4 hpl hd hf;have c:=YP h hi hf;have hlen:(st i).length=out.length:=by rw[h.layer hi n,qB]
     rcases o with ⟨h4,rfl,rfl,rfl⟩|⟨h4,rfl,rfl,rfl⟩
     ·have d:decide ((st i).length<4)=false:=zM (by omega)
      first
       | (rw[f];unfold ul;rw[zb hpl,zb hd,xP,c,d];rfl)
       | (unfold uO QT;rw[xP,c,d,zB hpl,zB hd];exact h)
     ·have d:decide ((st i).length<4)=true:=zB (by omega)
      first
       | (rw[f];unfold ul;rw[zb hpl,zb hd,xP,c,d];rfl)
       | (unfold uO QT;rw[xP,c,d,zB hpl,zB hd];exact h.add hi j hd hf)
   ·obtain⟨rfl,rfl,rfl⟩:=c2 hpl hd
    first
     | (rw[f];unfold ul;rw[zb hpl,za hd])
     | (unfold uO QT;rw[zB hpl,zM hd];exact h)
  ·obtain⟨rfl,rfl,rfl⟩:=c1 hpl
   first
    | (rw[f];unfold ul;(rw[za hpl]<;>rfl))
    | (unfold uO QT;rw[zM hpl];exact h)
theorem Dm{st:StO}{ks:List zw}(h:Agree st ks){l:Int}{name:BY}{M:Nat->Prop}{cb:Nat}{lv:Value}{w w':World}{e:Ending}(o:UX ks l name M cb lv w e w') :
  ∃d a,e = .returned (.int .i64 (QM st l name))/\zu (λb=>b=cb\/lv.ownBlock=some b) w w'/\xg (yS M d) w' cb d a/\(∀g,d.ownBlock=some g->lv.ownBlock=some g\/w.heap.size<=g)/\Agree (QN st l name) a:=by
 obtain⟨E,d,a,f,q,_,p,j,c1,c2,c3⟩:=o;refine⟨d,a,?_,q.wide (λ_ _ e => .inl e),p,λg m=>?_,?_⟩
 rotate_left
 ·rcases j with rfl|j
  ·exact .inl m
  ·exact .inr (j g m)
 all_goals
  by_cases hpl:qw l name=0
  ·obtain⟨i,rfl,hi,n⟩:=Y2 hpl
   cases hf:ks.findIdx? (isR (i:Int) name) with
   | some k=>
    obtain⟨rfl,rfl⟩:=c3 hpl k hf;have c:=(h.has hi).2 ⟨k,hf⟩
    first
     | (rw[f];unfold QM;rw[zb hpl,xP,c];rfl)
     | (unfold QN;rw[xP,zb ⟨hpl,c⟩];exact h.less hi hf)
   | none=>
    obtain⟨rfl,rfl⟩:=c2 hpl hf;have c:=YP h hi hf
    first
     | (rw[f];unfold QM;rw[zb hpl,xP,c];rfl)
     | (unfold QN;rw[xP,c,za (by simp)];exact h)
  ·obtain⟨rfl,rfl⟩:=c1 hpl
   first
    | (rw[f];unfold QM;rw[za hpl])
    | (unfold QN;rw[za (λx=>hpl x.1)];exact h)
theorem Pb{st:StO}{ks:List zw}(h:Agree st ks){l:Int}{name:BY}{w w':World}{e:Ending}(f:Kk ks l name w e w') :
  e = .returned (.tuple #[.string (QW st l name),.int .i64 (QX st l name)])/\Below w.heap.size w w':=by
 obtain⟨s,E,c,hb,c1,c2,c3⟩:=f;refine⟨?_,hb⟩;rw[c]
 by_cases hpl:qw l name=0
 ·obtain⟨i,rfl,hi,d⟩:=Y2 hpl
  cases hf:ks.findIdx? (isR (i:Int) name) with
  | some k=>
   obtain⟨x,b,_⟩:=JJ hf;obtain⟨rfl,rfl⟩:=c3 hpl k x hf b;have a:=(h.has hi).2 ⟨k,hf⟩;unfold QW QX;rw[zb hpl,xP,zb ⟨hpl,a⟩,h.shown hi hf b,a]
   rfl
  | none=>
   obtain⟨rfl,rfl⟩:=c2 hpl hf;have a:=YP h hi hf;unfold QW QX;rw[zb hpl,xP,a,za (by simp)]
   rfl
 ·obtain⟨rfl,rfl⟩:=c1 hpl;unfold QW QX;rw[za hpl,za (λx=>hpl x.1)]
theorem LF{st:StO}{ks:List zw}(h:Agree st ks){l:Int}{w w':World}{e:Ending}(d:Kb ks l w e w') :
  ∃v,e = .returned (.tuple #[v,.int .i64 (QR l)])/\zy w' w.heap.size v (Xp st l)/\Below w.heap.size w w':=by
 obtain⟨v,ns,b,c,hb,c1,c2⟩:=d;refine⟨v,b,?_,hb⟩
 have:ns=Xp st l:=by
  unfold Xp
  cases hl:jc l with
  | false=>rw[za (by simp)];exact c1 hl
  | true=>
   rw[zb rfl];obtain⟨out,a,rfl⟩:=c2 hl
   have f:∃i:Nat,l=(i:Int)/\i<4:=by
    unfold jc at hl;simp at hl;exact⟨l.toNat,by omega,by omega⟩
   obtain⟨i,rfl,hi⟩:=f;rw[xP,h.layer hi a,ug]
   rfl
 rw[<- this];exact c
theorem Lx{st:StO}(a:∀i,i<4->Z0 (st i))(l:Int):(Xp st l).length<=1000:=by
 unfold Xp
 cases hl:jc l with
 | false=>simp
 | true=>
  rw[zb rfl,qB]
  have b:l.toNat<4:=by
   unfold jc at hl;simp at hl;omega
  have:=(a _ b).2.1
  omega
def vM(a:List xz):Prop:=∀(i:Nat) (p:xz),a[i]?=some p->Agree p.st p.ks
theorem vM.set{b:List xz}(h:vM b)(i:Nat){q:xz}(c:Agree q.st q.ks):vM (b.set i q):=λj p a=>by
 rw[zq] at a
 by_cases e:i=j
 ·rw[zb e] at a
  split at a
  ·injection a with a
   subst a;exact c
  ·cases a
 ·rw[za e] at a;exact h j p a
theorem vM.add{b:List xz}(h:vM b){q:xz}(e:Agree q.st q.ks):vM (b++[q]):=λj p a=>by
 by_cases hj:j<b.length
 ·rw[xJ hj] at a;exact h j p a
 ·have d:=(zP.1 a).1;simp at d;have c:j=b.length:=by omega
  subst c;rw[xY (ze _)] at a;simp at a;subst a;exact e
def XJ(d:World)(L:Nat->Nat)(w:World)(f n m:Nat)(e:Ending)(w':World):Prop:=
 ∃L' c b a m',e = .returned (.bool true)/\xZ L L' w w'/\xA d L' w' f c b a m'/\vM a/\n<=a.length/\a.length<=n+1/\m'<=m+1/\0<a.length
def ZR(k a l:Int)(name text who act on:BY)(ma:Option Addr)(mn mc:Nat):Value := .agg #[.int .i64 k,.int .i64 a,.int .i64 l,.string name,.string text,.string who,.string act,.string on,.slice ma mn mc]
theorem xA.pick{t:World}{L:Nat->Nat}{W:World}{l:Nat}{b d:Value}{a:List xz}{m:Nat}(h:xA t L W l b d a m)(c:Int)(r:0<a.length):∃g s p,b = .slice (some ⟨g,0,none⟩) a.length s/\Kp.vK c a.length<a.length/\a[Kp.vK c a.length]?=some p/\W.cell? ⟨l,0,none⟩=some b/\W.cell? ⟨g,Kp.vK c a.length*2,none⟩=some (.pointer (some ⟨p.ob,0,none⟩))/\W.cell? ⟨g,Kp.vK c a.length*2+1,none⟩=some (.pointer (some ⟨p.cb,0,none⟩))/\W.cell? ⟨l,1,none⟩=some d:=by
 have k:Kp.vK c a.length<a.length:=Kp.MS c a.length r;have q:=zm k;have n:=(zg h.play 0).1;have f:=(zg h.play 1).1;simp at n f;have o:=gB q
 rcases h.row.2 with ⟨_,h0⟩|⟨g,cap,cur,e,_⟩
 ·omega
 ·have j:=λi hi=>World.ownsRow.cellAt (g:=g) (cap:=cap) (by rw[<- e];exact h.row) i hi;exact⟨g,cap,_,e,k,q,n,(j _ (by omega)).trans o.1,(j _ (by omega)).trans o.2,f⟩
theorem Ur{k:World}{L:Nat->Nat}{W:World}{l:Nat}{g c:Value}{f:List xz}{m:Nat}(h:xA k L W l g c f m)(d:vM f){i:Nat}{p:xz}(j:f[i]?=some p):p.ks.length<=16/\(∀x ∈ p.ks,x.name.size<=maxLen)/\(∀x ∈ p.ks,x.rs.length<=10/\∀r ∈ x.rs,Ref.kr r)/\Agree p.st p.ks:=by
 have a:=d i p j;refine⟨a.few (λi hi=>((h.off _ p j).1.good i hi).2.1),λx b=>?_,λx b=>⟨(a.ok x b).2.1,(a.ok x b).2.2.1⟩,a⟩
 have:=(a.ok x b).1
 by_cases e:1<=x.name.size/\x.name.size<=12
 ·unfold maxLen;omega
 ·rw[Ref.JO _ e] at this
  cases this
theorem rG(w0:World)(aL:Addr)(hC:ZZ w0 aL)(L:Nat->Nat)(w:World)(yb:Nat)(c1 b4:Value)(t:List xz)(m:Nat)(h:xA w0 L w yb c1 b4 t m)(B:vM t)(r:0<t.length)(b8:t.length<=100000000)(a l:Int)(name text who act on:BY)(ma:Option Addr)(mn mc:Nat)(hA:I64 a)(hs:name.size<=maxLen)(ht:text.size<=maxLen) :
  Calls prog 37 #[.pointer (some ⟨yb,0,none⟩),ZR 2 a l name text who act on ma mn mc] w (XJ w0 L w yb t.length m):=by
 unfold ZR;obtain⟨f,k⟩:∃W,w.alloc (.cells #[.int .i64 2,.int .i64 a,.int .i64 l,.string name,.string text,.string who,.string act,.string on,.slice ma mn mc] 91)=W:=⟨_,rfl⟩;have b1:Below w.heap.size w f:=by rw[<- k];exact nbl w _
 have o:f.heap[w.heap.size]?=some (.cells #[.int .i64 2,.int .i64 a,.int .i64 l,.string name,.string text,.string who,.string act,.string on,.slice ma mn mc] 91):=by rw[<- k];exact zO w _
 have h1:=h.below b1;obtain⟨g,pc,p,rfl,R,C,O,Q,P,b6⟩:=h1.pick a r;have Z:=(zg o 0).1;have k1:=(zg o 1).1;simp at Z k1;have Y:=λW=>Ut a t.length W hA r (by omega);obtain⟨n,hn⟩:∃x,t.length=x:=⟨_,rfl⟩;obtain⟨i,hi⟩:∃x,Kp.vK a t.length=x:=⟨_,rfl⟩;simp only[hi] at C Q P R Y;have c:=λb (hb:L b≠0)=>(h.base b hb).2;have c0:=(h.off i p C).2;have b9:=(h.ref i p C).2.1;have T:=(h.ref i p C).2.2;have f8:p.ob<w.heap.size:=c _ (by omega);have e6:p.cb<w.heap.size:=c _ (by omega);have U:∀g,p.lv.ownBlock=some g->g<w.heap.size:=λg hg=>c _ (by have:=T g hg;omega);have v:=hid (Ur h B C);simp only[hn] at R r b8 O Y |-;have CP:=hid Y;have HN:=hid hn;have HP:=hid C;have H1:=hid h1;have u:=hid o;have a2:=hid B;have K:=hid k;have a3:=hid b1;have e1:=hid U;have a4:=hid c;have i0:(0:Int)<=(i:Int):=zY _;have i1:(i:Int)<(n:Int):=by omega
 have f3:((n:Int)==0)=false:=by simp;omega
 clear Y hn hi C h1 o B k b1 h U c c0 b9 T;go_enter func37,ntmps37
 go_upto_region 1 with fail
 rw[K.out];clear K
 go_upto_region 16 with fail
 go_cut [6] (λv6 wc=>v6 = .pointer (some ⟨f.heap.size,0,none⟩)/\wc=(f.alloc (.cells #[.pointer (some ⟨p.ob,0,none⟩),.pointer (some ⟨p.cb,0,none⟩)] 175)).drew)
 case first=>
  go_region_held3 (λw'=>w'.cell? ⟨yb,0,none⟩=some (.slice (some ⟨g,0,none⟩) n pc)/\w'.cell? ⟨w.heap.size,1,none⟩=some (.int .i64 a)/\w'.cell? ⟨g,i*2,none⟩=some (.pointer (some ⟨p.ob,0,none⟩))/\w'.cell? ⟨g,i*2+1,none⟩=some (.pointer (some ⟨p.cb,0,none⟩))) (go_keep) (first|(go_at_call 68;refine (CP.out _).mono ?_;rintro e w3 ⟨rfl,e3⟩;rw[e3];clear e3))
  all_goals
   go_wp2_with fail
   go_meet
   case rel=>exact⟨rfl,rfl⟩
 case rest=>
  obtain⟨rfl,F⟩:=hcut;have X:Below f.heap.size f wc:=by rw[F];exact (nbl f _).drew
  have q:wc.heap[f.heap.size]?=some (.cells #[.pointer (some ⟨p.ob,0,none⟩),.pointer (some ⟨p.cb,0,none⟩)] 175):=by rw[F];exact zO f _
  clear F CP O Q P b6 Z k1;have y:=hid (H1.out.below X);have d:=(X.block _ (zx u.out)).trans u.out;have g8:w.heap.size<f.heap.size:=zx u.out;have g9:f.heap.size<wc.heap.size:=zx q;have a9:Hid (xZ L L w wc):=hid ((xZ.of a3.out).trans (xZ.of X));have H:Hid (∀b,Lm L b->b<w.heap.size):=hid a4.out;have p0:=(zg q 0).1;have Z:=(zg d 0).1;have k2:=(zg d 2).1;have k3:=(zg d 3).1;have k4:=(zg d 4).1;simp at p0 Z k2 k3 k4;have I:=hid q;have M:=hid d;clear q d X;have j:=Nt p.ob p.st l name text (Lm L) aL wc (hC.below y.out.low) (y.out.off i p HP.out).1 (λb hb=>Nat.lt_trans (H.out b hb) (by omega)) hs;have N:=λ(W:World) (hz:wc.heap.size<=W.heap.size) (hr:xg (Lm L) W p.cb p.lv p.ks)=>Ns p.cb p.lv p.ks l name text (Lm L) W hr (by have:=v.out.1;omega) v.out.2.1 hs ht (λb hb=>xL (Nat.lt_trans (H.out b hb) (by omega)) hz);have D:=λ(W W':World) (e:Ending) (h:Kh p.ks l name text (Lm L) p.cb p.lv W e W')=>Nu v.out.2.2.2 h;obtain⟨⟨E,A⟩,z⟩:∃x,ul p.st l name text=x:=⟨_,rfl⟩;rw[z] at j;simp only[z] at D;have d1:(E==E)=true:=by simp
  have d2:((A:Int)==(A:Int))=true:=by simp
  have G:=hid j;have a1:=hid N;have a8:=hid D;clear j N D z;have J:=hid (List.getElem?_set_self (l:=t) (a:={ p with st:=uO p.st l name text }) (zP.1 HP.out).1)
  go_wp2_with (first
   | (go_at_call 24;refine G.out.mono ?_;rintro e w4 ⟨rfl,V,o4⟩;have P4:=hid (y.out.offSet HP.out V o4);have S:=(V.block _ (zx I.out) (by omega)).trans I.out;have s:=(V.block _ (zx M.out) (by omega)).trans M.out;have r1:=(zg S 1).1;have r2:=(zg s 2).1;have r3:=(zg s 3).1;have r4:=(zg s 4).1;simp at r1 r2 r3 r4;have z4:=V.size;clear V o4 S s)
   | (go_at_call 69;refine (a1.out w4 z4 (P4.out.2.ref i _ J.out).1).mono ?_;rintro e w5 he;obtain⟨v5,f7,rfl,t5,r5,o5,a5⟩:=a8.out _ _ _ he;obtain⟨L5,s5,q5⟩:=P4.out.2.refSet J.out t5 r5 o5;have S5:=hid s5;have Q5:=hid q5;have A5:=hid a5;clear he t5 r5 o5 s5 q5 a5))
  go_ret;have hq:=Q5.out;rw[List.set_set] at hq;exact⟨L5,_,_,_,m,rfl,(a9.out.trans P4.out.1).trans S5.out,hq,a2.out.set i A5.out,by rw[uA];exact Nat.le_of_eq HN.out.symm,by rw[uA,HN.out];omega,by omega,by rw[uA,HN.out];exact r⟩
end Go.Proofs.YtdakgnaojakldaaGreatDoor
