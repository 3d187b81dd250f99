/- P -/
import Derived.Test.YtagnlbgbnfnapaaGreatDoorK48
open Go.Proofs.Tryz
set_option maxRecDepth 100000
set_option maxHeartbeats 4000000
namespace Go.Proofs.YtagnlbgbnfnapaaGreatDoor
open Go.RowKit
structure xC where
 ob:Nat
 cb:Nat
 lv:Value
 st:StO
 ks:List zx
def uJ(a:List xC):List Value:=a.flatMap λp=>[.pointer (some ⟨p.ob,0,none⟩),.pointer (some ⟨p.cb,0,none⟩)]
theorem gZ:∀{a:List xC} {i:Nat} {p:xC},a[i]?=some p->(uJ a)[i*2]?=some (.pointer (some ⟨p.ob,0,none⟩))/\(uJ a)[i*2+1]?=some (.pointer (some ⟨p.cb,0,none⟩))
 | [],i,p,h=>by simp at h
 | q::r,0,p,h=>by
  simp only[jr,Option.some.injEq] at h;subst h;exact⟨rfl,rfl⟩
 | q::r,i+1,p,h=>by
  simp only[ko] at h;have b:=gZ h;have e:uJ (q::r) = .pointer (some ⟨q.ob,0,none⟩) :: .pointer (some ⟨q.cb,0,none⟩)::uJ r:=rfl;rw[e,show (i+1)*2=i*2+1+1 by omega];simp only[ko];exact b
theorem Bh(a:List xC)(p:xC):uJ (a++[p])=uJ a++[.pointer (some ⟨p.ob,0,none⟩),.pointer (some ⟨p.cb,0,none⟩)]:=by
 unfold uJ
 simp
theorem KQ:∀{a:List xC} {i:Nat} {p q:xC},a[i]?=some p->q.ob=p.ob->q.cb=p.cb->uJ (a.set i q)=uJ a
 | [],i,p,q,h,_,_=>by simp at h
 | x::r,0,p,q,h,e1,e2=>by
  simp only[jr,Option.some.injEq] at h;subst h;unfold uJ;simp only[List.set_cons_zero,fA,e1,e2]
 | x::r,i+1,p,q,h,e1,e2=>by
  simp only[ko] at h;have b:=KQ h e1 e2;unfold uJ at b |-;simp only[VG,fA,b]
theorem Yg{w:World}{base:Nat}{t:TypeId}{size:Nat}{v:Value}{n:Nat}{xs:List Value}(h:w.ownsRow base t size v n xs):∀g,v.ownBlock=some g->g<w.heap.size:=λg a=>by
 rcases h.2 with ⟨rfl,_⟩|⟨g2,cap2,cur,rfl,hbg,hg2,_⟩
 ·cases a
 ·have:g2=g:=by simpa [Value.ownBlock] using a
  subst this;exact zy hg2
def Lm(L:Nat->Nat):Nat->Prop:=λb=>L b≠0
structure xD (w0:World) (L:Nat->Nat) (W:World) (yb:Nat) (psv bkv:Value) (ps:List xC) (m:Nat):Prop where
 low:Below w0.heap.size w0 W
 base:∀b,L b≠0->w0.heap.size<=b/\b<W.heap.size
 play:W.heap[yb]?=some (.cells #[psv,bkv] 65)
 lyb:L yb=1
 row:W.ownsRow 0 100 2 psv ps.length (uJ ps)
 lps:∀g,psv.ownBlock=some g->L g=2
 book:Yq (Lm L) W bkv m
 lbk:∀g,bkv.ownBlock=some g->L g=3
 off:∀i p,ps[i]?=some p->yE (Lm L) W p.ob p.st/\L p.ob=10+3*i
 ref:∀i p,ps[i]?=some p->xq (Lm L) W p.cb p.lv p.ks/\L p.cb=11+3*i/\∀g,p.lv.ownBlock=some g->L g=12+3*i
structure Goes (L L':Nat->Nat) (S:Nat->Prop) (W W':World):Prop where
 turn:zw (λb=>S (L b)) W W'
 zero:¬S 0
 old:∀b,b<W.heap.size->L' b=L b
 new:∀b,L' b≠0->b<W'.heap.size
section
variable {L L':Nat->Nat} {S:Nat->Prop} {W W':World}
theorem Goes.more(g:Goes L L' S W W'):∀b,Lm L' b->Lm L b\/W.heap.size<=b:=λb hb=>by
 by_cases h:b<W.heap.size
 ·exact .inl (by unfold Lm at hb |-;rw[g.old b h] at hb;exact hb)
 ·exact .inr (by omega)
theorem Goes.turnM(g:Goes L L' S W W'):zw (Lm L') W W':=g.turn.wide (λk b a=>by
 show L' k≠0;rw[g.old k b];intro e;simp only[e] at a;exact g.zero a)
theorem Goes.far(g:Goes L L' S W W'){b c:Nat}(hb:b<W.heap.size)(d:L b=c)(a:¬S c):W'.heap[b]?=W.heap[b]?:=
 g.turn.block b hb (by show ¬S (L b);rw[d];exact a)
theorem Goes.mine(g:Goes L L' S W W'){b:Nat}(hb:b<W.heap.size)(h:Lm L b):Lm L' b:=by
 unfold Lm at h |-;rw[g.old b hb];exact h
theorem Goes.office(g:Goes L L' S W W'){ob:Nat}{st:StO}{c:Nat}(h:yE (Lm L) W ob st)(d:L ob=c)(f:¬S c):yE (Lm L') W' ob st/\L' ob=c:=by
 obtain⟨j,b,e⟩:=h.row;have a:=zy b;exact⟨⟨g.mine a h.mine,⟨j,(g.far a d f).trans b,λi hi=>((e i hi).more g.more).turn g.turnM⟩,h.good⟩,(g.old ob a).trans d⟩
theorem Goes.ref(g:Goes L L' S W W'){cb:Nat}{lv:Value}{ks:List zx}{c d:Nat}(h:xq (Lm L) W cb lv ks)(f:L cb=c)(i:∀g,lv.ownBlock=some g->L g=d)(l:¬S c)(k:¬S d):xq (Lm L') W' cb lv ks/\L' cb=c/\∀g,lv.ownBlock=some g->L' g=d:=by
 obtain⟨xs,e,j⟩:=h.rows;have b:=zy h.cell;have hb:=Yg e;refine⟨⟨g.mine b h.mine,(g.far b f l).trans h.cell,⟨xs,bQ e g.turn (λx a=>?_),(j.more g.more).turn g.turnM⟩,λx a=>⟨g.mine (hb x a) (h.own x a).1,(h.own x a).2⟩⟩,(g.old cb b).trans f,λx a=>(g.old x (hb x a)).trans (i x a)⟩;show ¬S (L x);rw[i x a];exact k
theorem Goes.book(g:Goes L L' S W W'){a:Value}{m c:Nat}(h:Yq (Lm L) W a m)(e:∀g,a.ownBlock=some g->L g=c)(j:¬S c):Yq (Lm L') W' a m/\∀g,a.ownBlock=some g->L' g=c:=by
 obtain⟨l,d,f⟩:=h;have hb:=Yg d;refine⟨⟨l,bQ d g.turn (λx b=>?_),λi v k=>((f i v k).more g.more).turn g.turnM⟩,λx b=>(g.old x (hb x b)).trans (e x b)⟩;show ¬S (L x);rw[e x b];exact j
theorem Goes.row(g:Goes L L' S W W'){t:TypeId}{size:Nat}{v:Value}{n c:Nat}{xs:List Value}(h:W.ownsRow 0 t size v n xs)(b:∀g,v.ownBlock=some g->L g=c)(d:¬S c):W'.ownsRow 0 t size v n xs/\∀g,v.ownBlock=some g->L' g=c:=by
 have hb:=Yg h;refine⟨bQ h g.turn (λx a=>?_),λx a=>(g.old x (hb x a)).trans (b x a)⟩;show ¬S (L x);rw[b x a];exact d
theorem Goes.low{a:World}(g:Goes L L' S W W')(h:Below a.heap.size a W)(hb:∀b,L b≠0->a.heap.size<=b/\b<W.heap.size):Below a.heap.size a W'/\∀b,L' b≠0->a.heap.size<=b/\b<W'.heap.size:=by
 refine⟨h.trans (g.turn.below (λk f d=>?_) h.size),λb c=>⟨?_,g.new b c⟩⟩
 ·have:L k≠0:=λe=>by
   simp only[e] at d;exact g.zero d
  have:=(hb k this).1
  omega
 ·rcases g.more b c with e|e
  ·exact (hb b e).1
  ·have:=h.size;omega
end
structure x8 (L L':Nat->Nat) (W W':World):Prop where
 size:W.heap.size<=W'.heap.size
 keep:∀b,b<W.heap.size->L b=0->W'.heap[b]?=W.heap[b]?
 old:∀b,b<W.heap.size->L' b=L b
theorem Goes.stay{L L':Nat->Nat}{S:Nat->Prop}{W W':World}(g:Goes L L' S W W'):x8 L L' W W':=⟨g.turn.size,λ_ hb a=>g.far hb a g.zero,g.old⟩
theorem x8.of{L:Nat->Nat}{W W':World}(h:Below W.heap.size W W'):x8 L L W W':=⟨h.size,λb hb _=>h.block b hb,λ_ _=>rfl⟩
theorem x8.trans{L L' a:Nat->Nat}{A B C:World}(h:x8 L L' A B)(k:x8 L' a B C):x8 L a A C:=
 ⟨qZ h.size k.size,λb hb c=>(k.keep b (xM hb h.size) ((h.old b hb).trans c)).trans (h.keep b hb c),λb hb=>(k.old b (xM hb h.size)).trans (h.old b hb)⟩
theorem xD.below{j:World}{L:Nat->Nat}{W W':World}{k:Nat}{d c:Value}{f:List xC}{m:Nat}(h:xD j L W k d c f m)(hb:Below W.heap.size W W'):xD j L W' k d c f m:=by
 have g:Goes L L (λ_=>False) W W':=⟨zw.of hb,id,λ_ _=>rfl,λb e=>xM (h.base b e).2 hb.size⟩
 exact⟨(g.low h.low h.base).1,(g.low h.low h.base).2,(g.far (zy h.play) h.lyb id).trans h.play,h.lyb,(g.row h.row h.lps id).1,h.lps,(g.book h.book h.lbk id).1,h.lbk,
  λi p a=>g.office (h.off i p a).1 (h.off i p a).2 id,λi p a=>g.ref (h.ref i p a).1 (h.ref i p a).2.1 (h.ref i p a).2.2 id id⟩
theorem xD.offSet{u:World}{L:Nat->Nat}{W W':World}{v:Nat}{l d:Value}{o:List xC}{m:Nat}(h:xD u L W v l d o m){i:Nat}{p:xC}(c:o[i]?=some p)(t:zw (λb=>b=p.ob) W W'){st:StO}(w:yE (Lm L) W' p.ob st):x8 L L W W'/\xD u L W' v l d (o.set i { p with st:=st }) m:=by
 have s:=(h.off i p c).2;have g:Goes L L (λn=>n=10+3*i) W W':=⟨t.wide (λk _ e=>by show L k=_;rw[e];exact s),by omega,λ_ _=>rfl,λb r=>xM (h.base b r).2 t.size⟩;have f:i<o.length:=(zR.1 c).1;refine⟨g.stay,(g.low h.low h.base).1,(g.low h.low h.base).2,(g.far (zy h.play) h.lyb (by omega)).trans h.play,h.lyb,?_,h.lps,(g.book h.book h.lbk (by omega)).1,h.lbk,λj q a=>?_,λj q a=>?_⟩
 ·rw[KQ (q:={ p with st:=st }) c rfl rfl,uD]
  exact (g.row h.row h.lps (by omega)).1
 ·rw[zt] at a
  by_cases e:i=j
  ·subst e;rw[zb rfl,zb f] at a;injection a with a
   subst a;exact⟨w,s⟩
  ·rw[za e] at a;exact g.office (h.off j q a).1 (h.off j q a).2 (by omega)
 ·rw[zt] at a
  by_cases e:i=j
  ·subst e;rw[zb rfl,zb f] at a;injection a with a
   subst a;exact g.ref (h.ref i p c).1 (h.ref i p c).2.1 (h.ref i p c).2.2 (by omega) (by omega)
  ·rw[za e] at a;exact g.ref (h.ref j q a).1 (h.ref j q a).2.1 (h.ref j q a).2.2 (by omega) (by omega)
def lab(L:Nat->Nat)(v:Value)(n:Nat):Nat->Nat:=λb=>if v.ownBlock=some b then n else L b
theorem mW(L:Nat->Nat)(v:Value){n:Nat}(a:n≠0):Lm (lab L v n)=yY (Lm L) v:=by
 funext b
 unfold Lm lab yY
 by_cases e:v.ownBlock=some b
 ·simp[e,a]
 ·simp[e]
theorem aZ{L:Nat->Nat}{v:Value}{n:Nat}{W:World}(h:∀g,v.ownBlock=some g->L g=n\/W.heap.size<=g):∀b,b<W.heap.size->lab L v n b=L b:=λb hb=>by
 unfold lab
 by_cases e:v.ownBlock=some b
 ·rw[zb e]
  rcases h b e with h|h
  ·exact h.symm
  ·omega
 ·rw[za e]
theorem aY{L:Nat->Nat}{v:Value}{n:Nat}:∀g,v.ownBlock=some g->lab L v n g=n:=λg a=>by unfold lab;rw[zb a]
theorem xD.refSet{B:World}{L:Nat->Nat}{W W':World}{w:Nat}{o d:Value}{r:List xC}{m:Nat}(h:xD B L W w o d r m){i:Nat}{p:xC}(l:r[i]?=some p)(A:zw (λb=>b=p.cb\/p.lv.ownBlock=some b) W W'){v:Value}{ks:List zx}(z:xq (yY (Lm L) v) W' p.cb v ks)(E:∀g,v.ownBlock=some g->p.lv.ownBlock=some g\/W.heap.size<=g):∃L',x8 L L' W W'/\xD B L' W' w o d (r.set i { p with lv:=v,ks:=ks }) m:=by
 obtain⟨D,y,x⟩:=h.ref i p l;have t:∀g,v.ownBlock=some g->L g=12+3*i\/W.heap.size<=g:=λg C=>(E g C).imp (x g) id;obtain⟨xs,u,_⟩:=z.rows;have s:=Yg u
 have g:Goes L (lab L v (12+3*i)) (λn=>n=11+3*i\/n=12+3*i) W W':=⟨A.wide (λk _ e=>by
  show L k=_\/L k=_
  rcases e with e|e
  ·rw[e];exact .inl y
  ·exact .inr (x k e)),by omega,aZ t,λb c=>by
   unfold lab at c
   by_cases e:v.ownBlock=some b
   ·exact s b e
   ·rw[za e] at c;exact xM (h.base b c).2 A.size⟩
 have f:i<r.length:=(zR.1 l).1;refine⟨_,g.stay,(g.low h.low h.base).1,(g.low h.low h.base).2,(g.far (zy h.play) h.lyb (by omega)).trans h.play,(g.old w (zy h.play)).trans h.lyb,?_,(g.row h.row h.lps (by omega)).2,(g.book h.book h.lbk (by omega)).1,(g.book h.book h.lbk (by omega)).2,λj q a=>?_,λj q a=>?_⟩
 ·rw[KQ (q:={ p with lv:=v,ks:=ks }) l rfl rfl,uD]
  exact (g.row h.row h.lps (by omega)).1
 ·rw[zt] at a
  by_cases e:i=j
  ·subst e;rw[zb rfl,zb f] at a;injection a with a
   subst a;exact g.office (h.off i p l).1 (h.off i p l).2 (by omega)
  ·rw[za e] at a;exact g.office (h.off j q a).1 (h.off j q a).2 (by omega)
 ·rw[zt] at a
  by_cases e:i=j
  ·subst e;rw[zb rfl,zb f] at a;injection a with a
   subst a;exact⟨by rw[mW L v (by omega)];exact z,(g.old p.cb (zy D.cell)).trans y,aY⟩
  ·rw[za e] at a;exact g.ref (h.ref j q a).1 (h.ref j q a).2.1 (h.ref j q a).2.2 (by omega) (by omega)
theorem xD.bookAdd{u:World}{L:Nat->Nat}{W W':World}{l:Nat}{c f:Value}{t:List xC}{m:Nat}(h:xD u L W l c f t m){e:Ending}(y:fO (Lm L) W l m c f e W'):∃L' j,x8 L L' W W'/\xD u L' W' l c j t (m+1):=by
 obtain⟨v,_,_,s,w,hb,z⟩:=y;have q:∀g,v.ownBlock=some g->L g=3\/W.heap.size<=g:=λg x=>(z g x).imp (h.lbk g) id;obtain⟨A,r,_⟩:=id hb;have o:=Yg r
 have g:Goes L (lab L v 3) (λn=>n=1\/n=3) W W':=⟨s.wide (λk _ e=>by
  show L k=_\/L k=_
  rcases e with e|e
  ·rw[e];exact .inl h.lyb
  ·exact .inr (h.lbk k e)),by omega,aZ q,λb a=>by
   unfold lab at a
   by_cases e:v.ownBlock=some b
   ·exact o b e
   ·rw[za e] at a;exact xM (h.base b a).2 s.size⟩
 exact⟨_,v,g.stay,(g.low h.low h.base).1,(g.low h.low h.base).2,w,(g.old l (zy h.play)).trans h.lyb,(g.row h.row h.lps (by omega)).1,(g.row h.row h.lps (by omega)).2,by rw[mW L v (by omega)];exact hb,aY,
  λi p d=>g.office (h.off i p d).1 (h.off i p d).2 (by omega),λi p d=>g.ref (h.ref i p d).1 (h.ref i p d).2.1 (h.ref i p d).2.2 (by omega) (by omega)⟩
theorem yE.fresh{M M':Nat->Prop}{W W':World}{ob:Nat}(h:yE M W ob ZK)(hb:W'.heap[ob]?=W.heap[ob]?)(f:M' ob):yE M' W' ob ZK:=by
 obtain⟨n,b,d⟩:=h.row;refine⟨f,⟨n,hb.trans b,λi hi=>?_⟩,h.good⟩;obtain⟨a,c,e,j,l,m,_⟩:=d i hi;exact⟨a,c,e,j,l,m,λk x g=>by simp[ZK] at g⟩
theorem xD.pairAdd{N:World}{L:Nat->Nat}{W D W':World}{y:Nat}{p psv' i:Value}{c:List xC}{m:Nat}(h:xD N L W y p i c m){ob cb:Nat}{M:Nat->Prop}(F:yE M D ob ZK)(u:W'.heap[ob]?=D.heap[ob]?)(R:W.heap.size<=ob)(r:W'.heap[cb]?=some (.cells #[.slice none 0 0] 98))(E:W.heap.size<=cb)(z:ob≠cb)
  (H:zw (λb=>b=y\/p.ownBlock=some b) W W')(Q:W'.heap[y]?=some (.cells #[psv',i] 65))(G:W'.ownsRow 0 100 2 psv' (c.length+1) (uJ c++[.pointer (some ⟨ob,0,none⟩),.pointer (some ⟨cb,0,none⟩)]))(I:∀g,psv'.ownBlock=some g->p.ownBlock=some g\/(W.heap.size<=g/\g≠ob/\g≠cb)) :
  ∃L',x8 L L' W W'/\xD N L' W' y psv' i (c++[⟨ob,cb,.slice none 0 0,ZK,[]⟩]) m:=by
 have B:∀g,psv'.ownBlock=some g->L g=2\/W.heap.size<=g:=λg t=>(I g t).imp (h.lps g) (λx=>x.1);have A:=Yg G;obtain⟨S,v,_⟩:=F.row;have w:=zy (u.trans v);have s:=zy r;refine⟨λb=>if b=ob then 10+3*c.length else if b=cb then 11+3*c.length else lab L psv' 2 b,?_⟩
 obtain⟨L',d⟩:∃L',L'=λb=>if b=ob then 10+3*c.length else if b=cb then 11+3*c.length else lab L psv' 2 b:=⟨_,rfl⟩
 rw[<- d];have lo:L' ob=10+3*c.length:=by rw[d];simp
 have K:L' cb=11+3*c.length:=by rw[d];simp[Ne.symm z]
 have C:∀b,b≠ob->b≠cb->L' b=lab L psv' 2 b:=λb O P=>by rw[d];simp[O,P]
 have g:Goes L L' (λn=>n=1\/n=2) W W':=⟨H.wide (λk _ e=>by
  show L k=_\/L k=_
  rcases e with e|e
  ·rw[e];exact .inl h.lyb
  ·exact .inr (h.lps k e)),by omega,λb hb=>by
   rw[C b (by omega) (by omega)];exact aZ B b hb,λb f=>by
   by_cases e1:b=ob
   ·rw[e1];exact w
   ·by_cases e2:b=cb
    ·rw[e2];exact s
    ·rw[C b e1 e2] at f;unfold lab at f
     by_cases e:psv'.ownBlock=some b
     ·exact A b e
     ·rw[za e] at f;exact xM (h.base b f).2 H.size⟩
 refine⟨g.stay,(g.low h.low h.base).1,(g.low h.low h.base).2,Q,(g.old y (zy h.play)).trans h.lyb,?_,λx J=>?_,(g.book h.book h.lbk (by omega)).1,(g.book h.book h.lbk (by omega)).2,λj q a=>?_,λj q a=>?_⟩
 ·rw[Bh,qA];exact G
 ·have:x≠ob/\x≠cb:=by
   rcases I x J with e|e
   ·have:=Yg h.row x e
    exact⟨by omega,by omega⟩
   ·exact e.2
  rw[C x this.1 this.2];exact aY x J
 ·by_cases hj:j<c.length
  ·rw[xK hj] at a;exact g.office (h.off j q a).1 (h.off j q a).2 (by omega)
  ·have o:=(zR.1 a).1;simp at o;have l:j=c.length:=by omega
   subst l;rw[xZ (ze _)] at a;simp at a;subst a;exact⟨F.fresh u (by unfold Lm;rw[lo];omega),lo⟩
 ·by_cases hj:j<c.length
  ·rw[xK hj] at a;exact g.ref (h.ref j q a).1 (h.ref j q a).2.1 (h.ref j q a).2.2 (by omega) (by omega)
  ·have o:=(zR.1 a).1;simp at o;have l:j=c.length:=by omega
   subst l;rw[xZ (ze _)] at a;simp at a;subst a;exact⟨⟨by unfold Lm;rw[K];omega,r,⟨[],qD _ _ _ _,xu.nil⟩,λg t=>by cases t⟩,K,λg t=>by cases t⟩
theorem YU{st:StO}{ks:List zx}(h:Agree st ks){i:Nat}(hi:i<4){name:BY}(b:ks.findIdx? (isR (i:Int) name)=none):zq (st i) name=false:=by
 cases e:zq (st i) name with
 | false=>rfl
 | true=>
  obtain⟨k,a⟩:=(h.has hi).1 e;rw[b] at a
  cases a
theorem NQ{st:StO}{ks:List zx}(h:Agree st ks){l:Int}{name text:BY}{M:Nat->Prop}{cb:Nat}{lv:Value}{w w':World}{e:Ending}(q:Kv ks l name text M cb lv w e w') :
  ∃m a,e = .returned (.tuple #[.int .i64 (uq st l name text).1,.int .i64 ((uq st l name text).2:Int)])/\zw (λb=>b=cb\/lv.ownBlock=some b) w w'/\xq (yY M m) w' cb m a/\(∀g,m.ownBlock=some g->lv.ownBlock=some g\/w.heap.size<=g)/\Agree (uQ st l name text) a:=by
 obtain⟨E,A,m,a,f,s,_,r,p,c1,c2,c3,c4⟩:=q;refine⟨m,a,?_,s,r,p,?_⟩
 all_goals
  by_cases hpl:qw l name=0
  ·by_cases hd:(Rd.xe text).1=0
   ·obtain⟨i,rfl,hi,j⟩:=Y7 hpl
    cases hf:ks.findIdx? (isR (i:Int) name) with
    | some k=>
     obtain⟨rfl,rfl,rfl⟩:=c3 hpl hd k hf;have c:=(h.has hi).2 ⟨k,hf⟩
     first
      | (rw[f];unfold uq;rw[zb hpl,zb hd,xQ,c];rfl)
      | (unfold uQ QW;rw[xQ,c,zC hpl,zC hd];exact h.set hi j hd hf)
    | none=>
     obtain⟨out,n,o⟩:=c4 hpl hd hf;have c:=YU h hi hf;have hlen:(st i).length=out.length:=by rw[h.layer hi n,qB]
     rcases o with ⟨h4,rfl,rfl,rfl⟩|⟨h4,rfl,rfl,rfl⟩
     ·have d:decide ((st i).length<4)=false:=zO (by omega)
      first
       | (rw[f];unfold uq;rw[zb hpl,zb hd,xQ,c,d];rfl)
       | (unfold uQ QW;rw[xQ,c,d,zC hpl,zC hd];exact h)
     ·have d:decide ((st i).length<4)=true:=zC (by omega)
      first
       | (rw[f];unfold uq;rw[zb hpl,zb hd,xQ,c,d];rfl)
       | (unfold uQ QW;rw[xQ,c,d,zC hpl,zC hd];exact h.add hi j hd hf)
   ·obtain⟨rfl,rfl,rfl⟩:=c2 hpl hd
    first
     | (rw[f];unfold uq;rw[zb hpl,za hd])
     | (unfold uQ QW;rw[zC hpl,zO hd];exact h)
  ·obtain⟨rfl,rfl,rfl⟩:=c1 hpl
   first
    | (rw[f];unfold uq;(rw[za hpl]<;>rfl))
    | (unfold uQ QW;rw[zO hpl];exact h)
theorem DL{st:StO}{ks:List zx}(h:Agree st ks){l:Int}{name:BY}{M:Nat->Prop}{cb:Nat}{lv:Value}{w w':World}{e:Ending}(o:U8 ks l name M cb lv w e w') :
  ∃d a,e = .returned (.int .i64 (QP st l name))/\zw (λb=>b=cb\/lv.ownBlock=some b) w w'/\xq (yY M d) w' cb d a/\(∀g,d.ownBlock=some g->lv.ownBlock=some g\/w.heap.size<=g)/\Agree (QQ st l name) a:=by
 obtain⟨E,d,a,f,q,_,p,j,c1,c2,c3⟩:=o;refine⟨d,a,?_,q.wide (λ_ _ e => .inl e),p,λg m=>?_,?_⟩
 rotate_left
 ·rcases j with rfl|j
  ·exact .inl m
  ·exact .inr (j g m)
 all_goals
  by_cases hpl:qw l name=0
  ·obtain⟨i,rfl,hi,n⟩:=Y7 hpl
   cases hf:ks.findIdx? (isR (i:Int) name) with
   | some k=>
    obtain⟨rfl,rfl⟩:=c3 hpl k hf;have c:=(h.has hi).2 ⟨k,hf⟩
    first
     | (rw[f];unfold QP;rw[zb hpl,xQ,c];rfl)
     | (unfold QQ;rw[xQ,zb ⟨hpl,c⟩];exact h.less hi hf)
   | none=>
    obtain⟨rfl,rfl⟩:=c2 hpl hf;have c:=YU h hi hf
    first
     | (rw[f];unfold QP;rw[zb hpl,xQ,c];rfl)
     | (unfold QQ;rw[xQ,c,za (by simp)];exact h)
  ·obtain⟨rfl,rfl⟩:=c1 hpl
   first
    | (rw[f];unfold QP;rw[za hpl])
    | (unfold QQ;rw[za (λx=>hpl x.1)];exact h)
theorem Py{st:StO}{ks:List zx}(h:Agree st ks){l:Int}{name:BY}{w w':World}{e:Ending}(f:Ky ks l name w e w') :
  e = .returned (.tuple #[.string (QZ st l name),.int .i64 (Q0 st l name)])/\Below w.heap.size w w':=by
 obtain⟨s,E,c,hb,c1,c2,c3⟩:=f;refine⟨?_,hb⟩;rw[c]
 by_cases hpl:qw l name=0
 ·obtain⟨i,rfl,hi,d⟩:=Y7 hpl
  cases hf:ks.findIdx? (isR (i:Int) name) with
  | some k=>
   obtain⟨x,b,_⟩:=JQ hf;obtain⟨rfl,rfl⟩:=c3 hpl k x hf b;have a:=(h.has hi).2 ⟨k,hf⟩;unfold QZ Q0;rw[zb hpl,xQ,zb ⟨hpl,a⟩,h.shown hi hf b,a]
   rfl
  | none=>
   obtain⟨rfl,rfl⟩:=c2 hpl hf;have a:=YU h hi hf;unfold QZ Q0;rw[zb hpl,xQ,a,za (by simp)]
   rfl
 ·obtain⟨rfl,rfl⟩:=c1 hpl;unfold QZ Q0;rw[za hpl,za (λx=>hpl x.1)]
theorem Mf{st:StO}{ks:List zx}(h:Agree st ks){l:Int}{w w':World}{e:Ending}(d:Kq ks l w e w') :
  ∃v,e = .returned (.tuple #[v,.int .i64 (QU l)])/\zz w' w.heap.size v (Xw st l)/\Below w.heap.size w w':=by
 obtain⟨v,ns,b,c,hb,c1,c2⟩:=d;refine⟨v,b,?_,hb⟩
 have:ns=Xw st l:=by
  unfold Xw
  cases hl:jh l with
  | false=>rw[za (by simp)];exact c1 hl
  | true=>
   rw[zb rfl];obtain⟨out,a,rfl⟩:=c2 hl
   have f:∃i:Nat,l=(i:Int)/\i<4:=by
    unfold jh at hl;simp at hl;exact⟨l.toNat,by omega,by omega⟩
   obtain⟨i,rfl,hi⟩:=f;rw[xQ,h.layer hi a,ui]
   rfl
 rw[<- this];exact c
theorem Md{st:StO}(a:∀i,i<4->Z7 (st i))(l:Int):(Xw st l).length<=1000:=by
 unfold Xw
 cases hl:jh l with
 | false=>simp
 | true=>
  rw[zb rfl,qB]
  have b:l.toNat<4:=by
   unfold jh at hl;simp at hl;omega
  have:=(a _ b).2.1
  omega
def vO(a:List xC):Prop:=∀(i:Nat) (p:xC),a[i]?=some p->Agree p.st p.ks
theorem vO.set{b:List xC}(h:vO b)(i:Nat){q:xC}(c:Agree q.st q.ks):vO (b.set i q):=λj p a=>by
 rw[zt] at a
 by_cases e:i=j
 ·rw[zb e] at a
  split at a
  ·injection a with a
   subst a;exact c
  ·cases a
 ·rw[za e] at a;exact h j p a
theorem vO.add{b:List xC}(h:vO b){q:xC}(e:Agree q.st q.ks):vO (b++[q]):=λj p a=>by
 by_cases hj:j<b.length
 ·rw[xK hj] at a;exact h j p a
 ·have d:=(zR.1 a).1;simp at d;have c:j=b.length:=by omega
  subst c;rw[xZ (ze _)] at a;simp at a;subst a;exact e
def XT(d:World)(L:Nat->Nat)(w:World)(f n m:Nat)(e:Ending)(w':World):Prop:=
 ∃L' c b a m',e = .returned (.bool true)/\x8 L L' w w'/\xD d L' w' f c b a m'/\vO a/\n<=a.length/\a.length<=n+1/\m'<=m+1/\0<a.length
def ZU(k a l:Int)(name text who act on:BY)(ma:Option Addr)(mn mc:Nat):Value := .agg #[.int .i64 k,.int .i64 a,.int .i64 l,.string name,.string text,.string who,.string act,.string on,.slice ma mn mc]
theorem xD.pick{t:World}{L:Nat->Nat}{W:World}{l:Nat}{b d:Value}{a:List xC}{m:Nat}(h:xD t L W l b d a m)(c:Int)(r:0<a.length):∃g s p,b = .slice (some ⟨g,0,none⟩) a.length s/\Kp.vM c a.length<a.length/\a[Kp.vM c a.length]?=some p/\W.cell? ⟨l,0,none⟩=some b/\W.cell? ⟨g,Kp.vM c a.length*2,none⟩=some (.pointer (some ⟨p.ob,0,none⟩))/\W.cell? ⟨g,Kp.vM c a.length*2+1,none⟩=some (.pointer (some ⟨p.cb,0,none⟩))/\W.cell? ⟨l,1,none⟩=some d:=by
 have k:Kp.vM c a.length<a.length:=Kp.Nq c a.length r;have q:=zn k;have n:=(zg h.play 0).1;have f:=(zg h.play 1).1;simp at n f;have o:=gZ q
 rcases h.row.2 with ⟨_,h0⟩|⟨g,cap,cur,e,_⟩
 ·omega
 ·have j:=λi hi=>World.ownsRow.cellAt (g:=g) (cap:=cap) (by rw[<- e];exact h.row) i hi;exact⟨g,cap,_,e,k,q,n,(j _ (by omega)).trans o.1,(j _ (by omega)).trans o.2,f⟩
theorem Uz{k:World}{L:Nat->Nat}{W:World}{l:Nat}{g c:Value}{f:List xC}{m:Nat}(h:xD k L W l g c f m)(d:vO f){i:Nat}{p:xC}(j:f[i]?=some p):p.ks.length<=16/\(∀x ∈ p.ks,x.name.size<=maxLen)/\(∀x ∈ p.ks,x.rs.length<=10/\∀r ∈ x.rs,Ref.ky r)/\Agree p.st p.ks:=by
 have a:=d i p j;refine⟨a.few (λi hi=>((h.off _ p j).1.good i hi).2.1),λx b=>?_,λx b=>⟨(a.ok x b).2.1,(a.ok x b).2.2.1⟩,a⟩
 have:=(a.ok x b).1
 by_cases e:1<=x.name.size/\x.name.size<=12
 ·unfold maxLen;omega
 ·rw[Ref.JW _ e] at this
  cases this
theorem sF(w0:World)(aL:Addr)(hC:Z5 w0 aL)(L:Nat->Nat)(w:World)(yb:Nat)(c1 b4:Value)(t:List xC)(m:Nat)(h:xD w0 L w yb c1 b4 t m)(B:vO t)(r:0<t.length)(b8:t.length<=5000000000000)(a l:Int)(name text who act on:BY)(ma:Option Addr)(mn mc:Nat)(hA:I64 a)(hs:name.size<=maxLen)(ht:text.size<=maxLen) :
  Calls prog 19 #[.pointer (some ⟨yb,0,none⟩),ZU 2 a l name text who act on ma mn mc] w (XT w0 L w yb t.length m):=by
 unfold ZU;obtain⟨f,k⟩:∃W,w.alloc (.cells #[.int .i64 2,.int .i64 a,.int .i64 l,.string name,.string text,.string who,.string act,.string on,.slice ma mn mc] 67)=W:=⟨_,rfl⟩;have b1:Below w.heap.size w f:=by rw[<- k];exact nbl w _
 have o:f.heap[w.heap.size]?=some (.cells #[.int .i64 2,.int .i64 a,.int .i64 l,.string name,.string text,.string who,.string act,.string on,.slice ma mn mc] 67):=by rw[<- k];exact zQ w _
 have h1:=h.below b1;obtain⟨g,pc,p,rfl,R,C,O,Q,P,b6⟩:=h1.pick a r;have Z:=(zg o 0).1;have k1:=(zg o 1).1;simp at Z k1;have Y:=λW=>UB a t.length W hA r (by omega);obtain⟨n,hn⟩:∃x,t.length=x:=⟨_,rfl⟩;obtain⟨i,hi⟩:∃x,Kp.vM a t.length=x:=⟨_,rfl⟩;simp only[hi] at C Q P R Y;have c:=λb (hb:L b≠0)=>(h.base b hb).2;have c0:=(h.off i p C).2;have b9:=(h.ref i p C).2.1;have T:=(h.ref i p C).2.2;have f8:p.ob<w.heap.size:=c _ (by omega);have e6:p.cb<w.heap.size:=c _ (by omega);have U:∀g,p.lv.ownBlock=some g->g<w.heap.size:=λg hg=>c _ (by have:=T g hg;omega);have v:=hid (Uz h B C);simp only[hn] at R r b8 O Y |-;have CP:=hid Y;have HN:=hid hn;have HP:=hid C;have H1:=hid h1;have u:=hid o;have a2:=hid B;have K:=hid k;have a3:=hid b1;have e1:=hid U;have a4:=hid c;have i0:(0:Int)<=(i:Int):=zZ _;have i1:(i:Int)<(n:Int):=by omega
 have f3:((n:Int)==0)=false:=by simp;omega
 clear Y hn hi C h1 o B k b1 h U c c0 b9 T;go_enter func19,ntmps19
 go_upto_region 1 with fail
 rw[K.out];clear K
 go_upto_region 16 with fail
 go_cut [6] (λv6 wc=>v6 = .pointer (some ⟨f.heap.size,0,none⟩)/\wc=(f.alloc (.cells #[.pointer (some ⟨p.ob,0,none⟩),.pointer (some ⟨p.cb,0,none⟩)] 100)).drew)
 case first=>
  go_region_held3 (λw'=>w'.cell? ⟨yb,0,none⟩=some (.slice (some ⟨g,0,none⟩) n pc)/\w'.cell? ⟨w.heap.size,1,none⟩=some (.int .i64 a)/\w'.cell? ⟨g,i*2,none⟩=some (.pointer (some ⟨p.ob,0,none⟩))/\w'.cell? ⟨g,i*2+1,none⟩=some (.pointer (some ⟨p.cb,0,none⟩))) (go_keep) (first|(go_at_call 35;refine (CP.out _).mono ?_;rintro e w3 ⟨rfl,e3⟩;rw[e3];clear e3))
  all_goals
   go_wp2_with fail
   go_meet
   case rel=>exact⟨rfl,rfl⟩
 case rest=>
  obtain⟨rfl,F⟩:=hcut;have X:Below f.heap.size f wc:=by rw[F];exact (nbl f _).drew
  have q:wc.heap[f.heap.size]?=some (.cells #[.pointer (some ⟨p.ob,0,none⟩),.pointer (some ⟨p.cb,0,none⟩)] 100):=by rw[F];exact zQ f _
  clear F CP O Q P b6 Z k1;have y:=hid (H1.out.below X);have d:=(X.block _ (zy u.out)).trans u.out;have g8:w.heap.size<f.heap.size:=zy u.out;have g9:f.heap.size<wc.heap.size:=zy q;have a9:Hid (x8 L L w wc):=hid ((x8.of a3.out).trans (x8.of X));have H:Hid (∀b,Lm L b->b<w.heap.size):=hid a4.out;have p0:=(zg q 0).1;have Z:=(zg d 0).1;have k2:=(zg d 2).1;have k3:=(zg d 3).1;have k4:=(zg d 4).1;simp at p0 Z k2 k3 k4;have I:=hid q;have M:=hid d;clear q d X;have j:=NP p.ob p.st l name text (Lm L) aL wc (hC.below y.out.low) (y.out.off i p HP.out).1 (λb hb=>Jt (H.out b hb) (by omega)) hs;have N:=λ(W:World) (hz:wc.heap.size<=W.heap.size) (hr:xq (Lm L) W p.cb p.lv p.ks)=>NN p.cb p.lv p.ks l name text (Lm L) W hr (by have:=v.out.1;omega) v.out.2.1 hs ht (λb hb=>xM (Jt (H.out b hb) (by omega)) hz);have D:=λ(W W':World) (e:Ending) (h:Kv p.ks l name text (Lm L) p.cb p.lv W e W')=>NQ v.out.2.2.2 h;obtain⟨⟨E,A⟩,z⟩:∃x,uq p.st l name text=x:=⟨_,rfl⟩;rw[z] at j;simp only[z] at D;have d1:(E==E)=true:=by simp
  have d2:((A:Int)==(A:Int))=true:=by simp
  have G:=hid j;have a1:=hid N;have a8:=hid D;clear j N D z;have J:=hid (List.getElem?_set_self (l:=t) (a:={ p with st:=uQ p.st l name text }) (zR.1 HP.out).1)
  go_wp2_with (first
   | (go_at_call 13;refine G.out.mono ?_;rintro e w4 ⟨rfl,V,o4⟩;have P4:=hid (y.out.offSet HP.out V o4);have S:=(V.block _ (zy I.out) (by omega)).trans I.out;have s:=(V.block _ (zy M.out) (by omega)).trans M.out;have r1:=(zg S 1).1;have r2:=(zg s 2).1;have r3:=(zg s 3).1;have r4:=(zg s 4).1;simp at r1 r2 r3 r4;have z4:=V.size;clear V o4 S s)
   | (go_at_call 36;refine (a1.out w4 z4 (P4.out.2.ref i _ J.out).1).mono ?_;rintro e w5 he;obtain⟨v5,f7,rfl,t5,r5,o5,a5⟩:=a8.out _ _ _ he;obtain⟨L5,s5,q5⟩:=P4.out.2.refSet J.out t5 r5 o5;have S5:=hid s5;have Q5:=hid q5;have A5:=hid a5;clear he t5 r5 o5 s5 q5 a5))
  go_ret;have hq:=Q5.out;rw[List.set_set] at hq;exact⟨L5,_,_,_,m,rfl,(a9.out.trans P4.out.1).trans S5.out,hq,a2.out.set i A5.out,by rw[uD];exact Nat.le_of_eq HN.out.symm,by rw[uD,HN.out];omega,by omega,by rw[uD,HN.out];exact r⟩
end Go.Proofs.YtagnlbgbnfnapaaGreatDoor
