/- P -/
import Derived.Test.YtfjpcldndaiifaaGreatDoorA32
open Go.Proofs.Tryz
set_option maxRecDepth 100000
set_option maxHeartbeats 4000000
namespace Go.Proofs.YtfjpcldndaiifaaGreatDoor
open Go.RowKit
structure xK where
 ob:Nat
 cb:Nat
 lv:Y
 st:StO
 ks:List zy
def ZT(a:List xK):List Y:=a.flatMap λp=>[RG p.ob 0,RG p.cb 0]
theorem tQ:∀{a:List xK} {i:Nat} {p:xK},a[i]?=some p->(ZT a)[i*2]?=some (RG p.ob 0)/\(ZT a)[i*2+1]?=some (RG p.cb 0)
 | [],i,p,h=>by simp at h
 | q::r,0,p,h=>by
  simp only[jE,Option.some.injEq]at h;subst h;exact⟨rfl,rfl⟩
 | q::r,i+1,p,h=>by
  simp only[kW]at h;have b:=tQ h;have e:ZT (q::r)=.pointer (some (G8 q.ob 0)) :: .pointer (some (G8 q.cb 0))::ZT r:=rfl;rw[e,show (i+1)*2=i*2+1+1 by omega];simp only[kW];exact b
theorem LW(a:List xK)(p:xK):ZT (a++[p])=ZT a++[RG p.ob 0,RG p.cb 0]:=by
 unfold ZT
 simp
theorem iB:∀{a:List xK} {i:Nat} {p q:xK},a[i]?=some p->q.ob=p.ob->q.cb=p.cb->ZT (a.set i q)=ZT a
 | [],i,p,q,h,_,_=>by simp at h
 | x::r,0,p,q,h,e1,e2=>by
  simp only[jE,Option.some.injEq]at h;subst h;unfold ZT;simp only[List.set_cons_zero,ry,e1,e2]
 | x::r,i+1,p,q,h,e1,e2=>by
  simp only[kW]at h;have b:=iB h e1 e2;unfold ZT at b |-;simp only[aR,ry,b]
theorem Vn{w:J}{base:Nat}{t:TypeId}{size:Nat}{v:Y}{n:Nat}{xs:List Y}(h:w.ownsRow base t size v n xs):∀g,v.ownBlock=some g->g<w.heap.size:=λg a=>by
 rcases h.2 with⟨rfl,_⟩|⟨g2,cap2,cur,rfl,hbg,hg2,_⟩
 ·cases a
 have:g2=g:=by simpa [Value.ownBlock] using a
 subst this;exact zt hg2
def Lm(L:Nat->Nat):Nat->Prop:=λb=>L b≠0
structure xL (w0:J) (L:Nat->Nat) (W:J) (yb:Nat) (psv bkv:Y) (ps:List xK) (m:Nat):Prop where
 low:BQ w0 W
 base:∀b,L b≠0->w0.heap.size<=b/\b<W.heap.size
 play:W.heap[yb]?=some (L8 #[psv,bkv] 32)
 lyb:L yb=1
 row:W.ownsRow 0 47 2 psv ps.length (ZT ps)
 lps:∀g,psv.ownBlock=some g->L g=2
 book:Vx (Lm L) W bkv m
 lbk:∀g,bkv.ownBlock=some g->L g=3
 off:∀i p,ps[i]?=some p->yz (Lm L) W p.ob p.st/\L p.ob=10+3*i
 ref:∀i p,ps[i]?=some p->xM (Lm L) W p.cb p.lv p.ks/\L p.cb=11+3*i/\∀g,p.lv.ownBlock=some g->L g=12+3*i
structure Goes (L L':Nat->Nat) (S:Nat->Prop) (W W':J):Prop where
 turn:zx (λb=>S (L b)) W W'
 zero:¬S 0
 old:∀b,b<W.heap.size->L' b=L b
 new:∀b,L' b≠0->b<W'.heap.size
section
variable {L L':Nat->Nat} {S:Nat->Prop} {W W':J}
theorem Goes.more(g:Goes L L' S W W'):∀b,Lm L' b->Lm L b\/W.heap.size<=b:=λb a=>by
 by_cases h:b<W.heap.size
 ·exact .inl (by unfold Lm at a |-;rw[g.old b h]at a;exact a)
 exact .inr (by omega)
theorem Goes.turnM(g:Goes L L' S W W'):zx (Lm L') W W':=g.turn.wide (λk b a=>by
 show L' k≠0;rw[g.old k b];intro e;simp only[e]at a;exact g.zero a)
theorem Goes.far(g:Goes L L' S W W'){b c:Nat}(d:b<W.heap.size)(e:L b=c)(a:¬S c):W'.heap[b]?=W.heap[b]?:=
 g.turn.block b d (by show ¬S (L b);rw[e];exact a)
theorem Goes.mine(g:Goes L L' S W W'){b:Nat}(a:b<W.heap.size)(h:Lm L b):Lm L' b:=by
 unfold Lm at h |-;rw[g.old b a];exact h
theorem Goes.office(g:Goes L L' S W W'){a:Nat}{f:StO}{c:Nat}(h:yz (Lm L) W a f)(e:L a=c)(k:¬S c):yz (Lm L') W' a f/\L' a=c:=by
 obtain⟨m,d,j⟩:=h.row;have b:=zt d;exact⟨⟨g.mine b h.mine,⟨m,(g.far b e k).trans d,λi l=>((j i l).more g.more).turn g.turnM⟩,h.good⟩,(g.old a b).trans e⟩
theorem Goes.ref(g:Goes L L' S W W'){cb:Nat}{b:Y}{l:List zy}{c d:Nat}(h:xM (Lm L) W cb b l)(j:L cb=c)(k:∀g,b.ownBlock=some g->L g=d)(o:¬S c)(n:¬S d):xM (Lm L') W' cb b l/\L' cb=c/\∀g,b.ownBlock=some g->L' g=d:=by
 obtain⟨p,f,m⟩:=h.rows;have e:=zt h.cell;have i:=Vn f;refine⟨⟨g.mine e h.mine,(g.far e j o).trans h.cell,⟨p,nz f g.turn (λx a=>?_),(m.more g.more).turn g.turnM⟩,λx a=>⟨g.mine (i x a) (h.own x a).1,(h.own x a).2⟩⟩,(g.old cb e).trans j,λx a=>(g.old x (i x a)).trans (k x a)⟩;show ¬S (L x);rw[k x a];exact n
theorem Goes.book(g:Goes L L' S W W'){a:Y}{m c:Nat}(h:Vx (Lm L) W a m)(e:∀g,a.ownBlock=some g->L g=c)(j:¬S c):Vx (Lm L') W' a m/\∀g,a.ownBlock=some g->L' g=c:=by
 obtain⟨n,d,f⟩:=h;have k:=Vn d;refine⟨⟨n,nz d g.turn (λx b=>?_),λi v l=>((f i v l).more g.more).turn g.turnM⟩,λx b=>(g.old x (k x b)).trans (e x b)⟩;show ¬S (L x);rw[e x b];exact j
theorem Goes.row(g:Goes L L' S W W'){t:TypeId}{size:Nat}{v:Y}{n c:Nat}{xs:List Y}(h:W.ownsRow 0 t size v n xs)(b:∀g,v.ownBlock=some g->L g=c)(d:¬S c):W'.ownsRow 0 t size v n xs/\∀g,v.ownBlock=some g->L' g=c:=by
 have e:=Vn h;refine⟨nz h g.turn (λx a=>?_),λx a=>(g.old x (e x a)).trans (b x a)⟩;show ¬S (L x);rw[b x a];exact d
theorem Goes.low{a:J}(g:Goes L L' S W W')(h:BQ a W)(d:∀b,L b≠0->a.heap.size<=b/\b<W.heap.size):BQ a W'/\∀b,L' b≠0->a.heap.size<=b/\b<W'.heap.size:=by
 refine⟨h.trans (g.turn.below (λk i f=>?_) h.size),λb c=>⟨?_,g.new b c⟩⟩
 ·have:L k≠0:=λe=>by
   simp only[e]at f;exact g.zero f
  have:=(d k this).1
  omega
 rcases g.more b c with e|e
 ·exact(d b e).1
 have:=h.size;omega
end
structure xw (L L':Nat->Nat) (W W':J):Prop where
 size:W.heap.size<=W'.heap.size
 keep:∀b,b<W.heap.size->L b=0->W'.heap[b]?=W.heap[b]?
 old:∀b,b<W.heap.size->L' b=L b
theorem Goes.stay{L L':Nat->Nat}{S:Nat->Prop}{W W':J}(g:Goes L L' S W W'):xw L L' W W':=⟨g.turn.size,λ_ b a=>g.far b a g.zero,g.old⟩
theorem xw.of{L:Nat->Nat}{W W':J}(h:BQ W W'):xw L L W W':=⟨h.size,λb a _=>h.block b a,λ_ _=>rfl⟩
theorem xw.trans{L L' c:Nat->Nat}{A B C:J}(h:xw L L' A B)(k:xw L' c B C):xw L c A C:=
 ⟨xD h.size k.size,λb a d=>(k.keep b (xO a h.size) ((h.old b a).trans d)).trans (h.keep b a d),λb a=>(k.old b (xO a h.size)).trans (h.old b a)⟩
theorem xL.below{k:J}{L:Nat->Nat}{W W':J}{l:Nat}{d c:Y}{j:List xK}{m:Nat}(h:xL k L W l d c j m)(f:BQ W W'):xL k L W' l d c j m:=by
 have g:Goes L L (λ_=>False) W W':=⟨zx.of f,id,λ_ _=>rfl,λb e=>xO (h.base b e).2 f.size⟩
 exact⟨(g.low h.low h.base).1,(g.low h.low h.base).2,(g.far (zt h.play) h.lyb id).trans h.play,h.lyb,(g.row h.row h.lps id).1,h.lps,(g.book h.book h.lbk id).1,h.lbk,
  λi p a=>g.office (h.off i p a).1 (h.off i p a).2 id,λi p a=>g.ref (h.ref i p a).1 (h.ref i p a).2.1 (h.ref i p a).2.2 id id⟩
theorem xL.offSet{u:J}{L:Nat->Nat}{W W':J}{v:Nat}{l d:Y}{o:List xK}{m:Nat}(h:xL u L W v l d o m){i:Nat}{p:xK}(c:o[i]?=some p)(t:zx (λb=>b=p.ob) W W'){st:StO}(w:yz (Lm L) W' p.ob st):xw L L W W'/\xL u L W' v l d (o.set i { p with st:=st }) m:=by
 have s:=(h.off i p c).2;have g:Goes L L (λn=>n=10+3*i) W W':=⟨t.wide (λk _ e=>by show L k=_;rw[e];exact s),by omega,λ_ _=>rfl,λb r=>xO (h.base b r).2 t.size⟩;have f:i<o.length:=(zU.1 c).1;refine⟨g.stay,(g.low h.low h.base).1,(g.low h.low h.base).2,(g.far (zt h.play) h.lyb (by omega)).trans h.play,h.lyb,?_,h.lps,(g.book h.book h.lbk (by omega)).1,h.lbk,λj q a=>?_,λj q a=>?_⟩
 ·rw[iB (q:={ p with st:=st }) c rfl rfl,ZL]
  exact(g.row h.row h.lps (by omega)).1
 ·rw[zu]at a
  by_cases e:i=j
  ·subst e;rw[zb rfl,zb f]at a;injection a with a
   subst a;exact⟨w,s⟩
  rw[za e]at a;exact g.office (h.off j q a).1 (h.off j q a).2 (by omega)
 rw[zu]at a
 by_cases e:i=j
 ·subst e;rw[zb rfl,zb f]at a;injection a with a
  subst a;exact g.ref (h.ref i p c).1 (h.ref i p c).2.1 (h.ref i p c).2.2 (by omega) (by omega)
 rw[za e]at a;exact g.ref (h.ref j q a).1 (h.ref j q a).2.1 (h.ref j q a).2.2 (by omega) (by omega)
def lab(L:Nat->Nat)(v:Y)(n:Nat):Nat->Nat:=λb=>if v.ownBlock=some b then n else L b
theorem BO(L:Nat->Nat)(v:Y){n:Nat}(a:n≠0):Lm (lab L v n)=jW (Lm L) v:=by
 funext b
 unfold Lm lab jW
 by_cases e:v.ownBlock=some b
 ·simp[e,a]
 simp[e]
theorem mi{L:Nat->Nat}{v:Y}{n:Nat}{W:J}(h:∀g,v.ownBlock=some g->L g=n\/W.heap.size<=g):∀b,b<W.heap.size->lab L v n b=L b:=λb a=>by
 unfold lab
 by_cases e:v.ownBlock=some b
 ·rw[zb e]
  rcases h b e with h|h
  ·exact h.symm
  omega
 rw[za e]
theorem mh{L:Nat->Nat}{v:Y}{n:Nat}:∀g,v.ownBlock=some g->lab L v n g=n:=λg a=>by unfold lab;rw[zb a]
theorem xL.refSet{B:J}{L:Nat->Nat}{W W':J}{w:Nat}{o d:Y}{r:List xK}{m:Nat}(h:xL B L W w o d r m){i:Nat}{p:xK}(l:r[i]?=some p)(A:zx (λb=>b=p.cb\/p.lv.ownBlock=some b) W W'){v:Y}{ks:List zy}(z:xM (jW (Lm L) v) W' p.cb v ks)(E:∀g,v.ownBlock=some g->p.lv.ownBlock=some g\/W.heap.size<=g):∃L',xw L L' W W'/\xL B L' W' w o d (r.set i { p with lv:=v,ks:=ks }) m:=by
 obtain⟨D,y,x⟩:=h.ref i p l;have t:∀g,v.ownBlock=some g->L g=12+3*i\/W.heap.size<=g:=λg C=>(E g C).imp (x g) id;obtain⟨F,u,_⟩:=z.rows;have s:=Vn u
 have g:Goes L (lab L v (12+3*i)) (λn=>n=11+3*i\/n=12+3*i) W W':=⟨A.wide (λk _ e=>by
  show L k=_\/L k=_
  rcases e with e|e
  ·rw[e];exact .inl y
  exact .inr (x k e)),by omega,mi t,λb c=>by
  unfold lab at c
  by_cases e:v.ownBlock=some b
  ·exact s b e
  rw[za e]at c;exact xO (h.base b c).2 A.size⟩
 have f:i<r.length:=(zU.1 l).1;refine⟨_,g.stay,(g.low h.low h.base).1,(g.low h.low h.base).2,(g.far (zt h.play) h.lyb (by omega)).trans h.play,(g.old w (zt h.play)).trans h.lyb,?_,(g.row h.row h.lps (by omega)).2,(g.book h.book h.lbk (by omega)).1,(g.book h.book h.lbk (by omega)).2,λj q a=>?_,λj q a=>?_⟩
 ·rw[iB (q:={ p with lv:=v,ks:=ks }) l rfl rfl,ZL]
  exact(g.row h.row h.lps (by omega)).1
 ·rw[zu]at a
  by_cases e:i=j
  ·subst e;rw[zb rfl,zb f]at a;injection a with a
   subst a;exact g.office (h.off i p l).1 (h.off i p l).2 (by omega)
  rw[za e]at a;exact g.office (h.off j q a).1 (h.off j q a).2 (by omega)
 rw[zu]at a
 by_cases e:i=j
 ·subst e;rw[zb rfl,zb f]at a;injection a with a
  subst a;exact⟨by rw[BO L v (by omega)];exact z,(g.old p.cb (zt D.cell)).trans y,mh⟩
 rw[za e]at a;exact g.ref (h.ref j q a).1 (h.ref j q a).2.1 (h.ref j q a).2.2 (by omega) (by omega)
theorem xL.bookAdd{w:J}{L:Nat->Nat}{W W':J}{l:Nat}{c f:Y}{u:List xK}{m:Nat}(h:xL w L W l c f u m){e:Ending}(z:rJ (Lm L) W l m c f e W'):∃L' j,xw L L' W W'/\xL w L' W' l c j u (m+1):=by
 obtain⟨v,_,_,t,x,s,A⟩:=z;have q:∀g,v.ownBlock=some g->L g=3\/W.heap.size<=g:=λg y=>(A g y).imp (h.lbk g) id;obtain⟨B,r,_⟩:=id s;have o:=Vn r
 have g:Goes L (lab L v 3) (λn=>n=1\/n=3) W W':=⟨t.wide (λk _ e=>by
  show L k=_\/L k=_
  rcases e with e|e
  ·rw[e];exact .inl h.lyb
  exact .inr (h.lbk k e)),by omega,mi q,λb a=>by
  unfold lab at a
  by_cases e:v.ownBlock=some b
  ·exact o b e
  rw[za e]at a;exact xO (h.base b a).2 t.size⟩
 exact⟨_,v,g.stay,(g.low h.low h.base).1,(g.low h.low h.base).2,x,(g.old l (zt h.play)).trans h.lyb,(g.row h.row h.lps (by omega)).1,(g.row h.row h.lps (by omega)).2,by rw[BO L v (by omega)];exact s,mh,
  λi p d=>g.office (h.off i p d).1 (h.off i p d).2 (by omega),λi p d=>g.ref (h.ref i p d).1 (h.ref i p d).2.1 (h.ref i p d).2.2 (by omega) (by omega)⟩
theorem yz.fresh{M M':Nat->Prop}{W W':J}{b:Nat}(h:yz M W b Xl)(g:W'.heap[b]?=W.heap[b]?)(l:M' b):yz M' W' b Xl:=by
 obtain⟨q,d,f⟩:=h.row;refine⟨l,⟨q,g.trans d,λi j=>?_⟩,h.good⟩;obtain⟨a,c,e,n,o,p,_⟩:=f i j;exact⟨a,c,e,n,o,p,λk x m=>by simp[Xl]at m⟩
theorem xL.pairAdd{Q:J}{L:Nat->Nat}{W E W':J}{z:Nat}{r psv' l:Y}{d:List xK}{m:Nat}(h:xL Q L W z r l d m){c cb:Nat}{M:Nat->Prop}(G:yz M E c Xl)(v:W'.heap[c]?=E.heap[c]?)(X:W.heap.size<=c)(s:W'.heap[cb]?=some (L8 #[R4] 45))(F:W.heap.size<=cb)(A:c≠cb)
  (I:zx (λb=>b=z\/r.ownBlock=some b) W W')(V:W'.heap[z]?=some (L8 #[psv',l] 32))(H:W'.ownsRow 0 47 2 psv' (d.length+1) (ZT d++[RG c 0,RG cb 0]))(K:∀g,psv'.ownBlock=some g->r.ownBlock=some g\/(W.heap.size<=g/\g≠c/\g≠cb)):∃L',xw L L' W W'/\xL Q L' W' z psv' l (d++[⟨c,cb,R4,Xl,[]⟩]) m:=by
 have C:∀g,psv'.ownBlock=some g->L g=2\/W.heap.size<=g:=λg u=>(K g u).imp (h.lps g) (λx=>x.1);have B:=Vn H;obtain⟨vs,w,_⟩:=G.row;have y:=zt (v.trans w);have t:=zt s;refine⟨λb=>if b=c then 10+3*d.length else if b=cb then 11+3*d.length else lab L psv' 2 b,?_⟩
 obtain⟨L',f⟩:∃L',L'=λb=>if b=c then 10+3*d.length else if b=cb then 11+3*d.length else lab L psv' 2 b:=⟨_,rfl⟩
 rw[<- f];have P:L' c=10+3*d.length:=by rw[f];simp
 have O:L' cb=11+3*d.length:=by rw[f];simp[Ne.symm A]
 have D:∀b,b≠c->b≠cb->L' b=lab L psv' 2 b:=λb R S=>by rw[f];simp[R,S]
 have g:Goes L L' (λn=>n=1\/n=2) W W':=⟨I.wide (λk _ e=>by
  show L k=_\/L k=_
  rcases e with e|e
  ·rw[e];exact .inl h.lyb
  exact .inr (h.lps k e)),by omega,λb T=>by
  rw[D b (by omega) (by omega)];exact mi C b T,λb i=>by
  by_cases e1:b=c
  ·rw[e1];exact y
  by_cases e2:b=cb
  ·rw[e2];exact t
  rw[D b e1 e2]at i;unfold lab at i
  by_cases e:psv'.ownBlock=some b
  ·exact B b e
  rw[za e]at i;exact xO (h.base b i).2 I.size⟩
 refine⟨g.stay,(g.low h.low h.base).1,(g.low h.low h.base).2,V,(g.old z (zt h.play)).trans h.lyb,?_,λx N=>?_,(g.book h.book h.lbk (by omega)).1,(g.book h.book h.lbk (by omega)).2,λj q a=>?_,λj q a=>?_⟩
 ·rw[LW,qE];exact H
 ·have:x≠c/\x≠cb:=by
   rcases K x N with e|e
   ·have:=Vn h.row x e
    exact⟨by omega,by omega⟩
   exact e.2
  rw[D x this.1 this.2];exact mh x N
 ·by_cases hj:j<d.length
  ·rw[yw hj]at a;exact g.office (h.off j q a).1 (h.off j q a).2 (by omega)
  have p:=(zU.1 a).1;simp at p;have o:j=d.length:=by omega
  subst o;rw[yN F7]at a;simp at a;subst a;exact⟨G.fresh v (by unfold Lm;rw[P];omega),P⟩
 by_cases hj:j<d.length
 ·rw[yw hj]at a;exact g.ref (h.ref j q a).1 (h.ref j q a).2.1 (h.ref j q a).2.2 (by omega) (by omega)
 have p:=(zU.1 a).1;simp at p;have o:j=d.length:=by omega
 subst o;rw[yN F7]at a;simp at a;subst a;exact⟨⟨by unfold Lm;rw[O];omega,s,⟨[],qF _ _ _ _,xV.nil⟩,λg u=>by cases u⟩,O,λg u=>by cases u⟩
theorem Ub{a:StO}{c:List zy}(h:Agree a c){i:Nat}(d:i<4){name:BY}(f:c.findIdx? (isR (i:Int) name)=none):zq (a i) name=false:=by
 cases e:zq (a i) name with
 | false=>rfl
 | true=>
  obtain⟨k,b⟩:=(h.has d).1 e;rw[f]at b
  cases b
theorem zcw{j:StO}{r:List zy}(h:Agree j r){l:Int}{name a:BY}{M:Nat->Prop}{cb:Nat}{s:Y}{w w':J}{e:Ending}(y:gM r l name a M cb s w e w'):∃p c,e=.returned (.tuple #[.int .i64 (ZA j l name a).1,.int .i64 ((ZA j l name a).2:Int)])/\zx (λb=>b=cb\/s.ownBlock=some b) w w'/\xM (jW M p) w' cb p c/\(∀g,p.ownBlock=some g->s.ownBlock=some g\/w.heap.size<=g)/\Agree (ZZ j l name a) c:=by
 obtain⟨E,A,p,c,m,B,_,z,x,c1,c2,c3,c4⟩:=y;refine⟨p,c,?_,B,z,x,?_⟩
 all_goals
  by_cases hpl:qN l name=0
  ·by_cases hd:(Z.qC a).1=0
   ·obtain⟨i,rfl,n,o⟩:=Uv hpl
    cases hf:r.findIdx? (isR (i:Int) name) with
    | some k=>
     obtain⟨rfl,rfl,rfl⟩:=c3 hpl hd k hf;have f:=(h.has n).2 ⟨k,hf⟩
     first
      | (rw[m];unfold ZA;rw[zb hpl,zb hd,yE,f];rfl)
      | (unfold ZZ YS;rw[yE,f,zB hpl,zB hd];exact h.set n o hd hf)
    | none=>
     obtain⟨t,q,v⟩:=c4 hpl hd hf;have f:=Ub h n hf;have u:(j i).length=t.length:=by rw[h.layer n q,qf]
     rcases v with⟨h4,rfl,rfl,rfl⟩|⟨h4,rfl,rfl,rfl⟩
     ·have d:decide ((j i).length<4)=false:=P6
      first
       | (rw[m];unfold ZA;rw[zb hpl,zb hd,yE,f,d];rfl)
       | (unfold ZZ YS;rw[yE,f,d,zB hpl,zB hd];exact h)
     have d:decide ((j i).length<4)=true:=P5
     first
      | (rw[m];unfold ZA;rw[zb hpl,zb hd,yE,f,d];rfl)
      | (unfold ZZ YS;rw[yE,f,d,zB hpl,zB hd];exact h.add n o hd hf)
   obtain⟨rfl,rfl,rfl⟩:=c2 hpl hd
   first
    | (rw[m];unfold ZA;rw[zb hpl,za hd])
    | (unfold ZZ YS;rw[zB hpl,zI hd];exact h)
  obtain⟨rfl,rfl,rfl⟩:=c1 hpl
  first
   | (rw[m];unfold ZA;(rw[za hpl]<;>rfl))
   | (unfold ZZ YS;rw[zI hpl];exact h)
theorem OJ{p:StO}{n:List zy}(h:Agree p n){l:Int}{name:BY}{M:Nat->Prop}{cb:Nat}{o:Y}{w w':J}{e:Ending}(s:fU n l name M cb o w e w'):∃d a,e=.returned (.int .i64 (YI p l name))/\zx (λb=>b=cb\/o.ownBlock=some b) w w'/\xM (jW M d) w' cb d a/\(∀g,d.ownBlock=some g->o.ownBlock=some g\/w.heap.size<=g)/\Agree (YJ p l name) a:=by
 obtain⟨E,d,a,f,u,_,t,m,c1,c2,c3⟩:=s;refine⟨d,a,?_,u.wide (λ_ _ e => .inl e),t,λg q=>?_,?_⟩
 rotate_left
 ·rcases m with rfl|m
  ·exact .inl q
  exact .inr (m g q)
 all_goals
  by_cases hpl:qN l name=0
  ·obtain⟨i,rfl,j,r⟩:=Uv hpl
   cases hf:n.findIdx? (isR (i:Int) name) with
   | some k=>
    obtain⟨rfl,rfl⟩:=c3 hpl k hf;have c:=(h.has j).2 ⟨k,hf⟩
    first
     | (rw[f];unfold YI;rw[zb hpl,yE,c];rfl)
     | (unfold YJ;rw[yE,zb ⟨hpl,c⟩];exact h.less j hf)
   | none=>
    obtain⟨rfl,rfl⟩:=c2 hpl hf;have c:=Ub h j hf
    first
     | (rw[f];unfold YI;rw[zb hpl,yE,c];rfl)
     | (unfold YJ;rw[yE,c,za (by simp)];exact h)
  obtain⟨rfl,rfl⟩:=c1 hpl
  first
   | (rw[f];unfold YI;rw[za hpl])
   | (unfold YJ;rw[za (λx=>hpl x.1)];exact h)
theorem zdS{d:StO}{c:List zy}(h:Agree d c){l:Int}{name:BY}{w w':J}{e:Ending}(n:gP c l name w e w'):e=.returned (.tuple #[.string (YW d l name),.int .i64 (YX d l name)])/\BQ w w':=by
 obtain⟨s,E,j,g,c1,c2,c3⟩:=n;refine⟨?_,g⟩;rw[j]
 by_cases hpl:qN l name=0
 ·obtain⟨i,rfl,b,m⟩:=Uv hpl
  cases hf:c.findIdx? (isR (i:Int) name) with
  | some k=>
   obtain⟨x,f,_⟩:=Ko hf;obtain⟨rfl,rfl⟩:=c3 hpl k x hf f;have a:=(h.has b).2 ⟨k,hf⟩;unfold YW YX;rw[zb hpl,yE,zb ⟨hpl,a⟩,h.shown b hf f,a]
   rfl
  | none=>
   obtain⟨rfl,rfl⟩:=c2 hpl hf;have a:=Ub h b hf;unfold YW YX;rw[zb hpl,yE,a,za (by simp)]
   rfl
 obtain⟨rfl,rfl⟩:=c1 hpl;unfold YW YX;rw[za hpl,za (λx=>hpl x.1)]
theorem zbe{b:StO}{c:List zy}(h:Agree b c){l:Int}{w w':J}{e:Ending}(k:gH c l w e w'):∃v,e=.returned (.tuple #[v,.int .i64 (YP l)])/\zJ w' w.heap.size v (Jw b l)/\BQ w w':=by
 obtain⟨v,n,f,j,d,c1,c2⟩:=k;refine⟨v,f,?_,d⟩
 have:n=Jw b l:=by
  unfold Jw
  cases hl:vL l with
  | false=>rw[za (by simp)];exact c1 hl
  | true=>
   rw[zb rfl];obtain⟨o,a,rfl⟩:=c2 hl
   have m:∃i:Nat,l=(i:Int)/\i<4:=by
    unfold vL at hl;simp at hl;exact⟨l.toNat,by omega,by omega⟩
   obtain⟨i,rfl,g⟩:=m;rw[yE,h.layer g a,kY]
   rfl
 rw[<- this];exact j
theorem zbc{a:StO}(b:∀i,i<4->QA (a i))(l:Int):(Jw a l).length<=1000:=by
 unfold Jw
 cases hl:vL l with
 | false=>simp
 | true=>
  rw[zb rfl,qf]
  have c:l.toNat<4:=by
   unfold vL at hl;simp at hl;omega
  have:=(b _ c).2.1
  omega
def vR(a:List xK):Prop:=∀(i:Nat) (p:xK),a[i]?=some p->Agree p.st p.ks
theorem vR.set{b:List xK}(h:vR b)(i:Nat){q:xK}(c:Agree q.st q.ks):vR (b.set i q):=λj p a=>by
 rw[zu]at a
 by_cases e:i=j
 ·rw[zb e]at a;split at a
  ·injection a with a
   subst a;exact c
  cases a
 rw[za e]at a;exact h j p a
theorem vR.add{b:List xK}(h:vR b){q:xK}(e:Agree q.st q.ks):vR (b++[q]):=λj p a=>by
 by_cases hj:j<b.length
 ·rw[yw hj]at a;exact h j p a
 have d:=(zU.1 a).1;simp at d;have c:j=b.length:=by omega
 subst c;rw[yN F7]at a;simp at a;subst a;exact e
def Xb(f:J)(L:Nat->Nat)(w:J)(g n m:Nat)(e:Ending)(w':J):Prop:=
 ∃L' c b a d,e=.returned (.bool true)/\xw L L' w w'/\xL f L' w' g c b a d/\vR a/\n<=a.length/\a.length<=n+1/\d<=m+1/\0<a.length
def ut(k a l:Int)(name b d c on:BY)(e:Option Addr)(g f:Nat):Y := .agg #[R9 k,R9 a,R9 l,S9 name,S9 b,S9 d,S9 c,S9 on,TL e g f]
theorem xL.pick{u:J}{L:Nat->Nat}{W:J}{l:Nat}{b d:Y}{a:List xK}{m:Nat}(h:xL u L W l b d a m)(c:Int)(s:0<a.length):∃g t p,b=TL (some (G8 g 0)) a.length t/\Kp.kM c a.length<a.length/\a[Kp.kM c a.length]?=some p/\W.cell? (G8 l 0)=some b/\W.cell? (G8 g (Kp.kM c a.length*2))=some (RG p.ob 0)/\W.cell? (G8 g (Kp.kM c a.length*2+1))=some (RG p.cb 0)/\W.cell? (G8 l 1)=some d:=by
 have k:Kp.kM c a.length<a.length:=Kp.zca c a.length s;have q:=zn k;have n:=(zg h.play 0).1;have f:=(zg h.play 1).1;simp at n f;have o:=tQ q
 rcases h.row.2 with⟨_,h0⟩|⟨g,cap,cur,e,_⟩
 ·omega
 have j:=λi r=>World.ownsRow.cellAt (g:=g) (cap:=cap) (by rw[<- e];exact h.row) i r;exact⟨g,cap,_,e,k,q,n,(j _ (by omega)).trans o.1,(j _ (by omega)).trans o.2,f⟩
theorem KT{l:J}{L:Nat->Nat}{W:J}{n:Nat}{g c:Y}{f:List xK}{m:Nat}(h:xL l L W n g c f m)(d:vR f){i:Nat}{p:xK}(j:f[i]?=some p):p.ks.length<=16/\(∀x ∈ p.ks,x.name.size<=maxLen)/\(∀x ∈ p.ks,x.rs.length<=10/\∀r ∈ x.rs,U.ZP r)/\Agree p.st p.ks:=by
 have a:=d i p j;refine⟨a.few (λi k=>((h.off _ p j).1.good i k).2.1),λx b=>?_,λx b=>⟨(a.ok x b).2.1,(a.ok x b).2.2.1⟩,a⟩
 have:=(a.ok x b).1
 by_cases e:1<=x.name.size/\x.name.size<=12
 ·unfold maxLen;omega
 rw[U.Kw _ e]at this
 cases this
theorem oG(w0:J)(aL:Addr)(hC:jL w0 aL)(L:Nat->Nat)(w:J)(yb:Nat)(d4 c2:Y)(u:List xK)(m:Nat)(h:xL w0 L w yb d4 c2 u m)(D:vR u)(s:0<u.length)(c6:u.length<=100000000)(a l:Int)(name c I B on:BY)(ma:Option Addr)(mn mc:Nat)(hA:I64 a)(hs:name.size<=maxLen)(ht:c.size<=maxLen):R8 5 #[RG yb 0,ut 2 a l name c I B on ma mn mc] w (Xb w0 L w yb u.length m):=by
 unfold ut;obtain⟨j,o⟩:=Nm (w.alloc (L8 #[R9 2,R9 a,R9 l,S9 name,S9 c,S9 I,S9 B,S9 on,TL ma mn mc] 37));have b1:BQ w j:=by rw[<- o];exact nbl w _
 have q:j.heap[w.heap.size]?=some (L8 #[R9 2,R9 a,R9 l,S9 name,S9 c,S9 I,S9 B,S9 on,TL ma mn mc] 37):=by rw[<- o];exact zA w _
 have h1:=h.below b1;obtain⟨g,pc,p,rfl,a0,F,T,X,V,c4⟩:=h1.pick a s;have k0:=(zg q 0).1;have k1:=(zg q 1).1;simp at k0 k1;have cp:=λW=>KV a u.length W hA s (by omega);obtain⟨n,hn⟩:=Nm u.length;obtain⟨i,hi⟩:=Nm (Kp.kM a u.length);simp only[hi]at F X V a0 cp;have d:=λb (S:L b≠0)=>(h.base b S).2;have c8:=(h.off i p F).2;have c7:=(h.ref i p F).2.1;have a2:=(h.ref i p F).2.2;have g9:p.ob<w.heap.size:=d _ (by omega);have f7:p.cb<w.heap.size:=d _ (by omega);have a3:∀g,p.lv.ownBlock=some g->g<w.heap.size:=λg hg=>d _ (by have:=a2 g hg;omega);have y:=G7 (KT h D F);simp only[hn]at a0 s c6 T cp |-;have⟨CP,HN,HP,H1,v,b3,P,b4,f3,b5⟩:=RF cp hn F h1 q D o b1 a3 d;have i0:(0:Int)<=(i:Int):=qd _;have i1:(i:Int)<(n:Int):=by omega
 have g4:((n:Int)==0)=false:=by simp;omega
 clear cp hn hi F h1 q D o b1 h a3 d c8 c7 a2;go_enter func5,ntmps5
 go_upto_region 1 with fail
 rw[P.o];clear P
 go_upto_region 16 with fail
 go_cut [6] (λv6 wc=>v6=.pointer (some (G8 j.heap.size 0))/\wc=(j.alloc (L8 #[RG p.ob 0,RG p.cb 0] 47)).drew)
 case first=>
  go_region_held3 (λw'=>w'.cell? (G8 yb 0)=some (TL (some (G8 g 0)) n pc)/\w'.cell? (G8 w.heap.size 1)=some (R9 a)/\w'.cell? (G8 g (i*2))=some (RG p.ob 0)/\w'.cell? (G8 g (i*2+1))=some (RG p.cb 0)) (go_keep) (first|(go_at_call 11;apply(CP.o _).mono;rintro e w3⟨rfl,e3⟩;rw[e3];clear e3))
  all_goals
   go_wp2_with fail
   go_meet
   case rel=>exact⟨rfl,rfl⟩
 case rest=>
  obtain⟨rfl,H⟩:=hcut;have b2:BQ j wc:=by rw[H];exact(nbl j _).drew
  have r:wc.heap[j.heap.size]?=some (L8 #[RG p.ob 0,RG p.cb 0] 47):=by rw[H];exact zA j _
  clear H CP T X V c4 k0 k1;have z:=G7 (H1.o.below b2);have f:=(b2.block _ (zt v.o)).trans v.o;have i2:w.heap.size<j.heap.size:=zt v.o;have i3:j.heap.size<wc.heap.size:=zt r;have b9:G6 (xw L L w wc):=G7 ((xw.of b4.o).trans (xw.of b2));have M:G6 (∀b,Lm L b->b<w.heap.size):=G7 b5.o;have p0:=(zg r 0).1;have k0:=(zg f 0).1;have k2:=(zg f 2).1;have k3:=(zg f 3).1;have k4:=(zg f 4).1;simp at p0 k0 k2 k3 k4;have⟨N,Q⟩:=D5 r f;clear r f b2;have k:=zcv p.ob p.st l name c (Lm L) aL wc (hC.below z.o.low) (z.o.off i p HP.o).1 (λb S=>VN (M.o b S) (by omega)) hs;have R:=λ(W:J) (hz:wc.heap.size<=W.heap.size) (hr:xM (Lm L) W p.cb p.lv p.ks)=>zcu p.cb p.lv p.ks l name c (Lm L) W hr (by have:=y.o.1;omega) y.o.2.1 hs ht (λb S=>xO (VN (M.o b S) (by omega)) hz);have G:=λ(W W':J) (e:Ending) (h:gM p.ks l name c (Lm L) p.cb p.lv W e W')=>zcw y.o.2.2.2 h;obtain⟨⟨E,A⟩,C⟩:∃x,ZA p.st l name c=x:=⟨_,rfl⟩;rw[C]at k;simp only[C]at G;have d1:(E==E)=true:=by simp
  have d2:((A:Int)==(A:Int))=true:=by simp
  have⟨K,b0,b8⟩:=M4 k R G;clear k R G C;have O:=G7 (List.getElem?_set_self (l:=u) (a:={ p with st:=ZZ p.st l name c }) (zU.1 HP.o).1)
  go_wp2_with(first
   |(go_at_call 12;apply K.o.mono;rintro e w4⟨rfl,t4,o4⟩;have P4:=G7 (z.o.offSet HP.o t4 o4);have a1:=(t4.block _ (zt N.o) (by omega)).trans N.o;have t:=(t4.block _ (zt Q.o) (by omega)).trans Q.o;have r1:=(zg a1 1).1;have r2:=(zg t 2).1;have r3:=(zg t 3).1;have r4:=(zg t 4).1;simp at r1 r2 r3 r4;have z4:=t4.size;clear t4 o4 a1 t)
   |(go_at_call 13;apply(b0.o w4 z4 (P4.o.2.ref i _ O.o).1).mono;rintro e w5 he;obtain⟨v5,g8,rfl,t5,r5,o5,a5⟩:=b8.o _ _ _ he;obtain⟨L5,s5,q5⟩:=P4.o.2.refSet O.o t5 r5 o5;have⟨S5,Q5,A5⟩:=M4 s5 q5 a5;clear he t5 r5 o5 s5 q5 a5))
  go_ret;have hq:=Q5.o;rw[List.set_set]at hq;exact⟨L5,_,_,_,m,rfl,(b9.o.trans P4.o.1).trans S5.o,hq,b3.o.set i A5.o,by rw[ZL];exact aW HN.o.symm,by rw[ZL,HN.o];omega,by omega,by rw[ZL,HN.o];exact s⟩
end Go.Proofs.YtfjpcldndaiifaaGreatDoor
