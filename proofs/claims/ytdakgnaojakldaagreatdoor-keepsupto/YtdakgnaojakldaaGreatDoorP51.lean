/- P -/
import Derived.Test.YtdakgnaojakldaaGreatDoorP50
set_option maxRecDepth 100000
set_option maxHeartbeats 4000000
namespace Go.Proofs.YtdakgnaojakldaaGreatDoor
open Go.RowKit
structure yZ where
 ob:Nat
 cb:Nat
 lv:Value
 st:StO
 ks:List zG
def uz (ps:List yZ):List Value:=ps.flatMap fun p=>[.pointer (some ⟨p.ob,0,none⟩), .pointer (some ⟨p.cb,0,none⟩)]
theorem Uf:∀{ps:List yZ} {i:Nat} {p:yZ},ps[i]?=some p→(uz ps)[i*2]?=some (.pointer (some ⟨p.ob,0,none⟩))∧(uz ps)[i*2+1]?=some (.pointer (some ⟨p.cb,0,none⟩))
 | [],i,p,h=>by simp at h
 | q::r,0,p,h=>by
  simp only [List.getElem?_cons_zero,Option.some.injEq] at h
  subst h
  exact ⟨rfl,rfl⟩
 | q::r,i+1,p,h=>by
  simp only [List.getElem?_cons_succ] at h
  have ih:=Uf h
  have e:uz (q::r) = .pointer (some ⟨q.ob,0,none⟩) :: .pointer (some ⟨q.cb,0,none⟩)::uz r:=rfl
  rw [e,show (i+1)*2=i*2+1+1 by omega]
  simp only [List.getElem?_cons_succ]
  exact ih
theorem ze0 (ps:List yZ) (p:yZ):uz (ps++[p])=uz ps++[.pointer (some ⟨p.ob,0,none⟩), .pointer (some ⟨p.cb,0,none⟩)]:=by
 unfold uz
 simp
theorem Ye:∀{ps:List yZ} {i:Nat} {p q:yZ},ps[i]?=some p→q.ob=p.ob→q.cb=p.cb→uz (ps.set i q)=uz ps
 | [],i,p,q,h,_,_=>by simp at h
 | x::r,0,p,q,h,e1,e2=>by
  simp only [List.getElem?_cons_zero,Option.some.injEq] at h
  subst h
  unfold uz
  simp only [List.set_cons_zero,List.flatMap_cons,e1,e2]
 | x::r,i+1,p,q,h,e1,e2=>by
  simp only [List.getElem?_cons_succ] at h
  have ih:=Ye h e1 e2
  unfold uz at ih ⊢
  simp only [List.set_cons_succ,List.flatMap_cons,ih]
theorem QY {w:World} {base:Nat} {t:TypeId} {size:Nat} {v:Value} {n:Nat} {xs:List Value} (h:w.ownsRow base t size v n xs):∀g,v.ownBlock=some g→g<w.heap.size:=fun g hg=>by
 rcases h.2 with ⟨rfl,_⟩|⟨g2,cap2,cur,rfl,hbg,hg2,_⟩
 ·cases hg
 ·have:g2=g:=by simpa [Value.ownBlock] using hg
  subst this
  exact lt_of_block hg2
def Lm (L:Nat→Nat):Nat→Prop:=fun b=>L b≠0
structure xw (w0:World) (L:Nat→Nat) (W:World) (yb:Nat) (psv bkv:Value) (ps:List yZ) (m:Nat):Prop where
 low:Below w0.heap.size w0 W
 base:∀b,L b≠0→w0.heap.size≤b∧b<W.heap.size
 play:W.heap[yb]?=some (.cells #[psv,bkv] 89)
 lyb:L yb=1
 row:W.ownsRow 0 175 2 psv ps.length (uz ps)
 lps:∀g,psv.ownBlock=some g→L g=2
 book:Ug (Lm L) W bkv m
 lbk:∀g,bkv.ownBlock=some g→L g=3
 off:∀i p,ps[i]?=some p→qA (Lm L) W p.ob p.st∧L p.ob=10+3*i
 ref:∀i p,ps[i]?=some p→yM (Lm L) W p.cb p.lv p.ks∧L p.cb=11+3*i∧∀g,p.lv.ownBlock=some g→L g=12+3*i
structure Goes (L L':Nat→Nat) (S:Nat→Prop) (W W':World):Prop where
 turn:zF (fun b=>S (L b)) W W'
 zero:¬S 0
 old:∀b,b<W.heap.size→L' b=L b
 new:∀b,L' b≠0→b<W'.heap.size
section
variable {L L':Nat→Nat} {S:Nat→Prop} {W W':World}
theorem Goes.more (g:Goes L L' S W W'):∀b,Lm L' b→Lm L b∨W.heap.size≤b:=fun b hb=>by
 by_cases h:b<W.heap.size
 ·exact .inl (by unfold Lm at hb ⊢;rw [g.old b h] at hb;exact hb)
 ·exact .inr (by omega)
theorem Goes.turnM (g:Goes L L' S W W'):zF (Lm L') W W':=g.turn.wide (fun k hk hs=>by
 show L' k≠0
 rw [g.old k hk]
 intro e
 simp only [e] at hs
 exact g.zero hs)
theorem Goes.far (g:Goes L L' S W W') {b c:Nat} (hb:b<W.heap.size) (hc:L b=c) (hS:¬S c):W'.heap[b]?=W.heap[b]?:=
 g.turn.block b hb (by show ¬S (L b);rw [hc];exact hS)
theorem Goes.mine (g:Goes L L' S W W') {b:Nat} (hb:b<W.heap.size) (h:Lm L b):Lm L' b:=by
 unfold Lm at h ⊢
 rw [g.old b hb]
 exact h
theorem Goes.office (g:Goes L L' S W W') {ob:Nat} {st:StO} {c:Nat} (h:qA (Lm L) W ob st) (hc:L ob=c) (hS:¬S c):qA (Lm L') W' ob st∧L' ob=c:=by
 obtain ⟨vs,h1,h2⟩:=h.row
 have hl:=lt_of_block h1
 exact ⟨⟨g.mine hl h.mine,⟨vs,(g.far hl hc hS).trans h1,fun i hi=>((h2 i hi).more g.more).turn g.turnM⟩,h.good⟩,(g.old ob hl).trans hc⟩
theorem Goes.ref (g:Goes L L' S W W') {cb:Nat} {lv:Value} {ks:List zG} {c d:Nat} (h:yM (Lm L) W cb lv ks) (hc:L cb=c) (hd:∀g,lv.ownBlock=some g→L g=d) (hS:¬S c) (hD:¬S d):yM (Lm L') W' cb lv ks∧L' cb=c∧∀g,lv.ownBlock=some g→L' g=d:=by
 obtain ⟨xs,h1,h2⟩:=h.rows
 have hl:=lt_of_block h.cell
 have hb:=QY h1
 refine ⟨⟨g.mine hl h.mine,(g.far hl hc hS).trans h.cell,⟨xs,Qb h1 g.turn (fun x hx=>?_),(h2.more g.more).turn g.turnM⟩,fun x hx=>⟨g.mine (hb x hx) (h.own x hx).1,(h.own x hx).2⟩⟩,(g.old cb hl).trans hc,fun x hx=>(g.old x (hb x hx)).trans (hd x hx)⟩
 show ¬S (L x)
 rw [hd x hx]
 exact hD
theorem Goes.book (g:Goes L L' S W W') {bkv:Value} {m c:Nat} (h:Ug (Lm L) W bkv m) (hc:∀g,bkv.ownBlock=some g→L g=c) (hS:¬S c):Ug (Lm L') W' bkv m∧∀g,bkv.ownBlock=some g→L' g=c:=by
 obtain ⟨ys,h1,h2⟩:=h
 have hb:=QY h1
 refine ⟨⟨ys,Qb h1 g.turn (fun x hx=>?_),fun i v hv=>((h2 i v hv).more g.more).turn g.turnM⟩,fun x hx=>(g.old x (hb x hx)).trans (hc x hx)⟩
 show ¬S (L x)
 rw [hc x hx]
 exact hS
theorem Goes.row (g:Goes L L' S W W') {t:TypeId} {size:Nat} {v:Value} {n c:Nat} {xs:List Value} (h:W.ownsRow 0 t size v n xs) (hc:∀g,v.ownBlock=some g→L g=c) (hS:¬S c):W'.ownsRow 0 t size v n xs∧∀g,v.ownBlock=some g→L' g=c:=by
 have hb:=QY h
 refine ⟨Qb h g.turn (fun x hx=>?_),fun x hx=>(g.old x (hb x hx)).trans (hc x hx)⟩
 show ¬S (L x)
 rw [hc x hx]
 exact hS
theorem Goes.low {w0:World} (g:Goes L L' S W W') (h:Below w0.heap.size w0 W) (hb:∀b,L b≠0→w0.heap.size≤b∧b<W.heap.size):Below w0.heap.size w0 W'∧∀b,L' b≠0→w0.heap.size≤b∧b<W'.heap.size:=by
 refine ⟨h.trans (g.turn.below (fun k hk hs=>?_) h.size),fun b hb'=>⟨?_,g.new b hb'⟩⟩
 ·have:L k≠0:=fun e=>by
   simp only [e] at hs
   exact g.zero hs
  have:=(hb k this).1
  omega
 ·rcases g.more b hb' with e|e
  ·exact (hb b e).1
  ·have:=h.size;omega
end
structure YS (L L':Nat→Nat) (W W':World):Prop where
 size:W.heap.size≤W'.heap.size
 keep:∀b,b<W.heap.size→L b=0→W'.heap[b]?=W.heap[b]?
 old:∀b,b<W.heap.size→L' b=L b
theorem Goes.stay {L L':Nat→Nat} {S:Nat→Prop} {W W':World} (g:Goes L L' S W W'):YS L L' W W':=⟨g.turn.size,fun _ hb h0=>g.far hb h0 g.zero,g.old⟩
theorem YS.of {L:Nat→Nat} {W W':World} (h:Below W.heap.size W W'):YS L L W W':=⟨h.size,fun b hb _=>h.block b hb,fun _ _=>rfl⟩
theorem YS.trans {L L' L'':Nat→Nat} {A B C:World} (h:YS L L' A B) (k:YS L' L'' B C):YS L L'' A C:=
 ⟨Nat.le_trans h.size k.size,fun b hb h0=>(k.keep b (Nat.lt_of_lt_of_le hb h.size) ((h.old b hb).trans h0)).trans (h.keep b hb h0),fun b hb=>(k.old b (Nat.lt_of_lt_of_le hb h.size)).trans (h.old b hb)⟩
theorem xw.below {w0:World} {L:Nat→Nat} {W W':World} {yb:Nat} {psv bkv:Value} {ps:List yZ} {m:Nat} (h:xw w0 L W yb psv bkv ps m) (hb:Below W.heap.size W W'):xw w0 L W' yb psv bkv ps m:=by
 have g:Goes L L (fun _=>False) W W':=⟨zF.of hb,id,fun _ _=>rfl,fun b hb'=>Nat.lt_of_lt_of_le (h.base b hb').2 hb.size⟩
 exact ⟨(g.low h.low h.base).1,(g.low h.low h.base).2,(g.far (lt_of_block h.play) h.lyb id).trans h.play,h.lyb,(g.row h.row h.lps id).1,h.lps,(g.book h.book h.lbk id).1,h.lbk,
  fun i p hp=>g.office (h.off i p hp).1 (h.off i p hp).2 id,fun i p hp=>g.ref (h.ref i p hp).1 (h.ref i p hp).2.1 (h.ref i p hp).2.2 id id⟩
theorem xw.offSet {w0:World} {L:Nat→Nat} {W W':World} {yb:Nat} {psv bkv:Value} {ps:List yZ} {m:Nat} (h:xw w0 L W yb psv bkv ps m) {i:Nat} {p:yZ} (hp:ps[i]?=some p) (ht:zF (fun b=>b=p.ob) W W') {st:StO} (ho:qA (Lm L) W' p.ob st):YS L L W W'∧xw w0 L W' yb psv bkv (ps.set i { p with st:=st }) m:=by
 have hl:=(h.off i p hp).2
 have g:Goes L L (fun n=>n=10+3*i) W W':=⟨ht.wide (fun k _ e=>by show L k=_;rw [e];exact hl),by omega,fun _ _=>rfl,fun b hb'=>Nat.lt_of_lt_of_le (h.base b hb').2 ht.size⟩
 have hil:i<ps.length:=(List.getElem?_eq_some_iff.1 hp).1
 refine ⟨g.stay,(g.low h.low h.base).1,(g.low h.low h.base).2,(g.far (lt_of_block h.play) h.lyb (by omega)).trans h.play,h.lyb,?_,h.lps,(g.book h.book h.lbk (by omega)).1,h.lbk,fun j q hq=>?_,fun j q hq=>?_⟩
 ·rw [Ye (q:={ p with st:=st }) hp rfl rfl,List.length_set]
  exact (g.row h.row h.lps (by omega)).1
 ·rw [List.getElem?_set] at hq
  by_cases e:i=j
  ·subst e
   rw [if_pos rfl,if_pos hil] at hq
   injection hq with hq
   subst hq
   exact ⟨ho,hl⟩
  ·rw [if_neg e] at hq
   exact g.office (h.off j q hq).1 (h.off j q hq).2 (by omega)
 ·rw [List.getElem?_set] at hq
  by_cases e:i=j
  ·subst e
   rw [if_pos rfl,if_pos hil] at hq
   injection hq with hq
   subst hq
   exact g.ref (h.ref i p hp).1 (h.ref i p hp).2.1 (h.ref i p hp).2.2 (by omega) (by omega)
  ·rw [if_neg e] at hq
   exact g.ref (h.ref j q hq).1 (h.ref j q hq).2.1 (h.ref j q hq).2.2 (by omega) (by omega)
def lab (L:Nat→Nat) (v:Value) (n:Nat):Nat→Nat:=fun b=>if v.ownBlock=some b then n else L b
theorem zl4 (L:Nat→Nat) (v:Value) {n:Nat} (hn:n≠0):Lm (lab L v n)=xx (Lm L) v:=by
 funext b
 unfold Lm lab xx
 by_cases e:v.ownBlock=some b
 ·simp [e,hn]
 ·simp [e]
theorem zcG {L:Nat→Nat} {v:Value} {n:Nat} {W:World} (h:∀g,v.ownBlock=some g→L g=n∨W.heap.size≤g):∀b,b<W.heap.size→lab L v n b=L b:=fun b hb=>by
 unfold lab
 by_cases e:v.ownBlock=some b
 ·rw [if_pos e]
  rcases h b e with h|h
  ·exact h.symm
  ·omega
 ·rw [if_neg e]
theorem zgJ {L:Nat→Nat} {v:Value} {n:Nat}:∀g,v.ownBlock=some g→lab L v n g=n:=fun g hg=>by unfold lab;rw [if_pos hg]
theorem xw.refSet {w0:World} {L:Nat→Nat} {W W':World} {yb:Nat} {psv bkv:Value} {ps:List yZ} {m:Nat} (h:xw w0 L W yb psv bkv ps m) {i:Nat} {p:yZ} (hp:ps[i]?=some p) (ht:zF (fun b=>b=p.cb∨p.lv.ownBlock=some b) W W') {v:Value} {ks:List zG} (ho:yM (xx (Lm L) v) W' p.cb v ks) (hv:∀g,v.ownBlock=some g→p.lv.ownBlock=some g∨W.heap.size≤g):∃L',YS L L' W W'∧xw w0 L' W' yb psv bkv (ps.set i { p with lv:=v,ks:=ks }) m:=by
 obtain ⟨hr,hl,hd⟩:=h.ref i p hp
 have hvl:∀g,v.ownBlock=some g→L g=12+3*i∨W.heap.size≤g:=fun g hg=>(hv g hg).imp (hd g) id
 obtain ⟨xs,hx1,_⟩:=ho.rows
 have hvb:=QY hx1
 have g:Goes L (lab L v (12+3*i)) (fun n=>n=11+3*i∨n=12+3*i) W W':=⟨ht.wide (fun k _ e=>by
  show L k=_∨L k=_
  rcases e with e|e
  ·rw [e];exact .inl hl
  ·exact .inr (hd k e)),by omega,zcG hvl,fun b hb'=>by
   unfold lab at hb'
   by_cases e:v.ownBlock=some b
   ·exact hvb b e
   ·rw [if_neg e] at hb'
    exact Nat.lt_of_lt_of_le (h.base b hb').2 ht.size⟩
 have hil:i<ps.length:=(List.getElem?_eq_some_iff.1 hp).1
 refine ⟨_,g.stay,(g.low h.low h.base).1,(g.low h.low h.base).2,(g.far (lt_of_block h.play) h.lyb (by omega)).trans h.play,(g.old yb (lt_of_block h.play)).trans h.lyb,?_,(g.row h.row h.lps (by omega)).2,(g.book h.book h.lbk (by omega)).1,(g.book h.book h.lbk (by omega)).2,fun j q hq=>?_,fun j q hq=>?_⟩
 ·rw [Ye (q:={ p with lv:=v,ks:=ks }) hp rfl rfl,List.length_set]
  exact (g.row h.row h.lps (by omega)).1
 ·rw [List.getElem?_set] at hq
  by_cases e:i=j
  ·subst e
   rw [if_pos rfl,if_pos hil] at hq
   injection hq with hq
   subst hq
   exact g.office (h.off i p hp).1 (h.off i p hp).2 (by omega)
  ·rw [if_neg e] at hq
   exact g.office (h.off j q hq).1 (h.off j q hq).2 (by omega)
 ·rw [List.getElem?_set] at hq
  by_cases e:i=j
  ·subst e
   rw [if_pos rfl,if_pos hil] at hq
   injection hq with hq
   subst hq
   exact ⟨by rw [zl4 L v (by omega)];exact ho,(g.old p.cb (lt_of_block hr.cell)).trans hl,zgJ⟩
  ·rw [if_neg e] at hq
   exact g.ref (h.ref j q hq).1 (h.ref j q hq).2.1 (h.ref j q hq).2.2 (by omega) (by omega)
theorem xw.bookAdd {w0:World} {L:Nat→Nat} {W W':World} {yb:Nat} {psv bkv:Value} {ps:List yZ} {m:Nat} (h:xw w0 L W yb psv bkv ps m) {e:Ending} (ho:zbR (Lm L) W yb m psv bkv e W'):∃L' bkv',YS L L' W W'∧xw w0 L' W' yb psv bkv' ps (m+1):=by
 obtain ⟨v,_,_,ht,hc,hb,hv⟩:=ho
 have hvl:∀g,v.ownBlock=some g→L g=3∨W.heap.size≤g:=fun g hg=>(hv g hg).imp (h.lbk g) id
 obtain ⟨ys,hx1,_⟩:=id hb
 have hvb:=QY hx1
 have g:Goes L (lab L v 3) (fun n=>n=1∨n=3) W W':=⟨ht.wide (fun k _ e=>by
  show L k=_∨L k=_
  rcases e with e|e
  ·rw [e];exact .inl h.lyb
  ·exact .inr (h.lbk k e)),by omega,zcG hvl,fun b hb'=>by
   unfold lab at hb'
   by_cases e:v.ownBlock=some b
   ·exact hvb b e
   ·rw [if_neg e] at hb'
    exact Nat.lt_of_lt_of_le (h.base b hb').2 ht.size⟩
 exact ⟨_,v,g.stay,(g.low h.low h.base).1,(g.low h.low h.base).2,hc,(g.old yb (lt_of_block h.play)).trans h.lyb,(g.row h.row h.lps (by omega)).1,(g.row h.row h.lps (by omega)).2,by rw [zl4 L v (by omega)];exact hb,zgJ,
  fun i p hp=>g.office (h.off i p hp).1 (h.off i p hp).2 (by omega),fun i p hp=>g.ref (h.ref i p hp).1 (h.ref i p hp).2.1 (h.ref i p hp).2.2 (by omega) (by omega)⟩
theorem qA.fresh {M M':Nat→Prop} {W W':World} {ob:Nat} (h:qA M W ob zir) (hb:W'.heap[ob]?=W.heap[ob]?) (hm:M' ob):qA M' W' ob zir:=by
 obtain ⟨vs,h1,h2⟩:=h.row
 refine ⟨hm,⟨vs,hb.trans h1,fun i hi=>?_⟩,h.good⟩
 obtain ⟨a,c,e,k1,k2,k3,_⟩:=h2 i hi
 exact ⟨a,c,e,k1,k2,k3,fun k x hx=>by simp [zir] at hx⟩
theorem xw.pairAdd {w0:World} {L:Nat→Nat} {W W1 W':World} {yb:Nat} {psv psv' bkv:Value} {ps:List yZ} {m:Nat} (h:xw w0 L W yb psv bkv ps m) {ob cb:Nat} {M:Nat→Prop} (ho:qA M W1 ob zir) (ho2:W'.heap[ob]?=W1.heap[ob]?) (hob:W.heap.size≤ob) (hcb:W'.heap[cb]?=some (.cells #[.slice none 0 0] 173)) (hcb2:W.heap.size≤cb) (hne:ob≠cb)
  (ht:zF (fun b=>b=yb∨psv.ownBlock=some b) W W') (hc:W'.heap[yb]?=some (.cells #[psv',bkv] 89)) (hr:W'.ownsRow 0 175 2 psv' (ps.length+1) (uz ps++[.pointer (some ⟨ob,0,none⟩), .pointer (some ⟨cb,0,none⟩)])) (hv:∀g,psv'.ownBlock=some g→psv.ownBlock=some g∨(W.heap.size≤g∧g≠ob∧g≠cb)) :
  ∃L',YS L L' W W'∧xw w0 L' W' yb psv' bkv (ps++[⟨ob,cb, .slice none 0 0,zir,[]⟩]) m:=by
 have hvl:∀g,psv'.ownBlock=some g→L g=2∨W.heap.size≤g:=fun g hg=>(hv g hg).imp (h.lps g) (fun x=>x.1)
 have hvb:=QY hr
 obtain ⟨vs,hob1,_⟩:=ho.row
 have hobl:=lt_of_block (ho2.trans hob1)
 have hcbl:=lt_of_block hcb
 refine ⟨fun b=>if b=ob then 10+3*ps.length else if b=cb then 11+3*ps.length else lab L psv' 2 b,?_⟩
 obtain ⟨L',hL'⟩:∃L',L'=fun b=>if b=ob then 10+3*ps.length else if b=cb then 11+3*ps.length else lab L psv' 2 b:=⟨_,rfl⟩
 rw [← hL']
 have lo:L' ob=10+3*ps.length:=by rw [hL'];simp
 have lc:L' cb=11+3*ps.length:=by rw [hL'];simp [Ne.symm hne]
 have lr:∀b,b≠ob→b≠cb→L' b=lab L psv' 2 b:=fun b h1 h2=>by rw [hL'];simp [h1,h2]
 have g:Goes L L' (fun n=>n=1∨n=2) W W':=⟨ht.wide (fun k _ e=>by
  show L k=_∨L k=_
  rcases e with e|e
  ·rw [e];exact .inl h.lyb
  ·exact .inr (h.lps k e)),by omega,fun b hb=>by
   rw [lr b (by omega) (by omega)]
   exact zcG hvl b hb,fun b hb'=>by
   by_cases e1:b=ob
   ·rw [e1];exact hobl
   ·by_cases e2:b=cb
    ·rw [e2];exact hcbl
    ·rw [lr b e1 e2] at hb'
     unfold lab at hb'
     by_cases e:psv'.ownBlock=some b
     ·exact hvb b e
     ·rw [if_neg e] at hb'
      exact Nat.lt_of_lt_of_le (h.base b hb').2 ht.size⟩
 refine ⟨g.stay,(g.low h.low h.base).1,(g.low h.low h.base).2,hc,(g.old yb (lt_of_block h.play)).trans h.lyb,?_,fun x hx=>?_,(g.book h.book h.lbk (by omega)).1,(g.book h.book h.lbk (by omega)).2,fun j q hq=>?_,fun j q hq=>?_⟩
 ·rw [ze0,List.length_append]
  exact hr
 ·have:x≠ob∧x≠cb:=by
   rcases hv x hx with e|e
   ·have:=QY h.row x e
    exact ⟨by omega,by omega⟩
   ·exact e.2
  rw [lr x this.1 this.2]
  exact zgJ x hx
 ·by_cases hj:j<ps.length
  ·rw [List.getElem?_append_left hj] at hq
   exact g.office (h.off j q hq).1 (h.off j q hq).2 (by omega)
  ·have hjl:=(List.getElem?_eq_some_iff.1 hq).1
   simp at hjl
   have hje:j=ps.length:=by omega
   subst hje
   rw [List.getElem?_append_right (Nat.le_refl _)] at hq
   simp at hq
   subst hq
   exact ⟨ho.fresh ho2 (by unfold Lm;rw [lo];omega),lo⟩
 ·by_cases hj:j<ps.length
  ·rw [List.getElem?_append_left hj] at hq
   exact g.ref (h.ref j q hq).1 (h.ref j q hq).2.1 (h.ref j q hq).2.2 (by omega) (by omega)
  ·have hjl:=(List.getElem?_eq_some_iff.1 hq).1
   simp at hjl
   have hje:j=ps.length:=by omega
   subst hje
   rw [List.getElem?_append_right (Nat.le_refl _)] at hq
   simp at hq
   subst hq
   exact ⟨⟨by unfold Lm;rw [lc];omega,hcb,⟨[],World.ownsRow_nil _ _ _ _,yP.nil⟩,fun g hg=>by cases hg⟩,lc,fun g hg=>by cases hg⟩
theorem Qh {st:StO} {ks:List zG} (h:Agree st ks) {i:Nat} (hi:i<4) {name:ByteArray} (hn:ks.findIdx? (isR (i:Int) name)=none):zX (st i) name=false:=by
 cases e:zX (st i) name with
 | false=>rfl
 | true=>
  obtain ⟨k,hk⟩:=(h.has hi).1 e
  rw [hn] at hk
  cases hk
theorem zjI {st:StO} {ks:List zG} (h:Agree st ks) {l:Int} {name text:ByteArray} {M:Nat→Prop} {cb:Nat} {lv:Value} {w w':World} {e:Ending} (hp:KZ ks l name text M cb lv w e w') :
  ∃v' ks',e = .returned (.tuple #[.int .i64 (zde st l name text).1, .int .i64 ((zde st l name text).2:Int)])∧zF (fun b=>b=cb∨lv.ownBlock=some b) w w'∧yM (xx M v') w' cb v' ks'∧(∀g,v'.ownBlock=some g→lv.ownBlock=some g∨w.heap.size≤g)∧Agree (zd1 st l name text) ks':=by
 obtain ⟨E,A,v',ks',he,ht,_,hr,ho,c1,c2,c3,c4⟩:=hp
 refine ⟨v',ks',?_,ht,hr,ho,?_⟩
 all_goals
  by_cases hpl:ql l name=0
  ·by_cases hd:(Rd.qU text).1=0
   ·obtain ⟨i,rfl,hi,hnm⟩:=uT hpl
    cases hf:ks.findIdx? (isR (i:Int) name) with
    | some k=>
     obtain ⟨rfl,rfl,rfl⟩:=c3 hpl hd k hf
     have hh:=(h.has hi).2 ⟨k,hf⟩
     first
      | (rw [he];unfold zde;rw [if_pos hpl,if_pos hd,Int.toNat_natCast,hh];rfl)
      | (unfold zd1 UU;rw [Int.toNat_natCast,hh,decide_eq_true hpl,decide_eq_true hd];exact h.set hi hnm hd hf)
    | none=>
     obtain ⟨out,hin,hc⟩:=c4 hpl hd hf
     have hh:=Qh h hi hf
     have hlen:(st i).length=out.length:=by rw [h.layer hi hin,List.length_map]
     rcases hc with ⟨h4,rfl,rfl,rfl⟩|⟨h4,rfl,rfl,rfl⟩
     ·have d:decide ((st i).length<4)=false:=decide_eq_false (by omega)
      first
       | (rw [he];unfold zde;rw [if_pos hpl,if_pos hd,Int.toNat_natCast,hh,d];rfl)
       | (unfold zd1 UU;rw [Int.toNat_natCast,hh,d,decide_eq_true hpl,decide_eq_true hd];exact h)
     ·have d:decide ((st i).length<4)=true:=decide_eq_true (by omega)
      first
       | (rw [he];unfold zde;rw [if_pos hpl,if_pos hd,Int.toNat_natCast,hh,d];rfl)
       | (unfold zd1 UU;rw [Int.toNat_natCast,hh,d,decide_eq_true hpl,decide_eq_true hd];exact h.add hi hnm hd hf)
   ·obtain ⟨rfl,rfl,rfl⟩:=c2 hpl hd
    first
     | (rw [he];unfold zde;rw [if_pos hpl,if_neg hd])
     | (unfold zd1 UU;rw [decide_eq_true hpl,decide_eq_false hd];exact h)
  ·obtain ⟨rfl,rfl,rfl⟩:=c1 hpl
   first
    | (rw [he];unfold zde;(rw [if_neg hpl]<;>rfl))
    | (unfold zd1 UU;rw [decide_eq_false hpl];exact h)
theorem ziF {st:StO} {ks:List zG} (h:Agree st ks) {l:Int} {name:ByteArray} {M:Nat→Prop} {cb:Nat} {lv:Value} {w w':World} {e:Ending} (hp:JA ks l name M cb lv w e w') :
  ∃v' ks',e = .returned (.int .i64 (UY st l name))∧zF (fun b=>b=cb∨lv.ownBlock=some b) w w'∧yM (xx M v') w' cb v' ks'∧(∀g,v'.ownBlock=some g→lv.ownBlock=some g∨w.heap.size≤g)∧Agree (zac st l name) ks':=by
 obtain ⟨E,v',ks',he,ht,_,hr,ho,c1,c2,c3⟩:=hp
 refine ⟨v',ks',?_,ht.wide (fun _ _ e => .inl e),hr,fun g hg=>?_,?_⟩
 rotate_left
 ·rcases ho with rfl|ho
  ·exact .inl hg
  ·exact .inr (ho g hg)
 all_goals
  by_cases hpl:ql l name=0
  ·obtain ⟨i,rfl,hi,hnm⟩:=uT hpl
   cases hf:ks.findIdx? (isR (i:Int) name) with
   | some k=>
    obtain ⟨rfl,rfl⟩:=c3 hpl k hf
    have hh:=(h.has hi).2 ⟨k,hf⟩
    first
     | (rw [he];unfold UY;rw [if_pos hpl,Int.toNat_natCast,hh];rfl)
     | (unfold zac;rw [Int.toNat_natCast,if_pos ⟨hpl,hh⟩];exact h.less hi hf)
   | none=>
    obtain ⟨rfl,rfl⟩:=c2 hpl hf
    have hh:=Qh h hi hf
    first
     | (rw [he];unfold UY;rw [if_pos hpl,Int.toNat_natCast,hh];rfl)
     | (unfold zac;rw [Int.toNat_natCast,hh,if_neg (by simp)];exact h)
  ·obtain ⟨rfl,rfl⟩:=c1 hpl
   first
    | (rw [he];unfold UY;rw [if_neg hpl])
    | (unfold zac;rw [if_neg (fun x=>hpl x.1)];exact h)
theorem zht {st:StO} {ks:List zG} (h:Agree st ks) {l:Int} {name:ByteArray} {w w':World} {e:Ending} (hp:Jt ks l name w e w') :
  e = .returned (.tuple #[.string (Kr st l name), .int .i64 (zaa st l name)])∧Below w.heap.size w w':=by
 obtain ⟨s,E,he,hb,c1,c2,c3⟩:=hp
 refine ⟨?_,hb⟩
 rw [he]
 by_cases hpl:ql l name=0
 ·obtain ⟨i,rfl,hi,hnm⟩:=uT hpl
  cases hf:ks.findIdx? (isR (i:Int) name) with
  | some k=>
   obtain ⟨x,hx,_⟩:=kU hf
   obtain ⟨rfl,rfl⟩:=c3 hpl k x hf hx
   have hh:=(h.has hi).2 ⟨k,hf⟩
   unfold Kr zaa
   rw [if_pos hpl,Int.toNat_natCast,if_pos ⟨hpl,hh⟩,h.shown hi hf hx,hh]
   rfl
  | none=>
   obtain ⟨rfl,rfl⟩:=c2 hpl hf
   have hh:=Qh h hi hf
   unfold Kr zaa
   rw [if_pos hpl,Int.toNat_natCast,hh,if_neg (by simp)]
   rfl
 ·obtain ⟨rfl,rfl⟩:=c1 hpl
  unfold Kr zaa
  rw [if_neg hpl,if_neg (fun x=>hpl x.1)]
theorem zfN {st:StO} {ks:List zG} (h:Agree st ks) {l:Int} {w w':World} {e:Ending} (hp:XY ks l w e w') :
  ∃v,e = .returned (.tuple #[v, .int .i64 (Xi l)])∧zh w' w.heap.size v (YT st l)∧Below w.heap.size w w':=by
 obtain ⟨v,ns,he,ho,hb,c1,c2⟩:=hp
 refine ⟨v,he,?_,hb⟩
 have:ns=YT st l:=by
  unfold YT
  cases hl:qJ l with
  | false=>rw [if_neg (by simp)];exact c1 hl
  | true=>
   rw [if_pos rfl]
   obtain ⟨out,hin,rfl⟩:=c2 hl
   have hr:∃i:Nat,l=(i:Int)∧i<4:=by
    unfold qJ at hl
    simp at hl
    exact ⟨l.toNat,by omega,by omega⟩
   obtain ⟨i,rfl,hi⟩:=hr
   rw [Int.toNat_natCast,h.layer hi hin,List.map_map]
   rfl
 rw [← this]
 exact ho
theorem zg8 {st:StO} (hg:∀i,i<4→VP (st i)) (l:Int):(YT st l).length≤1000:=by
 unfold YT
 cases hl:qJ l with
 | false=>simp
 | true=>
  rw [if_pos rfl,List.length_map]
  have hr:l.toNat<4:=by
   unfold qJ at hl
   simp at hl
   omega
  have:=(hg _ hr).2.1
  omega
def xK (ps:List yZ):Prop:=∀(i:Nat) (p:yZ),ps[i]?=some p→Agree p.st p.ks
theorem xK.set {ps:List yZ} (h:xK ps) (i:Nat) {q:yZ} (hq:Agree q.st q.ks):xK (ps.set i q):=fun j p hp=>by
 rw [List.getElem?_set] at hp
 by_cases e:i=j
 ·rw [if_pos e] at hp
  split at hp
  ·injection hp with hp
   subst hp
   exact hq
  ·cases hp
 ·rw [if_neg e] at hp
  exact h j p hp
theorem xK.add {ps:List yZ} (h:xK ps) {q:yZ} (hq:Agree q.st q.ks):xK (ps++[q]):=fun j p hp=>by
 by_cases hj:j<ps.length
 ·rw [List.getElem?_append_left hj] at hp
  exact h j p hp
 ·have hjl:=(List.getElem?_eq_some_iff.1 hp).1
  simp at hjl
  have hje:j=ps.length:=by omega
  subst hje
  rw [List.getElem?_append_right (Nat.le_refl _)] at hp
  simp at hp
  subst hp
  exact hq
def Zb (w0:World) (L:Nat→Nat) (w:World) (yb n m:Nat) (e:Ending) (w':World):Prop:=
 ∃L' psv bkv ps m',e = .returned (.bool true)∧YS L L' w w'∧xw w0 L' w' yb psv bkv ps m'∧xK ps∧n≤ps.length∧ps.length≤n+1∧m'≤m+1∧0<ps.length
def J9 (k a l:Int) (name text who act on:ByteArray) (ma:Option Addr) (mn mc:Nat):Value := .agg #[.int .i64 k, .int .i64 a, .int .i64 l, .string name, .string text, .string who, .string act, .string on, .slice ma mn mc]
theorem xw.pick {w0:World} {L:Nat→Nat} {W:World} {yb:Nat} {psv bkv:Value} {ps:List yZ} {m:Nat} (h:xw w0 L W yb psv bkv ps m) (c:Int) (hn:0<ps.length):∃g pc p,psv = .slice (some ⟨g,0,none⟩) ps.length pc∧Kp.Z5 c ps.length<ps.length∧ps[Kp.Z5 c ps.length]?=some p∧W.cell? ⟨yb,0,none⟩=some psv∧W.cell? ⟨g,Kp.Z5 c ps.length*2,none⟩=some (.pointer (some ⟨p.ob,0,none⟩))∧W.cell? ⟨g,Kp.Z5 c ps.length*2+1,none⟩=some (.pointer (some ⟨p.cb,0,none⟩))∧W.cell? ⟨yb,1,none⟩=some bkv:=by
 have hlt:Kp.Z5 c ps.length<ps.length:=Kp.zkq c ps.length hn
 have hp:=List.getElem?_eq_getElem hlt
 have hc:=(cells_of_block h.play 0).1
 have hc1:=(cells_of_block h.play 1).1
 simp at hc hc1
 have hg:=Uf hp
 rcases h.row.2 with ⟨_,h0⟩|⟨g,cap,cur,e,_⟩
 ·omega
 ·have hcc:=fun i hi=>World.ownsRow.cellAt (g:=g) (cap:=cap) (by rw [← e];exact h.row) i hi
  exact ⟨g,cap,_,e,hlt,hp,hc,(hcc _ (by omega)).trans hg.1,(hcc _ (by omega)).trans hg.2,hc1⟩
theorem Qr {w0:World} {L:Nat→Nat} {W:World} {yb:Nat} {psv bkv:Value} {ps:List yZ} {m:Nat} (h:xw w0 L W yb psv bkv ps m) (hag:xK ps) {i:Nat} {p:yZ} (hp:ps[i]?=some p):p.ks.length≤16∧(∀x ∈ p.ks,x.name.size≤maxLen)∧(∀x ∈ p.ks,x.rs.length≤10∧∀r ∈ x.rs,Ref.uS r)∧Agree p.st p.ks:=by
 have ha:=hag i p hp
 refine ⟨ha.few (fun i hi=>((h.off _ p hp).1.good i hi).2.1),fun x hx=>?_,fun x hx=>⟨(ha.ok x hx).2.1,(ha.ok x hx).2.2.1⟩,ha⟩
 have:=(ha.ok x hx).1
 by_cases e:1≤x.name.size∧x.name.size≤12
 ·unfold maxLen;omega
 ·rw [Ref.ug _ e] at this
  cases this
theorem zeF (w0:World) (aL:Addr) (hC:ziV w0 aL) (L:Nat→Nat) (w:World) (yb:Nat) (psv bkv:Value) (ps:List yZ) (m:Nat) (h:xw w0 L w yb psv bkv ps m) (hag:xK ps) (hps:0<ps.length) (hpl:ps.length≤100000000) (a l:Int) (name text who act on:ByteArray) (ma:Option Addr) (mn mc:Nat) (hA:I64 a) (hs:name.size≤maxLen) (ht:text.size≤maxLen) :
  Calls Tryz.prog 37 #[.pointer (some ⟨yb,0,none⟩),J9 2 a l name text who act on ma mn mc] w (Zb w0 L w yb ps.length m):=by
 unfold J9
 obtain ⟨W1,hW1⟩:∃W,w.alloc (.cells #[.int .i64 2, .int .i64 a, .int .i64 l, .string name, .string text, .string who, .string act, .string on, .slice ma mn mc] 91)=W:=⟨_,rfl⟩
 have b1:Below w.heap.size w W1:=by rw [← hW1];exact (Below.refl _ w).alloc (Nat.le_refl _) _
 have hbx:W1.heap[w.heap.size]?=some (.cells #[.int .i64 2, .int .i64 a, .int .i64 l, .string name, .string text, .string who, .string act, .string on, .slice ma mn mc] 91):=by rw [← hW1];exact heap_alloc_new w _
 have h1:=h.below b1
 obtain ⟨g,pc,p,rfl,hlt,hp,hc0,hco,hcc,hc1⟩:=h1.pick a hps
 have k0:=(cells_of_block hbx 0).1
 have k1:=(cells_of_block hbx 1).1
 simp at k0 k1
 have cp:=fun W=>Ku a ps.length W hA hps (by omega)
 obtain ⟨n,hn⟩:∃x,ps.length=x:=⟨_,rfl⟩
 obtain ⟨i,hi⟩:∃x,Kp.Z5 a ps.length=x:=⟨_,rfl⟩
 simp only [hi] at hp hco hcc hlt cp
 have hbase:=fun b (hb:L b≠0)=>(h.base b hb).2
 have lob:=(h.off i p hp).2
 have lcb:=(h.ref i p hp).2.1
 have llv:=(h.ref i p hp).2.2
 have ob1:p.ob<w.heap.size:=hbase _ (by omega)
 have cb1:p.cb<w.heap.size:=hbase _ (by omega)
 have lv1:∀g,p.lv.ownBlock=some g→g<w.heap.size:=fun g hg=>hbase _ (by have:=llv g hg;omega)
 have HPF:=hid (Qr h hag hp)
 simp only [hn] at hlt hps hpl hc0 cp ⊢
 have CP:=hid cp
 have HN:=hid hn
 have HP:=hid hp
 have H1:=hid h1
 have HBX:=hid hbx
 have HAG:=hid hag
 have HW1:=hid hW1
 have HB1:=hid b1
 have HLV:=hid lv1
 have HBS:=hid hbase
 have i0:(0:Int)≤(i:Int):=Int.natCast_nonneg _
 have i1:(i:Int)<(n:Int):=by omega
 have hzn:((n:Int)==0)=false:=by simp;omega
 clear cp hn hi hp h1 hbx hag hW1 b1 h lv1 hbase lob lcb llv
 go_enter Tryz.func37,Tryz.ntmps37
 go_upto_region 1 with fail
 rw [HW1.out]
 clear HW1
 go_upto_region 16 with fail
 go_cut [6] (fun v6 wc=>v6 = .pointer (some ⟨W1.heap.size,0,none⟩)∧wc=(W1.alloc (.cells #[.pointer (some ⟨p.ob,0,none⟩), .pointer (some ⟨p.cb,0,none⟩)] 175)).drew)
 case first=>
  go_region_held3 (fun w'=>w'.cell? ⟨yb,0,none⟩=some (.slice (some ⟨g,0,none⟩) n pc)∧w'.cell? ⟨w.heap.size,1,none⟩=some (.int .i64 a)∧w'.cell? ⟨g,i*2,none⟩=some (.pointer (some ⟨p.ob,0,none⟩))∧w'.cell? ⟨g,i*2+1,none⟩=some (.pointer (some ⟨p.cb,0,none⟩))) (go_keep) (first|(go_at_call 68;refine (CP.out _).mono ?_;rintro e w3 ⟨rfl,e3⟩;rw [e3];clear e3))
  all_goals
   go_wp2_with fail
   go_meet
   case rel=>exact ⟨rfl,rfl⟩
 case rest=>
  obtain ⟨rfl,hwc⟩:=hcut
  have b2:Below W1.heap.size W1 wc:=by rw [hwc];exact ((Below.refl _ W1).alloc (Nat.le_refl _) _).drew
  have hpr:wc.heap[W1.heap.size]?=some (.cells #[.pointer (some ⟨p.ob,0,none⟩), .pointer (some ⟨p.cb,0,none⟩)] 175):=by rw [hwc];exact heap_alloc_new W1 _
  clear hwc CP hc0 hco hcc hc1 k0 k1
  have HWc:=hid (H1.out.below b2)
  have hbx2:=(b2.block _ (lt_of_block HBX.out)).trans HBX.out
  have zw1:w.heap.size<W1.heap.size:=lt_of_block HBX.out
  have zwc:W1.heap.size<wc.heap.size:=lt_of_block hpr
  have HSW:Hid (YS L L w wc):=hid ((YS.of HB1.out).trans (YS.of b2))
  have HM2:Hid (∀b,Lm L b→b<w.heap.size):=hid HBS.out
  have p0:=(cells_of_block hpr 0).1
  have k0:=(cells_of_block hbx2 0).1
  have k2:=(cells_of_block hbx2 2).1
  have k3:=(cells_of_block hbx2 3).1
  have k4:=(cells_of_block hbx2 4).1
  simp at p0 k0 k2 k3 k4
  have HPR:=hid hpr
  have HX2:=hid hbx2
  clear hpr hbx2 b2
  have cput:=zmT p.ob p.st l name text (Lm L) aL wc (hC.below HWc.out.low) (HWc.out.off i p HP.out).1 (fun b hb=>Nat.lt_trans (HM2.out b hb) (by omega)) hs
  have cpr:=fun (W:World) (hz:wc.heap.size≤W.heap.size) (hr:yM (Lm L) W p.cb p.lv p.ks)=>zmr p.cb p.lv p.ks l name text (Lm L) W hr (by have:=HPF.out.1;omega) HPF.out.2.1 hs ht (fun b hb=>Nat.lt_of_lt_of_le (Nat.lt_trans (HM2.out b hb) (by omega)) hz)
  have hsm:=fun (W W':World) (e:Ending) (h:KZ p.ks l name text (Lm L) p.cb p.lv W e W')=>zjI HPF.out.2.2.2 h
  obtain ⟨⟨E,A⟩,hEA⟩:∃x,zde p.st l name text=x:=⟨_,rfl⟩
  rw [hEA] at cput
  simp only [hEA] at hsm
  have d1:(E==E)=true:=by simp
  have d2:((A:Int)==(A:Int))=true:=by simp
  have CPUT:=hid cput
  have CPR:=hid cpr
  have HSM:=hid hsm
  clear cput cpr hsm hEA
  have HPS:=hid (List.getElem?_set_self (l:=ps) (a:={ p with st:=zd1 p.st l name text }) (List.getElem?_eq_some_iff.1 HP.out).1)
  go_wp2_with (first
   | (go_at_call 24;refine CPUT.out.mono ?_;rintro e w4 ⟨rfl,t4,o4⟩;have P4:=hid (HWc.out.offSet HP.out t4 o4);have hp4:=(t4.block _ (lt_of_block HPR.out) (by omega)).trans HPR.out;have hx4:=(t4.block _ (lt_of_block HX2.out) (by omega)).trans HX2.out;have r1:=(cells_of_block hp4 1).1;have r2:=(cells_of_block hx4 2).1;have r3:=(cells_of_block hx4 3).1;have r4:=(cells_of_block hx4 4).1;simp at r1 r2 r3 r4;have z4:=t4.size;clear t4 o4 hp4 hx4)
   | (go_at_call 69;refine (CPR.out w4 z4 (P4.out.2.ref i _ HPS.out).1).mono ?_;rintro e w5 he;obtain ⟨v5,ks5,rfl,t5,r5,o5,a5⟩:=HSM.out _ _ _ he;obtain ⟨L5,s5,q5⟩:=P4.out.2.refSet HPS.out t5 r5 o5;have S5:=hid s5;have Q5:=hid q5;have A5:=hid a5;clear he t5 r5 o5 s5 q5 a5))
  go_ret
  have hq:=Q5.out
  rw [List.set_set] at hq
  exact ⟨L5,_,_,_,m,rfl,(HSW.out.trans P4.out.1).trans S5.out,hq,HAG.out.set i A5.out,by rw [List.length_set];exact Nat.le_of_eq HN.out.symm,by rw [List.length_set,HN.out];omega,by omega,by rw [List.length_set,HN.out];exact hps⟩
end Go.Proofs.YtdakgnaojakldaaGreatDoor
