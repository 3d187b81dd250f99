/- P -/
import Derived.Test.YtdakgnaojakldabGreatDoorT49
open Go.Proofs.Tryz
set_option maxRecDepth 100000
namespace Go.Proofs.YtdakgnaojakldabGreatDoor
open Go.RowKit
theorem iq{M:Nat->Prop}{w b:World}{base:Nat}{e:TypeId}{size:Nat}{v:Value}{n:Nat}{xs:List Value}(h:w.ownsRow base e size v n xs)(f:zA M w b)(d:∀g,v.ownBlock=some g->¬M g):b.ownsRow base e size v n xs:=by
 obtain⟨c,a⟩:=h;refine⟨c,?_⟩
 rcases a with a|⟨g,cap,cur,hv,hg,hh,h3⟩
 ·exact .inl a
 ·exact .inr ⟨g,cap,cur,hv,hg,by rw[f.block g (lt_of_block hh) (d g (by rw[hv];rfl))];exact hh,h3⟩
def xu(M:Nat->Prop)(w:World)(v:Value)(l:List Int):Prop:=∃a c,v = .slice a l.length c/\∀(k:Nat) (x:Int),l[k]?=some x->I64 x/\∃b o,a=some ⟨b,o,none⟩/\¬M b/\w.cell? ⟨b,o+k,none⟩=some (.int .i64 x)
theorem xu.ints{M:Nat->Prop}{w:World}{v:Value}{l:List Int}(h:xu M w v l):IntsIn w v l:=by
 obtain⟨a,c,e,h⟩:=h;exact⟨a,c,e,λk x g=>by obtain⟨i,d,o,b,_,f⟩:=h k x g;exact⟨i,d,o,b,f⟩⟩
theorem xu.turn{M:Nat->Prop}{w f:World}{v:Value}{l:List Int}(h:xu M w v l)(m:zA M w f):xu M f v l:=by
 obtain⟨a,c,e,h⟩:=h;exact⟨a,c,e,λk x n=>by obtain⟨i,b,o,g,d,j⟩:=h k x n;exact⟨i,b,o,g,d,m.cell (x:=⟨b,o+k,none⟩) d j⟩⟩
theorem xu.more{M M':Nat->Prop}{w:World}{v:Value}{l:List Int}(h:xu M w v l)(j:∀b,M' b->M b\/w.heap.size<=b):xu M' w v l:=by
 obtain⟨a,c,e,h⟩:=h;refine⟨a,c,e,λk x q=>?_⟩;obtain⟨i,d,o,g,p,f⟩:=h k x q;refine⟨i,d,o,g,λm=>?_,f⟩;have n:=World.block_lt_of_cell? _ _ f;simp only at n
 rcases j d m with h|h
 ·exact p h
 ·omega
theorem xu.own{M:Nat->Prop}{w:World}{B:Nat}{v:Value}{l:List Int}(h:w.ownsRow B 3 1 v l.length (l.map (Value.int .i64)))(g:∀x ∈ l,I64 x)(d:∀b,M b->b<B):xu M w v l:=by
 have c:=h
 rcases h.2 with ⟨e,h0⟩|⟨gb,cap,cur,e,_⟩
 ·have i:l=[]:=List.length_eq_zero_iff.1 h0;subst i;exact⟨none,0,e,λk x a=>by simp at a⟩
 ·rw[e] at c;refine⟨some ⟨gb,0,none⟩,cap,e,λk x a=>⟨g x (List.mem_of_getElem? a),gb,0,rfl,λf=>?_,?_⟩⟩
  ·have:=(World.ownsRow.lt c gb (by rfl)).1
   have:=d gb f
   omega
  ·have j:k<l.length:=(List.getElem?_eq_some_iff.1 a).1;rw[Nat.zero_add,World.ownsRow.cellAt c k (by omega),List.getElem?_map,a]
   rfl
structure yj (M:Nat->Prop) (w:World) (xs:List Value) (l:List Kp.zg):Prop where
 len:xs.length=l.length*10
 at':∀(k:Nat) (r:Kp.zg),l[k]?=some r->ZH r/\r.who.length<=maxLen/\r.act.length<=maxLen/\r.on.length<=maxLen/\∃v1 v2 v3,(∀t,t<10->xs[k*10+t]?=[Value.bool r.deny,v1,v2,v3,.int .i64 r.nt,.int .i64 r.iff,.int .i64 r.key,.int .i64 r.val,.bool r.no,.int .i64 r.style][t]?)/\xu M w v1 r.who/\xu M w v2 r.act/\xu M w v3 r.on
theorem yj.nil(M:Nat->Prop)(w:World):yj M w [] []:=⟨rfl,λk r h=>by simp at h⟩
theorem yj.turn{M:Nat->Prop}{w b:World}{xs:List Value}{l:List Kp.zg}(h:yj M w xs l)(a:zA M w b):yj M b xs l:=
 ⟨h.len,λk r d=>by
  obtain⟨f,j,m,n,o,p,q,c,e,g,i⟩:=h.at' k r d;exact⟨f,j,m,n,o,p,q,c,e.turn a,g.turn a,i.turn a⟩⟩
theorem yj.wide{M M':Nat->Prop}{w:World}{xs:List Value}{l:List Kp.zg}(h:yj M w xs l)(a:∀b,M' b->M b\/w.heap.size<=b):yj M' w xs l:=
 ⟨h.len,λk r d=>by
  obtain⟨f,j,m,n,o,p,q,c,e,g,i⟩:=h.at' k r d;exact⟨f,j,m,n,o,p,q,c,e.more a,g.more a,i.more a⟩⟩
theorem yj.add{M:Nat->Prop}{w:World}{xs:List Value}{l:List Kp.zg}(h:yj M w xs l){r:Kp.zg}{c d e:Value}(f:ZH r)(v:r.who.length<=maxLen)(x:r.act.length<=maxLen)(y:r.on.length<=maxLen)(n:xu M w c r.who)(o:xu M w d r.act)(p:xu M w e r.on):yj M w (xs++[Value.bool r.deny,c,d,e,.int .i64 r.nt,.int .i64 r.iff,.int .i64 r.key,.int .i64 r.val,.bool r.no,.int .i64 r.style]) (l++[r]):=by
 have g:=h.len;refine⟨by rw[List.length_append,List.length_append,g];simp;omega,λk C a=>?_⟩
 by_cases hk:k<l.length
 ·rw[List.getElem?_append_left hk] at a;obtain⟨j,z,A,B,u1,u2,u3,m,q,s,u⟩:=h.at' k C a;refine⟨j,z,A,B,u1,u2,u3,λt i=>?_,q,s,u⟩;rw[List.getElem?_append_left (by omega)];exact m t i
 ·have b:k=l.length:=by
   have:=(List.getElem?_eq_some_iff.1 a).1
   rw[List.length_append,List.length_singleton] at this;omega
  subst b;rw[List.getElem?_append_right (Nat.le_refl _)] at a;simp at a;subst a;refine⟨f,v,x,y,c,d,e,λt i=>?_,n,o,p⟩;rw[List.getElem?_append_right (by omega),g];congr 1;omega
def uZ(M:Nat->Prop)(w:World)(g:Value)(l:List Kp.zg):Prop:=∃a c,g = .slice a l.length c/\∀(k:Nat) (r:Kp.zg),l[k]?=some r->ZH r/\r.who.length<=maxLen/\r.act.length<=maxLen/\r.on.length<=maxLen /\
 ∃b o d e f,a=some ⟨b,o,none⟩/\¬M b/\(∀t,t<10->w.cell? ⟨b,o+k*10+t,none⟩=[Value.bool r.deny,d,e,f,.int .i64 r.nt,.int .i64 r.iff,.int .i64 r.key,.int .i64 r.val,.bool r.no,.int .i64 r.style][t]?)/\xu M w d r.who/\xu M w e r.act/\xu M w f r.on
theorem uZ.rules{M:Nat->Prop}{w:World}{d:Value}{l:List Kp.zg}(h:uZ M w d l):uY w d l:=by
 obtain⟨a,c,e,h⟩:=h;refine⟨a,c,e,λk r j=>?_⟩;obtain⟨f,q,s,t,i,o,u,v,x,g,_,b,m,n,p⟩:=h k r j;exact⟨f,q,s,t,i,o,u,v,x,g,⟨b 0 (by omega),b 1 (by omega),b 2 (by omega),b 3 (by omega),b 4 (by omega),b 5 (by omega),b 6 (by omega),b 7 (by omega),b 8 (by omega),b 9 (by omega)⟩,m.ints,n.ints,p.ints⟩
theorem PS{a b c d e f g i j k:Value}{t:Nat}(h:t<10):∃u,[a,b,c,d,e,f,g,i,j,k][t]?=some u:=⟨_,List.getElem?_eq_getElem (by simpa using h)⟩
theorem uZ.turn{M:Nat->Prop}{w n:World}{m:Value}{l:List Kp.zg}(h:uZ M w m l)(d:zA M w n):uZ M n m l:=by
 obtain⟨a,c,e,h⟩:=h;refine⟨a,c,e,λk r s=>?_⟩;obtain⟨f,A,B,C,g,o,D,E,F,p,i,q,v,y,z⟩:=h k r s;refine⟨f,A,B,C,g,o,D,E,F,p,i,λt b=>?_,v.turn d,y.turn d,z.turn d⟩;obtain⟨u,j⟩:=PS b;rw[j];exact d.cell (x:=⟨g,o+k*10+t,none⟩) i ((q t b).trans j)
theorem uZ.more{M M':Nat->Prop}{w:World}{j:Value}{l:List Kp.zg}(h:uZ M w j l)(d:∀b,M' b->M b\/w.heap.size<=b):uZ M' w j l:=by
 obtain⟨a,c,e,h⟩:=h;refine⟨a,c,e,λk r s=>?_⟩;obtain⟨f,x,y,z,g,o,A,B,C,m,q,i,t,u,v⟩:=h k r s;refine⟨f,x,y,z,g,o,A,B,C,m,λn=>?_,i,t.more d,u.more d,v.more d⟩;have p:=World.block_lt_of_cell? _ _ (i 0 (by omega));simp only at p
 rcases d g n with h|h
 ·exact q h
 ·omega
theorem yj.rules{M M':Nat->Prop}{w:World}{B:Nat}{v:Value}{xs:List Value}{l:List Kp.zg}(h:yj M w xs l)(g:w.ownsRow B 32 10 v l.length xs)(d:∀b,M' b->M b\/w.heap.size<=b)(i:∀b,M' b->b<B):uZ M' w v l:=by
 have a:=g
 rcases g.2 with ⟨e,h0⟩|⟨gb,cap,cur,e,_⟩
 ·have n:l=[]:=List.length_eq_zero_iff.1 h0;subst n;exact⟨none,0,e,λk r c=>by simp at c⟩
 ·rw[e] at a;refine⟨some ⟨gb,0,none⟩,cap,e,λk r c=>?_⟩;obtain⟨f,u,x,y,z,A,C,m,p,q,s⟩:=h.at' k r c;have D:k<l.length:=(List.getElem?_eq_some_iff.1 c).1;refine⟨f,u,x,y,gb,0,z,A,C,rfl,λj=>?_,λt o=>?_,p.more d,q.more d,s.more d⟩
  ·have:=(World.ownsRow.lt a gb (by rfl)).1
   have:=i gb j
   omega
  ·rw[Nat.zero_add,World.ownsRow.cellAt a (k*10+t) (by omega)];exact m t o
structure yB (M:Nat->Prop) (w:World) (xs:List Value) (l:List Kp.zY):Prop where
 len:xs.length=l.length*3
 at':∀(k:Nat) (p:Kp.zY),l[k]?=some p->I64 p.layer/\I64 p.name/\p.rules.length<=maxLen/\∃rv,xs[k*3]?=some (.int .i64 p.layer)/\xs[k*3+1]?=some (.int .i64 p.name)/\xs[k*3+2]?=some rv/\uZ M w rv p.rules
theorem yB.nil(M:Nat->Prop)(w:World):yB M w [] []:=⟨rfl,λk r h=>by simp at h⟩
theorem yB.turn{M:Nat->Prop}{w d:World}{xs:List Value}{l:List Kp.zY}(h:yB M w xs l)(g:zA M w d):yB M d xs l:=
 ⟨h.len,λk p e=>by
  obtain⟨a,b,c,i,j,m,n,f⟩:=h.at' k p e;exact⟨a,b,c,i,j,m,n,f.turn g⟩⟩
theorem yB.wide{M M':Nat->Prop}{w:World}{xs:List Value}{l:List Kp.zY}(h:yB M w xs l)(d:∀b,M' b->M b\/w.heap.size<=b):yB M' w xs l:=
 ⟨h.len,λk p e=>by
  obtain⟨a,b,c,g,i,j,m,f⟩:=h.at' k p e;exact⟨a,b,c,g,i,j,m,f.more d⟩⟩
theorem yB.add{M:Nat->Prop}{w:World}{xs:List Value}{l:List Kp.zY}(h:yB M w xs l){p:Kp.zY}{i:Value}(m:I64 p.layer)(n:I64 p.name)(o:p.rules.length<=maxLen)(q:uZ M w i p.rules):yB M w (xs++[.int .i64 p.layer,.int .i64 p.name,i]) (l++[p]):=by
 have e:=h.len;refine⟨by rw[List.length_append,List.length_append,e];simp;omega,λk r d=>?_⟩
 by_cases hk:k<l.length
 ·rw[List.getElem?_append_left hk] at d;obtain⟨a,b,c,j,s,t,u,g⟩:=h.at' k r d;refine⟨a,b,c,j,?_,?_,?_,g⟩
  ·rw[List.getElem?_append_left (by omega)];exact s
  ·rw[List.getElem?_append_left (by omega)];exact t
  ·rw[List.getElem?_append_left (by omega)];exact u
 ·have f:k=l.length:=by
   have:=(List.getElem?_eq_some_iff.1 d).1
   rw[List.length_append,List.length_singleton] at this;omega
  subst f;rw[List.getElem?_append_right (Nat.le_refl _)] at d;simp at d;subst d;refine⟨m,n,o,i,?_,?_,?_,q⟩
  ·rw[List.getElem?_append_right (by omega),e,Nat.sub_self];rfl
  ·rw[List.getElem?_append_right (by omega),e,Nat.add_sub_cancel_left];rfl
  ·rw[List.getElem?_append_right (by omega),e,Nat.add_sub_cancel_left];rfl
theorem yB.papers{M:Nat->Prop}{w:World}{B:Nat}{v:Value}{xs:List Value}{l:List Kp.zY}(h:yB M w xs l)(g:w.ownsRow B 29 3 v l.length xs):QK w v l:=by
 have d:=g
 rcases g.2 with ⟨e,h0⟩|⟨gb,cap,cur,e,_⟩
 ·have j:l=[]:=List.length_eq_zero_iff.1 h0;subst j;exact⟨none,0,e,λk r f=>by simp at f⟩
 ·rw[e] at d;refine⟨some ⟨gb,0,none⟩,cap,e,λk p i=>?_⟩;obtain⟨a,b,c,m,n,o,q,f⟩:=h.at' k p i;have s:k<l.length:=(List.getElem?_eq_some_iff.1 i).1;refine⟨a,b,c,gb,0,m,rfl,?_,?_,?_,f.rules⟩
  ·rw[Nat.zero_add,World.ownsRow.cellAt d (k*3) (by omega)];exact n
  ·rw[Nat.zero_add,World.ownsRow.cellAt d (k*3+1) (by omega)];exact o
  ·rw[Nat.zero_add,World.ownsRow.cellAt d (k*3+2) (by omega)];exact q
structure TuI (w W2:World) (B xb:Nat) (ov:Value) (j:Nat) (ys:List Value) (L:List Kp.zg) (cs:Array Value) (W:World):Prop where
 low:Below w.heap.size w W
 bb:Below B W2 W
 own:W.ownsRow B 32 10 ov j ys
 row:yj (λx=>(x<B\/ov.ownBlock=some x)\/x=xb) W ys L
 box:W.heap[xb]?=some (.cells cs 32)
 apart:∀x,ov.ownBlock=some x->x<xb
 wx:w.heap.size<=xb
 bx:B<=xb
theorem TuI.step{w d W c:World}{B b j:Nat}{e:Value}{f:List Value}{L:List Kp.zg}{cs:Array Value}(h:TuI w d B b e j f L cs W)(a:Below W.heap.size W c):TuI w d B b e j f L cs c:=
 ⟨h.low.trans (a.mono h.low.size),h.bb.trans (a.mono (Nat.le_trans h.bx (Nat.le_of_lt (lt_of_block h.box)))),ownsRow_below h.own a,h.row.turn (zA.of a),(a.block b (lt_of_block h.box)).trans h.box,h.apart,h.wx,h.bx⟩
theorem TuI.set{w d W:World}{B a j:Nat}{f:Value}{k:List Value}{L:List Kp.zg}{cs c:Array Value}(h:TuI w d B a f j k L cs W)(i:Nat)(v:Value)(l:cs.setIfInBounds i v=c):TuI w d B a f j k L c (W.setCell ⟨a,i,none⟩ v):=by
 have t:=zA.set (M:=λx=>x=a) W (b:=a) rfl i v;refine⟨h.low.setCell (p:=⟨a,i,none⟩) h.wx v,h.bb.setCell (p:=⟨a,i,none⟩) h.bx v,iq h.own t (λg m e=>?_),h.row.turn (t.wide (λ_ _ e => .inr e)),?_,h.apart,h.wx,h.bx⟩
 ·have:=h.apart g m
  have n:g=a:=e;omega
 ·rw[<- l];exact heap_setCell_same W a i _ _ v h.box
theorem TuI.made{w e W b:World}{B d j:Nat}{c:Value}{i:List Value}{L:List Kp.zg}{cs:Array Value}(h:TuI w e B d c j i L cs W){v:Value}{l:List Int}(g:b.ownsRow W.heap.size 3 1 v l.length (l.map (Value.int .i64)))(f:∀x ∈ l,I64 x):xu (λx=>(x<B\/c.ownBlock=some x)\/x=d) b v l:=
 xu.own g f (λx a=>by
  have k:=lt_of_block h.box
  have:=h.bx
  rcases a with (a|a)|a
  ·omega
  ·have:=h.apart x a;omega
  ·omega)
theorem xu.box{a B:Nat}{c v:Value}{W:World}{l:List Int}(h:xu (λx=>(x<B\/c.ownBlock=some x)\/x=a) W v l)(i:Nat)(u:Value):xu (λx=>(x<B\/c.ownBlock=some x)\/x=a) (W.setCell ⟨a,i,none⟩ u) v l:=
 h.turn ((zA.set (M:=λx=>x=a) W (b:=a) rfl i u).wide (λ_ _ e => .inr e))
theorem nY{W f:World}{o B:Nat}{c d:Value}{i:List Value}{L:List Kp.zg}(h:yj (λx=>(x<B\/c.ownBlock=some x)\/x=o) W i L)(b:W.grownBy f c.ownBlock)(n:d.ownBlock=c.ownBlock\/d.ownBlock=some W.heap.size):yj (λx=>x<B\/d.ownBlock=some x) f i L:=by
 have m:zA (λx=>c.ownBlock=some x) W f:=⟨b.os,b.tape,b.output,b.size,λk l g=>b.block k l (λe=>g e.symm)⟩
 have j:yj (λx=>(x<B\/c.ownBlock=some x)\/d.ownBlock=some x) W i L:=h.wide (λx a=>by
  rcases a with a|a
  ·exact .inl (.inl a)
  ·rcases n with e|e
   ·exact .inl (.inl (.inr (e.symm.trans a)))
   ·rw[e] at a;injection a with a;exact .inr (by omega))
 exact (j.turn (m.wide (λ_ _ e => .inl (.inr e)))).wide (λx a => .inl (a.imp .inl id))
theorem nW{W f:World}{o:Nat}{c d:Value}{i:List Value}{L:List Kp.zY}(h:yB (λx=>c.ownBlock=some x\/x=o) W i L)(b:W.grownBy f c.ownBlock)(n:d.ownBlock=c.ownBlock\/d.ownBlock=some W.heap.size):yB (λx=>d.ownBlock=some x) f i L:=by
 have m:zA (λx=>c.ownBlock=some x) W f:=⟨b.os,b.tape,b.output,b.size,λk l g=>b.block k l (λe=>g e.symm)⟩
 have j:yB (λx=>c.ownBlock=some x\/d.ownBlock=some x) W i L:=h.wide (λx a=>by
  rcases a with a|a
  ·exact .inl (.inl a)
  ·rcases n with e|e
   ·exact .inl (.inl (e.symm.trans a))
   ·rw[e] at a;injection a with a;exact .inr (by omega))
 exact (j.turn (m.wide (λ_ _ e => .inl e))).wide (λx a => .inl (.inr a))
theorem IL:(prog.info? 29).map (λi=>(i.zero,i.size,i.bytes))=some (some (.agg #[.int .i64 0,.int .i64 0,.slice none 0 0]),3,40):=by kernel_rfl
theorem MP:(prog.info? 32).map (λi=>(i.zero,i.size,i.bytes))=some (some (.agg #[.bool false,.slice none 0 0,.slice none 0 0,.slice none 0 0,.int .i64 0,.int .i64 0,.int .i64 0,.int .i64 0,.bool false,.int .i64 0]),10,128):=by kernel_rfl
end Go.Proofs.YtdakgnaojakldabGreatDoor
