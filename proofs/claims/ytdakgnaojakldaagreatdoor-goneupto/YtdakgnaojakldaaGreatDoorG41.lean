/- P -/
import Derived.Test.YtdakgnaojakldaaGreatDoorG40
import Derived.Test.YtdakgnaojakldaaGreatDoorG38
set_option maxRecDepth 100000
namespace Go.Proofs.YtdakgnaojakldaaGreatDoor
open Go.RowKit
def sW(w:World)(base:Nat)(xs:List Value)(j:Nat)(c:Ref.qZ):Prop:=
 ∃lv,xs[j*4]?=some (.string c.op)/\xs[j*4+1]?=some (.string c.key)/\xs[j*4+2]?=some lv/\xs[j*4+3]?=some (.bool c.no)/\w.ownsRow base 9 1 lv c.vals.length (Ref.strCells c.vals)
def vL(w:World)(base:Nat)(lv:Value)(cs:List Ref.qZ):Prop:=
 ∃xs,w.ownsRow base 244 4 lv cs.length xs/\∀j,(h:j<cs.length)->sW w base xs j cs[j]
theorem vL.nil(w:World)(base:Nat):vL w base (.slice none 0 0) []:=⟨[],World.ownsRow_nil _ _ _ _,λj a=>by simp at a⟩
theorem vL.kept{w g:World}{base:Nat}{lv:Value}{cs:List Ref.qZ}(h:vL w base lv cs)(f:∀i,base<=i->i<w.heap.size->g.heap[i]?=w.heap[i]?):vL g base lv cs:=by
 obtain⟨xs,k,m⟩:=h;refine⟨xs,Yt k f,λj n=>?_⟩;obtain⟨l,a,b,c,d,e⟩:=m j n;exact⟨l,a,b,c,d,Yt e f⟩
theorem vL.mono{w:World}{base f:Nat}{lv:Value}{cs:List Ref.qZ}(h:vL w base lv cs)(hb:f<=base):vL w f lv cs:=by
 obtain⟨xs,g,i⟩:=h;refine⟨xs,yD g hb,λj k=>?_⟩;obtain⟨l,a,b,c,d,e⟩:=i j k;exact⟨l,a,b,c,d,yD e hb⟩
theorem JC{W i:World}{base a:Nat}{e c:TypeId}{size b:Nat}{lv v:Value}{n m:Nat}{xs j:List Value}(own:W.ownsRow base e size lv n xs)(h:W.ownsRow a c b v m j)(f:e≠c)(k:W.grownBy i lv.ownBlock):i.ownsRow a c b v m j:=by
 refine h.kept k ?_
 rcases h.2 with ⟨rfl,_⟩|⟨g,cap,cur,rfl,_,hb,_⟩
 ·exact .inl rfl
 ·refine .inr λd=>?_
  rcases own.2 with ⟨rfl,_⟩|⟨g2,cap2,cur2,rfl,_,hb2,_⟩
  ·simp[Value.ownBlock] at d
  ·simp only[Value.ownBlock,Option.some.injEq] at d;subst d;rw[hb2] at hb;injection hb with hb
   injection hb with _ hb
   exact f hb
structure Zp (w:World) (fb:Nat) (nc:Array Value) (sh pt:Bool) (wx:World):Prop where
 g:w.grownBy wx (some fb)
 f:xZ wx fb sh pt
 n:wx.heap[w.heap.size]?=some (.cells nc 152 (0,0))
theorem Zp.start{w:World}{b:Nat}{sh pt:Bool}(c:xZ w b sh pt)(a:Array Value):Zp w b a sh pt (w.alloc (.cells a 152)):=by
 have hb:Below w.heap.size w (w.alloc (.cells a 152)):=nB _ _;exact⟨But.of _ hb,c.below hb,heap_alloc_new w _⟩
theorem Zp.size{w a:World}{b:Nat}{c:Array Value}{sh pt:Bool}(h:Zp w b c sh pt a):w.heap.size+1<=a.heap.size:=lt_of_block h.n
theorem Zp.grown{w i d:World}{a:Nat}{f:Array Value}{sh pt c b:Bool}(k:a<w.heap.size)(h:Zp w a f sh pt i)(e:i.grownBy d (some a))(j:xZ d a c b):Zp w a f c b d:=by
 have l:=h.size;exact⟨But.trans h.g e,j,(e.block _ (by omega) (by simp;omega)).trans h.n⟩
theorem Zp.app{w c d:World}{a:Nat}{b:Array Value}{sh pt:Bool}(e:a<w.heap.size)(h:Zp w a b sh pt c)(hb:Below (w.heap.size+1) c d):Zp w a b sh pt d:=by
 refine⟨⟨hb.os.trans h.g.os,hb.tape.trans h.g.tape,hb.output.trans h.g.output,Nat.le_trans h.g.size hb.size,λi hi j=>(hb.block i (by omega)).trans (h.g.block i hi j)⟩,(hb.block a (by omega)).trans h.f,(hb.block _ (by omega)).trans h.n⟩
def Zw(w:World)(base:Nat)(a b c d:Value)(R:Rd.qC):Prop:=
 w.ownsRow base 9 1 a R.who.2.length (Ref.strCells R.who.2)/\w.ownsRow base 9 1 b R.act.2.length (Ref.strCells R.act.2)/\w.ownsRow base 9 1 c R.on.2.length (Ref.strCells R.on.2)/\vL w base d R.cs
theorem Zw.kept{w f:World}{base:Nat}{b c d e:Value}{R:Rd.qC}(h:Zw w base b c d e R)(a:∀i,base<=i->i<w.heap.size->f.heap[i]?=w.heap[i]?):Zw f base b c d e R:=
 ⟨Yt h.1 a,Yt h.2.1 a,Yt h.2.2.1 a,h.2.2.2.kept a⟩
theorem Zw.mono{w:World}{base a:Nat}{b c d e:Value}{R:Rd.qC}(h:Zw w base b c d e R)(hb:a<=base):Zw w a b c d e R:=
 ⟨yD h.1 hb,yD h.2.1 hb,yD h.2.2.1 hb,h.2.2.2.mono hb⟩
structure yH (w:World) (nc sc:Array Value) (sh pt:Bool) (wx:World):Prop where
 g:Below w.heap.size w wx
 r:wx.heap[w.heap.size]?=some (.cells #[.string ⟨#[]⟩,.bool false,.slice none 0 0,.bool false,.slice none 0 0,.bool false,.slice none 0 0,.slice none 0 0] 160 (0,0))
 rf:wx.heap[w.heap.size+1]?=some (.cells #[.bool false,.bool false] 162 (0,0))
 n:wx.heap[w.heap.size+2]?=some (.cells nc 152 (0,0))
 s:wx.heap[w.heap.size+3]?=some (.cells sc 160 (0,0))
 f:xZ wx (w.heap.size+4) sh pt
theorem EP(w:World)(a b c d e:Obj):(((((w.alloc a).alloc b).alloc c).alloc d).alloc e).heap[w.heap.size]?=some a/\(((((w.alloc a).alloc b).alloc c).alloc d).alloc e).heap[w.heap.size+1]?=some b/\(((((w.alloc a).alloc b).alloc c).alloc d).alloc e).heap[w.heap.size+2]?=some c /\
  (((((w.alloc a).alloc b).alloc c).alloc d).alloc e).heap[w.heap.size+3]?=some d/\(((((w.alloc a).alloc b).alloc c).alloc d).alloc e).heap[w.heap.size+4]?=some e:=by
 obtain⟨g,h,j⟩:=rP w a b c;have f:(((w.alloc a).alloc b).alloc c).heap.size=w.heap.size+3:=by simp
 obtain⟨u1,u2⟩:=kC (((w.alloc a).alloc b).alloc c) d e;rw[f] at u1 u2
 have k:∀i,i<w.heap.size+3->(((((w.alloc a).alloc b).alloc c).alloc d).alloc e).heap[i]?=(((w.alloc a).alloc b).alloc c).heap[i]?:=by
  intro i hi;rw[Below.heap_alloc _ _ _ (by simp;omega),Below.heap_alloc _ _ _ (by simp;omega)]
 exact⟨(k _ (by omega)).trans g,(k _ (by omega)).trans h,(k _ (by omega)).trans j,u1,u2⟩
theorem yH.start(w:World)(a:Array Value) :
  yH w a #[.string ⟨#[]⟩,.bool false,.slice none 0 0,.bool false,.slice none 0 0,.bool false,.slice none 0 0,.slice none 0 0] false false
   (((((w.alloc (.cells #[.string ⟨#[]⟩,.bool false,.slice none 0 0,.bool false,.slice none 0 0,.bool false,.slice none 0 0,.slice none 0 0] 160)).alloc (.cells #[.bool false,.bool false] 162)).alloc (.cells a 152)).alloc (.cells #[.string ⟨#[]⟩,.bool false,.slice none 0 0,.bool false,.slice none 0 0,.bool false,.slice none 0 0,.slice none 0 0] 160)).alloc (.cells #[.bool false,.bool false] 162)):=by
 obtain⟨b,c,d,e,f⟩:=EP w (.cells #[.string ⟨#[]⟩,.bool false,.slice none 0 0,.bool false,.slice none 0 0,.bool false,.slice none 0 0,.slice none 0 0] 160) (.cells #[.bool false,.bool false] 162) (.cells a 152) (.cells #[.string ⟨#[]⟩,.bool false,.slice none 0 0,.bool false,.slice none 0 0,.bool false,.slice none 0 0,.slice none 0 0] 160) (.cells #[.bool false,.bool false] 162);exact⟨(((((nB _ _).alloc (by simp) _).alloc (by simp;omega) _).alloc (by simp;omega) _).alloc (by simp;omega) _),b,c,d,e,f⟩
theorem yH.size{w a:World}{b c:Array Value}{sh pt:Bool}(h:yH w b c sh pt a):w.heap.size+5<=a.heap.size:=lt_of_block h.f
theorem yH.below{w a d:World}{b c:Array Value}{sh pt:Bool}(h:yH w b c sh pt a)(hb:Below a.heap.size a d):yH w b c sh pt d:=by
 have e:=h.size;exact⟨h.g.trans (hb.mono (by omega)),(hb.block _ (by omega)).trans h.r,(hb.block _ (by omega)).trans h.rf,(hb.block _ (by omega)).trans h.n,(hb.block _ (by omega)).trans h.s,h.f.below hb⟩
theorem yH.grown{w i d:World}{e f:Array Value}{sh pt c b:Bool}(h:yH w e f sh pt i)(a:i.grownBy d (some (w.heap.size+4)))(j:xZ d (w.heap.size+4) c b):yH w e f c b d:=by
 have k:=h.size;exact⟨h.g.trans (But.below a (by omega) (by omega)),(a.block _ (by omega) (by simp)).trans h.r,(a.block _ (by omega) (by simp)).trans h.rf,(a.block _ (by omega) (by simp)).trans h.n,(a.block _ (by omega) (by simp)).trans h.s,j⟩
theorem yH.shape{w c:World}{a b:Array Value}{sh pt:Bool}(h:yH w a b sh pt c)(x:Bool):yH w a b x pt (c.setCell ⟨w.heap.size+4,0,none⟩ (.bool x)):=
 h.grown (But.set _ _ _ _) (h.f.shape x)
theorem yH.put{w a:World}{d e:Array Value}{sh pt:Bool}(h:yH w d e sh pt a)(o:Nat)(u:Value)(c:Array Value)(b:c=e.set! o u):yH w d c sh pt (a.setCell ⟨w.heap.size+3,o,none⟩ u):=by
 subst b;have ne:∀i,i≠w.heap.size+3->(a.setCell ⟨w.heap.size+3,o,none⟩ u).heap[i]?=a.heap[i]?:=λi hi=>Below.heap_setCell _ _ _ _ (by simp only;omega);exact⟨h.g.setCell (by simp only;omega) _,(ne _ (by omega)).trans h.r,(ne _ (by omega)).trans h.rf,(ne _ (by omega)).trans h.n,heap_setCell_same a _ o _ _ _ h.s,(ne _ (by omega)).trans h.f⟩
theorem yH.cells{w a:World}{d e g i c0 c1 c2 c3 c4 c5 b c:Value}{sh pt:Bool}(h:yH w #[d,e,g,i] #[c0,c1,c2,c3,c4,c5,b,c] sh pt a) :
  (a.cell? ⟨w.heap.size+2,0,none⟩=some d/\a.cell? ⟨w.heap.size+2,1,none⟩=some e/\a.cell? ⟨w.heap.size+2,2,none⟩=some g/\a.cell? ⟨w.heap.size+2,3,none⟩=some i) /\
  (a.cell? ⟨w.heap.size+3,0,none⟩=some c0/\a.cell? ⟨w.heap.size+3,1,none⟩=some c1/\a.cell? ⟨w.heap.size+3,2,none⟩=some c2/\a.cell? ⟨w.heap.size+3,3,none⟩=some c3/\a.cell? ⟨w.heap.size+3,4,none⟩=some c4/\a.cell? ⟨w.heap.size+3,5,none⟩=some c5/\a.cell? ⟨w.heap.size+3,6,none⟩=some b/\a.cell? ⟨w.heap.size+3,7,none⟩=some c) /\
  (∀o,a.frozen? ⟨w.heap.size+3,o,none⟩=false) /\
  (a.cell? ⟨w.heap.size+4,0,none⟩=some (.bool sh)/\a.cell? ⟨w.heap.size+4,1,none⟩=some (.bool pt)/\a.frozen? ⟨w.heap.size+4,0,none⟩=false):=
 ⟨⟨(za h.n 0).1,(za h.n 1).1,(za h.n 2).1,(za h.n 3).1⟩,⟨(za h.s 0).1,(za h.s 1).1,(za h.s 2).1,(za h.s 3).1,(za h.s 4).1,(za h.s 5).1,(za h.s 6).1,(za h.s 7).1⟩,
  λo=>(za h.s o).2,h.f.cell.1,h.f.cell.2.1,h.f.cell.2.2.1⟩
def QU(w:World)(b:Nat)(a c d e f g h i:Value):World:=(((((((w.setCell ⟨b,0,none⟩ a).setCell ⟨b,1,none⟩ c).setCell ⟨b,2,none⟩ d).setCell ⟨b,3,none⟩ e).setCell ⟨b,4,none⟩ f).setCell ⟨b,5,none⟩ g).setCell ⟨b,6,none⟩ h).setCell ⟨b,7,none⟩ i
def set2(w:World)(b:Nat)(a c:Value):World:=(w.setCell ⟨b,0,none⟩ a).setCell ⟨b,1,none⟩ c
theorem QV{w:World}{b:Nat}{t:TypeId}{cs:Array Value}(h:w.heap[b]?=some (.cells cs t (0,0)))(o:Nat)(u:Value):(w.setCell ⟨b,o,none⟩ u).heap[b]?=some (.cells (cs.set! o u) t (0,0)):=heap_setCell_same w b o _ _ _ h
theorem Rk{w:World}{b:Nat}{t:TypeId}{c0 c1 c2 c3 c4 c5 f d:Value}(h:w.heap[b]?=some (.cells #[c0,c1,c2,c3,c4,c5,f,d] t (0,0)))(a c e g i j k l:Value):(QU w b a c e g i j k l).heap[b]?=some (.cells #[a,c,e,g,i,j,k,l] t (0,0)):=by
 have v:(#[c0,c1,c2,c3,c4,c5,f,d]:Array Value).set! 0 a=#[a,c1,c2,c3,c4,c5,f,d]:=rfl;have m:=QV h 0 a;rw[v] at m;have x:(#[a,c1,c2,c3,c4,c5,f,d]:Array Value).set! 1 c=#[a,c,c2,c3,c4,c5,f,d]:=rfl;have n:=QV m 1 c;rw[x] at n;have y:(#[a,c,c2,c3,c4,c5,f,d]:Array Value).set! 2 e=#[a,c,e,c3,c4,c5,f,d]:=rfl;have o:=QV n 2 e;rw[y] at o;have z:(#[a,c,e,c3,c4,c5,f,d]:Array Value).set! 3 g=#[a,c,e,g,c4,c5,f,d]:=rfl;have p:=QV o 3 g;rw[z] at p;have A:(#[a,c,e,g,c4,c5,f,d]:Array Value).set! 4 i=#[a,c,e,g,i,c5,f,d]:=rfl;have q:=QV p 4 i;rw[A] at q;have B:(#[a,c,e,g,i,c5,f,d]:Array Value).set! 5 j=#[a,c,e,g,i,j,f,d]:=rfl;have r:=QV q 5 j;rw[B] at r;have C:(#[a,c,e,g,i,j,f,d]:Array Value).set! 6 k=#[a,c,e,g,i,j,k,d]:=rfl;have s:=QV r 6 k;rw[C] at s;have D:(#[a,c,e,g,i,j,k,d]:Array Value).set! 7 l=#[a,c,e,g,i,j,k,l]:=rfl;have u:=QV s 7 l;rw[D] at u;exact u
theorem Ri{w:World}{b:Nat}{t:TypeId}{c0 c1:Value}(h:w.heap[b]?=some (.cells #[c0,c1] t (0,0)))(a c:Value):(set2 w b a c).heap[b]?=some (.cells #[a,c] t (0,0)):=
 heap_setCell_same _ b 1 _ _ _ (heap_setCell_same _ b 0 _ _ _ h)
theorem pq(w:World)(b:Nat)(a c d e f g h j:Value)(i:Nat)(hi:i≠b):(QU w b a c d e f g h j).heap[i]?=w.heap[i]?:=by
 unfold QU
 iterate 8 rw[Below.heap_setCell _ _ _ _ (by simp only;exact hi)]
theorem pg(w:World)(b:Nat)(a c:Value)(i:Nat)(hi:i≠b):(set2 w b a c).heap[i]?=w.heap[i]?:=by
 unfold set2
 iterate 2 rw[Below.heap_setCell _ _ _ _ (by simp only;exact hi)]
theorem Rj{a w:World}{B b:Nat}(h:Below B a w)(hb:B<=b)(c d e f g i j k:Value):Below B a (QU w b c d e f g i j k):=
 (((((((h.setCell hb _).setCell hb _).setCell hb _).setCell hb _).setCell hb _).setCell hb _).setCell hb _).setCell hb _
theorem Rh{a w:World}{B b:Nat}(h:Below B a w)(hb:B<=b)(c d:Value):Below B a (set2 w b c d):=(h.setCell hb _).setCell hb _
theorem yH.fin{w a:World}{o p:Array Value}{sh pt:Bool}(h:yH w o p sh pt a)(b c d e f j k l m n:Value) :
  Below w.heap.size w (set2 (QU a w.heap.size b c d e f j k l) (w.heap.size+1) m n)/\(∀i,w.heap.size+2<=i->(set2 (QU a w.heap.size b c d e f j k l) (w.heap.size+1) m n).heap[i]?=a.heap[i]?) /\
  (set2 (QU a w.heap.size b c d e f j k l) (w.heap.size+1) m n).heap[w.heap.size]?=some (.cells #[b,c,d,e,f,j,k,l] 160 (0,0)) /\
  (set2 (QU a w.heap.size b c d e f j k l) (w.heap.size+1) m n).heap[w.heap.size+1]?=some (.cells #[m,n] 162 (0,0)):=by
 refine⟨Rh (Rj h.g (Nat.le_refl _) _ _ _ _ _ _ _ _) (by omega) _ _,λi hi=>?_,?_,Ri ((pq _ _ _ _ _ _ _ _ _ _ _ (by omega)).trans h.rf) _ _⟩
 ·rw[pg _ _ _ _ _ (by omega),pq _ _ _ _ _ _ _ _ _ _ _ (by omega)]
 ·rw[pg _ _ _ _ _ (by omega)];exact Rk h.r _ _ _ _ _ _ _ _
theorem vL.slice{w:World}{base:Nat}{lv:Value}{cs:List Ref.qZ}(h:vL w base lv cs):∃a c,lv = .slice a cs.length c:=by
 obtain⟨xs,h,_⟩:=h
 rcases h.2 with ⟨rfl,h0⟩|⟨g,c,cur,rfl,_⟩
 ·exact⟨_,_,by rw[h0]⟩
 ·exact⟨_,_,rfl⟩
structure Kp (B:Nat) (wx wy:World):Prop where
 size:wx.heap.size<=wy.heap.size
 keep:∀i,B<=i->i<wx.heap.size->wy.heap[i]?=wx.heap[i]?
theorem Kp.trans{B:Nat}{a b c:World}(h:Kp B a b)(k:Kp B b c):Kp B a c:=⟨Nat.le_trans h.size k.size,λi hi d=>(k.keep i hi (Nat.lt_of_lt_of_le d h.size)).trans (h.keep i hi d)⟩
theorem Kp.below{B:Nat}{a b:World}(h:Below a.heap.size a b):Kp B a b:=⟨h.size,λi _ c=>h.block i c⟩
theorem Kp.grown{B c:Nat}{a b:World}(h:a.grownBy b (some c))(e:c<B):Kp B a b:=⟨h.size,λi hi d=>h.block i d (by simp;omega)⟩
theorem Kp.set{B b:Nat}(a:World)(o:Nat)(u:Value)(hb:b<B):Kp B a (a.setCell ⟨b,o,none⟩ u):=⟨by simp[World.setCell],λi hi _=>Below.heap_setCell _ _ _ _ (by simp only;omega)⟩
def RSt(w:World)(base:Nat)(xs:List Value)(j:Nat)(R:Rd.qC):Prop:=
 ∃a b c d,xs[j*8]?=some (.string R.eff)/\xs[j*8+1]?=some (.bool R.who.1)/\xs[j*8+2]?=some a/\xs[j*8+3]?=some (.bool R.act.1)/\xs[j*8+4]?=some b/\xs[j*8+5]?=some (.bool R.on.1)/\xs[j*8+6]?=some c/\xs[j*8+7]?=some d/\Zw w base a b c d R
def um(w:World)(base:Nat)(lv:Value)(rs:List Rd.qC):Prop:=
 ∃xs,w.ownsRow base 160 8 lv rs.length xs/\∀j,(h:j<rs.length)->RSt w base xs j rs[j]
theorem um.nil(w:World)(base:Nat):um w base (.slice none 0 0) []:=⟨[],World.ownsRow_nil _ _ _ _,λj a=>by simp at a⟩
theorem um.kept{w b:World}{base:Nat}{lv:Value}{rs:List Rd.qC}(h:um w base lv rs)(a:∀i,base<=i->i<w.heap.size->b.heap[i]?=w.heap[i]?):um b base lv rs:=by
 obtain⟨xs,o,p⟩:=h;refine⟨xs,Yt o a,λj q=>?_⟩;obtain⟨r,s,t,u,c,d,f,g,k,l,m,n,e⟩:=p j q;exact⟨r,s,t,u,c,d,f,g,k,l,m,n,e.kept a⟩
theorem um.mono{w:World}{base a:Nat}{lv:Value}{rs:List Rd.qC}(h:um w base lv rs)(hb:a<=base):um w a lv rs:=by
 obtain⟨xs,m,n⟩:=h;refine⟨xs,yD m hb,λj o=>?_⟩;obtain⟨p,q,r,s,b,c,d,f,g,i,k,l,e⟩:=n j o;exact⟨p,q,r,s,b,c,d,f,g,i,k,l,e.mono hb⟩
theorem vL.other{W g:World}{base c:Nat}{e:TypeId}{size n:Nat}{lv f:Value}{xs:List Value}{cs:List Ref.qZ}(own:W.ownsRow base e size lv n xs)(h:vL W c f cs)(i:e≠244)(k:e≠9)(d:W.grownBy g lv.ownBlock):vL g c f cs:=by
 obtain⟨o,a,b⟩:=h;refine⟨o,JC own a i d,λj m=>?_⟩;obtain⟨l,p,q,r,s,t⟩:=b j m;exact⟨l,p,q,r,s,JC own t k d⟩
theorem Zw.other{W g:World}{base a:Nat}{lv c d e f:Value}{n:Nat}{xs:List Value}{R:Rd.qC}(own:W.ownsRow base 160 8 lv n xs)(h:Zw W a c d e f R)(b:W.grownBy g lv.ownBlock):Zw g a c d e f R:=
 ⟨JC own h.1 (by decide) b,JC own h.2.1 (by decide) b,JC own h.2.2.1 (by decide) b,h.2.2.2.other own (by decide) (by decide) b⟩
theorem Ref.QM(l:List BA)(a:l.length<=10)(h:∀s ∈ l,s.size<=12000):(Ref.qO l).size<=900000:=by
 have:=Ref.Xu l h l.length
 have z:(⟨#[93]⟩:BA).size=1:=rfl;rw[Ref.qO,ByteArray.size_append];omega
theorem Below.on{B:Nat}{a b c:World}(h:Below B a b)(k:Below b.heap.size b c)(d:B<=a.heap.size):Below B a c:=h.trans (k.mono (Nat.le_trans d h.size))
structure Grown (A:World) where
 w:World
 b:Below A.heap.size A w
theorem um.slice{w:World}{base:Nat}{lv:Value}{rs:List Rd.qC}(h:um w base lv rs):∃a c,lv = .slice a rs.length c:=by
 obtain⟨xs,h,_⟩:=h
 rcases h.2 with ⟨rfl,h0⟩|⟨g,c,cur,rfl,_⟩
 ·exact⟨_,_,by rw[h0]⟩
 ·exact⟨_,_,rfl⟩
def vM(M:Nat->Prop)(W:World)(c:Value)(rs:List Rd.qC):Prop:=
 ∃base a,um a base c rs/\a.heap.size<=W.heap.size/\∀b,base<=b->b<a.heap.size->¬M b/\W.heap[b]?=a.heap[b]?
theorem vM.at{M:Nat->Prop}{W:World}{a:Value}{c:List Rd.qC}(h:vM M W a c):∃base,um W base a c:=by
 obtain⟨base,g,d,_,e⟩:=h;exact⟨base,d.kept (λb hb f=>(e b hb f).2)⟩
theorem vM.turn{M:Nat->Prop}{W d:World}{e:Value}{g:List Rd.qC}(h:vM M W e g)(k:zu M W d):vM M d e g:=by
 obtain⟨base,i,j,f,c⟩:=h;exact⟨base,i,j,Nat.le_trans f k.size,λb hb a=>⟨(c b hb a).1,(k.block b (Nat.lt_of_lt_of_le a f) (c b hb a).1).trans (c b hb a).2⟩⟩
theorem vM.of{M:Nat->Prop}{W:World}{a:Value}{c:List Rd.qC}{base:Nat}(h:um W base a c)(d:∀b,M b->b<base):vM M W a c:=
 ⟨base,W,h,Nat.le_refl _,λb hb _=>⟨λe=>absurd (d b e) (by omega),rfl⟩⟩
theorem vM.more{M a:Nat->Prop}{W:World}{c:Value}{f:List Rd.qC}(h:vM M W c f)(k:∀b,a b->M b\/W.heap.size<=b):vM a W c f:=by
 obtain⟨base,g,i,j,d⟩:=h;refine⟨base,g,i,j,λb hb e=>⟨λl=>?_,(d b hb e).2⟩⟩
 rcases k b l with h|h
 ·exact (d b hb e).1 h
 ·omega
structure zL where
 layer:Int
 name:BA
 rs:List Rd.qC
def xz(M:Nat->Prop)(W:World)(xs:List Value)(d:List zL):Prop:=
 xs.length=d.length*3/\∀(k:Nat) (x:zL),d[k]?=some x->∃a c b,xs[k*3]?=some (.int .i64 x.layer)/\xs[k*3+1]?=some (.string x.name)/\xs[k*3+2]?=some (.slice a c b)/\vM M W (.slice a c b) x.rs
theorem xz.turn{M:Nat->Prop}{W a:World}{xs:List Value}{L:List zL}(h:xz M W xs L)(k:zu M W a):xz M a xs L:=
 ⟨h.1,λj x l=>by obtain⟨b,d,c,e,f,g,i⟩:=h.2 j x l;exact⟨b,d,c,e,f,g,i.turn k⟩⟩
theorem xz.more{M a:Nat->Prop}{W:World}{xs:List Value}{L:List zL}(h:xz M W xs L)(l:∀b,a b->M b\/W.heap.size<=b):xz a W xs L:=
 ⟨h.1,λj x m=>by obtain⟨c,e,d,f,g,i,k⟩:=h.2 j x m;exact⟨c,e,d,f,g,i,k.more l⟩⟩
theorem xz.nil{M:Nat->Prop}{W:World}:xz M W [] []:=⟨rfl,λk x a=>by simp at a⟩
theorem xz.one{M:Nat->Prop}{W:World}{b:Option Addr}{d c:Nat}{x:zL}(h:vM M W (.slice b d c) x.rs):xz M W [.int .i64 x.layer,.string x.name,.slice b d c] [x]:=by
 refine⟨rfl,λk y a=>?_⟩
 match k,a with
 | 0,a=>
  simp only[List.getElem?_cons_zero,Option.some.injEq] at a;subst a;exact⟨b,d,c,rfl,rfl,rfl,h⟩
 | k+1,a=>simp at a
theorem xz.take{M:Nat->Prop}{W:World}{xs:List Value}{L:List zL}(h:xz M W xs L)(p:Nat):xz M W (xs.take (p*3)) (L.take p):=by
 refine⟨by rw[List.length_take,List.length_take,h.1];omega,λk x a=>?_⟩;rw[List.getElem?_take] at a
 split at a
 ·rename_i j;obtain⟨b,d,c,e,f,g,i⟩:=h.2 k x a;exact⟨b,d,c,by rw[List.getElem?_take,if_pos (by omega)];exact e,by rw[List.getElem?_take,if_pos (by omega)];exact f,by rw[List.getElem?_take,if_pos (by omega)];exact g,i⟩
 ·cases a
theorem xz.drop{M:Nat->Prop}{W:World}{xs:List Value}{L:List zL}(h:xz M W xs L)(p:Nat):xz M W (xs.drop (p*3)) (L.drop p):=by
 refine⟨by rw[List.length_drop,List.length_drop,h.1];omega,λk x a=>?_⟩;rw[List.getElem?_drop] at a;obtain⟨b,d,c,e,f,g,i⟩:=h.2 (p+k) x a;exact⟨b,d,c,by rw[List.getElem?_drop,show p*3+k*3=(p+k)*3 by omega];exact e,by rw[List.getElem?_drop,show p*3+(k*3+1)=(p+k)*3+1 by omega];exact f,by rw[List.getElem?_drop,show p*3+(k*3+2)=(p+k)*3+2 by omega];exact g,i⟩
theorem xz.app{M:Nat->Prop}{W:World}{xs l:List Value}{L N:List zL}(h:xz M W xs L)(g:xz M W l N):xz M W (xs++l) (L++N):=by
 refine⟨by rw[List.length_append,List.length_append,h.1,g.1];omega,λk x a=>?_⟩
 by_cases hk:k<L.length
 ·rw[List.getElem?_append_left hk] at a;obtain⟨b,d,c,e,f,i,j⟩:=h.2 k x a;exact⟨b,d,c,by rw[List.getElem?_append_left (by rw[h.1];omega)];exact e,by rw[List.getElem?_append_left (by rw[h.1];omega)];exact f,by rw[List.getElem?_append_left (by rw[h.1];omega)];exact i,j⟩
 ·rw[List.getElem?_append_right (by omega)] at a;obtain⟨b,d,c,e,f,i,j⟩:=g.2 (k-L.length) x a;exact⟨b,d,c,by rw[List.getElem?_append_right (by rw[h.1];omega),h.1,show k*3-L.length*3=(k-L.length)*3 by omega];exact e,by rw[List.getElem?_append_right (by rw[h.1];omega),h.1,show k*3+1-L.length*3=(k-L.length)*3+1 by omega];exact f,by rw[List.getElem?_append_right (by rw[h.1];omega),h.1,show k*3+2-L.length*3=(k-L.length)*3+2 by omega];exact i,j⟩
structure Qy (M:Nat->Prop) (W:World) (cb:Nat) (lv:Value) (ks:List zL):Prop where
 mine:M cb
 cell:W.heap[cb]?=some (.cells #[lv] 173)
 rows:∃xs,W.ownsRow 0 251 3 lv ks.length xs/\xz M W xs ks
 own:∀g,lv.ownBlock=some g->M g/\g≠cb
theorem Qy.below{M:Nat->Prop}{W b:World}{a:Nat}{lv:Value}{c:List zL}(h:Qy M W a lv c)(hb:Below W.heap.size W b):Qy M b a lv c:=by
 obtain⟨xs,d,e⟩:=h.rows;exact⟨h.mine,(hb.block a (lt_of_block h.cell)).trans h.cell,⟨xs,ownsRow_below d hb,e.turn (zu.of hb)⟩,h.own⟩
theorem Qy.cells{M:Nat->Prop}{W:World}{q:Nat}{lv:Value}{b:List zL}(h:Qy M W q lv b):∃a c,lv = .slice a b.length c/\∀(k:Nat) (x:zL),b[k]?=some x->∃l d j f,a=some ⟨l,0,none⟩/\W.cell? ⟨l,k*3,none⟩=some (.int .i64 x.layer)/\W.cell? ⟨l,k*3+1,none⟩=some (.string x.name)/\W.cell? ⟨l,k*3+2,none⟩=some (.slice d j f)/\vM M W (.slice d j f) x.rs:=by
 obtain⟨xs,o,v⟩:=h.rows
 rcases o.2 with ⟨e,h0⟩|⟨g,cap,cur,e,_⟩
 ·have p:b=[]:=List.length_eq_zero_iff.1 h0;subst p;exact⟨none,0,e,λk x m=>by simp at m⟩
 ·refine⟨some ⟨g,0,none⟩,cap,e,λk x m=>?_⟩;have p:k<b.length:=(List.getElem?_eq_some_iff.1 m).1;obtain⟨d,j,f,r,s,t,u⟩:=v.2 k x m;have n:∀i,i<b.length*3->W.cell? ⟨g,i,none⟩=xs[i]?:=λi hi=>World.ownsRow.cellAt (g:=g) (cap:=cap) (by rw[<- e];exact o) i (by omega);exact⟨g,d,j,f,rfl,by rw[n _ (by omega)];exact r,by rw[n _ (by omega)];exact s,by rw[n _ (by omega)];exact t,u⟩
def isR(l:Int)(name:BA)(x:zL):Bool:=(x.layer==l)&&(x.name.toList==name.toList)
def nameAt(a:List zL)(i:Nat):BA:=match a[i]? with
 | some x=>x.name
 | none=>⟨#[]⟩
def Jh(a:List zL)(l:Int)(i:Nat):Bool:=match a[i]? with
 | some x=>x.layer==l
 | none=>false
def uq(a:List zL)(l:Int)(ts:List Bool)(i:Nat):Bool:=Jh a l i && !(ts.getD i false)
def Z9(a:List zL)(l:Int)(ts:List Bool):Nat->Option Nat
 | 0=>none
 | i+1=>if uq a l ts i then (match Z9 a l ts i with
  | none=>some i
  | some b=>if qB (nameAt a i) (nameAt a b)<0 then some i else some b) else Z9 a l ts i
theorem Ux(c:List zL)(l:Int)(ts:List Bool):∀n,(Z9 c l ts n=none->∀i,i<n->uq c l ts i=false)/\(∀b,Z9 c l ts n=some b->b<n/\uq c l ts b=true/\∀i,i<n->uq c l ts i=true->¬qB (nameAt c i) (nameAt c b)<0)
 | 0=>⟨λ_ i hi=>by omega,λb h=>by simp[Z9] at h⟩
 | n+1=>by
  obtain⟨g,j⟩:=Ux c l ts n;rw[Z9]
  cases hc:uq c l ts n with
  | false=>
   simp only[Bool.false_eq_true,if_false];refine⟨λh i hi=>?_,λb h=>?_⟩
   ·by_cases e:i=n
    ·subst e;exact hc
    ·exact g h i (by omega)
   ·obtain⟨m,f,d⟩:=j b h;refine⟨by omega,f,λi hi a=>?_⟩
    by_cases e:i=n
    ·subst e;rw[hc] at a;cases a
    ·exact d i (by omega) a
  | true=>
   simp only[if_true]
   cases hb:Z9 c l ts n with
   | none=>
    refine⟨(λh=>by cases h),λb h=>?_⟩;simp only[Option.some.injEq] at h;subst h;refine⟨by omega,hc,λi hi a=>?_⟩
    by_cases e:i=n
    ·subst e;rw[QG];omega
    ·rw[g hb i (by omega)] at a;cases a
   | some b0=>
    obtain⟨m,f,d⟩:=j b0 hb;simp only
    by_cases hlt:qB (nameAt c n) (nameAt c b0)<0
    ·rw[if_pos hlt];refine⟨(λh=>by cases h),λb h=>?_⟩;simp only[Option.some.injEq] at h;subst h;refine⟨by omega,hc,λi hi a k=>?_⟩
     by_cases e:i=n
     ·subst e;rw[QG] at k;omega
     ·exact d i (by omega) a (YZ k hlt)
    ·rw[if_neg hlt];refine⟨(λh=>by cases h),λb h=>?_⟩;simp only[Option.some.injEq] at h;subst h;refine⟨by omega,f,λi hi a=>?_⟩
     by_cases e:i=n
     ·subst e;exact hlt
     ·exact d i (by omega) a
def Js(a:List zL)(b:List Nat):List zL:=b.filterMap λp=>a[p]?
structure Taken (ks:List zL) (l:Int) (ps:List Nat) (ts:List Bool):Prop where
 len:ts.length=ks.length
 nodup:ps.Nodup
 mem:∀i,i<ks.length->(ts.getD i false=true↔i ∈ ps)
 ok:∀p ∈ ps,p<ks.length/\Jh ks l p=true
 sorted:ps.Pairwise λa b=>¬qB (nameAt ks b) (nameAt ks a)<0
 ahead:∀p ∈ ps,∀i,i<ks.length->uq ks l ts i=true->¬qB (nameAt ks i) (nameAt ks p)<0
theorem Taken.start(b:List zL)(l:Int):Taken b l [] (List.replicate b.length false):=
 ⟨by simp,List.nodup_nil,λi hi=>by simp[List.getD_eq_getElem?_getD,hi],λp a=>by simp at a,List.Pairwise.nil,λp a=>by simp at a⟩
theorem AP{c:List zL}{l:Int}{ts:List Bool}{b i:Nat}(h:uq c l (ts.set b true) i=true):uq c l ts i=true/\i≠b\/uq c l ts i=true/\ts.length<=b:=by
 unfold uq at h |-;rw[Bool.and_eq_true] at h |-;obtain⟨d,a⟩:=h;rw[List.getD_eq_getElem?_getD,List.getElem?_set] at a
 by_cases e:b=i
 ·subst e
  by_cases hb:b<ts.length
  ·rw[if_pos rfl,if_pos hb] at a;simp at a
  ·exact .inr ⟨⟨d,by rw[List.getD_eq_getElem?_getD,List.getElem?_eq_none (by omega)];rfl⟩,by omega⟩
 ·rw[if_neg e] at a;exact .inl ⟨⟨d,by rw[List.getD_eq_getElem?_getD];exact a⟩,λx=>e x.symm⟩
theorem Taken.next{d:List zL}{l:Int}{m:List Nat}{ts:List Bool}(h:Taken d l m ts){b:Nat}(hb:Z9 d l ts d.length=some b):Taken d l (m++[b]) (ts.set b true):=by
 obtain⟨j,c,n⟩:=(Ux d l ts d.length).2 b hb
 have f:b ∉ m:=by
  intro q
  have:=(h.mem b j).2 q
  unfold uq at c;rw[this] at c;simp at c
 refine⟨by rw[List.length_set];exact h.len,?_,λi hi=>?_,λp a=>?_,?_,λp a i hi o=>?_⟩
 ·rw[List.nodup_append];exact⟨h.nodup,by simp,λx k y g=>by simp at g;subst g;intro e;subst e;exact f k⟩
 ·rw[List.getD_eq_getElem?_getD,List.getElem?_set]
  by_cases e:b=i
  ·subst e;rw[if_pos rfl,if_pos (by rw[h.len];exact hi)]
   simp
  ·rw[if_neg e,<- List.getD_eq_getElem?_getD,h.mem i hi];simp only[List.mem_append,List.mem_singleton];exact⟨λx => .inl x,λx=>x.elim id (λy=>absurd y.symm e)⟩
 ·rcases List.mem_append.1 a with a|a
  ·exact h.ok p a
  ·rw[List.mem_singleton] at a;subst a;refine⟨j,?_⟩;unfold uq at c;rw[Bool.and_eq_true] at c;exact c.1
 ·rw[List.pairwise_append];refine⟨h.sorted,by simp,λx k y g=>?_⟩;rw[List.mem_singleton] at g;subst g;exact h.ahead x k y j c
 ·rcases AP o with ⟨hc1,_⟩|⟨hc1,_⟩
  ·rcases List.mem_append.1 a with a|a
   ·exact h.ahead p a i hi hc1
   ·rw[List.mem_singleton] at a;subst a;exact n i hi hc1
  ·rcases List.mem_append.1 a with a|a
   ·exact h.ahead p a i hi hc1
   ·rw[List.mem_singleton] at a;subst a;exact n i hi hc1
theorem Taken.small{a:List zL}{l:Int}{b:List Nat}{ts:List Bool}(h:Taken a l b ts):b.length<=a.length:=by
 have:=h.nodup.length_le_of_subset (l₂:=List.range a.length) (λp c=>List.mem_range.2 (h.ok p c).1)
 simpa using this
def df(c:List zL)(l:Int)(out:List zL):Prop:=∃d:List Nat,d.Nodup/\(∀p,p ∈ d↔p<c.length/\Jh c l p=true)/\(d.Pairwise λa b=>¬qB (nameAt c b) (nameAt c a)<0)/\out=Js c d
theorem Taken.done{a:List zL}{l:Int}{c:List Nat}{ts:List Bool}(h:Taken a l c ts)(hb:Z9 a l ts a.length=none):df a l (Js a c):=by
 have d:=(Ux a l ts a.length).1 hb;refine⟨c,h.nodup,λp=>⟨λb=>h.ok p b,λ⟨b,e⟩=>?_⟩,h.sorted,rfl⟩
 have:=d p b
 unfold uq at this;rw[e,Bool.true_and] at this;exact (h.mem p b).1 (by simpa using this)
theorem iY{a:List zL}{l:Int}{i:Nat}{x:zL}(h:a[i]?=some x):Jh a l i=(x.layer==l):=by unfold Jh;rw[h]
theorem lV{a:List zL}{i:Nat}{x:zL}(h:a[i]?=some x):nameAt a i=x.name:=by unfold nameAt;rw[h]
structure Um (M:Nat->Prop) (w wr:World) (tb n:Nat) (ks:List zL) (ps:List Nat) (ts:List Bool) (ov:Value):Prop where
 took:wr.ownsRow w.heap.size 4 1 (.slice (some ⟨tb,0,none⟩) n n) n (ts.map Value.bool)
 out:∃xs,wr.ownsRow w.heap.size 251 3 ov ps.length xs/\xz M w xs (Js ks ps)
 bel:Below w.heap.size w wr
theorem Um.below{M:Nat->Prop}{w wr a:World}{e n:Nat}{b:List zL}{d:List Nat}{ts:List Bool}{c:Value}(h:Um M w wr e n b d ts c)(hb:Below wr.heap.size wr a):Um M w a e n b d ts c:=by
 obtain⟨xs,f,g⟩:=h.out;exact⟨ownsRow_below h.took hb,⟨xs,ownsRow_below f hb,g⟩,h.bel.trans (hb.mono h.bel.size)⟩
end Go.Proofs.YtdakgnaojakldaaGreatDoor
