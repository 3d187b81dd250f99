/- P -/
import Derived.Test.YtdakgnaojakldaaGreatDoorF37
import Derived.Test.YtdakgnaojakldaaGreatDoorF35
set_option maxRecDepth 100000
namespace Go.Proofs.YtdakgnaojakldaaGreatDoor
open Go.RowKit
def rz(w:World)(base:Nat)(xs:List Value)(j:Nat)(c:Ref.qW):Prop:=
 ∃a,xs[j*4]?=some (.string c.op)/\xs[j*4+1]?=some (.string c.key)/\xs[j*4+2]?=some a/\xs[j*4+3]?=some (.bool c.no)/\w.ownsRow base 9 1 a c.vals.length (Ref.strCells c.vals)
def vL(w:World)(base:Nat)(a:Value)(cs:List Ref.qW):Prop:=
 ∃xs,w.ownsRow base 244 4 a cs.length xs/\∀j,(h:j<cs.length)->rz w base xs j cs[j]
theorem vL.nil(w:World)(base:Nat):vL w base (.slice none 0 0) []:=⟨[],World.ownsRow_nil _ _ _ _,λj a=>by simp at a⟩
theorem vL.kept{w k:World}{base:Nat}{g:Value}{cs:List Ref.qW}(h:vL w base g cs)(f:∀i,base<=i->i<w.heap.size->k.heap[i]?=w.heap[i]?):vL k base g cs:=by
 obtain⟨xs,m,n⟩:=h;refine⟨xs,Yf m f,λj o=>?_⟩;obtain⟨l,a,b,c,d,e⟩:=n j o;exact⟨l,a,b,c,d,Yf e f⟩
theorem vL.mono{w:World}{base f:Nat}{g:Value}{cs:List Ref.qW}(h:vL w base g cs)(hb:f<=base):vL w f g cs:=by
 obtain⟨xs,i,k⟩:=h;refine⟨xs,yo i hb,λj m=>?_⟩;obtain⟨l,a,b,c,d,e⟩:=k j m;exact⟨l,a,b,c,d,yo e hb⟩
theorem Jh{W j:World}{base a:Nat}{e c:TypeId}{size b:Nat}{i v:Value}{n m:Nat}{xs k:List Value}(own:W.ownsRow base e size i n xs)(h:W.ownsRow a c b v m k)(f:e≠c)(l:W.grownBy j i.ownBlock):j.ownsRow a c b v m k:=by
 refine h.kept l ?_
 rcases h.2 with ⟨rfl,_⟩|⟨g,cap,cur,rfl,_,hb,_⟩
 ·exact .inl rfl
 ·refine .inr λd=>?_
  rcases own.2 with ⟨rfl,_⟩|⟨g2,cap2,cur2,rfl,_,hb2,_⟩
  ·simp[Value.ownBlock] at d
  ·simp only[Value.ownBlock,Option.some.injEq] at d;subst d;rw[hb2] at hb;injection hb with hb
   injection hb with _ hb
   exact f hb
structure Zo (w:World) (fb:Nat) (nc:Array Value) (sh pt:Bool) (wx:World):Prop where
 g:w.grownBy wx (some fb)
 f:xR wx fb sh pt
 n:wx.heap[w.heap.size]?=some (.cells nc 152 (0,0))
theorem Zo.start{w:World}{b:Nat}{sh pt:Bool}(c:xR w b sh pt)(a:Array Value):Zo w b a sh pt (w.alloc (.cells a 152)):=by
 have hb:Below w.heap.size w (w.alloc (.cells a 152)):=nB _ _;exact⟨But.of _ hb,c.below hb,heap_alloc_new w _⟩
theorem Zo.size{w a:World}{b:Nat}{c:Array Value}{sh pt:Bool}(h:Zo w b c sh pt a):w.heap.size+1<=a.heap.size:=lt_of_block h.n
theorem Zo.grown{w i d:World}{a:Nat}{f:Array Value}{sh pt c b:Bool}(k:a<w.heap.size)(h:Zo w a f sh pt i)(e:i.grownBy d (some a))(j:xR d a c b):Zo w a f c b d:=by
 have l:=h.size;exact⟨But.trans h.g e,j,(e.block _ (by omega) (by simp;omega)).trans h.n⟩
theorem Zo.app{w c d:World}{a:Nat}{b:Array Value}{sh pt:Bool}(e:a<w.heap.size)(h:Zo w a b sh pt c)(hb:Below (w.heap.size+1) c d):Zo w a b sh pt d:=by
 refine⟨⟨hb.os.trans h.g.os,hb.tape.trans h.g.tape,hb.output.trans h.g.output,Nat.le_trans h.g.size hb.size,λi hi j=>(hb.block i (by omega)).trans (h.g.block i hi j)⟩,(hb.block a (by omega)).trans h.f,(hb.block _ (by omega)).trans h.n⟩
def Zu(w:World)(base:Nat)(a b c d:Value)(R:Rd.qA):Prop:=
 w.ownsRow base 9 1 a R.who.2.length (Ref.strCells R.who.2)/\w.ownsRow base 9 1 b R.act.2.length (Ref.strCells R.act.2)/\w.ownsRow base 9 1 c R.on.2.length (Ref.strCells R.on.2)/\vL w base d R.cs
theorem Zu.kept{w f:World}{base:Nat}{b c d e:Value}{R:Rd.qA}(h:Zu w base b c d e R)(a:∀i,base<=i->i<w.heap.size->f.heap[i]?=w.heap[i]?):Zu f base b c d e R:=
 ⟨Yf h.1 a,Yf h.2.1 a,Yf h.2.2.1 a,h.2.2.2.kept a⟩
theorem Zu.mono{w:World}{base a:Nat}{b c d e:Value}{R:Rd.qA}(h:Zu w base b c d e R)(hb:a<=base):Zu w a b c d e R:=
 ⟨yo h.1 hb,yo h.2.1 hb,yo h.2.2.1 hb,h.2.2.2.mono hb⟩
structure yx (w:World) (nc sc:Array Value) (sh pt:Bool) (wx:World):Prop where
 g:Below w.heap.size w wx
 r:wx.heap[w.heap.size]?=some (.cells #[.string ⟨#[]⟩,.bool false,.slice none 0 0,.bool false,.slice none 0 0,.bool false,.slice none 0 0,.slice none 0 0] 160 (0,0))
 rf:wx.heap[w.heap.size+1]?=some (.cells #[.bool false,.bool false] 162 (0,0))
 n:wx.heap[w.heap.size+2]?=some (.cells nc 152 (0,0))
 s:wx.heap[w.heap.size+3]?=some (.cells sc 160 (0,0))
 f:xR wx (w.heap.size+4) sh pt
theorem DX(w:World)(a b c d e:Obj):(((((w.alloc a).alloc b).alloc c).alloc d).alloc e).heap[w.heap.size]?=some a/\(((((w.alloc a).alloc b).alloc c).alloc d).alloc e).heap[w.heap.size+1]?=some b/\(((((w.alloc a).alloc b).alloc c).alloc d).alloc e).heap[w.heap.size+2]?=some c /\
  (((((w.alloc a).alloc b).alloc c).alloc d).alloc e).heap[w.heap.size+3]?=some d/\(((((w.alloc a).alloc b).alloc c).alloc d).alloc e).heap[w.heap.size+4]?=some e:=by
 obtain⟨g,h,j⟩:=oP w a b c;have f:(((w.alloc a).alloc b).alloc c).heap.size=w.heap.size+3:=by simp
 obtain⟨u1,u2⟩:=kr (((w.alloc a).alloc b).alloc c) d e;rw[f] at u1 u2
 have k:∀i,i<w.heap.size+3->(((((w.alloc a).alloc b).alloc c).alloc d).alloc e).heap[i]?=(((w.alloc a).alloc b).alloc c).heap[i]?:=by
  intro i hi;rw[Below.heap_alloc _ _ _ (by simp;omega),Below.heap_alloc _ _ _ (by simp;omega)]
 exact⟨(k _ (by omega)).trans g,(k _ (by omega)).trans h,(k _ (by omega)).trans j,u1,u2⟩
theorem yx.start(w:World)(a:Array Value) :
  yx w a #[.string ⟨#[]⟩,.bool false,.slice none 0 0,.bool false,.slice none 0 0,.bool false,.slice none 0 0,.slice none 0 0] false false
   (((((w.alloc (.cells #[.string ⟨#[]⟩,.bool false,.slice none 0 0,.bool false,.slice none 0 0,.bool false,.slice none 0 0,.slice none 0 0] 160)).alloc (.cells #[.bool false,.bool false] 162)).alloc (.cells a 152)).alloc (.cells #[.string ⟨#[]⟩,.bool false,.slice none 0 0,.bool false,.slice none 0 0,.bool false,.slice none 0 0,.slice none 0 0] 160)).alloc (.cells #[.bool false,.bool false] 162)):=by
 obtain⟨b,c,d,e,f⟩:=DX w (.cells #[.string ⟨#[]⟩,.bool false,.slice none 0 0,.bool false,.slice none 0 0,.bool false,.slice none 0 0,.slice none 0 0] 160) (.cells #[.bool false,.bool false] 162) (.cells a 152) (.cells #[.string ⟨#[]⟩,.bool false,.slice none 0 0,.bool false,.slice none 0 0,.bool false,.slice none 0 0,.slice none 0 0] 160) (.cells #[.bool false,.bool false] 162);exact⟨(((((nB _ _).alloc (by simp) _).alloc (by simp;omega) _).alloc (by simp;omega) _).alloc (by simp;omega) _),b,c,d,e,f⟩
theorem yx.size{w a:World}{b c:Array Value}{sh pt:Bool}(h:yx w b c sh pt a):w.heap.size+5<=a.heap.size:=lt_of_block h.f
theorem yx.below{w a d:World}{b c:Array Value}{sh pt:Bool}(h:yx w b c sh pt a)(hb:Below a.heap.size a d):yx w b c sh pt d:=by
 have e:=h.size;exact⟨h.g.trans (hb.mono (by omega)),(hb.block _ (by omega)).trans h.r,(hb.block _ (by omega)).trans h.rf,(hb.block _ (by omega)).trans h.n,(hb.block _ (by omega)).trans h.s,h.f.below hb⟩
theorem yx.grown{w i d:World}{e f:Array Value}{sh pt c b:Bool}(h:yx w e f sh pt i)(a:i.grownBy d (some (w.heap.size+4)))(j:xR d (w.heap.size+4) c b):yx w e f c b d:=by
 have k:=h.size;exact⟨h.g.trans (But.below a (by omega) (by omega)),(a.block _ (by omega) (by simp)).trans h.r,(a.block _ (by omega) (by simp)).trans h.rf,(a.block _ (by omega) (by simp)).trans h.n,(a.block _ (by omega) (by simp)).trans h.s,j⟩
theorem yx.shape{w c:World}{a b:Array Value}{sh pt:Bool}(h:yx w a b sh pt c)(x:Bool):yx w a b x pt (c.setCell ⟨w.heap.size+4,0,none⟩ (.bool x)):=
 h.grown (But.set _ _ _ _) (h.f.shape x)
theorem yx.put{w a:World}{d e:Array Value}{sh pt:Bool}(h:yx w d e sh pt a)(o:Nat)(u:Value)(c:Array Value)(b:c=e.set! o u):yx w d c sh pt (a.setCell ⟨w.heap.size+3,o,none⟩ u):=by
 subst b;have ne:∀i,i≠w.heap.size+3->(a.setCell ⟨w.heap.size+3,o,none⟩ u).heap[i]?=a.heap[i]?:=λi hi=>Below.heap_setCell _ _ _ _ (by simp only;omega);exact⟨h.g.setCell (by simp only;omega) _,(ne _ (by omega)).trans h.r,(ne _ (by omega)).trans h.rf,(ne _ (by omega)).trans h.n,heap_setCell_same a _ o _ _ _ h.s,(ne _ (by omega)).trans h.f⟩
theorem yx.cells{w a:World}{d e g i c0 c1 c2 c3 c4 c5 b c:Value}{sh pt:Bool}(h:yx w #[d,e,g,i] #[c0,c1,c2,c3,c4,c5,b,c] sh pt a) :
  (a.cell? ⟨w.heap.size+2,0,none⟩=some d/\a.cell? ⟨w.heap.size+2,1,none⟩=some e/\a.cell? ⟨w.heap.size+2,2,none⟩=some g/\a.cell? ⟨w.heap.size+2,3,none⟩=some i) /\
  (a.cell? ⟨w.heap.size+3,0,none⟩=some c0/\a.cell? ⟨w.heap.size+3,1,none⟩=some c1/\a.cell? ⟨w.heap.size+3,2,none⟩=some c2/\a.cell? ⟨w.heap.size+3,3,none⟩=some c3/\a.cell? ⟨w.heap.size+3,4,none⟩=some c4/\a.cell? ⟨w.heap.size+3,5,none⟩=some c5/\a.cell? ⟨w.heap.size+3,6,none⟩=some b/\a.cell? ⟨w.heap.size+3,7,none⟩=some c) /\
  (∀o,a.frozen? ⟨w.heap.size+3,o,none⟩=false) /\
  (a.cell? ⟨w.heap.size+4,0,none⟩=some (.bool sh)/\a.cell? ⟨w.heap.size+4,1,none⟩=some (.bool pt)/\a.frozen? ⟨w.heap.size+4,0,none⟩=false):=
 ⟨⟨(za h.n 0).1,(za h.n 1).1,(za h.n 2).1,(za h.n 3).1⟩,⟨(za h.s 0).1,(za h.s 1).1,(za h.s 2).1,(za h.s 3).1,(za h.s 4).1,(za h.s 5).1,(za h.s 6).1,(za h.s 7).1⟩,
  λo=>(za h.s o).2,h.f.cell.1,h.f.cell.2.1,h.f.cell.2.2.1⟩
def QQ(w:World)(b:Nat)(a c d e f g h i:Value):World:=(((((((w.setCell ⟨b,0,none⟩ a).setCell ⟨b,1,none⟩ c).setCell ⟨b,2,none⟩ d).setCell ⟨b,3,none⟩ e).setCell ⟨b,4,none⟩ f).setCell ⟨b,5,none⟩ g).setCell ⟨b,6,none⟩ h).setCell ⟨b,7,none⟩ i
def set2(w:World)(b:Nat)(a c:Value):World:=(w.setCell ⟨b,0,none⟩ a).setCell ⟨b,1,none⟩ c
theorem QR{w:World}{b:Nat}{t:TypeId}{cs:Array Value}(h:w.heap[b]?=some (.cells cs t (0,0)))(o:Nat)(u:Value):(w.setCell ⟨b,o,none⟩ u).heap[b]?=some (.cells (cs.set! o u) t (0,0)):=heap_setCell_same w b o _ _ _ h
theorem Pe{w:World}{b:Nat}{t:TypeId}{c0 c1 c2 c3 c4 c5 f d:Value}(h:w.heap[b]?=some (.cells #[c0,c1,c2,c3,c4,c5,f,d] t (0,0)))(a c e g i j k l:Value):(QQ w b a c e g i j k l).heap[b]?=some (.cells #[a,c,e,g,i,j,k,l] t (0,0)):=by
 have v:(#[c0,c1,c2,c3,c4,c5,f,d]:Array Value).set! 0 a=#[a,c1,c2,c3,c4,c5,f,d]:=rfl;have m:=QR h 0 a;rw[v] at m;have x:(#[a,c1,c2,c3,c4,c5,f,d]:Array Value).set! 1 c=#[a,c,c2,c3,c4,c5,f,d]:=rfl;have n:=QR m 1 c;rw[x] at n;have y:(#[a,c,c2,c3,c4,c5,f,d]:Array Value).set! 2 e=#[a,c,e,c3,c4,c5,f,d]:=rfl;have o:=QR n 2 e;rw[y] at o;have z:(#[a,c,e,c3,c4,c5,f,d]:Array Value).set! 3 g=#[a,c,e,g,c4,c5,f,d]:=rfl;have p:=QR o 3 g;rw[z] at p;have A:(#[a,c,e,g,c4,c5,f,d]:Array Value).set! 4 i=#[a,c,e,g,i,c5,f,d]:=rfl;have q:=QR p 4 i;rw[A] at q;have B:(#[a,c,e,g,i,c5,f,d]:Array Value).set! 5 j=#[a,c,e,g,i,j,f,d]:=rfl;have r:=QR q 5 j;rw[B] at r;have C:(#[a,c,e,g,i,j,f,d]:Array Value).set! 6 k=#[a,c,e,g,i,j,k,d]:=rfl;have s:=QR r 6 k;rw[C] at s;have D:(#[a,c,e,g,i,j,k,d]:Array Value).set! 7 l=#[a,c,e,g,i,j,k,l]:=rfl;have u:=QR s 7 l;rw[D] at u;exact u
theorem OZ{w:World}{b:Nat}{t:TypeId}{c0 c1:Value}(h:w.heap[b]?=some (.cells #[c0,c1] t (0,0)))(a c:Value):(set2 w b a c).heap[b]?=some (.cells #[a,c] t (0,0)):=
 heap_setCell_same _ b 1 _ _ _ (heap_setCell_same _ b 0 _ _ _ h)
theorem nU(w:World)(b:Nat)(a c d e f g h j:Value)(i:Nat)(hi:i≠b):(QQ w b a c d e f g h j).heap[i]?=w.heap[i]?:=by
 unfold QQ
 iterate 8 rw[Below.heap_setCell _ _ _ _ (by simp only;exact hi)]
theorem nT(w:World)(b:Nat)(a c:Value)(i:Nat)(hi:i≠b):(set2 w b a c).heap[i]?=w.heap[i]?:=by
 unfold set2
 iterate 2 rw[Below.heap_setCell _ _ _ _ (by simp only;exact hi)]
theorem Pb{a w:World}{B b:Nat}(h:Below B a w)(hb:B<=b)(c d e f g i j k:Value):Below B a (QQ w b c d e f g i j k):=
 (((((((h.setCell hb _).setCell hb _).setCell hb _).setCell hb _).setCell hb _).setCell hb _).setCell hb _).setCell hb _
theorem OY{a w:World}{B b:Nat}(h:Below B a w)(hb:B<=b)(c d:Value):Below B a (set2 w b c d):=(h.setCell hb _).setCell hb _
theorem yx.fin{w a:World}{o p:Array Value}{sh pt:Bool}(h:yx w o p sh pt a)(b c d e f j k l m n:Value) :
  Below w.heap.size w (set2 (QQ a w.heap.size b c d e f j k l) (w.heap.size+1) m n)/\(∀i,w.heap.size+2<=i->(set2 (QQ a w.heap.size b c d e f j k l) (w.heap.size+1) m n).heap[i]?=a.heap[i]?) /\
  (set2 (QQ a w.heap.size b c d e f j k l) (w.heap.size+1) m n).heap[w.heap.size]?=some (.cells #[b,c,d,e,f,j,k,l] 160 (0,0)) /\
  (set2 (QQ a w.heap.size b c d e f j k l) (w.heap.size+1) m n).heap[w.heap.size+1]?=some (.cells #[m,n] 162 (0,0)):=by
 refine⟨OY (Pb h.g (Nat.le_refl _) _ _ _ _ _ _ _ _) (by omega) _ _,λi hi=>?_,?_,OZ ((nU _ _ _ _ _ _ _ _ _ _ _ (by omega)).trans h.rf) _ _⟩
 ·rw[nT _ _ _ _ _ (by omega),nU _ _ _ _ _ _ _ _ _ _ _ (by omega)]
 ·rw[nT _ _ _ _ _ (by omega)];exact Pe h.r _ _ _ _ _ _ _ _
theorem vL.slice{w:World}{base:Nat}{b:Value}{cs:List Ref.qW}(h:vL w base b cs):∃a c,b = .slice a cs.length c:=by
 obtain⟨xs,h,_⟩:=h
 rcases h.2 with ⟨rfl,h0⟩|⟨g,c,cur,rfl,_⟩
 ·exact⟨_,_,by rw[h0]⟩
 ·exact⟨_,_,rfl⟩
structure Kp (B:Nat) (wx wy:World):Prop where
 size:wx.heap.size<=wy.heap.size
 keep:∀i,B<=i->i<wx.heap.size->wy.heap[i]?=wx.heap[i]?
theorem Kp.trans{B:Nat}{a b c:World}(h:Kp B a b)(k:Kp B b c):Kp B a c:=⟨Nat.le_trans h.size k.size,λi hi d=>(k.keep i hi (Nat.lt_of_lt_of_le d h.size)).trans (h.keep i hi d)⟩
theorem Kp.below{B:Nat}{a b:World}(h:Below a.heap.size a b):Kp B a b:=⟨h.size,λi _ c=>h.block i c⟩
theorem Kp.grown{B c:Nat}{a b:World}(h:a.grownBy b (some c))(e:c<B):Kp B a b:=⟨h.size,λi hi d=>h.block i d (by simp;omega)⟩
theorem Kp.set{B b:Nat}(a:World)(o:Nat)(u:Value)(hb:b<B):Kp B a (a.setCell ⟨b,o,none⟩ u):=⟨by simp[World.setCell],λi hi _=>Below.heap_setCell _ _ _ _ (by simp only;omega)⟩
def RSt(w:World)(base:Nat)(xs:List Value)(j:Nat)(R:Rd.qA):Prop:=
 ∃a b c d,xs[j*8]?=some (.string R.eff)/\xs[j*8+1]?=some (.bool R.who.1)/\xs[j*8+2]?=some a/\xs[j*8+3]?=some (.bool R.act.1)/\xs[j*8+4]?=some b/\xs[j*8+5]?=some (.bool R.on.1)/\xs[j*8+6]?=some c/\xs[j*8+7]?=some d/\Zu w base a b c d R
def uk(w:World)(base:Nat)(a:Value)(rs:List Rd.qA):Prop:=
 ∃xs,w.ownsRow base 160 8 a rs.length xs/\∀j,(h:j<rs.length)->RSt w base xs j rs[j]
theorem uk.nil(w:World)(base:Nat):uk w base (.slice none 0 0) []:=⟨[],World.ownsRow_nil _ _ _ _,λj a=>by simp at a⟩
theorem uk.kept{w c:World}{base:Nat}{b:Value}{rs:List Rd.qA}(h:uk w base b rs)(a:∀i,base<=i->i<w.heap.size->c.heap[i]?=w.heap[i]?):uk c base b rs:=by
 obtain⟨xs,p,q⟩:=h;refine⟨xs,Yf p a,λj r=>?_⟩;obtain⟨s,t,u,v,d,f,g,k,l,m,n,o,e⟩:=q j r;exact⟨s,t,u,v,d,f,g,k,l,m,n,o,e.kept a⟩
theorem uk.mono{w:World}{base a:Nat}{b:Value}{rs:List Rd.qA}(h:uk w base b rs)(hb:a<=base):uk w a b rs:=by
 obtain⟨xs,n,o⟩:=h;refine⟨xs,yo n hb,λj p=>?_⟩;obtain⟨q,r,s,t,c,d,f,g,i,k,l,m,e⟩:=o j p;exact⟨q,r,s,t,c,d,f,g,i,k,l,m,e.mono hb⟩
theorem vL.other{W i:World}{base c:Nat}{e:TypeId}{size n:Nat}{g f:Value}{xs:List Value}{cs:List Ref.qW}(own:W.ownsRow base e size g n xs)(h:vL W c f cs)(k:e≠244)(m:e≠9)(d:W.grownBy i g.ownBlock):vL i c f cs:=by
 obtain⟨u,a,b⟩:=h;refine⟨u,Jh own a k d,λj o=>?_⟩;obtain⟨l,p,q,r,s,t⟩:=b j o;exact⟨l,p,q,r,s,Jh own t m d⟩
theorem Zu.other{W i:World}{base a:Nat}{g c d e f:Value}{n:Nat}{xs:List Value}{R:Rd.qA}(own:W.ownsRow base 160 8 g n xs)(h:Zu W a c d e f R)(b:W.grownBy i g.ownBlock):Zu i a c d e f R:=
 ⟨Jh own h.1 (by decide) b,Jh own h.2.1 (by decide) b,Jh own h.2.2.1 (by decide) b,h.2.2.2.other own (by decide) (by decide) b⟩
theorem Ref.QG(l:List BA)(a:l.length<=10)(h:∀s ∈ l,s.size<=12000):(Ref.xm l).size<=900000:=by
 have:=Ref.X3 l h l.length
 have z:(⟨#[93]⟩:BA).size=1:=rfl;rw[Ref.xm,ByteArray.size_append];omega
theorem Below.on{B:Nat}{a b c:World}(h:Below B a b)(k:Below b.heap.size b c)(d:B<=a.heap.size):Below B a c:=h.trans (k.mono (Nat.le_trans d h.size))
structure Grown (A:World) where
 w:World
 b:Below A.heap.size A w
theorem uk.slice{w:World}{base:Nat}{b:Value}{rs:List Rd.qA}(h:uk w base b rs):∃a c,b = .slice a rs.length c:=by
 obtain⟨xs,h,_⟩:=h
 rcases h.2 with ⟨rfl,h0⟩|⟨g,c,cur,rfl,_⟩
 ·exact⟨_,_,by rw[h0]⟩
 ·exact⟨_,_,rfl⟩
def vM(M:Nat->Prop)(W:World)(c:Value)(rs:List Rd.qA):Prop:=
 ∃base a,uk a base c rs/\a.heap.size<=W.heap.size/\∀b,base<=b->b<a.heap.size->¬M b/\W.heap[b]?=a.heap[b]?
theorem vM.at{M:Nat->Prop}{W:World}{a:Value}{c:List Rd.qA}(h:vM M W a c):∃base,uk W base a c:=by
 obtain⟨base,g,d,_,e⟩:=h;exact⟨base,d.kept (λb hb f=>(e b hb f).2)⟩
theorem vM.turn{M:Nat->Prop}{W d:World}{e:Value}{g:List Rd.qA}(h:vM M W e g)(k:zx M W d):vM M d e g:=by
 obtain⟨base,i,j,f,c⟩:=h;exact⟨base,i,j,Nat.le_trans f k.size,λb hb a=>⟨(c b hb a).1,(k.block b (Nat.lt_of_lt_of_le a f) (c b hb a).1).trans (c b hb a).2⟩⟩
theorem vM.of{M:Nat->Prop}{W:World}{a:Value}{c:List Rd.qA}{base:Nat}(h:uk W base a c)(d:∀b,M b->b<base):vM M W a c:=
 ⟨base,W,h,Nat.le_refl _,λb hb _=>⟨λe=>absurd (d b e) (by omega),rfl⟩⟩
theorem vM.more{M a:Nat->Prop}{W:World}{c:Value}{f:List Rd.qA}(h:vM M W c f)(k:∀b,a b->M b\/W.heap.size<=b):vM a W c f:=by
 obtain⟨base,g,i,j,d⟩:=h;refine⟨base,g,i,j,λb hb e=>⟨λl=>?_,(d b hb e).2⟩⟩
 rcases k b l with h|h
 ·exact (d b hb e).1 h
 ·omega
structure zH where
 layer:Int
 name:BA
 rs:List Rd.qA
def xh(M:Nat->Prop)(W:World)(xs:List Value)(d:List zH):Prop:=
 xs.length=d.length*3/\∀(k:Nat) (x:zH),d[k]?=some x->∃a c b,xs[k*3]?=some (.int .i64 x.layer)/\xs[k*3+1]?=some (.string x.name)/\xs[k*3+2]?=some (.slice a c b)/\vM M W (.slice a c b) x.rs
theorem xh.turn{M:Nat->Prop}{W a:World}{xs:List Value}{L:List zH}(h:xh M W xs L)(k:zx M W a):xh M a xs L:=
 ⟨h.1,λj x l=>by obtain⟨b,d,c,e,f,g,i⟩:=h.2 j x l;exact⟨b,d,c,e,f,g,i.turn k⟩⟩
theorem xh.more{M a:Nat->Prop}{W:World}{xs:List Value}{L:List zH}(h:xh M W xs L)(l:∀b,a b->M b\/W.heap.size<=b):xh a W xs L:=
 ⟨h.1,λj x m=>by obtain⟨c,e,d,f,g,i,k⟩:=h.2 j x m;exact⟨c,e,d,f,g,i,k.more l⟩⟩
theorem xh.nil{M:Nat->Prop}{W:World}:xh M W [] []:=⟨rfl,λk x a=>by simp at a⟩
theorem xh.one{M:Nat->Prop}{W:World}{b:Option Addr}{d c:Nat}{x:zH}(h:vM M W (.slice b d c) x.rs):xh M W [.int .i64 x.layer,.string x.name,.slice b d c] [x]:=by
 refine⟨rfl,λk y a=>?_⟩
 match k,a with
 | 0,a=>
  simp only[List.getElem?_cons_zero,Option.some.injEq] at a;subst a;exact⟨b,d,c,rfl,rfl,rfl,h⟩
 | k+1,a=>simp at a
theorem xh.take{M:Nat->Prop}{W:World}{xs:List Value}{L:List zH}(h:xh M W xs L)(p:Nat):xh M W (xs.take (p*3)) (L.take p):=by
 refine⟨by rw[List.length_take,List.length_take,h.1];omega,λk x a=>?_⟩;rw[List.getElem?_take] at a
 split at a
 ·rename_i j;obtain⟨b,d,c,e,f,g,i⟩:=h.2 k x a;exact⟨b,d,c,by rw[List.getElem?_take,if_pos (by omega)];exact e,by rw[List.getElem?_take,if_pos (by omega)];exact f,by rw[List.getElem?_take,if_pos (by omega)];exact g,i⟩
 ·cases a
theorem xh.drop{M:Nat->Prop}{W:World}{xs:List Value}{L:List zH}(h:xh M W xs L)(p:Nat):xh M W (xs.drop (p*3)) (L.drop p):=by
 refine⟨by rw[List.length_drop,List.length_drop,h.1];omega,λk x a=>?_⟩;rw[List.getElem?_drop] at a;obtain⟨b,d,c,e,f,g,i⟩:=h.2 (p+k) x a;exact⟨b,d,c,by rw[List.getElem?_drop,show p*3+k*3=(p+k)*3 by omega];exact e,by rw[List.getElem?_drop,show p*3+(k*3+1)=(p+k)*3+1 by omega];exact f,by rw[List.getElem?_drop,show p*3+(k*3+2)=(p+k)*3+2 by omega];exact g,i⟩
theorem xh.app{M:Nat->Prop}{W:World}{xs l:List Value}{L N:List zH}(h:xh M W xs L)(g:xh M W l N):xh M W (xs++l) (L++N):=by
 refine⟨by rw[List.length_append,List.length_append,h.1,g.1];omega,λk x a=>?_⟩
 by_cases hk:k<L.length
 ·rw[List.getElem?_append_left hk] at a;obtain⟨b,d,c,e,f,i,j⟩:=h.2 k x a;exact⟨b,d,c,by rw[List.getElem?_append_left (by rw[h.1];omega)];exact e,by rw[List.getElem?_append_left (by rw[h.1];omega)];exact f,by rw[List.getElem?_append_left (by rw[h.1];omega)];exact i,j⟩
 ·rw[List.getElem?_append_right (by omega)] at a;obtain⟨b,d,c,e,f,i,j⟩:=g.2 (k-L.length) x a;exact⟨b,d,c,by rw[List.getElem?_append_right (by rw[h.1];omega),h.1,show k*3-L.length*3=(k-L.length)*3 by omega];exact e,by rw[List.getElem?_append_right (by rw[h.1];omega),h.1,show k*3+1-L.length*3=(k-L.length)*3+1 by omega];exact f,by rw[List.getElem?_append_right (by rw[h.1];omega),h.1,show k*3+2-L.length*3=(k-L.length)*3+2 by omega];exact i,j⟩
structure Qs (M:Nat->Prop) (W:World) (cb:Nat) (lv:Value) (ks:List zH):Prop where
 mine:M cb
 cell:W.heap[cb]?=some (.cells #[lv] 173)
 rows:∃xs,W.ownsRow 0 251 3 lv ks.length xs/\xh M W xs ks
 own:∀g,lv.ownBlock=some g->M g/\g≠cb
theorem Qs.below{M:Nat->Prop}{W b:World}{a:Nat}{d:Value}{c:List zH}(h:Qs M W a d c)(hb:Below W.heap.size W b):Qs M b a d c:=by
 obtain⟨xs,e,f⟩:=h.rows;exact⟨h.mine,(hb.block a (lt_of_block h.cell)).trans h.cell,⟨xs,ownsRow_below e hb,f.turn (zx.of hb)⟩,h.own⟩
theorem Qs.cells{M:Nat->Prop}{W:World}{r:Nat}{q:Value}{b:List zH}(h:Qs M W r q b):∃a c,q = .slice a b.length c/\∀(k:Nat) (x:zH),b[k]?=some x->∃l d j f,a=some ⟨l,0,none⟩/\W.cell? ⟨l,k*3,none⟩=some (.int .i64 x.layer)/\W.cell? ⟨l,k*3+1,none⟩=some (.string x.name)/\W.cell? ⟨l,k*3+2,none⟩=some (.slice d j f)/\vM M W (.slice d j f) x.rs:=by
 obtain⟨xs,o,w⟩:=h.rows
 rcases o.2 with ⟨e,h0⟩|⟨g,cap,cur,e,_⟩
 ·have p:b=[]:=List.length_eq_zero_iff.1 h0;subst p;exact⟨none,0,e,λk x m=>by simp at m⟩
 ·refine⟨some ⟨g,0,none⟩,cap,e,λk x m=>?_⟩;have p:k<b.length:=(List.getElem?_eq_some_iff.1 m).1;obtain⟨d,j,f,s,t,u,v⟩:=w.2 k x m;have n:∀i,i<b.length*3->W.cell? ⟨g,i,none⟩=xs[i]?:=λi hi=>World.ownsRow.cellAt (g:=g) (cap:=cap) (by rw[<- e];exact o) i (by omega);exact⟨g,d,j,f,rfl,by rw[n _ (by omega)];exact s,by rw[n _ (by omega)];exact t,by rw[n _ (by omega)];exact u,v⟩
def isR(l:Int)(name:BA)(x:zH):Bool:=(x.layer==l)&&(x.name.toList==name.toList)
def nameAt(a:List zH)(i:Nat):BA:=match a[i]? with
 | some x=>x.name
 | none=>⟨#[]⟩
def Y1(a:List zH)(l:Int)(i:Nat):Bool:=match a[i]? with
 | some x=>x.layer==l
 | none=>false
def um(a:List zH)(l:Int)(ts:List Bool)(i:Nat):Bool:=Y1 a l i && !(ts.getD i false)
def Z5(a:List zH)(l:Int)(ts:List Bool):Nat->Option Nat
 | 0=>none
 | i+1=>if um a l ts i then (match Z5 a l ts i with
  | none=>some i
  | some b=>if qx (nameAt a i) (nameAt a b)<0 then some i else some b) else Z5 a l ts i
theorem Ue(c:List zH)(l:Int)(ts:List Bool):∀n,(Z5 c l ts n=none->∀i,i<n->um c l ts i=false)/\(∀b,Z5 c l ts n=some b->b<n/\um c l ts b=true/\∀i,i<n->um c l ts i=true->¬qx (nameAt c i) (nameAt c b)<0)
 | 0=>⟨λ_ i hi=>by omega,λb h=>by simp[Z5] at h⟩
 | n+1=>by
  obtain⟨g,j⟩:=Ue c l ts n;rw[Z5]
  cases hc:um c l ts n with
  | false=>
   simp only[Bool.false_eq_true,if_false];refine⟨λh i hi=>?_,λb h=>?_⟩
   ·by_cases e:i=n
    ·subst e;exact hc
    ·exact g h i (by omega)
   ·obtain⟨m,f,d⟩:=j b h;refine⟨by omega,f,λi hi a=>?_⟩
    by_cases e:i=n
    ·subst e;rw[hc] at a;cases a
    ·exact d i (by omega) a
  | true=>
   simp only[if_true]
   cases hb:Z5 c l ts n with
   | none=>
    refine⟨(λh=>by cases h),λb h=>?_⟩;simp only[Option.some.injEq] at h;subst h;refine⟨by omega,hc,λi hi a=>?_⟩
    by_cases e:i=n
    ·subst e;rw[Qz];omega
    ·rw[g hb i (by omega)] at a;cases a
   | some b0=>
    obtain⟨m,f,d⟩:=j b0 hb;simp only
    by_cases hlt:qx (nameAt c n) (nameAt c b0)<0
    ·rw[if_pos hlt];refine⟨(λh=>by cases h),λb h=>?_⟩;simp only[Option.some.injEq] at h;subst h;refine⟨by omega,hc,λi hi a k=>?_⟩
     by_cases e:i=n
     ·subst e;rw[Qz] at k;omega
     ·exact d i (by omega) a (YN k hlt)
    ·rw[if_neg hlt];refine⟨(λh=>by cases h),λb h=>?_⟩;simp only[Option.some.injEq] at h;subst h;refine⟨by omega,f,λi hi a=>?_⟩
     by_cases e:i=n
     ·subst e;exact hlt
     ·exact d i (by omega) a
def Jb(a:List zH)(b:List Nat):List zH:=b.filterMap λp=>a[p]?
structure Taken (ks:List zH) (l:Int) (ps:List Nat) (ts:List Bool):Prop where
 len:ts.length=ks.length
 nodup:ps.Nodup
 mem:∀i,i<ks.length->(ts.getD i false=true↔i ∈ ps)
 ok:∀p ∈ ps,p<ks.length/\Y1 ks l p=true
 sorted:ps.Pairwise λa b=>¬qx (nameAt ks b) (nameAt ks a)<0
 ahead:∀p ∈ ps,∀i,i<ks.length->um ks l ts i=true->¬qx (nameAt ks i) (nameAt ks p)<0
theorem Taken.start(b:List zH)(l:Int):Taken b l [] (List.replicate b.length false):=
 ⟨by simp,List.nodup_nil,λi hi=>by simp[List.getD_eq_getElem?_getD,hi],λp a=>by simp at a,List.Pairwise.nil,λp a=>by simp at a⟩
theorem wJ{c:List zH}{l:Int}{ts:List Bool}{b i:Nat}(h:um c l (ts.set b true) i=true):um c l ts i=true/\i≠b\/um c l ts i=true/\ts.length<=b:=by
 unfold um at h |-;rw[Bool.and_eq_true] at h |-;obtain⟨d,a⟩:=h;rw[List.getD_eq_getElem?_getD,List.getElem?_set] at a
 by_cases e:b=i
 ·subst e
  by_cases hb:b<ts.length
  ·rw[if_pos rfl,if_pos hb] at a;simp at a
  ·exact .inr ⟨⟨d,by rw[List.getD_eq_getElem?_getD,List.getElem?_eq_none (by omega)];rfl⟩,by omega⟩
 ·rw[if_neg e] at a;exact .inl ⟨⟨d,by rw[List.getD_eq_getElem?_getD];exact a⟩,λx=>e x.symm⟩
theorem Taken.next{d:List zH}{l:Int}{m:List Nat}{ts:List Bool}(h:Taken d l m ts){b:Nat}(hb:Z5 d l ts d.length=some b):Taken d l (m++[b]) (ts.set b true):=by
 obtain⟨j,c,n⟩:=(Ue d l ts d.length).2 b hb
 have f:b ∉ m:=by
  intro q
  have:=(h.mem b j).2 q
  unfold um at c;rw[this] at c;simp at c
 refine⟨by rw[List.length_set];exact h.len,?_,λi hi=>?_,λp a=>?_,?_,λp a i hi o=>?_⟩
 ·rw[List.nodup_append];exact⟨h.nodup,by simp,λx k y g=>by simp at g;subst g;intro e;subst e;exact f k⟩
 ·rw[List.getD_eq_getElem?_getD,List.getElem?_set]
  by_cases e:b=i
  ·subst e;rw[if_pos rfl,if_pos (by rw[h.len];exact hi)]
   simp
  ·rw[if_neg e,<- List.getD_eq_getElem?_getD,h.mem i hi];simp only[List.mem_append,List.mem_singleton];exact⟨λx => .inl x,λx=>x.elim id (λy=>absurd y.symm e)⟩
 ·rcases List.mem_append.1 a with a|a
  ·exact h.ok p a
  ·rw[List.mem_singleton] at a;subst a;refine⟨j,?_⟩;unfold um at c;rw[Bool.and_eq_true] at c;exact c.1
 ·rw[List.pairwise_append];refine⟨h.sorted,by simp,λx k y g=>?_⟩;rw[List.mem_singleton] at g;subst g;exact h.ahead x k y j c
 ·rcases wJ o with ⟨hc1,_⟩|⟨hc1,_⟩
  ·rcases List.mem_append.1 a with a|a
   ·exact h.ahead p a i hi hc1
   ·rw[List.mem_singleton] at a;subst a;exact n i hi hc1
  ·rcases List.mem_append.1 a with a|a
   ·exact h.ahead p a i hi hc1
   ·rw[List.mem_singleton] at a;subst a;exact n i hi hc1
theorem Taken.small{a:List zH}{l:Int}{b:List Nat}{ts:List Bool}(h:Taken a l b ts):b.length<=a.length:=by
 have:=h.nodup.length_le_of_subset (l₂:=List.range a.length) (λp c=>List.mem_range.2 (h.ok p c).1)
 simpa using this
def bg(c:List zH)(l:Int)(out:List zH):Prop:=∃d:List Nat,d.Nodup/\(∀p,p ∈ d↔p<c.length/\Y1 c l p=true)/\(d.Pairwise λa b=>¬qx (nameAt c b) (nameAt c a)<0)/\out=Jb c d
theorem Taken.done{a:List zH}{l:Int}{c:List Nat}{ts:List Bool}(h:Taken a l c ts)(hb:Z5 a l ts a.length=none):bg a l (Jb a c):=by
 have d:=(Ue a l ts a.length).1 hb;refine⟨c,h.nodup,λp=>⟨λb=>h.ok p b,λ⟨b,e⟩=>?_⟩,h.sorted,rfl⟩
 have:=d p b
 unfold um at this;rw[e,Bool.true_and] at this;exact (h.mem p b).1 (by simpa using this)
theorem gW{a:List zH}{l:Int}{i:Nat}{x:zH}(h:a[i]?=some x):Y1 a l i=(x.layer==l):=by unfold Y1;rw[h]
theorem iK{a:List zH}{i:Nat}{x:zH}(h:a[i]?=some x):nameAt a i=x.name:=by unfold nameAt;rw[h]
structure V3 (M:Nat->Prop) (w wr:World) (tb n:Nat) (ks:List zH) (ps:List Nat) (ts:List Bool) (ov:Value):Prop where
 took:wr.ownsRow w.heap.size 4 1 (.slice (some ⟨tb,0,none⟩) n n) n (ts.map Value.bool)
 out:∃xs,wr.ownsRow w.heap.size 251 3 ov ps.length xs/\xh M w xs (Jb ks ps)
 bel:Below w.heap.size w wr
theorem V3.below{M:Nat->Prop}{w wr a:World}{e n:Nat}{b:List zH}{d:List Nat}{ts:List Bool}{c:Value}(h:V3 M w wr e n b d ts c)(hb:Below wr.heap.size wr a):V3 M w a e n b d ts c:=by
 obtain⟨xs,f,g⟩:=h.out;exact⟨ownsRow_below h.took hb,⟨xs,ownsRow_below f hb,g⟩,h.bel.trans (hb.mono h.bel.size)⟩
end Go.Proofs.YtdakgnaojakldaaGreatDoor
