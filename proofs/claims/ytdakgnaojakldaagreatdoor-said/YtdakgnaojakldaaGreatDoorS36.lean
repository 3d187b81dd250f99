/- P -/
import Derived.Test.YtdakgnaojakldaaGreatDoorS35
import Derived.Test.YtdakgnaojakldaaGreatDoorS30
set_option maxRecDepth 100000
namespace Go.Proofs.YtdakgnaojakldaaGreatDoor
open Go.RowKit
def iL(w:World)(base:Nat)(xs:List Value)(j:Nat)(c:Ref.qH):Prop:=
 ∃a,xs[j*4]?=some (.string c.op)/\xs[j*4+1]?=some (.string c.key)/\xs[j*4+2]?=some a/\xs[j*4+3]?=some (.bool c.no)/\w.ownsRow base 9 1 a c.vals.length (Ref.strCells c.vals)
def vY(w:World)(base:Nat)(a:Value)(cs:List Ref.qH):Prop:=
 ∃xs,w.ownsRow base 244 4 a cs.length xs/\∀j,(h:j<cs.length)->iL w base xs j cs[j]
theorem vY.nil(w:World)(base:Nat):vY w base (.slice none 0 0) []:=⟨[],World.ownsRow_nil _ _ _ _,λj a=>by simp at a⟩
theorem vY.kept{w k:World}{base:Nat}{g:Value}{cs:List Ref.qH}(h:vY w base g cs)(f:∀i,base<=i->i<w.heap.size->k.heap[i]?=w.heap[i]?):vY k base g cs:=by
 obtain⟨xs,m,n⟩:=h;refine⟨xs,Xb m f,λj o=>?_⟩;obtain⟨l,a,b,c,d,e⟩:=n j o;exact⟨l,a,b,c,d,Xb e f⟩
theorem vY.mono{w:World}{base f:Nat}{g:Value}{cs:List Ref.qH}(h:vY w base g cs)(hb:f<=base):vY w f g cs:=by
 obtain⟨xs,i,k⟩:=h;refine⟨xs,xP i hb,λj m=>?_⟩;obtain⟨l,a,b,c,d,e⟩:=k j m;exact⟨l,a,b,c,d,xP e hb⟩
structure uO (w:World) (fb:Nat) (nc:Array Value) (sh pt:Bool) (wx:World):Prop where
 g:w.grownBy wx (some fb)
 f:xy wx fb sh pt
 n:wx.heap[w.heap.size]?=some (.cells nc 152 (0,0))
theorem uO.start{w:World}{b:Nat}{sh pt:Bool}(c:xy w b sh pt)(a:Array Value):uO w b a sh pt (w.alloc (.cells a 152)):=by
 have hb:Below w.heap.size w (w.alloc (.cells a 152)):=nb _ _;exact⟨But.of _ hb,c.below hb,heap_alloc_new w _⟩
theorem uO.size{w a:World}{b:Nat}{c:Array Value}{sh pt:Bool}(h:uO w b c sh pt a):w.heap.size+1<=a.heap.size:=lt_of_block h.n
theorem uO.grown{w i d:World}{a:Nat}{f:Array Value}{sh pt c b:Bool}(k:a<w.heap.size)(h:uO w a f sh pt i)(e:i.grownBy d (some a))(j:xy d a c b):uO w a f c b d:=by
 have l:=h.size;exact⟨But.trans h.g e,j,(e.block _ (by omega) (by simp;omega)).trans h.n⟩
theorem uO.app{w c d:World}{a:Nat}{b:Array Value}{sh pt:Bool}(e:a<w.heap.size)(h:uO w a b sh pt c)(hb:Below (w.heap.size+1) c d):uO w a b sh pt d:=by
 refine⟨⟨hb.os.trans h.g.os,hb.tape.trans h.g.tape,hb.output.trans h.g.output,Nat.le_trans h.g.size hb.size,λi hi j=>(hb.block i (by omega)).trans (h.g.block i hi j)⟩,(hb.block a (by omega)).trans h.f,(hb.block _ (by omega)).trans h.n⟩
def Qb(w:World)(base:Nat)(a b c d:Value)(R:Rd.qm):Prop:=
 w.ownsRow base 9 1 a R.who.2.length (Ref.strCells R.who.2)/\w.ownsRow base 9 1 b R.act.2.length (Ref.strCells R.act.2)/\w.ownsRow base 9 1 c R.on.2.length (Ref.strCells R.on.2)/\vY w base d R.cs
theorem Qb.kept{w f:World}{base:Nat}{b c d e:Value}{R:Rd.qm}(h:Qb w base b c d e R)(a:∀i,base<=i->i<w.heap.size->f.heap[i]?=w.heap[i]?):Qb f base b c d e R:=
 ⟨Xb h.1 a,Xb h.2.1 a,Xb h.2.2.1 a,h.2.2.2.kept a⟩
theorem Qb.mono{w:World}{base a:Nat}{b c d e:Value}{R:Rd.qm}(h:Qb w base b c d e R)(hb:a<=base):Qb w a b c d e R:=
 ⟨xP h.1 hb,xP h.2.1 hb,xP h.2.2.1 hb,h.2.2.2.mono hb⟩
structure xR (w:World) (nc sc:Array Value) (sh pt:Bool) (wx:World):Prop where
 g:Below w.heap.size w wx
 r:wx.heap[w.heap.size]?=some (.cells #[.string ⟨#[]⟩,.bool false,.slice none 0 0,.bool false,.slice none 0 0,.bool false,.slice none 0 0,.slice none 0 0] 160 (0,0))
 rf:wx.heap[w.heap.size+1]?=some (.cells #[.bool false,.bool false] 162 (0,0))
 n:wx.heap[w.heap.size+2]?=some (.cells nc 152 (0,0))
 s:wx.heap[w.heap.size+3]?=some (.cells sc 160 (0,0))
 f:xy wx (w.heap.size+4) sh pt
theorem tV(w:World)(a b c d e:Obj):(((((w.alloc a).alloc b).alloc c).alloc d).alloc e).heap[w.heap.size]?=some a/\(((((w.alloc a).alloc b).alloc c).alloc d).alloc e).heap[w.heap.size+1]?=some b/\(((((w.alloc a).alloc b).alloc c).alloc d).alloc e).heap[w.heap.size+2]?=some c /\
  (((((w.alloc a).alloc b).alloc c).alloc d).alloc e).heap[w.heap.size+3]?=some d/\(((((w.alloc a).alloc b).alloc c).alloc d).alloc e).heap[w.heap.size+4]?=some e:=by
 obtain⟨g,h,j⟩:=ic w a b c;have f:(((w.alloc a).alloc b).alloc c).heap.size=w.heap.size+3:=by simp
 obtain⟨u1,u2⟩:=vU (((w.alloc a).alloc b).alloc c) d e;rw[f] at u1 u2
 have k:∀i,i<w.heap.size+3->(((((w.alloc a).alloc b).alloc c).alloc d).alloc e).heap[i]?=(((w.alloc a).alloc b).alloc c).heap[i]?:=by
  intro i hi;rw[Below.heap_alloc _ _ _ (by simp;omega),Below.heap_alloc _ _ _ (by simp;omega)]
 exact⟨(k _ (by omega)).trans g,(k _ (by omega)).trans h,(k _ (by omega)).trans j,u1,u2⟩
theorem xR.start(w:World)(a:Array Value) :
  xR w a #[.string ⟨#[]⟩,.bool false,.slice none 0 0,.bool false,.slice none 0 0,.bool false,.slice none 0 0,.slice none 0 0] false false
   (((((w.alloc (.cells #[.string ⟨#[]⟩,.bool false,.slice none 0 0,.bool false,.slice none 0 0,.bool false,.slice none 0 0,.slice none 0 0] 160)).alloc (.cells #[.bool false,.bool false] 162)).alloc (.cells a 152)).alloc (.cells #[.string ⟨#[]⟩,.bool false,.slice none 0 0,.bool false,.slice none 0 0,.bool false,.slice none 0 0,.slice none 0 0] 160)).alloc (.cells #[.bool false,.bool false] 162)):=by
 obtain⟨b,c,d,e,f⟩:=tV w (.cells #[.string ⟨#[]⟩,.bool false,.slice none 0 0,.bool false,.slice none 0 0,.bool false,.slice none 0 0,.slice none 0 0] 160) (.cells #[.bool false,.bool false] 162) (.cells a 152) (.cells #[.string ⟨#[]⟩,.bool false,.slice none 0 0,.bool false,.slice none 0 0,.bool false,.slice none 0 0,.slice none 0 0] 160) (.cells #[.bool false,.bool false] 162);exact⟨(((((nb _ _).alloc (by simp) _).alloc (by simp;omega) _).alloc (by simp;omega) _).alloc (by simp;omega) _),b,c,d,e,f⟩
theorem xR.size{w a:World}{b c:Array Value}{sh pt:Bool}(h:xR w b c sh pt a):w.heap.size+5<=a.heap.size:=lt_of_block h.f
theorem xR.below{w a d:World}{b c:Array Value}{sh pt:Bool}(h:xR w b c sh pt a)(hb:Below a.heap.size a d):xR w b c sh pt d:=by
 have e:=h.size;exact⟨h.g.trans (hb.mono (by omega)),(hb.block _ (by omega)).trans h.r,(hb.block _ (by omega)).trans h.rf,(hb.block _ (by omega)).trans h.n,(hb.block _ (by omega)).trans h.s,h.f.below hb⟩
theorem xR.grown{w i d:World}{e f:Array Value}{sh pt c b:Bool}(h:xR w e f sh pt i)(a:i.grownBy d (some (w.heap.size+4)))(j:xy d (w.heap.size+4) c b):xR w e f c b d:=by
 have k:=h.size;exact⟨h.g.trans (But.below a (by omega) (by omega)),(a.block _ (by omega) (by simp)).trans h.r,(a.block _ (by omega) (by simp)).trans h.rf,(a.block _ (by omega) (by simp)).trans h.n,(a.block _ (by omega) (by simp)).trans h.s,j⟩
theorem xR.shape{w c:World}{a b:Array Value}{sh pt:Bool}(h:xR w a b sh pt c)(x:Bool):xR w a b x pt (c.setCell ⟨w.heap.size+4,0,none⟩ (.bool x)):=
 h.grown (But.set _ _ _ _) (h.f.shape x)
theorem xR.put{w a:World}{d e:Array Value}{sh pt:Bool}(h:xR w d e sh pt a)(o:Nat)(u:Value)(c:Array Value)(b:c=e.set! o u):xR w d c sh pt (a.setCell ⟨w.heap.size+3,o,none⟩ u):=by
 subst b;have ne:∀i,i≠w.heap.size+3->(a.setCell ⟨w.heap.size+3,o,none⟩ u).heap[i]?=a.heap[i]?:=λi hi=>Below.heap_setCell _ _ _ _ (by simp only;omega);exact⟨h.g.setCell (by simp only;omega) _,(ne _ (by omega)).trans h.r,(ne _ (by omega)).trans h.rf,(ne _ (by omega)).trans h.n,heap_setCell_same a _ o _ _ _ h.s,(ne _ (by omega)).trans h.f⟩
theorem xR.cells{w a:World}{d e g i c0 c1 c2 c3 c4 c5 b c:Value}{sh pt:Bool}(h:xR w #[d,e,g,i] #[c0,c1,c2,c3,c4,c5,b,c] sh pt a) :
  (a.cell? ⟨w.heap.size+2,0,none⟩=some d/\a.cell? ⟨w.heap.size+2,1,none⟩=some e/\a.cell? ⟨w.heap.size+2,2,none⟩=some g/\a.cell? ⟨w.heap.size+2,3,none⟩=some i) /\
  (a.cell? ⟨w.heap.size+3,0,none⟩=some c0/\a.cell? ⟨w.heap.size+3,1,none⟩=some c1/\a.cell? ⟨w.heap.size+3,2,none⟩=some c2/\a.cell? ⟨w.heap.size+3,3,none⟩=some c3/\a.cell? ⟨w.heap.size+3,4,none⟩=some c4/\a.cell? ⟨w.heap.size+3,5,none⟩=some c5/\a.cell? ⟨w.heap.size+3,6,none⟩=some b/\a.cell? ⟨w.heap.size+3,7,none⟩=some c) /\
  (∀o,a.frozen? ⟨w.heap.size+3,o,none⟩=false) /\
  (a.cell? ⟨w.heap.size+4,0,none⟩=some (.bool sh)/\a.cell? ⟨w.heap.size+4,1,none⟩=some (.bool pt)/\a.frozen? ⟨w.heap.size+4,0,none⟩=false):=
 ⟨⟨(ze h.n 0).1,(ze h.n 1).1,(ze h.n 2).1,(ze h.n 3).1⟩,⟨(ze h.s 0).1,(ze h.s 1).1,(ze h.s 2).1,(ze h.s 3).1,(ze h.s 4).1,(ze h.s 5).1,(ze h.s 6).1,(ze h.s 7).1⟩,
  λo=>(ze h.s o).2,h.f.cell.1,h.f.cell.2.1,h.f.cell.2.2.1⟩
def ZU(w:World)(b:Nat)(a c d e f g h i:Value):World:=(((((((w.setCell ⟨b,0,none⟩ a).setCell ⟨b,1,none⟩ c).setCell ⟨b,2,none⟩ d).setCell ⟨b,3,none⟩ e).setCell ⟨b,4,none⟩ f).setCell ⟨b,5,none⟩ g).setCell ⟨b,6,none⟩ h).setCell ⟨b,7,none⟩ i
def set2(w:World)(b:Nat)(a c:Value):World:=(w.setCell ⟨b,0,none⟩ a).setCell ⟨b,1,none⟩ c
theorem ZV{w:World}{b:Nat}{t:TypeId}{cs:Array Value}(h:w.heap[b]?=some (.cells cs t (0,0)))(o:Nat)(u:Value):(w.setCell ⟨b,o,none⟩ u).heap[b]?=some (.cells (cs.set! o u) t (0,0)):=heap_setCell_same w b o _ _ _ h
theorem Ii{w:World}{b:Nat}{t:TypeId}{c0 c1 c2 c3 c4 c5 f d:Value}(h:w.heap[b]?=some (.cells #[c0,c1,c2,c3,c4,c5,f,d] t (0,0)))(a c e g i j k l:Value):(ZU w b a c e g i j k l).heap[b]?=some (.cells #[a,c,e,g,i,j,k,l] t (0,0)):=by
 have v:(#[c0,c1,c2,c3,c4,c5,f,d]:Array Value).set! 0 a=#[a,c1,c2,c3,c4,c5,f,d]:=rfl;have m:=ZV h 0 a;rw[v] at m;have x:(#[a,c1,c2,c3,c4,c5,f,d]:Array Value).set! 1 c=#[a,c,c2,c3,c4,c5,f,d]:=rfl;have n:=ZV m 1 c;rw[x] at n;have y:(#[a,c,c2,c3,c4,c5,f,d]:Array Value).set! 2 e=#[a,c,e,c3,c4,c5,f,d]:=rfl;have o:=ZV n 2 e;rw[y] at o;have z:(#[a,c,e,c3,c4,c5,f,d]:Array Value).set! 3 g=#[a,c,e,g,c4,c5,f,d]:=rfl;have p:=ZV o 3 g;rw[z] at p;have A:(#[a,c,e,g,c4,c5,f,d]:Array Value).set! 4 i=#[a,c,e,g,i,c5,f,d]:=rfl;have q:=ZV p 4 i;rw[A] at q;have B:(#[a,c,e,g,i,c5,f,d]:Array Value).set! 5 j=#[a,c,e,g,i,j,f,d]:=rfl;have r:=ZV q 5 j;rw[B] at r;have C:(#[a,c,e,g,i,j,f,d]:Array Value).set! 6 k=#[a,c,e,g,i,j,k,d]:=rfl;have s:=ZV r 6 k;rw[C] at s;have D:(#[a,c,e,g,i,j,k,d]:Array Value).set! 7 l=#[a,c,e,g,i,j,k,l]:=rfl;have u:=ZV s 7 l;rw[D] at u;exact u
theorem Ig{w:World}{b:Nat}{t:TypeId}{c0 c1:Value}(h:w.heap[b]?=some (.cells #[c0,c1] t (0,0)))(a c:Value):(set2 w b a c).heap[b]?=some (.cells #[a,c] t (0,0)):=
 heap_setCell_same _ b 1 _ _ _ (heap_setCell_same _ b 0 _ _ _ h)
theorem gz(w:World)(b:Nat)(a c d e f g h j:Value)(i:Nat)(hi:i≠b):(ZU w b a c d e f g h j).heap[i]?=w.heap[i]?:=by
 unfold ZU
 iterate 8 rw[Below.heap_setCell _ _ _ _ (by simp only;exact hi)]
theorem gy(w:World)(b:Nat)(a c:Value)(i:Nat)(hi:i≠b):(set2 w b a c).heap[i]?=w.heap[i]?:=by
 unfold set2
 iterate 2 rw[Below.heap_setCell _ _ _ _ (by simp only;exact hi)]
theorem Ih{a w:World}{B b:Nat}(h:Below B a w)(hb:B<=b)(c d e f g i j k:Value):Below B a (ZU w b c d e f g i j k):=
 (((((((h.setCell hb _).setCell hb _).setCell hb _).setCell hb _).setCell hb _).setCell hb _).setCell hb _).setCell hb _
theorem Ie{a w:World}{B b:Nat}(h:Below B a w)(hb:B<=b)(c d:Value):Below B a (set2 w b c d):=(h.setCell hb _).setCell hb _
theorem xR.fin{w a:World}{o p:Array Value}{sh pt:Bool}(h:xR w o p sh pt a)(b c d e f j k l m n:Value) :
  Below w.heap.size w (set2 (ZU a w.heap.size b c d e f j k l) (w.heap.size+1) m n)/\(∀i,w.heap.size+2<=i->(set2 (ZU a w.heap.size b c d e f j k l) (w.heap.size+1) m n).heap[i]?=a.heap[i]?) /\
  (set2 (ZU a w.heap.size b c d e f j k l) (w.heap.size+1) m n).heap[w.heap.size]?=some (.cells #[b,c,d,e,f,j,k,l] 160 (0,0)) /\
  (set2 (ZU a w.heap.size b c d e f j k l) (w.heap.size+1) m n).heap[w.heap.size+1]?=some (.cells #[m,n] 162 (0,0)):=by
 refine⟨Ie (Ih h.g (Nat.le_refl _) _ _ _ _ _ _ _ _) (by omega) _ _,λi hi=>?_,?_,Ig ((gz _ _ _ _ _ _ _ _ _ _ _ (by omega)).trans h.rf) _ _⟩
 ·rw[gy _ _ _ _ _ (by omega),gz _ _ _ _ _ _ _ _ _ _ _ (by omega)]
 ·rw[gy _ _ _ _ _ (by omega)];exact Ii h.r _ _ _ _ _ _ _ _
theorem vY.slice{w:World}{base:Nat}{b:Value}{cs:List Ref.qH}(h:vY w base b cs):∃a c,b = .slice a cs.length c:=by
 obtain⟨xs,h,_⟩:=h
 rcases h.2 with ⟨rfl,h0⟩|⟨g,c,cur,rfl,_⟩
 ·exact⟨_,_,by rw[h0]⟩
 ·exact⟨_,_,rfl⟩
structure Kp (B:Nat) (wx wy:World):Prop where
 size:wx.heap.size<=wy.heap.size
 keep:∀i,B<=i->i<wx.heap.size->wy.heap[i]?=wx.heap[i]?
theorem Kp.trans{B:Nat}{a b c:World}(h:Kp B a b)(k:Kp B b c):Kp B a c:=⟨Nat.le_trans h.size k.size,λi hi d=>(k.keep i hi (Nat.lt_of_lt_of_le d h.size)).trans (h.keep i hi d)⟩
theorem Kp.below{B:Nat}{a b:World}(h:Below a.heap.size a b):Kp B a b:=⟨h.size,λi _ c=>h.block i c⟩
theorem Kp.grown{B c:Nat}{a b:World}(h:a.grownBy b (some c))(e:c<B):Kp B a b:=⟨h.size,λi hi d=>h.block i d (by simp;omega)⟩
theorem Kp.set{B b:Nat}(a:World)(o:Nat)(u:Value)(hb:b<B):Kp B a (a.setCell ⟨b,o,none⟩ u):=⟨by simp[World.setCell],λi hi _=>Below.heap_setCell _ _ _ _ (by simp only;omega)⟩
def RSt(w:World)(base:Nat)(xs:List Value)(j:Nat)(R:Rd.qm):Prop:=
 ∃a b c d,xs[j*8]?=some (.string R.eff)/\xs[j*8+1]?=some (.bool R.who.1)/\xs[j*8+2]?=some a/\xs[j*8+3]?=some (.bool R.act.1)/\xs[j*8+4]?=some b/\xs[j*8+5]?=some (.bool R.on.1)/\xs[j*8+6]?=some c/\xs[j*8+7]?=some d/\Qb w base a b c d R
def jV(w:World)(base:Nat)(a:Value)(rs:List Rd.qm):Prop:=
 ∃xs,w.ownsRow base 160 8 a rs.length xs/\∀j,(h:j<rs.length)->RSt w base xs j rs[j]
theorem jV.nil(w:World)(base:Nat):jV w base (.slice none 0 0) []:=⟨[],World.ownsRow_nil _ _ _ _,λj a=>by simp at a⟩
theorem jV.kept{w c:World}{base:Nat}{b:Value}{rs:List Rd.qm}(h:jV w base b rs)(a:∀i,base<=i->i<w.heap.size->c.heap[i]?=w.heap[i]?):jV c base b rs:=by
 obtain⟨xs,p,q⟩:=h;refine⟨xs,Xb p a,λj r=>?_⟩;obtain⟨s,t,u,v,d,f,g,k,l,m,n,o,e⟩:=q j r;exact⟨s,t,u,v,d,f,g,k,l,m,n,o,e.kept a⟩
theorem jV.mono{w:World}{base a:Nat}{b:Value}{rs:List Rd.qm}(h:jV w base b rs)(hb:a<=base):jV w a b rs:=by
 obtain⟨xs,n,o⟩:=h;refine⟨xs,xP n hb,λj p=>?_⟩;obtain⟨q,r,s,t,c,d,f,g,i,k,l,m,e⟩:=o j p;exact⟨q,r,s,t,c,d,f,g,i,k,l,m,e.mono hb⟩
theorem Below.on{B:Nat}{a b c:World}(h:Below B a b)(k:Below b.heap.size b c)(d:B<=a.heap.size):Below B a c:=h.trans (k.mono (Nat.le_trans d h.size))
structure Grown (A:World) where
 w:World
 b:Below A.heap.size A w
theorem jV.slice{w:World}{base:Nat}{b:Value}{rs:List Rd.qm}(h:jV w base b rs):∃a c,b = .slice a rs.length c:=by
 obtain⟨xs,h,_⟩:=h
 rcases h.2 with ⟨rfl,h0⟩|⟨g,c,cur,rfl,_⟩
 ·exact⟨_,_,by rw[h0]⟩
 ·exact⟨_,_,rfl⟩
end Go.Proofs.YtdakgnaojakldaaGreatDoor
