/- P -/
import Derived.Test.YtdakgnaojakldaaGreatDoorS34
import Derived.Deep.RegionHeld3
import Derived.Deep.RegionLaw
import Derived.Deep.AppendLies
import Derived.Deep.DrawnRows
import Derived.Deep.DeepCutAuto
import Derived.Test.YtdakgnaojakldaaGreatDoorS06
open Go.Proofs.Tryz
set_option maxRecDepth 100000
set_option maxHeartbeats 1000000
namespace Go.Proofs.YtdakgnaojakldaaGreatDoor
open Go.RowKit
attribute [local go_sem ↓] Go.wp_at_zero Go.wp_at_succ
attribute [local go_sem ↓] Go.wp_at_zero Go.wp_at_succ
def Stepped(base b:Nat)(r:Int×Ref.zi)(w:World)(e:Ending)(a:World):Prop:=
 e = .returned (.int .i64 r.1)/\Below base w a/\(r.1=0->∃d c f,xk a base b r.2 d c f)
structure Small (m:Ref.zi):Prop where
 nodes:m.nodes.length<=100000
 opn:m.opn.length<=100000
 kids:∀n ∈ m.nodes,n.kids.length<=100000
 names:∀n ∈ m.nodes,n.names.length<=100000
 got:m.got.size<=1000000
 top:∀o ∈ m.opn,o<m.nodes.length
theorem xk.drew{w:World}{base b:Nat}{m:Ref.zi}{c a:Value}{d:List (Value×Value)}(h:xk w base b m c a d):xk w.drew base b m c a d:=h.below (Below.refl _ _).drew
theorem xk.top{w:World}{base b:Nat}{m:Ref.zi}{y x:Value}{f:List (Value×Value)}(h:xk w base b m y x f)(u:∀o ∈ m.opn,o<m.nodes.length)(s:m.opn≠[]) :
  ∃(o q j r d cap:Nat) (n:Ref.Node) (v:Value×Value),m.opn.length=q+1/\m.opn.getLastD 0=o/\o<m.nodes.length/\y = .slice (some ⟨j,0,none⟩) (q+1) r/\x = .slice (some ⟨d,0,none⟩) m.nodes.length cap /\
   m.nodes[o]?=some n/\f[o]?=some v/\w.cell? ⟨j,q,none⟩=some (.int .i64 (o:Int))/\w.cell? ⟨d,o*4,none⟩=some (.int .i64 n.kind)/\w.cell? ⟨d,o*4+2,none⟩=some v.1/\w.cell? ⟨d,o*4+3,none⟩=some v.2 /\
   (∀k,w.frozen? ⟨d,k,none⟩=false)/\q+1<=r/\d<w.heap.size/\base<=d:=by
 obtain⟨l,o,e⟩:∃l o,m.opn=l++[o]:=by
  rcases List.eq_nil_or_concat m.opn with h|⟨l,o,h⟩
  ·exact absurd h s
  ·exact⟨l,o,by rw[h,List.concat_eq_append]⟩
 have p:o<m.nodes.length:=u o (by rw[e];simp);have ownO:=h.ownO;have hlen:m.opn.length=l.length+1:=by rw[e];simp
 rw[hlen] at ownO
 obtain⟨j,r,rfl,t⟩:∃g c,y = .slice (some ⟨g,0,none⟩) (l.length+1) c/\l.length+1<=c:=by
  rcases ownO.2 with ⟨_,h⟩|⟨g,c,cur,rfl,_,_,h,_⟩
  ·omega
  ·exact⟨_,_,rfl,h⟩
 obtain⟨d,cap,rfl⟩:∃g c,x = .slice (some ⟨g,0,none⟩) m.nodes.length c:=by
  rcases h.ownN.2 with ⟨_,h⟩|⟨g,c,cur,rfl,_⟩
  ·omega
  ·exact⟨_,_,rfl⟩
 have i:o<f.length:=by rw[h.len];exact p
 have a:=dC m.nodes f h.len o m.nodes[o] f[o] (List.getElem?_eq_getElem p) (List.getElem?_eq_getElem i);have z:=h.ownN.lt d rfl;refine⟨o,l.length,j,r,d,cap,m.nodes[o],f[o],hlen,by rw[e];simp,p,rfl,rfl,List.getElem?_eq_getElem p,List.getElem?_eq_getElem i,?_,(h.ownN.cellAt _ (by omega)).trans a.1,(h.ownN.cellAt _ (by omega)).trans a.2.2.1,(h.ownN.cellAt _ (by omega)).trans a.2.2.2,λk=>h.ownN.frozenAt k,t,z.2,z.1⟩;rw[ownO.cellAt l.length (by omega),e];unfold ZQ;rw[List.getElem?_map,List.getElem?_append_right (by omega)]
 simp
attribute [local go_sem ↓] Go.wp_at_zero Go.wp_at_succ
attribute [local go_sem ↓] Go.wp_at_zero Go.wp_at_succ
attribute [local go_sem ↓] Go.wp_at_zero Go.wp_at_succ
theorem oz(w:World)(x:Int)(t:TypeId)(c:Nat):(convert 256 9 (.slice (some ⟨w.heap.size,0,none⟩) 1 c)).run prog (w.alloc (.cells #[.int .u8 x] t)).drew = .ok (.string ⟨#[UInt8.ofNat x.toNat]⟩) (w.alloc (.cells #[.int .u8 x] t)).drew:=by
 rw[run_convert_bytes_string _ _ _ _ _ _ _ underlying256 underlying5 underlying9];rw[run_bytesToString _ _ _ _ [x] (by simp[loadCells,go_sem])]
 rfl
attribute [local go_sem ↓] Go.wp_at_zero Go.wp_at_succ
attribute [local go_sem ↓] Go.wp_at_zero Go.wp_at_succ
attribute [local go_sem ↓] Go.wp_at_zero Go.wp_at_succ
theorem gM(m:Ref.zi)(x:Int)(base b:Nat)(I H:Value)(J:List (Value×Value))(w:World)(h:xk w base b m I H J)(q:Small m)(r:Ref.Wf m)(c:m.state=9) :
  Calls prog 109 #[.pointer (some ⟨b,0,none⟩),.int .u8 x] w (Stepped base b (Ref.step m x) w):=by
 obtain⟨R,d⟩:=Nm (Ref.step m x);rw[d];rw[Ref.Ua m x c] at d;have k:=hid h.hb;have t:b<w.heap.size:=lt_of_block h.blk;have E:base<=w.heap.size:=Nat.le_trans k.out (Nat.le_of_lt t);obtain⟨v,y,F,G,C,D⟩:=r.need9 c;have s:=q.got;obtain⟨got,a⟩:∃g,m.got=g:=⟨_,rfl⟩;obtain⟨lo,i⟩:∃g,m.low=g:=⟨_,rfl⟩;obtain⟨hi,f⟩:∃g,m.high=g:=⟨_,rfl⟩;obtain⟨n,j⟩:∃g,m.need=g:=⟨_,rfl⟩;rw[a] at d s;rw[i] at d F G;rw[f] at d C D;rw[j] at d v y;have c0:w.cell? ⟨b,0,none⟩=some (.int .i64 9):=by rw[<- c];exact (h.cell 0).1
 have P:w.frozen? ⟨b,0,none⟩=false:=(h.cell 0).2;have c4:w.cell? ⟨b,4,none⟩=some (.string got):=by rw[<- a];exact (h.cell 4).1
 have A:w.frozen? ⟨b,4,none⟩=false:=(h.cell 4).2;have c5:w.cell? ⟨b,5,none⟩=some (.int .i64 n):=by rw[<- j];exact (h.cell 5).1
 have Q:w.frozen? ⟨b,5,none⟩=false:=(h.cell 5).2;have K:w.cell? ⟨b,6,none⟩=some (.int .u8 lo):=by rw[<- i];exact (h.cell 6).1
 have S:w.frozen? ⟨b,6,none⟩=false:=(h.cell 6).2;have L:w.cell? ⟨b,7,none⟩=some (.int .u8 hi):=by rw[<- f];exact (h.cell 7).1
 have T:w.frozen? ⟨b,7,none⟩=false:=(h.cell 7).2
 by_cases hbad:x<lo\/hi<x
 ·rw[if_pos hbad] at d;subst d;clear h q r c a i f j
  by_cases hl:x<lo
  all_goals
   go_enter func109,ntmps109
   go_wp2
   go_ret;exact⟨rfl,Below.refl _ _,by simp⟩
 rw[if_neg hbad] at d;have M:¬x<lo:=λe=>hbad (.inl e);have N:¬hi<x:=λe=>hbad (.inr e);have u:=λO:Obj=>zg (nb w O) c4;have B:=λO:Obj=>((nb w O).frozen (p:=⟨b,4,none⟩) t).trans A;have U:=oz;have o:=(((h.store 4 (.string (got++Ref.one x)) (m':={ m with got:=got++Ref.one x }) rfl rfl rfl).store 6 (.int .u8 128) (m':={ m with got:=got++Ref.one x,low:=128 }) rfl rfl rfl).store 7 (.int .u8 191) (m':={ m with got:=got++Ref.one x,low:=128,high:=191 }) rfl rfl rfl).store 5 (.int .i64 (n-1)) (m':={ m with got:=got++Ref.one x,low:=128,high:=191,need:=n-1 }) rfl rfl rfl
 by_cases hz:n-1=0
 ·rw[if_pos hz] at d;subst d;have z:(n-1==0)=true:=by simp[hz]
  have l:=hid (o.store 0 (.int .i64 8) (m':={ m with got:=got++Ref.one x,low:=128,high:=191,need:=n-1,state:=8 }) rfl rfl rfl)
  clear h q r c a i f j hbad o hz;go_enter func109,ntmps109;go_wp2_with fail
  go_region
  all_goals
   go_wp2
   go_ret;exact⟨rfl,(((((((Below.refl _ _).setCell k.out _).setCell k.out _).setCell k.out _).setCell k.out _).setCell k.out _).alloc (by simp[World.setCell];omega) _).drew,λ_=>⟨_,_,_,(l.out.below (nb _ _)).drew⟩⟩
 ·rw[if_neg hz] at d;rw[<- c] at d;subst d;have z:(n-1==0)=false:=by simp[hz]
  have l:=hid o;clear h q r c a i f j hbad o hz;go_enter func109,ntmps109;go_wp2_with fail
  go_region
  all_goals
   go_wp2
   go_ret;exact⟨rfl,((((((Below.refl _ _).setCell k.out _).setCell k.out _).setCell k.out _).setCell k.out _).alloc (by simp[World.setCell];omega) _).drew,λ_=>⟨_,_,_,(l.out.below (nb _ _)).drew⟩⟩
theorem Small.of{n:Nat}{m:Ref.zi}(h:Ref.Bnd n m)(e:n<=4000):Small m:=by
 have a:=h.nodes;have b:=h.opn;have c:=h.got;refine⟨by omega,by omega,λd hd=>?_,λd hd=>?_,by omega,h.top⟩
 ·obtain⟨i,hi⟩:=List.getElem?_of_mem hd;have:=h.kids i d hi;omega
 ·obtain⟨i,hi⟩:=List.getElem?_of_mem hd;have:=h.kids i d hi;omega
def kS(w wr:World)(cs:Array Value)(t:TypeId):Prop:=wr.heap[w.heap.size]?=some (.cells cs t (0,0))/\Below w.heap.size w wr
theorem kS.start(w:World)(cs:Array Value)(t:TypeId):kS w (w.alloc (.cells cs t)) cs t:=⟨heap_alloc_new w _,nb _ _⟩
theorem kS.drew{w wr:World}{cs:Array Value}{t:TypeId}(h:kS w wr cs t):kS w wr.drew cs t:=⟨h.1,h.2.drew⟩
theorem kS.cell{w wr:World}{cs:Array Value}{t:TypeId}(h:kS w wr cs t)(k:Nat):wr.cell? ⟨w.heap.size,k,none⟩=cs[k]?:=(ze h.1 k).1
theorem kS.old{w wr:World}{cs:Array Value}{t:TypeId}(h:kS w wr cs t){p:Addr}{v:Value}(a:w.cell? p=some v):wr.cell? p=some v:=zg h.2 a
structure QL (w:World) (base b gg cap:Nat) (ns:List Ref.Node):Prop where
 lt:b<w.heap.size/\gg<w.heap.size
 slice:w.cell? ⟨b,2,none⟩=some (.slice (some ⟨gg,0,none⟩) ns.length cap)
 node:∀(i:Nat) (n:Ref.Node),ns[i]?=some n->∃v:Value×Value,w.cell? ⟨gg,i*4,none⟩=some (.int .i64 n.kind)/\w.cell? ⟨gg,i*4+1,none⟩=some (.string n.text)/\w.cell? ⟨gg,i*4+2,none⟩=some v.1/\w.cell? ⟨gg,i*4+3,none⟩=some v.2 /\
  w.ownsRow base 9 1 v.1 n.names.length (Ref.strCells n.names)/\w.ownsRow base 3 1 v.2 n.kids.length (ZQ n.kids)
 ev:Ref.Ev ns
 len:ns.length<=4000
 small:∀(i:Nat) (n:Ref.Node),ns[i]?=some n->n.kids.length<=4000/\n.names.length<=4000/\n.text.size<=12000
theorem QL.below{w d:World}{base b a cap:Nat}{c:List Ref.Node}(h:QL w base b a cap c)(hb:Below w.heap.size w d):QL d base b a cap c:=by
 have m:=hb.size;refine⟨⟨by have:=h.lt.1;omega,by have:=h.lt.2;omega⟩,zg hb h.slice,λi n hi=>?_,h.ev,h.len,h.small⟩;obtain⟨v,e,f,g,j,k,l⟩:=h.node i n hi;exact⟨v,zg hb e,zg hb f,zg hb g,zg hb j,ownsRow_below k hb,ownsRow_below l hb⟩
def xy(w:World)(a:Nat)(sh pt:Bool):Prop:=w.heap[a]?=some (.cells #[.bool sh,.bool pt] 162 (0,0))
theorem xy.cell{w:World}{a:Nat}{sh pt:Bool}(h:xy w a sh pt):w.cell? ⟨a,0,none⟩=some (.bool sh)/\w.cell? ⟨a,1,none⟩=some (.bool pt)/\w.frozen? ⟨a,0,none⟩=false/\w.frozen? ⟨a,1,none⟩=false:=
 ⟨(ze h 0).1,(ze h 1).1,(ze h 0).2,(ze h 1).2⟩
theorem xy.shape{w:World}{a:Nat}{sh pt:Bool}(h:xy w a sh pt)(x:Bool):xy (w.setCell ⟨a,0,none⟩ (.bool x)) a x pt:=heap_setCell_same w a 0 _ _ _ h
theorem xy.pat{w:World}{a:Nat}{sh pt:Bool}(h:xy w a sh pt)(x:Bool):xy (w.setCell ⟨a,1,none⟩ (.bool x)) a sh x:=heap_setCell_same w a 1 _ _ _ h
theorem xy.below{w b:World}{a:Nat}{sh pt:Bool}(h:xy w a sh pt)(hb:Below w.heap.size w b):xy b a sh pt:=(hb.block a (lt_of_block h)).trans h
theorem But.trans{a b c:World}{r:Option Nat}(h:a.grownBy b r)(k:b.grownBy c r):a.grownBy c r:=
 ⟨k.os.trans h.os,k.tape.trans h.tape,k.output.trans h.output,Nat.le_trans h.size k.size,λi hi d=>(k.block i (Nat.lt_of_lt_of_le hi h.size) d).trans (h.block i hi d)⟩
theorem But.of{a b:World}(r:Option Nat)(h:Below a.heap.size a b):a.grownBy b r:=⟨h.os,h.tape,h.output,h.size,λi hi _=>h.block i hi⟩
theorem But.set(a:World)(b o:Nat)(u:Value):a.grownBy (a.setCell ⟨b,o,none⟩ u) (some b):=
 ⟨rfl,rfl,rfl,by simp[World.setCell],λi _ c=>Below.heap_setCell _ _ _ _ (λe=>c (by simp only at e;rw[e]))⟩
theorem But.below{a b:World}{c B:Nat}(h:a.grownBy b (some c))(d:B<=a.heap.size)(f:B<=c):Below B a b:=
 ⟨h.os,h.tape,h.output,h.size,λi hi=>h.block i (by omega) (λe=>by simp only[Option.some.injEq] at e;omega)⟩
theorem xk.rd{w:World}{base b:Nat}{m:Ref.zi}{s p:Value}{d:List (Value×Value)}(h:xk w base b m s p d)(q:m.nodes≠[])(f:Ref.Ev m.nodes)(hb:Ref.Bnd 4000 m)(r:Ref.iP 12000 m.nodes) :
  ∃e cap,QL w base b e cap m.nodes:=by
 have o:0<m.nodes.length:=List.length_pos_iff.2 q
 obtain⟨e,cap,rfl⟩:∃g c,p = .slice (some ⟨g,0,none⟩) m.nodes.length c:=by
  rcases h.ownN.2 with ⟨_,h0⟩|⟨g,c,cur,rfl,_⟩
  ·omega
  ·exact⟨_,_,rfl⟩
 refine⟨e,cap,⟨lt_of_block h.blk,(h.ownN.lt e rfl).2⟩,(h.cell 2).1,λi n hi=>?_,f,hb.nodes,λi n hi=>⟨(hb.kids i n hi).1,(hb.kids i n hi).2,r i n hi⟩⟩;have j:i<m.nodes.length:=(List.getElem?_eq_some_iff.1 hi).1;have l:i<d.length:=by rw[h.len];exact j
 have k:=List.getElem?_eq_getElem l;have a:=dC m.nodes d h.len i n d[i] hi k;exact⟨d[i],(h.ownN.cellAt _ (by omega)).trans a.1,(h.ownN.cellAt _ (by omega)).trans a.2.1,(h.ownN.cellAt _ (by omega)).trans a.2.2.1,(h.ownN.cellAt _ (by omega)).trans a.2.2.2,h.names i n _ hi k,h.kids i n _ hi k⟩
structure xQ (w:World) (fb:Nat) (nc cc:Array Value) (sh pt:Bool) (wx:World):Prop where
 g:w.grownBy wx (some fb)
 f:xy wx fb sh pt
 r:wx.heap[w.heap.size]?=some (.cells #[.string ⟨#[]⟩,.string ⟨#[]⟩,.slice none 0 0,.bool false] 244 (0,0))
 n:wx.heap[w.heap.size+1]?=some (.cells nc 152 (0,0))
 c:wx.heap[w.heap.size+2]?=some (.cells cc 244 (0,0))
theorem ic(w:World)(a b c:Obj):(((w.alloc a).alloc b).alloc c).heap[w.heap.size]?=some a/\(((w.alloc a).alloc b).alloc c).heap[w.heap.size+1]?=some b/\(((w.alloc a).alloc b).alloc c).heap[w.heap.size+2]?=some c:=by
 refine⟨?_,?_,?_⟩
 ·rw[Below.heap_alloc _ _ _ (by simp;omega)];exact (vU w a b).1
 ·rw[Below.heap_alloc _ _ _ (by simp)];exact (vU w a b).2
 ·have h:=heap_alloc_new ((w.alloc a).alloc b) c;rw[World.size_alloc,World.size_alloc] at h;exact h
theorem xQ.start{w:World}{c:Nat}{sh pt:Bool}(d:xy w c sh pt)(b a:Array Value) :
  xQ w c b a sh pt (((w.alloc (.cells #[.string ⟨#[]⟩,.string ⟨#[]⟩,.slice none 0 0,.bool false] 244)).alloc (.cells b 152)).alloc (.cells a 244)):=by
 have hb:Below w.heap.size w (((w.alloc (.cells #[.string ⟨#[]⟩,.string ⟨#[]⟩,.slice none 0 0,.bool false] 244)).alloc (.cells b 152)).alloc (.cells a 244)):=
  ((nb _ _).alloc (by simp) _).alloc (by simp;omega) _
 obtain⟨e,f,g⟩:=ic w (.cells #[.string ⟨#[]⟩,.string ⟨#[]⟩,.slice none 0 0,.bool false] 244) (.cells b 152) (.cells a 244);exact⟨But.of _ hb,d.below hb,e,f,g⟩
theorem xQ.size{w a:World}{d:Nat}{e b:Array Value}{sh pt:Bool}(h:xQ w d e b sh pt a):w.heap.size+3<=a.heap.size:=lt_of_block h.c
theorem xQ.below{w a i:World}{d:Nat}{e b:Array Value}{sh pt:Bool}(h:xQ w d e b sh pt a)(hb:Below a.heap.size a i):xQ w d e b sh pt i:=by
 have j:=h.size;exact⟨But.trans h.g (But.of _ hb),h.f.below hb,(hb.block _ (by omega)).trans h.r,(hb.block _ (by omega)).trans h.n,(hb.block _ (by omega)).trans h.c⟩
theorem xQ.grown{w k f:World}{a:Nat}{j i:Array Value}{sh pt d b:Bool}(m:a<w.heap.size)(h:xQ w a j i sh pt k)(e:k.grownBy f (some a))(l:xy f a d b):xQ w a j i d b f:=by
 have o:=h.size;exact⟨But.trans h.g e,l,(e.block _ (by omega) (by simp;omega)).trans h.r,(e.block _ (by omega) (by simp;omega)).trans h.n,(e.block _ (by omega) (by simp;omega)).trans h.c⟩
theorem xQ.shape{w e:World}{a:Nat}{d c:Array Value}{sh pt:Bool}(b:a<w.heap.size)(h:xQ w a d c sh pt e)(x:Bool):xQ w a d c x pt (e.setCell ⟨a,0,none⟩ (.bool x)):=
 h.grown b (But.set _ _ _ _) (h.f.shape x)
theorem xQ.put{w d:World}{a:Nat}{j:Array Value}{c0 c1 c2 c3:Value}{sh pt:Bool}(k:a<w.heap.size)(h:xQ w a j #[c0,c1,c2,c3] sh pt d)(o:Nat)(u:Value)(e:Array Value)(b:e=#[c0,c1,c2,c3].set! o u):xQ w a j e sh pt (d.setCell ⟨w.heap.size+2,o,none⟩ u):=by
 subst b;refine⟨⟨h.g.os,h.g.tape,h.g.output,by simp[World.setCell];exact h.g.size,λi hi l=>?_⟩,?_,?_,?_,?_⟩
 ·rw[Below.heap_setCell _ _ _ _ (by simp only;omega)];exact h.g.block i hi l
 ·unfold xy;rw[Below.heap_setCell _ _ _ _ (by simp only;omega)];exact h.f
 ·rw[Below.heap_setCell _ _ _ _ (by simp only;omega)];exact h.r
 ·rw[Below.heap_setCell _ _ _ _ (by simp only;omega)];exact h.n
 ·exact heap_setCell_same d (w.heap.size+2) o _ _ _ h.c
theorem xQ.cells{w a:World}{b:Nat}{d e g i c0 c1 c2 c3:Value}{sh pt:Bool}(h:xQ w b #[d,e,g,i] #[c0,c1,c2,c3] sh pt a) :
  (a.cell? ⟨w.heap.size+1,0,none⟩=some d/\a.cell? ⟨w.heap.size+1,1,none⟩=some e/\a.cell? ⟨w.heap.size+1,2,none⟩=some g/\a.cell? ⟨w.heap.size+1,3,none⟩=some i) /\
  (a.cell? ⟨w.heap.size+2,0,none⟩=some c0/\a.cell? ⟨w.heap.size+2,1,none⟩=some c1/\a.cell? ⟨w.heap.size+2,2,none⟩=some c2/\a.cell? ⟨w.heap.size+2,3,none⟩=some c3) /\
  (a.frozen? ⟨w.heap.size+2,0,none⟩=false/\a.frozen? ⟨w.heap.size+2,1,none⟩=false/\a.frozen? ⟨w.heap.size+2,2,none⟩=false/\a.frozen? ⟨w.heap.size+2,3,none⟩=false) /\
  (a.cell? ⟨b,0,none⟩=some (.bool sh)/\a.cell? ⟨b,1,none⟩=some (.bool pt)/\a.frozen? ⟨b,0,none⟩=false/\a.frozen? ⟨b,1,none⟩=false):=
 ⟨⟨(ze h.n 0).1,(ze h.n 1).1,(ze h.n 2).1,(ze h.n 3).1⟩,⟨(ze h.c 0).1,(ze h.c 1).1,(ze h.c 2).1,(ze h.c 3).1⟩,
  ⟨(ze h.c 0).2,(ze h.c 1).2,(ze h.c 2).2,(ze h.c 3).2⟩,h.f.cell⟩
theorem xQ.fin{w b:World}{a:Nat}{j c:Array Value}{sh pt:Bool}(d:a<w.heap.size)(h:xQ w a j c sh pt b)(u0 u1 u2 u3:Value) :
  w.grownBy ((((b.setCell ⟨w.heap.size,0,none⟩ u0).setCell ⟨w.heap.size,1,none⟩ u1).setCell ⟨w.heap.size,2,none⟩ u2).setCell ⟨w.heap.size,3,none⟩ u3) (some a) /\
  xy ((((b.setCell ⟨w.heap.size,0,none⟩ u0).setCell ⟨w.heap.size,1,none⟩ u1).setCell ⟨w.heap.size,2,none⟩ u2).setCell ⟨w.heap.size,3,none⟩ u3) a sh pt:=by
 refine⟨⟨h.g.os,h.g.tape,h.g.output,by simp[World.setCell];exact h.g.size,λi hi e=>?_⟩,?_⟩
 ·rw[Below.heap_setCell _ _ _ _ (by simp only;omega),Below.heap_setCell _ _ _ _ (by simp only;omega),Below.heap_setCell _ _ _ _ (by simp only;omega),Below.heap_setCell _ _ _ _ (by simp only;omega)];exact h.g.block i hi e
 ·unfold xy;rw[Below.heap_setCell _ _ _ _ (by simp only;omega),Below.heap_setCell _ _ _ _ (by simp only;omega),Below.heap_setCell _ _ _ _ (by simp only;omega),Below.heap_setCell _ _ _ _ (by simp only;omega)];exact h.f
structure uM (w0:World) (base b gg cap:Nat) (ns:List Ref.Node) (w:World):Prop where
 rd:QL w0 base b gg cap ns
 non:Ref.NoN ns
 bel:Below w0.heap.size w0 w
theorem uM.at{d w:World}{base b a cap:Nat}{c:List Ref.Node}(h:uM d base b a cap c w):QL w base b a cap c:=h.rd.below h.bel
theorem uM.below{e w d:World}{base b a cap:Nat}{c:List Ref.Node}(h:uM e base b a cap c w)(hb:Below w.heap.size w d):uM e base b a cap c d:=⟨h.rd,h.non,h.bel.trans (hb.mono h.bel.size)⟩
theorem uM.grown{a w f:World}{base b d cap c:Nat}{e:List Ref.Node}(h:uM a base b d cap e w)(i:w.grownBy f (some c))(g:a.heap.size<=c):uM a base b d cap e f:=⟨h.rd,h.non,h.bel.trans (But.below i h.bel.size g)⟩
theorem uM.names{d w:World}{base b c cap:Nat}{a:List Ref.Node}(h:uM d base b c cap a w){i:Nat}{n:Ref.Node}(hi:a[i]?=some n):n.names.length<=n.kids.length:=by
 by_cases h1:n.kind=1
 ·rw[(h.rd.ev i n hi).2 h1];exact Nat.le_refl _
 ·rw[h.non i n hi h1];simp
theorem Xb{w b:World}{base:Nat}{e:TypeId}{size:Nat}{v:Value}{n:Nat}{xs:List Value}(h:w.ownsRow base e size v n xs)(d:∀i,base<=i->i<w.heap.size->b.heap[i]?=w.heap[i]?):b.ownsRow base e size v n xs:=by
 obtain⟨c,a⟩:=h;refine⟨c,?_⟩
 rcases a with a|⟨g,cap,cur,hv,hg,hh,h3⟩
 ·exact .inl a
 ·exact .inr ⟨g,cap,cur,hv,hg,by rw[d g hg (lt_of_block hh)];exact hh,h3⟩
end Go.Proofs.YtdakgnaojakldaaGreatDoor
