/- P -/
import Derived.Test.YtagnlbgbnfnapaaGreatDoorK40
open Go.Proofs.Tryz
set_option maxRecDepth 100000
set_option maxHeartbeats 2000000
namespace Go.Proofs.YtagnlbgbnfnapaaGreatDoor
open Go.RowKit
def Kw(w:World)(base:Nat)(xs:List Value)(j:Nat)(c:Ref.qg):Prop:=
 ∃lv,xs[j*4]?=some (.string c.op)/\xs[j*4+1]?=some (.string c.key)/\xs[j*4+2]?=some lv/\xs[j*4+3]?=some (.bool c.no)/\w.ownsRow base 9 1 lv c.vals.length (Ref.strCells c.vals)
def xS(w:World)(base:Nat)(lv:Value)(cs:List Ref.qg):Prop:=
 ∃xs,w.ownsRow base 332 4 lv cs.length xs/\∀j,(h:j<cs.length)->Kw w base xs j cs[j]
theorem xS.nil(w:World)(base:Nat):xS w base (.slice none 0 0) []:=⟨[],qD _ _ _ _,λj a=>by simp at a⟩
theorem xS.kept{w w':World}{base:Nat}{lv:Value}{cs:List Ref.qg}(h:xS w base lv cs)(f:∀i,base<=i->i<w.heap.size->w'.heap[i]?=w.heap[i]?):xS w' base lv cs:=by
 obtain⟨xs,g,k⟩:=h;refine⟨xs,ZV g f,λj m=>?_⟩;obtain⟨l,a,b,c,d,e⟩:=k j m;exact⟨l,a,b,c,d,ZV e f⟩
theorem xS.mono{w:World}{base f:Nat}{lv:Value}{cs:List Ref.qg}(h:xS w base lv cs)(hb:f<=base):xS w f lv cs:=by
 obtain⟨xs,g,i⟩:=h;refine⟨xs,xA g hb,λj k=>?_⟩;obtain⟨l,a,b,c,d,e⟩:=i j k;exact⟨l,a,b,c,d,xA e hb⟩
theorem QX{W i:World}{base a:Nat}{e c:TypeId}{size b:Nat}{lv v:Value}{n m:Nat}{xs j:List Value}(own:W.ownsRow base e size lv n xs)(h:W.ownsRow a c b v m j)(f:e≠c)(k:W.grownBy i lv.ownBlock):i.ownsRow a c b v m j:=by
 refine h.kept k ?_
 rcases h.2 with ⟨rfl,_⟩|⟨g,cap,cur,rfl,_,hb,_⟩
 ·exact .inl rfl
 ·refine .inr λd=>?_
  rcases own.2 with ⟨rfl,_⟩|⟨g2,cap2,cur2,rfl,_,hb2,_⟩
  ·simp[Value.ownBlock] at d
  ·simp only[Value.ownBlock,Option.some.injEq] at d;subst d;rw[hb2] at hb;injection hb with hb
   injection hb with _ hb
   exact f hb
theorem xS.snoc{W q:World}{base:Nat}{lv r p:Value}{cs:List Ref.qg}{xs:List Value}(own:W.ownsRow base 332 4 lv cs.length xs)(s:∀j,(h:j<cs.length)->Kw W base xs j cs[j])(c:Ref.qg)
  (o:W.ownsRow base 9 1 p c.vals.length (Ref.strCells c.vals))(g:W.grownBy q lv.ownBlock)(i:q.ownsRow base 332 4 r (cs.length+1) (xs++[.string c.op,.string c.key,p,.bool c.no])):xS q base r (cs++[c]):=by
 have m:xs.length=cs.length*4:=own.1;have k:(332:TypeId)≠9:=by decide
 refine⟨_,by rw[qA];exact i,λj t=>?_⟩;rw[qA,vQ] at t
 by_cases hlt:j<cs.length
 ·rw[List.getElem_append_left hlt];obtain⟨l,a,b,d,e,f⟩:=s j hlt;refine⟨l,?_,?_,?_,?_,QX own f k g⟩
  ·rw[xK (by omega)];exact a
  ·rw[xK (by omega)];exact b
  ·rw[xK (by omega)];exact d
  ·rw[xK (by omega)];exact e
 ·have n:j=cs.length:=by omega
  subst n;rw[List.getElem_append_right (ze _)];simp only[Nat.sub_self,fD];refine⟨p,?_,?_,?_,?_,QX own o k g⟩
  ·rw[xZ (by omega),m,Nat.sub_self];rfl
  ·rw[xZ (by omega),m,show cs.length*4+1-cs.length*4=1 by omega];rfl
  ·rw[xZ (by omega),m,show cs.length*4+2-cs.length*4=2 by omega];rfl
  ·rw[xZ (by omega),m,show cs.length*4+3-cs.length*4=3 by omega];rfl
def eU(w:World)(a:Nat)(sh pt:Bool)(R:Ref.Vv)(e:Ending)(w':World):Prop:=
 ∃lv,e = .returned lv/\w.grownBy w' (some a)/\qd w' a (sh||R.sh) (pt||R.pt)/\xS w' w.heap.size lv R.cs
structure uZ (w:World) (fb:Nat) (nc:Array Value) (sh pt:Bool) (wx:World):Prop where
 g:w.grownBy wx (some fb)
 f:qd wx fb sh pt
 n:wx.heap[w.heap.size]?=some (.cells nc 241 (0,0))
theorem uZ.start{w:World}{b:Nat}{sh pt:Bool}(c:qd w b sh pt)(a:Array Value):uZ w b a sh pt (w.alloc (.cells a 241)):=by
 have hb:Below w.heap.size w (w.alloc (.cells a 241)):=nbl _ _;exact⟨But.of _ hb,c.below hb,zQ w _⟩
theorem uZ.size{w a:World}{b:Nat}{c:Array Value}{sh pt:Bool}(h:uZ w b c sh pt a):w.heap.size+1<=a.heap.size:=zy h.n
theorem uZ.grown{w i d:World}{a:Nat}{f:Array Value}{sh pt c b:Bool}(k:a<w.heap.size)(h:uZ w a f sh pt i)(e:i.grownBy d (some a))(j:qd d a c b):uZ w a f c b d:=by
 have l:=h.size;exact⟨But.trans h.g e,j,(e.block _ (by omega) (by simp;omega)).trans h.n⟩
theorem uZ.app{w c d:World}{a:Nat}{b:Array Value}{sh pt:Bool}(e:a<w.heap.size)(h:uZ w a b sh pt c)(hb:Below (w.heap.size+1) c d):uZ w a b sh pt d:=by
 refine⟨⟨hb.os.trans h.g.os,hb.tape.trans h.g.tape,hb.output.trans h.g.output,qZ h.g.size hb.size,λi hi j=>(hb.block i (by omega)).trans (h.g.block i hi j)⟩,(hb.block a (by omega)).trans h.f,(hb.block _ (by omega)).trans h.n⟩
theorem Ci(ns:List Ref.Node)(ks:List Nat)(j:Nat)(a:j<ks.length)(x:Ref.Node)(b:ns[ks[j]]?=some x):Ref.ym ns (ks.take (j+1))=Ref.ym ns (ks.take j)++[Ref.kI ns x]:=by
 rw[Xe,zn a];unfold Ref.ym;rw[uG];simp[b]
theorem BP(w:World)(O:Obj)(t:TypeId)(a b c d:Value):∀(j:Nat) (u:Value),[a,b,c,d][j]?=some u->((w.alloc O).alloc (.cells #[a,b,c,d] t)).cell? ((⟨w.heap.size+1,0,none⟩:Addr).add j)=some u:=by
 have h:=VP (base:=w.heap.size) (e:=t) (size:=4) (w.alloc O) #[a,b,c,d] 1 (by simp) (by decide) rfl;rw[jT] at h;exact λj u f=>h.cells (g:=w.heap.size+1) rfl j u f
theorem Tryz.infoRCond:(prog.info? 332).map (λi=>(i.zero,i.size,i.bytes))=some (some (.agg #[.string ⟨#[]⟩,.string ⟨#[]⟩,.slice none 0 0,.bool false]),4,64):=by kernel_rfl
theorem Co{w wr c:World}{g:Nat}{lv:Value}{done:List Ref.qg}{op key:BY}{vals:List BY}{no:Bool}{a:Option Addr}{b:Nat}(h:xS wr (w.heap.size+1) lv done)(e:w.heap.size+1<=wr.heap.size)(n:g<w.heap.size)(k:wr.grownBy c (some g))
  (o:c.ownsRow wr.heap.size 9 1 (.slice a vals.length b) vals.length (Ref.strCells vals)) :
  ∃xs,((c.alloc (.cells #[.string op,.string key,.slice a vals.length b,.bool no] 332)).alloc (.cells #[.string op,.string key,.slice a vals.length b,.bool no] 332)).ownsRow (w.heap.size+1) 332 4 lv done.length xs /\
   (∀j,(h:j<done.length)->Kw ((c.alloc (.cells #[.string op,.string key,.slice a vals.length b,.bool no] 332)).alloc (.cells #[.string op,.string key,.slice a vals.length b,.bool no] 332)) (w.heap.size+1) xs j done[j]) /\
   ((c.alloc (.cells #[.string op,.string key,.slice a vals.length b,.bool no] 332)).alloc (.cells #[.string op,.string key,.slice a vals.length b,.bool no] 332)).ownsRow (w.heap.size+1) 9 1 (.slice a vals.length b) vals.length (Ref.strCells vals):=by
 have f:Below c.heap.size c ((c.alloc (.cells #[.string op,.string key,.slice a vals.length b,.bool no] 332)).alloc (.cells #[.string op,.string key,.slice a vals.length b,.bool no] 332)):=(nbl _ _).alloc (by simp) _;obtain⟨xs,l,m⟩:=(h.kept (λi hi d=>k.block i d (by simp;omega))).kept (λi hi d=>f.block i d);exact⟨xs,l,m,ownsRow_below (xA o e) f⟩
theorem Cg(k:Int)(w0:World)(base b gg cap:Nat)(ns:List Ref.Node)(m:Nat)(sh pt:Bool)(w:World)(E:vv w0 base b gg cap ns w)(hk:k<ns.length)(d7:-1<=k)(b2:w0.heap.size<=m)(hf:qd w m sh pt) :
  Calls prog 170 #[.pointer (some ⟨b,0,none⟩),.int .i64 k,.pointer (some ⟨m,0,none⟩)] w (eU w m sh pt (Ref.Ql ns k)):=by
 have I:m<w.heap.size:=zy hf;obtain⟨R,q⟩:=Nm (Ref.Ql ns k);rw[q];unfold Ref.Ql at q
 by_cases hneg:k<0
 ·rw[zb hneg] at q;subst q;go_enter func170,ntmps170
  go_wp2
  go_ret;exact⟨_,rfl,But.of _ (zf _ _),by simpa using hf,xS.nil _ _⟩
 rw[za hneg] at q;obtain⟨i,rfl⟩:∃i:Nat,k=i:=⟨k.toNat,by omega⟩;have J:i<ns.length:=by omega
 simp only[xQ,zn J] at q;have hn:=zn J;have h:=E.at;obtain⟨v,V,W,X,Q,Y,Z⟩:=E.rd.node i _ hn
 replace V:=zi E.bel V
 replace W:=zi E.bel W
 replace X:=zi E.bel X
 replace Q:=zi E.bel Q
 have N:=h.small i _ hn;obtain⟨n,b6⟩:=Nm (ns[i]);rw[b6] at q hn V W Y Z N;obtain⟨v1,v2⟩:=v;simp only at X Q Y Z;have b7:=h.slice;obtain⟨nl,L⟩:=Nm ns.length;have hlen:=h.len;rw[L] at b7 J hk hlen;obtain⟨kind,text,ss,ks⟩:=n;simp only at q V W X Q Y Z N;obtain⟨ka,kc,P,cK⟩:=yU Z;obtain⟨na,nc,rfl,_⟩:=yU Y;obtain⟨o,K⟩:=Nm ks.length;rw[K] at P cK N q;rw[P] at Q;have CK:=hid cK;have HE:=hid E;have HR:=hid q;have F:=hid K;have HN:=hid hn;have i3:=hid L;have HF:=hid hf;have i0:(0:Int)<=(i:Int):=zZ _;have i1:(i:Int)<(nl:Int):=by omega
 obtain⟨f0,f1,f2,f3⟩:=hf.cell;have bA:∀O:Obj,Below w.heap.size w (w.alloc O):=λO=>nbl _ O;have d3:=λO:Obj=>zi (bA O) f0;have d4:∀O:Obj,(w.alloc O).frozen? ⟨m,0,none⟩=false:=λO=>(HF.out.below (bA O)).cell.2.2.1
 have p:Hid (∀O:Obj,w.grownBy ((w.setCell ⟨m,0,none⟩ (.bool true)).alloc O) (some m)/\qd ((w.setCell ⟨m,0,none⟩ (.bool true)).alloc O) m (sh||true) (pt||false)):=by
  refine hid (λO=>⟨But.trans (But.set _ _ _ _) (But.of _ (nbl _ O)),?_⟩)
  have:=(HF.out.shape true).below (nbl _ O)
  simpa using this
 clear h E q b6 hn L K Y Z cK d7 hk P hf f0 f1 f2 f3 bA;go_enter func170,ntmps170;have M:=HR.out
 by_cases h2:kind≠2
 ·rw[zb (.inl h2)] at M;subst M;have i8:(kind != 2)=true:=by simp[h2]
  clear HR
  go_wp2
  go_ret;exact⟨_,rfl,(p.out _).1,(p.out _).2,xS.nil _ _⟩
 rw[Ne,Vw] at h2;subst h2
 by_cases hk5:5<o
 ·rw[zb (.inr hk5)] at M;subst M;have d8:decide (5<(o:Int))=true:=by simp;omega
  clear HR
  go_wp2
  go_ret;exact⟨_,rfl,(p.out _).1,(p.out _).2,xS.nil _ _⟩
 rw[za (by omega)] at M;have c9:=hid M;have d8:decide (5<(o:Int))=false:=by simp;omega
 clear M HR p;obtain⟨i0,hi,e0,e3,e4⟩:=qP Tryz.infoRCond;go_wp2_with fail
 go_loopw [8,9] (λlv jv wr=>∃(j:Nat),j<=o/\jv = .int .i64 j/\xS wr (w.heap.size+1) lv (Ref.ym ns (ks.take j)) /\
   uZ w m #[.int .i64 2,.string text,.slice na ss.length nc,.slice ka o kc] (sh||(Ref.ym ns (ks.take j)).any Ref.qg.sh) (pt||(Ref.ym ns (ks.take j)).any Ref.qg.pt) wr) (λ_ jv _=>o-(intOf jv).toNat)
 case atStart=>
  refine⟨0,by omega,rfl,xS.nil _ _,?_⟩
  have:=uZ.start HF.out #[.int .i64 2,.string text,.slice na ss.length nc,.slice ka o kc]
  simpa [Ref.ym] using this
 case round=>
  obtain⟨j,hj,rfl,a9,D⟩:=hrel;have A:=hid a9;have a:=hid D;have c3:wr.cell? ⟨w.heap.size,3,none⟩=some (.slice ka o kc):=(zg D.n 3).1;have d9:=D.size;have b0:(Ref.ym ns (ks.take j)).length=j:=by unfold Ref.ym;rw[qB,yZ,F.out];omega
  clear a9 D V W X Q b7 d3 d4
  by_cases hlt:j<o
  ·obtain⟨g,rfl,q1⟩:=CK.out j hlt;have l1:j<ks.length:=by rw[F.out];exact hlt
   rw[xY,Ref.J5 ks j l1] at q1;have s:=HE.out.at.kid HN.out j l1;simp only at s;have hx:=zn s;obtain⟨x,b8⟩:=Nm (ns[ks[j]]);rw[b8] at hx;have HT:=hid (Ci ns ks j l1 x hx);have H:=HE.out.grown a.out.g b2;have q2:=zi H.bel q1;have S:=Cb ks[j] w0 base b gg cap ns x m _ _ wr H hx b2 a.out.f;obtain⟨kid,b4⟩:∃c,ks[j]=c:=⟨_,rfl⟩;rw[b4] at q2 S;obtain⟨C,hC⟩:=Nm (Ref.kI ns x);rw[hC] at S;have B:Hid (Ref.ym ns (ks.take (j+1))=Ref.ym ns (ks.take j)++[C]):=by rw[<- hC];exact HT
   obtain⟨done,r⟩:∃d,Ref.ym ns (ks.take j)=d:=⟨_,rfl⟩;rw[r] at A a B b0 S;obtain⟨f7,z⟩:∃x,(sh||done.any Ref.qg.sh)=x:=⟨_,rfl⟩;obtain⟨f5,y⟩:∃x,(pt||done.any Ref.qg.pt)=x:=⟨_,rfl⟩;rw[z,y] at a S;have d0:=hid z;have c8:=hid y;obtain⟨op,key,vals,no,a7,a0⟩:=C;have CC:=hid S;clear q1 hx b8 s HT hC r z y H b4 S
   go_wp2_with (first
    | (go_at_call 212;refine CC.out.mono ?_;rintro e w2 ⟨l2,rfl,g2,G,o2⟩;simp only at g2 G o2;obtain⟨la,lc,rfl⟩:=yt o2;have G2:=hid g2;have c6:=hid G;obtain⟨xs,ro,rc,o3⟩:=Co (op:=op) (key:=key) (no:=no) A.out d9 I g2 o2;have O3:=hid o3;have RO:=hid ro;have RC:=hid rc;have g9:=g2.size;clear g2 G o2 ro rc o3)
    | (at_builtin;refine yK _ rfl _ _ 247 rfl (w.heap.size+1) 332 i0 (.agg #[.string ⟨#[]⟩,.string ⟨#[]⟩,.slice none 0 0,.bool false]) 4 64 underlying247 hi e0 e3 e4 rfl (by decide) _ done.length xs rfl RO.out ⟨w2.heap.size+1,0,none⟩ 1 1 [.string op,.string key,.slice la vals.length lc,.bool no] rfl rfl ?_ ?_ ?_ ?_ ?_ ?_))
   ·exact BP _ _ _ _ _ _ _
   ·intro u hu;simp at hu;rcases hu with rfl|rfl|rfl|rfl<;>rfl
   ·unfold maxLen;omega
   ·omega
   ·simp;omega
   ·intro v' w3 t l _;have T:=hid (xS.snoc RO.out RC.out ⟨op,key,vals,no,a7,a0⟩ O3.out l (by rw[b0];exact t));have K3:=(a.out.grown I G2.out c6.out).app I ((((zf _ w2).alloc (by omega) _).alloc (by simp;omega) _).grown l (by simp;omega) (λk hk=>(RO.out.lt k hk).1))
    have K4:Hid (uZ w m #[.int .i64 2,.string text,.slice na ss.length nc,.slice (some ⟨g,0,none⟩) o kc] (sh||(Ref.ym ns (ks.take (j+1))).any Ref.qg.sh) (pt||(Ref.ym ns (ks.take (j+1))).any Ref.qg.pt) w3):=by
     have e1:(sh||(Ref.ym ns (ks.take (j+1))).any Ref.qg.sh)=(f7||a7):=by rw[B.out,<- d0.out];simp[Bool.or_assoc]
     have e2:(pt||(Ref.ym ns (ks.take (j+1))).any Ref.qg.pt)=(f5||a0):=by rw[B.out,<- c8.out];simp[Bool.or_assoc]
     rw[e1,e2];exact hid K3
    have U:Hid (xS w3 (w.heap.size+1) v' (Ref.ym ns (ks.take (j+1)))):=by rw[B.out];exact T
    clear t l K3 T RO RC O3 A a
    go_wp2
    go_roundw
    case rel=>exact⟨j+1,by omega,by go_num,U.out,K4.out⟩
    case measure=>simp[intOf];omega
  ·have d6:j=ks.length:=by rw[F.out];omega
   have b3:R=⟨Ref.ym ns (ks.take j),(Ref.ym ns (ks.take j)).any Ref.qg.sh,(Ref.ym ns (ks.take j)).any Ref.qg.pt⟩:=by rw[d6,List.take_length];exact c9.out.symm
   subst b3
   go_wp2
   go_ret;exact⟨_,rfl,a.out.g,a.out.f,A.out.mono (by omega)⟩
def vS(w:World)(base:Nat)(a b c d:Value)(R:Rd.qa):Prop:=
 w.ownsRow base 9 1 a R.who.2.length (Ref.strCells R.who.2)/\w.ownsRow base 9 1 b R.act.2.length (Ref.strCells R.act.2)/\w.ownsRow base 9 1 c R.on.2.length (Ref.strCells R.on.2)/\xS w base d R.cs
def JA(w:World)(R:Rd.qa)(e:Ending)(w':World):Prop:=
 ∃a b c d,e = .returned (.tuple #[.agg #[.string R.eff,.bool R.who.1,a,.bool R.act.1,b,.bool R.on.1,c,d],.agg #[.bool R.sh,.bool R.pt]])/\Below w.heap.size w w'/\vS w' w.heap.size a b c d R
theorem vS.kept{w w':World}{base:Nat}{b c d e:Value}{R:Rd.qa}(h:vS w base b c d e R)(a:∀i,base<=i->i<w.heap.size->w'.heap[i]?=w.heap[i]?):vS w' base b c d e R:=
 ⟨ZV h.1 a,ZV h.2.1 a,ZV h.2.2.1 a,h.2.2.2.kept a⟩
theorem vS.mono{w:World}{base a:Nat}{b c d e:Value}{R:Rd.qa}(h:vS w base b c d e R)(hb:a<=base):vS w a b c d e R:=
 ⟨xA h.1 hb,xA h.2.1 hb,xA h.2.2.1 hb,h.2.2.2.mono hb⟩
structure xJ (w:World) (nc sc:Array Value) (sh pt:Bool) (wx:World):Prop where
 g:Below w.heap.size w wx
 r:wx.heap[w.heap.size]?=some (.cells #[.string ⟨#[]⟩,.bool false,.slice none 0 0,.bool false,.slice none 0 0,.bool false,.slice none 0 0,.slice none 0 0] 249 (0,0))
 rf:wx.heap[w.heap.size+1]?=some (.cells #[.bool false,.bool false] 251 (0,0))
 n:wx.heap[w.heap.size+2]?=some (.cells nc 241 (0,0))
 s:wx.heap[w.heap.size+3]?=some (.cells sc 249 (0,0))
 f:qd wx (w.heap.size+4) sh pt
theorem Fa(w:World)(a b c d e:Obj):(((((w.alloc a).alloc b).alloc c).alloc d).alloc e).heap[w.heap.size]?=some a/\(((((w.alloc a).alloc b).alloc c).alloc d).alloc e).heap[w.heap.size+1]?=some b/\(((((w.alloc a).alloc b).alloc c).alloc d).alloc e).heap[w.heap.size+2]?=some c /\
  (((((w.alloc a).alloc b).alloc c).alloc d).alloc e).heap[w.heap.size+3]?=some d/\(((((w.alloc a).alloc b).alloc c).alloc d).alloc e).heap[w.heap.size+4]?=some e:=by
 obtain⟨g,h,j⟩:=sZ w a b c;have f:(((w.alloc a).alloc b).alloc c).heap.size=w.heap.size+3:=by simp
 obtain⟨u1,u2⟩:=uy (((w.alloc a).alloc b).alloc c) d e;rw[f] at u1 u2
 have k:∀i,i<w.heap.size+3->(((((w.alloc a).alloc b).alloc c).alloc d).alloc e).heap[i]?=(((w.alloc a).alloc b).alloc c).heap[i]?:=by
  intro i hi;rw[Za _ _ _ (by simp;omega),Za _ _ _ (by simp;omega)]
 exact⟨(k _ (by omega)).trans g,(k _ (by omega)).trans h,(k _ (by omega)).trans j,u1,u2⟩
theorem xJ.start(w:World)(a:Array Value) :
  xJ w a #[.string ⟨#[]⟩,.bool false,.slice none 0 0,.bool false,.slice none 0 0,.bool false,.slice none 0 0,.slice none 0 0] false false
   (((((w.alloc (.cells #[.string ⟨#[]⟩,.bool false,.slice none 0 0,.bool false,.slice none 0 0,.bool false,.slice none 0 0,.slice none 0 0] 249)).alloc (.cells #[.bool false,.bool false] 251)).alloc (.cells a 241)).alloc (.cells #[.string ⟨#[]⟩,.bool false,.slice none 0 0,.bool false,.slice none 0 0,.bool false,.slice none 0 0,.slice none 0 0] 249)).alloc (.cells #[.bool false,.bool false] 251)):=by
 obtain⟨b,c,d,e,f⟩:=Fa w (.cells #[.string ⟨#[]⟩,.bool false,.slice none 0 0,.bool false,.slice none 0 0,.bool false,.slice none 0 0,.slice none 0 0] 249) (.cells #[.bool false,.bool false] 251) (.cells a 241) (.cells #[.string ⟨#[]⟩,.bool false,.slice none 0 0,.bool false,.slice none 0 0,.bool false,.slice none 0 0,.slice none 0 0] 249) (.cells #[.bool false,.bool false] 251);exact⟨(((((nbl _ _).alloc (by simp) _).alloc (by simp;omega) _).alloc (by simp;omega) _).alloc (by simp;omega) _),b,c,d,e,f⟩
theorem xJ.size{w a:World}{b c:Array Value}{sh pt:Bool}(h:xJ w b c sh pt a):w.heap.size+5<=a.heap.size:=zy h.f
theorem xJ.below{w a d:World}{b c:Array Value}{sh pt:Bool}(h:xJ w b c sh pt a)(hb:Below a.heap.size a d):xJ w b c sh pt d:=by
 have e:=h.size;exact⟨h.g.trans (hb.mono (by omega)),(hb.block _ (by omega)).trans h.r,(hb.block _ (by omega)).trans h.rf,(hb.block _ (by omega)).trans h.n,(hb.block _ (by omega)).trans h.s,h.f.below hb⟩
theorem xJ.grown{w i d:World}{e f:Array Value}{sh pt c b:Bool}(h:xJ w e f sh pt i)(a:i.grownBy d (some (w.heap.size+4)))(j:qd d (w.heap.size+4) c b):xJ w e f c b d:=by
 have k:=h.size;exact⟨h.g.trans (But.below a (by omega) (by omega)),(a.block _ (by omega) (by simp)).trans h.r,(a.block _ (by omega) (by simp)).trans h.rf,(a.block _ (by omega) (by simp)).trans h.n,(a.block _ (by omega) (by simp)).trans h.s,j⟩
theorem xJ.shape{w c:World}{a b:Array Value}{sh pt:Bool}(h:xJ w a b sh pt c)(x:Bool):xJ w a b x pt (c.setCell ⟨w.heap.size+4,0,none⟩ (.bool x)):=
 h.grown (But.set _ _ _ _) (h.f.shape x)
theorem xJ.put{w a:World}{d e:Array Value}{sh pt:Bool}(h:xJ w d e sh pt a)(o:Nat)(u:Value)(c:Array Value)(b:c=e.set! o u):xJ w d c sh pt (a.setCell ⟨w.heap.size+3,o,none⟩ u):=by
 subst b;have ne:∀i,i≠w.heap.size+3->(a.setCell ⟨w.heap.size+3,o,none⟩ u).heap[i]?=a.heap[i]?:=λi hi=>qc _ _ _ _ (by simp only;omega);exact⟨h.g.setCell (by simp only;omega) _,(ne _ (by omega)).trans h.r,(ne _ (by omega)).trans h.rf,(ne _ (by omega)).trans h.n,yz a _ o _ _ _ h.s,(ne _ (by omega)).trans h.f⟩
theorem xJ.cells{w a:World}{e g i j b c1 c2 c3 c4 c5 c d:Value}{sh pt:Bool}(h:xJ w #[e,g,i,j] #[b,c1,c2,c3,c4,c5,c,d] sh pt a) :
  (a.cell? ⟨w.heap.size+2,0,none⟩=some e/\a.cell? ⟨w.heap.size+2,1,none⟩=some g/\a.cell? ⟨w.heap.size+2,2,none⟩=some i/\a.cell? ⟨w.heap.size+2,3,none⟩=some j) /\
  (a.cell? ⟨w.heap.size+3,0,none⟩=some b/\a.cell? ⟨w.heap.size+3,1,none⟩=some c1/\a.cell? ⟨w.heap.size+3,2,none⟩=some c2/\a.cell? ⟨w.heap.size+3,3,none⟩=some c3/\a.cell? ⟨w.heap.size+3,4,none⟩=some c4/\a.cell? ⟨w.heap.size+3,5,none⟩=some c5/\a.cell? ⟨w.heap.size+3,6,none⟩=some c/\a.cell? ⟨w.heap.size+3,7,none⟩=some d) /\
  (∀o,a.frozen? ⟨w.heap.size+3,o,none⟩=false) /\
  (a.cell? ⟨w.heap.size+4,0,none⟩=some (.bool sh)/\a.cell? ⟨w.heap.size+4,1,none⟩=some (.bool pt)/\a.frozen? ⟨w.heap.size+4,0,none⟩=false):=
 ⟨⟨(zg h.n 0).1,(zg h.n 1).1,(zg h.n 2).1,(zg h.n 3).1⟩,⟨(zg h.s 0).1,(zg h.s 1).1,(zg h.s 2).1,(zg h.s 3).1,(zg h.s 4).1,(zg h.s 5).1,(zg h.s 6).1,(zg h.s 7).1⟩,
  λo=>(zg h.s o).2,h.f.cell.1,h.f.cell.2.1,h.f.cell.2.2.1⟩
theorem xJ.res{w a:World}{b c:Array Value}{sh pt:Bool}(h:xJ w b c sh pt a) :
  (a.cell? ⟨w.heap.size,0,none⟩=some (.string ⟨#[]⟩)/\a.cell? ⟨w.heap.size,1,none⟩=some (.bool false)/\a.cell? ⟨w.heap.size,2,none⟩=some (.slice none 0 0)/\a.cell? ⟨w.heap.size,3,none⟩=some (.bool false)/\a.cell? ⟨w.heap.size,4,none⟩=some (.slice none 0 0)/\a.cell? ⟨w.heap.size,5,none⟩=some (.bool false)/\a.cell? ⟨w.heap.size,6,none⟩=some (.slice none 0 0)/\a.cell? ⟨w.heap.size,7,none⟩=some (.slice none 0 0)) /\
  (a.cell? ⟨w.heap.size+1,0,none⟩=some (.bool false)/\a.cell? ⟨w.heap.size+1,1,none⟩=some (.bool false))/\(∀o,a.frozen? ⟨w.heap.size,o,none⟩=false)/\(∀o,a.frozen? ⟨w.heap.size+1,o,none⟩=false):=
 ⟨⟨(zg h.r 0).1,(zg h.r 1).1,(zg h.r 2).1,(zg h.r 3).1,(zg h.r 4).1,(zg h.r 5).1,(zg h.r 6).1,(zg h.r 7).1⟩,⟨(zg h.rf 0).1,(zg h.rf 1).1⟩,λo=>(zg h.r o).2,λo=>(zg h.rf o).2⟩
def vN(w:World)(b:Nat)(a c d e f g h i:Value):World:=(((((((w.setCell ⟨b,0,none⟩ a).setCell ⟨b,1,none⟩ c).setCell ⟨b,2,none⟩ d).setCell ⟨b,3,none⟩ e).setCell ⟨b,4,none⟩ f).setCell ⟨b,5,none⟩ g).setCell ⟨b,6,none⟩ h).setCell ⟨b,7,none⟩ i
def set2(w:World)(b:Nat)(a c:Value):World:=(w.setCell ⟨b,0,none⟩ a).setCell ⟨b,1,none⟩ c
theorem Xz{w:World}{b:Nat}{t:TypeId}{cs:Array Value}(h:w.heap[b]?=some (.cells cs t (0,0)))(o:Nat)(u:Value):(w.setCell ⟨b,o,none⟩ u).heap[b]?=some (.cells (cs.set! o u) t (0,0)):=yz w b o _ _ _ h
theorem rY{w:World}{b:Nat}{t:TypeId}{m c1 c2 c3 c4 c5 f d:Value}(h:w.heap[b]?=some (.cells #[m,c1,c2,c3,c4,c5,f,d] t (0,0)))(a c e g i j k l:Value):(vN w b a c e g i j k l).heap[b]?=some (.cells #[a,c,e,g,i,j,k,l] t (0,0)):=by
 have x:(#[m,c1,c2,c3,c4,c5,f,d]:Array Value).set! 0 a=#[a,c1,c2,c3,c4,c5,f,d]:=rfl;have n:=Xz h 0 a;rw[x] at n;have y:(#[a,c1,c2,c3,c4,c5,f,d]:Array Value).set! 1 c=#[a,c,c2,c3,c4,c5,f,d]:=rfl;have o:=Xz n 1 c;rw[y] at o;have z:(#[a,c,c2,c3,c4,c5,f,d]:Array Value).set! 2 e=#[a,c,e,c3,c4,c5,f,d]:=rfl;have p:=Xz o 2 e;rw[z] at p;have A:(#[a,c,e,c3,c4,c5,f,d]:Array Value).set! 3 g=#[a,c,e,g,c4,c5,f,d]:=rfl;have q:=Xz p 3 g;rw[A] at q;have B:(#[a,c,e,g,c4,c5,f,d]:Array Value).set! 4 i=#[a,c,e,g,i,c5,f,d]:=rfl;have r:=Xz q 4 i;rw[B] at r;have C:(#[a,c,e,g,i,c5,f,d]:Array Value).set! 5 j=#[a,c,e,g,i,j,f,d]:=rfl;have s:=Xz r 5 j;rw[C] at s;have D:(#[a,c,e,g,i,j,f,d]:Array Value).set! 6 k=#[a,c,e,g,i,j,k,d]:=rfl;have u:=Xz s 6 k;rw[D] at u;have E:(#[a,c,e,g,i,j,k,d]:Array Value).set! 7 l=#[a,c,e,g,i,j,k,l]:=rfl;have v:=Xz u 7 l;rw[E] at v;exact v
theorem rV{w:World}{b:Nat}{t:TypeId}{d c1:Value}(h:w.heap[b]?=some (.cells #[d,c1] t (0,0)))(a c:Value):(set2 w b a c).heap[b]?=some (.cells #[a,c] t (0,0)):=
 yz _ b 1 _ _ _ (yz _ b 0 _ _ _ h)
theorem UO(w:World)(b:Nat)(a c d e f g h j:Value)(i:Nat)(hi:i≠b):(vN w b a c d e f g h j).heap[i]?=w.heap[i]?:=by
 unfold vN
 iterate 8 rw[qc _ _ _ _ (by simp only;exact hi)]
theorem UN(w:World)(b:Nat)(a c:Value)(i:Nat)(hi:i≠b):(set2 w b a c).heap[i]?=w.heap[i]?:=by
 unfold set2
 iterate 2 rw[qc _ _ _ _ (by simp only;exact hi)]
theorem rX{a w:World}{B b:Nat}(h:Below B a w)(hb:B<=b)(c d e f g i j k:Value):Below B a (vN w b c d e f g i j k):=
 (((((((h.setCell hb _).setCell hb _).setCell hb _).setCell hb _).setCell hb _).setCell hb _).setCell hb _).setCell hb _
theorem rU{a w:World}{B b:Nat}(h:Below B a w)(hb:B<=b)(c d:Value):Below B a (set2 w b c d):=(h.setCell hb _).setCell hb _
theorem xJ.fin{w a:World}{o p:Array Value}{sh pt:Bool}(h:xJ w o p sh pt a)(b c d e f j k l m n:Value) :
  Below w.heap.size w (set2 (vN a w.heap.size b c d e f j k l) (w.heap.size+1) m n)/\(∀i,w.heap.size+2<=i->(set2 (vN a w.heap.size b c d e f j k l) (w.heap.size+1) m n).heap[i]?=a.heap[i]?) /\
  (set2 (vN a w.heap.size b c d e f j k l) (w.heap.size+1) m n).heap[w.heap.size]?=some (.cells #[b,c,d,e,f,j,k,l] 249 (0,0)) /\
  (set2 (vN a w.heap.size b c d e f j k l) (w.heap.size+1) m n).heap[w.heap.size+1]?=some (.cells #[m,n] 251 (0,0)):=by
 refine⟨rU (rX h.g (ze _) _ _ _ _ _ _ _ _) (by omega) _ _,λi hi=>?_,?_,rV ((UO _ _ _ _ _ _ _ _ _ _ _ (by omega)).trans h.rf) _ _⟩
 ·rw[UN _ _ _ _ _ (by omega),UO _ _ _ _ _ _ _ _ _ _ _ (by omega)]
 ·rw[UN _ _ _ _ _ (by omega)];exact rY h.r _ _ _ _ _ _ _ _
theorem xJ.fin2{w a:World}{o p:Array Value}{sh pt:Bool}(h:xJ w o p sh pt a)(b c d e f j k l m n:Value) :
  Below w.heap.size w (vN (set2 a (w.heap.size+1) m n) w.heap.size b c d e f j k l)/\(∀i,w.heap.size+2<=i->(vN (set2 a (w.heap.size+1) m n) w.heap.size b c d e f j k l).heap[i]?=a.heap[i]?) /\
  (vN (set2 a (w.heap.size+1) m n) w.heap.size b c d e f j k l).heap[w.heap.size]?=some (.cells #[b,c,d,e,f,j,k,l] 249 (0,0)) /\
  (vN (set2 a (w.heap.size+1) m n) w.heap.size b c d e f j k l).heap[w.heap.size+1]?=some (.cells #[m,n] 251 (0,0)):=by
 refine⟨rX (rU h.g (by omega) _ _) (ze _) _ _ _ _ _ _ _ _,λi hi=>?_,rY ((UN _ _ _ _ _ (by omega)).trans h.r) _ _ _ _ _ _ _ _,?_⟩
 ·rw[UO _ _ _ _ _ _ _ _ _ _ _ (by omega),UN _ _ _ _ _ (by omega)]
 ·rw[UO _ _ _ _ _ _ _ _ _ _ _ (by omega)];exact rV h.rf _ _
theorem nU{W:World}{g base:Nat}{a b c d e:BY}(h:W.heap[g]?=some (.cells #[.string a,.string b,.string c,.string d,.string e] 9 (0,0)))(hb:base<=g) :
  W.ownsRow base 9 1 (.slice (some ⟨g,0,none⟩) 5 5) [a,b,c,d,e].length (Ref.strCells [a,b,c,d,e]):=
 ⟨rfl,.inr ⟨g,5,_,rfl,hb,h,by simp,by decide,rfl,rfl⟩⟩
theorem PI(i:Nat)(w0:World)(base b gg cap:Nat)(ns:List Ref.Node)(n:Ref.Node)(w:World)(s:vv w0 base b gg cap ns w)(hi:ns[i]?=some n)
  (o:Ref.yB n [Rd.zH,Rd.zS,Rd.bDo,Rd.bOn,Rd.bIf]=false\/Ref.zq n Rd.zH<0\/Ref.kindOf ns (Ref.zq n Rd.zH)≠3) :
  Calls prog 127 #[.pointer (some ⟨b,0,none⟩),.int .i64 (i:Int)] w (JA w Rd.ji):=by
 obtain⟨⟨v1,v2⟩,⟨na,nc,b6⟩,⟨ka,kc,b7⟩,p,R,S⟩:=JV s hi;simp only at b6 b7;subst b6;subst b7;have f3:i<ns.length:=(zR.1 hi).1;have G:=s.at.slice;have hlen:=s.rd.len;have eB:=Ref.jC s.rd.ev hi Rd.zH;obtain⟨a1,a2,a3,a4⟩:=p w s.bel;simp only at a3 a4;obtain⟨nl,E⟩:=Nm ns.length;have L:=hid E;rw[E] at G f3 hlen eB;unfold ZR at R S;simp only at R S;obtain⟨kind,f⟩:∃k,n.kind=k:=⟨_,rfl⟩;obtain⟨text,j⟩:∃k,n.text=k:=⟨_,rfl⟩;obtain⟨nn,F⟩:∃k,n.names.length=k:=⟨_,rfl⟩;obtain⟨nk,D⟩:∃k,n.kids.length=k:=⟨_,rfl⟩;rw[f] at a1;rw[j] at a2;rw[F] at a3;rw[D] at a4;simp only[f,j,F,D] at R S;have ST:=xJ.start w #[.int .i64 kind,.string text,.slice na nn nc,.slice ka nk kc];have l:∀wx sc sh pt,xJ w #[.int .i64 kind,.string text,.slice na nn nc,.slice ka nk kc] sc sh pt wx->Below w0.heap.size w0 wx:=λwx _ _ _ h=>s.bel.trans (h.g.mono s.bel.size);obtain⟨z,t⟩:∃x,Ref.zq n Rd.zH=x:=⟨_,rfl⟩;obtain⟨ON,C⟩:∃x,Ref.yB n [Rd.zH,Rd.zS,Rd.bDo,Rd.bOn,Rd.bIf]=x:=⟨_,rfl⟩;have r:=λW h=>R W Rd.zH h;simp only[t] at r;unfold Rd.zH at r;rw[t] at eB;rw[t,C] at o;have q:=ST.below (nbl _ (.cells #[.string Rd.zH,.string Rd.zS,.string Rd.bDo,.string Rd.bOn,.string Rd.bIf] 9));have m:=S _ [Rd.zH,Rd.zS,Rd.bDo,Rd.bOn,Rd.bIf] _ 0 (l _ _ _ _ q) (nU (zQ _ _) (zG _)) (by simp);rw[C] at m;simp only[jT] at m;unfold Rd.zH Rd.zS Rd.bDo Rd.bOn Rd.bIf at m q;have HE:=hid s;have y:=hid l;have i0:(0:Int)<=(i:Int):=zZ _;have i1:(i:Int)<(nl:Int):=by omega
 clear s R p t C f j F D l S E ST;have s1:=λO P:Obj=>zi ((nbl w O).alloc (by simp) P) G;have b1:=λO P:Obj=>zi ((nbl w O).alloc (by simp) P) a1;have b2:=λO P:Obj=>zi ((nbl w O).alloc (by simp) P) a2;have b3:=λO P:Obj=>zi ((nbl w O).alloc (by simp) P) a3;have b4:=λO P:Obj=>zi ((nbl w O).alloc (by simp) P) a4;go_enter func127,ntmps127
 go_upto_region 6 with (first
  | (go_at_call 126;refine (r w1 (y.out w1 _ _ _ C1)).mono ?_;rintro e w2 ⟨rfl,b0⟩;have C2:=C1.below b0)
  | (go_at_call 168;refine m.mono ?_;rintro e w1 ⟨rfl,a9⟩;have C1:=q.below (by simp only[jT];exact a9);obtain⟨⟨f6,f7,f8,f9⟩,_,_,_⟩:=C1.cells))
 have N:=y.out w2 _ _ _ C2
 have j9:w2.cell? ⟨b,2,none⟩=some (.slice (some ⟨gg,0,none⟩) nl cap):=by
  have:=(HE.out.rd.below N).slice
  rwa [L.out] at this
 clear f6 f7 f8 f9 s1 b1 b2 b3 b4 a1 a2 a3 a4 G i0 i1 a9 b0 C1 q r m;obtain⟨_,_,_,⟨h0,h1,h2⟩⟩:=C2.cells;have H:=C2.shape true;obtain⟨_,⟨y0,y1,y2,y3,y4,y5,y6,y7⟩,_,⟨g0,g1,_⟩⟩:=H.cells;obtain⟨⟨t0,t1,t2,t3,t4,t5,t6,t7⟩,⟨u0,u1⟩,u,z1⟩:=H.res;have k0:=u 0;have k2:=u 1;have k5:=u 2;have k6:=u 3;have k7:=u 4;have k8:=u 5;have k9:=u 6;have m0:=u 7;have m2:=z1 0;have m3:=z1 1;have FA:=H.fin (.string ⟨#[]⟩) (.bool false) (.slice none 0 0) (.bool false) (.slice none 0 0) (.bool false) (.slice none 0 0) (.slice none 0 0) (.bool true) (.bool false);have FB:=H.fin2 (.string ⟨#[]⟩) (.bool false) (.slice none 0 0) (.bool false) (.slice none 0 0) (.bool false) (.slice none 0 0) (.slice none 0 0) (.bool true) (.bool false);have I:∀W,Below w.heap.size w W->JA w Rd.ji (.returned (.tuple #[.agg #[.string ⟨#[]⟩,.bool false,.slice none 0 0,.bool false,.slice none 0 0,.bool false,.slice none 0 0,.slice none 0 0],.agg #[.bool true,.bool false]])) W:=λW hb=>⟨_,_,_,_,rfl,hb,qD _ _ _ _,qD _ _ _ _,qD _ _ _ _,xS.nil _ _⟩;have J:=hid FA;have K:=hid FB;have a:=hid I;clear u z1 FA FB I H C2
 have d:ON=false\/(ON=true/\z<0)\/(ON=true/\0<=z/\Ref.kindOf ns z≠3):=by
  cases ON
  ·exact .inl rfl
  ·by_cases e:z<0
   ·exact .inr (.inl ⟨rfl,e⟩)
   ·refine .inr (.inr ⟨rfl,by omega,?_⟩)
    rcases o with h|h|h
    ·cases h
    ·omega
    ·exact h
 clear o
 have last:Hid (∀W,W=set2 (vN (w2.setCell ⟨w.heap.size+4,0,none⟩ (.bool true)) w.heap.size (.string ⟨#[]⟩) (.bool false) (.slice none 0 0) (.bool false) (.slice none 0 0) (.bool false) (.slice none 0 0) (.slice none 0 0)) (w.heap.size+1) (.bool true) (.bool false)\/W=vN (set2 (w2.setCell ⟨w.heap.size+4,0,none⟩ (.bool true)) (w.heap.size+1) (.bool true) (.bool false)) w.heap.size (.string ⟨#[]⟩) (.bool false) (.slice none 0 0) (.bool false) (.slice none 0 0) (.bool false) (.slice none 0 0) (.slice none 0 0) ->
   (W.cell? ⟨w.heap.size,0,none⟩=some (.string ⟨#[]⟩)/\W.cell? ⟨w.heap.size,1,none⟩=some (.bool false)/\W.cell? ⟨w.heap.size,2,none⟩=some (.slice none 0 0)/\W.cell? ⟨w.heap.size,3,none⟩=some (.bool false)/\W.cell? ⟨w.heap.size,4,none⟩=some (.slice none 0 0)/\W.cell? ⟨w.heap.size,5,none⟩=some (.bool false)/\W.cell? ⟨w.heap.size,6,none⟩=some (.slice none 0 0)/\W.cell? ⟨w.heap.size,7,none⟩=some (.slice none 0 0))/\(W.cell? ⟨w.heap.size+1,0,none⟩=some (.bool true)/\W.cell? ⟨w.heap.size+1,1,none⟩=some (.bool false))/\Below w.heap.size w W):=by
  refine hid (λW hW=>?_)
  rcases hW with rfl|rfl
  ·obtain⟨k1,_,c,k4⟩:=J.out;exact⟨⟨(zg c 0).1,(zg c 1).1,(zg c 2).1,(zg c 3).1,(zg c 4).1,(zg c 5).1,(zg c 6).1,(zg c 7).1⟩,⟨(zg k4 0).1,(zg k4 1).1⟩,k1⟩
  ·obtain⟨k1,_,c,k4⟩:=K.out;exact⟨⟨(zg c 0).1,(zg c 1).1,(zg c 2).1,(zg c 3).1,(zg c 4).1,(zg c 5).1,(zg c 6).1,(zg c 7).1⟩,⟨(zg k4 0).1,(zg k4 1).1⟩,k1⟩
 have LA:=last.out _ (.inl rfl);have LB:=last.out _ (.inr rfl);unfold set2 vN at LA LB;have A:=hid LA;have B:=hid LB;clear last LA LB J K
 rcases d with rfl|⟨rfl,o1⟩|⟨rfl,o1,o2⟩
 ·go_wp2_with fail
  go_region
  all_goals
   obtain⟨⟨T,U,V,X,Y,Z,e6,e7⟩,⟨e8,e9⟩,M⟩:=A.out;obtain⟨⟨l0,l1,l2,l3,l4,l5,l6,l7⟩,⟨l8,l9⟩,Q⟩:=B.out;go_wp2_with fail
   first
    | exact zN (v := .tuple #[.agg #[.string ⟨#[]⟩,.bool false,.slice none 0 0,.bool false,.slice none 0 0,.bool false,.slice none 0 0,.slice none 0 0],.agg #[.bool true,.bool false]]) (by simp[results,results127,go_sem,T,U,V,X,Y,Z,e6,e7,e8,e9]) rfl (a.out _ M.drew)
    | exact zN (v := .tuple #[.agg #[.string ⟨#[]⟩,.bool false,.slice none 0 0,.bool false,.slice none 0 0,.bool false,.slice none 0 0,.slice none 0 0],.agg #[.bool true,.bool false]]) (by simp[results,results127,go_sem,l0,l1,l2,l3,l4,l5,l6,l7,l8,l9]) rfl (a.out _ Q.drew)
 ·have d1:decide (z<0)=true:=zC o1;go_wp2_with fail
  go_region
  all_goals
   obtain⟨⟨T,U,V,X,Y,Z,e6,e7⟩,⟨e8,e9⟩,M⟩:=A.out;obtain⟨⟨l0,l1,l2,l3,l4,l5,l6,l7⟩,⟨l8,l9⟩,Q⟩:=B.out;go_wp2_with fail
   first
    | exact zN (v := .tuple #[.agg #[.string ⟨#[]⟩,.bool false,.slice none 0 0,.bool false,.slice none 0 0,.bool false,.slice none 0 0,.slice none 0 0],.agg #[.bool true,.bool false]]) (by simp[results,results127,go_sem,T,U,V,X,Y,Z,e6,e7,e8,e9]) rfl (a.out _ M.drew)
    | exact zN (v := .tuple #[.agg #[.string ⟨#[]⟩,.bool false,.slice none 0 0,.bool false,.slice none 0 0,.bool false,.slice none 0 0,.slice none 0 0],.agg #[.bool true,.bool false]]) (by simp[results,results127,go_sem,l0,l1,l2,l3,l4,l5,l6,l7,l8,l9]) rfl (a.out _ Q.drew)
 ·have d1:decide (z<0)=false:=zO (by omega);obtain⟨je,rfl,b5⟩:=Yf HE.out z o1 (by rw[L.out];exact eB.2);have j0:(0:Int)<=(je:Int):=zZ _;have j1:(je:Int)<(nl:Int):=eB.2;obtain⟨m1,_⟩:=b5 w2 N;obtain⟨KE,a8⟩:∃x,Ref.kindOf ns (je:Int)=x:=⟨_,rfl⟩;rw[a8] at o2 m1;have d2:(KE != 3)=true:=by simp[o2]
  clear b5 a8 o2 o1;go_wp2_with fail
  go_region
  all_goals
   obtain⟨⟨T,U,V,X,Y,Z,e6,e7⟩,⟨e8,e9⟩,M⟩:=A.out;obtain⟨⟨l0,l1,l2,l3,l4,l5,l6,l7⟩,⟨l8,l9⟩,Q⟩:=B.out;go_wp2_with fail
   first
    | exact zN (v := .tuple #[.agg #[.string ⟨#[]⟩,.bool false,.slice none 0 0,.bool false,.slice none 0 0,.bool false,.slice none 0 0,.slice none 0 0],.agg #[.bool true,.bool false]]) (by simp[results,results127,go_sem,T,U,V,X,Y,Z,e6,e7,e8,e9]) rfl (a.out _ M.drew)
    | exact zN (v := .tuple #[.agg #[.string ⟨#[]⟩,.bool false,.slice none 0 0,.bool false,.slice none 0 0,.bool false,.slice none 0 0,.slice none 0 0],.agg #[.bool true,.bool false]]) (by simp[results,results127,go_sem,l0,l1,l2,l3,l4,l5,l6,l7,l8,l9]) rfl (a.out _ Q.drew)
end Go.Proofs.YtagnlbgbnfnapaaGreatDoor
