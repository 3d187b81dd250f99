/- P -/
import Derived.Test.YtdakgnaojakldaaGreatDoorP35
open Go.Proofs.Tryz
set_option maxRecDepth 100000
set_option maxHeartbeats 2000000
namespace Go.Proofs.YtdakgnaojakldaaGreatDoor
open Go.RowKit
def bY(w:World)(base:Nat)(xs:List Value)(j:Nat)(c:Ref.qD):Prop:=
 ∃lv,xs[j*4]?=some (.string c.op)/\xs[j*4+1]?=some (.string c.key)/\xs[j*4+2]?=some lv/\xs[j*4+3]?=some (.bool c.no)/\w.ownsRow base 9 1 lv c.vals.length (Ref.strCells c.vals)
def yh(w:World)(base:Nat)(lv:Value)(cs:List Ref.qD):Prop:=
 ∃xs,w.ownsRow base 244 4 lv cs.length xs/\∀j,(h:j<cs.length)->bY w base xs j cs[j]
theorem yh.nil(w:World)(base:Nat):yh w base (.slice none 0 0) []:=⟨[],ql _ _ _ _,λj a=>by simp at a⟩
theorem yh.kept{w w':World}{base:Nat}{lv:Value}{cs:List Ref.qD}(h:yh w base lv cs)(f:∀i,base<=i->i<w.heap.size->w'.heap[i]?=w.heap[i]?):yh w' base lv cs:=by
 obtain⟨xs,g,k⟩:=h;refine⟨xs,Q0 g f,λj m=>?_⟩;obtain⟨l,a,b,c,d,e⟩:=k j m;exact⟨l,a,b,c,d,Q0 e f⟩
theorem yh.mono{w:World}{base f:Nat}{lv:Value}{cs:List Ref.qD}(h:yh w base lv cs)(hb:f<=base):yh w f lv cs:=by
 obtain⟨xs,g,i⟩:=h;refine⟨xs,xC g hb,λj k=>?_⟩;obtain⟨l,a,b,c,d,e⟩:=i j k;exact⟨l,a,b,c,d,xC e hb⟩
theorem Yk{W i:World}{base a:Nat}{e c:TypeId}{size b:Nat}{lv v:Value}{n m:Nat}{xs j:List Value}(own:W.ownsRow base e size lv n xs)(h:W.ownsRow a c b v m j)(f:e≠c)(k:W.grownBy i lv.ownBlock):i.ownsRow a c b v m j:=by
 refine h.kept k ?_
 rcases h.2 with ⟨rfl,_⟩|⟨g,cap,cur,rfl,_,hb,_⟩
 ·exact .inl rfl
 ·refine .inr λd=>?_
  rcases own.2 with ⟨rfl,_⟩|⟨g2,cap2,cur2,rfl,_,hb2,_⟩
  ·simp[Value.ownBlock] at d
  ·simp only[Value.ownBlock,Option.some.injEq] at d;subst d;rw[hb2] at hb;injection hb with hb
   injection hb with _ hb
   exact f hb
theorem yh.snoc{W q:World}{base:Nat}{lv r p:Value}{cs:List Ref.qD}{xs:List Value}(own:W.ownsRow base 244 4 lv cs.length xs)(s:∀j,(h:j<cs.length)->bY W base xs j cs[j])(c:Ref.qD)
  (o:W.ownsRow base 9 1 p c.vals.length (Ref.strCells c.vals))(g:W.grownBy q lv.ownBlock)(i:q.ownsRow base 244 4 r (cs.length+1) (xs++[.string c.op,.string c.key,p,.bool c.no])):yh q base r (cs++[c]):=by
 have m:xs.length=cs.length*4:=own.1;have k:(244:TypeId)≠9:=by decide
 refine⟨_,by rw[qB];exact i,λj t=>?_⟩;rw[qB,uP] at t
 by_cases hlt:j<cs.length
 ·rw[bO hlt];obtain⟨l,a,b,d,e,f⟩:=s j hlt;refine⟨l,?_,?_,?_,?_,Yk own f k g⟩
  ·rw[yc (by omega)];exact a
  ·rw[yc (by omega)];exact b
  ·rw[yc (by omega)];exact d
  ·rw[yc (by omega)];exact e
 ·have n:j=cs.length:=by omega
  subst n;rw[lV (zf _)];simp only[Nat.sub_self,lW];refine⟨p,?_,?_,?_,?_,Yk own o k g⟩
  ·rw[yA (by omega),m,Nat.sub_self];rfl
  ·rw[yA (by omega),m,show cs.length*4+1-cs.length*4=1 by omega];rfl
  ·rw[yA (by omega),m,show cs.length*4+2-cs.length*4=2 by omega];rfl
  ·rw[yA (by omega),m,show cs.length*4+3-cs.length*4=3 by omega];rfl
def lM(w:World)(a:Nat)(sh pt:Bool)(R:Ref.U5)(e:Ending)(w':World):Prop:=
 ∃lv,e = .returned lv/\w.grownBy w' (some a)/\qf w' a (sh||R.sh) (pt||R.pt)/\yh w' w.heap.size lv R.cs
structure ZL (w:World) (fb:Nat) (nc:Array Value) (sh pt:Bool) (wx:World):Prop where
 g:w.grownBy wx (some fb)
 f:qf wx fb sh pt
 n:wx.heap[w.heap.size]?=some (.cells nc 152 (0,0))
theorem ZL.start{w:World}{b:Nat}{sh pt:Bool}(c:qf w b sh pt)(a:Array Value):ZL w b a sh pt (w.alloc (.cells a 152)):=by
 have hb:Below w.heap.size w (w.alloc (.cells a 152)):=nbl _ _;exact⟨But.of _ hb,c.below hb,zB w _⟩
theorem ZL.size{w a:World}{b:Nat}{c:Array Value}{sh pt:Bool}(h:ZL w b c sh pt a):w.heap.size+1<=a.heap.size:=zt h.n
theorem ZL.grown{w i d:World}{a:Nat}{f:Array Value}{sh pt c b:Bool}(k:a<w.heap.size)(h:ZL w a f sh pt i)(e:i.grownBy d (some a))(j:qf d a c b):ZL w a f c b d:=by
 have l:=h.size;exact⟨But.trans h.g e,j,(e.block _ (by omega) (by simp;omega)).trans h.n⟩
theorem ZL.app{w c d:World}{a:Nat}{b:Array Value}{sh pt:Bool}(e:a<w.heap.size)(h:ZL w a b sh pt c)(hb:Below (w.heap.size+1) c d):ZL w a b sh pt d:=by
 refine⟨⟨hb.os.trans h.g.os,hb.tape.trans h.g.tape,hb.output.trans h.g.output,xu h.g.size hb.size,λi hi j=>(hb.block i (by omega)).trans (h.g.block i hi j)⟩,(hb.block a (by omega)).trans h.f,(hb.block _ (by omega)).trans h.n⟩
theorem Hm(a:List Ref.Node)(ks:List Nat)(j:Nat)(b:j<ks.length)(x:Ref.Node)(c:a[ks[j]]?=some x):Ref.yD a (ks.take (j+1))=Ref.yD a (ks.take j)++[Ref.ZT a x]:=by
 rw[Yw,zm b];unfold Ref.yD;rw[Qc];simp[c]
theorem GN(w:World)(O:Obj)(t:TypeId)(a b c d:Value):∀(j:Nat) (u:Value),[a,b,c,d][j]?=some u->((w.alloc O).alloc (.cells #[a,b,c,d] t)).cell? ((⟨w.heap.size+1,0,none⟩:Addr).add j)=some u:=by
 have h:=df (base:=w.heap.size) (e:=t) (size:=4) (w.alloc O) #[a,b,c,d] 1 (by simp) (by decide) rfl;rw[vW] at h;exact λj u f=>h.cells (g:=w.heap.size+1) rfl j u f
theorem Tryz.infoRCond:(prog.info? 244).map (λi=>(i.zero,i.size,i.bytes))=some (some (.agg #[.string ⟨#[]⟩,.string ⟨#[]⟩,.slice none 0 0,.bool false]),4,64):=by kernel_rfl
theorem Ht{w wr c:World}{g:Nat}{lv:Value}{done:List Ref.qD}{op key:BY}{vals:List BY}{no:Bool}{a:Option Addr}{b:Nat}(h:yh wr (w.heap.size+1) lv done)(e:w.heap.size+1<=wr.heap.size)(n:g<w.heap.size)(k:wr.grownBy c (some g))
  (o:c.ownsRow wr.heap.size 9 1 (.slice a vals.length b) vals.length (Ref.strCells vals)) :
  ∃xs,((c.alloc (.cells #[.string op,.string key,.slice a vals.length b,.bool no] 244)).alloc (.cells #[.string op,.string key,.slice a vals.length b,.bool no] 244)).ownsRow (w.heap.size+1) 244 4 lv done.length xs /\
   (∀j,(h:j<done.length)->bY ((c.alloc (.cells #[.string op,.string key,.slice a vals.length b,.bool no] 244)).alloc (.cells #[.string op,.string key,.slice a vals.length b,.bool no] 244)) (w.heap.size+1) xs j done[j]) /\
   ((c.alloc (.cells #[.string op,.string key,.slice a vals.length b,.bool no] 244)).alloc (.cells #[.string op,.string key,.slice a vals.length b,.bool no] 244)).ownsRow (w.heap.size+1) 9 1 (.slice a vals.length b) vals.length (Ref.strCells vals):=by
 have f:Below c.heap.size c ((c.alloc (.cells #[.string op,.string key,.slice a vals.length b,.bool no] 244)).alloc (.cells #[.string op,.string key,.slice a vals.length b,.bool no] 244)):=(nbl _ _).alloc (by simp) _;obtain⟨xs,l,m⟩:=(h.kept (λi hi d=>k.block i d (by simp;omega))).kept (λi hi d=>f.block i d);exact⟨xs,l,m,ownsRow_below (xC o e) f⟩
theorem Hg(k:Int)(w0:World)(base b gg cap:Nat)(a:List Ref.Node)(o:Nat)(sh pt:Bool)(w:World)(F:jT w0 base b gg cap a w)(hk:k<a.length)(d8:-1<=k)(b3:w0.heap.size<=o)(hf:qf w o sh pt) :
  Calls prog 112 #[.pointer (some ⟨b,0,none⟩),.int .i64 k,.pointer (some ⟨o,0,none⟩)] w (lM w o sh pt (Ref.Xm a k)):=by
 have J:o<w.heap.size:=zt hf;obtain⟨R,r⟩:=Nm (Ref.Xm a k);rw[r];unfold Ref.Xm at r
 by_cases hneg:k<0
 ·rw[zb hneg] at r;subst r;go_enter func112,ntmps112
  go_wp2
  go_ret;exact⟨_,rfl,But.of _ (ze _ _),by simpa using hf,yh.nil _ _⟩
 rw[za hneg] at r;obtain⟨i,rfl⟩:∃i:Nat,k=i:=⟨k.toNat,by omega⟩;have K:i<a.length:=by omega
 simp only[jU,zm K] at r;have hn:=zm K;have h:=F.at;obtain⟨v,W,X,Y,S,Z,a6⟩:=F.rd.node i _ hn
 replace W:=zh F.bel W
 replace X:=zh F.bel X
 replace Y:=zh F.bel Y
 replace S:=zh F.bel S
 have P:=h.small i _ hn;obtain⟨n,b7⟩:=Nm (a[i]);rw[b7] at r hn W X Z a6 P;obtain⟨v1,v2⟩:=v;simp only at Y S Z a6;have b8:=h.slice;obtain⟨nl,M⟩:=Nm a.length;have hlen:=h.len;rw[M] at b8 K hk hlen;obtain⟨kind,text,ss,ks⟩:=n;simp only at r W X Y S Z a6 P;obtain⟨ka,kc,Q,cK⟩:=vw a6;obtain⟨na,nc,rfl,_⟩:=vw Z;obtain⟨p,L⟩:=Nm ks.length;rw[L] at Q cK P r;rw[Q] at S;have CK:=hid cK;have HE:=hid F;have HR:=hid r;have G:=hid L;have HN:=hid hn;have i4:=hid M;have HF:=hid hf;have i0:(0:Int)<=(i:Int):=qz _;have i1:(i:Int)<(nl:Int):=by omega
 obtain⟨f0,f1,f2,f3⟩:=hf.cell;have bA:∀O:Obj,Below w.heap.size w (w.alloc O):=λO=>nbl _ O;have d4:=λO:Obj=>zh (bA O) f0;have d5:∀O:Obj,(w.alloc O).frozen? ⟨o,0,none⟩=false:=λO=>(HF.out.below (bA O)).cell.2.2.1
 have q:Hid (∀O:Obj,w.grownBy ((w.setCell ⟨o,0,none⟩ (.bool true)).alloc O) (some o)/\qf ((w.setCell ⟨o,0,none⟩ (.bool true)).alloc O) o (sh||true) (pt||false)):=by
  refine hid (λO=>⟨But.trans (But.set _ _ _ _) (But.of _ (nbl _ O)),?_⟩)
  have:=(HF.out.shape true).below (nbl _ O)
  simpa using this
 clear h F r b7 hn M L Z a6 cK d8 hk Q hf f0 f1 f2 f3 bA;go_enter func112,ntmps112;have N:=HR.out
 by_cases h2:kind≠2
 ·rw[zb (.inl h2)] at N;subst N;have i9:(kind != 2)=true:=by simp[h2]
  clear HR
  go_wp2
  go_ret;exact⟨_,rfl,(q.out _).1,(q.out _).2,yh.nil _ _⟩
 rw[Ne,U6] at h2;subst h2
 by_cases hk5:5<p
 ·rw[zb (.inr hk5)] at N;subst N;have d9:decide (5<(p:Int))=true:=by simp;omega
  clear HR
  go_wp2
  go_ret;exact⟨_,rfl,(q.out _).1,(q.out _).2,yh.nil _ _⟩
 rw[za (by omega)] at N;have d0:=hid N;have d9:decide (5<(p:Int))=false:=by simp;omega
 clear N HR q;obtain⟨i0,hi,e3,e4,e5⟩:=xA Tryz.infoRCond;go_wp2_with fail
 go_loopw [8,9] (λlv jv wr=>∃(j:Nat),j<=p/\jv = .int .i64 j/\yh wr (w.heap.size+1) lv (Ref.yD a (ks.take j)) /\
   ZL w o #[.int .i64 2,.string text,.slice na ss.length nc,.slice ka p kc] (sh||(Ref.yD a (ks.take j)).any Ref.qD.sh) (pt||(Ref.yD a (ks.take j)).any Ref.qD.pt) wr) (λ_ jv _=>p-(intOf jv).toNat)
 case atStart=>
  refine⟨0,by omega,rfl,yh.nil _ _,?_⟩
  have:=ZL.start HF.out #[.int .i64 2,.string text,.slice na ss.length nc,.slice ka p kc]
  simpa [Ref.yD] using this
 case round=>
  obtain⟨j,hj,rfl,b0,E⟩:=hrel;have B:=hid b0;have l:=hid E;have c3:wr.cell? ⟨w.heap.size,3,none⟩=some (.slice ka p kc):=(zg E.n 3).1;have e0:=E.size;have b1:(Ref.yD a (ks.take j)).length=j:=by unfold Ref.yD;rw[qH,vT,G.out];omega
  clear b0 E W X Y S b8 d4 d5
  by_cases hlt:j<p
  ·obtain⟨g,rfl,q1⟩:=CK.out j hlt;have l1:j<ks.length:=by rw[G.out];exact hlt
   rw[yt,Ref.UC ks j l1] at q1;have t:=HE.out.at.kid HN.out j l1;simp only at t;have hx:=zm t;obtain⟨x,b9⟩:=Nm (a[ks[j]]);rw[b9] at hx;have HT:=hid (Hm a ks j l1 x hx);have I:=HE.out.grown l.out.g b3;have q2:=zh I.bel q1;have T:=Hd ks[j] w0 base b gg cap a x o _ _ wr I hx b3 l.out.f;obtain⟨kid,b5⟩:∃c,ks[j]=c:=⟨_,rfl⟩;rw[b5] at q2 T;obtain⟨C,hC⟩:=Nm (Ref.ZT a x);rw[hC] at T;have D:Hid (Ref.yD a (ks.take (j+1))=Ref.yD a (ks.take j)++[C]):=by rw[<- hC];exact HT
   obtain⟨done,s⟩:∃d,Ref.yD a (ks.take j)=d:=⟨_,rfl⟩;rw[s] at B l D b1 T;obtain⟨f8,A⟩:∃x,(sh||done.any Ref.qD.sh)=x:=⟨_,rfl⟩;obtain⟨f6,z⟩:∃x,(pt||done.any Ref.qD.pt)=x:=⟨_,rfl⟩;rw[A,z] at l T;have d1:=hid A;have c9:=hid z;obtain⟨op,key,vals,no,a8,a7⟩:=C;have CC:=hid T;clear q1 hx b9 t HT hC s A z I b5 T
   go_wp2_with (first
    | (go_at_call 166;refine CC.out.mono ?_;rintro e w2 ⟨l2,rfl,g2,H,o2⟩;simp only at g2 H o2;obtain⟨la,lc,rfl⟩:=jR o2;have G2:=hid g2;have c7:=hid H;obtain⟨xs,ro,rc,o3⟩:=Ht (op:=op) (key:=key) (no:=no) B.out e0 J g2 o2;have O3:=hid o3;have RO:=hid ro;have RC:=hid rc;have h0:=g2.size;clear g2 H o2 ro rc o3)
    | (at_builtin;refine vS _ rfl _ _ 158 rfl (w.heap.size+1) 244 i0 (.agg #[.string ⟨#[]⟩,.string ⟨#[]⟩,.slice none 0 0,.bool false]) 4 64 underlying158 hi e3 e4 e5 rfl (by decide) _ done.length xs rfl RO.out ⟨w2.heap.size+1,0,none⟩ 1 1 [.string op,.string key,.slice la vals.length lc,.bool no] rfl rfl ?_ ?_ ?_ ?_ ?_ ?_))
   ·exact GN _ _ _ _ _ _ _
   ·intro u hu;simp at hu;rcases hu with rfl|rfl|rfl|rfl<;>rfl
   ·unfold maxLen;omega
   ·omega
   ·simp;omega
   ·intro v' w3 y m _;have U:=hid (yh.snoc RO.out RC.out ⟨op,key,vals,no,a8,a7⟩ O3.out m (by rw[b1];exact y));have K3:=(l.out.grown J G2.out c7.out).app J ((((ze _ w2).alloc (by omega) _).alloc (by simp;omega) _).grown m (by simp;omega) (λk hk=>(RO.out.lt k hk).1))
    have K4:Hid (ZL w o #[.int .i64 2,.string text,.slice na ss.length nc,.slice (some ⟨g,0,none⟩) p kc] (sh||(Ref.yD a (ks.take (j+1))).any Ref.qD.sh) (pt||(Ref.yD a (ks.take (j+1))).any Ref.qD.pt) w3):=by
     have e1:(sh||(Ref.yD a (ks.take (j+1))).any Ref.qD.sh)=(f8||a8):=by rw[D.out,<- d1.out];simp[Bool.or_assoc]
     have e2:(pt||(Ref.yD a (ks.take (j+1))).any Ref.qD.pt)=(f6||a7):=by rw[D.out,<- c9.out];simp[Bool.or_assoc]
     rw[e1,e2];exact hid K3
    have V:Hid (yh w3 (w.heap.size+1) v' (Ref.yD a (ks.take (j+1)))):=by rw[D.out];exact U
    clear y m K3 U RO RC O3 B l
    go_wp2
    go_roundw
    case rel=>exact⟨j+1,by omega,by go_num,V.out,K4.out⟩
    case measure=>simp[intOf];omega
  ·have d7:j=ks.length:=by rw[G.out];omega
   have b4:R=⟨Ref.yD a (ks.take j),(Ref.yD a (ks.take j)).any Ref.qD.sh,(Ref.yD a (ks.take j)).any Ref.qD.pt⟩:=by rw[d7,VW];exact d0.out.symm
   subst b4
   go_wp2
   go_ret;exact⟨_,rfl,l.out.g,l.out.f,B.out.mono (by omega)⟩
def kU(w:World)(base:Nat)(a b c d:Value)(R:Rd.qh):Prop:=
 w.ownsRow base 9 1 a R.who.2.length (Ref.strCells R.who.2)/\w.ownsRow base 9 1 b R.act.2.length (Ref.strCells R.act.2)/\w.ownsRow base 9 1 c R.on.2.length (Ref.strCells R.on.2)/\yh w base d R.cs
def V5(w:World)(R:Rd.qh)(e:Ending)(w':World):Prop:=
 ∃a b c d,e = .returned (.tuple #[.agg #[.string R.eff,.bool R.who.1,a,.bool R.act.1,b,.bool R.on.1,c,d],.agg #[.bool R.sh,.bool R.pt]])/\Below w.heap.size w w'/\kU w' w.heap.size a b c d R
theorem kU.kept{w w':World}{base:Nat}{b c d e:Value}{R:Rd.qh}(h:kU w base b c d e R)(a:∀i,base<=i->i<w.heap.size->w'.heap[i]?=w.heap[i]?):kU w' base b c d e R:=
 ⟨Q0 h.1 a,Q0 h.2.1 a,Q0 h.2.2.1 a,h.2.2.2.kept a⟩
theorem kU.mono{w:World}{base a:Nat}{b c d e:Value}{R:Rd.qh}(h:kU w base b c d e R)(hb:a<=base):kU w a b c d e R:=
 ⟨xC h.1 hb,xC h.2.1 hb,xC h.2.2.1 hb,h.2.2.2.mono hb⟩
structure xU (w:World) (nc sc:Array Value) (sh pt:Bool) (wx:World):Prop where
 g:Below w.heap.size w wx
 r:wx.heap[w.heap.size]?=some (.cells #[.string ⟨#[]⟩,.bool false,.slice none 0 0,.bool false,.slice none 0 0,.bool false,.slice none 0 0,.slice none 0 0] 160 (0,0))
 rf:wx.heap[w.heap.size+1]?=some (.cells #[.bool false,.bool false] 162 (0,0))
 n:wx.heap[w.heap.size+2]?=some (.cells nc 152 (0,0))
 s:wx.heap[w.heap.size+3]?=some (.cells sc 160 (0,0))
 f:qf wx (w.heap.size+4) sh pt
theorem Ng(w:World)(a b c d e:Obj):(((((w.alloc a).alloc b).alloc c).alloc d).alloc e).heap[w.heap.size]?=some a/\(((((w.alloc a).alloc b).alloc c).alloc d).alloc e).heap[w.heap.size+1]?=some b/\(((((w.alloc a).alloc b).alloc c).alloc d).alloc e).heap[w.heap.size+2]?=some c /\
  (((((w.alloc a).alloc b).alloc c).alloc d).alloc e).heap[w.heap.size+3]?=some d/\(((((w.alloc a).alloc b).alloc c).alloc d).alloc e).heap[w.heap.size+4]?=some e:=by
 obtain⟨g,h,j⟩:=Dn w a b c;have f:(((w.alloc a).alloc b).alloc c).heap.size=w.heap.size+3:=by simp
 obtain⟨u1,u2⟩:=ky (((w.alloc a).alloc b).alloc c) d e;rw[f] at u1 u2
 have k:∀i,i<w.heap.size+3->(((((w.alloc a).alloc b).alloc c).alloc d).alloc e).heap[i]?=(((w.alloc a).alloc b).alloc c).heap[i]?:=by
  intro i hi;rw[Z8 _ _ _ (by simp;omega),Z8 _ _ _ (by simp;omega)]
 exact⟨(k _ (by omega)).trans g,(k _ (by omega)).trans h,(k _ (by omega)).trans j,u1,u2⟩
theorem xU.start(w:World)(a:Array Value) :
  xU w a #[.string ⟨#[]⟩,.bool false,.slice none 0 0,.bool false,.slice none 0 0,.bool false,.slice none 0 0,.slice none 0 0] false false
   (((((w.alloc (.cells #[.string ⟨#[]⟩,.bool false,.slice none 0 0,.bool false,.slice none 0 0,.bool false,.slice none 0 0,.slice none 0 0] 160)).alloc (.cells #[.bool false,.bool false] 162)).alloc (.cells a 152)).alloc (.cells #[.string ⟨#[]⟩,.bool false,.slice none 0 0,.bool false,.slice none 0 0,.bool false,.slice none 0 0,.slice none 0 0] 160)).alloc (.cells #[.bool false,.bool false] 162)):=by
 obtain⟨b,c,d,e,f⟩:=Ng w (.cells #[.string ⟨#[]⟩,.bool false,.slice none 0 0,.bool false,.slice none 0 0,.bool false,.slice none 0 0,.slice none 0 0] 160) (.cells #[.bool false,.bool false] 162) (.cells a 152) (.cells #[.string ⟨#[]⟩,.bool false,.slice none 0 0,.bool false,.slice none 0 0,.bool false,.slice none 0 0,.slice none 0 0] 160) (.cells #[.bool false,.bool false] 162);exact⟨(((((nbl _ _).alloc (by simp) _).alloc (by simp;omega) _).alloc (by simp;omega) _).alloc (by simp;omega) _),b,c,d,e,f⟩
theorem xU.size{w a:World}{b c:Array Value}{sh pt:Bool}(h:xU w b c sh pt a):w.heap.size+5<=a.heap.size:=zt h.f
theorem xU.below{w a d:World}{b c:Array Value}{sh pt:Bool}(h:xU w b c sh pt a)(hb:Below a.heap.size a d):xU w b c sh pt d:=by
 have e:=h.size;exact⟨h.g.trans (hb.mono (by omega)),(hb.block _ (by omega)).trans h.r,(hb.block _ (by omega)).trans h.rf,(hb.block _ (by omega)).trans h.n,(hb.block _ (by omega)).trans h.s,h.f.below hb⟩
theorem xU.grown{w i d:World}{e f:Array Value}{sh pt c b:Bool}(h:xU w e f sh pt i)(a:i.grownBy d (some (w.heap.size+4)))(j:qf d (w.heap.size+4) c b):xU w e f c b d:=by
 have k:=h.size;exact⟨h.g.trans (But.below a (by omega) (by omega)),(a.block _ (by omega) (by simp)).trans h.r,(a.block _ (by omega) (by simp)).trans h.rf,(a.block _ (by omega) (by simp)).trans h.n,(a.block _ (by omega) (by simp)).trans h.s,j⟩
theorem xU.shape{w c:World}{a b:Array Value}{sh pt:Bool}(h:xU w a b sh pt c)(x:Bool):xU w a b x pt (c.setCell ⟨w.heap.size+4,0,none⟩ (.bool x)):=
 h.grown (But.set _ _ _ _) (h.f.shape x)
theorem xU.put{w a:World}{d e:Array Value}{sh pt:Bool}(h:xU w d e sh pt a)(o:Nat)(u:Value)(c:Array Value)(b:c=e.set! o u):xU w d c sh pt (a.setCell ⟨w.heap.size+3,o,none⟩ u):=by
 subst b;have ne:∀i,i≠w.heap.size+3->(a.setCell ⟨w.heap.size+3,o,none⟩ u).heap[i]?=a.heap[i]?:=λi hi=>qd _ _ _ _ (by simp only;omega);exact⟨h.g.setCell (by simp only;omega) _,(ne _ (by omega)).trans h.r,(ne _ (by omega)).trans h.rf,(ne _ (by omega)).trans h.n,yF a _ o _ _ _ h.s,(ne _ (by omega)).trans h.f⟩
theorem xU.cells{w a:World}{d e g i c0 c1 c2 c3 c4 c5 b c:Value}{sh pt:Bool}(h:xU w #[d,e,g,i] #[c0,c1,c2,c3,c4,c5,b,c] sh pt a) :
  (a.cell? ⟨w.heap.size+2,0,none⟩=some d/\a.cell? ⟨w.heap.size+2,1,none⟩=some e/\a.cell? ⟨w.heap.size+2,2,none⟩=some g/\a.cell? ⟨w.heap.size+2,3,none⟩=some i) /\
  (a.cell? ⟨w.heap.size+3,0,none⟩=some c0/\a.cell? ⟨w.heap.size+3,1,none⟩=some c1/\a.cell? ⟨w.heap.size+3,2,none⟩=some c2/\a.cell? ⟨w.heap.size+3,3,none⟩=some c3/\a.cell? ⟨w.heap.size+3,4,none⟩=some c4/\a.cell? ⟨w.heap.size+3,5,none⟩=some c5/\a.cell? ⟨w.heap.size+3,6,none⟩=some b/\a.cell? ⟨w.heap.size+3,7,none⟩=some c) /\
  (∀o,a.frozen? ⟨w.heap.size+3,o,none⟩=false) /\
  (a.cell? ⟨w.heap.size+4,0,none⟩=some (.bool sh)/\a.cell? ⟨w.heap.size+4,1,none⟩=some (.bool pt)/\a.frozen? ⟨w.heap.size+4,0,none⟩=false):=
 ⟨⟨(zg h.n 0).1,(zg h.n 1).1,(zg h.n 2).1,(zg h.n 3).1⟩,⟨(zg h.s 0).1,(zg h.s 1).1,(zg h.s 2).1,(zg h.s 3).1,(zg h.s 4).1,(zg h.s 5).1,(zg h.s 6).1,(zg h.s 7).1⟩,
  λo=>(zg h.s o).2,h.f.cell.1,h.f.cell.2.1,h.f.cell.2.2.1⟩
theorem xU.res{w a:World}{b c:Array Value}{sh pt:Bool}(h:xU w b c sh pt a) :
  (a.cell? ⟨w.heap.size,0,none⟩=some (.string ⟨#[]⟩)/\a.cell? ⟨w.heap.size,1,none⟩=some (.bool false)/\a.cell? ⟨w.heap.size,2,none⟩=some (.slice none 0 0)/\a.cell? ⟨w.heap.size,3,none⟩=some (.bool false)/\a.cell? ⟨w.heap.size,4,none⟩=some (.slice none 0 0)/\a.cell? ⟨w.heap.size,5,none⟩=some (.bool false)/\a.cell? ⟨w.heap.size,6,none⟩=some (.slice none 0 0)/\a.cell? ⟨w.heap.size,7,none⟩=some (.slice none 0 0)) /\
  (a.cell? ⟨w.heap.size+1,0,none⟩=some (.bool false)/\a.cell? ⟨w.heap.size+1,1,none⟩=some (.bool false))/\(∀o,a.frozen? ⟨w.heap.size,o,none⟩=false)/\(∀o,a.frozen? ⟨w.heap.size+1,o,none⟩=false):=
 ⟨⟨(zg h.r 0).1,(zg h.r 1).1,(zg h.r 2).1,(zg h.r 3).1,(zg h.r 4).1,(zg h.r 5).1,(zg h.r 6).1,(zg h.r 7).1⟩,⟨(zg h.rf 0).1,(zg h.rf 1).1⟩,λo=>(zg h.r o).2,λo=>(zg h.rf o).2⟩
def uH(w:World)(b:Nat)(a c d e f g h i:Value):World:=(((((((w.setCell ⟨b,0,none⟩ a).setCell ⟨b,1,none⟩ c).setCell ⟨b,2,none⟩ d).setCell ⟨b,3,none⟩ e).setCell ⟨b,4,none⟩ f).setCell ⟨b,5,none⟩ g).setCell ⟨b,6,none⟩ h).setCell ⟨b,7,none⟩ i
def set2(w:World)(b:Nat)(a c:Value):World:=(w.setCell ⟨b,0,none⟩ a).setCell ⟨b,1,none⟩ c
theorem YT{w:World}{b:Nat}{t:TypeId}{cs:Array Value}(h:w.heap[b]?=some (.cells cs t (0,0)))(o:Nat)(u:Value):(w.setCell ⟨b,o,none⟩ u).heap[b]?=some (.cells (cs.set! o u) t (0,0)):=yF w b o _ _ _ h
theorem Ck{w:World}{b:Nat}{t:TypeId}{c0 c1 c2 c3 c4 c5 f d:Value}(h:w.heap[b]?=some (.cells #[c0,c1,c2,c3,c4,c5,f,d] t (0,0)))(a c e g i j k l:Value):(uH w b a c e g i j k l).heap[b]?=some (.cells #[a,c,e,g,i,j,k,l] t (0,0)):=by
 have v:(#[c0,c1,c2,c3,c4,c5,f,d]:Array Value).set! 0 a=#[a,c1,c2,c3,c4,c5,f,d]:=rfl;have m:=YT h 0 a;rw[v] at m;have x:(#[a,c1,c2,c3,c4,c5,f,d]:Array Value).set! 1 c=#[a,c,c2,c3,c4,c5,f,d]:=rfl;have n:=YT m 1 c;rw[x] at n;have y:(#[a,c,c2,c3,c4,c5,f,d]:Array Value).set! 2 e=#[a,c,e,c3,c4,c5,f,d]:=rfl;have o:=YT n 2 e;rw[y] at o;have z:(#[a,c,e,c3,c4,c5,f,d]:Array Value).set! 3 g=#[a,c,e,g,c4,c5,f,d]:=rfl;have p:=YT o 3 g;rw[z] at p;have A:(#[a,c,e,g,c4,c5,f,d]:Array Value).set! 4 i=#[a,c,e,g,i,c5,f,d]:=rfl;have q:=YT p 4 i;rw[A] at q;have B:(#[a,c,e,g,i,c5,f,d]:Array Value).set! 5 j=#[a,c,e,g,i,j,f,d]:=rfl;have r:=YT q 5 j;rw[B] at r;have C:(#[a,c,e,g,i,j,f,d]:Array Value).set! 6 k=#[a,c,e,g,i,j,k,d]:=rfl;have s:=YT r 6 k;rw[C] at s;have D:(#[a,c,e,g,i,j,k,d]:Array Value).set! 7 l=#[a,c,e,g,i,j,k,l]:=rfl;have u:=YT s 7 l;rw[D] at u;exact u
theorem Ch{w:World}{b:Nat}{t:TypeId}{c0 c1:Value}(h:w.heap[b]?=some (.cells #[c0,c1] t (0,0)))(a c:Value):(set2 w b a c).heap[b]?=some (.cells #[a,c] t (0,0)):=
 yF _ b 1 _ _ _ (yF _ b 0 _ _ _ h)
theorem aP(w:World)(b:Nat)(a c d e f g h j:Value)(i:Nat)(hi:i≠b):(uH w b a c d e f g h j).heap[i]?=w.heap[i]?:=by
 unfold uH
 iterate 8 rw[qd _ _ _ _ (by simp only;exact hi)]
theorem aO(w:World)(b:Nat)(a c:Value)(i:Nat)(hi:i≠b):(set2 w b a c).heap[i]?=w.heap[i]?:=by
 unfold set2
 iterate 2 rw[qd _ _ _ _ (by simp only;exact hi)]
theorem Cj{a w:World}{B b:Nat}(h:Below B a w)(hb:B<=b)(c d e f g i j k:Value):Below B a (uH w b c d e f g i j k):=
 (((((((h.setCell hb _).setCell hb _).setCell hb _).setCell hb _).setCell hb _).setCell hb _).setCell hb _).setCell hb _
theorem Cg{a w:World}{B b:Nat}(h:Below B a w)(hb:B<=b)(c d:Value):Below B a (set2 w b c d):=(h.setCell hb _).setCell hb _
theorem xU.fin{w a:World}{o p:Array Value}{sh pt:Bool}(h:xU w o p sh pt a)(b c d e f j k l m n:Value) :
  Below w.heap.size w (set2 (uH a w.heap.size b c d e f j k l) (w.heap.size+1) m n)/\(∀i,w.heap.size+2<=i->(set2 (uH a w.heap.size b c d e f j k l) (w.heap.size+1) m n).heap[i]?=a.heap[i]?) /\
  (set2 (uH a w.heap.size b c d e f j k l) (w.heap.size+1) m n).heap[w.heap.size]?=some (.cells #[b,c,d,e,f,j,k,l] 160 (0,0)) /\
  (set2 (uH a w.heap.size b c d e f j k l) (w.heap.size+1) m n).heap[w.heap.size+1]?=some (.cells #[m,n] 162 (0,0)):=by
 refine⟨Cg (Cj h.g (zf _) _ _ _ _ _ _ _ _) (by omega) _ _,λi hi=>?_,?_,Ch ((aP _ _ _ _ _ _ _ _ _ _ _ (by omega)).trans h.rf) _ _⟩
 ·rw[aO _ _ _ _ _ (by omega),aP _ _ _ _ _ _ _ _ _ _ _ (by omega)]
 ·rw[aO _ _ _ _ _ (by omega)];exact Ck h.r _ _ _ _ _ _ _ _
theorem xU.fin2{w a:World}{o p:Array Value}{sh pt:Bool}(h:xU w o p sh pt a)(b c d e f j k l m n:Value) :
  Below w.heap.size w (uH (set2 a (w.heap.size+1) m n) w.heap.size b c d e f j k l)/\(∀i,w.heap.size+2<=i->(uH (set2 a (w.heap.size+1) m n) w.heap.size b c d e f j k l).heap[i]?=a.heap[i]?) /\
  (uH (set2 a (w.heap.size+1) m n) w.heap.size b c d e f j k l).heap[w.heap.size]?=some (.cells #[b,c,d,e,f,j,k,l] 160 (0,0)) /\
  (uH (set2 a (w.heap.size+1) m n) w.heap.size b c d e f j k l).heap[w.heap.size+1]?=some (.cells #[m,n] 162 (0,0)):=by
 refine⟨Cj (Cg h.g (by omega) _ _) (zf _) _ _ _ _ _ _ _ _,λi hi=>?_,Ck ((aO _ _ _ _ _ (by omega)).trans h.r) _ _ _ _ _ _ _ _,?_⟩
 ·rw[aP _ _ _ _ _ _ _ _ _ _ _ (by omega),aO _ _ _ _ _ (by omega)]
 ·rw[aP _ _ _ _ _ _ _ _ _ _ _ (by omega)];exact Ch h.rf _ _
theorem wU{W:World}{g base:Nat}{a b c d e:BY}(h:W.heap[g]?=some (.cells #[.string a,.string b,.string c,.string d,.string e] 9 (0,0)))(hb:base<=g) :
  W.ownsRow base 9 1 (.slice (some ⟨g,0,none⟩) 5 5) [a,b,c,d,e].length (Ref.strCells [a,b,c,d,e]):=
 ⟨rfl,.inr ⟨g,5,_,rfl,hb,h,by simp,by decide,rfl,rfl⟩⟩
theorem zby(i:Nat)(w0:World)(base b gg cap:Nat)(H:List Ref.Node)(n:Ref.Node)(w:World)(s:jT w0 base b gg cap H w)(hi:H[i]?=some n)
  (o:Ref.yR n [Rd.zK,Rd.zR,Rd.bDo,Rd.bOn,Rd.bIf]=false\/Ref.zn n Rd.zK<0\/Ref.kindOf H (Ref.zn n Rd.zK)≠3) :
  Calls prog 61 #[.pointer (some ⟨b,0,none⟩),.int .i64 (i:Int)] w (V5 w Rd.vg):=by
 obtain⟨⟨v1,v2⟩,⟨na,nc,b7⟩,⟨ka,kc,b8⟩,p,S,T⟩:=Uu s hi;simp only at b7 b8;subst b7;subst b8;have f4:i<H.length:=(zW.1 hi).1;have G:=s.at.slice;have hlen:=s.rd.len;have eB:=Ref.vL s.rd.ev hi Rd.zK;obtain⟨a1,a2,a3,a4⟩:=p w s.bel;simp only at a3 a4;obtain⟨nl,E⟩:=Nm H.length;have M:=hid E;rw[E] at G f4 hlen eB;unfold QX at S T;simp only at S T;obtain⟨kind,f⟩:∃k,n.kind=k:=⟨_,rfl⟩;obtain⟨text,j⟩:∃k,n.text=k:=⟨_,rfl⟩;obtain⟨nn,F⟩:∃k,n.names.length=k:=⟨_,rfl⟩;obtain⟨nk,D⟩:∃k,n.kids.length=k:=⟨_,rfl⟩;rw[f] at a1;rw[j] at a2;rw[F] at a3;rw[D] at a4;simp only[f,j,F,D] at S T;have ST:=xU.start w #[.int .i64 kind,.string text,.slice na nn nc,.slice ka nk kc];have l:∀wx sc sh pt,xU w #[.int .i64 kind,.string text,.slice na nn nc,.slice ka nk kc] sc sh pt wx->Below w0.heap.size w0 wx:=λwx _ _ _ h=>s.bel.trans (h.g.mono s.bel.size);obtain⟨z,t⟩:∃x,Ref.zn n Rd.zK=x:=⟨_,rfl⟩;obtain⟨ON,C⟩:∃x,Ref.yR n [Rd.zK,Rd.zR,Rd.bDo,Rd.bOn,Rd.bIf]=x:=⟨_,rfl⟩;have r:=λW h=>S W Rd.zK h;simp only[t] at r;unfold Rd.zK at r;rw[t] at eB;rw[t,C] at o;have q:=ST.below (nbl _ (.cells #[.string Rd.zK,.string Rd.zR,.string Rd.bDo,.string Rd.bOn,.string Rd.bIf] 9));have m:=T _ [Rd.zK,Rd.zR,Rd.bDo,Rd.bOn,Rd.bIf] _ 0 (l _ _ _ _ q) (wU (zB _ _) (zH _)) (by simp);rw[C] at m;simp only[vW] at m;unfold Rd.zK Rd.zR Rd.bDo Rd.bOn Rd.bIf at m q;have HE:=hid s;have y:=hid l;have i0:(0:Int)<=(i:Int):=qz _;have i1:(i:Int)<(nl:Int):=by omega
 clear s S p t C f j F D l T E ST;have s1:=λO P:Obj=>zh ((nbl w O).alloc (by simp) P) G;have b1:=λO P:Obj=>zh ((nbl w O).alloc (by simp) P) a1;have b2:=λO P:Obj=>zh ((nbl w O).alloc (by simp) P) a2;have b3:=λO P:Obj=>zh ((nbl w O).alloc (by simp) P) a3;have b4:=λO P:Obj=>zh ((nbl w O).alloc (by simp) P) a4;go_enter func61,ntmps61
 go_upto_region 6 with (first
  | (go_at_call 60;refine (r w1 (y.out w1 _ _ _ C1)).mono ?_;rintro e w2 ⟨rfl,b5⟩;have C2:=C1.below b5)
  | (go_at_call 110;refine m.mono ?_;rintro e w1 ⟨rfl,b0⟩;have C1:=q.below (by simp only[vW];exact b0);obtain⟨⟨f7,f8,f9,g2⟩,_,_,_⟩:=C1.cells))
 have Q:=y.out w2 _ _ _ C2
 have j6:w2.cell? ⟨b,2,none⟩=some (.slice (some ⟨gg,0,none⟩) nl cap):=by
  have:=(HE.out.rd.below Q).slice
  rwa [M.out] at this
 clear f7 f8 f9 g2 s1 b1 b2 b3 b4 a1 a2 a3 a4 G i0 i1 b0 b5 C1 q r m;obtain⟨_,_,_,⟨h0,h1,h2⟩⟩:=C2.cells;have I:=C2.shape true;obtain⟨_,⟨y0,y1,y2,y3,y4,y5,y6,y7⟩,_,⟨g0,g1,_⟩⟩:=I.cells;obtain⟨⟨t0,t1,t2,t3,t4,t5,t6,t7⟩,⟨u0,u1⟩,u,z1⟩:=I.res;have j7:=u 0;have j8:=u 1;have j9:=u 2;have k0:=u 3;have k2:=u 4;have k5:=u 5;have k6:=u 6;have k7:=u 7;have k8:=z1 0;have k9:=z1 1;have FA:=I.fin (.string ⟨#[]⟩) (.bool false) (.slice none 0 0) (.bool false) (.slice none 0 0) (.bool false) (.slice none 0 0) (.slice none 0 0) (.bool true) (.bool false);have FB:=I.fin2 (.string ⟨#[]⟩) (.bool false) (.slice none 0 0) (.bool false) (.slice none 0 0) (.bool false) (.slice none 0 0) (.slice none 0 0) (.bool true) (.bool false);have J:∀W,Below w.heap.size w W->V5 w Rd.vg (.returned (.tuple #[.agg #[.string ⟨#[]⟩,.bool false,.slice none 0 0,.bool false,.slice none 0 0,.bool false,.slice none 0 0,.slice none 0 0],.agg #[.bool true,.bool false]])) W:=λW hb=>⟨_,_,_,_,rfl,hb,ql _ _ _ _,ql _ _ _ _,ql _ _ _ _,yh.nil _ _⟩;have K:=hid FA;have L:=hid FB;have a:=hid J;clear u z1 FA FB J I C2
 have d:ON=false\/(ON=true/\z<0)\/(ON=true/\0<=z/\Ref.kindOf H z≠3):=by
  cases ON
  ·exact .inl rfl
  ·by_cases e:z<0
   ·exact .inr (.inl ⟨rfl,e⟩)
   ·refine .inr (.inr ⟨rfl,by omega,?_⟩)
    rcases o with h|h|h
    ·cases h
    ·omega
    ·exact h
 clear o
 have last:Hid (∀W,W=set2 (uH (w2.setCell ⟨w.heap.size+4,0,none⟩ (.bool true)) w.heap.size (.string ⟨#[]⟩) (.bool false) (.slice none 0 0) (.bool false) (.slice none 0 0) (.bool false) (.slice none 0 0) (.slice none 0 0)) (w.heap.size+1) (.bool true) (.bool false)\/W=uH (set2 (w2.setCell ⟨w.heap.size+4,0,none⟩ (.bool true)) (w.heap.size+1) (.bool true) (.bool false)) w.heap.size (.string ⟨#[]⟩) (.bool false) (.slice none 0 0) (.bool false) (.slice none 0 0) (.bool false) (.slice none 0 0) (.slice none 0 0) ->
   (W.cell? ⟨w.heap.size,0,none⟩=some (.string ⟨#[]⟩)/\W.cell? ⟨w.heap.size,1,none⟩=some (.bool false)/\W.cell? ⟨w.heap.size,2,none⟩=some (.slice none 0 0)/\W.cell? ⟨w.heap.size,3,none⟩=some (.bool false)/\W.cell? ⟨w.heap.size,4,none⟩=some (.slice none 0 0)/\W.cell? ⟨w.heap.size,5,none⟩=some (.bool false)/\W.cell? ⟨w.heap.size,6,none⟩=some (.slice none 0 0)/\W.cell? ⟨w.heap.size,7,none⟩=some (.slice none 0 0))/\(W.cell? ⟨w.heap.size+1,0,none⟩=some (.bool true)/\W.cell? ⟨w.heap.size+1,1,none⟩=some (.bool false))/\Below w.heap.size w W):=by
  refine hid (λW hW=>?_)
  rcases hW with rfl|rfl
  ·obtain⟨k1,_,c,k4⟩:=K.out;exact⟨⟨(zg c 0).1,(zg c 1).1,(zg c 2).1,(zg c 3).1,(zg c 4).1,(zg c 5).1,(zg c 6).1,(zg c 7).1⟩,⟨(zg k4 0).1,(zg k4 1).1⟩,k1⟩
  ·obtain⟨k1,_,c,k4⟩:=L.out;exact⟨⟨(zg c 0).1,(zg c 1).1,(zg c 2).1,(zg c 3).1,(zg c 4).1,(zg c 5).1,(zg c 6).1,(zg c 7).1⟩,⟨(zg k4 0).1,(zg k4 1).1⟩,k1⟩
 have LA:=last.out _ (.inl rfl);have LB:=last.out _ (.inr rfl);unfold set2 uH at LA LB;have A:=hid LA;have B:=hid LB;clear last LA LB K L
 rcases d with rfl|⟨rfl,o1⟩|⟨rfl,o1,o2⟩
 ·go_wp2_with fail
  go_region
  all_goals
   obtain⟨⟨U,V,X,Y,Z,e5,e6,e7⟩,⟨e8,e9⟩,N⟩:=A.out;obtain⟨⟨l0,l1,l2,l3,l4,l5,l6,l7⟩,⟨l8,l9⟩,R⟩:=B.out;go_wp2_with fail
   first
    | exact zA (v := .tuple #[.agg #[.string ⟨#[]⟩,.bool false,.slice none 0 0,.bool false,.slice none 0 0,.bool false,.slice none 0 0,.slice none 0 0],.agg #[.bool true,.bool false]]) (by simp[results,results61,go_sem,U,V,X,Y,Z,e5,e6,e7,e8,e9]) rfl (a.out _ N.drew)
    | exact zA (v := .tuple #[.agg #[.string ⟨#[]⟩,.bool false,.slice none 0 0,.bool false,.slice none 0 0,.bool false,.slice none 0 0,.slice none 0 0],.agg #[.bool true,.bool false]]) (by simp[results,results61,go_sem,l0,l1,l2,l3,l4,l5,l6,l7,l8,l9]) rfl (a.out _ R.drew)
 ·have d1:decide (z<0)=true:=zy o1;go_wp2_with fail
  go_region
  all_goals
   obtain⟨⟨U,V,X,Y,Z,e5,e6,e7⟩,⟨e8,e9⟩,N⟩:=A.out;obtain⟨⟨l0,l1,l2,l3,l4,l5,l6,l7⟩,⟨l8,l9⟩,R⟩:=B.out;go_wp2_with fail
   first
    | exact zA (v := .tuple #[.agg #[.string ⟨#[]⟩,.bool false,.slice none 0 0,.bool false,.slice none 0 0,.bool false,.slice none 0 0,.slice none 0 0],.agg #[.bool true,.bool false]]) (by simp[results,results61,go_sem,U,V,X,Y,Z,e5,e6,e7,e8,e9]) rfl (a.out _ N.drew)
    | exact zA (v := .tuple #[.agg #[.string ⟨#[]⟩,.bool false,.slice none 0 0,.bool false,.slice none 0 0,.bool false,.slice none 0 0,.slice none 0 0],.agg #[.bool true,.bool false]]) (by simp[results,results61,go_sem,l0,l1,l2,l3,l4,l5,l6,l7,l8,l9]) rfl (a.out _ R.drew)
 ·have d1:decide (z<0)=false:=zJ (by omega);obtain⟨je,rfl,b6⟩:=Jy HE.out z o1 (by rw[M.out];exact eB.2);have j1:(0:Int)<=(je:Int):=qz _;have j2:(je:Int)<(nl:Int):=eB.2;obtain⟨m1,_⟩:=b6 w2 Q;obtain⟨KE,a9⟩:∃x,Ref.kindOf H (je:Int)=x:=⟨_,rfl⟩;rw[a9] at o2 m1;have d2:(KE != 3)=true:=by simp[o2]
  clear b6 a9 o2 o1;go_wp2_with fail
  go_region
  all_goals
   obtain⟨⟨U,V,X,Y,Z,e5,e6,e7⟩,⟨e8,e9⟩,N⟩:=A.out;obtain⟨⟨l0,l1,l2,l3,l4,l5,l6,l7⟩,⟨l8,l9⟩,R⟩:=B.out;go_wp2_with fail
   first
    | exact zA (v := .tuple #[.agg #[.string ⟨#[]⟩,.bool false,.slice none 0 0,.bool false,.slice none 0 0,.bool false,.slice none 0 0,.slice none 0 0],.agg #[.bool true,.bool false]]) (by simp[results,results61,go_sem,U,V,X,Y,Z,e5,e6,e7,e8,e9]) rfl (a.out _ N.drew)
    | exact zA (v := .tuple #[.agg #[.string ⟨#[]⟩,.bool false,.slice none 0 0,.bool false,.slice none 0 0,.bool false,.slice none 0 0,.slice none 0 0],.agg #[.bool true,.bool false]]) (by simp[results,results61,go_sem,l0,l1,l2,l3,l4,l5,l6,l7,l8,l9]) rfl (a.out _ R.drew)
end Go.Proofs.YtdakgnaojakldaaGreatDoor
