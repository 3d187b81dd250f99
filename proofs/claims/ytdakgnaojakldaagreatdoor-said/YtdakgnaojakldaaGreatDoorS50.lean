/- P -/
import Derived.Test.YtdakgnaojakldaaGreatDoorS49
open Go.Proofs.Tryz
set_option maxRecDepth 100000
namespace Go.Proofs.YtdakgnaojakldaaGreatDoor
open Go.RowKit
namespace Kp
end Kp
namespace De
end De
def Jc(r:Kp.yT)(a b c:Value):List Value:=[.bool r.deny,a,b,c,.int .i64 r.nt,.int .i64 r.iff,.int .i64 r.key,.int .i64 r.val,.bool r.no,.int .i64 r.style]
structure uW (w:World) (xs:List Value) (l:List Kp.yT):Prop where
 len:xs.length=l.length*10
 at':∀(k:Nat) (r:Kp.yT),l[k]?=some r->Jy r/\r.who.length<=maxLen/\r.act.length<=maxLen/\r.on.length<=maxLen/\∃v1 v2 v3,(∀t,t<10->xs[k*10+t]?=(Jc r v1 v2 v3)[t]?)/\IntsIn w v1 r.who/\IntsIn w v2 r.act/\IntsIn w v3 r.on
theorem uW.nil(w:World):uW w [] []:=⟨rfl,λk r h=>by simp at h⟩
theorem uW.turn{w a:World}{xs:List Value}{l:List Kp.yT}(h:uW w xs l)(hi:∀v z,IntsIn w v z->IntsIn a v z):uW a xs l:=
 ⟨h.len,λk r c=>by
  obtain⟨f,i,j,m,n,o,p,b,d,e,g⟩:=h.at' k r c;exact⟨f,i,j,m,n,o,p,b,hi _ _ d,hi _ _ e,hi _ _ g⟩⟩
theorem uW.more{w:World}{xs:List Value}{l:List Kp.yT}(h:uW w xs l){r:Kp.yT}{c d e:Value}(f:Jy r)(v:r.who.length<=maxLen)(x:r.act.length<=maxLen)(y:r.on.length<=maxLen)(n:IntsIn w c r.who)(o:IntsIn w d r.act)(p:IntsIn w e r.on):uW w (xs++Jc r c d e) (l++[r]):=by
 have g:=h.len;refine⟨by rw[List.length_append,List.length_append,g];simp[Jc];omega,λk C a=>?_⟩
 by_cases hk:k<l.length
 ·rw[List.getElem?_append_left hk] at a;obtain⟨j,z,A,B,u1,u2,u3,m,q,s,u⟩:=h.at' k C a;refine⟨j,z,A,B,u1,u2,u3,λt i=>?_,q,s,u⟩;rw[List.getElem?_append_left (by omega)];exact m t i
 ·have b:k=l.length:=by
   have:=(List.getElem?_eq_some_iff.1 a).1
   rw[List.length_append,List.length_singleton] at this;omega
  subst b;rw[List.getElem?_append_right (Nat.le_refl _)] at a;simp at a;subst a;refine⟨f,v,x,y,c,d,e,λt i=>?_,n,o,p⟩;rw[List.getElem?_append_right (by omega),g];congr 1;omega
theorem uW.rules{w:World}{B:Nat}{v:Value}{xs:List Value}{l:List Kp.yT}(h:uW w xs l)(c:w.ownsRow B 66 10 v l.length xs):QM w v l:=by
 have a:=c
 rcases c.2 with ⟨e,h0⟩|⟨gb,cap,cur,e,_⟩
 ·have m:l=[]:=List.length_eq_zero_iff.1 h0;subst m;exact⟨none,0,e,λk r b=>by simp at b⟩
 ·rw[e] at a;refine⟨some ⟨gb,0,none⟩,cap,e,λk r b=>?_⟩;obtain⟨f,s,u,x,d,g,i,j,o,p,q⟩:=h.at' k r b;have y:k<l.length:=(List.getElem?_eq_some_iff.1 b).1
  have cell:∀t,t<10->w.cell? ⟨gb,0+k*10+t,none⟩=(Jc r d g i)[t]?:=λt n=>by
   rw[Nat.zero_add,World.ownsRow.cellAt a (k*10+t) (by omega)];exact j t n
  exact⟨f,s,u,x,gb,0,d,g,i,rfl,⟨cell 0 (by omega),cell 1 (by omega),cell 2 (by omega),cell 3 (by omega),cell 4 (by omega),cell 5 (by omega),cell 6 (by omega),cell 7 (by omega),cell 8 (by omega),cell 9 (by omega)⟩,o,p,q⟩
structure kQ (w wr:World) (oa:Nat) (M:Nat->Prop) (st:StO):Prop where
 below:Below w.heap.size w wr
 a:qU M wr oa st
 old:w.heap.size<=oa
 top:oa<wr.heap.size
theorem kQ.step{w wr b:World}{c:Nat}{M:Nat->Prop}{d:StO}(h:kQ w wr c M d)(hb:Below wr.heap.size wr b):kQ w b c M d:=
 ⟨h.below.trans (hb.mono h.below.size),h.a.below hb,h.old,Nat.lt_of_lt_of_le h.top hb.size⟩
theorem kQ.put{w wr a:World}{c:Nat}{M:Nat->Prop}{i d:StO}(h:kQ w wr c M i)(f:zy (λb=>b=c) wr a)(g:qU M a c d):kQ w a c M d:=
 ⟨h.below.trans (f.below (λk hk (e:k=c)=>by have:=h.old;omega) h.below.size),g,h.old,Nat.lt_of_lt_of_le h.top f.size⟩
def Xp(w:World)(B:Nat)(e:Value)(n:Nat)(L:List De.Dec):Prop:=∃a c,e = .slice a n c/\∀(i:Nat) (d:De.Dec),L[i]?=some d->∃b,a=some ⟨b,0,none⟩/\B<=b/\∀t,t<4->w.cell? ⟨b,i*4+t,none⟩=(vg d)[t]?
theorem Xp.own{w:World}{B:Nat}{b:Value}{L:List De.Dec}(h:w.ownsRow B 48 4 b L.length (L.flatMap vg)):Xp w B b L.length L:=by
 have a:=h
 rcases h.2 with ⟨e,h0⟩|⟨gb,cap,cur,e,_⟩
 ·have c:L=[]:=List.length_eq_zero_iff.1 h0;subst c;exact⟨none,0,e,λi d hd=>by simp at hd⟩
 ·rw[e] at a;refine⟨some ⟨gb,0,none⟩,cap,e,λi d hd=>⟨gb,rfl,(World.ownsRow.lt a gb (by rfl)).1,λt f=>?_⟩⟩;have hi:i<L.length:=(List.getElem?_eq_some_iff.1 hd).1;rw[World.ownsRow.cellAt a (i*4+t) (by omega),oL hd t f]
theorem Xp.turn{w l:World}{B n:Nat}{k:Value}{L:List De.Dec}{M:Nat->Prop}(h:Xp w B k n L)(p:zy M w l)(m:∀b,B<=b->¬M b):Xp l B k n L:=by
 obtain⟨a,c,rfl,h⟩:=h;refine⟨a,c,rfl,λi d hd=>?_⟩;obtain⟨g,e,hb,o⟩:=h i d hd;refine⟨g,e,hb,λt j=>?_⟩
 have f:∃v,(vg d)[t]?=some v:=by
  have:t<(vg d).length:=by simp[vg];omega
  exact⟨_,List.getElem?_eq_getElem this⟩
 obtain⟨v,f⟩:=f;rw[f];exact p.cell (x:=⟨g,i*4+t,none⟩) (m g hb) ((o t j).trans f)
namespace Kp
end Kp
theorem qO.turn{W a:World}{ao:Option Addr}{ms:List (BY×BY)}{N:Nat->Prop}(h:qO W ao ms)(f:zy N W a)(c:ms≠[]->∀b o,ao=some ⟨b,o,none⟩->¬N b):qO a ao ms:=by
 rcases h with h|⟨b,o,e,hc⟩
 ·exact .inl h
 ·by_cases hne:ms=[]
  ·exact .inl hne
  ·exact .inr ⟨b,o,e,λj d=>⟨f.cell (x:=⟨b,_,none⟩) (c hne b o e) (hc j d).1,f.cell (x:=⟨b,_,none⟩) (c hne b o e) (hc j d).2⟩⟩
def vJ(N:Nat->Prop)(P:World->Prop)(W:World):Prop:=∀a,zy N W a->P a
theorem vJ.now{N:Nat->Prop}{P:World->Prop}{W:World}(h:vJ N P W):P W:=h W (zy.refl _ _)
theorem vJ.turn{N:Nat->Prop}{P:World->Prop}{W a:World}(h:vJ N P W)(t:zy N W a):vJ N P a:=λX b=>h X (t.trans b)
theorem vJ.step{N:Nat->Prop}{P:World->Prop}{W a:World}(h:vJ N P W)(hb:Below W.heap.size W a):vJ N P a:=h.turn (zy.of hb)
theorem vJ.one{N:Nat->Prop}{P:World->Prop}{W a:World}{k:Nat}(h:vJ N P W)(t:zy (λb=>b=k) W a)(c:N k):vJ N P a:=h.turn (t.wide (λ_ _ e=>by rw[e];exact c))
theorem kQ.wide{w wr:World}{d:Nat}{M c:Nat->Prop}{e:StO}(h:kQ w wr d M e)(f:∀b,c b->M b\/wr.heap.size<=b)(g:c d):kQ w wr d c e:=⟨h.below,h.a.more f g,h.old,h.top⟩
structure FmP (w:World) (dv:Value) (D:List Kp.yT) (rb:Nat) (r:Ref.Req) (ao:Option Addr) (cap:Nat) (W:World):Prop where
 rules:QM W dv D
 req:W.heap[rb]?=some (Qw (.string r.who) (.string r.act) (.string r.on) (.slice ao r.marks.length cap))
 marks:qO W ao r.marks
 below:Below w.heap.size w W
theorem FmP.cells{w:World}{b:Value}{D:List Kp.yT}{a:Nat}{r:Ref.Req}{ao:Option Addr}{cap:Nat}{W:World}(h:FmP w b D a r ao cap W):W.cell? ⟨a,0,none⟩=some (.string r.who)/\W.cell? ⟨a,1,none⟩=some (.string r.act)/\W.cell? ⟨a,2,none⟩=some (.string r.on)/\W.cell? ⟨a,3,none⟩=some (.slice ao r.marks.length cap):=by
 have c:=λk=>(ze h.req k).1;exact⟨c 0,c 1,c 2,c 3⟩
namespace Sd
open Kp
theorem fw(a:StO){i:Nat}(hi:i<4){nm:BY}(f:Ref.zH nm=true)(text:BY)(b:Rd.xV text=(0,0))(e:(a i).length<4) :
  uD a (i:Int) nm text=(0,0)/\uG a (i:Int) nm text=upd a i (yQ (a i) nm (yF text)):=by
 have g:uC (i:Int) nm=0:=by
  unfold uC ZO;have c:decide ((0:Int)<=(i:Int))=true:=decide_eq_true (by omega);have d:decide ((i:Int)<4)=true:=decide_eq_true (by omega);rw[c,d,f]
  rfl
 unfold uD uG Ya;simp only[Int.toNat_natCast];rw[g,b];simp[e]
theorem pR:Ref.zH yg=true:=by kernel_rfl
theorem Ag:Ref.zH Zc=true:=by kernel_rfl
theorem pQ:yg≠Zc:=by intro e;have:=congrArg ByteArray.size e;simp[yg,Zc,ByteArray.size] at this
theorem ML{nt:Bool}{a:BY}(b:a.size<=5):(Z4 nt a).size<=15:=by
 unfold Z4
 cases nt
 ·simp only[Bool.false_eq_true,if_false,ByteArray.size_append];have z:(⟨#[34]⟩:BY).size=1:=rfl;omega
 ·simp only[if_true,ByteArray.size_append];have z:(⟨#[123,34,110,111,116,34,58,34]⟩:BY).size=8:=rfl;have c:(⟨#[34,125]⟩:BY).size=2:=rfl;omega
theorem KF{k:Nat}(a:k<5):(ZJ k).size<=26:=by
 have b:=VQ k a;unfold ZJ;simp only[ByteArray.size_append];have z:(⟨#[123,34,111,112,34,58,34]⟩:BY).size=7:=rfl;have c:(⟨#[34,44,34,107,101,121,34,58,34,116,97,103,34]⟩:BY).size=13:=rfl;omega
theorem KG{k:Nat}(a:k<5){v:BY}(c:v.size<=5):(ZK k v).size<=42:=by
 have b:=KF a;unfold ZK
 split
 ·simp only[ByteArray.size_append];have z:(⟨#[44,34,118,97,108,117,101,34,58,34]⟩:BY).size=10:=rfl;have d:(⟨#[34]⟩:BY).size=1:=rfl;omega
 ·omega
theorem nX{k:Nat}(a:k<5){v:BY}(b:v.size<=5){no:Bool}:(uZ k v no).size<=52:=by
 have c:=KG a b;unfold uZ
 split
 ·simp only[ByteArray.size_append];have z:(⟨#[44,34,110,111,34,58,116,114,117,101]⟩:BY).size=10:=rfl;omega
 ·omega
theorem pO{deny nt no:Bool}{k:Nat}(e:k<5){a b c v:BY}(l:a.size<=6)(hb:b.size<=6)(m:c.size<=6)(o:v.size<=6):(Ql deny nt no k a b c v).size<=4000:=by
 have n:=VQ k e;have f:(ku deny).size<=5:=by cases deny<;>decide
 have g:(Z4 nt a).size<=16:=by
  unfold Z4
  cases nt
  ·simp only[Bool.false_eq_true,if_false,ByteArray.size_append];have z:(⟨#[34]⟩:BY).size=1:=rfl;omega
  ·simp only[if_true,ByteArray.size_append];have z:(⟨#[123,34,110,111,116,34,58,34]⟩:BY).size=8:=rfl;have d:(⟨#[34,125]⟩:BY).size=2:=rfl;omega
 have h:(ZJ k).size<=26:=by
  unfold ZJ;simp only[ByteArray.size_append];have z:(⟨#[123,34,111,112,34,58,34]⟩:BY).size=7:=rfl;have d:(⟨#[34,44,34,107,101,121,34,58,34,116,97,103,34]⟩:BY).size=13:=rfl;omega
 have i:(ZK k v).size<=43:=by
  unfold ZK
  split
  ·simp only[ByteArray.size_append];have z:(⟨#[44,34,118,97,108,117,101,34,58,34]⟩:BY).size=10:=rfl;have d:(⟨#[34]⟩:BY).size=1:=rfl;omega
  ·omega
 have j:(uZ k v no).size<=53:=by
  unfold uZ
  split
  ·simp only[ByteArray.size_append];have z:(⟨#[44,34,110,111,34,58,116,114,117,101]⟩:BY).size=10:=rfl;omega
  ·omega
 unfold Ql;simp only[ByteArray.size_append];have p:(⟨#[123,34,115,116,97,116,101,109,101,110,116,34,58,91,123,34,101,102,102,101,99,116,34,58,34]⟩:BY).size=25:=rfl;have q:(⟨#[34,44,34,119,104,111,34,58]⟩:BY).size=8:=rfl;have r:(⟨#[44,34,100,111,34,58,34]⟩:BY).size=7:=rfl;have s:(⟨#[34,44,34,111,110,34,58,34]⟩:BY).size=8:=rfl;have t:(⟨#[34,44,34,105,102,34,58,91]⟩:BY).size=8:=rfl;have u:(⟨#[125,93,125,93,125]⟩:BY).size=5:=rfl;omega
theorem Af{a:BY}(b:a.size<=6):(Qq a).size<=4000:=by
 unfold Qq;rw[ByteArray.size_append,ByteArray.size_append];have c:(⟨#[123,34,115,116,97,116,101,109,101,110,116,34,58,91,123,34,101,102,102,101,99,116,34,58,34,97,108,108,111,119,34,44,34,119,104,111,34,58,34]⟩:BY).size=39:=rfl;have d:(⟨#[34,44,34,100,111,34,58,34,42,34,44,34,111,110,34,58,34,42,34,125,93,125]⟩:BY).size=22:=rfl;omega
theorem Eu(deny nt no:Bool){k:Nat}(f:k<5){a b c v:BY}(d:a ∈ zA)(hb:b ∈ zA)(e:c ∈ zA)(g:ZA k v){n:Nat}(j:n<4) :
  uD qI (n:Int) yg (Ql deny nt no k a b c v)=(0,0)/\uG qI (n:Int) yg (Ql deny nt no k a b c v)=upd qI n [(yg,[stW deny nt no k a b c v])]:=by
 have z:=X8;obtain⟨h,i⟩:=dO (pO (deny:=deny) (nt:=nt) (no:=no) f (by have:=z a d;omega) (by have:=z b hb;omega) (by have:=z c e;omega) (by have:=z v g.1;omega)) (pU deny nt no f (X9 a d) (X9 b hb) (X9 c e) (X9 v g.1)) (Iw deny nt no f (Xe a d) (Xe b hb) (Xe c e) g);obtain⟨l,m⟩:=fw qI j pR _ h (by simp[qI]);refine⟨l,m.trans ?_⟩;rw[i]
 rfl
theorem ah{a:BY}(c:a ∈ zA)(b:Bool):xA (bl (if b then je else a))/\Ref.qf (if b then je else a)=true/\(if b then je else a).size<=6:=by
 cases b with
 | true=>exact⟨(by decide:xA (bl je)),(by kernel_rfl:Ref.qf je=true),(by decide:je.size<=6)⟩
 | false=>exact⟨X9 a c,Xe a c,by have:=X8 a c;show a.size<=6;omega⟩
theorem Md(s:zz){a:BY}(o:a ∈ zA)(b:Bool){n m:Nat}(v:n<4)(u:m<2)(p:UL (upd qI n [(yg,[s])])) :
  ∃d,uD (upd qI n [(yg,[s])]) (m:Int) Zc (Qq (if b then je else a))=(0,0)/\uG (upd qI n [(yg,[s])]) (m:Int) Zc (Qq (if b then je else a))=d/\∀i,i<4->∀y,y ∈ d i↔(i=n/\y=(yg,[s]))\/(i=m/\y=(Zc,[gdW (if b then je else a)])):=by
 obtain⟨f1,f2,k⟩:=ah o b;obtain⟨f,g⟩:=dO (Af k) (Ah f1) (wG f2)
 have q:(upd qI n [(yg,[s])] m).length<4:=by
  by_cases e:m=n
  ·subst e;rw[UC];simp
  ·rw[UB _ e];simp[qI]
 obtain⟨r,t⟩:=fw (upd qI n [(yg,[s])]) (i:=m) (by omega) Ag _ f q;refine⟨_,r,t,λi hi y=>?_⟩;rw[g]
 have c:∀j,y ∈ upd qI n [(yg,[s])] j↔j=n/\y=(yg,[s]):=λj=>by
  by_cases e:j=n
  ·subst e;rw[UC];simp
  ·rw[UB _ e];simp[qI,e]
 by_cases e:i=m
 ·subst e;rw[UC,VG (p i hi).1,c]
  constructor
  ·rintro (h|⟨h,_⟩)
   ·exact .inr ⟨rfl,h⟩
   ·exact .inl h
  ·rintro (⟨l,rfl⟩|⟨_,h⟩)
   ·exact .inr ⟨⟨l,rfl⟩,pQ⟩
   ·exact .inl h
 ·rw[UB _ e,c]
  constructor
  ·exact .inl
  ·rintro (h|⟨h,_⟩)
   ·exact h
   ·exact absurd h e
theorem wJ(a:BY)(r:Ref.Req):De.qE De.yu r (gdW a)=false:=by
 unfold De.qE
 have:((gdW a).eff.toList==De.yu.toList)=false:=by kernel_rfl
 rw[this]
 rfl
theorem wH(a:BY)(r:Ref.Req):De.qE De.xm r (gdW a)=De.uf (gdW a) r:=by
 unfold De.qE
 have:((gdW a).eff.toList==De.xm.toList)=true:=by kernel_rfl
 rw[this]
 rfl
def UE(deny app:Bool):Nat:=if app then (if deny then 2 else 1) else 3
def iA(deny app a:Bool):Nat:=if app then (if deny then 2 else if a then 3 else 1) else 3
end Sd
theorem KW{r:Ref.Req}(f:Ref.xe r=true)(b:Pg.reqLen r)(g:Nat)(a:StO)(M:Nat->Prop)(w:World)(ao:Option Addr)(cap:Nat)(h:qU M w g a)(d:qO w ao r.marks)(i:qD w) :
  Calls prog 25 #[.pointer (some ⟨g,0,none⟩),.agg #[.string r.who,.string r.act,.string r.on,.slice ao r.marks.length cap]] w λe j=>e = .returned (.tuple #[.agg #[.int .i64 (((De.xC a r).verdict:Nat):Int),.int .i64 (((De.xC a r).layer:Nat):Int),.string (De.xC a r).doc,.int .i64 (((De.xC a r).stmt:Nat):Int)],.int .i64 0])/\Below w.heap.size w j:=by
 have c:=FI g a r ao cap M w h d b i;unfold De.YG at c;rw[if_pos f] at c;exact c
end Go.Proofs.YtdakgnaojakldaaGreatDoor
