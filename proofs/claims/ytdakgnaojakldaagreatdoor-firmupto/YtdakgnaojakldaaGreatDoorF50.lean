/- P -/
import Derived.Test.YtdakgnaojakldaaGreatDoorF49
open Go.Proofs.Tryz
set_option maxRecDepth 100000
namespace Go.Proofs.YtdakgnaojakldaaGreatDoor
open Go.RowKit
namespace Kp
def qV:BA:=⟨#[111,110,108,121]⟩
theorem LP:Ref.zI qV=true:=by kernel_rfl
theorem lM:∀k,k<6->zT k≠qV:=by decide +kernel
def kI(r:zi):zi:=⟨true,r.who,r.act,r.on,r.nt,r.iff,r.key,r.val,r.no,r.style⟩
def vT(rules:List zi):List zi:=if rules.length=0 then [kI qU] else rules.map kI
theorem Br{rules:List zi}{r:zi}(h:r ∈ vT rules):r.deny=true:=by
 unfold vT at h
 split at h
 ·rw[List.mem_singleton] at h;subst h;rfl
 ·obtain⟨x,_,rfl⟩:=List.mem_map.1 h;rfl
theorem eG(rules:List zi):(vT rules).length≠0:=by
 unfold vT
 split
 ·simp
 ·rename_i h;rw[List.length_map];exact h
theorem LJ(rules:List zi):De.VX (kJ (vT rules)):=by
 intro s c r;obtain⟨x,a,rfl⟩:=BG c;unfold VB at a;rw[if_neg (eG rules)] at a;have hd:=Br (List.mem_of_mem_take a);unfold De.yO;have b:(stK x).eff=yj:=by show kQ x=yj;unfold kQ;rw[hd];rfl
 rw[b]
 have:(yj.toList==De.yh.toList)=false:=by kernel_rfl
 rw[this]
 rfl
theorem LU{i:Nat}(hi:i<4):jf (i:Int) qV=0:=by
 unfold jf vg;have a:decide ((0:Int)<=(i:Int))=true:=decide_eq_true (by omega);have b:decide ((i:Int)<4)=true:=decide_eq_true (by omega);rw[a,b,LP]
 rfl
theorem lN(a:StO){i:Nat}(hi:i<4)(text:BA)(b:Rd.xW text=(0,0)) :
  yR a (i:Int) qV text=(if zl (a i) qV||decide ((a i).length<4) then (0,0) else (10,0)) /\
  xE a (i:Int) qV text=(if zl (a i) qV||decide ((a i).length<4) then upd a i (yt (a i) qV (yI text)) else a):=by
 have c:=LU hi;unfold yR xE Yi;simp only[Int.toNat_natCast];rw[c,b];simp only[if_true,decide_true,Bool.true_and,and_self]
def XG(a:StO):Prop:=∀i,i<4->∀x ∈ a i,x.1≠qV
theorem Y3{a:StO}(h:kC a):XG a:=λi hi x c=>by
 obtain⟨⟨k,b,e⟩,_⟩:=h i hi x c;rw[e];exact lM k b
theorem iX{a:StO}(h:XG a){i:Nat}(hi:i<4):zl (a i) qV=false:=by
 cases hh:zl (a i) qV with
 | false=>rfl
 | true=>
  obtain⟨c,b,_⟩:=Vg hh;exact absurd rfl (h i hi _ b)
theorem KA{a:StO}(f:yY a)(k:XG a){i:Nat}(hi:i<4)(g:(a i).length<4)(l:List zi) :
  yR a (i:Int) qV (qi l)=(0,0)/\yY (xE a (i:Int) qV (qi l))/\De.More a (xE a (i:Int) qV (qi l)) i (qV,kJ l):=by
 obtain⟨m,d⟩:=lN a hi (qi l) (ZG l);rw[iX k hi,Bool.false_or,decide_eq_true g] at m d;simp only[if_true] at d;refine⟨m,?_,hi,?_⟩
 ·rw[d];intro j b
  by_cases e:j=i
  ·subst e;rw[uH];exact (f j b).with (by rw[decide_eq_true g,Bool.or_true]) (VQ _ (by rw[ZG]))
  ·rw[ZM a e];exact f j b
 ·intro j b x;rw[d]
  by_cases e:j=i
  ·subst e;rw[uH,Qk (f j b).1,aM]
   constructor
   ·rintro (rfl|⟨c,_⟩)
    ·exact .inr ⟨rfl,rfl⟩
    ·exact .inl c
   ·rintro (c|⟨_,rfl⟩)
    ·exact .inr ⟨c,k j b x c⟩
    ·exact .inl rfl
  ·rw[ZM a e];exact⟨.inl,λh=>h.elim id (λh=>absurd h.1 e)⟩
theorem LM{a:StO}(e:XG a){i:Nat}(hi:i<4)(d:¬(a i).length<4)(l:List zi) :
  yR a (i:Int) qV (qi l)=(10,0)/\xE a (i:Int) qV (qi l)=a:=by
 obtain⟨b,c⟩:=lN a hi (qi l) (ZG l);rw[iX e hi,Bool.false_or,decide_eq_false d] at b c;exact⟨b,c⟩
theorem LV{a:StO}(b:yY a){n:Nat}{y:zk}(c:y ∈ a n)(h:n<4)(hb:y.1=qV)(p:qz):yY (jU a p)/\y ∈ jU a p n:=by
 have g:=(Yj a (X0 p) (QK p) (qi p.rules) (ZG p.rules)).2;have f:jU a p=xE a (p.lay:Int) (zT p.num) (qi p.rules):=rfl;rw[f,g]
 cases hc:zl (a p.lay) (zT p.num)||decide ((a p.lay).length<4) with
 | false=>exact⟨b,c⟩
 | true=>
  simp only[if_true]
  constructor
  ·intro j d
   by_cases e:j=p.lay
   ·subst e;rw[uH];exact (b _ d).with hc (VQ _ (by rw[ZG]))
   ·rw[ZM a e];exact b j d
  ·by_cases e:n=p.lay
   ·subst e;rw[uH,Qk (b _ h).1];exact .inr ⟨c,by rw[hb];exact λe=>lM _ (QK p) e.symm⟩
   ·rw[ZM a e];exact c
end Kp
namespace De
theorem Bt{a:Nat->List zk}{r:Ref.Req}{n:Nat}{y:zk}(d:n<4)(c:y ∈ a n)(b:∃s ∈ y.2,yO yj r s=true):xx a r=2:=by
 unfold xx;rw[if_pos];rw[YE];exact⟨n,by simp;omega,y,c,b⟩
theorem Cr(r:Ref.Req):xx qm r=3:=by rfl
theorem sw{a:Nat->List zk}{n:Nat}{y:zk}(h:More qm a n y)(hd:VX y.2)(r:Ref.Req):xx a r≠1/\(xx a r=2->∃s ∈ y.2,yO yj r s=true):=by
 constructor
 ·intro e
  have:=h.allow hd e
  rw[Cr] at this
  cases this
 ·intro e
  have c:kE a yj r [0,1,2,3]=true:=by
   cases hh:kE a yj r [0,1,2,3] with
   | true=>rfl
   | false=>
    unfold xx at e;rw[hh,if_neg (by simp)] at e
    split at e
    ·cases e
    ·split at e<;>cases e
  rw[YE] at c;obtain⟨i,hi,x,b,d⟩:=c
  rcases (h.mem i (by simp at hi;omega) x).1 b with b|⟨_,rfl⟩
  ·simp[qm] at b
  ·exact d
end De
def Ji(r:Kp.zi)(v1 v2 v3:Value):List Value:=[.bool r.deny,v1,v2,v3,.int .i64 r.nt,.int .i64 r.iff,.int .i64 r.key,.int .i64 r.val,.bool r.no,.int .i64 r.style]
structure jV (w:World) (xs:List Value) (l:List Kp.zi):Prop where
 len:xs.length=l.length*10
 at':∀(k:Nat) (r:Kp.zi),l[k]?=some r->Qt r/\r.who.length<=maxLen/\r.act.length<=maxLen/\r.on.length<=maxLen/\∃v1 v2 v3,(∀t,t<10->xs[k*10+t]?=(Ji r v1 v2 v3)[t]?)/\IntsIn w v1 r.who/\IntsIn w v2 r.act/\IntsIn w v3 r.on
theorem jV.nil(w:World):jV w [] []:=⟨rfl,λk r h=>by simp at h⟩
theorem jV.turn{w a:World}{xs:List Value}{l:List Kp.zi}(h:jV w xs l)(hi:∀v z,IntsIn w v z->IntsIn a v z):jV a xs l:=
 ⟨h.len,λk r c=>by
  obtain⟨f,i,j,m,v1,v2,v3,b,d,e,g⟩:=h.at' k r c;exact⟨f,i,j,m,v1,v2,v3,b,hi _ _ d,hi _ _ e,hi _ _ g⟩⟩
theorem jV.more{w:World}{xs:List Value}{l:List Kp.zi}(h:jV w xs l){r:Kp.zi}{v1 v2 v3:Value}(f:Qt r)(q:r.who.length<=maxLen)(s:r.act.length<=maxLen)(u:r.on.length<=maxLen)(i:IntsIn w v1 r.who)(j:IntsIn w v2 r.act)(m:IntsIn w v3 r.on):jV w (xs++Ji r v1 v2 v3) (l++[r]):=by
 have c:=h.len;refine⟨by rw[List.length_append,List.length_append,c];simp[Ji];omega,λk z a=>?_⟩
 by_cases hk:k<l.length
 ·rw[List.getElem?_append_left hk] at a;obtain⟨e,v,x,y,u1,u2,u3,g,n,o,p⟩:=h.at' k z a;refine⟨e,v,x,y,u1,u2,u3,λt d=>?_,n,o,p⟩;rw[List.getElem?_append_left (by omega)];exact g t d
 ·have b:k=l.length:=by
   have:=(List.getElem?_eq_some_iff.1 a).1
   rw[List.length_append,List.length_singleton] at this;omega
  subst b;rw[List.getElem?_append_right (Nat.le_refl _)] at a;simp at a;subst a;refine⟨f,q,s,u,v1,v2,v3,λt d=>?_,i,j,m⟩;rw[List.getElem?_append_right (by omega),c];congr 1;omega
theorem jV.rules{w:World}{B:Nat}{v:Value}{xs:List Value}{l:List Kp.zi}(h:jV w xs l)(c:w.ownsRow B 66 10 v l.length xs):vO w v l:=by
 have a:=c
 rcases c.2 with ⟨e,h0⟩|⟨gb,cap,cur,e,_⟩
 ·have g:l=[]:=List.length_eq_zero_iff.1 h0;subst g;exact⟨none,0,e,λk r b=>by simp at b⟩
 ·rw[e] at a;refine⟨some ⟨gb,0,none⟩,cap,e,λk r b=>?_⟩;obtain⟨f,o,p,q,v1,v2,v3,d,j,m,n⟩:=h.at' k r b;have s:k<l.length:=(List.getElem?_eq_some_iff.1 b).1
  have cell:∀t,t<10->w.cell? ⟨gb,0+k*10+t,none⟩=(Ji r v1 v2 v3)[t]?:=λt i=>by
   rw[Nat.zero_add,World.ownsRow.cellAt a (k*10+t) (by omega)];exact d t i
  exact⟨f,o,p,q,gb,0,v1,v2,v3,rfl,⟨cell 0 (by omega),cell 1 (by omega),cell 2 (by omega),cell 3 (by omega),cell 4 (by omega),cell 5 (by omega),cell 6 (by omega),cell 7 (by omega),cell 8 (by omega),cell 9 (by omega)⟩,j,m,n⟩
theorem Ob:(prog.info? 66).map (λi=>(i.zero,i.size,i.bytes))=some (some (.agg #[.bool false,.slice none 0 0,.slice none 0 0,.slice none 0 0,.int .i64 0,.int .i64 0,.int .i64 0,.int .i64 0,.bool false,.int .i64 0]),10,128):=by kernel_rfl
structure yw (w wr:World) (oa:Nat) (M:Nat->Prop) (st:StO):Prop where
 below:Below w.heap.size w wr
 a:qf M wr oa st
 old:w.heap.size<=oa
 top:oa<wr.heap.size
theorem yw.step{w wr b:World}{oa:Nat}{M:Nat->Prop}{c:StO}(h:yw w wr oa M c)(hb:Below wr.heap.size wr b):yw w b oa M c:=
 ⟨h.below.trans (hb.mono h.below.size),h.a.below hb,h.old,Nat.lt_of_lt_of_le h.top hb.size⟩
theorem yw.put{w wr a:World}{oa:Nat}{M:Nat->Prop}{g c:StO}(h:yw w wr oa M g)(d:zx (λb=>b=oa) wr a)(f:qf M a oa c):yw w a oa M c:=
 ⟨h.below.trans (d.below (λk hk (e:k=oa)=>by have:=h.old;omega) h.below.size),f,h.old,Nat.lt_of_lt_of_le h.top d.size⟩
def Yx(w:World)(B:Nat)(e:Value)(n:Nat)(L:List De.Dec):Prop:=∃a c,e = .slice a n c/\∀(i:Nat) (d:De.Dec),L[i]?=some d->∃b,a=some ⟨b,0,none⟩/\B<=b/\∀t,t<4->w.cell? ⟨b,i*4+t,none⟩=(uq d)[t]?
theorem Yx.own{w:World}{B:Nat}{b:Value}{L:List De.Dec}(h:w.ownsRow B 48 4 b L.length (L.flatMap uq)):Yx w B b L.length L:=by
 have a:=h
 rcases h.2 with ⟨e,h0⟩|⟨gb,cap,cur,e,_⟩
 ·have c:L=[]:=List.length_eq_zero_iff.1 h0;subst c;exact⟨none,0,e,λi d hd=>by simp at hd⟩
 ·rw[e] at a;refine⟨some ⟨gb,0,none⟩,cap,e,λi d hd=>⟨gb,rfl,(World.ownsRow.lt a gb (by rfl)).1,λt f=>?_⟩⟩;have hi:i<L.length:=(List.getElem?_eq_some_iff.1 hd).1;rw[World.ownsRow.cellAt a (i*4+t) (by omega),Bf hd t f]
theorem Yx.turn{w l:World}{B n:Nat}{k:Value}{L:List De.Dec}{M:Nat->Prop}(h:Yx w B k n L)(p:zx M w l)(m:∀b,B<=b->¬M b):Yx l B k n L:=by
 obtain⟨a,c,rfl,h⟩:=h;refine⟨a,c,rfl,λi d hd=>?_⟩;obtain⟨g,e,hb,o⟩:=h i d hd;refine⟨g,e,hb,λt j=>?_⟩
 have f:∃v,(uq d)[t]?=some v:=by
  have:t<(uq d).length:=by simp[uq];omega
  exact⟨_,List.getElem?_eq_getElem this⟩
 obtain⟨v,f⟩:=f;rw[f];exact p.cell (x:=⟨g,i*4+t,none⟩) (m g hb) ((o t j).trans f)
theorem Hr{L:List zk}{p:Nat}(a:p<L.length):(vk L p).length=L.length-1:=by
 unfold vk;rw[List.length_append,List.length_take,List.length_drop];omega
namespace Kp
theorem LK{a:StO}(d:yY a)(l:kC a){i:Nat}(hi:i<4)(p:¬(a i).length<4) :
  ∃k b,k<6/\((a i).map Prod.fst)[0]?=some (zT k)/\(a i).length=4/\XT a (i:Int) (zT k)=b/\yY b/\XG b/\(b i).length<4:=by
 have n:(a i).length=4:=by have:=(d i hi).2.1;omega
 have h:0<(a i).length:=by omega
 obtain⟨⟨k,m,e⟩,_⟩:=l i hi _ (List.getElem_mem h);obtain⟨f,_⟩:=J4 (d i hi).1 (List.getElem_mem h);rw[e] at f;have o:=XZ f;refine⟨k,_,m,?_,n,rfl,?_,?_,?_⟩
 ·rw[List.getElem?_map,List.getElem?_eq_getElem h,Option.map_some,e]
 all_goals
  unfold XT;simp only[Int.toNat_natCast];rw[if_pos ⟨mP hi m,f⟩]
 ·intro j c
  by_cases e:j=i
  ·subst e;rw[uH];exact (d j c).less _
  ·rw[ZM a e];exact d j c
 ·intro j c x g
  by_cases e:j=i
  ·subst e;rw[uH,iD (d j c).1 f] at g;exact Y3 l j c x g.1
  ·rw[ZM a e] at g;exact Y3 l j c x g
 ·rw[uH,Hr o];omega
theorem Co:XG qm:=Y3 UH
end Kp
theorem De.ans_verdict(a:StO)(raw:List Int):(De.kG a (Kp.xU raw)).1.verdict=De.xx a (Kp.xU raw):=by
 unfold De.kG;rw[if_pos (bM raw)];exact De.SH a _
theorem De.ans_ok(a:StO)(raw:List Int):(De.kG a (Kp.xU raw)).2=0:=by unfold De.kG;rw[if_pos (bM raw)]
theorem Ir{W:World}{ao:Option Addr}{ms:List (BA×BA)}{M:Nat->Prop}{oa:Nat}{u:StO}(h:qL W ao ms)(s:qf M W oa u)(j:ms≠[]):∃b o,ao=some ⟨b,o,none⟩/\b≠oa/\b<W.heap.size:=by
 rcases h with h|⟨b,o,e,hc⟩
 ·exact absurd h j
 ·have p:0<ms.length:=List.length_pos_iff.2 j;have d:=(hc 0 p).1;refine⟨b,o,e,λl=>?_,World.block_lt_of_cell? _ _ d⟩;subst l;obtain⟨f,q,r⟩:=s.row;rw[(za q _).1] at d
  have k:∀i,i<4->∃a n c,f i = .slice a n c:=λi hi=>by
   obtain⟨a,c,e,_⟩:=r i hi;exact⟨a,_,c,e⟩
  have g:o+0*2<4:=by
   have:=(Array.getElem?_eq_some_iff.1 d).1
   simpa using this
  obtain⟨a,n,c,m⟩:=k _ g
  have t:(#[f 0,f 1,f 2,f 3]:Array Value)[o+0*2]?=some (f (o+0*2)):=by
   rcases lt4 g with h|h|h|h<;>rw[h]<;>rfl
  rw[t,m] at d
  cases d
theorem qL.turn{W a:World}{ao:Option Addr}{ms:List (BA×BA)}{N:Nat->Prop}(h:qL W ao ms)(f:zx N W a)(c:ms≠[]->∀b o,ao=some ⟨b,o,none⟩->¬N b):qL a ao ms:=by
 rcases h with h|⟨b,o,e,hc⟩
 ·exact .inl h
 ·by_cases hne:ms=[]
  ·exact .inl hne
  ·exact .inr ⟨b,o,e,λj d=>⟨f.cell (x:=⟨b,_,none⟩) (c hne b o e) (hc j d).1,f.cell (x:=⟨b,_,none⟩) (c hne b o e) (hc j d).2⟩⟩
def jh(N:Nat->Prop)(P:World->Prop)(W:World):Prop:=∀a,zx N W a->P a
theorem jh.now{N:Nat->Prop}{P:World->Prop}{W:World}(h:jh N P W):P W:=h W (zx.refl _ _)
theorem jh.turn{N:Nat->Prop}{P:World->Prop}{W a:World}(h:jh N P W)(t:zx N W a):jh N P a:=λX b=>h X (t.trans b)
theorem jh.step{N:Nat->Prop}{P:World->Prop}{W a:World}(h:jh N P W)(hb:Below W.heap.size W a):jh N P a:=h.turn (zx.of hb)
theorem jh.one{N:Nat->Prop}{P:World->Prop}{W a:World}{k:Nat}(h:jh N P W)(t:zx (λb=>b=k) W a)(c:N k):jh N P a:=h.turn (t.wide (λ_ _ e=>by rw[e];exact c))
theorem yw.other{w wr c:World}{oa k:Nat}{M:Nat->Prop}{g:StO}(h:yw w wr oa M g)(f:zx (λb=>b=k) wr c)(d:oa≠k)(i:M k)(j:w.heap.size<=k):yw w c oa M g:=
 ⟨h.below.trans (f.below (λx hx (e:x=k)=>by omega) h.below.size),h.a.other f d i,h.old,Nat.lt_of_lt_of_le h.top f.size⟩
theorem yw.wide{w wr:World}{oa:Nat}{M c:Nat->Prop}{d:StO}(h:yw w wr oa M d)(e:∀b,c b->M b\/wr.heap.size<=b)(f:c oa):yw w wr oa c d:=⟨h.below,h.a.more e f,h.old,h.top⟩
def FmM(oa db a b:Nat):Prop:=b=oa\/b=db\/b=a
structure FmP (w:World) (dv:Value) (D:List Kp.zi) (rb:Nat) (r:Ref.Req) (ao:Option Addr) (cap:Nat) (W:World):Prop where
 rules:vO W dv D
 req:W.heap[rb]?=some (yc (.string r.who) (.string r.act) (.string r.on) (.slice ao r.marks.length cap))
 marks:qL W ao r.marks
 below:Below w.heap.size w W
theorem FmP.cells{w:World}{b:Value}{D:List Kp.zi}{a:Nat}{r:Ref.Req}{ao:Option Addr}{cap:Nat}{W:World}(h:FmP w b D a r ao cap W):W.cell? ⟨a,0,none⟩=some (.string r.who)/\W.cell? ⟨a,1,none⟩=some (.string r.act)/\W.cell? ⟨a,2,none⟩=some (.string r.on)/\W.cell? ⟨a,3,none⟩=some (.slice ao r.marks.length cap):=by
 have c:=λk=>(za h.req k).1;exact⟨c 0,c 1,c 2,c 3⟩
theorem Dv{w d g:World}{B oa db i cap:Nat}{q:Value}{D:List Kp.zi}{xs:List Value}{r:Ref.Req}{ao:Option Addr}
  (s:Below w.heap.size w d)(x:B=d.heap.size)(hb:Below B d g)(y:g.ownsRow B 66 10 q D.length xs)(A:jV w xs D)
  (c:d.heap[i]?=some (yc (.string r.who) (.string r.act) (.string r.on) (.slice ao r.marks.length cap)))(j:qL d ao r.marks)(n:r.marks≠[]->∀b o,ao=some ⟨b,o,none⟩->b≠oa/\b≠db)
  (F:i≠oa)(G:i≠db)(H:oa<B)(I:db<B)(J:w.heap.size<=oa)(K:w.heap.size<=db) :
  jh (FmM oa db g.heap.size) (FmP w q D i r ao cap) g:=by
 subst x;intro u l;have a:Below d.heap.size d g:=hb;have hw7:Below w.heap.size w g:=s.trans (a.mono s.size);have t:Below w.heap.size w u:=hw7.trans (l.below (λk L e=>by have:=hw7.size;rcases e with e|e|e<;>omega) hw7.size)
 have p:=lt_of_block c;refine⟨?_,?_,?_,t⟩
 ·refine (A.turn (λv z hi=>hi.below t)).rules (Vp y (λb hb m=>?_));exact l.block b m (λe=>by rcases e with e|e|e<;>omega)
 ·have:=a.size
  rw[l.block i (by omega) (λe=>by rcases e with e|e|e<;>omega),a.block i p]
  exact c
 ·refine (qL.turn (N:=λ_=>False) j (zx.of a) (λ_ _ _ _ h=>h)).turn l (λf b o e h=>?_);obtain⟨C,E⟩:=n f b o e
  rcases j with j|⟨b',o',e',hc⟩
  ·exact f j
  ·rw[e] at e';injection e' with e'
   injection e' with e1 e2
   subst e1;have m:=World.block_lt_of_cell? _ _ (hc 0 (List.length_pos_iff.2 f)).1
   have:=a.size
   simp only at m
   rcases h with h|h|h<;>omega
theorem lX{w:World}{B:Nat}{t:TypeId}{s n:Nat}{v:Value}{xs:List Value}(h:w.ownsRow B t s v n xs):∃a c,v = .slice a n c:=by
 rcases h.2 with ⟨e,h0⟩|⟨gb,cap,cur,e,_⟩
 ·exact⟨none,0,by rw[e,h0]⟩
 ·exact⟨_,_,e⟩
theorem Bn{raw:List Int}{r:Ref.Req}(g:Kp.xU raw=r)(b:Nat)(d:StO)(M:Nat->Prop)(w:World)(ao:Option Addr)(cap:Nat)(h:qf M w b d)(a:qL w ao r.marks)(f:qP w) :
  ∃(v1:Int) (v2:BA) (v3:Int),Calls prog 25 #[.pointer (some ⟨b,0,none⟩),.agg #[.string r.who,.string r.act,.string r.on,.slice ao r.marks.length cap]] w λe i=>e = .returned (.tuple #[.agg #[.int .i64 ((De.xx d r:Nat):Int),.int .i64 v1,.string v2,.int .i64 v3],.int .i64 0])/\Below w.heap.size w i:=by
 subst g;have c:=mR b d (Kp.xU raw) ao cap M w h a (sW raw) f;rw[De.ans_ok] at c;unfold JR kH Ref.qy at c;rw[De.ans_verdict] at c;exact⟨_,_,_,c⟩
end Go.Proofs.YtdakgnaojakldaaGreatDoor
