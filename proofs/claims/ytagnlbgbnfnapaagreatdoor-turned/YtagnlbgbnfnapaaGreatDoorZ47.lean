/- P -/
import Derived.Test.YtagnlbgbnfnapaaGreatDoorZ46
open Go.Proofs.Tryz
set_option maxRecDepth 100000
namespace Go.Proofs.YtagnlbgbnfnapaaGreatDoor
open Go.RowKit
namespace Kp
def xS:BA:=⟨#[111,110,108,121]⟩
theorem Pm:Ref.qm xS=true:=by kernel_rfl
theorem wP:∀k,k<6->qy k≠xS:=by decide +kernel
def Qu(r:zm):zm:=⟨true,r.who,r.act,r.on,r.nt,r.iff,r.key,r.val,r.no,r.style⟩
def Zb(rules:List zm):List zm:=if rules.length=0 then [Qu xu] else rules.map Qu
theorem Gj{rules:List zm}{r:zm}(h:r ∈ Zb rules):r.deny=true:=by
 unfold Zb at h
 split at h
 ·rw[xP] at h;subst h;rfl
 ·obtain⟨x,_,rfl⟩:=qR.1 h;rfl
theorem oG(rules:List zm):(Zb rules).length≠0:=by
 unfold Zb
 split
 ·simp
 ·rename_i h;rw[qg];exact h
theorem Pi(rules:List zm):De.ae (Zc (Zb rules)):=by
 intro s c r;obtain⟨x,a,rfl⟩:=Gv c;unfold Ug at a;rw[za (oG rules)] at a;have hd:=Gj (Ju a);unfold De.yH;have b:(stK x).eff=yo:=by show Qx x=yo;unfold Qx;rw[hd];rfl
 rw[b]
 have:(yo.toList==De.xR.toList)=false:=by kernel_rfl
 rw[this]
 rfl
theorem Po{i:Nat}(hi:i<4):vL (i:Int) xS=0:=by
 unfold vL kC;have a:decide ((0:Int)<=(i:Int))=true:=zF (by omega);have b:decide ((i:Int)<4)=true:=zF (by omega);rw[a,b,Pm]
 rfl
theorem wQ(a:StO){i:Nat}(hi:i<4)(text:BA)(b:Rd.jT text=(0,0)) :
  jW a (i:Int) xS text=(if zO (a i) xS||decide ((a i).length<4) then (0,0) else (10,0)) /\
  yj a (i:Int) xS text=(if zO (a i) xS||decide ((a i).length<4) then upd a i (jg (a i) xS (um text)) else a):=by
 have c:=Po hi;unfold jW yj Vj;simp only[Xv];rw[c,b];simp only[qO,decide_true,Qg,and_self]
def Jy(a:StO):Prop:=∀i,i<4->∀x ∈ a i,x.1≠xS
theorem V4{a:StO}(h:Qn a):Jy a:=λi hi x c=>by
 obtain⟨⟨k,b,e⟩,_⟩:=h i hi x c;rw[e];exact wP k b
theorem tZ{a:StO}(h:Jy a){i:Nat}(hi:i<4):zO (a i) xS=false:=by
 cases hh:zO (a i) xS with
 | false=>rfl
 | true=>
  obtain⟨c,b,_⟩:=fM hh;exact absurd rfl (h i hi _ b)
theorem gy{a:StO}(f:vo a)(k:Jy a){i:Nat}(hi:i<4)(g:(a i).length<4)(l:List zm) :
  jW a (i:Int) xS (qQ l)=(0,0)/\vo (yj a (i:Int) xS (qQ l))/\De.More a (yj a (i:Int) xS (qQ l)) i (xS,Zc l):=by
 obtain⟨m,d⟩:=wQ a hi (qQ l) (Qb l);rw[tZ k hi,Xo,zF g] at m d;simp only[qO] at d;refine⟨m,?_,hi,?_⟩
 ·rw[d];intro j b
  by_cases e:j=i
  ·subst e;rw[kJ];exact (f j b).with (by rw[zF g,Bool.or_true]) (KZ _ (by rw[Qb]))
  ·rw[Qe a e];exact f j b
 ·intro j b x;rw[d]
  by_cases e:j=i
  ·subst e;rw[kJ,Jb (f j b).1,Uq]
   constructor
   ·rintro (rfl|⟨c,_⟩)
    ·exact .inr ⟨rfl,rfl⟩
    ·exact .inl c
   ·rintro (c|⟨_,rfl⟩)
    ·exact .inr ⟨c,k j b x c⟩
    ·exact .inl rfl
  ·rw[Qe a e];exact⟨.inl,λh=>h.elim id (λh=>absurd h.1 e)⟩
theorem Pk{a:StO}(e:Jy a){i:Nat}(hi:i<4)(d:¬(a i).length<4)(l:List zm) :
  jW a (i:Int) xS (qQ l)=(10,0)/\yj a (i:Int) xS (qQ l)=a:=by
 obtain⟨b,c⟩:=wQ a hi (qQ l) (Qb l);rw[tZ e hi,Xo,zH d] at b c;exact⟨b,c⟩
theorem Pp{a:StO}(b:vo a){n:Nat}{y:zu}(c:y ∈ a n)(h:n<4)(hb:y.1=xS)(p:qp):vo (jf a p)/\y ∈ jf a p n:=by
 have g:=(Yw a (Yp p) (Xe p) (qQ p.rules) (Qb p.rules)).2;have f:jf a p=yj a (p.lay:Int) (qy p.num) (qQ p.rules):=rfl;rw[f,g]
 cases hc:zO (a p.lay) (qy p.num)||decide ((a p.lay).length<4) with
 | false=>exact⟨b,c⟩
 | true=>
  simp only[qO]
  constructor
  ·intro j d
   by_cases e:j=p.lay
   ·subst e;rw[kJ];exact (b _ d).with hc (KZ _ (by rw[Qb]))
   ·rw[Qe a e];exact b j d
  ·by_cases e:n=p.lay
   ·subst e;rw[kJ,Jb (b _ h).1];exact .inr ⟨c,by rw[hb];exact λe=>wP _ (Xe p) e.symm⟩
   ·rw[Qe a e];exact c
end Kp
namespace De
theorem Gm{a:Nat->List zu}{r:Ref.Req}{n:Nat}{y:zu}(d:n<4)(c:y ∈ a n)(b:∃s ∈ y.2,yH yo r s=true):yA a r=2:=by
 unfold yA;rw[zb];rw[VG];exact⟨n,by simp;omega,y,c,b⟩
theorem Ht(r:Ref.Req):yA xy r=3:=by rfl
theorem DF{a:Nat->List zu}{n:Nat}{y:zu}(h:More xy a n y)(hd:ae y.2)(r:Ref.Req):yA a r≠1/\(yA a r=2->∃s ∈ y.2,yH yo r s=true):=by
 constructor
 ·intro e
  have:=h.allow hd e
  rw[Ht] at this
  cases this
 ·intro e
  have c:Q5 a yo r [0,1,2,3]=true:=by
   cases hh:Q5 a yo r [0,1,2,3] with
   | true=>rfl
   | false=>
    unfold yA at e;rw[hh,za (by simp)] at e
    split at e
    ·cases e
    ·split at e<;>cases e
  rw[VG] at c;obtain⟨i,hi,x,b,d⟩:=c
  rcases (h.mem i (by simp at hi;omega) x).1 b with b|⟨_,rfl⟩
  ·simp[xy] at b
  ·exact d
end De
def Uf(r:Kp.zm)(v1 v2 v3:Value):List Value:=[.bool r.deny,v1,v2,v3,.int .i64 r.nt,.int .i64 r.iff,.int .i64 r.key,.int .i64 r.val,.bool r.no,.int .i64 r.style]
structure uX (w:World) (xs:List Value) (l:List Kp.zm):Prop where
 len:xs.length=l.length*10
 at':∀(k:Nat) (r:Kp.zm),l[k]?=some r->Qo r/\r.who.length<=maxLen/\r.act.length<=maxLen/\r.on.length<=maxLen/\∃v1 v2 v3,(∀t,t<10->xs[k*10+t]?=(Uf r v1 v2 v3)[t]?)/\IntsIn w v1 r.who/\IntsIn w v2 r.act/\IntsIn w v3 r.on
theorem uX.nil(w:World):uX w [] []:=⟨rfl,λk r h=>by simp at h⟩
theorem uX.turn{w a:World}{xs:List Value}{l:List Kp.zm}(h:uX w xs l)(hi:∀v z,IntsIn w v z->IntsIn a v z):uX a xs l:=
 ⟨h.len,λk r c=>by
  obtain⟨f,i,j,m,v1,v2,v3,b,d,e,g⟩:=h.at' k r c;exact⟨f,i,j,m,v1,v2,v3,b,hi _ _ d,hi _ _ e,hi _ _ g⟩⟩
theorem uX.more{w:World}{xs:List Value}{l:List Kp.zm}(h:uX w xs l){r:Kp.zm}{v1 v2 v3:Value}(f:Qo r)(q:r.who.length<=maxLen)(s:r.act.length<=maxLen)(u:r.on.length<=maxLen)(i:IntsIn w v1 r.who)(j:IntsIn w v2 r.act)(m:IntsIn w v3 r.on):uX w (xs++Uf r v1 v2 v3) (l++[r]):=by
 have c:=h.len;refine⟨by rw[qL,qL,c];simp[Uf];omega,λk z a=>?_⟩
 by_cases hk:k<l.length
 ·rw[kR hk] at a;obtain⟨e,v,x,y,u1,u2,u3,g,n,o,p⟩:=h.at' k z a;refine⟨e,v,x,y,u1,u2,u3,λt d=>?_,n,o,p⟩;rw[kR (by omega)];exact g t d
 ·have b:k=l.length:=by
   have:=(xw.1 a).1
   rw[qL,xV] at this;omega
  subst b;rw[ZR (ze _)] at a;simp at a;subst a;refine⟨f,q,s,u,v1,v2,v3,λt d=>?_,i,j,m⟩;rw[ZR (by omega),c];congr 1;omega
theorem uX.rules{w:World}{B:Nat}{v:Value}{xs:List Value}{l:List Kp.zm}(h:uX w xs l)(c:w.ownsRow B 42 10 v l.length xs):uY w v l:=by
 have a:=c
 rcases c.2 with ⟨e,h0⟩|⟨gb,cap,cur,e,_⟩
 ·have g:l=[]:=uW.1 h0;subst g;exact⟨none,0,e,λk r b=>by simp at b⟩
 ·rw[e] at a;refine⟨some ⟨gb,0,none⟩,cap,e,λk r b=>?_⟩;obtain⟨f,o,p,q,v1,v2,v3,d,j,m,n⟩:=h.at' k r b;have s:k<l.length:=(xw.1 b).1
  have cell:∀t,t<10->w.cell? ⟨gb,0+k*10+t,none⟩=(Uf r v1 v2 v3)[t]?:=λt i=>by
   rw[qM,World.ownsRow.cellAt a (k*10+t) (by omega)];exact d t i
  exact⟨f,o,p,q,gb,0,v1,v2,v3,rfl,⟨cell 0 (by omega),cell 1 (by omega),cell 2 (by omega),cell 3 (by omega),cell 4 (by omega),cell 5 (by omega),cell 6 (by omega),cell 7 (by omega),cell 8 (by omega),cell 9 (by omega)⟩,j,m,n⟩
theorem SK:(prog.info? 42).map (λi=>(i.zero,i.size,i.bytes))=some (some (.agg #[.bool false,.slice none 0 0,.slice none 0 0,.slice none 0 0,.int .i64 0,.int .i64 0,.int .i64 0,.int .i64 0,.bool false,.int .i64 0]),10,128):=by kernel_rfl
structure jr (w wr:World) (oa:Nat) (M:Nat->Prop) (st:StO):Prop where
 below:Below w.heap.size w wr
 a:qN M wr oa st
 old:w.heap.size<=oa
 top:oa<wr.heap.size
theorem jr.step{w wr b:World}{oa:Nat}{M:Nat->Prop}{c:StO}(h:jr w wr oa M c)(hb:Below wr.heap.size wr b):jr w b oa M c:=
 ⟨h.below.trans (hb.mono h.below.size),h.a.below hb,h.old,xx h.top hb.size⟩
theorem jr.put{w wr a:World}{oa:Nat}{M:Nat->Prop}{g c:StO}(h:jr w wr oa M g)(d:zC (λb=>b=oa) wr a)(f:qN M a oa c):jr w a oa M c:=
 ⟨h.below.trans (d.below (λk hk (e:k=oa)=>by have:=h.old;omega) h.below.size),f,h.old,xx h.top d.size⟩
theorem Nr{L:List zu}{p:Nat}(a:p<L.length):(Zf L p).length=L.length-1:=by
 unfold Zf;rw[qL,xE,Zu];omega
namespace Kp
theorem Pj{a:StO}(d:vo a)(l:Qn a){i:Nat}(hi:i<4)(p:¬(a i).length<4) :
  ∃k b,k<6/\((a i).map Prod.fst)[0]?=some (qy k)/\(a i).length=4/\JO a (i:Int) (qy k)=b/\vo b/\Jy b/\(b i).length<4:=by
 have n:(a i).length=4:=by have:=(d i hi).2.1;omega
 have h:0<(a i).length:=by omega
 obtain⟨⟨k,m,e⟩,_⟩:=l i hi _ (xg h);obtain⟨f,_⟩:=dH (d i hi).1 (xg h);rw[e] at f;have o:=JX f;refine⟨k,_,m,?_,n,rfl,?_,?_,?_⟩
 ·rw[vv,zt h,Q3,e]
 all_goals
  unfold JO;simp only[Xv];rw[zb ⟨Ap hi m,f⟩]
 ·intro j c
  by_cases e:j=i
  ·subst e;rw[kJ];exact (d j c).less _
  ·rw[Qe a e];exact d j c
 ·intro j c x g
  by_cases e:j=i
  ·subst e;rw[kJ,Oi (d j c).1 f] at g;exact V4 l j c x g.1
  ·rw[Qe a e] at g;exact V4 l j c x g
 ·rw[kJ,Nr o];omega
theorem Hq:Jy xy:=V4 bS
end Kp
theorem De.ans_verdict(a:StO)(raw:List Int):(De.yF a (Kp.xe raw)).1.verdict=De.yA a (Kp.xe raw):=by
 unfold De.yF;rw[zb (JH raw)];exact De.za0 a _
theorem De.ans_ok(a:StO)(raw:List Int):(De.yF a (Kp.xe raw)).2=0:=by unfold De.yF;rw[zb (JH raw)]
theorem NS{W:World}{ao:Option Addr}{ms:List (BA×BA)}{M:Nat->Prop}{oa:Nat}{u:StO}(h:xD W ao ms)(s:qN M W oa u)(j:ms≠[]):∃b o,ao=some ⟨b,o,none⟩/\b≠oa/\b<W.heap.size:=by
 rcases h with h|⟨b,o,e,hc⟩
 ·exact absurd h j
 ·have p:0<ms.length:=List.length_pos_iff.2 j;have d:=(hc 0 p).1;refine⟨b,o,e,λl=>?_,kX _ _ d⟩;subst l;obtain⟨f,q,r⟩:=s.row;rw[(zf q _).1] at d
  have k:∀i,i<4->∃a n c,f i = .slice a n c:=λi hi=>by
   obtain⟨a,c,e,_⟩:=r i hi;exact⟨a,_,c,e⟩
  have g:o+0*2<4:=by
   have:=(YI.1 d).1
   simpa using this
  obtain⟨a,n,c,m⟩:=k _ g
  have t:(#[f 0,f 1,f 2,f 3]:Array Value)[o+0*2]?=some (f (o+0*2)):=by
   rcases lt4 g with h|h|h|h<;>rw[h]<;>rfl
  rw[t,m] at d
  cases d
theorem xD.turn{W a:World}{ao:Option Addr}{ms:List (BA×BA)}{N:Nat->Prop}(h:xD W ao ms)(f:zC N W a)(c:ms≠[]->∀b o,ao=some ⟨b,o,none⟩->¬N b):xD a ao ms:=by
 rcases h with h|⟨b,o,e,hc⟩
 ·exact .inl h
 ·by_cases hne:ms=[]
  ·exact .inl hne
  ·exact .inr ⟨b,o,e,λj d=>⟨f.cell (x:=⟨b,_,none⟩) (c hne b o e) (hc j d).1,f.cell (x:=⟨b,_,none⟩) (c hne b o e) (hc j d).2⟩⟩
def vO(N:Nat->Prop)(P:World->Prop)(W:World):Prop:=∀a,zC N W a->P a
theorem vO.now{N:Nat->Prop}{P:World->Prop}{W:World}(h:vO N P W):P W:=h W (zC.refl _ _)
theorem vO.turn{N:Nat->Prop}{P:World->Prop}{W a:World}(h:vO N P W)(t:zC N W a):vO N P a:=λX b=>h X (t.trans b)
theorem vO.step{N:Nat->Prop}{P:World->Prop}{W a:World}(h:vO N P W)(hb:Below W.heap.size W a):vO N P a:=h.turn (zC.of hb)
theorem vO.one{N:Nat->Prop}{P:World->Prop}{W a:World}{k:Nat}(h:vO N P W)(t:zC (λb=>b=k) W a)(c:N k):vO N P a:=h.turn (t.wide (λ_ _ e=>by rw[e];exact c))
theorem jr.other{w wr c:World}{oa k:Nat}{M:Nat->Prop}{g:StO}(h:jr w wr oa M g)(f:zC (λb=>b=k) wr c)(d:oa≠k)(i:M k)(j:w.heap.size<=k):jr w c oa M g:=
 ⟨h.below.trans (f.below (λx hx (e:x=k)=>by omega) h.below.size),h.a.other f d i,h.old,xx h.top f.size⟩
theorem jr.wide{w wr:World}{oa:Nat}{M M':Nat->Prop}{c:StO}(h:jr w wr oa M c)(d:∀b,M' b->M b\/wr.heap.size<=b)(e:M' oa):jr w wr oa M' c:=⟨h.below,h.a.more d e,h.old,h.top⟩
def FmM(oa db a b:Nat):Prop:=b=oa\/b=db\/b=a
structure FmP (w:World) (dv:Value) (D:List Kp.zm) (rb:Nat) (r:Ref.Req) (ao:Option Addr) (cap:Nat) (W:World):Prop where
 rules:uY W dv D
 req:W.heap[rb]?=some (jc (.string r.who) (.string r.act) (.string r.on) (.slice ao r.marks.length cap))
 marks:xD W ao r.marks
 below:Below w.heap.size w W
theorem FmP.cells{w:World}{b:Value}{D:List Kp.zm}{a:Nat}{r:Ref.Req}{ao:Option Addr}{cap:Nat}{W:World}(h:FmP w b D a r ao cap W):W.cell? ⟨a,0,none⟩=some (.string r.who)/\W.cell? ⟨a,1,none⟩=some (.string r.act)/\W.cell? ⟨a,2,none⟩=some (.string r.on)/\W.cell? ⟨a,3,none⟩=some (.slice ao r.marks.length cap):=by
 have c:=λk=>(zf h.req k).1;exact⟨c 0,c 1,c 2,c 3⟩
theorem IG{w d g:World}{B oa db i cap:Nat}{q:Value}{D:List Kp.zm}{xs:List Value}{r:Ref.Req}{ao:Option Addr}
  (s:Below w.heap.size w d)(x:B=d.heap.size)(hb:Below B d g)(y:g.ownsRow B 42 10 q D.length xs)(A:uX w xs D)
  (c:d.heap[i]?=some (jc (.string r.who) (.string r.act) (.string r.on) (.slice ao r.marks.length cap)))(j:xD d ao r.marks)(n:r.marks≠[]->∀b o,ao=some ⟨b,o,none⟩->b≠oa/\b≠db)
  (F:i≠oa)(G:i≠db)(H:oa<B)(I:db<B)(J:w.heap.size<=oa)(K:w.heap.size<=db) :
  vO (FmM oa db g.heap.size) (FmP w q D i r ao cap) g:=by
 subst x;intro u l;have a:Below d.heap.size d g:=hb;have hw7:Below w.heap.size w g:=s.trans (a.mono s.size);have t:Below w.heap.size w u:=hw7.trans (l.below (λk L e=>by have:=hw7.size;rcases e with e|e|e<;>omega) hw7.size)
 have p:=zY c;refine⟨?_,?_,?_,t⟩
 ·refine (A.turn (λv z hi=>hi.below t)).rules (Kr y (λb hb m=>?_));exact l.block b m (λe=>by rcases e with e|e|e<;>omega)
 ·have:=a.size
  rw[l.block i (by omega) (λe=>by rcases e with e|e|e<;>omega),a.block i p]
  exact c
 ·refine (xD.turn (N:=λ_=>False) j (zC.of a) (λ_ _ _ _ h=>h)).turn l (λf b o e h=>?_);obtain⟨C,E⟩:=n f b o e
  rcases j with j|⟨b',o',e',hc⟩
  ·exact f j
  ·rw[e] at e';injection e' with e'
   injection e' with e1 e2
   subst e1;have m:=kX _ _ (hc 0 (List.length_pos_iff.2 f)).1
   have:=a.size
   simp only at m
   rcases h with h|h|h<;>omega
theorem wY{w:World}{B:Nat}{t:TypeId}{s n:Nat}{v:Value}{xs:List Value}(h:w.ownsRow B t s v n xs):∃a c,v = .slice a n c:=by
 rcases h.2 with ⟨e,h0⟩|⟨gb,cap,cur,e,_⟩
 ·exact⟨none,0,by rw[e,h0]⟩
 ·exact⟨_,_,e⟩
theorem Gf{raw:List Int}{r:Ref.Req}(g:Kp.xe raw=r)(b:Nat)(d:StO)(M:Nat->Prop)(w:World)(ao:Option Addr)(cap:Nat)(h:qN M w b d)(a:xD w ao r.marks)(f:xK w) :
  ∃(v1:Int) (v2:BA) (v3:Int),Calls prog 10 #[.pointer (some ⟨b,0,none⟩),.agg #[.string r.who,.string r.act,.string r.on,.slice ao r.marks.length cap]] w λe i=>e = .returned (.tuple #[.agg #[.int .i64 ((De.yA d r:Nat):Int),.int .i64 v1,.string v2,.int .i64 v3],.int .i64 0])/\Below w.heap.size w i:=by
 subst g;have c:=KE b d (Kp.xe raw) ao cap M w h a (mM raw) f;rw[De.ans_ok] at c;unfold VP ZX Ref.qY at c;rw[De.ans_verdict] at c;exact⟨_,_,_,c⟩
end Go.Proofs.YtagnlbgbnfnapaaGreatDoor
