/- P -/
import Derived.Test.YtagnlbgbnfnapaaGreatDoorZ49
open Go.Proofs.Tryz
set_option maxRecDepth 100000
set_option maxHeartbeats 4000000
namespace Go.Proofs.YtagnlbgbnfnapaaGreatDoor
open Go.RowKit
theorem DW{α:Type}{L c:List α}(h:∀x,x ∈ L↔x ∈ c)(f:α->Bool):L.any f=c.any f:=by
 rw[vk,uT,uT];exact⟨λ⟨x,b,a⟩=>⟨x,(h x).1 b,a⟩,λ⟨x,b,a⟩=>⟨x,(h x).2 b,a⟩⟩
namespace Kp
theorem Bv(raw:List Int)(s:BA):s ∈ jq raw↔∃x ∈ raw.take 4,patterns.getD (zy x 14) ⟨#[]⟩=s:=by
 unfold jq;rw[qR]
theorem Bu(raw:List Int):(jq raw).length=(raw.take 4).length:=by unfold jq;rw[qg]
theorem Fg(l:List Int)(b:Int)(s:BA):s ∈ qU (qi l b)↔s ∈ qU l:=by
 obtain⟨g,c⟩:=KY l b;have d:(qi l b).take 4=qi l b:=ZU g;unfold qU;rw[Bu,Bu,d]
 by_cases e:l.length=0
 ·rw[zb (c.2 e),zb (by rw[xE];omega)]
 ·rw[za (λf=>e (c.1 f)),za (by rw[xE];omega),Bv,Bv,d]
  constructor
  ·rintro ⟨x,a,e⟩;exact⟨x,(iW l b x).1 a,e⟩
  ·rintro ⟨x,a,e⟩;exact⟨x,(iW l b x).2 a,e⟩
theorem iO(nt:Bool)(l:List Int)(b:Int)(w:BA)(q:Ref.Req):De.uk (nt,qU (qi l b)) w q=De.uk (nt,qU l) w q:=by
 unfold De.uk;rw[DW (Fg l b)]
theorem LY(b style:Int)(r:zm):Z6 (Zp b style r)=Z6 r:=by rw[rf,rf];rfl
theorem rE(b style:Int)(r:zm)(eff:BA)(q:Ref.Req):De.yH eff q (stK (Zp b style r))=De.yH eff q (stK r):=by
 have e:(stK (Zp b style r)).eff=(stK r).eff:=rfl
 have f:(stK (Zp b style r)).ifs=(stK r).ifs:=by
  show (if Z6 (Zp b style r) then [Q7 (Zp b style r)] else [])=(if Z6 r then [Q7 r] else [])
  rw[LY]
  rfl
 have a:De.uk (stK (Zp b style r)).who q.who q=De.uk (stK r).who q.who q:=iO _ r.who b _ _;have c:De.uk (stK (Zp b style r)).act q.act q=De.uk (stK r).act q.act q:=iO _ r.act b _ _;have d:De.uk (stK (Zp b style r)).on q.on q=De.uk (stK r).on q.on q:=iO _ r.on b _ _;unfold De.yH De.VJ;rw[e,f,a,c,d]
theorem Cf(b style:Int)(l:List zm)(x:zm):x ∈ Qd b style l↔∃r ∈ l.take 4,Zp b style r=x:=by
 have h:=Bb (l.take 4) (zy b (l.take 4).length) xu;unfold Qd;rw[qR]
 constructor
 ·rintro ⟨k,a,e⟩;exact⟨_,(h _).1 (qR.2 ⟨k,a,rfl⟩),e⟩
 ·rintro ⟨r,d,e⟩;obtain⟨k,a,c⟩:=qR.1 ((h r).2 d);exact⟨k,a,by rw[<- e,<- c]⟩
theorem GJ(b style:Int)(l:List zm):aI (Zc l) (Zc (Qd b style l)):=by
 intro eff q
 by_cases e:l.length=0
 ·have:l=[]:=uW.1 e
  subst this
  rfl
 ·have f:=Ce b style l;rw[xE] at f;unfold Zc Ug;rw[za e,za (by omega),ZU (l:=Qd b style l) (by omega)];rw[vk,uT,uT]
  constructor
  ·rintro ⟨s,d,a⟩;obtain⟨r,c,rfl⟩:=qR.1 d;exact⟨_,qR.2 ⟨_,(Cf b style l _).2 ⟨r,c,rfl⟩,rfl⟩,by rw[rE];exact a⟩
  ·rintro ⟨s,d,a⟩;obtain⟨x,g,rfl⟩:=qR.1 d;obtain⟨r,c,rfl⟩:=(Cf b style l x).1 g;rw[rE] at a;exact⟨_,qR.2 ⟨r,c,rfl⟩,a⟩
def ul(b style:Int)(p:qp):qp:=⟨p.layer,p.name,Qd b style p.rules⟩
theorem Ww{c a:StO}(h:Yc c a)(b style:Int)(p:qp):Yc (jf c p) (jf a (ul b style p)):=by
 have d:=(Yw c (Yp p) (Xe p) (qQ p.rules) (Qb p.rules)).2;have f:=(Yw a (Yp p) (Xe p) (qQ (Qd b style p.rules)) (Qb _)).2;have g:jf c p=yj c (p.lay:Int) (qy p.num) (qQ p.rules):=rfl;have j:jf a (ul b style p)=yj a (p.lay:Int) (qy p.num) (qQ (Qd b style p.rules)):=rfl;rw[g,j,d,f,<- (h p.lay).has,<- (h p.lay).length,Uq,Uq]
 split
 ·intro i
  by_cases e:i=p.lay
  ·subst e;rw[kJ,kJ];exact (h _).with _ (GJ b style p.rules)
  ·rw[Qe _ e,Qe _ e];exact h i
 ·exact h
theorem pG(b style:Int):∀(l:List qp) {c a:StO},Yc c a->Yc (l.foldl jf c) ((l.map (ul b style)).foldl jf a)
 | [],_,_,h=>h
 | p::l,_,_,h=>pG b style l (Ww h b style p)
theorem PK(b style:Int)(l:List qp):Yc (uL l) (uL (l.map (ul b style))):=pG b style l (λ_ => .nil)
theorem DI(b style:Int)(l:List qp)(raw:List Int):(De.yF (uL l) (xe raw)).1.verdict=(De.yF (uL (l.map (ul b style))) (xe raw)).1.verdict/\(De.yF (uL l) (xe raw)).1.layer=(De.yF (uL (l.map (ul b style))) (xe raw)).1.layer/\(De.yF (uL l) (xe raw)).1.doc=(De.yF (uL (l.map (ul b style))) (xe raw)).1.doc:=by
 unfold De.yF;rw[zb (JH raw),zb (JH raw)];exact De.Gh (PK b style l) _
end Kp
theorem Mw:(prog.info? 3).map (λi=>(i.zero,i.size,i.bytes))=some (some (.int .i64 0),1,8):=by kernel_rfl
namespace Kp
def Qc(l:List Int)(b:Int)(k:Nat):List Int:=(List.range k).map (λi=>(l.take 4).getD ((i+zy b (l.take 4).length) % (l.take 4).length) 0)
theorem SE(l:List Int)(b:Int)(k:Nat):Qc l b (k+1)=Qc l b k++[(l.take 4).getD ((k+zy b (l.take 4).length) % (l.take 4).length) 0]:=by
 unfold Qc;rw[UB,jN,List.map_singleton]
theorem SC(l:List Int)(b:Int)(k:Nat):(Qc l b k).length=k:=by unfold Qc;rw[qg,jM]
end Kp
theorem Vg{w:World}{B:Nat}{t:TypeId}{s n:Nat}{v:Value}{xs:List Value}(h:w.ownsRow B t s v n xs):∃a c,v = .slice a n c:=by
 rcases h.2 with ⟨e,h0⟩|⟨gb,cap,cur,e,_⟩
 ·exact⟨none,0,by rw[e,h0]⟩
 ·exact⟨_,_,e⟩
def UJ(w:World)(l:List Int)(b:Int)(e:Ending)(c:World):Prop:=∃a,e = .returned a/\Below w.heap.size w c/\c.ownsRow w.heap.size 3 1 a (Kp.qi l b).length ((Kp.qi l b).map (Value.int .i64))
theorem iX(l:List Int)(b:Int)(lv:Value)(w:World)(h:IntsIn w lv l)(hm:l.length<=maxLen)(hb:I64 b) :
  Calls prog 18 #[lv,.int .i64 b] w (UJ w l b):=by
 obtain⟨a,b4,rfl,z⟩:=h;obtain⟨L,hL⟩:∃n,l.length=n:=⟨_,rfl⟩;have hn:=xE (i:=4) (l:=l);obtain⟨n,H⟩:=Nm ((l.take 4).length);rw[H,hL] at hn;have hp:=λ(m:0<n)=>Kp.xI b n m;have cp:=λ(W:World) (m:0<n)=>uh b n W hb m (by omega);obtain⟨p,J⟩:=Nm (Kp.zy b n);simp only[J] at hp cp;rw[hL] at hm |-;unfold maxLen at hm;have b6:min ((L:Nat):Int) 4=((n:Nat):Int):=by omega
 have a9:(if ((L:Nat):Int)<=4 then ((L:Nat):Int) else 4)=((n:Nat):Int):=by split<;>omega
 have b0:min 4 ((L:Nat):Int)=((n:Nat):Int):=by omega
 have d6:n<=4:=by omega
 have d7:n<=L:=by omega
 have Q:Hid (n=L\/n=4):=hid (by omega);clear hn;obtain⟨i0,R,U,V,Y⟩:=jl Mw;have HC:=hid z;have HL:=hid hL;have HN:=hid H;have HP:=hid J;have CP:=hid cp;clear z hL H J cp;go_enter func18,ntmps18
 go_upto_region 3 with fail
 go_loopw [5,6] (λov iv wr=>∃k:Nat,k<=n/\iv = .int .i64 k/\Below w.heap.size w wr/\wr.ownsRow w.heap.size 3 1 ov k ((Kp.Qc l b k).map (Value.int .i64))) (λ_ iv _=>n-(intOf iv).toNat)
 case atStart=>exact⟨0,zU _,rfl,zi _ _,jR _ _ _ _⟩
 case round=>
  obtain⟨k,hk,rfl,y,I⟩:=hrel
  by_cases hkn:k<n
  ·have m:0<n:=by omega
   have d8:=hp m;have T:(k+p) % n<n:=Nat.mod_lt _ m;obtain⟨j,hj⟩:=Nm ((k+p) % n);have S:j<l.length:=by rw[HL.out];omega
   obtain⟨hx,O,o,ea,q⟩:=HC.out j _ (zt S);subst ea;have q':=zh y q;have A:=Kp.SE l b k;rw[HN.out,HP.out,hj] at A
   have C:(l.take 4).getD j 0=l[j]:=by
    rw[zQ,Qk,zb (by omega),zt S]
    rfl
   rw[C] at A;obtain⟨x,g⟩:=Nm (l[j]);rw[g] at A q';have B:(Kp.Qc l b (k+1)).map (Value.int .i64)=(Kp.Qc l b k).map (Value.int .i64)++[.int .i64 x]:=by rw[A,jN,List.map_singleton]
   obtain⟨X,P⟩:=Nm ((Kp.Qc l b k).map (Value.int .i64));rw[P] at I B;rw[hj] at T;have e2:((k:Int)+(p:Int)) % (n:Int)=(j:Int):=by rw[<- hj,Int.natCast_emod,Int.natCast_add]
   have e1:Int.tmod ((k:Int)+(p:Int)) (n:Int)=(j:Int):=by rw[Int.tmod_eq_emod_of_nonneg (by omega)];exact e2
   have z0:((n:Int)==0)=false:=by simp;omega
   have d1:decide ((k:Int)<(L:Int))=true:=zF (by omega);have d2:decide ((k:Int)<4)=true:=zF (by omega);have j0:(0:Int)<=(j:Int):=jL _;have j1:(j:Int)<(L:Int):=by omega
   have NX:=hid B;have v:=hid I;have r:=hid y;have CC:=hid (λW=>CP.out W m);have zw:=r.out.size;clear A B I y P g C hx q hj
   go_upto_region 6 with fail
   go_wp2_with (first
    | (go_at_call 11;refine (CC.out wr).mono ?_;rintro e w2 ⟨rfl,e2⟩;rw[e2];clear e2)
    | (at_builtin;refine QP _ rfl _ _ 24 rfl w.heap.size 3 i0 (.int .i64 0) 1 8 underlying24 R U V Y rfl (by decide) _ k X rfl (World.ownsRow.alloc v.out _) ⟨wr.heap.size,0,none⟩ 1 1 [.int .i64 x] rfl rfl ?_ ?_ ?_ ?_ ?_ ?_))
   ·exact JF (cs:=#[.int .i64 x]) (t:=3) (fr:=(0,0)) (zL wr _)
   ·intro u hu;simp at hu;subst hu;rfl
   ·unfold maxLen;omega
   ·omega
   ·simp;omega
   ·intro v' w8 d c _ _;have E:=hid ((r.out.alloc r.out.size (.cells #[.int .i64 x] 3)).grown c (by have:=r.out.size;simp;omega) (λk hk=>(World.ownsRow.lt v.out k hk).1));have F:Hid (w8.ownsRow w.heap.size 3 1 v' (k+1) ((Kp.Qc l b (k+1)).map (Value.int .i64))):=by rw[NX.out];exact hid d
    clear d c
    go_wp2
    go_roundw
    case rel=>exact⟨k+1,by omega,by go_num,E.out,F.out⟩
    case measure=>simp[intOf];omega
  ·have a8:k=n:=by omega
   subst a8;have G:=Q.out;clear Q;have D:Kp.Qc l b k=Kp.uO l b:=by unfold Kp.Qc Kp.uO;rw[HN.out]
   have hlen:=Kp.SC l b k;rw[D] at I hlen;obtain⟨va,vc,rfl⟩:=Vg I;have v:=hid I;have r:=hid y;have M:Hid (Kp.qi l b=if 0<k/\k<4 then Kp.uO l b++[(Kp.uO l b).getD 0 0] else Kp.uO l b):=hid (by unfold Kp.qi;rw[hlen])
   have f:=hid hlen;clear I y D hlen
   by_cases m:0<k
   ·by_cases h4:k<4
    ·have d1:decide ((k:Int)<(L:Int))=false:=zH (by omega);have t1:decide (0<k)=true:=zF m;have Z:decide ((0:Int)<(k:Int))=true:=zF (by omega);have t2:decide ((k:Int)<4)=true:=zF (by omega);have s:=M.out;rw[zb ⟨m,h4⟩] at s;have K:0<(Kp.uO l b).length:=by rw[f.out];exact m
     obtain⟨x,g⟩:=Nm ((Kp.uO l b).getD 0 0);rw[g] at s
     obtain⟨O,a0,b1⟩:∃O a0,Value.slice va k vc = .slice (some ⟨O,0,none⟩) k a0:=by
      rcases v.out.2 with ⟨_,e0⟩|⟨O,cap,cur,e,_⟩
      ·omega
      ·exact⟨O,cap,e⟩
     injection b1 with hva1 _ hva2
     subst hva1;subst hva2
     have q0:wr.cell? ⟨O,0,none⟩=some (.int .i64 x):=by
      have hc:=World.ownsRow.cellAt v.out 0 (by omega);rw[hc,vv,zt K,Q3];rw[zQ,zt K] at g;rw[<- g]
      rfl
     have k0:(0:Int)<(k:Int):=by omega
     have zw:=r.out.size;clear G;obtain⟨X,P⟩:=Nm ((Kp.uO l b).map (Value.int .i64));have HX:=hid P;have N:=hid s;rw[P] at v;clear s g P M K
     go_wp2_with (at_builtin;refine QP _ rfl _ _ 24 rfl w.heap.size 3 i0 (.int .i64 0) 1 8 underlying24 R U V Y rfl (by decide) _ k X rfl (World.ownsRow.alloc v.out _) ⟨wr.heap.size,0,none⟩ 1 1 [.int .i64 x] rfl rfl ?_ ?_ ?_ ?_ ?_ ?_)
     ·rfl
     ·unfold maxLen;omega
     ·omega
     ·omega
     ·intro v' w8 d c _ _;have E:=hid ((r.out.alloc r.out.size (.cells #[.int .i64 x] 3)).grown c (by have:=r.out.size;simp;omega) (λk hk=>(World.ownsRow.lt v.out k hk).1));have F:=hid d;clear d c
      go_wp2
      go_ret;refine⟨_,rfl,E.out,?_⟩;rw[N.out,qL,xV,f.out,jN,List.map_singleton,HX.out];exact F.out
    ·have a7:k=4:=by omega
     have s:=M.out;rw[za (λh=>h4 h.2)] at s;have t1:decide (0<k)=true:=zF m;have Z:decide ((0:Int)<(k:Int))=true:=zF (by omega);have t2:decide ((k:Int)<4)=false:=zH (by omega);have N:=hid s;clear s M a7 G
     by_cases hkL:k<L
     ·have d1:decide ((k:Int)<(L:Int))=true:=zF (by omega);go_wp2_with fail;go_ret;refine⟨_,rfl,r.out,?_⟩;rw[N.out,f.out];exact v.out
     ·have d1:decide ((k:Int)<(L:Int))=false:=zH (by omega);go_wp2_with fail;go_ret;refine⟨_,rfl,r.out,?_⟩;rw[N.out,f.out];exact v.out
   ·have s:=M.out;rw[za (λh=>m h.1)] at s;have d1:decide ((k:Int)<(L:Int))=false:=zH (by omega);have t1:decide (0<k)=false:=zH m;have Z:decide ((0:Int)<(k:Int))=false:=zH (by omega);have N:=hid s;clear s M G;go_wp2_with fail;go_ret;refine⟨_,rfl,r.out,?_⟩;rw[N.out,f.out];exact v.out
theorem wZ{M:Nat->Prop}{w b:World}{base:Nat}{e:TypeId}{size:Nat}{v:Value}{n:Nat}{xs:List Value}(h:w.ownsRow base e size v n xs)(f:zC M w b)(d:∀g,v.ownBlock=some g->¬M g):b.ownsRow base e size v n xs:=by
 obtain⟨c,a⟩:=h;refine⟨c,?_⟩
 rcases a with a|⟨g,cap,cur,hv,hg,hh,h3⟩
 ·exact .inl a
 ·exact .inr ⟨g,cap,cur,hv,hg,by rw[f.block g (zY hh) (d g (by rw[hv];rfl))];exact hh,h3⟩
def yC(M:Nat->Prop)(w:World)(v:Value)(l:List Int):Prop:=∃a c,v = .slice a l.length c/\∀(k:Nat) (x:Int),l[k]?=some x->I64 x/\∃b o,a=some ⟨b,o,none⟩/\¬M b/\w.cell? ⟨b,o+k,none⟩=some (.int .i64 x)
theorem yC.ints{M:Nat->Prop}{w:World}{v:Value}{l:List Int}(h:yC M w v l):IntsIn w v l:=by
 obtain⟨a,c,e,h⟩:=h;exact⟨a,c,e,λk x g=>by obtain⟨i,d,o,b,_,f⟩:=h k x g;exact⟨i,d,o,b,f⟩⟩
theorem yC.turn{M:Nat->Prop}{w f:World}{v:Value}{l:List Int}(h:yC M w v l)(m:zC M w f):yC M f v l:=by
 obtain⟨a,c,e,h⟩:=h;exact⟨a,c,e,λk x n=>by obtain⟨i,b,o,g,d,j⟩:=h k x n;exact⟨i,b,o,g,d,m.cell (x:=⟨b,o+k,none⟩) d j⟩⟩
theorem yC.more{M M':Nat->Prop}{w:World}{v:Value}{l:List Int}(h:yC M w v l)(j:∀b,M' b->M b\/w.heap.size<=b):yC M' w v l:=by
 obtain⟨a,c,e,h⟩:=h;refine⟨a,c,e,λk x p=>?_⟩;obtain⟨i,d,o,g,n,f⟩:=h k x p;refine⟨i,d,o,g,λhb=>?_,f⟩;have m:=kX _ _ f;simp only at m
 rcases j d hb with h|h
 ·exact n h
 ·omega
theorem yC.own{M:Nat->Prop}{w:World}{B:Nat}{v:Value}{l:List Int}(h:w.ownsRow B 3 1 v l.length (l.map (Value.int .i64)))(hi:∀x ∈ l,I64 x)(d:∀b,M b->b<B):yC M w v l:=by
 have c:=h
 rcases h.2 with ⟨e,h0⟩|⟨gb,cap,cur,e,_⟩
 ·have f:l=[]:=uW.1 h0;subst f;exact⟨none,0,e,λk x a=>by simp at a⟩
 ·rw[e] at c;refine⟨some ⟨gb,0,none⟩,cap,e,λk x a=>⟨hi x (Qm a),gb,0,rfl,λhb=>?_,?_⟩⟩
  ·have:=(World.ownsRow.lt c gb (by rfl)).1
   have:=d gb hb
   omega
  ·have g:k<l.length:=(xw.1 a).1;rw[qM,World.ownsRow.cellAt c k (by omega),vv,a]
   rfl
structure jB (M:Nat->Prop) (w:World) (xs:List Value) (l:List Kp.zm):Prop where
 len:xs.length=l.length*10
 at':∀(k:Nat) (r:Kp.zm),l[k]?=some r->Qo r/\r.who.length<=maxLen/\r.act.length<=maxLen/\r.on.length<=maxLen/\∃v1 v2 v3,(∀t,t<10->xs[k*10+t]?=[Value.bool r.deny,v1,v2,v3,.int .i64 r.nt,.int .i64 r.iff,.int .i64 r.key,.int .i64 r.val,.bool r.no,.int .i64 r.style][t]?)/\yC M w v1 r.who/\yC M w v2 r.act/\yC M w v3 r.on
theorem jB.nil(M:Nat->Prop)(w:World):jB M w [] []:=⟨rfl,λk r h=>by simp at h⟩
theorem jB.turn{M:Nat->Prop}{w b:World}{xs:List Value}{l:List Kp.zm}(h:jB M w xs l)(a:zC M w b):jB M b xs l:=
 ⟨h.len,λk r d=>by
  obtain⟨f,j,m,n,v1,v2,v3,c,e,g,i⟩:=h.at' k r d;exact⟨f,j,m,n,v1,v2,v3,c,e.turn a,g.turn a,i.turn a⟩⟩
theorem jB.wide{M M':Nat->Prop}{w:World}{xs:List Value}{l:List Kp.zm}(h:jB M w xs l)(a:∀b,M' b->M b\/w.heap.size<=b):jB M' w xs l:=
 ⟨h.len,λk r d=>by
  obtain⟨f,j,m,n,v1,v2,v3,c,e,g,i⟩:=h.at' k r d;exact⟨f,j,m,n,v1,v2,v3,c,e.more a,g.more a,i.more a⟩⟩
theorem jB.add{M:Nat->Prop}{w:World}{xs:List Value}{l:List Kp.zm}(h:jB M w xs l){r:Kp.zm}{v1 v2 v3:Value}(f:Qo r)(q:r.who.length<=maxLen)(s:r.act.length<=maxLen)(u:r.on.length<=maxLen)(i:yC M w v1 r.who)(j:yC M w v2 r.act)(m:yC M w v3 r.on):jB M w (xs++[Value.bool r.deny,v1,v2,v3,.int .i64 r.nt,.int .i64 r.iff,.int .i64 r.key,.int .i64 r.val,.bool r.no,.int .i64 r.style]) (l++[r]):=by
 have c:=h.len;refine⟨by rw[qL,qL,c];simp;omega,λk z a=>?_⟩
 by_cases hk:k<l.length
 ·rw[kR hk] at a;obtain⟨e,v,x,y,u1,u2,u3,g,n,o,p⟩:=h.at' k z a;refine⟨e,v,x,y,u1,u2,u3,λt d=>?_,n,o,p⟩;rw[kR (by omega)];exact g t d
 ·have b:k=l.length:=by
   have:=(xw.1 a).1
   rw[qL,xV] at this;omega
  subst b;rw[ZR (ze _)] at a;simp at a;subst a;refine⟨f,q,s,u,v1,v2,v3,λt d=>?_,i,j,m⟩;rw[ZR (by omega),c];congr 1;omega
def Qp(M:Nat->Prop)(w:World)(d:Value)(l:List Kp.zm):Prop:=∃a c,d = .slice a l.length c/\∀(k:Nat) (r:Kp.zm),l[k]?=some r->Qo r/\r.who.length<=maxLen/\r.act.length<=maxLen/\r.on.length<=maxLen /\
 ∃b o v1 v2 v3,a=some ⟨b,o,none⟩/\¬M b/\(∀t,t<10->w.cell? ⟨b,o+k*10+t,none⟩=[Value.bool r.deny,v1,v2,v3,.int .i64 r.nt,.int .i64 r.iff,.int .i64 r.key,.int .i64 r.val,.bool r.no,.int .i64 r.style][t]?)/\yC M w v1 r.who/\yC M w v2 r.act/\yC M w v3 r.on
theorem Qp.rules{M:Nat->Prop}{w:World}{d:Value}{l:List Kp.zm}(h:Qp M w d l):uY w d l:=by
 obtain⟨a,c,e,h⟩:=h;refine⟨a,c,e,λk r j=>?_⟩;obtain⟨f,q,s,t,i,o,v1,v2,v3,g,_,b,m,n,p⟩:=h k r j;exact⟨f,q,s,t,i,o,v1,v2,v3,g,⟨b 0 (by omega),b 1 (by omega),b 2 (by omega),b 3 (by omega),b 4 (by omega),b 5 (by omega),b 6 (by omega),b 7 (by omega),b 8 (by omega),b 9 (by omega)⟩,m.ints,n.ints,p.ints⟩
theorem zaA{a v1 v2 v3 b c d e f g:Value}{t:Nat}(h:t<10):∃u,[a,v1,v2,v3,b,c,d,e,f,g][t]?=some u:=⟨_,zt (by simpa using h)⟩
theorem Qp.turn{M:Nat->Prop}{w n:World}{m:Value}{l:List Kp.zm}(h:Qp M w m l)(d:zC M w n):Qp M n m l:=by
 obtain⟨a,c,e,h⟩:=h;refine⟨a,c,e,λk r s=>?_⟩;obtain⟨f,A,B,C,g,o,v1,v2,v3,p,i,q,v,y,z⟩:=h k r s;refine⟨f,A,B,C,g,o,v1,v2,v3,p,i,λt b=>?_,v.turn d,y.turn d,z.turn d⟩;obtain⟨u,j⟩:=zaA b;rw[j];exact d.cell (x:=⟨g,o+k*10+t,none⟩) i ((q t b).trans j)
theorem Qp.more{M M':Nat->Prop}{w:World}{j:Value}{l:List Kp.zm}(h:Qp M w j l)(d:∀b,M' b->M b\/w.heap.size<=b):Qp M' w j l:=by
 obtain⟨a,c,e,h⟩:=h;refine⟨a,c,e,λk r q=>?_⟩;obtain⟨f,v,x,y,g,o,v1,v2,v3,m,p,i,s,t,u⟩:=h k r q;refine⟨f,v,x,y,g,o,v1,v2,v3,m,λhb=>?_,i,s.more d,t.more d,u.more d⟩;have n:=kX _ _ (i 0 (by omega));simp only at n
 rcases d g hb with h|h
 ·exact p h
 ·omega
theorem jB.rules{M M':Nat->Prop}{w:World}{B:Nat}{v:Value}{xs:List Value}{l:List Kp.zm}(h:jB M w xs l)(g:w.ownsRow B 42 10 v l.length xs)(d:∀b,M' b->M b\/w.heap.size<=b)(i:∀b,M' b->b<B):Qp M' w v l:=by
 have a:=g
 rcases g.2 with ⟨e,h0⟩|⟨gb,cap,cur,e,_⟩
 ·have m:l=[]:=uW.1 h0;subst m;exact⟨none,0,e,λk r c=>by simp at c⟩
 ·rw[e] at a;refine⟨some ⟨gb,0,none⟩,cap,e,λk r c=>?_⟩;obtain⟨f,s,u,x,v1,v2,v3,j,o,p,q⟩:=h.at' k r c;have y:k<l.length:=(xw.1 c).1;refine⟨f,s,u,x,gb,0,v1,v2,v3,rfl,λhb=>?_,λt n=>?_,o.more d,p.more d,q.more d⟩
  ·have:=(World.ownsRow.lt a gb (by rfl)).1
   have:=i gb hb
   omega
  ·rw[qM,World.ownsRow.cellAt a (k*10+t) (by omega)];exact j t n
structure jO (M:Nat->Prop) (w:World) (xs:List Value) (l:List Kp.qp):Prop where
 len:xs.length=l.length*3
 at':∀(k:Nat) (p:Kp.qp),l[k]?=some p->I64 p.layer/\I64 p.name/\p.rules.length<=maxLen/\∃rv,xs[k*3]?=some (.int .i64 p.layer)/\xs[k*3+1]?=some (.int .i64 p.name)/\xs[k*3+2]?=some rv/\Qp M w rv p.rules
theorem jO.nil(M:Nat->Prop)(w:World):jO M w [] []:=⟨rfl,λk r h=>by simp at h⟩
theorem jO.turn{M:Nat->Prop}{w d:World}{xs:List Value}{l:List Kp.qp}(h:jO M w xs l)(g:zC M w d):jO M d xs l:=
 ⟨h.len,λk p e=>by
  obtain⟨a,b,c,i,j,m,n,f⟩:=h.at' k p e;exact⟨a,b,c,i,j,m,n,f.turn g⟩⟩
theorem jO.wide{M M':Nat->Prop}{w:World}{xs:List Value}{l:List Kp.qp}(h:jO M w xs l)(d:∀b,M' b->M b\/w.heap.size<=b):jO M' w xs l:=
 ⟨h.len,λk p e=>by
  obtain⟨a,b,c,g,i,j,m,f⟩:=h.at' k p e;exact⟨a,b,c,g,i,j,m,f.more d⟩⟩
theorem jO.add{M:Nat->Prop}{w:World}{xs:List Value}{l:List Kp.qp}(h:jO M w xs l){p:Kp.qp}{i:Value}(m:I64 p.layer)(n:I64 p.name)(o:p.rules.length<=maxLen)(q:Qp M w i p.rules):jO M w (xs++[.int .i64 p.layer,.int .i64 p.name,i]) (l++[p]):=by
 have e:=h.len;refine⟨by rw[qL,qL,e];simp;omega,λk r d=>?_⟩
 by_cases hk:k<l.length
 ·rw[kR hk] at d;obtain⟨a,b,c,j,s,t,u,g⟩:=h.at' k r d;refine⟨a,b,c,j,?_,?_,?_,g⟩
  ·rw[kR (by omega)];exact s
  ·rw[kR (by omega)];exact t
  ·rw[kR (by omega)];exact u
 ·have f:k=l.length:=by
   have:=(xw.1 d).1
   rw[qL,xV] at this;omega
  subst f;rw[ZR (ze _)] at d;simp at d;subst d;refine⟨m,n,o,i,?_,?_,?_,q⟩
  ·rw[ZR (by omega),e,Nat.sub_self];rfl
  ·rw[ZR (by omega),e,Nat.add_sub_cancel_left];rfl
  ·rw[ZR (by omega),e,Nat.add_sub_cancel_left];rfl
theorem jO.papers{M:Nat->Prop}{w:World}{B:Nat}{v:Value}{xs:List Value}{l:List Kp.qp}(h:jO M w xs l)(g:w.ownsRow B 53 3 v l.length xs):XA w v l:=by
 have d:=g
 rcases g.2 with ⟨e,h0⟩|⟨gb,cap,cur,e,_⟩
 ·have j:l=[]:=uW.1 h0;subst j;exact⟨none,0,e,λk r f=>by simp at f⟩
 ·rw[e] at d;refine⟨some ⟨gb,0,none⟩,cap,e,λk p i=>?_⟩;obtain⟨a,b,c,m,n,o,q,f⟩:=h.at' k p i;have s:k<l.length:=(xw.1 i).1;refine⟨a,b,c,gb,0,m,rfl,?_,?_,?_,f.rules⟩
  ·rw[qM,World.ownsRow.cellAt d (k*3) (by omega)];exact n
  ·rw[qM,World.ownsRow.cellAt d (k*3+1) (by omega)];exact o
  ·rw[qM,World.ownsRow.cellAt d (k*3+2) (by omega)];exact q
structure TuI (w W2:World) (B xb:Nat) (ov:Value) (j:Nat) (ys:List Value) (L:List Kp.zm) (cs:Array Value) (W:World):Prop where
 low:Below w.heap.size w W
 bb:Below B W2 W
 own:W.ownsRow B 42 10 ov j ys
 row:jB (λx=>(x<B\/ov.ownBlock=some x)\/x=xb) W ys L
 box:W.heap[xb]?=some (.cells cs 42)
 apart:∀x,ov.ownBlock=some x->x<xb
 wx:w.heap.size<=xb
 bx:B<=xb
theorem TuI.step{w c W b:World}{B a j:Nat}{d:Value}{e:List Value}{L:List Kp.zm}{cs:Array Value}(h:TuI w c B a d j e L cs W)(hb:Below W.heap.size W b):TuI w c B a d j e L cs b:=
 ⟨h.low.trans (hb.mono h.low.size),h.bb.trans (hb.mono (jy h.bx (Nat.le_of_lt (zY h.box)))),ownsRow_below h.own hb,h.row.turn (zC.of hb),(hb.block a (zY h.box)).trans h.box,h.apart,h.wx,h.bx⟩
theorem TuI.set{w d W:World}{B a j:Nat}{f:Value}{k:List Value}{L:List Kp.zm}{cs c:Array Value}(h:TuI w d B a f j k L cs W)(i:Nat)(v:Value)(l:cs.setIfInBounds i v=c):TuI w d B a f j k L c (W.setCell ⟨a,i,none⟩ v):=by
 have t:=zC.set (M:=λx=>x=a) W (b:=a) rfl i v;refine⟨h.low.setCell (p:=⟨a,i,none⟩) h.wx v,h.bb.setCell (p:=⟨a,i,none⟩) h.bx v,wZ h.own t (λg m e=>?_),h.row.turn (t.wide (λ_ _ e => .inr e)),?_,h.apart,h.wx,h.bx⟩
 ·have:=h.apart g m
  have n:g=a:=e;omega
 ·rw[<- l];exact uC W a i _ _ v h.box
theorem TuI.made{w e W b:World}{B d j:Nat}{c:Value}{g:List Value}{L:List Kp.zm}{cs:Array Value}(h:TuI w e B d c j g L cs W){v:Value}{l:List Int}(f:b.ownsRow W.heap.size 3 1 v l.length (l.map (Value.int .i64)))(hi:∀x ∈ l,I64 x):yC (λx=>(x<B\/c.ownBlock=some x)\/x=d) b v l:=
 yC.own f hi (λx a=>by
  have i:=zY h.box
  have:=h.bx
  rcases a with (a|a)|a
  ·omega
  ·have:=h.apart x a;omega
  ·omega)
theorem yC.box{a B:Nat}{c v:Value}{W:World}{l:List Int}(h:yC (λx=>(x<B\/c.ownBlock=some x)\/x=a) W v l)(i:Nat)(u:Value):yC (λx=>(x<B\/c.ownBlock=some x)\/x=a) (W.setCell ⟨a,i,none⟩ u) v l:=
 h.turn ((zC.set (M:=λx=>x=a) W (b:=a) rfl i u).wide (λ_ _ e => .inr e))
theorem Db{W f:World}{o B:Nat}{c d:Value}{i:List Value}{L:List Kp.zm}(h:jB (λx=>(x<B\/c.ownBlock=some x)\/x=o) W i L)(b:W.grownBy f c.ownBlock)(n:d.ownBlock=c.ownBlock\/d.ownBlock=some W.heap.size):jB (λx=>x<B\/d.ownBlock=some x) f i L:=by
 have m:zC (λx=>c.ownBlock=some x) W f:=⟨b.os,b.tape,b.output,b.size,λk l g=>b.block k l (λe=>g e.symm)⟩
 have j:jB (λx=>(x<B\/c.ownBlock=some x)\/d.ownBlock=some x) W i L:=h.wide (λx a=>by
  rcases a with a|a
  ·exact .inl (.inl a)
  ·rcases n with e|e
   ·exact .inl (.inl (.inr (e.symm.trans a)))
   ·rw[e] at a;injection a with a;exact .inr (by omega))
 exact (j.turn (m.wide (λ_ _ e => .inl (.inr e)))).wide (λx a => .inl (a.imp .inl id))
theorem CZ{W f:World}{o:Nat}{c d:Value}{i:List Value}{L:List Kp.qp}(h:jO (λx=>c.ownBlock=some x\/x=o) W i L)(b:W.grownBy f c.ownBlock)(n:d.ownBlock=c.ownBlock\/d.ownBlock=some W.heap.size):jO (λx=>d.ownBlock=some x) f i L:=by
 have m:zC (λx=>c.ownBlock=some x) W f:=⟨b.os,b.tape,b.output,b.size,λk l g=>b.block k l (λe=>g e.symm)⟩
 have j:jO (λx=>c.ownBlock=some x\/d.ownBlock=some x) W i L:=h.wide (λx a=>by
  rcases a with a|a
  ·exact .inl (.inl a)
  ·rcases n with e|e
   ·exact .inl (.inl (e.symm.trans a))
   ·rw[e] at a;injection a with a;exact .inr (by omega))
 exact (j.turn (m.wide (λ_ _ e => .inl e))).wide (λx a => .inl (.inr a))
theorem PR:(prog.info? 53).map (λi=>(i.zero,i.size,i.bytes))=some (some (.agg #[.int .i64 0,.int .i64 0,.slice none 0 0]),3,40):=by kernel_rfl
theorem SL:(prog.info? 42).map (λi=>(i.zero,i.size,i.bytes))=some (some (.agg #[.bool false,.slice none 0 0,.slice none 0 0,.slice none 0 0,.int .i64 0,.int .i64 0,.int .i64 0,.int .i64 0,.bool false,.int .i64 0]),10,128):=by kernel_rfl
end Go.Proofs.YtagnlbgbnfnapaaGreatDoor
