/- P -/
import Derived.Test.YtagnlbgbnfnapaaGreatDoorZ18
open Go.Proofs.Tryz
set_option maxRecDepth 100000
set_option maxHeartbeats 2000000
namespace Go.Proofs.YtagnlbgbnfnapaaGreatDoor
open Go.RowKit
def Jv(w:World)(b:Nat):Prop:=w.cell? ⟨b,0,none⟩=some (.string ⟨#[]⟩)/\w.cell? ⟨b,1,none⟩=some .nilIface/\w.frozen? ⟨b,0,none⟩=false/\w.frozen? ⟨b,1,none⟩=false
theorem Jv.same{w d:World}{b:Nat}(h:Jv w b)(c:d.heap[b]?=w.heap[b]?):Jv d b:=
 ⟨by rw[XG (w:=w) (a:=⟨b,0,none⟩) c];exact h.1,by rw[XG (w:=w) (a:=⟨b,1,none⟩) c];exact h.2.1,by rw[yZ (w:=w) (a:=⟨b,0,none⟩) c];exact h.2.2.1,by rw[yZ (w:=w) (a:=⟨b,1,none⟩) c];exact h.2.2.2⟩
structure MAt (w:World) (R:Nat) (s:BA) (q:Nat) (w':World):Prop where
 grown:w.grownBy w' (some R)
 rd:zz w' R s q
 seq:qG w'
 box:Jv w' w.heap.size
 size:w.heap.size+1<=w'.heap.size
theorem MAt.next{w:World}{R:Nat}{s:BA}{q d:Nat}{e c:World}(g:R<w.heap.size)(b:R≠5)(h:MAt w R s q e)(a:e.grownBy c (some R))(f:zz c R s d):MAt w R s d c:=
 ⟨qc h.grown a,f,h.seq.grown a b,h.box.same (a.block _ (by have:=h.size;omega) (by simp;omega)),jy h.size a.size⟩
theorem MAt.below{w:World}{R:Nat}{s:BA}{q:Nat}{a c:World}(h:MAt w R s q a)(hb:Below a.heap.size a c):MAt w R s q c:=by
 have d:a.grownBy c none:=⟨hb.os,hb.tape,hb.output,hb.size,λk b _=>hb.block k b⟩;exact⟨qc h.grown ⟨hb.os,hb.tape,hb.output,hb.size,λk b _=>hb.block k b⟩,h.rd.same (hb.block R h.rd.lt),h.seq.same (hb.block _ h.seq.lt),h.box.same (d.block _ (by have:=h.size;omega) (by simp)),jy h.size hb.size⟩
theorem Ls{a:List (BA×Value)}{nm:BA}(h:a.any (λm=>m.1.toList==nm.toList)=false):xA a nm = .nilIface:=by
 unfold xA
 have:a.find? (λm=>m.1.toList==nm.toList)=none:=by
  rw[Ya];intro m b c;rw[QU] at h;exact h m b c
 rw[this]
theorem Lt{a:List (BA×Value)}{nm:BA}(b:∀m ∈ a,∃T x,m.2 = .iface T x)(h:a.any (λm=>m.1.toList==nm.toList)=true):∃T x,xA a nm = .iface T x:=by
 unfold xA
 cases hf:a.find? (λm=>m.1.toList==nm.toList) with
 | none=>
  rw[Ya] at hf;rw[uT] at h;obtain⟨m,c,d⟩:=h;exact absurd d (hf m c)
 | some m=>exact b m (lW hf)
theorem mD{α β:Type}{a:List (BA×α)}{acc:List (BA×β)}(h:a.map Prod.fst=acc.map Prod.fst)(nm:BA):a.any (λm=>m.1.toList==nm.toList)=acc.any (λm=>m.1.toList==nm.toList):=by
 have b:a.any (λm=>m.1.toList==nm.toList)=(a.map Prod.fst).any (λm=>m.toList==nm.toList):=by rw[QV];rfl
 have c:acc.any (λm=>m.1.toList==nm.toList)=(acc.map Prod.fst).any (λm=>m.toList==nm.toList):=by rw[QV];rfl
 rw[b,c,h]
def JZ(s:BA)(acc:List (BA×Rd.V))(q:Nat):Bool:=match Rd.yR s.data.toList q with
 | .err _ _=>false
 | .ok t a=>if acc.any (λx=>x.1.toList==t.toList) then false
  else if Rd.zk s.data.toList (Rd.skip s.data.toList a)≠58 then false
  else starts s (Rd.skip s.data.toList (Rd.skip s.data.toList a+1))
def QX(w:World)(R:Nat)(s:BA)(sb:Bool)(r:Rd.Res (BA×Rd.V))(e:Ending)(a:World):Prop:=match r with
 | .ok m q=>∃u,e = .returned (.tuple #[.agg #[.string m.1,u],.nilIface])/\ValAt a (Blk w a) m.2 u/\w.grownBy a (some R)/\zz a R s q/\qG a
 | .err c q=>∃x u,e = .returned (.tuple #[.agg #[.string x,u],ZE c q])/\((sb=true->∃T y,u = .iface T y)/\(sb=false->u = .nilIface))/\w.grownBy a (some R)
theorem QX.of{w c:World}{R:Nat}{s:BA}{sb a:Bool}{r b:Rd.Res (BA×Rd.V)}{e:Ending}(h:QX w R s sb r e c)(d:b=r)(f:a=sb):QX w R s a b e c:=d ▸ f ▸ h
theorem KI(s:BA)(R p:Nat)(w:World)(d:zz w R s p)(b:p<=s.size)(f:s.size<=4000)(c:qG w)(a:R≠5)(r:Rd.Res BA)(h:Rd.yR s.data.toList p=r) :
  Calls prog 143 #[.pointer (some ⟨R,0,none⟩)] w λe g=>Yb w R s r e g:=by
 rw[<- h];exact RG s R p w d b f c a
theorem Oj(s:BA)(R p d f F:Nat)(w:World)(hr:zz w R s p)(hq:qG w)(z:R≠5)(hp:p<=s.size)(hs:s.size<=4000)(hd:d<=8)(hv:Qr s R F)(hf:f<F)(e9:2*(s.size-p)<f)
  (us:List (BA×Value))(acc:List (BA×Rd.V))(hn:us.map Prod.fst=acc.map Prod.fst)(c4:∀m ∈ us,∃T x,m.2 = .iface T x)(f2:us.length<=4000)(ao:Option Addr)(cap:Nat)(hm:∀i,w.grownBy i (some R)->XV i ao us) :
  Calls prog 185 #[.pointer (some ⟨R,0,none⟩),.int .i64 (d:Int),.slice ao us.length cap] w λe i=>QX w R s (JZ s acc p) (Rd.Xd s.data.toList d f acc p) e i:=by
 have D:=hr.lt;have d6:=hid hq.lt
 have h0:MAt w R s p (w.alloc (.cells #[.string ⟨#[]⟩,.nilIface] 190)):=by
  have hg:=yD w (.cells #[.string ⟨#[]⟩,.nilIface] 190) (some R);have hn:=zL w (.cells #[.string ⟨#[]⟩,.nilIface] 190);refine⟨hg,hr.alloc _,hq.grown hg z,⟨?_,?_,?_,?_⟩,by simp⟩
  ·simp only[World.cell?,hn];rfl
  ·simp only[World.cell?,hn];rfl
  ·simp only[World.frozen?,hn];rfl
  ·simp only[World.frozen?,hn];rfl
 have n:Rd.Xd s.data.toList d f acc p=Rd.Xd s.data.toList d f acc p:=rfl
 conv at n=>rhs;unfold Rd.Xd
 have A:JZ s acc p=JZ s acc p:=rfl
 conv at A=>rhs;unfold JZ
 clear hr hq
 cases hx:Rd.yR s.data.toList p with
 | err c q=>
  rw[hx] at n A;simp only at n A;have hc:=Rd.Ay hx;subst hc
  have G:=(KI s R p _ h0.rd hp hs h0.seq z _ hx).mono (R':=λe i=>e = .returned (.tuple #[.string ⟨#[]⟩,.iface 145 (.agg #[.int .i64 (q:Int)])])/\MAt w R s q i) (by
   rintro e i ⟨rfl,Z,C,h3⟩;exact⟨rfl,h0.next D z Z C⟩)
  have X:=hid n;have Y:=hid A;clear n A hx h0;go_enter func185,ntmps185
  go_wp2_with (go_at_call 143;refine G.mono ?_;rintro e g ⟨rfl,l⟩;have c9:=hid l;obtain⟨U,W,k2,k3⟩:=l.box;clear l)
  refine qa (v := .tuple #[.agg #[.string ⟨#[]⟩,.nilIface],.iface 145 (.agg #[.int .i64 (q:Int)])]) (by simp[results,results185,go_sem,U,W]) rfl ?_;refine QX.of ?_ X.out Y.out;exact⟨_,_,rfl,⟨λh=>absurd h (by decide),λ_=>rfl⟩,Z5 c9.out.grown ((vI _ _ (ze _)).trans (vI _ _ (ze _)))⟩
 | ok t J=>
  rw[hx] at n A;simp only at n A;have c1:=Rd.KG hx;have f1:=(Rd.KF hx).1;rw[Ref.zP] at c1
  have G:=(KI s R p _ h0.rd hp hs h0.seq z _ hx).mono (R':=λe i=>e = .returned (.tuple #[.string t,.nilIface])/\MAt w R s J i) (by
   rintro e i ⟨rfl,Z,C,h3⟩;exact⟨rfl,h0.next D z Z C⟩)
  have r:∀g,MAt w R s J g->Calls prog 53 #[.slice ao us.length cap,.string t] g λe i=>e = .returned (xA us t)/\MAt w R s J i:=λg h=>by
   refine (dC us ao cap t g (by omega) (hm g h.grown) c4).mono ?_;rintro e i ⟨rfl,hb⟩;exact⟨rfl,h.below hb⟩
  clear hx h0
  cases hany:acc.any (λx=>x.1.toList==t.toList) with
  | true=>
   rw[hany,zb rfl] at n A;obtain⟨T,x,M⟩:=Lt c4 ((mD hn t).trans hany);simp only[M] at r;have X:=hid n;have Y:=hid A;clear n A hany M;go_enter func185,ntmps185
   go_wp2_with (first
    | (go_at_call 143;refine G.mono ?_;rintro e g ⟨rfl,l⟩)
    | (go_at_call 53;refine (r g l).mono ?_;rintro e w2 ⟨rfl,o⟩;have d0:=hid o;obtain⟨U,W,k2,k3⟩:=o.box;obtain⟨g1,g2,g3⟩:=o.rd;clear l o))
   have e4:1<=(J:Int):=by omega
   go_region
   all_goals
    go_wp2
    refine qa (v := .tuple #[.agg #[.string ⟨#[]⟩,.nilIface],.iface 147 (.agg #[.int .i64 ((J:Int)-1)])]) (by simp[results,results185,go_sem,U,W]) rfl ?_;refine QX.of ?_ X.out Y.out;refine⟨_,_,by rw[IB,show ((J-1:Nat):Int)=(J:Int)-1 by omega],⟨λh=>absurd h (by decide),λ_=>rfl⟩,?_⟩;have N:zS w.heap.size R w2 ((w2.setCell ⟨w.heap.size,0,none⟩ (.string ⟨#[]⟩)).setCell ⟨w.heap.size,1,none⟩ .nilIface):=(vI _ _ (ze _)).trans (vI _ _ (ze _));exact Z5 d0.out.grown ⟨N.os,N.tape,N.output,N.size,N.block⟩
  | false=>
   rw[hany,za (by decide)] at n A;have M:=Ls ((mD hn t).trans hany);simp only[M] at r;have H:=Rd.uQ s.data.toList J (by rw[Ref.zP];omega);rw[Ref.zP] at H;have c2:=Rd.je s.data.toList J;obtain⟨q2,b0⟩:∃q,Rd.skip s.data.toList J=q:=⟨_,rfl⟩;rw[b0] at H c2 n A
   have a1:∀g,MAt w R s J g->Calls prog 91 #[.pointer (some ⟨R,0,none⟩)] g λe i=>e = .returned (.tuple #[])/\MAt w R s q2 i:=λg h=>by
    refine (Jg s R J g h.rd c1 hs).mono ?_;rintro e i ⟨rfl,h4,h5⟩;rw[b0] at h5;exact⟨rfl,h.next D z h4 h5⟩
   clear hany M b0
   by_cases c58:Rd.zk s.data.toList q2=58
   ·rw[za (by simp[c58])] at n A
    have S:Rd.qj s.data.toList ((ByteArray.mk #[58]).data.toList.map UInt8.toNat) q2 = .ok () (q2+1):=by
     show Rd.qj s.data.toList [58] q2=_;simp only[Rd.qj];rw[zb c58]
    have e5:q2<s.size:=by
     have:=Rd.qC s.data.toList q2 (by omega)
     rwa [Ref.zP] at this
    have Q:∀g,MAt w R s q2 g->Calls prog 144 #[.pointer (some ⟨R,0,none⟩),.string ⟨#[58]⟩] g λe i=>e = .returned .nilIface/\MAt w R s (q2+1) i:=λg h=>by
     refine (YB s ⟨#[58]⟩ R q2 g h.rd H hs (by decide) (by decide) _ S).mono ?_;rintro e i ⟨rfl,Z,C,h3⟩;exact⟨rfl,h.next D z Z C⟩
    have P:=Rd.uQ s.data.toList (q2+1) (by rw[Ref.zP];omega);rw[Ref.zP] at P;have c3:=Rd.je s.data.toList (q2+1);have O:=Rd.ZJ s.data.toList (q2+1);obtain⟨q3,b1⟩:∃q,Rd.skip s.data.toList (q2+1)=q:=⟨_,rfl⟩;rw[b1] at P c3 O n A
    have b2:∀g,MAt w R s (q2+1) g->Calls prog 91 #[.pointer (some ⟨R,0,none⟩)] g λe i=>e = .returned (.tuple #[])/\MAt w R s q3 i:=λg h=>by
     refine (Jg s R (q2+1) g h.rd (by omega) hs).mono ?_;rintro e i ⟨rfl,h4,h5⟩;rw[b1] at h5;exact⟨rfl,h.next D z h4 h5⟩
    have j:=λg (h:MAt w R s q3 g)=>hv f hf (d+1) q3 g h.rd h.seq P (by omega) (by omega) O (by omega);simp only[show ((d+1:Nat):Int)=(d:Int)+1 by omega] at j;clear b1 hv S c58 O
    cases hvx:Rd.qo s.data.toList f (d+1) q3 with
    | ok v q4=>
     rw[hvx] at n;simp only[hvx] at j;simp only at n;have X:=hid n
     have y:∀g,MAt w R s q3 g->Calls prog 92 #[.pointer (some ⟨R,0,none⟩),.int .i64 ((d:Int)+1)] g λe i=>∃T x,e = .returned (.tuple #[.iface T x,.nilIface])/\ValAt i (Blk g i) v (.iface T x)/\MAt w R s q4 i:=λg h=>by
      refine (j g h).mono ?_;rintro e i ⟨u,rfl,Z,C,h3⟩;obtain⟨T,x,rfl⟩:=Z.iface;exact⟨T,x,rfl,Z,h.next D z C h3⟩
     clear n A j hvx;go_enter func185,ntmps185
     go_wp2_with (first
      | (go_at_call 143;refine G.mono ?_;rintro e g ⟨rfl,l⟩)
      | (go_at_call 53;refine (r g l).mono ?_;rintro e w2 ⟨rfl,o⟩)
      | (go_at_call 91;refine (b2 w4 B).mono ?_;rintro e w5 ⟨rfl,I⟩)
      | (go_at_call 91;refine (a1 w2 o).mono ?_;rintro e w3 ⟨rfl,E⟩)
      | (go_at_call 144;refine (Q w3 E).mono ?_;rintro e w4 ⟨rfl,B⟩)
      | (go_at_call 92;refine (y w5 I).mono ?_;rintro e w6 ⟨T,x,rfl,d8,a8⟩;have a5:=hid a8;obtain⟨U,W,k2,k3⟩:=a8.box;have e6:=I.size;clear a8))
     refine qa (v := .tuple #[.agg #[.string t,.iface T x],.nilIface]) (by simp[results,results185,go_sem,U,W]) rfl ?_;refine QX.of (sb:=JZ s acc p) ?_ X.out rfl;have d3:∀a b,zS w.heap.size R w6 ((w6.setCell ⟨w.heap.size,0,none⟩ a).setCell ⟨w.heap.size,1,none⟩ b):=λa b=>(vI _ _ (ze _)).trans (vI _ _ (ze _));have b3:∀a b k,k≠w.heap.size->((w6.setCell ⟨w.heap.size,0,none⟩ a).setCell ⟨w.heap.size,1,none⟩ b).heap[k]?=w6.heap[k]?:=λa b k hk=>(KM _ _ _ _ _ hk).trans (KM _ _ _ _ _ hk);refine⟨.iface T x,rfl,d8.move (λb hb=>⟨by have:=hb.1;omega,by have:=hb.2;rw[Xh,Xh];exact this⟩) (λb hb=>b3 _ _ b (by have:=hb.1;omega)),Z5 a5.out.grown (d3 _ _),a5.out.rd.same (b3 _ _ R (by omega)),a5.out.seq.same (b3 _ _ _ (by have:=d6.out;omega))⟩
    | err c q4=>
     rw[hvx] at n;simp only[hvx] at j;simp only at n;obtain⟨T2,K⟩:=JU c q4;have X:=hid n;have Y:=hid A;have HT:=hid K
     cases hsb:starts s q3 with
     | true=>
      rw[hsb] at Y;simp only[hsb] at j
      have y:∀g,MAt w R s q3 g->Calls prog 92 #[.pointer (some ⟨R,0,none⟩),.int .i64 ((d:Int)+1)] g λe i=>(∃T x,e = .returned (.tuple #[.iface T x,.iface T2 (.agg #[.int .i64 (q4:Int)])]))/\w.grownBy i (some R)/\Jv i w.heap.size:=λg h=>by
       refine (j g h).mono ?_;rintro e i ⟨u,rfl,⟨ha,hb⟩,C⟩;have a6:=h.box.same (C.block _ (by have:=h.size;omega) (by simp;omega));obtain⟨T,x,rfl⟩:=ha rfl;exact⟨⟨T,x,by rw[K]⟩,qc h.grown C,a6⟩
      clear n A j hvx K;go_enter func185,ntmps185
      go_wp2_with (first
       | (go_at_call 143;refine G.mono ?_;rintro e g ⟨rfl,l⟩)
       | (go_at_call 53;refine (r g l).mono ?_;rintro e w2 ⟨rfl,o⟩)
       | (go_at_call 91;refine (b2 w4 B).mono ?_;rintro e w5 ⟨rfl,I⟩)
       | (go_at_call 91;refine (a1 w2 o).mono ?_;rintro e w3 ⟨rfl,E⟩)
       | (go_at_call 144;refine (Q w3 E).mono ?_;rintro e w4 ⟨rfl,B⟩)
       | (go_at_call 92;refine (y w5 I).mono ?_;rintro e w6 ⟨⟨T,x,rfl⟩,a7,L⟩;obtain⟨U,W,k2,k3⟩:=L))
      refine qa (v := .tuple #[.agg #[.string t,.iface T x],.iface T2 (.agg #[.int .i64 (q4:Int)])]) (by simp[results,results185,go_sem,U,W]) rfl ?_;refine QX.of ?_ X.out Y.out;exact⟨t,.iface T x,by rw[HT.out],⟨λ_=>⟨T,x,rfl⟩,λh=>absurd h (by decide)⟩,Z5 a7 ((vI _ _ (ze _)).trans (vI _ _ (ze _)))⟩
     | false=>
      rw[hsb] at Y;simp only[hsb] at j
      have y:∀g,MAt w R s q3 g->Calls prog 92 #[.pointer (some ⟨R,0,none⟩),.int .i64 ((d:Int)+1)] g λe i=>e = .returned (.tuple #[.nilIface,.iface T2 (.agg #[.int .i64 (q4:Int)])])/\w.grownBy i (some R)/\Jv i w.heap.size:=λg h=>by
       refine (j g h).mono ?_;rintro e i ⟨u,rfl,⟨ha,hb⟩,C⟩;have a6:=h.box.same (C.block _ (by have:=h.size;omega) (by simp;omega));obtain rfl:=hb rfl;exact⟨by rw[K],qc h.grown C,a6⟩
      clear n A j hvx K;go_enter func185,ntmps185
      go_wp2_with (first
       | (go_at_call 143;refine G.mono ?_;rintro e g ⟨rfl,l⟩)
       | (go_at_call 53;refine (r g l).mono ?_;rintro e w2 ⟨rfl,o⟩)
       | (go_at_call 91;refine (b2 w4 B).mono ?_;rintro e w5 ⟨rfl,I⟩)
       | (go_at_call 91;refine (a1 w2 o).mono ?_;rintro e w3 ⟨rfl,E⟩)
       | (go_at_call 144;refine (Q w3 E).mono ?_;rintro e w4 ⟨rfl,B⟩)
       | (go_at_call 92;refine (y w5 I).mono ?_;rintro e w6 ⟨rfl,a7,L⟩;obtain⟨U,W,k2,k3⟩:=L))
      refine qa (v := .tuple #[.agg #[.string t,.nilIface],.iface T2 (.agg #[.int .i64 (q4:Int)])]) (by simp[results,results185,go_sem,U,W]) rfl ?_;refine QX.of ?_ X.out Y.out;exact⟨t,.nilIface,by rw[HT.out],⟨λh=>absurd h (by decide),λ_=>rfl⟩,Z5 a7 ((vI _ _ (ze _)).trans (vI _ _ (ze _)))⟩
   ·rw[zb c58] at n A
    have S:Rd.qj s.data.toList ((ByteArray.mk #[58]).data.toList.map UInt8.toNat) q2 = .err 2 q2:=by
     show Rd.qj s.data.toList [58] q2=_;simp only[Rd.qj];rw[za c58]
    have Q:∀g,MAt w R s q2 g->Calls prog 144 #[.pointer (some ⟨R,0,none⟩),.string ⟨#[58]⟩] g λe i=>e = .returned (.iface 145 (.agg #[.int .i64 (q2:Int)]))/\MAt w R s q2 i:=λg h=>by
     refine (YB s ⟨#[58]⟩ R q2 g h.rd H hs (by decide) (by decide) _ S).mono ?_;rintro e i ⟨rfl,Z,C,h3⟩;exact⟨rfl,h.next D z Z C⟩
    have X:=hid n;have Y:=hid A;clear n A S c58 hv;go_enter func185,ntmps185
    go_wp2_with (first
     | (go_at_call 143;refine G.mono ?_;rintro e g ⟨rfl,l⟩)
     | (go_at_call 53;refine (r g l).mono ?_;rintro e w2 ⟨rfl,o⟩)
     | (go_at_call 91;refine (a1 w2 o).mono ?_;rintro e w3 ⟨rfl,E⟩)
     | (go_at_call 144;refine (Q w3 E).mono ?_;rintro e w4 ⟨rfl,B⟩;have d1:=hid B;obtain⟨U,W,k2,k3⟩:=B.box;clear B))
    refine qa (v := .tuple #[.agg #[.string ⟨#[]⟩,.nilIface],.iface 145 (.agg #[.int .i64 (q2:Int)])]) (by simp[results,results185,go_sem,U,W]) rfl ?_;refine QX.of ?_ X.out Y.out;exact⟨_,_,rfl,⟨λh=>absurd h (by decide),λ_=>rfl⟩,Z5 d1.out.grown ((vI _ _ (ze _)).trans (vI _ _ (ze _)))⟩
def QD(a:List (BA×Value)):List Value:=a.flatMap λm=>[.string m.1,m.2]
theorem Og(a:List (BA×Value)):(QD a).length=a.length*2:=by
 induction a with
 | nil=>rfl
 | cons m a b=>unfold QD at *;simp only[lS,qL,uU,b];simp;omega
theorem Od(a:List (BA×Value))(m:BA×Value):QD (a++[m])=QD a++[.string m.1,m.2]:=by
 unfold QD;simp
theorem Oe(a:List (BA×Value))(j:Nat)(x:BA×Value)(h:a[j]?=some x):(QD a)[j*2]?=some (.string x.1)/\(QD a)[j*2+1]?=some x.2:=by
 induction a generalizing j with
 | nil=>simp at h
 | cons m a b=>
  cases j with
  | zero=>simp at h;subst h;exact⟨rfl,rfl⟩
  | succ j=>
   have:=b j (by simpa using h)
   have e:QD (m::a) = .string m.1::m.2::QD a:=rfl;rw[e,show (j+1)*2=j*2+1+1 by omega,show j*2+1+1+1=(j*2+1)+1+1 by omega]
   simpa using this
theorem tu{w:World}{base n cap:Nat}{ao:Option Addr}{a:List (BA×Value)}(h:w.ownsRow base 190 2 (.slice ao n cap) n (QD a)):XV w ao a:=by
 rcases h.2 with ⟨h1,h2⟩|⟨g,c,cur,h1,hB,hg,hrest⟩
 ·have:=h.1
  rw[Og] at this;exact .inl (Vx (by omega))
 ·injection h1 with h1 h2 h3
  subst h1;have e:=World.ownsRow.cells h (g:=g) rfl;refine .inr ⟨g,0,rfl,λj k=>?_⟩;have l:a[j]?=some a[j]:=zt k;obtain⟨f,i⟩:=Oe a j _ l;have b:=e _ _ f;have d:=e _ _ i;rw[addr_add] at b d;exact⟨b,by rw[show 0+j*2+1=0+(j*2+1) by omega];exact d⟩
theorem Oh:(prog.info? 190).map (λi=>(i.zero,i.size,i.bytes))=some (some (.agg #[.string ⟨#[]⟩,.nilIface]),2,32):=by kernel_rfl
structure QY (w0:World) (R:Nat) (s:BA) (d:Nat) (acc:List (BA×Rd.V)) (q:Nat) (wr:World):Prop where
 rd:zz wr R s q
 seq:qG wr
 grown:w0.grownBy wr (some R)
 size:w0.heap.size+3<=wr.heap.size
 len:acc.length<=q
 cx:wr.cell? ⟨w0.heap.size,0,none⟩=some (.pointer (some ⟨R,0,none⟩))
 cd:wr.cell? ⟨w0.heap.size+1,0,none⟩=some (.int .i64 (d:Int))
 row:∃ao cap us,wr.cell? ⟨w0.heap.size+2,0,none⟩=some (.slice ao acc.length cap)/\wr.frozen? ⟨w0.heap.size+2,0,none⟩=false/\wr.ownsRow (w0.heap.size+3) 190 2 (.slice ao acc.length cap) acc.length (QD us)/\us.map Prod.fst=acc.map Prod.fst /\
  ∀(j:Nat) (x:BA×Rd.V) (u:BA×Value),acc[j]?=some x->us[j]?=some u->ValAt wr (λb=>w0.heap.size+3<=b/\b<wr.heap.size/\(Value.slice ao acc.length cap).ownBlock≠some b) x.2 u.2
theorem QY.mv{e:World}{R:Nat}{s:BA}{d:Nat}{acc:List (BA×Rd.V)}{q g:Nat}{w i:World}(t:R<e.heap.size)(f:R≠5)(h:QY e R s d acc q w)(x:q<=g)(c:w.grownBy i (some R))(m:zz i R s g):QY e R s d acc g i:=by
 obtain⟨ao,cap,r,c1,c2,c3,k,c4⟩:=h.row;have n:=h.size;have l:=c.size;refine⟨m,h.seq.grown c f,qc h.grown c,by omega,by have:=h.len;omega,c.cell h.cx (by simp;omega),c.cell h.cd (by simp;omega),ao,cap,r,c.cell c1 (by simp;omega),?_,ug c3 c (by omega),k,λj v u p o=>(c4 j v u p o).move (λb hb=>⟨hb.1,by omega,hb.2.2⟩) (λb hb=>c.block b hb.2.1 (by simp;omega))⟩;rw[yZ (w:=w) (a:=⟨e.heap.size+2,0,none⟩) (c.block _ (by show e.heap.size+2<_;omega) (by simp;omega))];exact c2
theorem wG{s:BA}{d f q q2:Nat}{acc:List (BA×Rd.V)}{m:BA×Rd.V}(r:q<=s.size)(k:2*(s.size-q)<f)(h:Rd.Xd s.data.toList d f acc q = .ok m q2):q<q2/\q2<=s.size:=by
 unfold Rd.Xd at h
 cases hx:Rd.yR s.data.toList q with
 | err c a=>rw[hx] at h;cases h
 | ok t a=>
  rw[hx] at h;simp only at h;have n:=(Rd.KF hx).1;have e:=Rd.KG hx;have o:=Rd.je s.data.toList a
  split at h
  ·cases h
  split at h
  ·cases h
  rename_i i;have g:Rd.skip s.data.toList a<s.data.toList.length:=Rd.qC s.data.toList _ (by omega);have p:=Rd.je s.data.toList (Rd.skip s.data.toList a+1);have j:=Rd.uQ s.data.toList (Rd.skip s.data.toList a+1) (by omega);rw[Ref.zP] at e g j
  cases hv:Rd.qo s.data.toList f (d+1) (Rd.skip s.data.toList (Rd.skip s.data.toList a+1)) with
  | err c b=>rw[hv] at h;cases h
  | ok v b=>
   rw[hv] at h;injection h with _ he
   have:=Rd.K3 (l:=s.data.toList) (f:=f) (d:=d+1) (by omega) (by rw[Ref.zP];omega) (Rd.ZJ _ _) (by rw[Ref.zP];omega) hv
   rw[Ref.zP] at this;omega
theorem OT(s:BA)(R d F:Nat)(l:World)(hs:s.size<=4000)(hR:R<l.heap.size)(a0:R≠5)(d3:5<l.heap.size)(hd:d<=8)(hv:Qr s R F)(f:Nat)(acc:List (BA×Rd.V))(q:Nat)(w:World)(hf:f<F)
  (hi:QY l R s d acc q w)(hq:q<=s.size)(a2:2*(s.size-q)<f) :
  Calls prog 184 #[.pointer (some ⟨l.heap.size,0,none⟩),.pointer (some ⟨l.heap.size+1,0,none⟩),.pointer (some ⟨l.heap.size+2,0,none⟩)] w λe D=>vB (QY l R s d) (Js l R) (Rd.stO s.data.toList d f acc q) e D:=by
 obtain⟨i0,a3,a4,a5,a6⟩:=jl Oh;obtain⟨ao,cap,us,c1,c2,c3,cn,c4⟩:=hi.row;have cx:=hi.cx;have cd:=hi.cd;have f1:=hi.size;have hlen:=hi.len;have b4:us.length=acc.length:=by have:=congrArg List.length cn;simpa using this
 have b5:∀m ∈ us,∃T x,m.2 = .iface T x:=λm hm=>by
  obtain⟨j,hj,rfl⟩:=Ql hm;exact (c4 j acc[j] us[j] (zt (by omega)) (zt hj)).iface
 have n:=Oj s R q d f F w hi.rd hi.seq a0 hq hs hd hv hf a2 us acc cn b5 (by omega) ao cap (λD hg=>tu (ug c3 hg (by omega)));rw[b4] at n;have Q:Rd.stO s.data.toList d f acc q=Rd.stO s.data.toList d f acc q:=rfl
 conv at Q=>rhs;unfold Rd.stO
 have HI:=hid hi;have c8:=hid c4;have c9:=hid cn;have y:=hid (λk t=>World.ownsRow.lt c3 k t);have a9:=hid (λm q2 Y=>wG (s:=s) (d:=d) (f:=f) (q:=q) (q2:=q2) (acc:=acc) (m:=m) hq a2 Y);have X:some (l.heap.size+2)≠(Value.slice ao acc.length cap).ownBlock:=λe=>by have:=(y.out _ e.symm).1;omega
 have G:=hid X;have J:=hid d3;clear hi a2 hv c4 X b5 cn
 cases Y:Rd.Xd s.data.toList d f acc q with
 | ok m q2=>
  obtain⟨nm,v⟩:=m;rw[Y] at n Q;simp only at Q;have e3:=a9.out _ q2 Y;have HE:=hid Q
  have r:=n.mono (R':=λe D=>∃T x,e = .returned (.tuple #[.agg #[.string nm,.iface T x],.nilIface])/\ValAt D (Blk w D) v (.iface T x)/\w.grownBy D (some R)/\zz D R s q2) (by
   rintro e D ⟨u,rfl,h1,P,h3,_⟩;obtain⟨T,x,rfl⟩:=h1.iface;exact⟨T,x,rfl,h1,P,h3⟩)
  clear n Y Q;go_enter func184,ntmps184
  go_wp2_with (first
   | (go_at_call 185;refine r.mono ?_;rintro e p ⟨T,x,rfl,d6,i,b2⟩;have Z:=i.cell c1 (by simp;omega);have b6:=λO:Obj=>zh (nB p O) Z;have o1:=ug c3 i (by omega))
   | (at_builtin;refine QP _ rfl _ _ 122 rfl (l.heap.size+3) 190 i0 (.agg #[.string ⟨#[]⟩,.nilIface]) 2 32 underlying122 a3 a4 a5 a6 rfl (by decide) _ _ _ rfl ((o1.alloc _).alloc _) ⟨p.heap.size+1,0,none⟩ 1 1 [.string nm,.iface T x] rfl rfl ?c1 ?c2 ?c3 ?c4 ?c5 ?_))
  case c1=>exact UR _ _ _ _ _ _ (by simp)
  case c2=>intro u H;simp at H;rcases H with rfl|rfl<;>rfl
  case c3=>unfold maxLen;omega
  case c4=>omega
  case c5=>have:=i.size;simp;omega
  intro v' z C o _ W
  obtain⟨M,N,rfl⟩:∃a c,v' = .slice a (acc.length+1) c:=by
   rcases C.2 with ⟨_,h⟩|⟨g,c,cur,h,_⟩
   ·omega
   ·exact⟨_,_,h⟩
  have A:=nB p (.cells #[.string nm,.iface T x] 190);have S:=A.trans ((nB _ (.cells #[.string nm,.iface T x] 190)).mono A.size);have K:l.heap.size+2<p.heap.size:=by have:=i.size;omega
  have k3:z.cell? ⟨l.heap.size+2,0,none⟩=some (.slice ao acc.length cap):=o.cell (zh S Z) G.out
  have f3:z.frozen? ⟨l.heap.size+2,0,none⟩=false:=by
   rw[yZ (w:=(p.alloc (.cells #[.string nm,.iface T x] 190)).alloc (.cells #[.string nm,.iface T x] 190)) (a:=⟨l.heap.size+2,0,none⟩) (o.block _ (by simp;omega) G.out),yZ (w:=p) (a:=⟨l.heap.size+2,0,none⟩) (S.block _ K),yZ (w:=w) (a:=⟨l.heap.size+2,0,none⟩) (i.block _ (by show l.heap.size+2<_;omega) (by simp;omega))];exact c2
  have B:zS l.heap.size R w (z.setCell ⟨l.heap.size+2,0,none⟩ (.slice M (acc.length+1) N)):=
   ((((zS.of i (by omega)).trans (zS.own (yD p _ none) (λk t=>by cases t) (by omega))).trans (zS.own (yD _ _ none) (λk t=>by cases t) (by simp;omega))).trans (zS.own o (λk t=>by have:=(y.out k t).1;omega) (by simp;omega))).trans (vI z _ (by omega))
  have I:=hid B;clear B
  have b0:∀b,b<p.heap.size->(Value.slice ao acc.length cap).ownBlock≠some b->b≠l.heap.size+2->(z.setCell ⟨l.heap.size+2,0,none⟩ (.slice M (acc.length+1) N)).heap[b]?=p.heap[b]?:=λb h1 P h3=>by
   rw[KM _ _ _ _ _ h3,o.block b (by simp;omega) (λe=>P e.symm),S.block b h1]
  have E:=hid b0;clear b0
  go_wp2
  go_ret;refine vB.of ?_ HE.out;have e5:=i.size;have b3:=o.size;simp at b3
  have d8:(z.setCell ⟨l.heap.size+2,0,none⟩ (.slice M (acc.length+1) N)).cell? ⟨l.heap.size,0,none⟩=some (.pointer (some ⟨R,0,none⟩)):=by
   rw[XG (w:=p) (a:=⟨l.heap.size,0,none⟩) (E.out l.heap.size (by omega) (λe=>by have:=(y.out _ e).1;omega) (by omega))];exact i.cell cx (by simp;omega)
  have d2:(z.setCell ⟨l.heap.size+2,0,none⟩ (.slice M (acc.length+1) N)).cell? ⟨l.heap.size+1,0,none⟩=some (.int .i64 (d:Int)):=by
   rw[XG (w:=p) (a:=⟨l.heap.size+1,0,none⟩) (E.out (l.heap.size+1) (by omega) (λe=>by have:=(y.out _ e).1;omega) (by omega))];exact i.cell cd (by simp;omega)
  have d7:∀k,(Value.slice M (acc.length+1) N).ownBlock=some k->l.heap.size+3<=k/\k<z.heap.size:=λk t=>World.ownsRow.lt C k t;have a1:(acc++[(nm,v)]).length=acc.length+1:=by simp
  refine⟨rfl,b2.same (E.out R (by have:=b2.lt;omega) (λe=>by have:=(y.out _ e).1;omega) (by omega)),(HI.out.seq.grown i a0).same (E.out _ (HI.out.seq.grown i a0).lt (λe=>by have:=(y.out _ e).1;have:=HI.out.seq.lt;have:=J.out;omega) (by have:=J.out;omega)),Z5 HI.out.grown I.out,by rw[Xh];omega,by simp;omega,d8,d2,M,N,us++[(nm,.iface T x)],?_,by rw[pK];exact f3,?_,?_,?_⟩
  ·rw[a1];exact JL _ _ _ _ k3
  ·rw[a1,Od];exact C.kept (y9 _ _ _ _) (.inr (λe=>by have:=(d7 _ e).1;omega))
  ·rw[jN,jN,c9.out];rfl
  ·intro j v2 u U d4;rw[a1]
   rcases Be d4 with ⟨hj,H⟩|⟨hj,H⟩
   ·have d5:acc[j]?=some v2:=by
     rw[kR (by omega)] at U;exact U
    refine (c8.out j v2 u d5 H).move (λb hb=>⟨hb.1,by rw[Xh];omega,λe=>?_⟩) (λb hb=>?_)
    ·rcases W with h|h
     ·exact hb.2.2 (h.symm.trans e)
     ·rw[h] at e;simp at e;omega
    ·rw[E.out b (by omega) hb.2.2 (by omega)];exact i.block b hb.2.1 (by simp;omega)
   ·rw[b4] at hj;subst hj H;simp at U;subst U;refine d6.move (λb hb=>⟨by have:=hb.1;omega,by have:=hb.2;rw[Xh];omega,λe=>?_⟩) (λb hb=>?_)
    ·have h1:=hb.1;have P:=hb.2
     rcases W with h|h
     ·have:=(y.out b (h.symm.trans e)).2;omega
     ·rw[h] at e;simp at e;omega
    ·have h1:=hb.1;have P:=hb.2;exact E.out b P (λe=>by have:=(y.out b e).2;omega) (by omega)
 | err c q2=>
  rw[Y] at n Q;simp only at Q;obtain⟨T2,L⟩:=JU c q2;have HE:=hid Q;have HT:=hid L
  cases hsb:JZ s acc q with
  | true=>
   rw[hsb] at n
   have r:=n.mono (R':=λe D=>(∃nm T x,e = .returned (.tuple #[.agg #[.string nm,.iface T x],.iface T2 (.agg #[.int .i64 (q2:Int)])]))/\w.grownBy D (some R)) (by
    rintro e D ⟨nm,u,rfl,⟨ha,hb⟩,P⟩;obtain⟨T,x,rfl⟩:=ha rfl;exact⟨⟨nm,T,x,by rw[L]⟩,P⟩)
   clear n Y Q L;go_enter func184,ntmps184
   go_wp2_with (first
    | (go_at_call 185;refine r.mono ?_;rintro e p ⟨⟨nm,T,x,rfl⟩,i⟩;have Z:=i.cell c1 (by simp;omega);have b6:=λO:Obj=>zh (nB p O) Z;have o1:=ug c3 i (by omega))
    | (at_builtin;refine QP _ rfl _ _ 122 rfl (l.heap.size+3) 190 i0 (.agg #[.string ⟨#[]⟩,.nilIface]) 2 32 underlying122 a3 a4 a5 a6 rfl (by decide) _ _ _ rfl ((o1.alloc _).alloc _) ⟨p.heap.size+1,0,none⟩ 1 1 [.string nm,.iface T x] rfl rfl ?c1 ?c2 ?c3 ?c4 ?c5 ?_))
   case c1=>exact UR _ _ _ _ _ _ (by simp)
   case c2=>intro u H;simp at H;rcases H with rfl|rfl<;>rfl
   case c3=>unfold maxLen;omega
   case c4=>omega
   case c5=>have:=i.size;simp;omega
   intro v' z C o _ _
   obtain⟨M,N,rfl⟩:∃a c,v' = .slice a (acc.length+1) c:=by
    rcases C.2 with ⟨_,h⟩|⟨g,c,cur,h,_⟩
    ·omega
    ·exact⟨_,_,h⟩
   have A:=nB p (.cells #[.string nm,.iface T x] 190);have S:=A.trans ((nB _ (.cells #[.string nm,.iface T x] 190)).mono A.size);have K:l.heap.size+2<p.heap.size:=by have:=i.size;omega
   have k3:z.cell? ⟨l.heap.size+2,0,none⟩=some (.slice ao acc.length cap):=o.cell (zh S Z) G.out
   have f3:z.frozen? ⟨l.heap.size+2,0,none⟩=false:=by
    rw[yZ (w:=(p.alloc (.cells #[.string nm,.iface T x] 190)).alloc (.cells #[.string nm,.iface T x] 190)) (a:=⟨l.heap.size+2,0,none⟩) (o.block _ (by simp;omega) G.out),yZ (w:=p) (a:=⟨l.heap.size+2,0,none⟩) (S.block _ K),yZ (w:=w) (a:=⟨l.heap.size+2,0,none⟩) (i.block _ (by show l.heap.size+2<_;omega) (by simp;omega))];exact c2
   have B:zS l.heap.size R w (z.setCell ⟨l.heap.size+2,0,none⟩ (.slice M (acc.length+1) N)):=
    ((((zS.of i (by omega)).trans (zS.own (yD p _ none) (λk t=>by cases t) (by omega))).trans (zS.own (yD _ _ none) (λk t=>by cases t) (by simp;omega))).trans (zS.own o (λk t=>by have:=(y.out k t).1;omega) (by simp;omega))).trans (vI z _ (by omega))
   have I:=hid B;clear B
   go_wp2
   go_ret;refine vB.of ?_ HE.out;exact⟨by rw[HT.out];rfl,Z5 HI.out.grown I.out,_,JL _ _ _ _ k3⟩
  | false=>
   rw[hsb] at n
   have r:=n.mono (R':=λe D=>(∃nm,e = .returned (.tuple #[.agg #[.string nm,.nilIface],.iface T2 (.agg #[.int .i64 (q2:Int)])]))/\w.grownBy D (some R)) (by
    rintro e D ⟨nm,u,rfl,⟨ha,hb⟩,P⟩;obtain rfl:=hb rfl;exact⟨⟨nm,by rw[L]⟩,P⟩)
   clear n Y Q L;go_enter func184,ntmps184
   go_wp2_with (first
    | (go_at_call 185;refine r.mono ?_;rintro e p ⟨⟨nm,rfl⟩,i⟩;have Z:=i.cell c1 (by simp;omega);have b6:=λO:Obj=>zh (nB p O) Z;have o1:=ug c3 i (by omega))
    | (at_builtin;refine QP _ rfl _ _ 122 rfl (l.heap.size+3) 190 i0 (.agg #[.string ⟨#[]⟩,.nilIface]) 2 32 underlying122 a3 a4 a5 a6 rfl (by decide) _ _ _ rfl ((o1.alloc _).alloc _) ⟨p.heap.size+1,0,none⟩ 1 1 [.string nm,.nilIface] rfl rfl ?c1 ?c2 ?c3 ?c4 ?c5 ?_))
   case c1=>exact UR _ _ _ _ _ _ (by simp)
   case c2=>intro u H;simp at H;rcases H with rfl|rfl<;>rfl
   case c3=>unfold maxLen;omega
   case c4=>omega
   case c5=>have:=i.size;simp;omega
   intro v' z C o _ _
   obtain⟨M,N,rfl⟩:∃a c,v' = .slice a (acc.length+1) c:=by
    rcases C.2 with ⟨_,h⟩|⟨g,c,cur,h,_⟩
    ·omega
    ·exact⟨_,_,h⟩
   have A:=nB p (.cells #[.string nm,.nilIface] 190);have S:=A.trans ((nB _ (.cells #[.string nm,.nilIface] 190)).mono A.size);have K:l.heap.size+2<p.heap.size:=by have:=i.size;omega
   have k3:z.cell? ⟨l.heap.size+2,0,none⟩=some (.slice ao acc.length cap):=o.cell (zh S Z) G.out
   have f3:z.frozen? ⟨l.heap.size+2,0,none⟩=false:=by
    rw[yZ (w:=(p.alloc (.cells #[.string nm,.nilIface] 190)).alloc (.cells #[.string nm,.nilIface] 190)) (a:=⟨l.heap.size+2,0,none⟩) (o.block _ (by simp;omega) G.out),yZ (w:=p) (a:=⟨l.heap.size+2,0,none⟩) (S.block _ K),yZ (w:=w) (a:=⟨l.heap.size+2,0,none⟩) (i.block _ (by show l.heap.size+2<_;omega) (by simp;omega))];exact c2
   have B:zS l.heap.size R w (z.setCell ⟨l.heap.size+2,0,none⟩ (.slice M (acc.length+1) N)):=
    ((((zS.of i (by omega)).trans (zS.own (yD p _ none) (λk t=>by cases t) (by omega))).trans (zS.own (yD _ _ none) (λk t=>by cases t) (by simp;omega))).trans (zS.own o (λk t=>by have:=(y.out k t).1;omega) (by simp;omega))).trans (vI z _ (by omega))
   have I:=hid B;clear B
   go_wp2
   go_ret;refine vB.of ?_ HE.out;exact⟨by rw[HT.out];rfl,Z5 HI.out.grown I.out,_,JL _ _ _ _ k3⟩
end Go.Proofs.YtagnlbgbnfnapaaGreatDoor
