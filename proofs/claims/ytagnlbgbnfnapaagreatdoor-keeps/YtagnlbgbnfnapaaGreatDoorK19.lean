/- P -/
import Derived.Test.YtagnlbgbnfnapaaGreatDoorK18
open Go.Proofs.Tryz
set_option maxRecDepth 100000
set_option maxHeartbeats 2000000
namespace Go.Proofs.YtagnlbgbnfnapaaGreatDoor
open Go.RowKit
def YD(w:World)(b:Nat):Prop:=w.cell? ⟨b,0,none⟩=some (.string ⟨#[]⟩)/\w.cell? ⟨b,1,none⟩=some .nilIface/\w.frozen? ⟨b,0,none⟩=false/\w.frozen? ⟨b,1,none⟩=false
theorem YD.same{w w':World}{b:Nat}(h:YD w b)(c:w'.heap[b]?=w.heap[b]?):YD w' b:=
 ⟨by rw[QJ (w:=w) (a:=⟨b,0,none⟩) c];exact h.1,by rw[QJ (w:=w) (a:=⟨b,1,none⟩) c];exact h.2.1,by rw[jd (w:=w) (a:=⟨b,0,none⟩) c];exact h.2.2.1,by rw[jd (w:=w) (a:=⟨b,1,none⟩) c];exact h.2.2.2⟩
structure MAt (w:World) (R:Nat) (s:BY) (q:Nat) (w':World):Prop where
 grown:w.grownBy w' (some R)
 rd:zu w' R s q
 seq:qx w'
 box:YD w' w.heap.size
 size:w.heap.size+1<=w'.heap.size
theorem MAt.next{w:World}{R:Nat}{s:BY}{q d:Nat}{w1 c:World}(f:R<w.heap.size)(b:R≠5)(h:MAt w R s q w1)(a:w1.grownBy c (some R))(e:zu c R s d):MAt w R s d c:=
 ⟨zW h.grown a,e,h.seq.grown a b,h.box.same (a.block _ (by have:=h.size;omega) (by simp;omega)),qZ h.size a.size⟩
theorem MAt.below{w:World}{R:Nat}{s:BY}{q:Nat}{w1 b:World}(h:MAt w R s q w1)(hb:Below w1.heap.size w1 b):MAt w R s q b:=by
 have c:w1.grownBy b none:=⟨hb.os,hb.tape,hb.output,hb.size,λk a _=>hb.block k a⟩;exact⟨zW h.grown ⟨hb.os,hb.tape,hb.output,hb.size,λk a _=>hb.block k a⟩,h.rd.same (hb.block R h.rd.lt),h.seq.same (hb.block _ h.seq.lt),h.box.same (c.block _ (by have:=h.size;omega) (by simp)),qZ h.size hb.size⟩
theorem Fw{a:List (BY×Value)}{nm:BY}(h:a.any (λm=>m.1.toList==nm.toList)=false):xh a nm = .nilIface:=by
 unfold xh
 have:a.find? (λm=>m.1.toList==nm.toList)=none:=by
  rw[Yz];intro m b c;rw[Yy] at h;exact h m b c
 rw[this]
theorem Fx{a:List (BY×Value)}{nm:BY}(b:∀m ∈ a,∃T x,m.2 = .iface T x)(h:a.any (λm=>m.1.toList==nm.toList)=true):∃T x,xh a nm = .iface T x:=by
 unfold xh
 cases hf:a.find? (λm=>m.1.toList==nm.toList) with
 | none=>
  rw[Yz] at hf;rw[Xd] at h;obtain⟨m,c,d⟩:=h;exact absurd d (hf m c)
 | some m=>exact b m (List.mem_of_find?_eq_some hf)
theorem gu{α β:Type}{a:List (BY×α)}{acc:List (BY×β)}(h:a.map Prod.fst=acc.map Prod.fst)(nm:BY):a.any (λm=>m.1.toList==nm.toList)=acc.any (λm=>m.1.toList==nm.toList):=by
 have b:a.any (λm=>m.1.toList==nm.toList)=(a.map Prod.fst).any (λm=>m.toList==nm.toList):=by rw[QB];rfl
 have c:acc.any (λm=>m.1.toList==nm.toList)=(acc.map Prod.fst).any (λm=>m.toList==nm.toList):=by rw[QB];rfl
 rw[b,c,h]
def YZ(s:BY)(acc:List (BY×Rd.V))(q:Nat):Bool:=match Rd.yJ s.data.toList q with
 | .err _ _=>false
 | .ok t a=>if acc.any (λx=>x.1.toList==t.toList) then false
  else if Rd.zk s.data.toList (Rd.skip s.data.toList a)≠58 then false
  else starts s (Rd.skip s.data.toList (Rd.skip s.data.toList a+1))
def Qd(w:World)(R:Nat)(s:BY)(sb:Bool)(r:Rd.Res (BY×Rd.V))(e:Ending)(w':World):Prop:=match r with
 | .ok m q=>∃u,e = .returned (.tuple #[.agg #[.string m.1,u],.nilIface])/\ValAt w' (Blk w w') m.2 u/\w.grownBy w' (some R)/\zu w' R s q/\qx w'
 | .err c q=>∃x u,e = .returned (.tuple #[.agg #[.string x,u],kJ c q])/\((sb=true->∃T y,u = .iface T y)/\(sb=false->u = .nilIface))/\w.grownBy w' (some R)
theorem Qd.of{w w':World}{R:Nat}{s:BY}{sb a:Bool}{r b:Rd.Res (BY×Rd.V)}{e:Ending}(h:Qd w R s sb r e w')(c:b=r)(d:a=sb):Qd w R s a b e w':=c ▸ d ▸ h
theorem UG(s:BY)(R p:Nat)(w:World)(d:zu w R s p)(b:p<=s.size)(f:s.size<=4000)(c:qx w)(a:R≠5)(r:Rd.Res BY)(h:Rd.yJ s.data.toList p=r) :
  Calls prog 143 #[.pointer (some ⟨R,0,none⟩)] w λe w'=>Xh w R s r e w':=by
 rw[<- h];exact NU s R p w d b f c a
theorem LM(s:BY)(R p d f F:Nat)(w:World)(hr:zu w R s p)(hq:qx w)(r:R≠5)(hp:p<=s.size)(hs:s.size<=4000)(hd:d<=8)(hv:ZE s R F)(hf:f<F)(e8:2*(s.size-p)<f)
  (us:List (BY×Value))(acc:List (BY×Rd.V))(hn:us.map Prod.fst=acc.map Prod.fst)(c2:∀m ∈ us,∃T x,m.2 = .iface T x)(f1:us.length<=4000)(ao:Option Addr)(cap:Nat)(hm:∀w',w.grownBy w' (some R)->QS w' ao us) :
  Calls prog 185 #[.pointer (some ⟨R,0,none⟩),.int .i64 (d:Int),.slice ao us.length cap] w λe w'=>Qd w R s (YZ s acc p) (Rd.Qs s.data.toList d f acc p) e w':=by
 have B:=hr.lt;have d5:=hid hq.lt
 have h0:MAt w R s p (w.alloc (.cells #[.string ⟨#[]⟩,.nilIface] 190)):=by
  have hg:=xU w (.cells #[.string ⟨#[]⟩,.nilIface] 190) (some R);have hn:=zQ w (.cells #[.string ⟨#[]⟩,.nilIface] 190);refine⟨hg,hr.alloc _,hq.grown hg r,⟨?_,?_,?_,?_⟩,by simp⟩
  ·simp only[World.cell?,hn];rfl
  ·simp only[World.cell?,hn];rfl
  ·simp only[World.frozen?,hn];rfl
  ·simp only[World.frozen?,hn];rfl
 have j:Rd.Qs s.data.toList d f acc p=Rd.Qs s.data.toList d f acc p:=rfl
 conv at j=>rhs;unfold Rd.Qs
 have y:YZ s acc p=YZ s acc p:=rfl
 conv at y=>rhs;unfold YZ
 clear hr hq
 cases hx:Rd.yJ s.data.toList p with
 | err c q=>
  rw[hx] at j y;simp only at j y;have hc:=Rd.pX hx;subst hc
  have D:=(UG s R p _ h0.rd hp hs h0.seq r _ hx).mono (R':=λe w'=>e = .returned (.tuple #[.string ⟨#[]⟩,.iface 145 (.agg #[.int .i64 (q:Int)])])/\MAt w R s q w') (by
   rintro e w' ⟨rfl,X,A,h3⟩;exact⟨rfl,h0.next B r X A⟩)
  have U:=hid j;have W:=hid y;clear j y hx h0;go_enter func185,ntmps185
  go_wp2_with (go_at_call 143;refine D.mono ?_;rintro e w1 ⟨rfl,i⟩;have c8:=hid i;obtain⟨Q,S,k2,k3⟩:=i.box;clear i)
  refine zN (v := .tuple #[.agg #[.string ⟨#[]⟩,.nilIface],.iface 145 (.agg #[.int .i64 (q:Int)])]) (by simp[results,results185,go_sem,Q,S]) rfl ?_;refine Qd.of ?_ U.out W.out;exact⟨_,_,rfl,⟨λh=>absurd h (by decide),λ_=>rfl⟩,Zo c8.out.grown ((jZ _ _ (ze _)).trans (jZ _ _ (ze _)))⟩
 | ok t H=>
  rw[hx] at j y;simp only at j y;have b9:=Rd.UD hx;have f0:=(Rd.UC hx).1;rw[Ref.zA] at b9
  have D:=(UG s R p _ h0.rd hp hs h0.seq r _ hx).mono (R':=λe w'=>e = .returned (.tuple #[.string t,.nilIface])/\MAt w R s H w') (by
   rintro e w' ⟨rfl,X,A,h3⟩;exact⟨rfl,h0.next B r X A⟩)
  have n:∀w1,MAt w R s H w1->Calls prog 53 #[.slice ao us.length cap,.string t] w1 λe w'=>e = .returned (xh us t)/\MAt w R s H w':=λw1 h=>by
   refine (aG us ao cap t w1 (by omega) (hm w1 h.grown) c2).mono ?_;rintro e w' ⟨rfl,hb⟩;exact⟨rfl,h.below hb⟩
  clear hx h0
  cases hany:acc.any (λx=>x.1.toList==t.toList) with
  | true=>
   rw[hany,zb rfl] at j y;obtain⟨T,x,K⟩:=Fx c2 ((gu hn t).trans hany);simp only[K] at n;have U:=hid j;have W:=hid y;clear j y hany K;go_enter func185,ntmps185
   go_wp2_with (first
    | (go_at_call 143;refine D.mono ?_;rintro e w1 ⟨rfl,i⟩)
    | (go_at_call 53;refine (n w1 i).mono ?_;rintro e Y ⟨rfl,l⟩;have c9:=hid l;obtain⟨Q,S,k2,k3⟩:=l.box;obtain⟨g1,g2,g3⟩:=l.rd;clear i l))
   have e3:1<=(H:Int):=by omega
   go_region
   all_goals
    go_wp2
    refine zN (v := .tuple #[.agg #[.string ⟨#[]⟩,.nilIface],.iface 147 (.agg #[.int .i64 ((H:Int)-1)])]) (by simp[results,results185,go_sem,Q,S]) rfl ?_;refine Qd.of ?_ U.out W.out;refine⟨_,_,by rw[EQ,show ((H-1:Nat):Int)=(H:Int)-1 by omega],⟨λh=>absurd h (by decide),λ_=>rfl⟩,?_⟩;have L:zM w.heap.size R Y ((Y.setCell ⟨w.heap.size,0,none⟩ (.string ⟨#[]⟩)).setCell ⟨w.heap.size,1,none⟩ .nilIface):=(jZ _ _ (ze _)).trans (jZ _ _ (ze _));exact Zo c9.out.grown ⟨L.os,L.tape,L.output,L.size,L.block⟩
  | false=>
   rw[hany,za (by decide)] at j y;have K:=Fw ((gu hn t).trans hany);simp only[K] at n;have E:=Rd.ve s.data.toList H (by rw[Ref.zA];omega);rw[Ref.zA] at E;have c0:=Rd.yX s.data.toList H;obtain⟨q2,a8⟩:∃q,Rd.skip s.data.toList H=q:=⟨_,rfl⟩;rw[a8] at E c0 j y
   have Z:∀w1,MAt w R s H w1->Calls prog 91 #[.pointer (some ⟨R,0,none⟩)] w1 λe w'=>e = .returned (.tuple #[])/\MAt w R s q2 w':=λw1 h=>by
    refine (Yj s R H w1 h.rd b9 hs).mono ?_;rintro e w' ⟨rfl,h4,h5⟩;rw[a8] at h5;exact⟨rfl,h.next B r h4 h5⟩
   clear hany K a8
   by_cases c58:Rd.zk s.data.toList q2=58
   ·rw[za (by simp[c58])] at j y
    have P:Rd.qi s.data.toList ((ByteArray.mk #[58]).data.toList.map UInt8.toNat) q2 = .ok () (q2+1):=by
     show Rd.qi s.data.toList [58] q2=_;simp only[Rd.qi];rw[zb c58]
    have e4:q2<s.size:=by
     have:=Rd.qj s.data.toList q2 (by omega)
     rwa [Ref.zA] at this
    have O:∀w1,MAt w R s q2 w1->Calls prog 144 #[.pointer (some ⟨R,0,none⟩),.string ⟨#[58]⟩] w1 λe w'=>e = .returned .nilIface/\MAt w R s (q2+1) w':=λw1 h=>by
     refine (XE s ⟨#[58]⟩ R q2 w1 h.rd E hs (by decide) (by decide) _ P).mono ?_;rintro e w' ⟨rfl,X,A,h3⟩;exact⟨rfl,h.next B r X A⟩
    have N:=Rd.ve s.data.toList (q2+1) (by rw[Ref.zA];omega);rw[Ref.zA] at N;have c1:=Rd.yX s.data.toList (q2+1);have M:=Rd.uw s.data.toList (q2+1);obtain⟨q3,a9⟩:∃q,Rd.skip s.data.toList (q2+1)=q:=⟨_,rfl⟩;rw[a9] at N c1 M j y
    have b0:∀w1,MAt w R s (q2+1) w1->Calls prog 91 #[.pointer (some ⟨R,0,none⟩)] w1 λe w'=>e = .returned (.tuple #[])/\MAt w R s q3 w':=λw1 h=>by
     refine (Yj s R (q2+1) w1 h.rd (by omega) hs).mono ?_;rintro e w' ⟨rfl,h4,h5⟩;rw[a9] at h5;exact⟨rfl,h.next B r h4 h5⟩
    have g:=λw1 (h:MAt w R s q3 w1)=>hv f hf (d+1) q3 w1 h.rd h.seq N (by omega) (by omega) M (by omega);simp only[show ((d+1:Nat):Int)=(d:Int)+1 by omega] at g;clear a9 hv P c58 M
    cases hvx:Rd.qm s.data.toList f (d+1) q3 with
    | ok v q4=>
     rw[hvx] at j;simp only[hvx] at g;simp only at j;have U:=hid j
     have o:∀w1,MAt w R s q3 w1->Calls prog 92 #[.pointer (some ⟨R,0,none⟩),.int .i64 ((d:Int)+1)] w1 λe w'=>∃T x,e = .returned (.tuple #[.iface T x,.nilIface])/\ValAt w' (Blk w1 w') v (.iface T x)/\MAt w R s q4 w':=λw1 h=>by
      refine (g w1 h).mono ?_;rintro e w' ⟨u,rfl,X,A,h3⟩;obtain⟨T,x,rfl⟩:=X.iface;exact⟨T,x,rfl,X,h.next B r A h3⟩
     clear j y g hvx;go_enter func185,ntmps185
     go_wp2_with (first
      | (go_at_call 143;refine D.mono ?_;rintro e w1 ⟨rfl,i⟩)
      | (go_at_call 53;refine (n w1 i).mono ?_;rintro e Y ⟨rfl,l⟩)
      | (go_at_call 91;refine (b0 w4 z).mono ?_;rintro e w5 ⟨rfl,G⟩)
      | (go_at_call 91;refine (Z Y l).mono ?_;rintro e w3 ⟨rfl,C⟩)
      | (go_at_call 144;refine (O w3 C).mono ?_;rintro e w4 ⟨rfl,z⟩)
      | (go_at_call 92;refine (o w5 G).mono ?_;rintro e w6 ⟨T,x,rfl,d7,a6⟩;have a3:=hid a6;obtain⟨Q,S,k2,k3⟩:=a6.box;have e5:=G.size;clear a6))
     refine zN (v := .tuple #[.agg #[.string t,.iface T x],.nilIface]) (by simp[results,results185,go_sem,Q,S]) rfl ?_;refine Qd.of (sb:=YZ s acc p) ?_ U.out rfl;have d2:∀a b,zM w.heap.size R w6 ((w6.setCell ⟨w.heap.size,0,none⟩ a).setCell ⟨w.heap.size,1,none⟩ b):=λa b=>(jZ _ _ (ze _)).trans (jZ _ _ (ze _));have b1:∀a b k,k≠w.heap.size->((w6.setCell ⟨w.heap.size,0,none⟩ a).setCell ⟨w.heap.size,1,none⟩ b).heap[k]?=w6.heap[k]?:=λa b k hk=>(UQ _ _ _ _ _ hk).trans (UQ _ _ _ _ _ hk);refine⟨.iface T x,rfl,d7.move (λb hb=>⟨by have:=hb.1;omega,by have:=hb.2;rw[Qv,Qv];exact this⟩) (λb hb=>b1 _ _ b (by have:=hb.1;omega)),Zo a3.out.grown (d2 _ _),a3.out.rd.same (b1 _ _ R (by omega)),a3.out.seq.same (b1 _ _ _ (by have:=d5.out;omega))⟩
    | err c q4=>
     rw[hvx] at j;simp only[hvx] at g;simp only at j;obtain⟨T2,I⟩:=YR c q4;have U:=hid j;have W:=hid y;have HT:=hid I
     cases hsb:starts s q3 with
     | true=>
      rw[hsb] at W;simp only[hsb] at g
      have o:∀w1,MAt w R s q3 w1->Calls prog 92 #[.pointer (some ⟨R,0,none⟩),.int .i64 ((d:Int)+1)] w1 λe w'=>(∃T x,e = .returned (.tuple #[.iface T x,.iface T2 (.agg #[.int .i64 (q4:Int)])]))/\w.grownBy w' (some R)/\YD w' w.heap.size:=λw1 h=>by
       refine (g w1 h).mono ?_;rintro e w' ⟨u,rfl,⟨ha,hb⟩,A⟩;have a4:=h.box.same (A.block _ (by have:=h.size;omega) (by simp;omega));obtain⟨T,x,rfl⟩:=ha rfl;exact⟨⟨T,x,by rw[I]⟩,zW h.grown A,a4⟩
      clear j y g hvx I;go_enter func185,ntmps185
      go_wp2_with (first
       | (go_at_call 143;refine D.mono ?_;rintro e w1 ⟨rfl,i⟩)
       | (go_at_call 53;refine (n w1 i).mono ?_;rintro e Y ⟨rfl,l⟩)
       | (go_at_call 91;refine (b0 w4 z).mono ?_;rintro e w5 ⟨rfl,G⟩)
       | (go_at_call 91;refine (Z Y l).mono ?_;rintro e w3 ⟨rfl,C⟩)
       | (go_at_call 144;refine (O w3 C).mono ?_;rintro e w4 ⟨rfl,z⟩)
       | (go_at_call 92;refine (o w5 G).mono ?_;rintro e w6 ⟨⟨T,x,rfl⟩,a5,J⟩;obtain⟨Q,S,k2,k3⟩:=J))
      refine zN (v := .tuple #[.agg #[.string t,.iface T x],.iface T2 (.agg #[.int .i64 (q4:Int)])]) (by simp[results,results185,go_sem,Q,S]) rfl ?_;refine Qd.of ?_ U.out W.out;exact⟨t,.iface T x,by rw[HT.out],⟨λ_=>⟨T,x,rfl⟩,λh=>absurd h (by decide)⟩,Zo a5 ((jZ _ _ (ze _)).trans (jZ _ _ (ze _)))⟩
     | false=>
      rw[hsb] at W;simp only[hsb] at g
      have o:∀w1,MAt w R s q3 w1->Calls prog 92 #[.pointer (some ⟨R,0,none⟩),.int .i64 ((d:Int)+1)] w1 λe w'=>e = .returned (.tuple #[.nilIface,.iface T2 (.agg #[.int .i64 (q4:Int)])])/\w.grownBy w' (some R)/\YD w' w.heap.size:=λw1 h=>by
       refine (g w1 h).mono ?_;rintro e w' ⟨u,rfl,⟨ha,hb⟩,A⟩;have a4:=h.box.same (A.block _ (by have:=h.size;omega) (by simp;omega));obtain rfl:=hb rfl;exact⟨by rw[I],zW h.grown A,a4⟩
      clear j y g hvx I;go_enter func185,ntmps185
      go_wp2_with (first
       | (go_at_call 143;refine D.mono ?_;rintro e w1 ⟨rfl,i⟩)
       | (go_at_call 53;refine (n w1 i).mono ?_;rintro e Y ⟨rfl,l⟩)
       | (go_at_call 91;refine (b0 w4 z).mono ?_;rintro e w5 ⟨rfl,G⟩)
       | (go_at_call 91;refine (Z Y l).mono ?_;rintro e w3 ⟨rfl,C⟩)
       | (go_at_call 144;refine (O w3 C).mono ?_;rintro e w4 ⟨rfl,z⟩)
       | (go_at_call 92;refine (o w5 G).mono ?_;rintro e w6 ⟨rfl,a5,J⟩;obtain⟨Q,S,k2,k3⟩:=J))
      refine zN (v := .tuple #[.agg #[.string t,.nilIface],.iface T2 (.agg #[.int .i64 (q4:Int)])]) (by simp[results,results185,go_sem,Q,S]) rfl ?_;refine Qd.of ?_ U.out W.out;exact⟨t,.nilIface,by rw[HT.out],⟨λh=>absurd h (by decide),λ_=>rfl⟩,Zo a5 ((jZ _ _ (ze _)).trans (jZ _ _ (ze _)))⟩
   ·rw[zb c58] at j y
    have P:Rd.qi s.data.toList ((ByteArray.mk #[58]).data.toList.map UInt8.toNat) q2 = .err 2 q2:=by
     show Rd.qi s.data.toList [58] q2=_;simp only[Rd.qi];rw[za c58]
    have O:∀w1,MAt w R s q2 w1->Calls prog 144 #[.pointer (some ⟨R,0,none⟩),.string ⟨#[58]⟩] w1 λe w'=>e = .returned (.iface 145 (.agg #[.int .i64 (q2:Int)]))/\MAt w R s q2 w':=λw1 h=>by
     refine (XE s ⟨#[58]⟩ R q2 w1 h.rd E hs (by decide) (by decide) _ P).mono ?_;rintro e w' ⟨rfl,X,A,h3⟩;exact⟨rfl,h.next B r X A⟩
    have U:=hid j;have W:=hid y;clear j y P c58 hv;go_enter func185,ntmps185
    go_wp2_with (first
     | (go_at_call 143;refine D.mono ?_;rintro e w1 ⟨rfl,i⟩)
     | (go_at_call 53;refine (n w1 i).mono ?_;rintro e Y ⟨rfl,l⟩)
     | (go_at_call 91;refine (Z Y l).mono ?_;rintro e w3 ⟨rfl,C⟩)
     | (go_at_call 144;refine (O w3 C).mono ?_;rintro e w4 ⟨rfl,z⟩;have d0:=hid z;obtain⟨Q,S,k2,k3⟩:=z.box;clear z))
    refine zN (v := .tuple #[.agg #[.string ⟨#[]⟩,.nilIface],.iface 145 (.agg #[.int .i64 (q2:Int)])]) (by simp[results,results185,go_sem,Q,S]) rfl ?_;refine Qd.of ?_ U.out W.out;exact⟨_,_,rfl,⟨λh=>absurd h (by decide),λ_=>rfl⟩,Zo d0.out.grown ((jZ _ _ (ze _)).trans (jZ _ _ (ze _)))⟩
def ZO(a:List (BY×Value)):List Value:=a.flatMap λm=>[.string m.1,m.2]
theorem LH(a:List (BY×Value)):(ZO a).length=a.length*2:=by
 induction a with
 | nil=>rfl
 | cons m a b=>unfold ZO at *;simp only[fA,qA,ZB,b];simp;omega
theorem LF(a:List (BY×Value))(m:BY×Value):ZO (a++[m])=ZO a++[.string m.1,m.2]:=by
 unfold ZO;simp
theorem LG(a:List (BY×Value))(j:Nat)(x:BY×Value)(h:a[j]?=some x):(ZO a)[j*2]?=some (.string x.1)/\(ZO a)[j*2+1]?=some x.2:=by
 induction a generalizing j with
 | nil=>simp at h
 | cons m a b=>
  cases j with
  | zero=>simp at h;subst h;exact⟨rfl,rfl⟩
  | succ j=>
   have:=b j (by simpa using h)
   have e:ZO (m::a) = .string m.1::m.2::ZO a:=rfl;rw[e,show (j+1)*2=j*2+1+1 by omega,show j*2+1+1+1=(j*2+1)+1+1 by omega]
   simpa using this
theorem nQ{w:World}{base n cap:Nat}{b:Option Addr}{a:List (BY×Value)}(h:w.ownsRow base 190 2 (.slice b n cap) n (ZO a)):QS w b a:=by
 rcases h.2 with ⟨h1,h2⟩|⟨g,c,cur,h1,hB,hg,hrest⟩
 ·have:=h.1
  rw[LH] at this;exact .inl (Kg (by omega))
 ·injection h1 with h1 h2 h3
  subst h1;have f:=World.ownsRow.cells h (g:=g) rfl;refine .inr ⟨g,0,rfl,λj l=>?_⟩;have m:a[j]?=some a[j]:=zn l;obtain⟨i,k⟩:=LG a j _ m;have d:=f _ _ i;have e:=f _ _ k;rw[addr_add] at d e;exact⟨d,by rw[show 0+j*2+1=0+(j*2+1) by omega];exact e⟩
theorem LJ:(prog.info? 190).map (λi=>(i.zero,i.size,i.bytes))=some (some (.agg #[.string ⟨#[]⟩,.nilIface]),2,32):=by kernel_rfl
structure Qe (w0:World) (R:Nat) (s:BY) (d:Nat) (acc:List (BY×Rd.V)) (q:Nat) (wr:World):Prop where
 rd:zu wr R s q
 seq:qx wr
 grown:w0.grownBy wr (some R)
 size:w0.heap.size+3<=wr.heap.size
 len:acc.length<=q
 cx:wr.cell? ⟨w0.heap.size,0,none⟩=some (.pointer (some ⟨R,0,none⟩))
 cd:wr.cell? ⟨w0.heap.size+1,0,none⟩=some (.int .i64 (d:Int))
 row:∃ao cap us,wr.cell? ⟨w0.heap.size+2,0,none⟩=some (.slice ao acc.length cap)/\wr.frozen? ⟨w0.heap.size+2,0,none⟩=false/\wr.ownsRow (w0.heap.size+3) 190 2 (.slice ao acc.length cap) acc.length (ZO us)/\us.map Prod.fst=acc.map Prod.fst /\
  ∀(j:Nat) (x:BY×Rd.V) (u:BY×Value),acc[j]?=some x->us[j]?=some u->ValAt wr (λb=>w0.heap.size+3<=b/\b<wr.heap.size/\(Value.slice ao acc.length cap).ownBlock≠some b) x.2 u.2
theorem Qe.mv{e:World}{R:Nat}{s:BY}{d:Nat}{acc:List (BY×Rd.V)}{q g:Nat}{w w':World}(t:R<e.heap.size)(f:R≠5)(h:Qe e R s d acc q w)(x:q<=g)(c:w.grownBy w' (some R))(m:zu w' R s g):Qe e R s d acc g w':=by
 obtain⟨i,cap,r,c1,c2,c3,k,c4⟩:=h.row;have n:=h.size;have l:=c.size;refine⟨m,h.seq.grown c f,zW h.grown c,by omega,by have:=h.len;omega,c.cell h.cx (by simp;omega),c.cell h.cd (by simp;omega),i,cap,r,c.cell c1 (by simp;omega),?_,vL c3 c (by omega),k,λj v u p o=>(c4 j v u p o).move (λb hb=>⟨hb.1,by omega,hb.2.2⟩) (λb hb=>c.block b hb.2.1 (by simp;omega))⟩;rw[jd (w:=w) (a:=⟨e.heap.size+2,0,none⟩) (c.block _ (by show e.heap.size+2<_;omega) (by simp;omega))];exact c2
theorem ou{s:BY}{d f q q2:Nat}{acc:List (BY×Rd.V)}{m:BY×Rd.V}(r:q<=s.size)(k:2*(s.size-q)<f)(h:Rd.Qs s.data.toList d f acc q = .ok m q2):q<q2/\q2<=s.size:=by
 unfold Rd.Qs at h
 cases hx:Rd.yJ s.data.toList q with
 | err c a=>rw[hx] at h;cases h
 | ok t a=>
  rw[hx] at h;simp only at h;have n:=(Rd.UC hx).1;have e:=Rd.UD hx;have o:=Rd.yX s.data.toList a
  split at h
  ·cases h
  split at h
  ·cases h
  rename_i i;have g:Rd.skip s.data.toList a<s.data.toList.length:=Rd.qj s.data.toList _ (by omega);have p:=Rd.yX s.data.toList (Rd.skip s.data.toList a+1);have j:=Rd.ve s.data.toList (Rd.skip s.data.toList a+1) (by omega);rw[Ref.zA] at e g j
  cases hv:Rd.qm s.data.toList f (d+1) (Rd.skip s.data.toList (Rd.skip s.data.toList a+1)) with
  | err c b=>rw[hv] at h;cases h
  | ok v b=>
   rw[hv] at h;injection h with _ he
   have:=Rd.UZ (l:=s.data.toList) (f:=f) (d:=d+1) (by omega) (by rw[Ref.zA];omega) (Rd.uw _ _) (by rw[Ref.zA];omega) hv
   rw[Ref.zA] at this;omega
theorem Mr(s:BY)(R d F:Nat)(l:World)(hs:s.size<=4000)(hR:R<l.heap.size)(Y:R≠5)(d2:5<l.heap.size)(hd:d<=8)(hv:ZE s R F)(f:Nat)(acc:List (BY×Rd.V))(q:Nat)(w:World)(hf:f<F)
  (hi:Qe l R s d acc q w)(hq:q<=s.size)(a0:2*(s.size-q)<f) :
  Calls prog 184 #[.pointer (some ⟨l.heap.size,0,none⟩),.pointer (some ⟨l.heap.size+1,0,none⟩),.pointer (some ⟨l.heap.size+2,0,none⟩)] w λe w'=>jS (Qe l R s d) (Yw l R) (Rd.stO s.data.toList d f acc q) e w':=by
 obtain⟨i0,a1,a2,a3,a4⟩:=qP LJ;obtain⟨ao,cap,us,c1,c2,c3,cn,c4⟩:=hi.row;have cx:=hi.cx;have cd:=hi.cd;have f2:=hi.size;have hlen:=hi.len;have b3:us.length=acc.length:=by have:=congrArg List.length cn;simpa using this
 have b4:∀m ∈ us,∃T x,m.2 = .iface T x:=λm hm=>by
  obtain⟨j,hj,rfl⟩:=Qa hm;exact (c4 j acc[j] us[j] (zn (by omega)) (zn hj)).iface
 have n:=LM s R q d f F w hi.rd hi.seq Y hq hs hd hv hf a0 us acc cn b4 (by omega) ao cap (λw' hg=>nQ (vL c3 hg (by omega)));rw[b3] at n;have N:Rd.stO s.data.toList d f acc q=Rd.stO s.data.toList d f acc q:=rfl
 conv at N=>rhs;unfold Rd.stO
 have HI:=hid hi;have c7:=hid c4;have c8:=hid cn;have t:=hid (λk r=>World.ownsRow.lt c3 k r);have a8:=hid (λm q2 W=>ou (s:=s) (d:=d) (f:=f) (q:=q) (q2:=q2) (acc:=acc) (m:=m) hq a0 W);have U:some (l.heap.size+2)≠(Value.slice ao acc.length cap).ownBlock:=λe=>by have:=(t.out _ e.symm).1;omega
 have D:=hid U;have H:=hid d2;clear hi a0 hv c4 U b4 cn
 cases W:Rd.Qs s.data.toList d f acc q with
 | ok m q2=>
  obtain⟨nm,v⟩:=m;rw[W] at n N;simp only at N;have e2:=a8.out _ q2 W;have HE:=hid N
  have p:=n.mono (R':=λe w'=>∃T x,e = .returned (.tuple #[.agg #[.string nm,.iface T x],.nilIface])/\ValAt w' (Blk w w') v (.iface T x)/\w.grownBy w' (some R)/\zu w' R s q2) (by
   rintro e w' ⟨u,rfl,h1,M,h3,_⟩;obtain⟨T,x,rfl⟩:=h1.iface;exact⟨T,x,rfl,h1,M,h3⟩)
  clear n W N;go_enter func184,ntmps184
  go_wp2_with (first
   | (go_at_call 185;refine p.mono ?_;rintro e w1 ⟨T,x,rfl,d5,i,b1⟩;have X:=i.cell c1 (by simp;omega);have b5:=λO:Obj=>zi (nbl w1 O) X;have o1:=vL c3 i (by omega))
   | (at_builtin;refine Xa _ rfl _ _ 122 rfl (l.heap.size+3) 190 i0 (.agg #[.string ⟨#[]⟩,.nilIface]) 2 32 underlying122 a1 a2 a3 a4 rfl (by decide) _ _ _ rfl ((o1.alloc _).alloc _) ⟨w1.heap.size+1,0,none⟩ 1 1 [.string nm,.iface T x] rfl rfl ?c1 ?c2 ?c3 ?c4 ?c5 ?_))
  case c1=>exact X0 _ _ _ _ _ _ (by simp)
  case c2=>intro u E;simp at E;rcases E with rfl|rfl<;>rfl
  case c3=>unfold maxLen;omega
  case c4=>omega
  case c5=>have:=i.size;simp;omega
  intro v' y B o _ S
  obtain⟨K,L,rfl⟩:∃a c,v' = .slice a (acc.length+1) c:=by
   rcases B.2 with ⟨_,h⟩|⟨g,c,cur,h,_⟩
   ·omega
   ·exact⟨_,_,h⟩
  have z:=nbl w1 (.cells #[.string nm,.iface T x] 190);have P:=z.trans ((nbl _ (.cells #[.string nm,.iface T x] 190)).mono z.size);have I:l.heap.size+2<w1.heap.size:=by have:=i.size;omega
  have k3:y.cell? ⟨l.heap.size+2,0,none⟩=some (.slice ao acc.length cap):=o.cell (zi P X) D.out
  have f3:y.frozen? ⟨l.heap.size+2,0,none⟩=false:=by
   rw[jd (w:=(w1.alloc (.cells #[.string nm,.iface T x] 190)).alloc (.cells #[.string nm,.iface T x] 190)) (a:=⟨l.heap.size+2,0,none⟩) (o.block _ (by simp;omega) D.out),jd (w:=w1) (a:=⟨l.heap.size+2,0,none⟩) (P.block _ I),jd (w:=w) (a:=⟨l.heap.size+2,0,none⟩) (i.block _ (by show l.heap.size+2<_;omega) (by simp;omega))];exact c2
  have A:zM l.heap.size R w (y.setCell ⟨l.heap.size+2,0,none⟩ (.slice K (acc.length+1) L)):=
   ((((zM.of i (by omega)).trans (zM.own (xU w1 _ none) (λk r=>by cases r) (by omega))).trans (zM.own (xU _ _ none) (λk r=>by cases r) (by simp;omega))).trans (zM.own o (λk r=>by have:=(t.out k r).1;omega) (by simp;omega))).trans (jZ y _ (by omega))
  have G:=hid A;clear A
  have a9:∀b,b<w1.heap.size->(Value.slice ao acc.length cap).ownBlock≠some b->b≠l.heap.size+2->(y.setCell ⟨l.heap.size+2,0,none⟩ (.slice K (acc.length+1) L)).heap[b]?=w1.heap[b]?:=λb h1 M h3=>by
   rw[UQ _ _ _ _ _ h3,o.block b (by simp;omega) (λe=>M e.symm),P.block b h1]
  have C:=hid a9;clear a9
  go_wp2
  go_ret;refine jS.of ?_ HE.out;have e4:=i.size;have b2:=o.size;simp at b2
  have d7:(y.setCell ⟨l.heap.size+2,0,none⟩ (.slice K (acc.length+1) L)).cell? ⟨l.heap.size,0,none⟩=some (.pointer (some ⟨R,0,none⟩)):=by
   rw[QJ (w:=w1) (a:=⟨l.heap.size,0,none⟩) (C.out l.heap.size (by omega) (λe=>by have:=(t.out _ e).1;omega) (by omega))];exact i.cell cx (by simp;omega)
  have d1:(y.setCell ⟨l.heap.size+2,0,none⟩ (.slice K (acc.length+1) L)).cell? ⟨l.heap.size+1,0,none⟩=some (.int .i64 (d:Int)):=by
   rw[QJ (w:=w1) (a:=⟨l.heap.size+1,0,none⟩) (C.out (l.heap.size+1) (by omega) (λe=>by have:=(t.out _ e).1;omega) (by omega))];exact i.cell cd (by simp;omega)
  have d6:∀k,(Value.slice K (acc.length+1) L).ownBlock=some k->l.heap.size+3<=k/\k<y.heap.size:=λk r=>World.ownsRow.lt B k r;have Z:(acc++[(nm,v)]).length=acc.length+1:=by simp
  refine⟨rfl,b1.same (C.out R (by have:=b1.lt;omega) (λe=>by have:=(t.out _ e).1;omega) (by omega)),(HI.out.seq.grown i Y).same (C.out _ (HI.out.seq.grown i Y).lt (λe=>by have:=(t.out _ e).1;have:=HI.out.seq.lt;have:=H.out;omega) (by have:=H.out;omega)),Zo HI.out.grown G.out,by rw[Qv];omega,by simp;omega,d7,d1,K,L,us++[(nm,.iface T x)],?_,by rw[lX];exact f3,?_,?_,?_⟩
  ·rw[Z];exact YK _ _ _ _ k3
  ·rw[Z,LF];exact B.kept (yS _ _ _ _) (.inr (λe=>by have:=(d6 _ e).1;omega))
  ·rw[uG,uG,c8.out];rfl
  ·intro j v2 u Q d3;rw[Z]
   rcases rH d3 with ⟨hj,E⟩|⟨hj,E⟩
   ·have d4:acc[j]?=some v2:=by
     rw[xK (by omega)] at Q;exact Q
    refine (c7.out j v2 u d4 E).move (λb hb=>⟨hb.1,by rw[Qv];omega,λe=>?_⟩) (λb hb=>?_)
    ·rcases S with h|h
     ·exact hb.2.2 (h.symm.trans e)
     ·rw[h] at e;simp at e;omega
    ·rw[C.out b (by omega) hb.2.2 (by omega)];exact i.block b hb.2.1 (by simp;omega)
   ·rw[b3] at hj;subst hj E;simp at Q;subst Q;refine d5.move (λb hb=>⟨by have:=hb.1;omega,by have:=hb.2;rw[Qv];omega,λe=>?_⟩) (λb hb=>?_)
    ·have h1:=hb.1;have M:=hb.2
     rcases S with h|h
     ·have:=(t.out b (h.symm.trans e)).2;omega
     ·rw[h] at e;simp at e;omega
    ·have h1:=hb.1;have M:=hb.2;exact C.out b M (λe=>by have:=(t.out b e).2;omega) (by omega)
 | err c q2=>
  rw[W] at n N;simp only at N;obtain⟨T2,J⟩:=YR c q2;have HE:=hid N;have HT:=hid J
  cases hsb:YZ s acc q with
  | true=>
   rw[hsb] at n
   have p:=n.mono (R':=λe w'=>(∃nm T x,e = .returned (.tuple #[.agg #[.string nm,.iface T x],.iface T2 (.agg #[.int .i64 (q2:Int)])]))/\w.grownBy w' (some R)) (by
    rintro e w' ⟨nm,u,rfl,⟨ha,hb⟩,M⟩;obtain⟨T,x,rfl⟩:=ha rfl;exact⟨⟨nm,T,x,by rw[J]⟩,M⟩)
   clear n W N J;go_enter func184,ntmps184
   go_wp2_with (first
    | (go_at_call 185;refine p.mono ?_;rintro e w1 ⟨⟨nm,T,x,rfl⟩,i⟩;have X:=i.cell c1 (by simp;omega);have b5:=λO:Obj=>zi (nbl w1 O) X;have o1:=vL c3 i (by omega))
    | (at_builtin;refine Xa _ rfl _ _ 122 rfl (l.heap.size+3) 190 i0 (.agg #[.string ⟨#[]⟩,.nilIface]) 2 32 underlying122 a1 a2 a3 a4 rfl (by decide) _ _ _ rfl ((o1.alloc _).alloc _) ⟨w1.heap.size+1,0,none⟩ 1 1 [.string nm,.iface T x] rfl rfl ?c1 ?c2 ?c3 ?c4 ?c5 ?_))
   case c1=>exact X0 _ _ _ _ _ _ (by simp)
   case c2=>intro u E;simp at E;rcases E with rfl|rfl<;>rfl
   case c3=>unfold maxLen;omega
   case c4=>omega
   case c5=>have:=i.size;simp;omega
   intro v' y B o _ _
   obtain⟨K,L,rfl⟩:∃a c,v' = .slice a (acc.length+1) c:=by
    rcases B.2 with ⟨_,h⟩|⟨g,c,cur,h,_⟩
    ·omega
    ·exact⟨_,_,h⟩
   have z:=nbl w1 (.cells #[.string nm,.iface T x] 190);have P:=z.trans ((nbl _ (.cells #[.string nm,.iface T x] 190)).mono z.size);have I:l.heap.size+2<w1.heap.size:=by have:=i.size;omega
   have k3:y.cell? ⟨l.heap.size+2,0,none⟩=some (.slice ao acc.length cap):=o.cell (zi P X) D.out
   have f3:y.frozen? ⟨l.heap.size+2,0,none⟩=false:=by
    rw[jd (w:=(w1.alloc (.cells #[.string nm,.iface T x] 190)).alloc (.cells #[.string nm,.iface T x] 190)) (a:=⟨l.heap.size+2,0,none⟩) (o.block _ (by simp;omega) D.out),jd (w:=w1) (a:=⟨l.heap.size+2,0,none⟩) (P.block _ I),jd (w:=w) (a:=⟨l.heap.size+2,0,none⟩) (i.block _ (by show l.heap.size+2<_;omega) (by simp;omega))];exact c2
   have A:zM l.heap.size R w (y.setCell ⟨l.heap.size+2,0,none⟩ (.slice K (acc.length+1) L)):=
    ((((zM.of i (by omega)).trans (zM.own (xU w1 _ none) (λk r=>by cases r) (by omega))).trans (zM.own (xU _ _ none) (λk r=>by cases r) (by simp;omega))).trans (zM.own o (λk r=>by have:=(t.out k r).1;omega) (by simp;omega))).trans (jZ y _ (by omega))
   have G:=hid A;clear A
   go_wp2
   go_ret;refine jS.of ?_ HE.out;exact⟨by rw[HT.out];rfl,Zo HI.out.grown G.out,_,YK _ _ _ _ k3⟩
  | false=>
   rw[hsb] at n
   have p:=n.mono (R':=λe w'=>(∃nm,e = .returned (.tuple #[.agg #[.string nm,.nilIface],.iface T2 (.agg #[.int .i64 (q2:Int)])]))/\w.grownBy w' (some R)) (by
    rintro e w' ⟨nm,u,rfl,⟨ha,hb⟩,M⟩;obtain rfl:=hb rfl;exact⟨⟨nm,by rw[J]⟩,M⟩)
   clear n W N J;go_enter func184,ntmps184
   go_wp2_with (first
    | (go_at_call 185;refine p.mono ?_;rintro e w1 ⟨⟨nm,rfl⟩,i⟩;have X:=i.cell c1 (by simp;omega);have b5:=λO:Obj=>zi (nbl w1 O) X;have o1:=vL c3 i (by omega))
    | (at_builtin;refine Xa _ rfl _ _ 122 rfl (l.heap.size+3) 190 i0 (.agg #[.string ⟨#[]⟩,.nilIface]) 2 32 underlying122 a1 a2 a3 a4 rfl (by decide) _ _ _ rfl ((o1.alloc _).alloc _) ⟨w1.heap.size+1,0,none⟩ 1 1 [.string nm,.nilIface] rfl rfl ?c1 ?c2 ?c3 ?c4 ?c5 ?_))
   case c1=>exact X0 _ _ _ _ _ _ (by simp)
   case c2=>intro u E;simp at E;rcases E with rfl|rfl<;>rfl
   case c3=>unfold maxLen;omega
   case c4=>omega
   case c5=>have:=i.size;simp;omega
   intro v' y B o _ _
   obtain⟨K,L,rfl⟩:∃a c,v' = .slice a (acc.length+1) c:=by
    rcases B.2 with ⟨_,h⟩|⟨g,c,cur,h,_⟩
    ·omega
    ·exact⟨_,_,h⟩
   have z:=nbl w1 (.cells #[.string nm,.nilIface] 190);have P:=z.trans ((nbl _ (.cells #[.string nm,.nilIface] 190)).mono z.size);have I:l.heap.size+2<w1.heap.size:=by have:=i.size;omega
   have k3:y.cell? ⟨l.heap.size+2,0,none⟩=some (.slice ao acc.length cap):=o.cell (zi P X) D.out
   have f3:y.frozen? ⟨l.heap.size+2,0,none⟩=false:=by
    rw[jd (w:=(w1.alloc (.cells #[.string nm,.nilIface] 190)).alloc (.cells #[.string nm,.nilIface] 190)) (a:=⟨l.heap.size+2,0,none⟩) (o.block _ (by simp;omega) D.out),jd (w:=w1) (a:=⟨l.heap.size+2,0,none⟩) (P.block _ I),jd (w:=w) (a:=⟨l.heap.size+2,0,none⟩) (i.block _ (by show l.heap.size+2<_;omega) (by simp;omega))];exact c2
   have A:zM l.heap.size R w (y.setCell ⟨l.heap.size+2,0,none⟩ (.slice K (acc.length+1) L)):=
    ((((zM.of i (by omega)).trans (zM.own (xU w1 _ none) (λk r=>by cases r) (by omega))).trans (zM.own (xU _ _ none) (λk r=>by cases r) (by simp;omega))).trans (zM.own o (λk r=>by have:=(t.out k r).1;omega) (by simp;omega))).trans (jZ y _ (by omega))
   have G:=hid A;clear A
   go_wp2
   go_ret;refine jS.of ?_ HE.out;exact⟨by rw[HT.out];rfl,Zo HI.out.grown G.out,_,YK _ _ _ _ k3⟩
end Go.Proofs.YtagnlbgbnfnapaaGreatDoor
