/- P -/
import Derived.Test.YtdakgnaojakldaaGreatDoorS19
import Derived.RegionTactic
import Derived.ChangeAlike
open Go.Proofs.Tryz
set_option maxRecDepth 100000
set_option maxHeartbeats 2000000
namespace Go.Proofs.YtdakgnaojakldaaGreatDoor
open Go.RowKit
def QI(w:World)(b:Nat):Prop:=w.cell? ⟨b,0,none⟩=some (.string ⟨#[]⟩)/\w.cell? ⟨b,1,none⟩=some .nilIface/\w.frozen? ⟨b,0,none⟩=false/\w.frozen? ⟨b,1,none⟩=false
theorem QI.same{w d:World}{b:Nat}(h:QI w b)(c:d.heap[b]?=w.heap[b]?):QI d b:=
 ⟨by rw[World.cell?_of_block (w:=w) (a:=⟨b,0,none⟩) c];exact h.1,by rw[World.cell?_of_block (w:=w) (a:=⟨b,1,none⟩) c];exact h.2.1,by rw[World.frozen?_of_block (w:=w) (a:=⟨b,0,none⟩) c];exact h.2.2.1,by rw[World.frozen?_of_block (w:=w) (a:=⟨b,1,none⟩) c];exact h.2.2.2⟩
structure MAt (w:World) (R:Nat) (s:BY) (q:Nat) (w':World):Prop where
 grown:w.grownBy w' (some R)
 rd:zk w' R s q
 seq:zT w'
 box:QI w' w.heap.size
 size:w.heap.size+1<=w'.heap.size
theorem MAt.next{w:World}{R:Nat}{s:BY}{q d:Nat}{e c:World}(g:R<w.heap.size)(b:R≠5)(h:MAt w R s q e)(a:e.grownBy c (some R))(f:zk c R s d):MAt w R s d c:=
 ⟨zD h.grown a,f,h.seq.grown a b,h.box.same (a.block _ (by have:=h.size;omega) (by simp;omega)),Nat.le_trans h.size a.size⟩
theorem MAt.below{w:World}{R:Nat}{s:BY}{q:Nat}{a c:World}(h:MAt w R s q a)(hb:Below a.heap.size a c):MAt w R s q c:=by
 have d:a.grownBy c none:=⟨hb.os,hb.tape,hb.output,hb.size,λk b _=>hb.block k b⟩;exact⟨zD h.grown ⟨hb.os,hb.tape,hb.output,hb.size,λk b _=>hb.block k b⟩,h.rd.same (hb.block R h.rd.lt),h.seq.same (hb.block _ h.seq.lt),h.box.same (d.block _ (by have:=h.size;omega) (by simp)),Nat.le_trans h.size hb.size⟩
theorem wL{a:List (BY×Value)}{nm:BY}(h:a.any (λm=>m.1.toList==nm.toList)=false):qo a nm = .nilIface:=by
 unfold qo
 have:a.find? (λm=>m.1.toList==nm.toList)=none:=by
  rw[List.find?_eq_none];intro m b c;rw[List.any_eq_false] at h;exact h m b c
 rw[this]
theorem wM{a:List (BY×Value)}{nm:BY}(b:∀m ∈ a,∃T x,m.2 = .iface T x)(h:a.any (λm=>m.1.toList==nm.toList)=true):∃T x,qo a nm = .iface T x:=by
 unfold qo
 cases hf:a.find? (λm=>m.1.toList==nm.toList) with
 | none=>
  rw[List.find?_eq_none] at hf;rw[List.any_eq_true] at h;obtain⟨m,c,d⟩:=h;exact absurd d (hf m c)
 | some m=>exact b m (List.mem_of_find?_eq_some hf)
theorem UX{α β:Type}{a:List (BY×α)}{acc:List (BY×β)}(h:a.map Prod.fst=acc.map Prod.fst)(nm:BY):a.any (λm=>m.1.toList==nm.toList)=acc.any (λm=>m.1.toList==nm.toList):=by
 have b:a.any (λm=>m.1.toList==nm.toList)=(a.map Prod.fst).any (λm=>m.toList==nm.toList):=by rw[List.any_map];rfl
 have c:acc.any (λm=>m.1.toList==nm.toList)=(acc.map Prod.fst).any (λm=>m.toList==nm.toList):=by rw[List.any_map];rfl
 rw[b,c,h]
def Q0(s:BY)(acc:List (BY×Rd.V))(q:Nat):Bool:=match Rd.xw s.data.toList q with
 | .err _ _=>false
 | .ok t a=>if acc.any (λx=>x.1.toList==t.toList) then false
  else if Rd.zf s.data.toList (Rd.skip s.data.toList a)≠58 then false
  else starts s (Rd.skip s.data.toList (Rd.skip s.data.toList a+1))
def uQ(w:World)(R:Nat)(s:BY)(sb:Bool)(r:Rd.Res (BY×Rd.V))(e:Ending)(a:World):Prop:=match r with
 | .ok m q=>∃u,e = .returned (.tuple #[.agg #[.string m.1,u],.nilIface])/\ValAt a (Blk w a) m.2 u/\w.grownBy a (some R)/\zk a R s q/\zT a
 | .err c q=>∃x u,e = .returned (.tuple #[.agg #[.string x,u],vk c q])/\((sb=true->∃T y,u = .iface T y)/\(sb=false->u = .nilIface))/\w.grownBy a (some R)
theorem uQ.of{w c:World}{R:Nat}{s:BY}{sb a:Bool}{r b:Rd.Res (BY×Rd.V)}{e:Ending}(h:uQ w R s sb r e c)(d:b=r)(f:a=sb):uQ w R s a b e c:=d ▸ f ▸ h
theorem Jb(s:BY)(R p:Nat)(w:World)(d:zk w R s p)(b:p<=s.size)(f:s.size<=4000)(c:zT w)(a:R≠5)(r:Rd.Res BY)(h:Rd.xw s.data.toList p=r) :
  Calls prog 146 #[.pointer (some ⟨R,0,none⟩)] w λe g=>Zy w R s r e g:=by
 rw[<- h];exact FK s R p w d b f c a
theorem DC(s:BY)(R p d f F:Nat)(w:World)(hr:zk w R s p)(hq:zT w)(z:R≠5)(hp:p<=s.size)(hs:s.size<=4000)(hd:d<=8)(hv:vZ s R F)(hf:f<F)(e9:2*(s.size-p)<f)
  (us:List (BY×Value))(acc:List (BY×Rd.V))(hn:us.map Prod.fst=acc.map Prod.fst)(c4:∀m ∈ us,∃T x,m.2 = .iface T x)(f2:us.length<=4000)(ao:Option Addr)(cap:Nat)(hm:∀i,w.grownBy i (some R)->Zp i ao us) :
  Calls prog 192 #[.pointer (some ⟨R,0,none⟩),.int .i64 (d:Int),.slice ao us.length cap] w λe i=>uQ w R s (Q0 s acc p) (Rd.kC s.data.toList d f acc p) e i:=by
 have D:=hr.lt;have d6:=hid hq.lt
 have h0:MAt w R s p (w.alloc (.cells #[.string ⟨#[]⟩,.nilIface] 202)):=by
  have hg:=World.grownBy_alloc w (.cells #[.string ⟨#[]⟩,.nilIface] 202) (some R);have hn:=heap_alloc_new w (.cells #[.string ⟨#[]⟩,.nilIface] 202);refine⟨hg,hr.alloc _,hq.grown hg z,⟨?_,?_,?_,?_⟩,by simp⟩
  ·simp only[World.cell?,hn];rfl
  ·simp only[World.cell?,hn];rfl
  ·simp only[World.frozen?,hn];rfl
  ·simp only[World.frozen?,hn];rfl
 have n:Rd.kC s.data.toList d f acc p=Rd.kC s.data.toList d f acc p:=rfl
 conv at n=>rhs;unfold Rd.kC
 have A:Q0 s acc p=Q0 s acc p:=rfl
 conv at A=>rhs;unfold Q0
 clear hr hq
 cases hx:Rd.xw s.data.toList p with
 | err c q=>
  rw[hx] at n A;simp only at n A;have hc:=Rd.fB hx;subst hc
  have G:=(Jb s R p _ h0.rd hp hs h0.seq z _ hx).mono (R':=λe i=>e = .returned (.tuple #[.string ⟨#[]⟩,.iface 140 (.agg #[.int .i64 (q:Int)])])/\MAt w R s q i) (by
   rintro e i ⟨rfl,Z,C,h3⟩;exact⟨rfl,h0.next D z Z C⟩)
  have X:=hid n;have Y:=hid A;clear n A hx h0;go_enter func192,ntmps192
  go_wp2_with (go_at_call 146;refine G.mono ?_;rintro e g ⟨rfl,l⟩;have c9:=hid l;obtain⟨U,W,k2,k3⟩:=l.box;clear l)
  refine bodyPost_ret (v := .tuple #[.agg #[.string ⟨#[]⟩,.nilIface],.iface 140 (.agg #[.int .i64 (q:Int)])]) (by simp[results,results192,go_sem,U,W]) rfl ?_;refine uQ.of ?_ X.out Y.out;exact⟨_,_,rfl,⟨λh=>absurd h (by decide),λ_=>rfl⟩,vP c9.out.grown ((yz _ _ (Nat.le_refl _)).trans (yz _ _ (Nat.le_refl _)))⟩
 | ok t J=>
  rw[hx] at n A;simp only at n A;have c1:=Rd.Ja hx;have f1:=(Rd.Y9 hx).1;rw[Ref.zx] at c1
  have G:=(Jb s R p _ h0.rd hp hs h0.seq z _ hx).mono (R':=λe i=>e = .returned (.tuple #[.string t,.nilIface])/\MAt w R s J i) (by
   rintro e i ⟨rfl,Z,C,h3⟩;exact⟨rfl,h0.next D z Z C⟩)
  have r:∀g,MAt w R s J g->Calls prog 51 #[.slice ao us.length cap,.string t] g λe i=>e = .returned (qo us t)/\MAt w R s J i:=λg h=>by
   refine (Vo us ao cap t g (by omega) (hm g h.grown) c4).mono ?_;rintro e i ⟨rfl,hb⟩;exact⟨rfl,h.below hb⟩
  clear hx h0
  cases hany:acc.any (λx=>x.1.toList==t.toList) with
  | true=>
   rw[hany,if_pos rfl] at n A;obtain⟨T,x,M⟩:=wM c4 ((UX hn t).trans hany);simp only[M] at r;have X:=hid n;have Y:=hid A;clear n A hany M;go_enter func192,ntmps192
   go_wp2_with (first
    | (go_at_call 146;refine G.mono ?_;rintro e g ⟨rfl,l⟩)
    | (go_at_call 51;refine (r g l).mono ?_;rintro e w2 ⟨rfl,o⟩;have d0:=hid o;obtain⟨U,W,k2,k3⟩:=o.box;obtain⟨g1,g2,g3⟩:=o.rd;clear l o))
   have e4:1<=(J:Int):=by omega
   go_region
   all_goals
    go_wp2
    refine bodyPost_ret (v := .tuple #[.agg #[.string ⟨#[]⟩,.nilIface],.iface 142 (.agg #[.int .i64 ((J:Int)-1)])]) (by simp[results,results192,go_sem,U,W]) rfl ?_;refine uQ.of ?_ X.out Y.out;refine⟨_,_,by rw[sN,show ((J-1:Nat):Int)=(J:Int)-1 by omega],⟨λh=>absurd h (by decide),λ_=>rfl⟩,?_⟩;have N:zu w.heap.size R w2 ((w2.setCell ⟨w.heap.size,0,none⟩ (.string ⟨#[]⟩)).setCell ⟨w.heap.size,1,none⟩ .nilIface):=(yz _ _ (Nat.le_refl _)).trans (yz _ _ (Nat.le_refl _));exact vP d0.out.grown ⟨N.os,N.tape,N.output,N.size,N.block⟩
  | false=>
   rw[hany,if_neg (by decide)] at n A;have M:=wL ((UX hn t).trans hany);simp only[M] at r;have H:=Rd.jc s.data.toList J (by rw[Ref.zx];omega);rw[Ref.zx] at H;have c2:=Rd.xJ s.data.toList J;obtain⟨q2,b0⟩:∃q,Rd.skip s.data.toList J=q:=⟨_,rfl⟩;rw[b0] at H c2 n A
   have a1:∀g,MAt w R s J g->Calls prog 92 #[.pointer (some ⟨R,0,none⟩)] g λe i=>e = .returned (.tuple #[])/\MAt w R s q2 i:=λg h=>by
    refine (Qy s R J g h.rd c1 hs).mono ?_;rintro e i ⟨rfl,h4,h5⟩;rw[b0] at h5;exact⟨rfl,h.next D z h4 h5⟩
   clear hany M b0
   by_cases c58:Rd.zf s.data.toList q2=58
   ·rw[if_neg (by simp[c58])] at n A
    have S:Rd.zK s.data.toList ((ByteArray.mk #[58]).data.toList.map UInt8.toNat) q2 = .ok () (q2+1):=by
     show Rd.zK s.data.toList [58] q2=_;simp only[Rd.zK];rw[if_pos c58]
    have e5:q2<s.size:=by
     have:=Rd.zP s.data.toList q2 (by omega)
     rwa [Ref.zx] at this
    have Q:∀g,MAt w R s q2 g->Calls prog 147 #[.pointer (some ⟨R,0,none⟩),.string ⟨#[58]⟩] g λe i=>e = .returned .nilIface/\MAt w R s (q2+1) i:=λg h=>by
     refine (ZY s ⟨#[58]⟩ R q2 g h.rd H hs (by decide) (by decide) _ S).mono ?_;rintro e i ⟨rfl,Z,C,h3⟩;exact⟨rfl,h.next D z Z C⟩
    have P:=Rd.jc s.data.toList (q2+1) (by rw[Ref.zx];omega);rw[Ref.zx] at P;have c3:=Rd.xJ s.data.toList (q2+1);have O:=Rd.vB s.data.toList (q2+1);obtain⟨q3,b1⟩:∃q,Rd.skip s.data.toList (q2+1)=q:=⟨_,rfl⟩;rw[b1] at P c3 O n A
    have b2:∀g,MAt w R s (q2+1) g->Calls prog 92 #[.pointer (some ⟨R,0,none⟩)] g λe i=>e = .returned (.tuple #[])/\MAt w R s q3 i:=λg h=>by
     refine (Qy s R (q2+1) g h.rd (by omega) hs).mono ?_;rintro e i ⟨rfl,h4,h5⟩;rw[b1] at h5;exact⟨rfl,h.next D z h4 h5⟩
    have j:=λg (h:MAt w R s q3 g)=>hv f hf (d+1) q3 g h.rd h.seq P (by omega) (by omega) O (by omega);simp only[show ((d+1:Nat):Int)=(d:Int)+1 by omega] at j;clear b1 hv S c58 O
    cases hvx:Rd.zL s.data.toList f (d+1) q3 with
    | ok v q4=>
     rw[hvx] at n;simp only[hvx] at j;simp only at n;have X:=hid n
     have y:∀g,MAt w R s q3 g->Calls prog 93 #[.pointer (some ⟨R,0,none⟩),.int .i64 ((d:Int)+1)] g λe i=>∃T x,e = .returned (.tuple #[.iface T x,.nilIface])/\ValAt i (Blk g i) v (.iface T x)/\MAt w R s q4 i:=λg h=>by
      refine (j g h).mono ?_;rintro e i ⟨u,rfl,Z,C,h3⟩;obtain⟨T,x,rfl⟩:=Z.iface;exact⟨T,x,rfl,Z,h.next D z C h3⟩
     clear n A j hvx;go_enter func192,ntmps192
     go_wp2_with (first
      | (go_at_call 146;refine G.mono ?_;rintro e g ⟨rfl,l⟩)
      | (go_at_call 51;refine (r g l).mono ?_;rintro e w2 ⟨rfl,o⟩)
      | (go_at_call 92;refine (b2 w4 B).mono ?_;rintro e w5 ⟨rfl,I⟩)
      | (go_at_call 92;refine (a1 w2 o).mono ?_;rintro e w3 ⟨rfl,E⟩)
      | (go_at_call 147;refine (Q w3 E).mono ?_;rintro e w4 ⟨rfl,B⟩)
      | (go_at_call 93;refine (y w5 I).mono ?_;rintro e w6 ⟨T,x,rfl,d8,a8⟩;have a5:=hid a8;obtain⟨U,W,k2,k3⟩:=a8.box;have e6:=I.size;clear a8))
     refine bodyPost_ret (v := .tuple #[.agg #[.string t,.iface T x],.nilIface]) (by simp[results,results192,go_sem,U,W]) rfl ?_;refine uQ.of (sb:=Q0 s acc p) ?_ X.out rfl;have d3:∀a b,zu w.heap.size R w6 ((w6.setCell ⟨w.heap.size,0,none⟩ a).setCell ⟨w.heap.size,1,none⟩ b):=λa b=>(yz _ _ (Nat.le_refl _)).trans (yz _ _ (Nat.le_refl _));have b3:∀a b k,k≠w.heap.size->((w6.setCell ⟨w.heap.size,0,none⟩ a).setCell ⟨w.heap.size,1,none⟩ b).heap[k]?=w6.heap[k]?:=λa b k hk=>(Jf _ _ _ _ _ hk).trans (Jf _ _ _ _ _ hk);refine⟨.iface T x,rfl,d8.move (λb hb=>⟨by have:=hb.1;omega,by have:=hb.2;rw[kG,kG];exact this⟩) (λb hb=>b3 _ _ b (by have:=hb.1;omega)),vP a5.out.grown (d3 _ _),a5.out.rd.same (b3 _ _ R (by omega)),a5.out.seq.same (b3 _ _ _ (by have:=d6.out;omega))⟩
    | err c q4=>
     rw[hvx] at n;simp only[hvx] at j;simp only at n;obtain⟨T2,K⟩:=Qo c q4;have X:=hid n;have Y:=hid A;have HT:=hid K
     cases hsb:starts s q3 with
     | true=>
      rw[hsb] at Y;simp only[hsb] at j
      have y:∀g,MAt w R s q3 g->Calls prog 93 #[.pointer (some ⟨R,0,none⟩),.int .i64 ((d:Int)+1)] g λe i=>(∃T x,e = .returned (.tuple #[.iface T x,.iface T2 (.agg #[.int .i64 (q4:Int)])]))/\w.grownBy i (some R)/\QI i w.heap.size:=λg h=>by
       refine (j g h).mono ?_;rintro e i ⟨u,rfl,⟨ha,hb⟩,C⟩;have a6:=h.box.same (C.block _ (by have:=h.size;omega) (by simp;omega));obtain⟨T,x,rfl⟩:=ha rfl;exact⟨⟨T,x,by rw[K]⟩,zD h.grown C,a6⟩
      clear n A j hvx K;go_enter func192,ntmps192
      go_wp2_with (first
       | (go_at_call 146;refine G.mono ?_;rintro e g ⟨rfl,l⟩)
       | (go_at_call 51;refine (r g l).mono ?_;rintro e w2 ⟨rfl,o⟩)
       | (go_at_call 92;refine (b2 w4 B).mono ?_;rintro e w5 ⟨rfl,I⟩)
       | (go_at_call 92;refine (a1 w2 o).mono ?_;rintro e w3 ⟨rfl,E⟩)
       | (go_at_call 147;refine (Q w3 E).mono ?_;rintro e w4 ⟨rfl,B⟩)
       | (go_at_call 93;refine (y w5 I).mono ?_;rintro e w6 ⟨⟨T,x,rfl⟩,a7,L⟩;obtain⟨U,W,k2,k3⟩:=L))
      refine bodyPost_ret (v := .tuple #[.agg #[.string t,.iface T x],.iface T2 (.agg #[.int .i64 (q4:Int)])]) (by simp[results,results192,go_sem,U,W]) rfl ?_;refine uQ.of ?_ X.out Y.out;exact⟨t,.iface T x,by rw[HT.out],⟨λ_=>⟨T,x,rfl⟩,λh=>absurd h (by decide)⟩,vP a7 ((yz _ _ (Nat.le_refl _)).trans (yz _ _ (Nat.le_refl _)))⟩
     | false=>
      rw[hsb] at Y;simp only[hsb] at j
      have y:∀g,MAt w R s q3 g->Calls prog 93 #[.pointer (some ⟨R,0,none⟩),.int .i64 ((d:Int)+1)] g λe i=>e = .returned (.tuple #[.nilIface,.iface T2 (.agg #[.int .i64 (q4:Int)])])/\w.grownBy i (some R)/\QI i w.heap.size:=λg h=>by
       refine (j g h).mono ?_;rintro e i ⟨u,rfl,⟨ha,hb⟩,C⟩;have a6:=h.box.same (C.block _ (by have:=h.size;omega) (by simp;omega));obtain rfl:=hb rfl;exact⟨by rw[K],zD h.grown C,a6⟩
      clear n A j hvx K;go_enter func192,ntmps192
      go_wp2_with (first
       | (go_at_call 146;refine G.mono ?_;rintro e g ⟨rfl,l⟩)
       | (go_at_call 51;refine (r g l).mono ?_;rintro e w2 ⟨rfl,o⟩)
       | (go_at_call 92;refine (b2 w4 B).mono ?_;rintro e w5 ⟨rfl,I⟩)
       | (go_at_call 92;refine (a1 w2 o).mono ?_;rintro e w3 ⟨rfl,E⟩)
       | (go_at_call 147;refine (Q w3 E).mono ?_;rintro e w4 ⟨rfl,B⟩)
       | (go_at_call 93;refine (y w5 I).mono ?_;rintro e w6 ⟨rfl,a7,L⟩;obtain⟨U,W,k2,k3⟩:=L))
      refine bodyPost_ret (v := .tuple #[.agg #[.string t,.nilIface],.iface T2 (.agg #[.int .i64 (q4:Int)])]) (by simp[results,results192,go_sem,U,W]) rfl ?_;refine uQ.of ?_ X.out Y.out;exact⟨t,.nilIface,by rw[HT.out],⟨λh=>absurd h (by decide),λ_=>rfl⟩,vP a7 ((yz _ _ (Nat.le_refl _)).trans (yz _ _ (Nat.le_refl _)))⟩
   ·rw[if_pos c58] at n A
    have S:Rd.zK s.data.toList ((ByteArray.mk #[58]).data.toList.map UInt8.toNat) q2 = .err 2 q2:=by
     show Rd.zK s.data.toList [58] q2=_;simp only[Rd.zK];rw[if_neg c58]
    have Q:∀g,MAt w R s q2 g->Calls prog 147 #[.pointer (some ⟨R,0,none⟩),.string ⟨#[58]⟩] g λe i=>e = .returned (.iface 140 (.agg #[.int .i64 (q2:Int)]))/\MAt w R s q2 i:=λg h=>by
     refine (ZY s ⟨#[58]⟩ R q2 g h.rd H hs (by decide) (by decide) _ S).mono ?_;rintro e i ⟨rfl,Z,C,h3⟩;exact⟨rfl,h.next D z Z C⟩
    have X:=hid n;have Y:=hid A;clear n A S c58 hv;go_enter func192,ntmps192
    go_wp2_with (first
     | (go_at_call 146;refine G.mono ?_;rintro e g ⟨rfl,l⟩)
     | (go_at_call 51;refine (r g l).mono ?_;rintro e w2 ⟨rfl,o⟩)
     | (go_at_call 92;refine (a1 w2 o).mono ?_;rintro e w3 ⟨rfl,E⟩)
     | (go_at_call 147;refine (Q w3 E).mono ?_;rintro e w4 ⟨rfl,B⟩;have d1:=hid B;obtain⟨U,W,k2,k3⟩:=B.box;clear B))
    refine bodyPost_ret (v := .tuple #[.agg #[.string ⟨#[]⟩,.nilIface],.iface 140 (.agg #[.int .i64 (q2:Int)])]) (by simp[results,results192,go_sem,U,W]) rfl ?_;refine uQ.of ?_ X.out Y.out;exact⟨_,_,rfl,⟨λh=>absurd h (by decide),λ_=>rfl⟩,vP d1.out.grown ((yz _ _ (Nat.le_refl _)).trans (yz _ _ (Nat.le_refl _)))⟩
def uu(a:List (BY×Value)):List Value:=a.flatMap λm=>[.string m.1,m.2]
theorem Dx(a:List (BY×Value)):(uu a).length=a.length*2:=by
 induction a with
 | nil=>rfl
 | cons m a b=>unfold uu at *;simp only[List.flatMap_cons,List.length_append,List.length_cons,b];simp;omega
theorem Dv(a:List (BY×Value))(m:BY×Value):uu (a++[m])=uu a++[.string m.1,m.2]:=by
 unfold uu;simp
theorem Dw(a:List (BY×Value))(j:Nat)(x:BY×Value)(h:a[j]?=some x):(uu a)[j*2]?=some (.string x.1)/\(uu a)[j*2+1]?=some x.2:=by
 induction a generalizing j with
 | nil=>simp at h
 | cons m a b=>
  cases j with
  | zero=>simp at h;subst h;exact⟨rfl,rfl⟩
  | succ j=>
   have:=b j (by simpa using h)
   have e:uu (m::a) = .string m.1::m.2::uu a:=rfl;rw[e,show (j+1)*2=j*2+1+1 by omega,show j*2+1+1+1=(j*2+1)+1+1 by omega]
   simpa using this
theorem bW{w:World}{base n cap:Nat}{ao:Option Addr}{a:List (BY×Value)}(h:w.ownsRow base 202 2 (.slice ao n cap) n (uu a)):Zp w ao a:=by
 rcases h.2 with ⟨h1,h2⟩|⟨g,c,cur,h1,hB,hg,hrest⟩
 ·have:=h.1
  rw[Dx] at this;exact .inl (List.eq_nil_of_length_eq_zero (by omega))
 ·injection h1 with h1 h2 h3
  subst h1;have e:=World.ownsRow.cells h (g:=g) rfl;refine .inr ⟨g,0,rfl,λj k=>?_⟩;have l:a[j]?=some a[j]:=List.getElem?_eq_getElem k;obtain⟨f,i⟩:=Dw a j _ l;have b:=e _ _ f;have d:=e _ _ i;rw[addr_add] at b d;exact⟨b,by rw[show 0+j*2+1=0+(j*2+1) by omega];exact d⟩
theorem Dy:(prog.info? 202).map (λi=>(i.zero,i.size,i.bytes))=some (some (.agg #[.string ⟨#[]⟩,.nilIface]),2,32):=by kernel_rfl
structure uS (w0:World) (R:Nat) (s:BY) (d:Nat) (acc:List (BY×Rd.V)) (q:Nat) (wr:World):Prop where
 rd:zk wr R s q
 seq:zT wr
 grown:w0.grownBy wr (some R)
 size:w0.heap.size+3<=wr.heap.size
 len:acc.length<=q
 cx:wr.cell? ⟨w0.heap.size,0,none⟩=some (.pointer (some ⟨R,0,none⟩))
 cd:wr.cell? ⟨w0.heap.size+1,0,none⟩=some (.int .i64 (d:Int))
 row:∃ao cap us,wr.cell? ⟨w0.heap.size+2,0,none⟩=some (.slice ao acc.length cap)/\wr.frozen? ⟨w0.heap.size+2,0,none⟩=false/\wr.ownsRow (w0.heap.size+3) 202 2 (.slice ao acc.length cap) acc.length (uu us)/\us.map Prod.fst=acc.map Prod.fst /\
  ∀(j:Nat) (x:BY×Rd.V) (u:BY×Value),acc[j]?=some x->us[j]?=some u->ValAt wr (λb=>w0.heap.size+3<=b/\b<wr.heap.size/\(Value.slice ao acc.length cap).ownBlock≠some b) x.2 u.2
theorem uS.mv{e:World}{R:Nat}{s:BY}{d:Nat}{acc:List (BY×Rd.V)}{q g:Nat}{w i:World}(t:R<e.heap.size)(f:R≠5)(h:uS e R s d acc q w)(x:q<=g)(c:w.grownBy i (some R))(m:zk i R s g):uS e R s d acc g i:=by
 obtain⟨ao,cap,r,c1,c2,c3,k,c4⟩:=h.row;have n:=h.size;have l:=c.size;refine⟨m,h.seq.grown c f,zD h.grown c,by omega,by have:=h.len;omega,c.cell h.cx (by simp;omega),c.cell h.cd (by simp;omega),ao,cap,r,c.cell c1 (by simp;omega),?_,yN c3 c (by omega),k,λj v u p o=>(c4 j v u p o).move (λb hb=>⟨hb.1,by omega,hb.2.2⟩) (λb hb=>c.block b hb.2.1 (by simp;omega))⟩;rw[World.frozen?_of_block (w:=w) (a:=⟨e.heap.size+2,0,none⟩) (c.block _ (by show e.heap.size+2<_;omega) (by simp;omega))];exact c2
theorem dH{s:BY}{d f q q2:Nat}{acc:List (BY×Rd.V)}{m:BY×Rd.V}(r:q<=s.size)(k:2*(s.size-q)<f)(h:Rd.kC s.data.toList d f acc q = .ok m q2):q<q2/\q2<=s.size:=by
 unfold Rd.kC at h
 cases hx:Rd.xw s.data.toList q with
 | err c a=>rw[hx] at h;cases h
 | ok t a=>
  rw[hx] at h;simp only at h;have n:=(Rd.Y9 hx).1;have e:=Rd.Ja hx;have o:=Rd.xJ s.data.toList a
  split at h
  ·cases h
  split at h
  ·cases h
  rename_i i;have g:Rd.skip s.data.toList a<s.data.toList.length:=Rd.zP s.data.toList _ (by omega);have p:=Rd.xJ s.data.toList (Rd.skip s.data.toList a+1);have j:=Rd.jc s.data.toList (Rd.skip s.data.toList a+1) (by omega);rw[Ref.zx] at e g j
  cases hv:Rd.zL s.data.toList f (d+1) (Rd.skip s.data.toList (Rd.skip s.data.toList a+1)) with
  | err c b=>rw[hv] at h;cases h
  | ok v b=>
   rw[hv] at h;injection h with _ he
   have:=Rd.Jo (l:=s.data.toList) (f:=f) (d:=d+1) (by omega) (by rw[Ref.zx];omega) (Rd.vB _ _) (by rw[Ref.zx];omega) hv
   rw[Ref.zx] at this;omega
theorem Ei(s:BY)(R d F:Nat)(l:World)(hs:s.size<=4000)(hR:R<l.heap.size)(a0:R≠5)(d3:5<l.heap.size)(hd:d<=8)(hv:vZ s R F)(f:Nat)(acc:List (BY×Rd.V))(q:Nat)(w:World)(hf:f<F)
  (hi:uS l R s d acc q w)(hq:q<=s.size)(a2:2*(s.size-q)<f) :
  Calls prog 191 #[.pointer (some ⟨l.heap.size,0,none⟩),.pointer (some ⟨l.heap.size+1,0,none⟩),.pointer (some ⟨l.heap.size+2,0,none⟩)] w λe D=>yt (uS l R s d) (QH l R) (Rd.stO s.data.toList d f acc q) e D:=by
 obtain⟨i0,a3,a4,a5,a6⟩:=info_parts Dy;obtain⟨ao,cap,us,c1,c2,c3,cn,c4⟩:=hi.row;have cx:=hi.cx;have cd:=hi.cd;have f2:=hi.size;have hlen:=hi.len;have b4:us.length=acc.length:=by have:=congrArg List.length cn;simpa using this
 have b5:∀m ∈ us,∃T x,m.2 = .iface T x:=λm hm=>by
  obtain⟨j,hj,rfl⟩:=List.getElem_of_mem hm;exact (c4 j acc[j] us[j] (List.getElem?_eq_getElem (by omega)) (List.getElem?_eq_getElem hj)).iface
 have n:=DC s R q d f F w hi.rd hi.seq a0 hq hs hd hv hf a2 us acc cn b5 (by omega) ao cap (λD hg=>bW (yN c3 hg (by omega)));rw[b4] at n;have Q:Rd.stO s.data.toList d f acc q=Rd.stO s.data.toList d f acc q:=rfl
 conv at Q=>rhs;unfold Rd.stO
 have HI:=hid hi;have c8:=hid c4;have c9:=hid cn;have y:=hid (λk t=>World.ownsRow.lt c3 k t);have a9:=hid (λm q2 Y=>dH (s:=s) (d:=d) (f:=f) (q:=q) (q2:=q2) (acc:=acc) (m:=m) hq a2 Y);have X:some (l.heap.size+2)≠(Value.slice ao acc.length cap).ownBlock:=λe=>by have:=(y.out _ e.symm).1;omega
 have G:=hid X;have J:=hid d3;clear hi a2 hv c4 X b5 cn
 cases Y:Rd.kC s.data.toList d f acc q with
 | ok m q2=>
  obtain⟨nm,v⟩:=m;rw[Y] at n Q;simp only at Q;have e3:=a9.out _ q2 Y;have HE:=hid Q
  have r:=n.mono (R':=λe D=>∃T x,e = .returned (.tuple #[.agg #[.string nm,.iface T x],.nilIface])/\ValAt D (Blk w D) v (.iface T x)/\w.grownBy D (some R)/\zk D R s q2) (by
   rintro e D ⟨u,rfl,h1,P,h3,_⟩;obtain⟨T,x,rfl⟩:=h1.iface;exact⟨T,x,rfl,h1,P,h3⟩)
  clear n Y Q;go_enter func191,ntmps191
  go_wp2_with (first
   | (go_at_call 192;refine r.mono ?_;rintro e p ⟨T,x,rfl,d6,i,b2⟩;have Z:=i.cell c1 (by simp;omega);have b6:=λO:Obj=>zg (nb p O) Z;have o1:=yN c3 i (by omega))
   | (at_builtin;refine wpList_append_own_at _ rfl _ _ 118 rfl (l.heap.size+3) 202 i0 (.agg #[.string ⟨#[]⟩,.nilIface]) 2 32 underlying118 a3 a4 a5 a6 rfl (by decide) _ _ _ rfl ((o1.alloc _).alloc _) ⟨p.heap.size+1,0,none⟩ 1 1 [.string nm,.iface T x] rfl rfl ?c1 ?c2 ?c3 ?c4 ?c5 ?_))
  case c1=>exact YC _ _ _ _ _ _ (by simp)
  case c2=>intro u H;simp at H;rcases H with rfl|rfl<;>rfl
  case c3=>unfold maxLen;omega
  case c4=>omega
  case c5=>have:=i.size;simp;omega
  intro v' z C o _ W
  obtain⟨M,N,rfl⟩:∃a c,v' = .slice a (acc.length+1) c:=by
   rcases C.2 with ⟨_,h⟩|⟨g,c,cur,h,_⟩
   ·omega
   ·exact⟨_,_,h⟩
  have A:=nb p (.cells #[.string nm,.iface T x] 202);have S:=A.trans ((nb _ (.cells #[.string nm,.iface T x] 202)).mono A.size);have K:l.heap.size+2<p.heap.size:=by have:=i.size;omega
  have k3:z.cell? ⟨l.heap.size+2,0,none⟩=some (.slice ao acc.length cap):=o.cell (zg S Z) G.out
  have f3:z.frozen? ⟨l.heap.size+2,0,none⟩=false:=by
   rw[World.frozen?_of_block (w:=(p.alloc (.cells #[.string nm,.iface T x] 202)).alloc (.cells #[.string nm,.iface T x] 202)) (a:=⟨l.heap.size+2,0,none⟩) (o.block _ (by simp;omega) G.out),World.frozen?_of_block (w:=p) (a:=⟨l.heap.size+2,0,none⟩) (S.block _ K),World.frozen?_of_block (w:=w) (a:=⟨l.heap.size+2,0,none⟩) (i.block _ (by show l.heap.size+2<_;omega) (by simp;omega))];exact c2
  have B:zu l.heap.size R w (z.setCell ⟨l.heap.size+2,0,none⟩ (.slice M (acc.length+1) N)):=
   ((((zu.of i (by omega)).trans (zu.own (World.grownBy_alloc p _ none) (λk t=>by cases t) (by omega))).trans (zu.own (World.grownBy_alloc _ _ none) (λk t=>by cases t) (by simp;omega))).trans (zu.own o (λk t=>by have:=(y.out k t).1;omega) (by simp;omega))).trans (yz z _ (by omega))
  have I:=hid B;clear B
  have b0:∀b,b<p.heap.size->(Value.slice ao acc.length cap).ownBlock≠some b->b≠l.heap.size+2->(z.setCell ⟨l.heap.size+2,0,none⟩ (.slice M (acc.length+1) N)).heap[b]?=p.heap[b]?:=λb h1 P h3=>by
   rw[Jf _ _ _ _ _ h3,o.block b (by simp;omega) (λe=>P e.symm),S.block b h1]
  have E:=hid b0;clear b0
  go_wp2
  go_ret;refine yt.of ?_ HE.out;have e5:=i.size;have b3:=o.size;simp at b3
  have d8:(z.setCell ⟨l.heap.size+2,0,none⟩ (.slice M (acc.length+1) N)).cell? ⟨l.heap.size,0,none⟩=some (.pointer (some ⟨R,0,none⟩)):=by
   rw[World.cell?_of_block (w:=p) (a:=⟨l.heap.size,0,none⟩) (E.out l.heap.size (by omega) (λe=>by have:=(y.out _ e).1;omega) (by omega))];exact i.cell cx (by simp;omega)
  have d2:(z.setCell ⟨l.heap.size+2,0,none⟩ (.slice M (acc.length+1) N)).cell? ⟨l.heap.size+1,0,none⟩=some (.int .i64 (d:Int)):=by
   rw[World.cell?_of_block (w:=p) (a:=⟨l.heap.size+1,0,none⟩) (E.out (l.heap.size+1) (by omega) (λe=>by have:=(y.out _ e).1;omega) (by omega))];exact i.cell cd (by simp;omega)
  have d7:∀k,(Value.slice M (acc.length+1) N).ownBlock=some k->l.heap.size+3<=k/\k<z.heap.size:=λk t=>World.ownsRow.lt C k t;have a1:(acc++[(nm,v)]).length=acc.length+1:=by simp
  refine⟨rfl,b2.same (E.out R (by have:=b2.lt;omega) (λe=>by have:=(y.out _ e).1;omega) (by omega)),(HI.out.seq.grown i a0).same (E.out _ (HI.out.seq.grown i a0).lt (λe=>by have:=(y.out _ e).1;have:=HI.out.seq.lt;have:=J.out;omega) (by have:=J.out;omega)),vP HI.out.grown I.out,by rw[kG];omega,by simp;omega,d8,d2,M,N,us++[(nm,.iface T x)],?_,by rw[aC];exact f3,?_,?_,?_⟩
  ·rw[a1];exact QR _ _ _ _ k3
  ·rw[a1,Dv];exact C.kept (xE _ _ _ _) (.inr (λe=>by have:=(d7 _ e).1;omega))
  ·rw[List.map_append,List.map_append,c9.out];rfl
  ·intro j v2 u U d4;rw[a1]
   rcases fV d4 with ⟨hj,H⟩|⟨hj,H⟩
   ·have d5:acc[j]?=some v2:=by
     rw[List.getElem?_append_left (by omega)] at U;exact U
    refine (c8.out j v2 u d5 H).move (λb hb=>⟨hb.1,by rw[kG];omega,λe=>?_⟩) (λb hb=>?_)
    ·rcases W with h|h
     ·exact hb.2.2 (h.symm.trans e)
     ·rw[h] at e;simp at e;omega
    ·rw[E.out b (by omega) hb.2.2 (by omega)];exact i.block b hb.2.1 (by simp;omega)
   ·rw[b4] at hj;subst hj H;simp at U;subst U;refine d6.move (λb hb=>⟨by have:=hb.1;omega,by have:=hb.2;rw[kG];omega,λe=>?_⟩) (λb hb=>?_)
    ·have h1:=hb.1;have P:=hb.2
     rcases W with h|h
     ·have:=(y.out b (h.symm.trans e)).2;omega
     ·rw[h] at e;simp at e;omega
    ·have h1:=hb.1;have P:=hb.2;exact E.out b P (λe=>by have:=(y.out b e).2;omega) (by omega)
 | err c q2=>
  rw[Y] at n Q;simp only at Q;obtain⟨T2,L⟩:=Qo c q2;have HE:=hid Q;have HT:=hid L
  cases hsb:Q0 s acc q with
  | true=>
   rw[hsb] at n
   have r:=n.mono (R':=λe D=>(∃nm T x,e = .returned (.tuple #[.agg #[.string nm,.iface T x],.iface T2 (.agg #[.int .i64 (q2:Int)])]))/\w.grownBy D (some R)) (by
    rintro e D ⟨nm,u,rfl,⟨ha,hb⟩,P⟩;obtain⟨T,x,rfl⟩:=ha rfl;exact⟨⟨nm,T,x,by rw[L]⟩,P⟩)
   clear n Y Q L;go_enter func191,ntmps191
   go_wp2_with (first
    | (go_at_call 192;refine r.mono ?_;rintro e p ⟨⟨nm,T,x,rfl⟩,i⟩;have Z:=i.cell c1 (by simp;omega);have b6:=λO:Obj=>zg (nb p O) Z;have o1:=yN c3 i (by omega))
    | (at_builtin;refine wpList_append_own_at _ rfl _ _ 118 rfl (l.heap.size+3) 202 i0 (.agg #[.string ⟨#[]⟩,.nilIface]) 2 32 underlying118 a3 a4 a5 a6 rfl (by decide) _ _ _ rfl ((o1.alloc _).alloc _) ⟨p.heap.size+1,0,none⟩ 1 1 [.string nm,.iface T x] rfl rfl ?c1 ?c2 ?c3 ?c4 ?c5 ?_))
   case c1=>exact YC _ _ _ _ _ _ (by simp)
   case c2=>intro u H;simp at H;rcases H with rfl|rfl<;>rfl
   case c3=>unfold maxLen;omega
   case c4=>omega
   case c5=>have:=i.size;simp;omega
   intro v' z C o _ _
   obtain⟨M,N,rfl⟩:∃a c,v' = .slice a (acc.length+1) c:=by
    rcases C.2 with ⟨_,h⟩|⟨g,c,cur,h,_⟩
    ·omega
    ·exact⟨_,_,h⟩
   have A:=nb p (.cells #[.string nm,.iface T x] 202);have S:=A.trans ((nb _ (.cells #[.string nm,.iface T x] 202)).mono A.size);have K:l.heap.size+2<p.heap.size:=by have:=i.size;omega
   have k3:z.cell? ⟨l.heap.size+2,0,none⟩=some (.slice ao acc.length cap):=o.cell (zg S Z) G.out
   have f3:z.frozen? ⟨l.heap.size+2,0,none⟩=false:=by
    rw[World.frozen?_of_block (w:=(p.alloc (.cells #[.string nm,.iface T x] 202)).alloc (.cells #[.string nm,.iface T x] 202)) (a:=⟨l.heap.size+2,0,none⟩) (o.block _ (by simp;omega) G.out),World.frozen?_of_block (w:=p) (a:=⟨l.heap.size+2,0,none⟩) (S.block _ K),World.frozen?_of_block (w:=w) (a:=⟨l.heap.size+2,0,none⟩) (i.block _ (by show l.heap.size+2<_;omega) (by simp;omega))];exact c2
   have B:zu l.heap.size R w (z.setCell ⟨l.heap.size+2,0,none⟩ (.slice M (acc.length+1) N)):=
    ((((zu.of i (by omega)).trans (zu.own (World.grownBy_alloc p _ none) (λk t=>by cases t) (by omega))).trans (zu.own (World.grownBy_alloc _ _ none) (λk t=>by cases t) (by simp;omega))).trans (zu.own o (λk t=>by have:=(y.out k t).1;omega) (by simp;omega))).trans (yz z _ (by omega))
   have I:=hid B;clear B
   go_wp2
   go_ret;refine yt.of ?_ HE.out;exact⟨by rw[HT.out];rfl,vP HI.out.grown I.out,_,QR _ _ _ _ k3⟩
  | false=>
   rw[hsb] at n
   have r:=n.mono (R':=λe D=>(∃nm,e = .returned (.tuple #[.agg #[.string nm,.nilIface],.iface T2 (.agg #[.int .i64 (q2:Int)])]))/\w.grownBy D (some R)) (by
    rintro e D ⟨nm,u,rfl,⟨ha,hb⟩,P⟩;obtain rfl:=hb rfl;exact⟨⟨nm,by rw[L]⟩,P⟩)
   clear n Y Q L;go_enter func191,ntmps191
   go_wp2_with (first
    | (go_at_call 192;refine r.mono ?_;rintro e p ⟨⟨nm,rfl⟩,i⟩;have Z:=i.cell c1 (by simp;omega);have b6:=λO:Obj=>zg (nb p O) Z;have o1:=yN c3 i (by omega))
    | (at_builtin;refine wpList_append_own_at _ rfl _ _ 118 rfl (l.heap.size+3) 202 i0 (.agg #[.string ⟨#[]⟩,.nilIface]) 2 32 underlying118 a3 a4 a5 a6 rfl (by decide) _ _ _ rfl ((o1.alloc _).alloc _) ⟨p.heap.size+1,0,none⟩ 1 1 [.string nm,.nilIface] rfl rfl ?c1 ?c2 ?c3 ?c4 ?c5 ?_))
   case c1=>exact YC _ _ _ _ _ _ (by simp)
   case c2=>intro u H;simp at H;rcases H with rfl|rfl<;>rfl
   case c3=>unfold maxLen;omega
   case c4=>omega
   case c5=>have:=i.size;simp;omega
   intro v' z C o _ _
   obtain⟨M,N,rfl⟩:∃a c,v' = .slice a (acc.length+1) c:=by
    rcases C.2 with ⟨_,h⟩|⟨g,c,cur,h,_⟩
    ·omega
    ·exact⟨_,_,h⟩
   have A:=nb p (.cells #[.string nm,.nilIface] 202);have S:=A.trans ((nb _ (.cells #[.string nm,.nilIface] 202)).mono A.size);have K:l.heap.size+2<p.heap.size:=by have:=i.size;omega
   have k3:z.cell? ⟨l.heap.size+2,0,none⟩=some (.slice ao acc.length cap):=o.cell (zg S Z) G.out
   have f3:z.frozen? ⟨l.heap.size+2,0,none⟩=false:=by
    rw[World.frozen?_of_block (w:=(p.alloc (.cells #[.string nm,.nilIface] 202)).alloc (.cells #[.string nm,.nilIface] 202)) (a:=⟨l.heap.size+2,0,none⟩) (o.block _ (by simp;omega) G.out),World.frozen?_of_block (w:=p) (a:=⟨l.heap.size+2,0,none⟩) (S.block _ K),World.frozen?_of_block (w:=w) (a:=⟨l.heap.size+2,0,none⟩) (i.block _ (by show l.heap.size+2<_;omega) (by simp;omega))];exact c2
   have B:zu l.heap.size R w (z.setCell ⟨l.heap.size+2,0,none⟩ (.slice M (acc.length+1) N)):=
    ((((zu.of i (by omega)).trans (zu.own (World.grownBy_alloc p _ none) (λk t=>by cases t) (by omega))).trans (zu.own (World.grownBy_alloc _ _ none) (λk t=>by cases t) (by simp;omega))).trans (zu.own o (λk t=>by have:=(y.out k t).1;omega) (by simp;omega))).trans (yz z _ (by omega))
   have I:=hid B;clear B
   go_wp2
   go_ret;refine yt.of ?_ HE.out;exact⟨by rw[HT.out];rfl,vP HI.out.grown I.out,_,QR _ _ _ _ k3⟩
end Go.Proofs.YtdakgnaojakldaaGreatDoor
