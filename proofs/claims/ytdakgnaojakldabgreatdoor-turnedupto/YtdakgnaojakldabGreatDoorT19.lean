/- P -/
import Derived.Test.YtdakgnaojakldabGreatDoorT18
import Derived.RegionTactic
import Derived.ChangeAlike
open Go.Proofs.Tryz
set_option maxRecDepth 100000
set_option maxHeartbeats 2000000
namespace Go.Proofs.YtdakgnaojakldabGreatDoor
open Go.RowKit
def Xn(w:World)(b:Nat):Prop:=w.cell? ⟨b,0,none⟩=some (.string ⟨#[]⟩)/\w.cell? ⟨b,1,none⟩=some .nilIface/\w.frozen? ⟨b,0,none⟩=false/\w.frozen? ⟨b,1,none⟩=false
theorem Xn.same{w d:World}{b:Nat}(h:Xn w b)(c:d.heap[b]?=w.heap[b]?):Xn d b:=
 ⟨by rw[World.cell?_of_block (w:=w) (a:=⟨b,0,none⟩) c];exact h.1,by rw[World.cell?_of_block (w:=w) (a:=⟨b,1,none⟩) c];exact h.2.1,by rw[World.frozen?_of_block (w:=w) (a:=⟨b,0,none⟩) c];exact h.2.2.1,by rw[World.frozen?_of_block (w:=w) (a:=⟨b,1,none⟩) c];exact h.2.2.2⟩
structure MAt (w:World) (R:Nat) (s:BA) (q:Nat) (w':World):Prop where
 grown:w.grownBy w' (some R)
 rd:zi w' R s q
 seq:qb w'
 box:Xn w' w.heap.size
 size:w.heap.size+1<=w'.heap.size
theorem MAt.next{w:World}{R:Nat}{s:BA}{q d:Nat}{e c:World}(g:R<w.heap.size)(b:R≠5)(h:MAt w R s q e)(a:e.grownBy c (some R))(f:zi c R s d):MAt w R s d c:=
 ⟨zH h.grown a,f,h.seq.grown a b,h.box.same (a.block _ (by have:=h.size;omega) (by simp;omega)),Nat.le_trans h.size a.size⟩
theorem MAt.below{w:World}{R:Nat}{s:BA}{q:Nat}{b d:World}(h:MAt w R s q b)(a:Below b.heap.size b d):MAt w R s q d:=by
 have e:b.grownBy d none:=⟨a.os,a.tape,a.output,a.size,λk c _=>a.block k c⟩;exact⟨zH h.grown ⟨a.os,a.tape,a.output,a.size,λk c _=>a.block k c⟩,h.rd.same (a.block R h.rd.lt),h.seq.same (a.block _ h.seq.lt),h.box.same (e.block _ (by have:=h.size;omega) (by simp)),Nat.le_trans h.size a.size⟩
theorem Db{a:List (BA×Value)}{nm:BA}(h:a.any (λm=>m.1.toList==nm.toList)=false):qC a nm = .nilIface:=by
 unfold qC
 have:a.find? (λm=>m.1.toList==nm.toList)=none:=by
  rw[List.find?_eq_none];intro m b c;rw[List.any_eq_false] at h;exact h m b c
 rw[this]
theorem Dc{a:List (BA×Value)}{nm:BA}(b:∀m ∈ a,∃T x,m.2 = .iface T x)(h:a.any (λm=>m.1.toList==nm.toList)=true):∃T x,qC a nm = .iface T x:=by
 unfold qC
 cases hf:a.find? (λm=>m.1.toList==nm.toList) with
 | none=>
  rw[List.find?_eq_none] at hf;rw[List.any_eq_true] at h;obtain⟨m,c,d⟩:=h;exact absurd d (hf m c)
 | some m=>exact b m (List.mem_of_find?_eq_some hf)
theorem ah{α β:Type}{a:List (BA×α)}{acc:List (BA×β)}(h:a.map Prod.fst=acc.map Prod.fst)(nm:BA):a.any (λm=>m.1.toList==nm.toList)=acc.any (λm=>m.1.toList==nm.toList):=by
 have b:a.any (λm=>m.1.toList==nm.toList)=(a.map Prod.fst).any (λm=>m.toList==nm.toList):=by rw[List.any_map];rfl
 have c:acc.any (λm=>m.1.toList==nm.toList)=(acc.map Prod.fst).any (λm=>m.toList==nm.toList):=by rw[List.any_map];rfl
 rw[b,c,h]
def XH(s:BA)(acc:List (BA×Rd.V))(q:Nat):Bool:=match Rd.xM s.data.toList q with
 | .err _ _=>false
 | .ok t a=>if acc.any (λx=>x.1.toList==t.toList) then false
  else if Rd.ze s.data.toList (Rd.skip s.data.toList a)≠58 then false
  else starts s (Rd.skip s.data.toList (Rd.skip s.data.toList a+1))
def Ze(w:World)(R:Nat)(s:BA)(sb:Bool)(r:Rd.Res (BA×Rd.V))(e:Ending)(a:World):Prop:=match r with
 | .ok m q=>∃u,e = .returned (.tuple #[.agg #[.string m.1,u],.nilIface])/\ValAt a (Blk w a) m.2 u/\w.grownBy a (some R)/\zi a R s q/\qb a
 | .err c q=>∃x u,e = .returned (.tuple #[.agg #[.string x,u],vY c q])/\((sb=true->∃T y,u = .iface T y)/\(sb=false->u = .nilIface))/\w.grownBy a (some R)
theorem Ze.of{w c:World}{R:Nat}{s:BA}{sb a:Bool}{r b:Rd.Res (BA×Rd.V)}{e:Ending}(h:Ze w R s sb r e c)(d:b=r)(f:a=sb):Ze w R s a b e c:=d ▸ f ▸ h
theorem JZ(s:BA)(R p:Nat)(w:World)(d:zi w R s p)(b:p<=s.size)(f:s.size<=4000)(c:qb w)(a:R≠5)(r:Rd.Res BA)(h:Rd.xM s.data.toList p=r) :
  Calls prog 85 #[.pointer (some ⟨R,0,none⟩)] w λe g=>Qe w R s r e g:=by
 rw[<- h];exact LP s R p w d b f c a
theorem GK(s:BA)(R p d f F:Nat)(w:World)(hr:zi w R s p)(hq:qb w)(z:R≠5)(hp:p<=s.size)(hs:s.size<=4000)(hd:d<=8)(hv:kg s R F)(hf:f<F)(f0:2*(s.size-p)<f)
  (us:List (BA×Value))(acc:List (BA×Rd.V))(hn:us.map Prod.fst=acc.map Prod.fst)(c5:∀m ∈ us,∃T x,m.2 = .iface T x)(f3:us.length<=4000)(ao:Option Addr)(cap:Nat)(hm:∀i,w.grownBy i (some R)->Z6 i ao us) :
  Calls prog 105 #[.pointer (some ⟨R,0,none⟩),.int .i64 (d:Int),.slice ao us.length cap] w λe i=>Ze w R s (XH s acc p) (Rd.Zo s.data.toList d f acc p) e i:=by
 have D:=hr.lt;have d7:=hid hq.lt
 have h0:MAt w R s p (w.alloc (.cells #[.string ⟨#[]⟩,.nilIface] 139)):=by
  have hg:=World.grownBy_alloc w (.cells #[.string ⟨#[]⟩,.nilIface] 139) (some R);have hn:=heap_alloc_new w (.cells #[.string ⟨#[]⟩,.nilIface] 139);refine⟨hg,hr.alloc _,hq.grown hg z,⟨?_,?_,?_,?_⟩,by simp⟩
  ·simp only[World.cell?,hn];rfl
  ·simp only[World.cell?,hn];rfl
  ·simp only[World.frozen?,hn];rfl
  ·simp only[World.frozen?,hn];rfl
 have n:Rd.Zo s.data.toList d f acc p=Rd.Zo s.data.toList d f acc p:=rfl
 conv at n=>rhs;unfold Rd.Zo
 have A:XH s acc p=XH s acc p:=rfl
 conv at A=>rhs;unfold XH
 clear hr hq
 cases hx:Rd.xM s.data.toList p with
 | err c q=>
  rw[hx] at n A;simp only at n A;have hc:=Rd.iR hx;subst hc
  have G:=(JZ s R p _ h0.rd hp hs h0.seq z _ hx).mono (R':=λe i=>e = .returned (.tuple #[.string ⟨#[]⟩,.iface 112 (.agg #[.int .i64 (q:Int)])])/\MAt w R s q i) (by
   rintro e i ⟨rfl,Z,C,h3⟩;exact⟨rfl,h0.next D z Z C⟩)
  have X:=hid n;have Y:=hid A;clear n A hx h0;go_enter func105,ntmps105
  go_wp2_with (go_at_call 85;refine G.mono ?_;rintro e g ⟨rfl,l⟩;have d0:=hid l;obtain⟨U,W,k2,k3⟩:=l.box;clear l)
  refine bodyPost_ret (v := .tuple #[.agg #[.string ⟨#[]⟩,.nilIface],.iface 112 (.agg #[.int .i64 (q:Int)])]) (by simp[results,results105,go_sem,U,W]) rfl ?_;refine Ze.of ?_ X.out Y.out;exact⟨_,_,rfl,⟨λh=>absurd h (by decide),λ_=>rfl⟩,uI d0.out.grown ((yY _ _ (Nat.le_refl _)).trans (yY _ _ (Nat.le_refl _)))⟩
 | ok t J=>
  rw[hx] at n A;simp only at n A;have c2:=Rd.JY hx;have f2:=(Rd.JX hx).1;rw[Ref.zB] at c2
  have G:=(JZ s R p _ h0.rd hp hs h0.seq z _ hx).mono (R':=λe i=>e = .returned (.tuple #[.string t,.nilIface])/\MAt w R s J i) (by
   rintro e i ⟨rfl,Z,C,h3⟩;exact⟨rfl,h0.next D z Z C⟩)
  have r:∀g,MAt w R s J g->Calls prog 31 #[.slice ao us.length cap,.string t] g λe i=>e = .returned (qC us t)/\MAt w R s J i:=λg h=>by
   refine (Ul us ao cap t g (by omega) (hm g h.grown) c5).mono ?_;rintro e i ⟨rfl,hb⟩;exact⟨rfl,h.below hb⟩
  clear hx h0
  cases hany:acc.any (λx=>x.1.toList==t.toList) with
  | true=>
   rw[hany,if_pos rfl] at n A;obtain⟨T,x,M⟩:=Dc c5 ((ah hn t).trans hany);simp only[M] at r;have X:=hid n;have Y:=hid A;clear n A hany M;go_enter func105,ntmps105
   go_wp2_with (first
    | (go_at_call 85;refine G.mono ?_;rintro e g ⟨rfl,l⟩)
    | (go_at_call 31;refine (r g l).mono ?_;rintro e w2 ⟨rfl,o⟩;have d1:=hid o;obtain⟨U,W,k2,k3⟩:=o.box;obtain⟨g1,g2,g3⟩:=o.rd;clear l o))
   have e5:1<=(J:Int):=by omega
   go_region
   all_goals
    go_wp2
    refine bodyPost_ret (v := .tuple #[.agg #[.string ⟨#[]⟩,.nilIface],.iface 114 (.agg #[.int .i64 ((J:Int)-1)])]) (by simp[results,results105,go_sem,U,W]) rfl ?_;refine Ze.of ?_ X.out Y.out;refine⟨_,_,by rw[BQ,show ((J-1:Nat):Int)=(J:Int)-1 by omega],⟨λh=>absurd h (by decide),λ_=>rfl⟩,?_⟩;have N:zC w.heap.size R w2 ((w2.setCell ⟨w.heap.size,0,none⟩ (.string ⟨#[]⟩)).setCell ⟨w.heap.size,1,none⟩ .nilIface):=(yY _ _ (Nat.le_refl _)).trans (yY _ _ (Nat.le_refl _));exact uI d1.out.grown ⟨N.os,N.tape,N.output,N.size,N.block⟩
  | false=>
   rw[hany,if_neg (by decide)] at n A;have M:=Db ((ah hn t).trans hany);simp only[M] at r;have H:=Rd.jO s.data.toList J (by rw[Ref.zB];omega);rw[Ref.zB] at H;have c3:=Rd.xW s.data.toList J;obtain⟨q2,b1⟩:∃q,Rd.skip s.data.toList J=q:=⟨_,rfl⟩;rw[b1] at H c3 n A
   have a2:∀g,MAt w R s J g->Calls prog 51 #[.pointer (some ⟨R,0,none⟩)] g λe i=>e = .returned (.tuple #[])/\MAt w R s q2 i:=λg h=>by
    refine (Xd s R J g h.rd c2 hs).mono ?_;rintro e i ⟨rfl,h4,h5⟩;rw[b1] at h5;exact⟨rfl,h.next D z h4 h5⟩
   clear hany M b1
   by_cases c58:Rd.ze s.data.toList q2=58
   ·rw[if_neg (by simp[c58])] at n A
    have S:Rd.zP s.data.toList ((ByteArray.mk #[58]).data.toList.map UInt8.toNat) q2 = .ok () (q2+1):=by
     show Rd.zP s.data.toList [58] q2=_;simp only[Rd.zP];rw[if_pos c58]
    have e6:q2<s.size:=by
     have:=Rd.zW s.data.toList q2 (by omega)
     rwa [Ref.zB] at this
    have Q:∀g,MAt w R s q2 g->Calls prog 86 #[.pointer (some ⟨R,0,none⟩),.string ⟨#[58]⟩] g λe i=>e = .returned .nilIface/\MAt w R s (q2+1) i:=λg h=>by
     refine (QB s ⟨#[58]⟩ R q2 g h.rd H hs (by decide) (by decide) _ S).mono ?_;rintro e i ⟨rfl,Z,C,h3⟩;exact⟨rfl,h.next D z Z C⟩
    have P:=Rd.jO s.data.toList (q2+1) (by rw[Ref.zB];omega);rw[Ref.zB] at P;have c4:=Rd.xW s.data.toList (q2+1);have O:=Rd.ul s.data.toList (q2+1);obtain⟨q3,b2⟩:∃q,Rd.skip s.data.toList (q2+1)=q:=⟨_,rfl⟩;rw[b2] at P c4 O n A
    have b3:∀g,MAt w R s (q2+1) g->Calls prog 51 #[.pointer (some ⟨R,0,none⟩)] g λe i=>e = .returned (.tuple #[])/\MAt w R s q3 i:=λg h=>by
     refine (Xd s R (q2+1) g h.rd (by omega) hs).mono ?_;rintro e i ⟨rfl,h4,h5⟩;rw[b2] at h5;exact⟨rfl,h.next D z h4 h5⟩
    have j:=λg (h:MAt w R s q3 g)=>hv f hf (d+1) q3 g h.rd h.seq P (by omega) (by omega) O (by omega);simp only[show ((d+1:Nat):Int)=(d:Int)+1 by omega] at j;clear b2 hv S c58 O
    cases hvx:Rd.zR s.data.toList f (d+1) q3 with
    | ok v q4=>
     rw[hvx] at n;simp only[hvx] at j;simp only at n;have X:=hid n
     have y:∀g,MAt w R s q3 g->Calls prog 52 #[.pointer (some ⟨R,0,none⟩),.int .i64 ((d:Int)+1)] g λe i=>∃T x,e = .returned (.tuple #[.iface T x,.nilIface])/\ValAt i (Blk g i) v (.iface T x)/\MAt w R s q4 i:=λg h=>by
      refine (j g h).mono ?_;rintro e i ⟨u,rfl,Z,C,h3⟩;obtain⟨T,x,rfl⟩:=Z.iface;exact⟨T,x,rfl,Z,h.next D z C h3⟩
     clear n A j hvx;go_enter func105,ntmps105
     go_wp2_with (first
      | (go_at_call 85;refine G.mono ?_;rintro e g ⟨rfl,l⟩)
      | (go_at_call 31;refine (r g l).mono ?_;rintro e w2 ⟨rfl,o⟩)
      | (go_at_call 51;refine (b3 w4 B).mono ?_;rintro e w5 ⟨rfl,I⟩)
      | (go_at_call 51;refine (a2 w2 o).mono ?_;rintro e w3 ⟨rfl,E⟩)
      | (go_at_call 86;refine (Q w3 E).mono ?_;rintro e w4 ⟨rfl,B⟩)
      | (go_at_call 52;refine (y w5 I).mono ?_;rintro e w6 ⟨T,x,rfl,d9,a9⟩;have a6:=hid a9;obtain⟨U,W,k2,k3⟩:=a9.box;have e7:=I.size;clear a9))
     refine bodyPost_ret (v := .tuple #[.agg #[.string t,.iface T x],.nilIface]) (by simp[results,results105,go_sem,U,W]) rfl ?_;refine Ze.of (sb:=XH s acc p) ?_ X.out rfl;have d4:∀a b,zC w.heap.size R w6 ((w6.setCell ⟨w.heap.size,0,none⟩ a).setCell ⟨w.heap.size,1,none⟩ b):=λa b=>(yY _ _ (Nat.le_refl _)).trans (yY _ _ (Nat.le_refl _));have b4:∀a b k,k≠w.heap.size->((w6.setCell ⟨w.heap.size,0,none⟩ a).setCell ⟨w.heap.size,1,none⟩ b).heap[k]?=w6.heap[k]?:=λa b k hk=>(Va _ _ _ _ _ hk).trans (Va _ _ _ _ _ hk);refine⟨.iface T x,rfl,d9.move (λb hb=>⟨by have:=hb.1;omega,by have:=hb.2;rw[Zr,Zr];exact this⟩) (λb hb=>b4 _ _ b (by have:=hb.1;omega)),uI a6.out.grown (d4 _ _),a6.out.rd.same (b4 _ _ R (by omega)),a6.out.seq.same (b4 _ _ _ (by have:=d7.out;omega))⟩
    | err c q4=>
     rw[hvx] at n;simp only[hvx] at j;simp only at n;obtain⟨T2,K⟩:=QY c q4;have X:=hid n;have Y:=hid A;have HT:=hid K
     cases hsb:starts s q3 with
     | true=>
      rw[hsb] at Y;simp only[hsb] at j
      have y:∀g,MAt w R s q3 g->Calls prog 52 #[.pointer (some ⟨R,0,none⟩),.int .i64 ((d:Int)+1)] g λe i=>(∃T x,e = .returned (.tuple #[.iface T x,.iface T2 (.agg #[.int .i64 (q4:Int)])]))/\w.grownBy i (some R)/\Xn i w.heap.size:=λg h=>by
       refine (j g h).mono ?_;rintro e i ⟨u,rfl,⟨ha,hb⟩,C⟩;have a7:=h.box.same (C.block _ (by have:=h.size;omega) (by simp;omega));obtain⟨T,x,rfl⟩:=ha rfl;exact⟨⟨T,x,by rw[K]⟩,zH h.grown C,a7⟩
      clear n A j hvx K;go_enter func105,ntmps105
      go_wp2_with (first
       | (go_at_call 85;refine G.mono ?_;rintro e g ⟨rfl,l⟩)
       | (go_at_call 31;refine (r g l).mono ?_;rintro e w2 ⟨rfl,o⟩)
       | (go_at_call 51;refine (b3 w4 B).mono ?_;rintro e w5 ⟨rfl,I⟩)
       | (go_at_call 51;refine (a2 w2 o).mono ?_;rintro e w3 ⟨rfl,E⟩)
       | (go_at_call 86;refine (Q w3 E).mono ?_;rintro e w4 ⟨rfl,B⟩)
       | (go_at_call 52;refine (y w5 I).mono ?_;rintro e w6 ⟨⟨T,x,rfl⟩,a8,L⟩;obtain⟨U,W,k2,k3⟩:=L))
      refine bodyPost_ret (v := .tuple #[.agg #[.string t,.iface T x],.iface T2 (.agg #[.int .i64 (q4:Int)])]) (by simp[results,results105,go_sem,U,W]) rfl ?_;refine Ze.of ?_ X.out Y.out;exact⟨t,.iface T x,by rw[HT.out],⟨λ_=>⟨T,x,rfl⟩,λh=>absurd h (by decide)⟩,uI a8 ((yY _ _ (Nat.le_refl _)).trans (yY _ _ (Nat.le_refl _)))⟩
     | false=>
      rw[hsb] at Y;simp only[hsb] at j
      have y:∀g,MAt w R s q3 g->Calls prog 52 #[.pointer (some ⟨R,0,none⟩),.int .i64 ((d:Int)+1)] g λe i=>e = .returned (.tuple #[.nilIface,.iface T2 (.agg #[.int .i64 (q4:Int)])])/\w.grownBy i (some R)/\Xn i w.heap.size:=λg h=>by
       refine (j g h).mono ?_;rintro e i ⟨u,rfl,⟨ha,hb⟩,C⟩;have a7:=h.box.same (C.block _ (by have:=h.size;omega) (by simp;omega));obtain rfl:=hb rfl;exact⟨by rw[K],zH h.grown C,a7⟩
      clear n A j hvx K;go_enter func105,ntmps105
      go_wp2_with (first
       | (go_at_call 85;refine G.mono ?_;rintro e g ⟨rfl,l⟩)
       | (go_at_call 31;refine (r g l).mono ?_;rintro e w2 ⟨rfl,o⟩)
       | (go_at_call 51;refine (b3 w4 B).mono ?_;rintro e w5 ⟨rfl,I⟩)
       | (go_at_call 51;refine (a2 w2 o).mono ?_;rintro e w3 ⟨rfl,E⟩)
       | (go_at_call 86;refine (Q w3 E).mono ?_;rintro e w4 ⟨rfl,B⟩)
       | (go_at_call 52;refine (y w5 I).mono ?_;rintro e w6 ⟨rfl,a8,L⟩;obtain⟨U,W,k2,k3⟩:=L))
      refine bodyPost_ret (v := .tuple #[.agg #[.string t,.nilIface],.iface T2 (.agg #[.int .i64 (q4:Int)])]) (by simp[results,results105,go_sem,U,W]) rfl ?_;refine Ze.of ?_ X.out Y.out;exact⟨t,.nilIface,by rw[HT.out],⟨λh=>absurd h (by decide),λ_=>rfl⟩,uI a8 ((yY _ _ (Nat.le_refl _)).trans (yY _ _ (Nat.le_refl _)))⟩
   ·rw[if_pos c58] at n A
    have S:Rd.zP s.data.toList ((ByteArray.mk #[58]).data.toList.map UInt8.toNat) q2 = .err 2 q2:=by
     show Rd.zP s.data.toList [58] q2=_;simp only[Rd.zP];rw[if_neg c58]
    have Q:∀g,MAt w R s q2 g->Calls prog 86 #[.pointer (some ⟨R,0,none⟩),.string ⟨#[58]⟩] g λe i=>e = .returned (.iface 112 (.agg #[.int .i64 (q2:Int)]))/\MAt w R s q2 i:=λg h=>by
     refine (QB s ⟨#[58]⟩ R q2 g h.rd H hs (by decide) (by decide) _ S).mono ?_;rintro e i ⟨rfl,Z,C,h3⟩;exact⟨rfl,h.next D z Z C⟩
    have X:=hid n;have Y:=hid A;clear n A S c58 hv;go_enter func105,ntmps105
    go_wp2_with (first
     | (go_at_call 85;refine G.mono ?_;rintro e g ⟨rfl,l⟩)
     | (go_at_call 31;refine (r g l).mono ?_;rintro e w2 ⟨rfl,o⟩)
     | (go_at_call 51;refine (a2 w2 o).mono ?_;rintro e w3 ⟨rfl,E⟩)
     | (go_at_call 86;refine (Q w3 E).mono ?_;rintro e w4 ⟨rfl,B⟩;have d2:=hid B;obtain⟨U,W,k2,k3⟩:=B.box;clear B))
    refine bodyPost_ret (v := .tuple #[.agg #[.string ⟨#[]⟩,.nilIface],.iface 112 (.agg #[.int .i64 (q2:Int)])]) (by simp[results,results105,go_sem,U,W]) rfl ?_;refine Ze.of ?_ X.out Y.out;exact⟨_,_,rfl,⟨λh=>absurd h (by decide),λ_=>rfl⟩,uI d2.out.grown ((yY _ _ (Nat.le_refl _)).trans (yY _ _ (Nat.le_refl _)))⟩
def kG(a:List (BA×Value)):List Value:=a.flatMap λm=>[.string m.1,m.2]
theorem GH(a:List (BA×Value)):(kG a).length=a.length*2:=by
 induction a with
 | nil=>rfl
 | cons m a b=>unfold kG at *;simp only[List.flatMap_cons,List.length_append,List.length_cons,b];simp;omega
theorem GD(a:List (BA×Value))(m:BA×Value):kG (a++[m])=kG a++[.string m.1,m.2]:=by
 unfold kG;simp
theorem GG(a:List (BA×Value))(j:Nat)(x:BA×Value)(h:a[j]?=some x):(kG a)[j*2]?=some (.string x.1)/\(kG a)[j*2+1]?=some x.2:=by
 induction a generalizing j with
 | nil=>simp at h
 | cons m a b=>
  cases j with
  | zero=>simp at h;subst h;exact⟨rfl,rfl⟩
  | succ j=>
   have:=b j (by simpa using h)
   have e:kG (m::a) = .string m.1::m.2::kG a:=rfl;rw[e,show (j+1)*2=j*2+1+1 by omega,show j*2+1+1+1=(j*2+1)+1+1 by omega]
   simpa using this
theorem fT{w:World}{base n cap:Nat}{ao:Option Addr}{a:List (BA×Value)}(h:w.ownsRow base 139 2 (.slice ao n cap) n (kG a)):Z6 w ao a:=by
 rcases h.2 with ⟨h1,h2⟩|⟨g,c,cur,h1,hB,hg,hrest⟩
 ·have:=h.1
  rw[GH] at this;exact .inl (List.eq_nil_of_length_eq_zero (by omega))
 ·injection h1 with h1 h2 h3
  subst h1;have e:=World.ownsRow.cells h (g:=g) rfl;refine .inr ⟨g,0,rfl,λj k=>?_⟩;have l:a[j]?=some a[j]:=List.getElem?_eq_getElem k;obtain⟨f,i⟩:=GG a j _ l;have b:=e _ _ f;have d:=e _ _ i;rw[addr_add] at b d;exact⟨b,by rw[show 0+j*2+1=0+(j*2+1) by omega];exact d⟩
theorem GI:(prog.info? 139).map (λi=>(i.zero,i.size,i.bytes))=some (some (.agg #[.string ⟨#[]⟩,.nilIface]),2,32):=by kernel_rfl
structure Zf (w0:World) (R:Nat) (s:BA) (d:Nat) (acc:List (BA×Rd.V)) (q:Nat) (wr:World):Prop where
 rd:zi wr R s q
 seq:qb wr
 grown:w0.grownBy wr (some R)
 size:w0.heap.size+3<=wr.heap.size
 len:acc.length<=q
 cx:wr.cell? ⟨w0.heap.size,0,none⟩=some (.pointer (some ⟨R,0,none⟩))
 cd:wr.cell? ⟨w0.heap.size+1,0,none⟩=some (.int .i64 (d:Int))
 row:∃ao cap us,wr.cell? ⟨w0.heap.size+2,0,none⟩=some (.slice ao acc.length cap)/\wr.frozen? ⟨w0.heap.size+2,0,none⟩=false/\wr.ownsRow (w0.heap.size+3) 139 2 (.slice ao acc.length cap) acc.length (kG us)/\us.map Prod.fst=acc.map Prod.fst /\
  ∀(j:Nat) (x:BA×Rd.V) (u:BA×Value),acc[j]?=some x->us[j]?=some u->ValAt wr (λb=>w0.heap.size+3<=b/\b<wr.heap.size/\(Value.slice ao acc.length cap).ownBlock≠some b) x.2 u.2
theorem Zf.mv{e:World}{R:Nat}{s:BA}{d:Nat}{acc:List (BA×Rd.V)}{q i:Nat}{w k:World}(x:R<e.heap.size)(g:R≠5)(h:Zf e R s d acc q w)(y:q<=i)(c:w.grownBy k (some R))(n:zi k R s i):Zf e R s d acc i k:=by
 obtain⟨ao,cap,t,c1,c2,c3,l,c4⟩:=h.row;have o:=h.size;have m:=c.size;refine⟨n,h.seq.grown c g,zH h.grown c,by omega,by have:=h.len;omega,c.cell h.cx (by simp;omega),c.cell h.cd (by simp;omega),ao,cap,t,c.cell c1 (by simp;omega),?_,jm c3 c (by omega),l,λj v u r p=>(c4 j v u r p).move (λb f=>⟨f.1,by omega,f.2.2⟩) (λb f=>c.block b f.2.1 (by simp;omega))⟩;rw[World.frozen?_of_block (w:=w) (a:=⟨e.heap.size+2,0,none⟩) (c.block _ (by show e.heap.size+2<_;omega) (by simp;omega))];exact c2
theorem gN{s:BA}{d f q q2:Nat}{acc:List (BA×Rd.V)}{m:BA×Rd.V}(r:q<=s.size)(k:2*(s.size-q)<f)(h:Rd.Zo s.data.toList d f acc q = .ok m q2):q<q2/\q2<=s.size:=by
 unfold Rd.Zo at h
 cases hx:Rd.xM s.data.toList q with
 | err c a=>rw[hx] at h;cases h
 | ok t a=>
  rw[hx] at h;simp only at h;have n:=(Rd.JX hx).1;have e:=Rd.JY hx;have o:=Rd.xW s.data.toList a
  split at h
  ·cases h
  split at h
  ·cases h
  rename_i i;have g:Rd.skip s.data.toList a<s.data.toList.length:=Rd.zW s.data.toList _ (by omega);have p:=Rd.xW s.data.toList (Rd.skip s.data.toList a+1);have j:=Rd.jO s.data.toList (Rd.skip s.data.toList a+1) (by omega);rw[Ref.zB] at e g j
  cases hv:Rd.zR s.data.toList f (d+1) (Rd.skip s.data.toList (Rd.skip s.data.toList a+1)) with
  | err c b=>rw[hv] at h;cases h
  | ok v b=>
   rw[hv] at h;injection h with _ he
   have:=Rd.Vo (l:=s.data.toList) (f:=f) (d:=d+1) (by omega) (by rw[Ref.zB];omega) (Rd.ul _ _) (by rw[Ref.zB];omega) hv
   rw[Ref.zB] at this;omega
theorem HY(s:BA)(R d F:Nat)(l:World)(hs:s.size<=4000)(hR:R<l.heap.size)(a2:R≠5)(d5:5<l.heap.size)(hd:d<=8)(hv:kg s R F)(f:Nat)(acc:List (BA×Rd.V))(q:Nat)(w:World)(hf:f<F)
  (W:Zf l R s d acc q w)(hq:q<=s.size)(a4:2*(s.size-q)<f) :
  Calls prog 104 #[.pointer (some ⟨l.heap.size,0,none⟩),.pointer (some ⟨l.heap.size+1,0,none⟩),.pointer (some ⟨l.heap.size+2,0,none⟩)] w λe E=>yR (Zf l R s d) (Xm l R) (Rd.stO s.data.toList d f acc q) e E:=by
 obtain⟨i0,a5,a6,a7,a8⟩:=info_parts GI;obtain⟨ao,cap,us,c1,c2,c3,cn,c4⟩:=W.row;have cx:=W.cx;have cd:=W.cd;have f5:=W.size;have hlen:=W.len;have b6:us.length=acc.length:=by have:=congrArg List.length cn;simpa using this
 have b7:∀m ∈ us,∃T x,m.2 = .iface T x:=λm hm=>by
  obtain⟨j,hj,rfl⟩:=List.getElem_of_mem hm;exact (c4 j acc[j] us[j] (List.getElem?_eq_getElem (by omega)) (List.getElem?_eq_getElem hj)).iface
 have n:=GK s R q d f F w W.rd W.seq a2 hq hs hd hv hf a4 us acc cn b7 (by omega) ao cap (λE hg=>fT (jm c3 hg (by omega)));rw[b6] at n;have S:Rd.stO s.data.toList d f acc q=Rd.stO s.data.toList d f acc q:=rfl
 conv at S=>rhs;unfold Rd.stO
 have HI:=hid W;have d0:=hid c4;have d1:=hid cn;have y:=hid (λk t=>World.ownsRow.lt c3 k t);have b1:=hid (λm q2 hx=>gN (s:=s) (d:=d) (f:=f) (q:=q) (q2:=q2) (acc:=acc) (m:=m) hq a4 hx);have Z:some (l.heap.size+2)≠(Value.slice ao acc.length cap).ownBlock:=λe=>by have:=(y.out _ e.symm).1;omega
 have H:=hid Z;have K:=hid d5;clear W a4 hv c4 Z b7 cn
 cases hx:Rd.Zo s.data.toList d f acc q with
 | ok m q2=>
  obtain⟨nm,v⟩:=m;rw[hx] at n S;simp only at S;have e5:=b1.out _ q2 hx;have HE:=hid S
  have r:=n.mono (R':=λe E=>∃T x,e = .returned (.tuple #[.agg #[.string nm,.iface T x],.nilIface])/\ValAt E (Blk w E) v (.iface T x)/\w.grownBy E (some R)/\zi E R s q2) (by
   rintro e E ⟨u,rfl,h1,Q,h3,_⟩;obtain⟨T,x,rfl⟩:=h1.iface;exact⟨T,x,rfl,h1,Q,h3⟩)
  clear n hx S;go_enter func104,ntmps104
  go_wp2_with (first
   | (go_at_call 105;refine r.mono ?_;rintro e p ⟨T,x,rfl,d8,i,b4⟩;have k1:=i.cell c1 (by simp;omega);have b8:=λO:Obj=>zb (nB p O) k1;have o1:=jm c3 i (by omega))
   | (at_builtin;refine wpList_append_own_at _ rfl _ _ 89 rfl (l.heap.size+3) 139 i0 (.agg #[.string ⟨#[]⟩,.nilIface]) 2 32 underlying89 a5 a6 a7 a8 rfl (by decide) _ _ _ rfl ((o1.alloc _).alloc _) ⟨p.heap.size+1,0,none⟩ 1 1 [.string nm,.iface T x] rfl rfl ?c1 ?c2 ?c3 ?c4 ?c5 ?_))
  case c1=>exact Jc _ _ _ _ _ _ (by simp)
  case c2=>intro u I;simp at I;rcases I with rfl|rfl<;>rfl
  case c3=>unfold maxLen;omega
  case c4=>omega
  case c5=>have:=i.size;simp;omega
  intro v' z D o _ Y
  obtain⟨N,P,rfl⟩:∃a c,v' = .slice a (acc.length+1) c:=by
   rcases D.2 with ⟨_,h⟩|⟨g,c,cur,h,_⟩
   ·omega
   ·exact⟨_,_,h⟩
  have A:=nB p (.cells #[.string nm,.iface T x] 139);have U:=A.trans ((nB _ (.cells #[.string nm,.iface T x] 139)).mono A.size);have L:l.heap.size+2<p.heap.size:=by have:=i.size;omega
  have k3:z.cell? ⟨l.heap.size+2,0,none⟩=some (.slice ao acc.length cap):=o.cell (zb U k1) H.out
  have f3:z.frozen? ⟨l.heap.size+2,0,none⟩=false:=by
   rw[World.frozen?_of_block (w:=(p.alloc (.cells #[.string nm,.iface T x] 139)).alloc (.cells #[.string nm,.iface T x] 139)) (a:=⟨l.heap.size+2,0,none⟩) (o.block _ (by simp;omega) H.out),World.frozen?_of_block (w:=p) (a:=⟨l.heap.size+2,0,none⟩) (U.block _ L),World.frozen?_of_block (w:=w) (a:=⟨l.heap.size+2,0,none⟩) (i.block _ (by show l.heap.size+2<_;omega) (by simp;omega))];exact c2
  have B:zC l.heap.size R w (z.setCell ⟨l.heap.size+2,0,none⟩ (.slice N (acc.length+1) P)):=
   ((((zC.of i (by omega)).trans (zC.own (World.grownBy_alloc p _ none) (λk t=>by cases t) (by omega))).trans (zC.own (World.grownBy_alloc _ _ none) (λk t=>by cases t) (by simp;omega))).trans (zC.own o (λk t=>by have:=(y.out k t).1;omega) (by simp;omega))).trans (yY z _ (by omega))
  have J:=hid B;clear B
  have b2:∀b,b<p.heap.size->(Value.slice ao acc.length cap).ownBlock≠some b->b≠l.heap.size+2->(z.setCell ⟨l.heap.size+2,0,none⟩ (.slice N (acc.length+1) P)).heap[b]?=p.heap[b]?:=λb h1 Q h3=>by
   rw[Va _ _ _ _ _ h3,o.block b (by simp;omega) (λe=>Q e.symm),U.block b h1]
  have G:=hid b2;clear b2
  go_wp2
  go_ret;refine yR.of ?_ HE.out;have e7:=i.size;have b5:=o.size;simp at b5
  have e0:(z.setCell ⟨l.heap.size+2,0,none⟩ (.slice N (acc.length+1) P)).cell? ⟨l.heap.size,0,none⟩=some (.pointer (some ⟨R,0,none⟩)):=by
   rw[World.cell?_of_block (w:=p) (a:=⟨l.heap.size,0,none⟩) (G.out l.heap.size (by omega) (λe=>by have:=(y.out _ e).1;omega) (by omega))];exact i.cell cx (by simp;omega)
  have d4:(z.setCell ⟨l.heap.size+2,0,none⟩ (.slice N (acc.length+1) P)).cell? ⟨l.heap.size+1,0,none⟩=some (.int .i64 (d:Int)):=by
   rw[World.cell?_of_block (w:=p) (a:=⟨l.heap.size+1,0,none⟩) (G.out (l.heap.size+1) (by omega) (λe=>by have:=(y.out _ e).1;omega) (by omega))];exact i.cell cd (by simp;omega)
  have d9:∀k,(Value.slice N (acc.length+1) P).ownBlock=some k->l.heap.size+3<=k/\k<z.heap.size:=λk t=>World.ownsRow.lt D k t;have a3:(acc++[(nm,v)]).length=acc.length+1:=by simp
  refine⟨rfl,b4.same (G.out R (by have:=b4.lt;omega) (λe=>by have:=(y.out _ e).1;omega) (by omega)),(HI.out.seq.grown i a2).same (G.out _ (HI.out.seq.grown i a2).lt (λe=>by have:=(y.out _ e).1;have:=HI.out.seq.lt;have:=K.out;omega) (by have:=K.out;omega)),uI HI.out.grown J.out,by rw[Zr];omega,by simp;omega,e0,d4,N,P,us++[(nm,.iface T x)],?_,by rw[dJ];exact f3,?_,?_,?_⟩
  ·rw[a3];exact Xv _ _ _ _ k3
  ·rw[a3,GD];exact D.kept (xS _ _ _ _) (.inr (λe=>by have:=(d9 _ e).1;omega))
  ·rw[List.map_append,List.map_append,d1.out];rfl
  ·intro j v2 u X d6;rw[a3]
   rcases lG d6 with ⟨hj,I⟩|⟨hj,I⟩
   ·have d7:acc[j]?=some v2:=by
     rw[List.getElem?_append_left (by omega)] at X;exact X
    refine (d0.out j v2 u d7 I).move (λb C=>⟨C.1,by rw[Zr];omega,λe=>?_⟩) (λb C=>?_)
    ·rcases Y with h|h
     ·exact C.2.2 (h.symm.trans e)
     ·rw[h] at e;simp at e;omega
    ·rw[G.out b (by omega) C.2.2 (by omega)];exact i.block b C.2.1 (by simp;omega)
   ·rw[b6] at hj;subst hj I;simp at X;subst X;refine d8.move (λb C=>⟨by have:=C.1;omega,by have:=C.2;rw[Zr];omega,λe=>?_⟩) (λb C=>?_)
    ·have h1:=C.1;have Q:=C.2
     rcases Y with h|h
     ·have:=(y.out b (h.symm.trans e)).2;omega
     ·rw[h] at e;simp at e;omega
    ·have h1:=C.1;have Q:=C.2;exact G.out b Q (λe=>by have:=(y.out b e).2;omega) (by omega)
 | err c q2=>
  rw[hx] at n S;simp only at S;obtain⟨T2,M⟩:=QY c q2;have HE:=hid S;have HT:=hid M
  cases hsb:XH s acc q with
  | true=>
   rw[hsb] at n
   have r:=n.mono (R':=λe E=>(∃nm T x,e = .returned (.tuple #[.agg #[.string nm,.iface T x],.iface T2 (.agg #[.int .i64 (q2:Int)])]))/\w.grownBy E (some R)) (by
    rintro e E ⟨nm,u,rfl,⟨ha,C⟩,Q⟩;obtain⟨T,x,rfl⟩:=ha rfl;exact⟨⟨nm,T,x,by rw[M]⟩,Q⟩)
   clear n hx S M;go_enter func104,ntmps104
   go_wp2_with (first
    | (go_at_call 105;refine r.mono ?_;rintro e p ⟨⟨nm,T,x,rfl⟩,i⟩;have k1:=i.cell c1 (by simp;omega);have b8:=λO:Obj=>zb (nB p O) k1;have o1:=jm c3 i (by omega))
    | (at_builtin;refine wpList_append_own_at _ rfl _ _ 89 rfl (l.heap.size+3) 139 i0 (.agg #[.string ⟨#[]⟩,.nilIface]) 2 32 underlying89 a5 a6 a7 a8 rfl (by decide) _ _ _ rfl ((o1.alloc _).alloc _) ⟨p.heap.size+1,0,none⟩ 1 1 [.string nm,.iface T x] rfl rfl ?c1 ?c2 ?c3 ?c4 ?c5 ?_))
   case c1=>exact Jc _ _ _ _ _ _ (by simp)
   case c2=>intro u I;simp at I;rcases I with rfl|rfl<;>rfl
   case c3=>unfold maxLen;omega
   case c4=>omega
   case c5=>have:=i.size;simp;omega
   intro v' z D o _ _
   obtain⟨N,P,rfl⟩:∃a c,v' = .slice a (acc.length+1) c:=by
    rcases D.2 with ⟨_,h⟩|⟨g,c,cur,h,_⟩
    ·omega
    ·exact⟨_,_,h⟩
   have A:=nB p (.cells #[.string nm,.iface T x] 139);have U:=A.trans ((nB _ (.cells #[.string nm,.iface T x] 139)).mono A.size);have L:l.heap.size+2<p.heap.size:=by have:=i.size;omega
   have k3:z.cell? ⟨l.heap.size+2,0,none⟩=some (.slice ao acc.length cap):=o.cell (zb U k1) H.out
   have f3:z.frozen? ⟨l.heap.size+2,0,none⟩=false:=by
    rw[World.frozen?_of_block (w:=(p.alloc (.cells #[.string nm,.iface T x] 139)).alloc (.cells #[.string nm,.iface T x] 139)) (a:=⟨l.heap.size+2,0,none⟩) (o.block _ (by simp;omega) H.out),World.frozen?_of_block (w:=p) (a:=⟨l.heap.size+2,0,none⟩) (U.block _ L),World.frozen?_of_block (w:=w) (a:=⟨l.heap.size+2,0,none⟩) (i.block _ (by show l.heap.size+2<_;omega) (by simp;omega))];exact c2
   have B:zC l.heap.size R w (z.setCell ⟨l.heap.size+2,0,none⟩ (.slice N (acc.length+1) P)):=
    ((((zC.of i (by omega)).trans (zC.own (World.grownBy_alloc p _ none) (λk t=>by cases t) (by omega))).trans (zC.own (World.grownBy_alloc _ _ none) (λk t=>by cases t) (by simp;omega))).trans (zC.own o (λk t=>by have:=(y.out k t).1;omega) (by simp;omega))).trans (yY z _ (by omega))
   have J:=hid B;clear B
   go_wp2
   go_ret;refine yR.of ?_ HE.out;exact⟨by rw[HT.out];rfl,uI HI.out.grown J.out,_,Xv _ _ _ _ k3⟩
  | false=>
   rw[hsb] at n
   have r:=n.mono (R':=λe E=>(∃nm,e = .returned (.tuple #[.agg #[.string nm,.nilIface],.iface T2 (.agg #[.int .i64 (q2:Int)])]))/\w.grownBy E (some R)) (by
    rintro e E ⟨nm,u,rfl,⟨ha,C⟩,Q⟩;obtain rfl:=C rfl;exact⟨⟨nm,by rw[M]⟩,Q⟩)
   clear n hx S M;go_enter func104,ntmps104
   go_wp2_with (first
    | (go_at_call 105;refine r.mono ?_;rintro e p ⟨⟨nm,rfl⟩,i⟩;have k1:=i.cell c1 (by simp;omega);have b8:=λO:Obj=>zb (nB p O) k1;have o1:=jm c3 i (by omega))
    | (at_builtin;refine wpList_append_own_at _ rfl _ _ 89 rfl (l.heap.size+3) 139 i0 (.agg #[.string ⟨#[]⟩,.nilIface]) 2 32 underlying89 a5 a6 a7 a8 rfl (by decide) _ _ _ rfl ((o1.alloc _).alloc _) ⟨p.heap.size+1,0,none⟩ 1 1 [.string nm,.nilIface] rfl rfl ?c1 ?c2 ?c3 ?c4 ?c5 ?_))
   case c1=>exact Jc _ _ _ _ _ _ (by simp)
   case c2=>intro u I;simp at I;rcases I with rfl|rfl<;>rfl
   case c3=>unfold maxLen;omega
   case c4=>omega
   case c5=>have:=i.size;simp;omega
   intro v' z D o _ _
   obtain⟨N,P,rfl⟩:∃a c,v' = .slice a (acc.length+1) c:=by
    rcases D.2 with ⟨_,h⟩|⟨g,c,cur,h,_⟩
    ·omega
    ·exact⟨_,_,h⟩
   have A:=nB p (.cells #[.string nm,.nilIface] 139);have U:=A.trans ((nB _ (.cells #[.string nm,.nilIface] 139)).mono A.size);have L:l.heap.size+2<p.heap.size:=by have:=i.size;omega
   have k3:z.cell? ⟨l.heap.size+2,0,none⟩=some (.slice ao acc.length cap):=o.cell (zb U k1) H.out
   have f3:z.frozen? ⟨l.heap.size+2,0,none⟩=false:=by
    rw[World.frozen?_of_block (w:=(p.alloc (.cells #[.string nm,.nilIface] 139)).alloc (.cells #[.string nm,.nilIface] 139)) (a:=⟨l.heap.size+2,0,none⟩) (o.block _ (by simp;omega) H.out),World.frozen?_of_block (w:=p) (a:=⟨l.heap.size+2,0,none⟩) (U.block _ L),World.frozen?_of_block (w:=w) (a:=⟨l.heap.size+2,0,none⟩) (i.block _ (by show l.heap.size+2<_;omega) (by simp;omega))];exact c2
   have B:zC l.heap.size R w (z.setCell ⟨l.heap.size+2,0,none⟩ (.slice N (acc.length+1) P)):=
    ((((zC.of i (by omega)).trans (zC.own (World.grownBy_alloc p _ none) (λk t=>by cases t) (by omega))).trans (zC.own (World.grownBy_alloc _ _ none) (λk t=>by cases t) (by simp;omega))).trans (zC.own o (λk t=>by have:=(y.out k t).1;omega) (by simp;omega))).trans (yY z _ (by omega))
   have J:=hid B;clear B
   go_wp2
   go_ret;refine yR.of ?_ HE.out;exact⟨by rw[HT.out];rfl,uI HI.out.grown J.out,_,Xv _ _ _ _ k3⟩
end Go.Proofs.YtdakgnaojakldabGreatDoor
