/- P -/
import Derived.Shelf.Utf8.AppendRunePlain
import Derived.Test.YtdakgnaojakldaaGreatDoorP08
import Derived.Lib.AppendStr
import Derived.Deep.RegionLaw
import Derived.OwnWalk
import Derived.Maps.AppendAt
import Derived.Laws.IdiomStrings
set_option maxRecDepth 100000
set_option maxHeartbeats 2000000
namespace Go.Proofs.YtdakgnaojakldaaGreatDoor
open Go.Shelf
def Tryz.lays242_ren:Go.Shelf.Ren:=⟨fun|242=>229|278=>250|n=>n,fun|37=>256|21=>21|51=>398|4=>4|5=>5|46=>321|n=>n,fun|n=>n⟩
theorem Tryz.lays242:Go.Proofs.Lays.n242 Tryz.prog Tryz.lays242_ren:={
 mixed:=by kernel_rfl
 f242:=Tryz.func229.trans (congrArg some (by kernel_rfl))
 f278:=Tryz.func250.trans (congrArg some (by kernel_rfl))
 t4:=Tryz.underlying4
 a4:=Tryz.isAgg4
 z4:=Tryz.sizeOf4
 v4:=Tryz.zeroValue4
 t5:=Tryz.underlying5
 a5:=Tryz.isAgg5
 z5:=Tryz.sizeOf5
 v5:=Tryz.zeroValue5
 t21:=Tryz.underlying21
 a21:=Tryz.isAgg21
 z21:=Tryz.sizeOf21
 v21:=Tryz.zeroValue21
 t37:=Tryz.underlying256
 a37:=Tryz.isAgg256
 z37:=Tryz.sizeOf256
 v37:=Tryz.zeroValue256
 t46:=Tryz.underlying321
 a46:=Tryz.isAgg321
 z46:=Tryz.sizeOf321
 v46:=Tryz.zeroValue321
 t51:=Tryz.underlying398
 a51:=Tryz.isAgg398
 z51:=Tryz.sizeOf398
 v51:=Tryz.zeroValue398 }
end Go.Proofs.YtdakgnaojakldaaGreatDoor
namespace Go.Proofs.YtdakgnaojakldaaGreatDoor
open Go.RowKit
structure Keep (B R:Nat) (w w':World):Prop where
 os:w'.os=w.os
 tape:w'.tape=w.tape
 output:w'.output=w.output
 size:w.heap.size≤w'.heap.size
 block:∀k,k<B→k≠R→w'.heap[k]?=w.heap[k]?
theorem Keep.trans {B R:Nat} {a b c:World} (h:Keep B R a b) (k:Keep B R b c):Keep B R a c:=
 ⟨k.os.trans h.os,k.tape.trans h.tape,k.output.trans h.output,Nat.le_trans h.size k.size,fun i h1 h2=>(k.block i h1 h2).trans (h.block i h1 h2)⟩
theorem Keep.of {B R:Nat} {w w':World} (hg:w.grownBy w' (some R)) (hB:B≤w.heap.size):Keep B R w w':=
 ⟨hg.os,hg.tape,hg.output,hg.size,fun k h1 h2=>hg.block k (by omega) (by simp;exact h2)⟩
theorem Keep.own {B R:Nat} {w w':World} {row:Option Nat} (hg:w.grownBy w' row) (hr:∀k,row=some k→B≤k) (hB:B≤w.heap.size):Keep B R w w':=
 ⟨hg.os,hg.tape,hg.output,hg.size,fun k h1 _=>hg.block k (by omega) (fun e=>by have:=hr k e.symm;omega)⟩
theorem Keep.grown {B R:Nat} {w w':World} (h:Keep B R w w') (hB:w.heap.size≤B):w.grownBy w' (some R):=
 ⟨h.os,h.tape,h.output,h.size,fun k h1 h2=>h.block k (by omega) (fun e=>h2 (by rw [e]))⟩
theorem xE {w w':World} {B R n:Nat} {e:TypeId} {v:Value} {xs:List Value} {sz:Nat} (h:w.ownsRow B e sz v n xs) (hg:w.grownBy w' (some R)) (hR:R<B):w'.ownsRow B e sz v n xs:=
 h.kept hg (.inr (fun e=>by have:=(h.lt R e).1;omega))
theorem zu.own {w w':World} {R:Nat} {s:ByteArray} {p B n:Nat} {e:TypeId} {v:Value} {xs:List Value} {sz:Nat} (h:zu w R s p) (ho:w.ownsRow B e sz v n xs) (hg:w.grownBy w' v.ownBlock) (hR:R<B):zu w' R s p:=
 h.same (hg.block R h.lt (fun e=>by have:=(ho.lt R e.symm).1;omega))
def uU (w:World) (B:Nat) (v:Value) (t:ByteArray):Prop:=w.ownsRow B 5 1 v t.size (Rd.vI t)
theorem Xu:(Tryz.prog.info? 5).map (fun i=>(i.zero,i.size,i.bytes))=some (some (.int .u8 0),1,1):=by kernel_rfl
theorem YR (acc:ByteArray) (N:Int) (h0:0≤N) (h1:N≤65535) (v:Value) (B R:Nat) (w:World) (hown:uU w B v acc) (hlen:acc.size≤100000) (hBw:B≤w.heap.size) (hR:R<B) (s:ByteArray) (q:Nat) (hr:zu w R s q) :
  Calls Tryz.prog 229 #[v, .int .i32 N] w fun e w'=>∃v',e = .returned v'∧(¬(55296≤N∧N≤57343)→uU w' B v' (acc++Ref.enc N))∧Keep B R w w'∧zu w' R s q:=by
 refine (Go.Proofs.Any.utf8_AppendRune_plain Tryz.lays242 Xu B v acc.size (Rd.vI acc) N (by omega) (by omega) w hown (by omega) hBw).mono ?_
 rintro e w' ⟨v',rfl,ho,o,hg⟩
 have hgo:∀k,v.ownBlock=some k→B≤k:=fun k hk=>(World.ownsRow.lt hown k hk).1
 have hka:Keep B R w (w.alloc o):=Keep.own (World.grownBy_alloc w o none) (fun k hk=>by cases hk) hBw
 refine ⟨v',rfl,fun hs=>?_,hka.trans (Keep.own hg hgo (Nat.le_trans hBw hka.size)),?_⟩
 ·rw [Rd.zgo N h0 h1 hs,Rd.zhQ,← Rd.uw] at ho
  unfold uU
  rw [show (acc++Ref.enc N).size=acc.size+(Ref.enc N).size by simp]
  exact ho
 ·exact (hr.alloc o).same (hg.block R (hr.alloc o).lt (fun e=>by have:=hgo R e.symm;omega))
def jl (w:World) (R B:Nat) (s acc:ByteArray) (r:Rd.Res ByteArray) (e:Ending) (w':World):Prop:=match r with
 | .ok u q=>(∃v',e = .returned (.tuple #[v', .nilIface])∧uU w' B v' (acc++u))∧Keep B R w w'∧zu w' R s q∧q≤s.size
 | .err _ q=>(∃v',e = .returned (.tuple #[v', .iface 140 (.agg #[.int .i64 (q:Int)])]))∧Keep B R w w'∧zu w' R s q∧q≤s.size
theorem jl.of {w w':World} {R B:Nat} {s acc:ByteArray} {r r':Rd.Res ByteArray} {e:Ending} (h:jl w R B s acc r e w') (hr:r'=r):jl w R B s acc r' e w':=hr ▸ h
theorem Z4 {P:Program} {ops:Array Oper} {o:Oper} {a:Act} {w:World} {K:Act→World→Prop} {Q:Exit→Act→World→Prop} {E:Prop}
  (hg:o.guard=none) (sl x:Operand) (t u:TypeId) (hop:o.op=Op.call { callee:=Callee.builtin Builtin.append,args:=#[sl,x],argTypes:=#[t,u] })
  (base:Nat) (e:TypeId) (i:TypeInfo) (ht:P.underlying t=some (.slice e)) (hu:P.underlying u=some .string) (hi:P.info? e=some i) (hz:i.zero=some (.int .u8 0)) (hsize:i.size=1) (hby:i.bytes=1)
  (v:Value) (n:Nat) (xs:List Value) (hs:a.eval sl=v) (hown:w.ownsRow base e 1 v n xs) (str:ByteArray) (hx:a.eval x = .string str)
  (hlen:n+str.size≤140737488355328) (hbase:base≤w.heap.size)
  (hK:∀v' w',w'.ownsRow base e 1 v' (n+str.size) (xs++Lib.strCells str)→w.grownBy w' v.ownBlock→K (a.put o.dst v') w') :
  if Region.wanted o (yielded ops a.tmps)=true then Oper.wp P o a w K Q else E:=by
 have hw:Region.wanted o (yielded ops a.tmps)=true:=by simp [Region.wanted,hg]
 rw [if_pos hw]
 obtain ⟨v',w',hr,h2,h3,_⟩:=Lib.run_append_own_string (P:=P) w base t u o.type e i ht hu hi hz hsize hby v n xs hown str (by unfold maxLen;omega) hlen hbase
 unfold Oper.wp
 simp [execOp,hop,resolve,invoke,builtin,hs,hx,hr,Result.andThen]
 exact hK v' w' h2 h3
theorem zf4 (s:ByteArray) (R p:Nat) (w:World) (hr:zu w R s p) (hp:p≤s.size) (hs:s.size≤4000) (u:ByteArray) (q:Nat) (h:Rd.zdG s.data.toList p = .ok u q) :
  Calls Tryz.prog 228 #[.pointer (some ⟨R,0,none⟩)] w fun e w'=>∃N:Int,e = .returned (.tuple #[.int .i32 N, .nilIface])∧(u=Ref.enc N∧0≤N∧N≤65535∧¬(55296≤N∧N≤57343))∧w.grownBy w' (some R)∧zu w' R s q∧q≤s.size:=by
 refine (zbn s R p w hr hp hs).mono ?_
 intro e w' h1
 rw [h] at h1
 obtain ⟨⟨N,rfl,h2⟩,h3,h4,h5⟩:=h1
 exact ⟨N,rfl,h2,h3,h4,h5⟩
theorem zdO (s:ByteArray) (R p:Nat) (w:World) (hr:zu w R s p) (hp:p≤s.size) (hs:s.size≤4000) (c:Int) (q:Nat) (h:Rd.zdG s.data.toList p = .err c q) :
  Calls Tryz.prog 228 #[.pointer (some ⟨R,0,none⟩)] w fun e w'=>∃N:Int,e = .returned (.tuple #[.int .i32 N, .iface 140 (.agg #[.int .i64 (q:Int)])])∧(0≤N∧N≤65535)∧w.grownBy w' (some R)∧zu w' R s q∧q≤s.size:=by
 refine (zbn s R p w hr hp hs).mono ?_
 intro e w' h1
 rw [h] at h1
 obtain ⟨⟨N,rfl,h2⟩,h3,h4,h5⟩:=h1
 exact ⟨N,rfl,h2,h3,h4,h5⟩
theorem Jy (s:ByteArray) (R p:Nat) (w:World) (hr:zu w R s p) (hp:p≤s.size) (hs:s.size≤4000) (hq:qo w) (r:Rd.Res ByteArray) (h:Rd.zao s.data.toList p=r) :
  Calls Tryz.prog 230 #[.pointer (some ⟨R,0,none⟩)] w fun e w'=>Zq w R s p r e w':=by
 rw [← h];exact zfe s R p w hr hp hs hq
theorem Zo (s:ByteArray) (p q:Nat):s.extract p q=Rd.piece s.data.toList p q:=by
 apply ByteArray.ext
 rw [ByteArray.data_extract]
 unfold Rd.piece
 apply Array.toList_inj.1
 rw [Array.toList_extract]
theorem UA (s:ByteArray) (p q:Nat):(Rd.piece s.data.toList p q).size≤q:=by
 unfold Rd.piece
 have:(List.take (q-p) (List.drop p s.data.toList)).length≤q-p:=List.length_take_le _ _
 simp only [ByteArray.size,List.size_toArray]
 omega
theorem zcI (w:World) (x:Value) (t:TypeId) (k:Nat) (hk:k=w.heap.size):∀j u,[x][j]?=some u→(w.alloc (.cells #[x] t)).cell? ((⟨k,0,none⟩:Addr).add j)=some u:=by
 subst hk;exact cell_one_new w x t
theorem jO (w:World) (a:Addr) (v:Value):(w.setCell a v).heap.size=w.heap.size:=by simp [World.setCell]
theorem zcL (s acc:ByteArray) (R p B:Nat) (v:Value) (w:World) (hr:zu w R s p) (hp:p≤s.size) (hs:s.size≤4000) (hq:qo w) (hRg:R≠5) (hown:uU w B v acc) (hacc:acc.size≤50000) (hR:R<B) (hBw:B≤w.heap.size) :
  Calls Tryz.prog 194 #[.pointer (some ⟨R,0,none⟩),v] w fun e w'=>jl w R B s acc (Rd.Zy s.data.toList p) e w':=by
 obtain ⟨i0,hi,hz0,hz1,hz2⟩:=info_parts Xu
 have hE:Rd.Zy s.data.toList p=Rd.Zy s.data.toList p:=rfl
 conv at hE=>rhs;unfold Rd.Zy
 simp only at hE
 obtain ⟨b,hb⟩:∃b,Rd.peek s.data.toList p=b:=⟨_,rfl⟩
 have hpe2:Calls Tryz.prog 143 #[.pointer (some ⟨R,0,none⟩)] w fun e w'=>e = .returned (.int .u8 (b:Int))∧zu w' R s p∧Keep B R w w'∧qo w'∧uU w' B v acc∧B≤w'.heap.size:=by
  refine (VZ s R p w hr hp).mono ?_
  rintro e w' ⟨rfl,h1,h2,h3,h4⟩
  exact ⟨by rw [hb],h1,Keep.of h2 hBw,hq.grown h2 hRg,xE hown h2 hR,by omega⟩
 rw [hb] at hE
 have hblt:b<256:=by rw [← hb];exact Rd.vS _ _
 have hpos:b≠0→p<s.size:=fun h=>by
  have:=Rd.zx s.data.toList p (by rw [hb];exact h)
  rwa [Ref.zg] at this
 have HPOS:=hid hpos
 clear hb hpos hr hown hq
 by_cases c1:b<32
 ·rw [if_pos c1] at hE
  have HE:=hid hE
  have d1:decide ((b:Int)<32)=true:=decide_eq_true (by omega)
  clear hE
  go_enter Tryz.func194,Tryz.ntmps194
  go_wp2_with (first
   | (go_at_call 143;refine hpe2.mono ?_;rintro e w1 ⟨rfl,hr1,hk1,hq1,ho1,hB1⟩)
   | (go_at_call 94;refine (qR s R p _ hr1).mono ?_;rintro e w2 ⟨rfl,rfl⟩))
  go_ret2
  refine jl.of ?_ HE.out
  exact ⟨⟨v,rfl⟩,hk1,hr1,hp⟩
 rw [if_neg c1] at hE
 have d1:decide ((b:Int)<32)=false:=decide_eq_false (by omega)
 have hlt:=HPOS.out (by omega)
 by_cases c2:b=92
 ·rw [if_pos c2] at hE
  have hc:(b:Int)=92:=by omega
  cases hx:Rd.zdG s.data.toList (p+1) with
  | ok u q=>
   rw [hx] at hE
   have HE:=hid hE
   have HX:=hid hx
   clear hE hx
   go_enter Tryz.func194,Tryz.ntmps194
   go_wp2_with (first
    | (go_at_call 143;refine hpe2.mono ?_;rintro e w1 ⟨rfl,hr1,hk1,hq1,ho1,hB1⟩;have HR1:=hid hr1;obtain ⟨g1,g2,g3⟩:=hr1)
    | (go_at_call 228;refine (zf4 s R (p+1) _ (by have:=HR1.out.move (p+1);rwa [show ((p+1:Nat):Int)=(p:Int)+1 by omega] at this) (by omega) hs u q HX.out).mono ?_;rintro e w2 ⟨N,rfl,hN,hg2,hr2,hq2⟩;have hgs:=zf (qg w1 R 1 (.int .i64 ((p:Int)+1))) hg2)
    | (go_at_call 229;refine (YR acc N hN.2.1 hN.2.2.1 v B R _ (xE ho1 hgs hR) (by omega) (Nat.le_trans hB1 hgs.size) hR s q hr2).mono ?_;rintro e w3 ⟨v',rfl,ho3,hk3,hr3⟩))
   go_ret2
   refine jl.of ?_ HE.out
   exact ⟨⟨v',rfl,by rw [hN.1];exact ho3 hN.2.2.2⟩,(hk1.trans (Keep.of hgs hB1)).trans hk3,hr3,hq2⟩
  | err c q=>
   rw [hx] at hE
   have HE:=hid hE
   have HX:=hid hx
   clear hE hx
   go_enter Tryz.func194,Tryz.ntmps194
   go_wp2_with (first
    | (go_at_call 143;refine hpe2.mono ?_;rintro e w1 ⟨rfl,hr1,hk1,hq1,ho1,hB1⟩;have HR1:=hid hr1;obtain ⟨g1,g2,g3⟩:=hr1)
    | (go_at_call 228;refine (zdO s R (p+1) _ (by have:=HR1.out.move (p+1);rwa [show ((p+1:Nat):Int)=(p:Int)+1 by omega] at this) (by omega) hs c q HX.out).mono ?_;rintro e w2 ⟨N,rfl,hN,hg2,hr2,hq2⟩;have hgs:=zf (qg w1 R 1 (.int .i64 ((p:Int)+1))) hg2)
    | (go_at_call 229;refine (YR acc N hN.1 hN.2 v B R _ (xE ho1 hgs hR) (by omega) (Nat.le_trans hB1 hgs.size) hR s q hr2).mono ?_;rintro e w3 ⟨v',rfl,ho3,hk3,hr3⟩))
   go_ret2
   refine jl.of ?_ HE.out
   exact ⟨⟨v',rfl⟩,(hk1.trans (Keep.of hgs hB1)).trans hk3,hr3,hq2⟩
 rw [if_neg c2] at hE
 have d2:((b:Int)==92)=false:=by rw [beq_eq_false_iff_ne];omega
 by_cases c3:b<128
 ·rw [if_pos c3] at hE
  have HE:=hid hE
  have d3:decide ((b:Int)<128)=true:=decide_eq_true (by omega)
  clear hE
  go_enter Tryz.func194,Tryz.ntmps194
  go_wp2_with (first
   | (go_at_call 143;refine hpe2.mono ?_;rintro e w1 ⟨rfl,hr1,hk1,hq1,ho1,hB1⟩;have HR1:=hid hr1;obtain ⟨g1,g2,g3⟩:=hr1;have hgs:=qg w1 R 1 (.int .i64 ((p:Int)+1));have ho2:=xE ho1 hgs hR)
   | (at_builtin;refine wpList_append_own _ rfl _ _ 256 rfl B 5 i0 (.int .u8 0) 1 1 Tryz.underlying256 hi hz0 hz1 hz2 rfl (by decide) _ _ _ rfl (ho2.alloc _) ⟨w1.heap.size,0,none⟩ 1 1 [.int .u8 (b:Int)] rfl rfl ?c1 ?c2 ?c3 ?c4 ?c5 ?_))
  case c1=>exact zcI _ _ _ _ (jO _ _ _).symm
  case c2=>intro u hu;simp at hu;subst hu;rfl
  case c3=>unfold maxLen;omega
  case c4=>omega
  case c5=>simp;omega
  intro v' w3 ho3 hg3 _
  go_wp2
  go_ret2
  refine jl.of ?_ HE.out
  have hr2:zu (w1.setCell ⟨R,1,none⟩ (.int .i64 ((p:Int)+1))) R s (p+1):=by have:=HR1.out.move (p+1);rwa [show ((p+1:Nat):Int)=(p:Int)+1 by omega] at this
  have hk2:Keep B R w (w1.setCell ⟨R,1,none⟩ (.int .i64 ((p:Int)+1))):=hk1.trans (Keep.of hgs hB1)
  have hka:∀O,Keep B R w ((w1.setCell ⟨R,1,none⟩ (.int .i64 ((p:Int)+1))).alloc O):=fun O=>hk2.trans (Keep.own (World.grownBy_alloc _ O none) (fun k hk=>by cases hk) (by rw [jO];exact hB1))
  refine ⟨⟨v',rfl,?_⟩,(hka _).trans (Keep.own hg3 (fun k hk=>(World.ownsRow.lt ho1 k hk).1) (by simp;omega)),(hr2.alloc _).own (ho2.alloc _) hg3 hR,by omega⟩
  unfold uU
  rw [Rd.uw]
  have e1:Rd.vI (Ref.one (b:Int))=[.int .u8 (b:Int)]:=by
   unfold Rd.vI Ref.one
   simp only [List.map_cons,List.map_nil]
   rw [Rd.byte_of b (by omega) (by omega)]
  rw [e1,show (acc++Ref.one (b:Int)).size=acc.size+1 by rw [ByteArray.size_append];rfl]
  exact ho3
 rw [if_neg c3] at hE
 have d3:decide ((b:Int)<128)=false:=decide_eq_false (by omega)
 cases hx:Rd.zao s.data.toList p with
 | ok u q=>
  rw [hx] at hE
  have HE:=hid hE
  have HX:=hid hx
  clear hE hx
  go_enter Tryz.func194,Tryz.ntmps194
  go_wp2_with (first
   | (go_at_call 143;refine hpe2.mono ?_;rintro e w1 ⟨rfl,hr1,hk1,hq1,ho1,hB1⟩;have HR1:=hid hr1;obtain ⟨g1,g2,g3⟩:=hr1)
   | (go_at_call 230;refine (Jy s R p w1 HR1.out hp hs hq1 _ HX.out).mono ?_;rintro e w2 ⟨rfl,hu,hg2,hr2,hq2,hpq⟩;have HR2:=hid hr2;have ho2:=xE ho1 hg2 hR;obtain ⟨f1,f2,f3⟩:=hr2))
  have hpqi:(p:Int)≤(q:Int):=by omega
  have hqsi:(q:Int)≤(s.size:Int):=by omega
  have hxs:(s.extract p q).size≤q:=by rw [Zo];exact UA s p q
  have hB2:B≤w2.heap.size:=Nat.le_trans hB1 hg2.size
  go_region_law ((refine Z4 (by rfl) _ _ _ _ (by rfl) B 5 i0 Tryz.underlying256 Tryz.underlying9 hi hz0 hz1 hz2 v acc.size (Rd.vI acc) (by rfl) ho2.drew (s.extract p q) (by rfl) (by omega) (by simp;omega) ?_;intro v' w3 ho3 hg3))
  all_goals
   go_wp2
   go_ret2
   refine jl.of ?_ HE.out
   have hk3:Keep B R w w3:=(hk1.trans (Keep.of hg2 hB1)).trans (Keep.own (B:=B) (R:=R) (w:=w2) ⟨hg3.os,hg3.tape,hg3.output,hg3.size,hg3.block⟩ (fun k hk=>(World.ownsRow.lt ho1 k hk).1) hB2)
   have hr3:zu w3 R s q:=HR2.out.same (hg3.block R HR2.out.lt (fun e=>by have:=(World.ownsRow.lt ho1 R e.symm).1;omega))
   refine ⟨⟨v',rfl,?_⟩,hk3,hr3,hq2⟩
   rw [hu,← Zo]
   unfold uU
   rw [Rd.uw,ByteArray.size_append]
   exact ho3
 | err c q=>
  rw [hx] at hE
  have HE:=hid hE
  have HX:=hid hx
  clear hE hx
  go_enter Tryz.func194,Tryz.ntmps194
  go_wp2_with (first
   | (go_at_call 143;refine hpe2.mono ?_;rintro e w1 ⟨rfl,hr1,hk1,hq1,ho1,hB1⟩;have HR1:=hid hr1;obtain ⟨g1,g2,g3⟩:=hr1)
   | (go_at_call 230;refine (Jy s R p w1 HR1.out hp hs hq1 _ HX.out).mono ?_;rintro e w2 ⟨rfl,hg2,hr2,hq2,hpq⟩;have HR2:=hid hr2;have ho2:=xE ho1 hg2 hR;obtain ⟨f1,f2,f3⟩:=hr2))
  have hpqi:(p:Int)≤(q:Int):=by omega
  have hqsi:(q:Int)≤(s.size:Int):=by omega
  have hxs:(s.extract p q).size≤q:=by rw [Zo];exact UA s p q
  have hB2:B≤w2.heap.size:=Nat.le_trans hB1 hg2.size
  go_region_law ((refine Z4 (by rfl) _ _ _ _ (by rfl) B 5 i0 Tryz.underlying256 Tryz.underlying9 hi hz0 hz1 hz2 v acc.size (Rd.vI acc) (by rfl) ho2.drew (s.extract p q) (by rfl) (by omega) (by simp;omega) ?_;intro v' w3 ho3 hg3))
  all_goals
   go_wp2
   go_ret2
   refine jl.of ?_ HE.out
   have hk3:Keep B R w w3:=(hk1.trans (Keep.of hg2 hB1)).trans (Keep.own (B:=B) (R:=R) (w:=w2) ⟨hg3.os,hg3.tape,hg3.output,hg3.size,hg3.block⟩ (fun k hk=>(World.ownsRow.lt ho1 k hk).1) hB2)
   have hr3:zu w3 R s q:=HR2.out.same (hg3.block R HR2.out.lt (fun e=>by have:=(World.ownsRow.lt ho1 R e.symm).1;omega))
   exact ⟨⟨v',rfl⟩,hk3,hr3,hq2⟩
theorem UF {w:World} {B:Nat} {v:Value} {t:ByteArray} (h:uU w B v t):(convert 256 9 v).run Tryz.prog w = .ok (.string t) w:=by
 rcases h.2 with ⟨rfl,h0⟩|⟨g,cap,cur,rfl,hB,hg,hrest⟩
 ·have e:t=⟨#[]⟩:=by
   apply ByteArray.ext
   have:t.data.size=0:=h0
   exact Array.size_eq_zero_iff.1 this
  rw [e]
  rw [run_convert_bytes_string w _ _ _ none 0 0 Tryz.underlying256 Tryz.underlying5 Tryz.underlying9]
  rfl
 ·have hc:=World.ownsRow.cells h (g:=g) rfl
  have:=run_convert_bytes_back (P:=Tryz.prog) w 256 9 5 ⟨g,0,none⟩ cap t.data.toList Tryz.underlying256 Tryz.underlying5 Tryz.underlying9 (fun j hj=>hc j _ (by unfold Rd.vI;rw [List.getElem?_map,List.getElem?_eq_getElem hj];rfl))
  rw [Ref.zg] at this
  rw [this]
def uB (w:World) (R:Nat) (s:ByteArray) (r:Rd.Res ByteArray) (e:Ending) (w':World):Prop:=match r with
 | .ok t q=>e = .returned (.tuple #[.string t, .nilIface])∧w.grownBy w' (some R)∧zu w' R s q∧q≤s.size
 | .err _ q=>e = .returned (.tuple #[.string ⟨#[]⟩, .iface 140 (.agg #[.int .i64 (q:Int)])])∧w.grownBy w' (some R)∧zu w' R s q∧q≤s.size
theorem uB.of {w w':World} {R:Nat} {s:ByteArray} {r r':Rd.Res ByteArray} {e:Ending} (h:uB w R s r e w') (hr:r'=r):uB w R s r' e w':=hr ▸ h
theorem JC (s acc:ByteArray) (R p B:Nat) (v:Value) (w:World) (hr:zu w R s p) (hp:p≤s.size) (hs:s.size≤4000) (hq:qo w) (hRg:R≠5) (hown:uU w B v acc) (hacc:acc.size≤50000) (hR:R<B) (hBw:B≤w.heap.size) (r:Rd.Res ByteArray) (h:Rd.Zy s.data.toList p=r) :
  Calls Tryz.prog 194 #[.pointer (some ⟨R,0,none⟩),v] w fun e w'=>jl w R B s acc r e w':=by
 rw [← h];exact zcL s acc R p B v w hr hp hs hq hRg hown hacc hR hBw
theorem Y1 (s t:ByteArray) (R p:Nat) (w:World) (hr:zu w R s p) (hp:p≤s.size) (hs:s.size≤4000) (ht:t.size≤100) (hz:∀k,k<t.size→(t.data.toList.getD k 0).toNat≠0) (r:Rd.Res Unit) (h:Rd.xu s.data.toList (t.data.toList.map UInt8.toNat) p=r) :
  Calls Tryz.prog 147 #[.pointer (some ⟨R,0,none⟩), .string t] w fun e w'=>Zm w R s r e w':=by
 rw [← h];exact zl1 s t R p w hr hp hs ht hz
theorem qo.keep {B R:Nat} {w w':World} (h:qo w) (hk:Keep B R w w') (hR:R≠5) (hB:5<B):qo w':=h.same (hk.block _ hB (fun e=>hR e.symm))
theorem zi8 (s:ByteArray) (R p:Nat) (w:World) (hr:zu w R s p) (hp:p≤s.size) (hs:s.size≤4000) (hq:qo w) (hRg:R≠5) :
  Calls Tryz.prog 146 #[.pointer (some ⟨R,0,none⟩)] w fun e w'=>uB w R s (Rd.uf s.data.toList p) e w':=by
 have hE:Rd.uf s.data.toList p=Rd.uf s.data.toList p:=rfl
 conv at hE=>rhs;unfold Rd.uf
 have hgl:=hq.lt
 have hRl:=hr.lt
 by_cases c1:Rd.peek s.data.toList p=34
 ·rw [if_pos c1] at hE
  have hwd:Rd.xu s.data.toList ((ByteArray.mk #[34]).data.toList.map UInt8.toNat) p = .ok () (p+1):=by
   have:=Rd.zbi s.data.toList p
   rw [if_pos c1] at this
   exact this
  have htk:=Y1 s ⟨#[34]⟩ R p w hr hp hs (by decide) (by decide) _ hwd
  have htk2:=htk.mono (R':=fun e w'=>e = .returned .nilIface∧w.grownBy w' (some R)∧zu w' R s (p+1)∧p+1≤s.size∧qo w') (by
   rintro e w' ⟨rfl,h1,h2,h3⟩
   exact ⟨rfl,h1,h2,h3,hq.grown h1 hRg⟩)
  have HE:=hid hE
  clear hwd htk hE c1 hr hq
  go_enter Tryz.func146,Tryz.ntmps146
  go_wp2_with (go_at_call 147;refine htk2.mono ?_;rintro e w1 ⟨rfl,hg1,hr1,hp1,hq1⟩)
  have HG1:=hid hg1
  have HR1:=hid hr1
  have HQ1:=hid hq1
  clear hg1 hr1 hq1 htk2
  go_loopw [5] (fun v wr=>∃(q f:Nat) (acc:ByteArray),uU wr w.heap.size v acc∧zu wr R s q∧Keep w.heap.size R w wr∧qo wr∧q≤s.size∧p+1≤q∧acc.size≤q-(p+1)∧s.size<q+f∧Rd.zca s.data.toList (p+1)=Rd.ZC s.data.toList f q acc) (fun _ wr=>s.size-zmg wr R)
  case atStart=>exact ⟨p+1,s.data.toList.length+1-(p+1),⟨#[]⟩,World.ownsRow_nil _ _ _ _,HR1.out,Keep.of HG1.out (Nat.le_refl _),HQ1.out,hp1,Nat.le_refl _,Nat.zero_le _,by rw [Ref.zg];omega,rfl⟩
  case round=>
   obtain ⟨q,f,acc,hown,hrq,hk,hsq,hqs,hpq,hal,hf,hst⟩:=hrel
   have HO:=hid hown
   have HR:=hid hrq
   have HK:=hid hk
   have HS:=hid hsq
   have HST:=hid hst
   clear hown hrq hk hsq hst HG1 HR1 HQ1
   obtain ⟨f,rfl⟩:∃k,f=k+1:=⟨f-1,by omega⟩
   obtain ⟨b,hb⟩:∃b,Rd.peek s.data.toList q=b:=⟨_,rfl⟩
   have hblt:b<256:=by rw [← hb];exact Rd.vS _ _
   have hpe:=(VZ s R q _ HR.out hqs).mono (R':=fun e w'=>e = .returned (.int .u8 (b:Int))∧zu w' R s q∧Keep w.heap.size R w w'∧qo w'∧uU w' w.heap.size u5 acc) (by
    rintro e w' ⟨rfl,h1,h2,_,_⟩
    exact ⟨by rw [hb],h1,HK.out.trans (Keep.of h2 HK.out.size),HS.out.grown h2 hRg,xE HO.out h2 hRl⟩)
   by_cases c34:b=34
   ·have d34:((b:Int) != 34)=false:=by simp;omega
    have HEND:=hid (HST.out.trans (Rd.zlM (by rw [hb];exact c34)))
    have hqlt:q<s.size:=by
     have:=Rd.zx s.data.toList q (by rw [hb];omega)
     rwa [Ref.zg] at this
    clear hb
    go_wp2_with (go_at_call 143;refine hpe.mono ?_;rintro e w2 ⟨rfl,hr2,hk2,hq2,ho2⟩;have HR2:=hid hr2;have hcv:=UF (xE ho2 (qg w2 R 1 (.int .i64 ((q:Int)+1))) hRl);obtain ⟨g1,g2,g3⟩:=hr2)
    go_ret2
    refine uB.of ?_ (HE.out.trans HEND.out)
    refine ⟨rfl,(hk2.trans (Keep.of (qg _ _ _ _) hk2.size)).grown (Nat.le_refl _),?_,by omega⟩
    have:=HR2.out.move (q+1)
    rwa [show ((q+1:Nat):Int)=(q:Int)+1 by omega] at this
   ·have d34:((b:Int) != 34)=true:=by simp;omega
    cases hx:Rd.Zy s.data.toList q with
    | ok u q'=>
     have HNX:=hid (HST.out.trans (Rd.zi9 (by rw [hb];exact c34) hx))
     have hadv:=Rd.zex hx
     have HX:=hid hx
     clear hb hx
     go_wp2_with (first
      | (go_at_call 143;refine hpe.mono ?_;rintro e w2 ⟨rfl,hr2,hk2,hq2,ho2⟩)
      | (go_at_call 194;refine (JC s acc R q w.heap.size u5 w2 hr2 hqs hs hq2 hRg ho2 (by omega) hRl hk2.size _ HX.out).mono ?_;rintro e w3 ⟨⟨v3,rfl,ho3⟩,hk3,hr3,hq3⟩))
     have e1:(acc++u).size=acc.size+u.size:=ByteArray.size_append
     have hat:=HR.out.at
     have hat3:=hr3.at
     go_roundw
     case rel=>exact ⟨q',f,acc++u,ho3,hr3,hk2.trans hk3,hq2.keep hk3 hRg hgl,hq3,by omega,by omega,by omega,HNX.out⟩
     case measure=>rw [hat,hat3];omega
    | err c q'=>
     have HNX:=hid (HST.out.trans (Rd.zlp (by rw [hb];exact c34) hx))
     have HX:=hid hx
     clear hb hx
     go_wp2_with (first
      | (go_at_call 143;refine hpe.mono ?_;rintro e w2 ⟨rfl,hr2,hk2,hq2,ho2⟩)
      | (go_at_call 194;refine (JC s acc R q w.heap.size u5 w2 hr2 hqs hs hq2 hRg ho2 (by omega) hRl hk2.size _ HX.out).mono ?_;rintro e w3 ⟨⟨v3,rfl⟩,hk3,hr3,hq3⟩))
     go_ret2
     refine uB.of ?_ (HE.out.trans HNX.out)
     exact ⟨rfl,(hk2.trans hk3).grown (Nat.le_refl _),hr3,hq3⟩
 ·rw [if_neg c1] at hE
  have hwd:Rd.xu s.data.toList ((ByteArray.mk #[34]).data.toList.map UInt8.toNat) p = .err 2 p:=by
   have:=Rd.zbi s.data.toList p
   rw [if_neg c1] at this
   exact this
  have htk:=Y1 s ⟨#[34]⟩ R p w hr hp hs (by decide) (by decide) _ hwd
  have HE:=hid hE
  clear hwd hE c1 hr hq
  go_enter Tryz.func146,Tryz.ntmps146
  go_wp2_with (go_at_call 147;refine htk.mono ?_;rintro e w1 ⟨rfl,hg1,hr1,hp1⟩)
  go_ret2
  refine uB.of ?_ HE.out
  exact ⟨rfl,hg1,hr1,hp1⟩
end Go.Proofs.YtdakgnaojakldaaGreatDoor
