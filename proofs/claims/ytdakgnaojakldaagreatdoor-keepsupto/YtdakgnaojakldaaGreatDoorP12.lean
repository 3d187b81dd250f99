/- P -/
import Derived.Shelf.Unicode.DecodeAny
import Derived.Shelf.Strings.Cut
import Derived.Test.YtdakgnaojakldaaGreatDoorP03
import Derived.Test.YtdakgnaojakldaaGreatDoorP11
import Derived.Laws.IdiomStrings
set_option maxRecDepth 100000
set_option maxHeartbeats 1000000
namespace Go.Proofs.YtdakgnaojakldaaGreatDoor
open Go.Shelf
def Tryz.lays197_ren:Go.Shelf.Ren:=⟨fun|197=>237|260=>253|n=>n,fun|9=>9|21=>21|3=>3|4=>4|5=>5|105=>388|119=>324|0=>0|46=>321|139=>327|138=>326|n=>n,fun|3=>2|4=>3|n=>n⟩
theorem Tryz.lays197:Go.Proofs.Lays.n197 Tryz.prog Tryz.lays197_ren:={
 mixed:=by kernel_rfl
 f197:=Tryz.func237.trans (congrArg some (by kernel_rfl))
 f260:=Tryz.func253.trans (congrArg some (by kernel_rfl))
 t0:=Tryz.underlying0
 a0:=Tryz.isAgg0
 z0:=Tryz.sizeOf0
 v0:=Tryz.zeroValue0
 t3:=Tryz.underlying3
 a3:=Tryz.isAgg3
 z3:=Tryz.sizeOf3
 v3:=Tryz.zeroValue3
 t4:=Tryz.underlying4
 a4:=Tryz.isAgg4
 z4:=Tryz.sizeOf4
 v4:=Tryz.zeroValue4
 t5:=Tryz.underlying5
 a5:=Tryz.isAgg5
 z5:=Tryz.sizeOf5
 v5:=Tryz.zeroValue5
 t9:=Tryz.underlying9
 a9:=Tryz.isAgg9
 z9:=Tryz.sizeOf9
 v9:=Tryz.zeroValue9
 t21:=Tryz.underlying21
 a21:=Tryz.isAgg21
 z21:=Tryz.sizeOf21
 v21:=Tryz.zeroValue21
 t46:=Tryz.underlying321
 a46:=Tryz.isAgg321
 z46:=Tryz.sizeOf321
 v46:=Tryz.zeroValue321
 t105:=Tryz.underlying388
 a105:=Tryz.isAgg388
 z105:=Tryz.sizeOf388
 v105:=Tryz.zeroValue388
 t119:=Tryz.underlying324
 a119:=Tryz.isAgg324
 z119:=Tryz.sizeOf324
 t138:=Tryz.underlying326
 a138:=Tryz.isAgg326
 z138:=Tryz.sizeOf326
 v138:=Tryz.zeroValue326
 t139:=Tryz.underlying327
 a139:=Tryz.isAgg327
 z139:=Tryz.sizeOf327
 v139:=Tryz.zeroValue327
 g3:=by kernel_rfl
 g4:=by kernel_rfl }
def Tryz.lays145_ren:Go.Shelf.Ren:=⟨fun|145=>252|220=>261|219=>267|217=>268|225=>269|224=>270|267=>271|266=>272|314=>273|n=>n,fun|9=>9|4=>4|59=>403|3=>3|5=>5|46=>321|146=>416|51=>398|n=>n,fun|1=>4|n=>n⟩
theorem Tryz.lays145:Go.Proofs.Lays.n145 Tryz.prog Tryz.lays145_ren:={
 mixed:=by kernel_rfl
 f145:=Tryz.func252.trans (congrArg some (by kernel_rfl))
 f217:=Tryz.func268.trans (congrArg some (by kernel_rfl))
 f219:=Tryz.func267.trans (congrArg some (by kernel_rfl))
 f220:=Tryz.func261.trans (congrArg some (by kernel_rfl))
 f224:=Tryz.func270.trans (congrArg some (by kernel_rfl))
 f225:=Tryz.func269.trans (congrArg some (by kernel_rfl))
 f266:=Tryz.func272.trans (congrArg some (by kernel_rfl))
 f267:=Tryz.func271.trans (congrArg some (by kernel_rfl))
 f314:=Tryz.func273.trans (congrArg some (by kernel_rfl))
 t3:=Tryz.underlying3
 a3:=Tryz.isAgg3
 z3:=Tryz.sizeOf3
 v3:=Tryz.zeroValue3
 t4:=Tryz.underlying4
 a4:=Tryz.isAgg4
 z4:=Tryz.sizeOf4
 v4:=Tryz.zeroValue4
 t5:=Tryz.underlying5
 a5:=Tryz.isAgg5
 z5:=Tryz.sizeOf5
 v5:=Tryz.zeroValue5
 t9:=Tryz.underlying9
 a9:=Tryz.isAgg9
 z9:=Tryz.sizeOf9
 v9:=Tryz.zeroValue9
 t46:=Tryz.underlying321
 a46:=Tryz.isAgg321
 z46:=Tryz.sizeOf321
 v46:=Tryz.zeroValue321
 t51:=Tryz.underlying398
 a51:=Tryz.isAgg398
 z51:=Tryz.sizeOf398
 v51:=Tryz.zeroValue398
 t59:=Tryz.underlying403
 a59:=Tryz.isAgg403
 z59:=Tryz.sizeOf403
 v59:=Tryz.zeroValue403
 t146:=Tryz.underlying416
 a146:=Tryz.isAgg416
 z146:=Tryz.sizeOf416
 v146:=Tryz.zeroValue416
 g1:=by kernel_rfl }
def Tryz.lays196_ren:Go.Shelf.Ren:=⟨fun|196=>139|259=>187|n=>n,fun|9=>9|4=>4|3=>3|5=>5|12=>12|119=>324|0=>0|46=>321|139=>327|138=>326|53=>376|n=>n,fun|3=>2|4=>3|n=>n⟩
theorem Tryz.lays196:Go.Proofs.Lays.n196 Tryz.prog Tryz.lays196_ren:={
 mixed:=by kernel_rfl
 f196:=Tryz.func139.trans (congrArg some (by kernel_rfl))
 f259:=Tryz.func187.trans (congrArg some (by kernel_rfl))
 t0:=Tryz.underlying0
 a0:=Tryz.isAgg0
 z0:=Tryz.sizeOf0
 v0:=Tryz.zeroValue0
 t3:=Tryz.underlying3
 a3:=Tryz.isAgg3
 z3:=Tryz.sizeOf3
 v3:=Tryz.zeroValue3
 t4:=Tryz.underlying4
 a4:=Tryz.isAgg4
 z4:=Tryz.sizeOf4
 v4:=Tryz.zeroValue4
 t5:=Tryz.underlying5
 a5:=Tryz.isAgg5
 z5:=Tryz.sizeOf5
 v5:=Tryz.zeroValue5
 t9:=Tryz.underlying9
 a9:=Tryz.isAgg9
 z9:=Tryz.sizeOf9
 v9:=Tryz.zeroValue9
 t12:=Tryz.underlying12
 a12:=Tryz.isAgg12
 z12:=Tryz.sizeOf12
 v12:=Tryz.zeroValue12
 t46:=Tryz.underlying321
 a46:=Tryz.isAgg321
 z46:=Tryz.sizeOf321
 v46:=Tryz.zeroValue321
 t53:=Tryz.underlying376
 a53:=Tryz.isAgg376
 z53:=Tryz.sizeOf376
 v53:=Tryz.zeroValue376
 t119:=Tryz.underlying324
 a119:=Tryz.isAgg324
 z119:=Tryz.sizeOf324
 t138:=Tryz.underlying326
 a138:=Tryz.isAgg326
 z138:=Tryz.sizeOf326
 v138:=Tryz.zeroValue326
 t139:=Tryz.underlying327
 a139:=Tryz.isAgg327
 z139:=Tryz.sizeOf327
 v139:=Tryz.zeroValue327
 g3:=by kernel_rfl
 g4:=by kernel_rfl }
end Go.Proofs.YtdakgnaojakldaaGreatDoor
namespace Go.Proofs.YtdakgnaojakldaaGreatDoor
open Go.RowKit
def ve (c:Nat):Bool:=decide (97≤c∧c≤122)
theorem zfO (c:Nat) (w:World) (hc:c<256) :
  Calls Tryz.prog 133 #[.int .u8 (c:Int)] w fun e w'=>e = .returned (.bool (ve c))∧w'=w:=by
 by_cases h1:97≤c
 ·have d1:decide ((97:Int)≤(c:Int))=true:=decide_eq_true (by omega)
  by_cases h2:c≤122
  ·have d2:decide ((c:Int)≤122)=true:=decide_eq_true (by omega)
   have e:ve c=true:=by unfold ve;simp;omega
   rw [e]
   go_enter Tryz.func133,Tryz.ntmps133
   go_wp2
   go_ret
   exact ⟨rfl,rfl⟩
  ·have d2:decide ((c:Int)≤122)=false:=decide_eq_false (by omega)
   have e:ve c=false:=by unfold ve;simp;omega
   rw [e]
   go_enter Tryz.func133,Tryz.ntmps133
   go_wp2
   go_ret
   exact ⟨rfl,rfl⟩
 ·have d1:decide ((97:Int)≤(c:Int))=false:=decide_eq_false (by omega)
  have e:ve c=false:=by unfold ve;simp;omega
  rw [e]
  go_enter Tryz.func133,Tryz.ntmps133
  go_wp2
  go_ret
  exact ⟨rfl,rfl⟩
theorem UE (l:List UInt8) (f:Nat→Bool):allOf (fun j=>f (l.getD j 0).toNat) l.length=l.all fun c=>f c.toNat:=by
 unfold allOf
 rw [Bool.eq_iff_iff,List.all_eq_true,List.all_eq_true]
 constructor
 ·intro h c hc
  obtain ⟨j,hj,rfl⟩:=List.mem_iff_getElem.1 hc
  have:=h j (List.mem_range.2 hj)
  rwa [List.getD_eq_getElem?_getD,List.getElem?_eq_getElem hj] at this
 ·intro h j hj
  have hj':=List.mem_range.1 hj
  rw [List.getD_eq_getElem?_getD,List.getElem?_eq_getElem hj']
  exact h _ (List.getElem_mem hj')
theorem VU (s:ByteArray) (w:World):∃C O,(convert 9 256 (.string s)).run Tryz.prog w = .ok (.slice (some ⟨w.heap.size,0,none⟩) s.size C) (w.alloc O).drew
  ∧ ∀j,j<s.size→(w.alloc O).drew.cell? ⟨w.heap.size,0+j,none⟩=some (.int .u8 (((s.data.toList.getD j 0).toNat:Nat):Int)):=by
 refine ⟨_,_,run_bytes_of_string w _ _ _ s Tryz.underlying9 Tryz.underlying256 Tryz.underlying5,fun j hj=>?_⟩
 show (w.alloc _).cell? _=_
 rw [Nat.zero_add,World.cell?_alloc_mark]
 rw [bytesRow_at s _ j hj,Ref.getD_at s j hj]
 rfl
theorem zdQ (s:ByteArray) (w:World) (hs:s.size≤maxLen) :
  Calls Tryz.prog 82 #[.string s] w fun e w'=>e = .returned (.bool (Ref.zY s))∧Below w.heap.size w w':=by
 unfold maxLen at hs
 by_cases h1:1≤s.size
 ·have d1:decide ((0:Int)<(s.size:Int))=true:=decide_eq_true (by omega)
  by_cases h2:s.size≤12
  ·have d2:decide ((s.size:Int)≤12)=true:=decide_eq_true (by omega)
   obtain ⟨C,O,hcv,hcl⟩:=VU s w
   have hb0:Below w.heap.size w (w.alloc O).drew:=((Below.refl _ w).alloc (Nat.le_refl _) _).drew
   have c:=zdU s.size w.heap.size 0 C 133 #[] (fun j=>(((s.data.toList.getD j 0).toNat:Nat):Int)) (fun j=>ve (s.data.toList.getD j 0).toNat) _ (by omega)
    (enters_of Tryz.func133 (by kernel_rfl) rfl) hcl
    (fun W j _ _=>(zfO _ W (UInt8.toNat_lt _)).mono fun e w' ⟨he,hw⟩=>⟨he,hw ▸ Below.refl _ _⟩)
   have hl:=UE s.data.toList ve
   rw [Ref.zg] at hl
   rw [hl] at c
   have hn:Ref.zY s=s.data.toList.all fun c=>ve c.toNat:=by
    unfold Ref.zY Ref.letters ve
    rw [decide_eq_true (by omega)];rfl
   rw [hn]
   generalize (s.data.toList.all fun c=>ve c.toNat)=R at c
   clear hl hn hcl
   go_enter Tryz.func82,Tryz.ntmps82
   go_wp2_with (go_at_call 132;refine c.mono ?_;rintro e w' ⟨rfl,hb'⟩)
   go_ret
   exact ⟨rfl,hb0.trans (hb'.mono hb0.size)⟩
  ·have d2:decide ((s.size:Int)≤12)=false:=decide_eq_false (by omega)
   rw [Ref.ug s (by omega)]
   go_enter Tryz.func82,Tryz.ntmps82
   go_wp2
   go_ret
   exact ⟨rfl,Below.refl _ _⟩
 ·have d1:decide ((0:Int)<(s.size:Int))=false:=decide_eq_false (by omega)
  rw [Ref.ug s (by omega)]
  go_enter Tryz.func82,Tryz.ntmps82
  go_wp2
  go_ret
  exact ⟨rfl,Below.refl _ _⟩
theorem below_drewN {B:Nat} {a w:World} (h:Below B a w):∀q,Below B a (w.drewN q)
 | 0=>h
 | q+1=>(below_drewN h q).drew
def KG (w:World):Prop:=∃m,w.cell? ⟨4,0,none⟩=some (.int .i64 m)
theorem KG.below {w w':World} (h:KG w) (hb:Below w.heap.size w w'):KG w':=by
 obtain ⟨m,hm⟩:=h
 exact ⟨m,cell_later hb hm⟩
theorem zlt (u:ByteArray) (w:World) (hu:u.size≤1000) (hm:KG w) :
  Calls Tryz.prog 252 #[.string u, .string ⟨#[125]⟩] w fun e w'=>(∃X,e = .returned (.tuple #[.string (Pg.uJ u), .string X, .bool (Pg.QC u)]))∧Below w.heap.size w w':=by
 obtain ⟨m,hm⟩:=hm
 have c:=Any.strings_Cut Tryz.lays145 u ⟨#[125]⟩ m w (by omega) hm
 obtain ⟨e1,e2⟩:=Pg.zgV u
 refine c.mono ?_
 rintro e w' ⟨rfl,n,rfl⟩
 refine ⟨⟨⟨(Lib.cut u.data.toList [125]).2.1.toArray⟩,?_⟩,below_drewN (Below.refl _ _) n⟩
 rw [← e1,← e2]
theorem zke {a1 a2:Int} {b1 b2:ByteArray} {c1 c2:Int} (h1:a1=a2) (h2:b1=b2) (h3:c1=c2) :
  Ending.returned (.tuple #[.agg #[.int .i32 a1, .string b1], .int .i64 c1]) = .returned (.tuple #[.agg #[.int .i32 a2, .string b2], .int .i64 c2]):=by rw [h1,h2,h3]
theorem VK (t:ByteArray) (w:World) (ht:t.size≤100) (hm:KG w) :
  Calls Tryz.prog 236 #[.string t] w fun e w'=>
   e = .returned (.tuple #[.agg #[.int .i32 (Pg.zin t).1, .string (Pg.zin t).2.1], .int .i64 ((Pg.zin t).2.2:Nat)])∧Below w.heap.size w w':=by
 by_cases h0:t.size=0
 ·have hd:Pg.zin t=(0,⟨#[]⟩,0):=by unfold Pg.zin;rw [if_pos h0]
  rw [hd]
  have ht0:t=⟨#[]⟩:=by
   have h:=h0
   simp at h
   exact h
  subst ht0
  go_enter Tryz.func236,Tryz.ntmps236
  go_wp2
  exact bodyPost_ret (v := .tuple #[.agg #[.int .i32 0, .string ⟨#[]⟩], .int .i64 0]) (by simp [results,Tryz.results236,go_sem]) rfl ⟨rfl,(Below.refl _ _).alloc (Nat.le_refl _) _⟩
 have hne:(t.toList==([]:List UInt8))=false:=by
  rw [Lib.toList_data]
  cases h:t.data.toList with
  | nil=>exact absurd (by rw [Lib.size_eq,h];rfl) h0
  | cons _ _=>rfl
 have hp:0<t.size:=by omega
 obtain ⟨b,hb⟩:∃b,(t[0]'hp)=b:=⟨_,rfl⟩
 have hg:t.data.toList.getD 0 0=b:=by rw [Ref.getD_at t 0 hp,hb]
 have hd:Pg.zin t=Pg.zin t:=rfl
 conv at hd=>rhs;unfold Pg.zin
 rw [if_neg h0,hg] at hd
 have hblt:=b.toNat_lt
 by_cases h3:b.toNat=36∨b.toNat=42∨b.toNat=63
 ·rw [if_pos h3] at hd
  rw [hd]
  clear hd
  have hbi:(b.toNat:Int)=36∨(b.toNat:Int)=42∨(b.toNat:Int)=63:=by omega
  clear h3
  rcases hbi with h|h|h
  all_goals
   go_enter Tryz.func236,Tryz.ntmps236
   go_wp2
   exact bodyPost_ret (v := .tuple #[.agg #[.int .i32 b.toNat, .string ⟨#[]⟩], .int .i64 2]) (by simp [results,Tryz.results236,go_sem,h]) rfl ⟨rfl,(Below.refl _ _).alloc (Nat.le_refl _) _⟩
 rw [if_neg h3] at hd
 have n1:((b.toNat:Int)==36)=false:=by rw [beq_eq_false_iff_ne];omega
 have n2:((b.toNat:Int)==42)=false:=by rw [beq_eq_false_iff_ne];omega
 have n3:((b.toNat:Int)==63)=false:=by rw [beq_eq_false_iff_ne];omega
 clear h3
 by_cases h4:b.toNat=123
 ·have n4:(b.toNat:Int)=123:=by omega
  rw [if_pos h4] at hd
  clear h4
  obtain ⟨u,hu⟩:∃u,t.extract 1 t.size=u:=⟨_,rfl⟩
  rw [hu] at hd
  have hus:u.size≤100:=by rw [← hu,ByteArray.size_extract];omega
  have ht1:(1:Int)≤(t.size:Int):=by omega
  have c:=fun O=>zlt u (w.alloc O) (by omega) (hm.below ((Below.refl _ w).alloc (Nat.le_refl _) O))
  cases hh:Pg.QC u with
  | false=>
   rw [hh,if_neg (by decide)] at hd
   rw [hh] at c
   rw [hd]
   clear hd hh
   go_enter Tryz.func236,Tryz.ntmps236
   go_wp2_with (go_at_call 252;refine (c _).mono ?_;rintro e w' ⟨⟨X,rfl⟩,hb'⟩;obtain ⟨bc,bf⟩:=JD hb')
   have hz:w.heap.size<w'.heap.size:=by have:=hb'.size;simp at this;omega
   have bw:Below w.heap.size w w':=((Below.refl _ w).alloc (Nat.le_refl _) _).trans (hb'.mono (by simp))
   exact bodyPost_ret (v := .tuple #[.agg #[.int .i32 0, .string ⟨#[]⟩], .int .i64 0]) (by simp [results,Tryz.results236,go_sem,bc]) rfl ⟨rfl,(bw.setCell (Nat.le_refl _) _).setCell (Nat.le_refl _) _⟩
  | true=>
   rw [hh,if_pos rfl] at hd
   rw [hh] at c
   obtain ⟨nm,hnm⟩:∃nm,Pg.uJ u=nm:=⟨_,rfl⟩
   have hns:nm.size≤100:=by
    rw [← hnm];unfold Pg.uJ;rw [hh,if_pos rfl,ByteArray.size_extract];omega
   rw [hnm] at hd c
   have cn:=fun W=>zdQ nm W (by unfold maxLen;omega)
   cases hi:Ref.zY nm with
   | true=>
    rw [hi,if_pos rfl] at hd
    rw [hi] at cn
    rw [hd]
    clear hd hh hi hnm
    go_enter Tryz.func236,Tryz.ntmps236
    go_wp2_with (first
     | (go_at_call 252;refine (c _).mono ?_;rintro e w' ⟨⟨X,rfl⟩,hb'⟩;obtain ⟨bc,bf⟩:=JD hb';have hz:w.heap.size<w'.heap.size:=by (have:=hb'.size;simp at this;omega))
     | (go_at_call 82;refine (cn _).mono ?_;rintro e w2 ⟨rfl,hb2⟩;obtain ⟨bc2,bf2⟩:=JD hb2))
    have hz2:w.heap.size<w2.heap.size:=by have:=hb2.size;omega
    have bw:Below w.heap.size w w':=((Below.refl _ w).alloc (Nat.le_refl _) _).trans (hb'.mono (by simp))
    have bw2:Below w.heap.size w w2:=bw.trans (hb2.mono bw.size)
    exact bodyPost_ret (v := .tuple #[.agg #[.int .i32 0, .string nm], .int .i64 (2+nm.size+1)]) (by simp [results,Tryz.results236,go_sem,bc,hz,bc2]) rfl ⟨zke rfl rfl (by simp),(bw2.setCell (Nat.le_refl _) _).setCell (Nat.le_refl _) _⟩
   | false=>
    rw [hi,if_neg (by decide)] at hd
    rw [hi] at cn
    rw [hd]
    clear hd hh hi hnm
    go_enter Tryz.func236,Tryz.ntmps236
    go_wp2_with (first
     | (go_at_call 252;refine (c _).mono ?_;rintro e w' ⟨⟨X,rfl⟩,hb'⟩;obtain ⟨bc,bf⟩:=JD hb';have hz:w.heap.size<w'.heap.size:=by (have:=hb'.size;simp at this;omega))
     | (go_at_call 82;refine (cn _).mono ?_;rintro e w2 ⟨rfl,hb2⟩;obtain ⟨bc2,bf2⟩:=JD hb2))
    have hz2:w.heap.size<w2.heap.size:=by have:=hb2.size;omega
    have bw:Below w.heap.size w w':=((Below.refl _ w).alloc (Nat.le_refl _) _).trans (hb'.mono (by simp))
    have bw2:Below w.heap.size w w2:=bw.trans (hb2.mono bw.size)
    exact bodyPost_ret (v := .tuple #[.agg #[.int .i32 0, .string ⟨#[]⟩], .int .i64 0]) (by simp [results,Tryz.results236,go_sem,bc,hz,bc2]) rfl ⟨rfl,(bw2.setCell (Nat.le_refl _) _).setCell (Nat.le_refl _) _⟩
 ·have n4:((b.toNat:Int)==123)=false:=by rw [beq_eq_false_iff_ne];omega
  rw [if_neg h4] at hd
  rw [hd]
  clear hd h4
  go_enter Tryz.func236,Tryz.ntmps236
  go_wp2
  exact bodyPost_ret (v := .tuple #[.agg #[.int .i32 0, .string ⟨#[]⟩], .int .i64 0]) (by simp [results,Tryz.results236,go_sem]) rfl ⟨rfl,(Below.refl _ _).alloc (Nat.le_refl _) _⟩
def Y3 (w:World):Prop:=Lib.Utf8Tabs 2 3 w
theorem Y3.below {w w':World} (h:Y3 w) (hb:Below w.heap.size w w'):Y3 w':=Utf8Tabs_below h hb
theorem decode_any (s:ByteArray) (w:World) (hp:0<s.size) (hT:Y3 w) (c n:Nat) (hd:Utf8.decode s 0=(c,n)) :
  Calls Tryz.prog 237 #[.string s] w fun e w'=>e = .returned (.tuple #[.int .i32 (c:Int), .int .i64 (n:Int)])∧Below w.heap.size w w':=by
 have c0:=Any.utf8_DecodeRuneInString Tryz.lays197 s w hT
 have e:Lib.decodeGo s=(c,n):=by unfold Lib.decodeGo;rw [if_neg (by omega),hd]
 rw [e] at c0
 exact c0
theorem YG (s:ByteArray) (w:World) (hp:0<s.size) (hs:s.size≤100) (hm:KG w) (hT:Y3 w) (A:Int) (B:ByteArray) (N:Nat) (hR:Pg.zdl (Ref.zM s)=(A,B,N)) :
  Calls Tryz.prog 212 #[.string s] w fun e w'=>
   e = .returned (.tuple #[.agg #[.int .i32 A, .string B], .int .i64 (N:Int)])∧Below w.heap.size w w':=by
 obtain ⟨b,hb⟩:∃b,(s[0]'hp)=b:=⟨_,rfl⟩
 have hg:s.data.toList.getD 0 0=b:=by rw [Ref.getD_at s 0 hp,hb]
 have hblt:=b.toNat_lt
 have hpi:(0:Int)<(s.size:Int):=by omega
 have b0:=fun O=>(Below.refl _ w).alloc (Nat.le_refl _) O
 by_cases h1:b.toNat=42
 ·have e:=Pg.zii s hp (by rw [hg];exact h1)
  rw [hR] at e
  obtain ⟨rfl,rfl,rfl⟩:A = -2∧B=⟨#[]⟩∧N=1:=by simpa using e
  have i1:(b.toNat:Int)=42:=by omega
  clear h1 hR e
  go_enter Tryz.func212,Tryz.ntmps212
  go_wp2
  exact bodyPost_ret (v := .tuple #[.agg #[.int .i32 (-2), .string ⟨#[]⟩], .int .i64 1]) (by simp [results,Tryz.results212,go_sem]) rfl ⟨rfl,(Below.refl _ _).alloc (Nat.le_refl _) _⟩
 have n1:((b.toNat:Int)==42)=false:=by rw [beq_eq_false_iff_ne];omega
 by_cases h2:b.toNat=63
 ·have e:=Pg.zjr s hp (by rw [hg];exact h2)
  rw [hR] at e
  obtain ⟨rfl,rfl,rfl⟩:A = -1∧B=⟨#[]⟩∧N=1:=by simpa using e
  have i1:(b.toNat:Int)=63:=by omega
  clear h1 h2 hR e
  go_enter Tryz.func212,Tryz.ntmps212
  go_wp2
  exact bodyPost_ret (v := .tuple #[.agg #[.int .i32 (-1), .string ⟨#[]⟩], .int .i64 1]) (by simp [results,Tryz.results212,go_sem]) rfl ⟨rfl,(Below.refl _ _).alloc (Nat.le_refl _) _⟩
 have n2:((b.toNat:Int)==63)=false:=by rw [beq_eq_false_iff_ne];omega
 by_cases h3:b.toNat=36
 ·have e:=Pg.zdf s hp (by rw [hg];exact h3)
  rw [hR] at e
  have i1:(b.toNat:Int)=36:=by omega
  obtain ⟨u,hu⟩:∃u,s.extract 1 s.size=u:=⟨_,rfl⟩
  have hus:u.size≤100:=by rw [← hu,ByteArray.size_extract];omega
  rw [hu] at e
  have c:=fun O=>VK u (w.alloc O) hus (hm.below (b0 O))
  rw [← e] at c
  have hs1:(1:Int)≤(s.size:Int):=by omega
  clear h1 h2 h3 hR e
  go_enter Tryz.func212,Tryz.ntmps212
  go_wp2_with (go_at_call 236;refine (c _).mono ?_;rintro e w' ⟨rfl,hb'⟩;obtain ⟨bc,bf⟩:=JD hb')
  have bw:Below w.heap.size w w':=(b0 _).trans (hb'.mono (by simp))
  exact bodyPost_ret (v := .tuple #[.agg #[.int .i32 A, .string B], .int .i64 N]) (by simp [results,Tryz.results212,go_sem,bc]) rfl ⟨rfl,(bw.setCell (Nat.le_refl _) _).setCell (Nat.le_refl _) _⟩
 have n3:((b.toNat:Int)==36)=false:=by rw [beq_eq_false_iff_ne];omega
 rcases Pg.Vj s hp (by rw [hg];exact h1) (by rw [hg];exact h2) (by rw [hg];exact h3) with ⟨hd,e⟩|⟨c,n,hc,hd,hn,hns,e⟩
 ·rw [hR] at e
  obtain ⟨rfl,rfl,rfl⟩:A=0∧B=⟨#[]⟩∧N=0:=by simpa using e
  have c:=fun O=>decode_any s (w.alloc O) hp (hT.below (b0 O)) _ _ hd
  clear h1 h2 h3 hR e hd
  go_enter Tryz.func212,Tryz.ntmps212
  go_wp2_with (go_at_call 237;refine (c _).mono ?_;rintro e w' ⟨rfl,hb'⟩;obtain ⟨bc,bf⟩:=JD hb')
  have bw:Below w.heap.size w w':=(b0 _).trans (hb'.mono (by simp))
  exact bodyPost_ret (v := .tuple #[.agg #[.int .i32 0, .string ⟨#[]⟩], .int .i64 0]) (by simp [results,Tryz.results212,go_sem,bc]) rfl ⟨rfl,(bw.setCell (Nat.le_refl _) _).setCell (Nat.le_refl _) _⟩
 ·rw [hR] at e
  obtain ⟨rfl,rfl,rfl⟩:A=(c:Int)∧B=⟨#[]⟩∧N=n:=by simpa using e
  have cd:=fun O=>decode_any s (w.alloc O) hp (hT.below (b0 O)) _ _ hd
  have hc0:(0:Int)≤(c:Int):=by omega
  have hc1:(c:Int)≤1114111:=by omega
  by_cases hcc:c=65533
  ·have k1:(c:Int)=65533:=by omega
   have k2:((N:Int)==1)=false:=by rw [beq_eq_false_iff_ne];omega
   clear h1 h2 h3 hR e hd hcc hn
   go_enter Tryz.func212,Tryz.ntmps212
   go_wp2_with (go_at_call 237;refine (cd _).mono ?_;rintro e w' ⟨rfl,hb'⟩;obtain ⟨bc,bf⟩:=JD hb')
   have bw:Below w.heap.size w w':=(b0 _).trans (hb'.mono (by simp))
   exact bodyPost_ret (v := .tuple #[.agg #[.int .i32 c, .string ⟨#[]⟩], .int .i64 N]) (by simp [results,Tryz.results212,go_sem,bc,k1]) rfl ⟨rfl,(bw.setCell (Nat.le_refl _) _).setCell (Nat.le_refl _) _⟩
  ·have k1:((c:Int)==65533)=false:=by rw [beq_eq_false_iff_ne];omega
   clear h1 h2 h3 hR e hd hcc hn
   go_enter Tryz.func212,Tryz.ntmps212
   go_wp2_with (go_at_call 237;refine (cd _).mono ?_;rintro e w' ⟨rfl,hb'⟩;obtain ⟨bc,bf⟩:=JD hb')
   have bw:Below w.heap.size w w':=(b0 _).trans (hb'.mono (by simp))
   exact bodyPost_ret (v := .tuple #[.agg #[.int .i32 c, .string ⟨#[]⟩], .int .i64 N]) (by simp [results,Tryz.results212,go_sem,bc]) rfl ⟨rfl,(bw.setCell (Nat.le_refl _) _).setCell (Nat.le_refl _) _⟩
namespace Pg
def qG (l:List (Int×ByteArray)):List Value:=l.flatMap fun p=>[.int .i32 (YJ p), .string (nameOf p)]
theorem yg (l:List (Int×ByteArray)) (p:Int×ByteArray):qG (l++[p])=qG l++[.int .i32 (YJ p), .string (nameOf p)]:=by
 unfold qG;simp
def zjk (w:World) (P:Option (List (Int×ByteArray))) (v x:Value) (w':World):Prop:=
 (P=none∧v = .slice none 0 0∧∃k:Int,x = .iface 228 (.agg #[.int .i64 k])) ∨
 (∃ps,P=some ps∧x = .nilIface∧w'.ownsRow w.heap.size 358 2 v ps.length (qG ps))
theorem zkB (s:ByteArray) (k n:Nat):(s.extract k s.size).extract n (s.extract k s.size).size=s.extract (k+n) s.size:=by
 rw [ByteArray.extract_extract,ByteArray.size_extract]
 have e:min (k+(min s.size s.size-k)) s.size=s.size:=by omega
 rw [e]
end Pg
theorem Tryz.infoPgPart:(Tryz.prog.info? 358).map (fun i=>(i.zero,i.size,i.bytes))=some (some (.agg #[.int .i32 0, .string ⟨#[]⟩]),2,24):=by kernel_rfl
theorem zfG (k:Int) (c:ByteArray):∀u ∈ [Value.int .i32 k,Value.string c],u.oneCell'=true:=by
 intro u hu;simp at hu;rcases hu with rfl|rfl<;>rfl
theorem zhA (s:ByteArray) (w:World) (hs:s.size≤maxLen) (hm:KG w) (hT:Y3 w) :
  Calls Tryz.prog 173 #[.string s] w fun e w'=>∃v x,e = .returned (.tuple #[v,x])∧Below w.heap.size w w'∧Pg.zjk w (Ref.parts s) v x w':=by
 unfold maxLen at hs
 by_cases h60:60<s.size
 ·have hP:Ref.parts s=none:=by unfold Ref.parts;rw [if_pos h60]
  rw [hP]
  have hi:(60:Int)<(s.size:Int):=by omega
  go_enter Tryz.func173,Tryz.ntmps173
  go_wp2
  go_ret2
  exact ⟨_,_,rfl,Below.refl _ _, .inl ⟨rfl,rfl,_,rfl⟩⟩
 obtain ⟨i0,hi,hz0,hz1,hz2⟩:=info_parts Tryz.infoPgPart
 have hs6:decide (60<(s.size:Int))=false:=decide_eq_false (by omega)
 have hP:Ref.parts s=(Ref.vC (s.size+1) s).map fun r=>[]++r:=by unfold Ref.parts;rw [if_neg (by omega)];simp
 generalize hPP:Ref.parts s=P at *
 clear hPP
 have HP:Hid (P=(Ref.vC (s.size+1) s).map fun r=>[]++r):=hP
 clear hP
 have hs60:s.size≤60:=by omega
 clear h60
 go_enter Tryz.func173,Tryz.ntmps173
 go_wp2
 go_loopw [4,5] (fun lv av wr=>∃(k f:Nat) (done:List (Int×ByteArray)),av = .int .i64 k∧k≤s.size∧done.length≤k∧(s.extract k s.size).size<f∧P=((Ref.vC f (s.extract k s.size)).map fun r=>done++r) ∧
   wr.ownsRow w.heap.size 358 2 lv done.length (Pg.qG done)∧Below w.heap.size w wr) (fun _ av _=>s.size-(intOf av).toNat)
 case atStart=>
  refine ⟨0,s.size+1,[],rfl,by omega,by simp,by rw [ByteArray.size_extract];omega,?_,World.ownsRow_nil _ _ _ _,Below.refl _ _⟩
  rw [HP.out];simp
 case round=>
  obtain ⟨k,f,done,rfl,hk,hdk,hf,hP0,hown,hbel⟩:=hrel
  obtain ⟨t,ht⟩:∃t,s.extract k s.size=t:=⟨_,rfl⟩
  have htz:t.size=s.size-k:=by rw [← ht,ByteArray.size_extract];omega
  have hmore:=fun n=>Pg.zkB s k n
  rw [ht] at hP0 hf hmore
  have HP1:=hid hP0
  have HM:=hid hmore
  clear hP0 HP hmore
  have hsz:=hbel.size
  by_cases hlt:k<s.size
  ·have hp:0<t.size:=by omega
   have hlti:(k:Int)<(s.size:Int):=by omega
   cases hst:Ref.zM t with
   | none=>
    have hfin:=Ref.Yv P f t done hp hf HP1.out hst
    subst hfin
    have c:=YG t wr hp (by omega) (hm.below hbel) (hT.below hbel) 0 ⟨#[]⟩ 0 (by rw [hst];rfl)
    clear hst
    go_wp2_with (go_at_call 212;refine c.mono ?_;rintro e w' ⟨rfl,hb'⟩)
    go_ret2
    exact ⟨_,_,rfl,(hbel.trans (hb'.mono hsz)).alloc (by have:=hb'.size;omega) _, .inl ⟨rfl,rfl,_,rfl⟩⟩
   | some q=>
    obtain ⟨kk,u,n⟩:=q
    obtain ⟨f',hf',hP'⟩:=Ref.kS P f t done hp hf HP1.out kk u n hst
    have hns:=Ref.Xz t hp kk u n hst
    rw [HM.out n] at hf' hP'
    have c:=YG t wr hp (by omega) (hm.below hbel) (hT.below hbel) (Pg.YJ (kk,u)) (Pg.nameOf (kk,u)) n (by rw [hst];rfl)
    have hsn:=Pg.yg done (kk,u)
    have HSN:=hid hsn
    have HP2:=hid hP'
    obtain ⟨sg,hsg⟩:∃x,Pg.YJ (kk,u)=x:=⟨_,rfl⟩
    obtain ⟨nm,hnm⟩:∃x,Pg.nameOf (kk,u)=x:=⟨_,rfl⟩
    rw [hsg,hnm] at c
    have HSG:=hid hsg
    have HNM:=hid hnm
    have hn0:((n:Int)==0)=false:=by rw [beq_eq_false_iff_ne];omega
    clear hP' hst HP1 hsn hsg hnm
    go_wp2_with (first
     | (go_at_call 212;refine c.mono ?_;rintro e w' ⟨rfl,hb'⟩)
     | (at_builtin;refine wpList_append_own _ rfl _ _ 307 rfl w.heap.size 358 i0 (.agg #[.int .i32 0, .string ⟨#[]⟩]) 2 24 Tryz.underlying307 hi hz0 hz1 hz2 rfl (by decide) _ done.length (Pg.qG done) rfl (((ownsRow_below hown hb').alloc _).alloc _) ⟨w'.heap.size+1,0,none⟩ 1 1 [.int .i32 sg, .string nm] rfl rfl ?_ ?_ ?_ ?_ ?_ ?_))
    ·exact xU _ _ _ _ _ _ (by simp)
    ·exact zfG _ _
    ·unfold maxLen;omega
    ·omega
    ·have:=hb'.size;simp;omega
    ·intro v' w1 hown' hgrow _
     have hb1:=Xe (hbel.trans (hb'.mono hsz)) (ownsRow_below hown hb') _ _ hgrow
     have hown2:w1.ownsRow w.heap.size 358 2 v' (done++[(kk,u)]).length (Pg.qG (done++[(kk,u)])):=by
      rw [HSN.out,HSG.out,HNM.out,List.length_append];exact hown'
     clear hown' hgrow hown c hb'
     go_wp2
     go_roundw
     case rel=>exact ⟨k+n,f',_,by go_num,by omega,by simp;omega,hf',HP2.out,hown2,hb1⟩
     case measure=>simp [intOf];omega
  ·have hfin:=Ref.zaY P f t done (by omega) hf HP1.out
   subst hfin
   clear HP1
   go_wp2
   go_ret2
   exact ⟨_,_,rfl,hbel, .inr ⟨_,rfl,rfl,hown⟩⟩
end Go.Proofs.YtdakgnaojakldaaGreatDoor
