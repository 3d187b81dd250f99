/- Small helps: a value and its name; a new block leaves all as it was. -/
import Derived.Test.YtfjpcldndaiifaaGreatDoorProg
import Derived.Below
import Derived.WalkKit
import Derived.BigQuiet
import Derived.ChangeAlike
import Derived.Deep.AppendLies
import Derived.Deep.CutRange
import Derived.Deep.DeepCutAuto
import Derived.Deep.DeepHandedRow
import Derived.Deep.DeepWitnessRowRef
import Derived.Deep.DrawnRows
import Derived.Deep.Light
import Derived.Deep.QuietTactic
import Derived.Deep.RegionHeld3
import Derived.Deep.RegionLaw
import Derived.Deep.RegionWith
import Derived.Deep.SlicePairs
import Derived.JoinedCond
import Derived.KernelRfl
import Derived.LaidEql
import Derived.LaidHandle
import Derived.LaidMore
import Derived.Laws.AppendOwn
import Derived.Laws.AppendOwnNone
import Derived.Laws.IdiomStrings
import Derived.Laws.Rows
import Derived.Lib.AppendStr
import Derived.Lib.AppendZeros
import Derived.Lib.Bytealg
import Derived.Lib.CutLaws
import Derived.Lib.DecodeN
import Derived.Lib.Join
import Derived.Lib.LaidIn
import Derived.Lib.LaidU8T
import Derived.Lib.RuneBytes
import Derived.Lib.SmallJoins
import Derived.Lib.Strings
import Derived.Lib.ValidAsc
import Derived.Lib.ValidLaws
import Derived.Maps.AppendAt
import Derived.OpenShut
import Derived.OwnWalk
import Derived.ProofKit
import Derived.RegionTactic
import Derived.RowKitTokens
import Derived.Shelf.Abstract
import Derived.Shelf.Pu.Clone
import Derived.Shelf.Small.Strs
import Derived.Shelf.Spec.SlicesGrow
import Derived.Shelf.Strings.Cut
import Derived.Shelf.Strings.OnBuilder
import Derived.Shelf.Unicode.DecodeAny
import Derived.Shelf.Unicode.ValidAny
import Derived.Shelf.Utf8.AppendRunePlain
import Derived.Shelf.Vars
import Derived.SizedLaws
import Derived.Stop.Asserts
import Derived.Stop.LaidErr
import Derived.WalkLawsBesides
import Derived.WalkSpells
namespace Go.Proofs.YtfjpcldndaiifaaGreatDoor
open Go.RowKit
abbrev BY:=ByteArray
theorem Nm {α:Sort _} (a:α):∃x,a=x:=⟨_,rfl⟩
theorem nbl (w:World) (O:Obj):Below w.heap.size w (w.alloc O):=(Below.refl _ w).alloc (Nat.le_refl _) O
abbrev Yx:=@List.eq_nil_of_length_eq_zero
abbrev JI:=@Array.getElem?_eq_some_iff
abbrev zU:=@List.getElem?_eq_some_iff
abbrev qo:=@enters_of
abbrev yG:=@World.grownBy_alloc
abbrev zD:=@Nat.zero_le
abbrev qF:=@World.ownsRow_nil
abbrev qY:=@beq_eq_false_iff_ne
abbrev xD:=@Nat.le_trans
abbrev xO:=@Nat.lt_of_lt_of_le
abbrev zI:=@decide_eq_false
abbrev zA:=@heap_alloc_new
abbrev zf:=@Below.refl
abbrev ze:=@Nat.le_refl
abbrev zb:=@if_pos
abbrev zB:=@decide_eq_true
abbrev za:=@if_neg
abbrev Q9:=@List.take_succ_eq_append_getElem
abbrev VK:=@List.take_append_drop
abbrev VE:=@List.all_append
abbrev uA:=@List.take_of_length_le
abbrev VJ:=@List.range_succ
abbrev JV:=@Nat.add_assoc
abbrev zT:=@List.getD_eq_getElem?_getD
abbrev zn:=@List.getElem?_eq_getElem
abbrev VM:=@Nat.add_sub_cancel
abbrev jY:=@Bool.true_and
abbrev Ki:=@decide_eq_decide
abbrev iU:=@decide_eq_false_iff_not
abbrev vJ:=@decide_eq_true_eq
abbrev ve:=@List.length_drop
abbrev gz:=@List.getElem_drop
abbrev vC:=@beq_iff_eq
abbrev Xn:=@eq_of_beq
abbrev zG:=@bodyPost_ret
abbrev yM:=@ByteArray.size_extract
abbrev gL:=@Option.map_map
abbrev aH:=@Function.comp_def
abbrev zt:=@lt_of_block
abbrev Qz:=@Below.heap_alloc
abbrev ax:=@Array.getElem?_modify
abbrev qJ:=@if_true
abbrev Xd:=@World.cell?_of_block
abbrev qy:=@Below.heap_setCell
abbrev qU:=@info_parts
abbrev yh:=@wpList_append_own
abbrev qE:=@List.length_append
abbrev fK:=@Bool.not_eq_true
abbrev zO:=@run_callFunc_extern
abbrev Qy:=@wp_loop_rounds
abbrev Zi:=@rounds_succ
abbrev UW:=@Nat.lt_or_ge
abbrev au:=@Array.getElem?_eq_none
abbrev U1:=@World.cell?_alloc_at
abbrev ZR:=@World.cell?_setCell_same
abbrev ji:=@Sem.run_bind
abbrev xu:=@World.cell?_setCell_other
abbrev ZB:=@run_store
abbrev nZ:=@run_eql_iface_types
abbrev yS:=@run_typeAssert_lacksB
abbrev UQ:=@List.find?_range_eq_some
abbrev Y5:=@List.find?_eq_none
abbrev vk:=@List.mem_range
abbrev Zp:=@Bool.eq_iff_iff
abbrev yC:=@heap_setCell_same
abbrev xz:=@ownsRow_setCell_other
abbrev fM:=@Bool.or_eq_true
abbrev eD:=@run_convert_bytes_string
abbrev nY:=@run_bytesToString
abbrev Q7:=@List.getElem?_modify
abbrev gm:=@List.cons_append
abbrev jE:=@List.getElem?_cons_zero
abbrev kW:=@List.getElem?_cons_succ
abbrev aR:=@List.set_cons_succ
abbrev kX:=@List.length_singleton
abbrev XQ:=@List.getElem?_append
abbrev xC:=@List.mem_of_getElem?
abbrev yx:=@List.mem_singleton
abbrev gB:=@List.length_modify
abbrev zu:=@List.getElem?_set
abbrev J4:=@and_true
abbrev QW:=@true_and
abbrev gG:=@List.take_take
abbrev vT:=@Option.map_eq_some_iff
abbrev zV:=@ByteArray.size_append
abbrev qm:=@List.getElem_mem
abbrev Q3:=@List.any_eq_true
abbrev UO:=@List.find?_cons
abbrev yu:=@Bool.false_eq_true
abbrev xX:=@if_false
abbrev ZI:=@Bool.or_false
abbrev kY:=@List.map_map
abbrev JR:=@List.map_congr_left
abbrev xI:=@List.mem_map
abbrev XJ:=@ByteArray.ext
abbrev Y3:=@Array.toList_inj
abbrev pR:=@ByteArray.data_append
abbrev fZ:=@List.append_assoc
abbrev uz:=@List.map_append
abbrev yO:=@List.map_cons
abbrev Zr:=@List.map_nil
abbrev gp:=@List.ext_getElem
abbrev qf:=@List.length_map
abbrev Y6:=@List.length_eq_zero_iff
abbrev ZH:=@And.intro
abbrev Qg:=@List.take_add_one
abbrev jg:=@List.length_take
abbrev qd:=@Int.natCast_nonneg
abbrev VH:=@List.findIdx?_eq_some_iff_getElem
abbrev og:=@run_sliceAt_slice
abbrev Q6:=@List.getElem?_drop
abbrev Qe:=@List.getElem?_take
abbrev qV:=@Nat.zero_add
abbrev Q8:=@List.getElem?_of_mem
abbrev VC:=@IntKind.wrap_i64
abbrev UT:=@List.mem_of_mem_take
abbrev aP:=@List.mem_of_mem_drop
abbrev ZL:=@List.length_set
abbrev vo:=@Ne.symm
abbrev eY:=@step_append_lies
abbrev gU:=@World.news_of_block
abbrev JW:=@Nat.le_of_lt
abbrev jD:=@List.drop_eq_getElem_cons
abbrev vg:=@List.mem_append
abbrev aN:=@List.mem_append_left
abbrev Zt:=@List.mem_cons
abbrev rD:=@List.mem_append_right
abbrev rF:=@List.pairwise_cons
abbrev fV:=@List.Pairwise.nil
abbrev jX:=@Bool.and_eq_true
abbrev ko:=@ByteArray.toList_eq
abbrev gu:=@List.findIdx?_eq_none_iff
abbrev yE:=@Int.toNat_natCast
abbrev aQ:=@List.pairwise_iff_getElem
abbrev ru:=@List.eraseIdx_eq_take_drop_succ
abbrev rE:=@List.pairwise_append
abbrev Qj:=@World.block_lt_of_cell?
abbrev fG:=@wpList_make_own
abbrev rO:=@UInt8.le_antisymm
abbrev VR:=@UInt8.not_lt
abbrev gT:=@UInt8.lt_irrefl
abbrev rG:=@List.takeWhile_cons
abbrev Qh:=@Nat.add_zero
abbrev XI:=@Bool.false_or
abbrev pI:=@wp_region_quiet
abbrev kS:=@Bool.false_and
abbrev bB:=@World.ownsRow_lit
abbrev uH:=@World.size_alloc
abbrev aG:=@Decidable.not_not
abbrev aC:=@Bool.not_true
abbrev aB:=@Bool.not_false
abbrev dS:=@ownsRow_setCell_below
abbrev Xa:=@Option.getD_none
abbrev uB:=@Option.isSome_none
abbrev yP:=@Option.getD_some
abbrev uC:=@Option.isSome_some
abbrev Y4:=@List.drop_drop
abbrev JP:=@List.drop_length
abbrev aU:=@List.take_left
abbrev UU:=@List.take_length
abbrev Vz:=@ByteArray.data_extract
abbrev ay:=@Array.toList_extract
abbrev gq:=@List.extract_eq_take_drop
abbrev JO:=@Lib.toList_data
abbrev gK:=@Option.isSome_iff_exists
abbrev rz:=@List.getElem?_toArray
abbrev bn:=@UInt8.toNat_inj
abbrev UI:=@Bool.true_or
abbrev VF:=@List.any_cons
abbrev aJ:=@List.all_cons
abbrev JH:=@wpList_make_full
abbrev UG:=@toList_madeCells_one
abbrev QB:=@List.getElem_of_mem
abbrev VG:=@List.any_eq_false
abbrev XT:=@List.length_range
abbrev VI:=@List.getElem_map
abbrev rC:=@List.getElem_range
abbrev ui:=@List.getElem?_map
abbrev UR:=@List.getElem_append_left
abbrev yw:=@List.getElem?_append_left
abbrev gy:=@List.getElem_append_right
abbrev rA:=@List.getElem_cons_zero
abbrev yN:=@List.getElem?_append_right
abbrev XP:=@List.any_map
abbrev Zq:=@List.all_eq_true
abbrev bu:=@UInt8.toNat_lt
abbrev JJ:=@Bool.and_true
abbrev Qf:=@List.length_cons
abbrev fO:=@ByteArray.extract_extract
abbrev Yy:=@Nat.mul_le_mul_right
abbrev pQ:=@Bool.true_eq_false
abbrev aO:=@List.mem_of_find?_eq_some
abbrev Yw:=@List.drop_of_length_le
abbrev JQ:=@List.length_nil
abbrev gD:=@List.mem_iff_getElem
abbrev pU:=@Calls.quiet_of_same
abbrev pK:=@Array.getElem?_eq_getElem
abbrev UN:=@List.ext_getElem?
abbrev fQ:=@DataW.trod_int
abbrev Ja:=@Option.map_some
abbrev aK:=@List.getElem?_eq_none
abbrev aM:=@List.getElem?_range
abbrev aF:=@DataW.trod_string
abbrev DL:=@of_decide_eq_true
abbrev fI:=@Bool.and_false
abbrev aI:=@Lib.run_eql_slice_nil
abbrev pO:=@Bool.or_eq_false_iff
abbrev fJ:=@Bool.not_eq_false'
abbrev Yp:=@wpList_append_own_at
abbrev VW:=@cell_one_new
abbrev vw:=@World.frozen?_of_block
abbrev Vy:=@Bool.or_assoc
abbrev gF:=@List.not_mem_nil
abbrev rq:=@Lib.wpList_append_run
abbrev ry:=@List.flatMap_cons
abbrev VN:=@Nat.lt_trans
abbrev aW:=@Nat.le_of_eq
theorem zi{w v:World}{a:Addr}{x:Value}(b:Below w.heap.size w v)(h:w.cell? a=some x):v.cell? a=some x:=by rw[b.cell (World.block_lt_of_cell? _ _ h)];exact h
abbrev BQ(w v:World):Prop:=Below w.heap.size w v
abbrev G5(x:Value)(w:World)(e:Ending)(v:World):Prop:=e=.returned x/\Below w.heap.size w v
def G6(p:Prop):Prop:=p
theorem G7{p:Prop}(h:p):G6 p:=h
theorem G6.o{p:Prop}(h:G6 p):p:=h
abbrev G8(b o:Nat):Addr:=⟨b,o,none⟩
abbrev G9(w:World):Nat:=w.heap.size
abbrev H5(b:ByteArray):List UInt8:=b.data.toList
abbrev RG(b o:Nat):Value:=.pointer (some ⟨b,o,none⟩)
abbrev R4:Value:=.slice none 0 0
abbrev R5:Value:=.string ⟨#[]⟩
abbrev R6(w:World)(o:Nat):Addr:=⟨w.heap.size,o,none⟩
abbrev R7(w:World)(o:Nat):Value:=.pointer (some ⟨w.heap.size,o,none⟩)
abbrev R8:=Calls Tryz.prog
abbrev R9(x:Int):Value:=.int .i64 x
abbrev S9(x:ByteArray):Value:=.string x
abbrev TL(a:Option Addr)(n c:Nat):Value:=.slice a n c
abbrev T9:Value:=.bool false
abbrev L6:Value:=.bool true
abbrev L8(x:Array Value)(t:Nat)(f:Nat×Nat:=(0,0)):Obj:=.cells x t f
abbrev L9(g:Nat):Prop:=∀(a:Array Value)(w:World),(callFunc g a).run Tryz.prog w=.ok (.enter g a) w
theorem N8{c:Prop}{i:Decidable c}(h:¬c:=by omega){α:Sort _}{t e:α}:@ite α c i t e=e:=if_neg h
theorem N9{c:Prop}{i:Decidable c}(h:c:=by omega){α:Sort _}{t e:α}:@ite α c i t e=t:=if_pos h
theorem P5{p:Prop}[Decidable p](h:p:=by omega):decide p=true:=decide_eq_true h
theorem P6{p:Prop}[Decidable p](h:¬p:=by omega):decide p=false:=decide_eq_false h
theorem P7{α:Type _}{l:List α}{i:Nat}(h:i<l.length:=by omega):l[i]?=some l[i]:=List.getElem?_eq_getElem h
theorem P8{α:Type _}{a b:List α}{i:Nat}(h:a.length<=i:=by omega):(a++b)[i]?=b[i-a.length]?:=List.getElem?_append_right h
theorem P9{α:Type _}{a b:List α}{i:Nat}(h:i<a.length:=by omega):(a++b)[i]?=a[i]?:=List.getElem?_append_left h
theorem F7{n:Nat}:n<=n:=Nat.le_refl n
theorem E9{n:Nat}{w:World}:Below n w w:=Below.refl n w
theorem I4{n:Nat}:0<=n:=Nat.zero_le n
theorem I7{n:Nat}:0<=(n:Int):=Int.natCast_nonneg n
theorem D5{A B:Prop}(a:A)(b:B):G6 A/\G6 B:=⟨a,b⟩
theorem M4{A B C:Prop}(a:A)(b:B)(c:C):G6 A/\G6 B/\G6 C:=⟨a,b,c⟩
theorem M5{A B C D:Prop}(a:A)(b:B)(c:C)(d:D):G6 A/\G6 B/\G6 C/\G6 D:=⟨a,b,c,d⟩
theorem M6{A B C D E:Prop}(a:A)(b:B)(c:C)(d:D)(e:E):G6 A/\G6 B/\G6 C/\G6 D/\G6 E:=⟨a,b,c,d,e⟩
theorem M7{A B C D E F:Prop}(a:A)(b:B)(c:C)(d:D)(e:E)(f:F):G6 A/\G6 B/\G6 C/\G6 D/\G6 E/\G6 F:=⟨a,b,c,d,e,f⟩
theorem M8{A B C D E F G:Prop}(a:A)(b:B)(c:C)(d:D)(e:E)(f:F)(g:G):G6 A/\G6 B/\G6 C/\G6 D/\G6 E/\G6 F/\G6 G:=⟨a,b,c,d,e,f,g⟩
theorem M9{A B C D E F G H:Prop}(a:A)(b:B)(c:C)(d:D)(e:E)(f:F)(g:G)(h:H):G6 A/\G6 B/\G6 C/\G6 D/\G6 E/\G6 F/\G6 G/\G6 H:=⟨a,b,c,d,e,f,g,h⟩
theorem W9{A B C D E F G H I:Prop}(a:A)(b:B)(c:C)(d:D)(e:E)(f:F)(g:G)(h:H)(i:I):G6 A/\G6 B/\G6 C/\G6 D/\G6 E/\G6 F/\G6 G/\G6 H/\G6 I:=⟨a,b,c,d,e,f,g,h,i⟩
theorem RF{A B C D E F G H I J:Prop}(a:A)(b:B)(c:C)(d:D)(e:E)(f:F)(g:G)(h:H)(i:I)(j:J):G6 A/\G6 B/\G6 C/\G6 D/\G6 E/\G6 F/\G6 G/\G6 H/\G6 I/\G6 J:=⟨a,b,c,d,e,f,g,h,i,j⟩
abbrev J:=World
abbrev Y:=Value
end Go.Proofs.YtfjpcldndaiifaaGreatDoor
