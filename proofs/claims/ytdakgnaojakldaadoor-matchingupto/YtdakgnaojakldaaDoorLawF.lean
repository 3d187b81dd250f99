/- MatchingUpto: for every pattern, word and request of bulk at most 1048576 the program's Matches answers as the document's reference, and what is handed in stays as it was; the library's tables and variables and the program's error of length start as the text lays them. -/
import Derived.Test.YtdakgnaojakldaaDoorCards
import Derived.Test.YtdakgnaojakldaaDoorTie
import Derived.Test.YtdakgnaojakldaaDoorLawE
import Derived.ProofKit
import Derived.OpenShut
import Derived.JoinedCond
import Derived.Lib.SmallJoins
import Derived.Deep.SlicePairs
import Derived.Deep.DeepHandedRow
import Derived.Deep.DeepWitnessRowRef
import Derived.Lib.LaidIn
import Derived.Lib.LaidU8T
import Derived.Stop.LaidErr
import Derived.LaidHandle
import Derived.Shelf.Vars
namespace Go.Proofs.YtdakgnaojakldaaDoor.laws
open Go.ChangeShapes Go.WideShapes Go.ChangeAt Go.RowKit Go.Joins Go.Deep

theorem own : ownKnob Tryd.prog.godebug = none := by kernel_rfl
theorem gLong : Tryd.prog.globalNamed "warrant/texts.ErrLong" = some 0 := by kernel_rfl
theorem gErr : Tryd.prog.globalNamed "errors.errorType" = some 1 := by kernel_rfl
theorem rtRow : (Tryd.prog.cutTypes.find? (·.1 == "internal/reflectlite.rtype")).map (·.2) = some 120 := by kernel_rfl
theorem tySize : Tryd.prog.types.size = 180 := by kernel_rfl
theorem oneRow : ((List.range 180).filter fun t => Tryd.prog.rowNamed t [101, 114, 114, 111, 114]) = [38] := by kernel_rfl
theorem handle : typeHandle Tryd.prog 38 = .pointer (some ⟨5, 38, none⟩) := by kernel_rfl
theorem firstIs : Rows.laid_unicode_utf8_first = Lib.firstData := by kernel_rfl
theorem acceptIs : (Rows.laid_unicode_utf8_acceptRanges : DataW Unit) = Lib.acceptData := by kernel_rfl
theorem starName : "*" ++ "errors.errorString" = "*errors.errorString" := by decide
theorem oneName (u : TypeId) (h : Tryd.prog.typeName? 3 u = some "*errors.errorString") : u = 147 :=
  typeName_ptr_named (nm := "errors.errorString") (by rw [starName]; kernel_rfl) (by kernel_rfl) (by decide) u (by rw [starName]; exact h)

theorem maxAt {W : World} (h : W.ShapedOpen Tryd.prog) : MaxAt W :=
  Go.Proofs.cell_of_shapedOpen_int (zero := #[.int .i64 0]) (t := 3) h (of_decide_eq_true (by kernel_rfl)) (by kernel_rfl) rfl (by kernel_rfl) (by kernel_rfl) Tryd.underlying3

def laidAll : List (String × DataW Unit) := [("unicode/utf8.acceptRanges", Rows.laid_unicode_utf8_acceptRanges), ("errors.errorType", Rows.laid_errors_errorType), ("warrant/texts.ErrLong", Rows.laid_warrant_texts_ErrLong), ("unicode/utf8.first", Rows.laid_unicode_utf8_first)]
def laidPlain : List (String × DataW Unit) := [("unicode/utf8.acceptRanges", Rows.laid_unicode_utf8_acceptRanges), ("warrant/texts.ErrLong", Rows.laid_warrant_texts_ErrLong), ("unicode/utf8.first", Rows.laid_unicode_utf8_first)]

/-- What the listed variables give the walks. -/
theorem env_of_laid {W : World} (h : laidMetH Tryd.prog laidAll W) (hs : W.ShapedOpen Tryd.prog) : Env W := by
  have h' : laidMet Tryd.prog laidPlain W ∧ handlesMet Tryd.prog [("errors.errorType", Rows.laid_errors_errorType)] W := h
  obtain ⟨hp, hh⟩ := h'
  refine ⟨?_, maxAt hs, ?_, ?_⟩
  · have r1 : Lib.VarReads Tryd.prog W "unicode/utf8.first" Lib.firstData := by rw [← firstIs]; exact Lib.laidMet.reads hp (.tail _ (.tail _ (.head _)))
    have r2 : Lib.VarReads Tryd.prog W "unicode/utf8.acceptRanges" Lib.acceptData := by rw [← acceptIs]; exact Lib.laidMet.reads hp (.head _)
    exact utf8Tabs_of_readsT (U8Types.of196 Tryd.lays196) ⟨by kernel_rfl, by kernel_rfl, by kernel_rfl, by kernel_rfl, by kernel_rfl, by kernel_rfl, by kernel_rfl⟩ r1 r2
  · obtain ⟨name, u, ty, e1, e2, e3, e4, e5⟩ := hh _ (List.mem_singleton.2 rfl)
    have en : name = [101, 114, 114, 111, 114] := (Option.some.inj e1).symm
    subst en
    obtain rfl := Option.some.inj (rtRow.symm.trans e2)
    have hm : ty ∈ (List.range 180).filter fun t => Tryd.prog.rowNamed t [101, 114, 114, 111, 114] := List.mem_filter.2 ⟨List.mem_range.2 (by rw [← tySize]; exact e3), e4⟩
    rw [oneRow] at hm
    obtain rfl := List.mem_singleton.1 hm
    rw [handle] at e5
    show W.cell? _ = _
    simpa using World.var?_cell gErr e5 0
  · obtain ⟨a, s, hv, _⟩ := laid_sentinel (tp := 147) (te := 168) (ts := 9) (laidMet.tail hp) gLong (by kernel_rfl) Tryd.underlying38 oneName Tryd.underlying147 Tryd.underlying168 rfl rfl Tryd.underlying9 (by kernel_rfl) (by kernel_rfl)
    exact ⟨a, by simpa using World.var?_cell gLong hv 0⟩

/-- A world for the witness: the listed variables hold what their text lays. -/
noncomputable def low : Nat := (World.holding Tryd.prog default ⟨#[], #[], []⟩).heap.size
noncomputable def put (h : Array Obj) (g : Nat) (cs : Array Value) : Array Obj := h.modify g fun
  | .cells _ t frozen => .cells cs t frozen
  | o => o
noncomputable def laidWorld (os : Os) : World :=
  { World.holding Tryd.prog os ⟨#[.cells #[.string ⟨#[116, 104, 101, 32, 116, 101, 120, 116, 32, 105, 115, 32, 116, 111, 111, 32, 108, 111, 110, 103]⟩] 168], #[], []⟩ with
    heap := put (put (put (put (World.holding Tryd.prog os ⟨#[.cells #[.string ⟨#[116, 104, 101, 32, 116, 101, 120, 116, 32, 105, 115, 32, 116, 111, 111, 32, 108, 111, 110, 103]⟩] 168], #[], []⟩).heap
      0 #[.iface 147 (.pointer (some ⟨low, 0, none⟩))])
      1 #[.iface 120 (.agg #[.pointer (some ⟨5, 38, none⟩)])])
      2 (Lib.firstTab.map fun z => Value.int .u8 z).toArray)
      3 ((List.range 16).flatMap fun i => [Value.int .u8 (Lib.accLo i), Value.int .u8 (Lib.accHi i)]).toArray }
theorem laid_met (os : Os) (args : Array Value) : laidMetH Tryd.prog laidAll ((laidWorld os).forCall (fun _ _ => 0) ⟨#[], args, []⟩).memory :=
  laidMetH_of_parts (LaidIn.of_run (l := laidPlain) [0, 2, 3, low] 8 (by kernel_rfl) (by kernel_rfl) (by kernel_rfl) (by kernel_rfl)).met (by kernel_rfl)

end Go.Proofs.YtdakgnaojakldaaDoor.laws

namespace Go.Proofs.YtdakgnaojakldaaDoor.matching
open Go.ChangeShapes Go.WideShapes Go.ChangeAt Go.RowKit Go.Joins Go.Deep
open Go.ChangeMaps (open_string shut_string)

theorem laidOut : laidOutB Tryd.prog = true := by kernel_rfl
theorem cellsReq : Tryd.prog.cellsOf 24 = 4 := by kernel_rfl
theorem cellsMark : Tryd.prog.cellsOf 34 = 2 := by kernel_rfl
theorem cellsStr : Tryd.prog.cellsOf 9 = 1 := by kernel_rfl

set_option maxRecDepth 100000 in
theorem trodAll_below {H : Type} {enc : TypeId × Value → H} {P : Program} (hl : laidOutB P = true) {W W' : World} (hb : Below W.heap.size W W') :
    ∀ (ts : List TypeId) (vs : List Value) (ds : List (DataW H)) (ps : List MemPlace), (∀ t ∈ ts, P.readableRec t = true ∧ t < P.types.size) → DataW.TrodAll enc P W 0 (fun _ => true) true ts vs ds ps → (∀ x ∈ ps, x.block < W.heap.size) →
      DataW.TrodAll enc P W' 0 (fun b => decide (b < W.heap.size)) true ts vs ds ps := by
  intro ts
  induction ts with
  | nil =>
    intro vs ds ps _ h _
    obtain ⟨rfl, rfl, rfl⟩ := trodAll_nil h
    exact trodAll_mk0
  | cons t ts ih =>
    intro vs ds ps hr h hp
    obtain ⟨v, vs', d, ds', p, q, rfl, rfl, rfl, h1, h2⟩ := trodAll_cons h
    have r1 := hr t (List.mem_cons_self ..)
    exact trodAll_cons_mk (Below.trod hl r1.1 r1.2 h1 hb (fun x hx => hp x (List.mem_append_left _ hx))) (ih vs' ds' q (fun t ht => hr t (List.mem_cons_of_mem _ ht)) h2 (fun x hx => hp x (List.mem_append_right _ hx)))

theorem bulk_part {H : Type} {d : DataW H} {l : List (DataW H)} (h : d ∈ l) : Rows.uptoBulk d ≤ Rows.uptoBulkAll l := by
  induction l with
  | nil => cases h
  | cons x r ih =>
    simp only [Rows.uptoBulkAll]
    cases List.mem_cons.1 h with
    | inl e => subst e; omega
    | inr e => have := ih e; omega

theorem bulk_one {H : Type} (d : DataW H) : 1 ≤ Rows.uptoBulk d := by
  cases d with
  | lit l => cases l <;> simp [Rows.uptoBulk]
  | nil => simp [Rows.uptoBulk]
  | ptr d => simp [Rows.uptoBulk]
  | slice elems spare => simp [Rows.uptoBulk]
  | agg parts => simp [Rows.uptoBulk]
  | iface t d => simp [Rows.uptoBulk]
  | map entries => simp [Rows.uptoBulk]
  | held h => simp [Rows.uptoBulk]

theorem bulk_length {H : Type} (l : List (DataW H)) : l.length ≤ Rows.uptoBulkAll l := by
  induction l with
  | nil => simp [Rows.uptoBulkAll]
  | cons x r ih => have := bulk_one x; simp only [Rows.uptoBulkAll, List.length_cons]; omega

theorem bulk_string {H : Type} (s : ByteArray) : Rows.uptoBulk (DataW.lit (H := H) (.string s.data.toList)) = s.size + 1 := by
  simp [Rows.uptoBulk]

set_option maxRecDepth 100000 in
theorem contract (H : Type) (enc : TypeId × Value → H) (W : World) (base : Nat) (args : Array Value) (ds gs : List (DataW H)) (before : List MemPlace)
    (hval : ∀ (j : Nat) t v, Tryd.f3.params[j]? = some t → args[j]? = some v → Value.okWide Tryd.prog W .any base t v)
    (hW : DataW.Whole enc Tryd.prog Tryd.f3.params.toList Rows.matchingSpec.vars false W args.toList ds gs before) (hk : Rows.uptoSmall H (ds ++ gs) = true) (hE : Env W) :
    Calls Tryd.prog 3 args W fun e W' => ∃ v, e = .returned v ∧ Rows.matchingSpec.post enc Tryd.prog Tryd.f3 false true false false W args v W' := by
  have hW' := hW
  obtain ⟨p, q, hA0, hV, rfl, hfz, hnd⟩ := hW
  have hA : DataW.TrodAll enc Tryd.prog W 0 (fun _ => true) true Tryd.f3.params.toList args.toList ds p := hA0
  have hlt : ∀ x ∈ p, x.block < W.heap.size := fun x hx => by simpa using hW'.lt x (List.mem_append_left _ hx)
  obtain ⟨rfl, rfl⟩ := trodVars_none hV
  have hkeep : ∀ W', Below W.heap.size W W' → DataW.TrodAll enc Tryd.prog W' 0 (fun b => decide (b < W.heap.size)) true Tryd.f3.params.toList args.toList ds p := fun W' hb =>
    trodAll_below laidOut hb _ _ _ _ (by rw [Tryd.params3]; decide +kernel) hA hlt
  rw [Tryd.params3] at hA hval
  obtain ⟨v0, v1, v2, d0, d1, d2, p0, p1, p2, rfl, rfl, rfl, h0, h1, h2⟩ := trodAll_three hA
  have hfin : ∀ (e : Ending) (W' : World), e = .returned (.bool true) ∧ Below W.heap.size W W' →
      ∃ v, e = .returned v ∧ Rows.matchingSpec.post enc Tryd.prog Tryd.f3 false true false false W #[v0, v1, v2] v W' := by
    rintro e W' ⟨rfl, hb⟩
    refine ⟨_, rfl, [d0, d1, d2], [], _, [], p0 ++ p1 ++ p2, [], hW', trodAll_mk1 (shut_bool Tryd.underlying4 true), ?_, rfl, hb.frame _, fun h => by cases h⟩
    exact hkeep W' hb
  obtain ⟨s0, rfl, rfl, rfl, hm0⟩ := open_string Tryd.underlying9 (hval 0 9 v0 rfl rfl) h0
  obtain ⟨s1, rfl, rfl, rfl, hm1⟩ := open_string Tryd.underlying9 (hval 1 9 v1 rfl rfl) h1
  obtain ⟨c0, c1, c2, c3, y0, y1, y2, y3, m, rfl, rfl, rfl, hy0, hy1, hy2, hy3⟩ := open_agg4 Tryd.underlying24 (by kernel_rfl) cellsReq (hval 2 24 v2 rfl rfl) h2
  obtain ⟨who, e0, rfl, z0⟩ := DataW.trod_string Tryd.underlying9 hy0
  obtain ⟨act, e1, rfl, z1⟩ := DataW.trod_string Tryd.underlying9 hy1
  obtain ⟨on, e2, rfl, z2⟩ := DataW.trod_string Tryd.underlying9 hy2
  simp only [List.cons.injEq, and_true] at e0 e1 e2
  subst e0 e1 e2
  have hblk : Rows.uptoBulkAll ([DataW.lit (H := H) (.string s0.data.toList), DataW.lit (.string s1.data.toList), DataW.agg [.lit (.string who.data.toList), .lit (.string act.data.toList), .lit (.string on.data.toList), y3.1]] ++ []) ≤ 1048576 := of_decide_eq_true hk
  simp only [List.append_nil, Rows.uptoBulkAll, Rows.uptoBulk] at hblk
  rw [Ref.len_data, Ref.len_data, Ref.len_data, Ref.len_data, Ref.len_data] at hblk
  rcases open_slice_pairs Tryd.underlying22 Tryd.underlying34 cellsMark rfl rfl cellsStr cellsStr hy3 with ⟨e3, rfl⟩ | ⟨a, len, cap, m2, n2, V0, V1, D0, D1, P0, P1, e3, _, hl, hmx, hmm, rfl, hcell⟩
  · simp only [List.cons.injEq, and_true] at e3
    subst e3
    refine (matching_nil s0 s1 who act on W ?_ hm0 (by omega) hE).mono hfin
    refine ⟨?_, ?_, ?_, ?_, ?_⟩
    · simp only; omega
    · simp only; omega
    · simp only; omega
    · simp
    · intro mm hmm; simp at hmm
  · simp only [List.cons.injEq, and_true] at e3
    subst e3
    have hml : m2 = cap := by rw [hmm]; rfl
    have hstr : ∀ i, i < len → ∃ x : ByteArray × ByteArray, V0 i = .string x.1 ∧ V1 i = .string x.2 ∧ D0 i = .lit (.string x.1.data.toList) ∧ D1 i = .lit (.string x.2.data.toList) := fun i hi => by
      obtain ⟨_, _, t0, t1⟩ := hcell i (by omega)
      obtain ⟨a0, e0, f0, _⟩ := DataW.trod_string Tryd.underlying9 t0
      obtain ⟨a1, e1, f1, _⟩ := DataW.trod_string Tryd.underlying9 t1
      simp only [List.cons.injEq, and_true] at e0 e1
      simp only [Prod.mk.injEq] at f0 f1
      exact ⟨(a0, a1), e0, e1, f0.1, f1.1⟩
    obtain ⟨F, hF⟩ := choose_lt hstr
    have hlen : ((List.range len).map F).length = len := by simp
    have hget : ∀ j (h : j < ((List.range len).map F).length), ((List.range len).map F)[j] = F j := fun j h => by simp
    have hbs := hblk
    simp only [Rows.uptoBulk] at hbs
    have hlb := bulk_length ((List.range len).map fun i => DataW.agg [D0 i, D1 i])
    rw [List.length_map, List.length_range] at hlb
    have hcells : ∀ j, (h : j < ((List.range len).map F).length) → W.cell? (a.add (j * 2)) = some (.string ((List.range len).map F)[j].1) ∧ W.cell? (a.add (j * 2 + 1)) = some (.string ((List.range len).map F)[j].2) := fun j h => by
      rw [hget j h]
      have hj : j < len := by rw [hlen] at h; exact h
      obtain ⟨c0, c1, _, _⟩ := hcell j (by omega)
      obtain ⟨g0, g1, _, _⟩ := hF j hj
      rw [g0] at c0
      rw [g1] at c1
      exact ⟨c0, c1⟩
    have hmatch := matching_some s0 s1 who act on ((List.range len).map F) a cap W ?_ hm0 (by omega) (by rw [hlen]; omega) hE hcells
    · rw [hlen] at hmatch
      exact hmatch.mono hfin
    refine ⟨?_, ?_, ?_, ?_, ?_⟩
    · simp only; omega
    · simp only; omega
    · simp only; omega
    · simp only; rw [hlen]; omega
    · intro mm hmm
      obtain ⟨i, hi, rfl⟩ := List.mem_map.1 hmm
      have hil : i < len := List.mem_range.1 hi
      obtain ⟨_, _, d0, d1⟩ := hF i hil
      have hp := bulk_part (H := H) (d := .agg [D0 i, D1 i]) (l := (List.range len).map fun i => DataW.agg [D0 i, D1 i]) (List.mem_map.2 ⟨i, hi, rfl⟩)
      rw [d0, d1] at hp
      simp only [Rows.uptoBulk, Rows.uptoBulkAll] at hp
      rw [Ref.len_data, Ref.len_data] at hp
      constructor <;> omega

def wArgs : Array Value := #[.string .empty, .string .empty, .agg #[.string .empty, .string .empty, .string .empty, .slice none 0 0]]

theorem reads (os : Os) {H : Type} (enc : TypeId × Value → H) : ∃ places, DataW.whole enc Tryd.prog ((laws.laidWorld os).forCall (fun _ _ => 0) ⟨#[], wArgs, []⟩).memory Tryd.f3.params.toList Rows.matchingSpec.vars false wArgs.toList 8
    = some ([.lit (.string []), .lit (.string []), .agg [.lit (.string []), .lit (.string []), .lit (.string []), .nil]], [], places) := by
  have hw : (DataW.whole enc Tryd.prog ((laws.laidWorld os).forCall (fun _ _ => 0) ⟨#[], wArgs, []⟩).memory Tryd.f3.params.toList Rows.matchingSpec.vars false wArgs.toList 8).map (fun x => (x.1, x.2.1)) =
      some ([.lit (.string []), .lit (.string []), .agg [.lit (.string []), .lit (.string []), .lit (.string []), .nil]], []) := by kernel_rfl
  obtain ⟨⟨x1, x2, x3⟩, hx, hx1⟩ := Option.map_eq_some_iff.1 hw
  simp only [Prod.mk.injEq] at hx1
  obtain ⟨rfl, rfl⟩ := hx1
  exact ⟨x3, hx⟩

set_option maxRecDepth 100000 in
theorem lifted (os : Os) (started : os.Started) (H : Type) (enc : TypeId × Value → H) (F : Stop.Interp) :
    ReturnsInHanded {} Tryd.checked os 3 .any ((Rows.OpenSpec.upto Rows.matchingSpec).preRow enc Tryd.prog Tryd.f3 Rows.matchingUptoRow.domain false Rows.matchingUptoRow.laid) (((Rows.OpenSpec.upto Rows.matchingSpec).at F).post enc Tryd.prog Tryd.f3 false true false false) := by
  obtain ⟨places, hx⟩ := reads os enc
  refine returnsInHanded_of_row (C := Tryd.checked) (s := Rows.OpenSpec.upto Rows.matchingSpec) laws.own started (by kernel_rfl) Tryd.func3
    (witness_row_atRef (enc := enc) (C := Tryd.checked) false (laws.laidWorld os) wArgs rfl (by kernel_rfl) (by kernel_rfl) (by kernel_rfl)
      (OpenSpec.preRow_of_cond 8 hx (by kernel_rfl) (fun k hk => by cases hk; kernel_rfl) (by kernel_rfl) (laws.laid_met os _))) ?_
  intro W base args ds gs before hval hW _ hcond _ hL hsh _
  exact contract H enc W base args ds gs before hval hW (hcond _ rfl) (laws.env_of_laid hL hsh)

theorem said : Rows.MatchingUptoSaid :=
  OpenClaim.holds_of_cond 3 Tryd.f3 rfl rfl rfl rfl rfl rfl rfl ⟨rfl, rfl, rfl, rfl, rfl⟩ rfl rfl rfl rfl rfl (by kernel_rfl) Tryd.func3 (by kernel_rfl)
    (of_decide_eq_true (by kernel_rfl)) (by unfold Func.isWrapper; first | (rw [if_pos (by decide +kernel)]; kernel_rfl) | (rw [if_neg (by decide +kernel)]; exact ⟨rfl, rfl⟩))
    (fun os started H enc _ F => by rw [OpenClaim.pre_eq_preRow]; exact lifted os started H enc F)

theorem plain (f : FuncId) (fn : Func) (hf : Tryd.pinned.checked.prog.funcNamed "warrant/warrantlaw.Matching" = some f) (hfn : Tryd.pinned.checked.prog.funcs[f]? = some fn) :
    true = Tryd.pinned.checked.prog.looks [] ∧ ∀ (j : Nat) t, fn.params[j]? = some t → Tryd.pinned.checked.prog.wantsStandIn t = false := by
  obtain rfl : f = 3 := Option.some.inj ((show Tryd.prog.funcNamed "warrant/warrantlaw.Matching" = some 3 by kernel_rfl).symm.trans hf) |>.symm
  obtain rfl : fn = Tryd.f3 := (Option.some.inj (Tryd.func3.symm.trans hfn)).symm
  refine ⟨by kernel_rfl, fun j t ht => ?_⟩
  rw [Tryd.params3] at ht
  have hm := Array.mem_of_getElem? ht
  simp at hm
  rcases hm with rfl | rfl
  · exact (show Tryd.prog.wantsStandIn 9 = false by kernel_rfl)
  · exact (show Tryd.prog.wantsStandIn 24 = false by kernel_rfl)

theorem card : Rows.MatchingUptoCardSaid :=
  Claim7.holds_tied_plain_at .later [] _ _ _ _ said (fun _ h => by cases h) (by kernel_rfl) (fun _ h => by cases h) matchingUpto_row_tie rfl ⟨rfl, rfl⟩ (by kernel_rfl) rfl plain (by kernel_rfl)

end Go.Proofs.YtdakgnaojakldaaDoor.matching

namespace Go.Proofs.YtdakgnaojakldaaDoor
theorem matching_upto_holds : Rows.MatchingUptoCardSaid := matching.card
end Go.Proofs.YtdakgnaojakldaaDoor
