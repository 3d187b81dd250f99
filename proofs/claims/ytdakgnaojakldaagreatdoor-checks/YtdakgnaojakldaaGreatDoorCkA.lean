/- What the listed package-level variables give the walks of Check: tables of UTF-8, the type of errors, the error of length, the sequences, the table of operations; a world that holds them. -/
import Derived.Test.YtdakgnaojakldaaGreatDoorRows
import Derived.Test.YtdakgnaojakldaaGreatDoorJqI
import Derived.ProofKit
import Derived.OpenShut
import Derived.JoinedCond
import Derived.Lib.SmallJoins
import Derived.Deep.SlicePairs
import Derived.Deep.DeepHandedRow
import Derived.Deep.DeepWitnessRowRef
import Derived.Lib.LaidIn
import Derived.Lib.LaidU8T
import Derived.Stop.LaidErr
import Derived.LaidHandle
import Derived.LaidMore
import Derived.Shelf.Vars
namespace Go.Proofs.YtdakgnaojakldaaGreatDoor.laws
open Go.ChangeShapes Go.WideShapes Go.ChangeAt Go.RowKit Go.Joins Go.Deep

section
variable {H : Type} {enc : TypeId × Value → H} {P : Program} {w : World} {base : Nat} {sp : Nat → Bool} {held : Bool}

/-- A struct whose fields are one cell each: each cell with its reading. -/
theorem struct_cells {fuel : Nat} {t : TypeId} {fs : Array Field} {cs : List Value} {ds : List (DataW H)} {p : List MemPlace} (ht : P.underlying t = some (.struct fs))
    (hf : ∀ (i : Nat) (f : Field), fs[i]? = some f → f.offset = i ∧ P.cellsOf f.type = 1) (hct : P.cellsOf t = fs.size) (h : DataW.trod enc P w base sp held fuel t cs = some (.agg ds, p)) :
    cs.length = fs.size ∧ ∀ (i : Nat) (f : Field), fs[i]? = some f → ∃ v d q n, cs[i]? = some v ∧ ds[i]? = some d ∧ DataW.trod enc P w base sp held n f.type [v] = some (d, q) := by
  obtain ⟨xs, n, rfl, hx, hl, hxl, hall⟩ := DataW.trod_struct ht h
  have hds : ds = xs.map (·.1) := by
    have := congrArg Prod.fst hx
    simpa using this
  rw [hct] at hl
  refine ⟨hl, fun i f hi => ?_⟩
  have hlt : i < fs.size := (Array.getElem?_eq_some_iff.1 hi).1
  obtain ⟨ho, hc⟩ := hf i f hi
  have h1 := hall i f hi
  rw [ho, hc, List.getElem?_eq_getElem (by omega)] at h1
  have hcut : (cs.drop i).take 1 = [cs[i]'(by omega)] := by
    rw [List.drop_eq_getElem_cons (by omega)]; rfl
  rw [hcut] at h1
  exact ⟨cs[i]'(by omega), (xs[i]'(by omega)).1, (xs[i]'(by omega)).2, n, List.getElem?_eq_getElem (by omega), by rw [hds]; simp [List.getElem?_eq_getElem (show i < xs.length by omega)], h1⟩

theorem list_rows {α : Type} (c : Nat) : ∀ (n : Nat) (row : Nat → List α) (cs : List α), cs.length = n * c → (∀ i, i < n → (cs.drop (i * c)).take c = row i) → cs = (List.range n).flatMap row
  | 0, _, cs, hl, _ => by
    have : cs = [] := List.length_eq_zero_iff.1 (by simpa using hl)
    simp [this]
  | n + 1, row, cs, hl, h => by
    have hl2 : cs.length = n * c + c := by rw [hl, Nat.succ_mul]
    have e1 : cs.take (n * c) = (List.range n).flatMap row := by
      refine list_rows c n row _ (by rw [List.length_take]; omega) (fun i hi => ?_)
      have hle : i * c + c ≤ n * c := by rw [← Nat.succ_mul]; exact Nat.mul_le_mul_right c hi
      rw [← h i (by omega), List.drop_take, List.take_take]
      congr 1
      omega
    have e2 : cs.drop (n * c) = row n := by
      rw [← h n (by omega)]
      exact (List.take_of_length_le (by rw [List.length_drop]; omega)).symm
    rw [List.range_succ, List.flatMap_append, ← e1]
    have e3 : [n].flatMap row = cs.drop (n * c) := by rw [e2]; simp
    rw [e3, List.take_append_drop]

/-- An array, row by row. -/
theorem array_rows {fuel : Nat} {t e : TypeId} {n c : Nat} {cs : List Value} {ds : List (DataW H)} {p : List MemPlace} (ht : P.underlying t = some (.array n e)) (hc : P.cellsOf e = c) (hct : P.cellsOf t = n * c)
    (h : DataW.trod enc P w base sp held fuel t cs = some (.agg ds, p)) (row : Nat → List Value)
    (hr : ∀ (i : Nat) (d : DataW H) (xs : List Value) (fuel' : Nat) (q : List MemPlace), i < n → ds[i]? = some d → DataW.trod enc P w base sp held fuel' e xs = some (d, q) → xs = row i) : cs = (List.range n).flatMap row := by
  have hlen : cs.length = n * c := by
    cases fuel with
    | zero => simp [DataW.trod] at h
    | succ fuel =>
      simp only [DataW.trod, ht] at h
      split at h
      · rename_i hl; rw [hl, hct]
      · cases h
  refine list_rows c n row cs hlen (fun i hi => ?_)
  obtain ⟨fuel', d, q, hd, he⟩ := Lib.array_elem ht h i hi
  rw [hc] at he
  exact hr i d _ fuel' q hi hd he
/-- A struct of integers, of one cell each, that reads as these numbers. -/
theorem ints_mixed {fuel : Nat} {t : TypeId} {fs : Array Field} {cs : List Value} {kz : List (IntKind × Int)} {p : List MemPlace} (ht : P.underlying t = some (.struct fs))
    (hf : ∀ (i : Nat) (f : Field), fs[i]? = some f → f.offset = i ∧ P.cellsOf f.type = 1) (hk : ∀ (i : Nat) (f : Field), fs[i]? = some f → ∃ k z, kz[i]? = some (k, z) ∧ P.underlying f.type = some (.int k)) (hct : P.cellsOf t = fs.size) (hkl : kz.length = fs.size)
    (h : DataW.trod enc P w base sp held fuel t cs = some (.agg (kz.map fun x => .lit (.int x.1 x.2)), p)) : cs = kz.map fun x => Value.int x.1 x.2 := by
  obtain ⟨hl, hall⟩ := struct_cells ht hf hct h
  apply List.ext_getElem?
  intro i
  by_cases hi : i < fs.size
  · obtain ⟨v, d, q, n, hv, hd, ht2⟩ := hall i fs[i] (by simp [hi])
    obtain ⟨k, z, hkz, hu⟩ := hk i fs[i] (by simp [hi])
    obtain ⟨z', hcz, hx, _⟩ := DataW.trod_int hu ht2
    have hvz : v = .int k z' := by simpa using hcz
    have hdz : d = .lit (.int k z') := by
      have := congrArg Prod.fst hx
      simpa using this
    rw [List.getElem?_map, hkz] at hd
    simp only [Option.map_some, Option.some.injEq] at hd
    rw [hdz] at hd
    injection hd with hd
    injection hd with _ hd
    rw [hv, List.getElem?_map, hkz, hvz, ← hd]
    rfl
  · rw [List.getElem?_eq_none (by omega), List.getElem?_eq_none (by simp; omega)]
end

theorem var_block {P : Program} {w : World} {n : String} {g : Nat} {cs : Array Value} (hg : P.globalNamed n = some g) (h : w.var? P n = some cs) : ∃ t fr, w.heap[g]? = some (.cells cs t fr) := by
  unfold World.var? at h
  rw [hg] at h
  simp only [Option.bind_some] at h
  split at h
  · rename_i cs' t fr e
    injection h with h
    subst h
    exact ⟨t, fr, e⟩
  · cases h

def seqRow : Nat → List (IntKind × Int)
  | 0 => [(.u8, 194), (.u8, 223), (.i64, 1), (.u8, 128), (.u8, 191)]
  | 1 => [(.u8, 224), (.u8, 224), (.i64, 2), (.u8, 160), (.u8, 191)]
  | 2 => [(.u8, 225), (.u8, 236), (.i64, 2), (.u8, 128), (.u8, 191)]
  | 3 => [(.u8, 237), (.u8, 237), (.i64, 2), (.u8, 128), (.u8, 159)]
  | 4 => [(.u8, 238), (.u8, 239), (.i64, 2), (.u8, 128), (.u8, 191)]
  | 5 => [(.u8, 240), (.u8, 240), (.i64, 3), (.u8, 144), (.u8, 191)]
  | 6 => [(.u8, 241), (.u8, 243), (.i64, 3), (.u8, 128), (.u8, 191)]
  | _ => [(.u8, 244), (.u8, 244), (.i64, 3), (.u8, 128), (.u8, 143)]

def seqData : DataW Unit := .agg ((List.range 8).map fun i => .agg ((seqRow i).map fun x => .lit (.int x.1 x.2)))
theorem seqIs : (Rows.laid_warrant_texts_sequences : DataW Unit) = seqData := by kernel_rfl
theorem gSeq : Tryz.prog.globalNamed "warrant/texts.sequences" = some 5 := by kernel_rfl
theorem ySeq : (Tryz.prog.globals[(5 : Nat)]?).map (·.type) = some 400 := by kernel_rfl
theorem cSeq : Tryz.prog.cellsOf 400 = 8 * 5 := by kernel_rfl
theorem cSeqE : Tryz.prog.cellsOf 399 = 5 := by kernel_rfl

theorem seq_of_reads {W : World} (h : Lib.VarReads Tryz.prog W "warrant/texts.sequences" Rows.laid_warrant_texts_sequences) : SeqRow W := by
  obtain ⟨g, t, cs, fuel, p, hg, hty, hvar, hd⟩ := h
  obtain rfl := Option.some.inj (gSeq.symm.trans hg)
  obtain rfl := Option.some.inj (ySeq.symm.trans hty)
  rw [seqIs] at hd
  have hcs : cs.toList = (List.range 8).flatMap fun i => (seqRow i).map fun x => Value.int x.1 x.2 := by
    refine array_rows Tryz.underlying400 cSeqE cSeq hd _ (fun i d xs fuel' q hi hdi he => ?_)
    rw [List.getElem?_map, List.getElem?_range hi] at hdi
    simp only [Option.map_some, Option.some.injEq] at hdi
    subst hdi
    have hk : ∀ i, (seqRow i).map Prod.fst = [.u8, .u8, .i64, .u8, .u8] := by
      intro i
      unfold seqRow
      split <;> rfl
    refine ints_mixed Tryz.underlying399 ?_ ?_ (by rw [cSeqE]; rfl) (by have := congrArg List.length (hk i); simpa using this) he
    · intro j f hj
      match j, hj with
      | 0, hj => simp at hj; subst hj; exact ⟨rfl, by kernel_rfl⟩
      | 1, hj => simp at hj; subst hj; exact ⟨rfl, by kernel_rfl⟩
      | 2, hj => simp at hj; subst hj; exact ⟨rfl, by kernel_rfl⟩
      | 3, hj => simp at hj; subst hj; exact ⟨rfl, by kernel_rfl⟩
      | 4, hj => simp at hj; subst hj; exact ⟨rfl, by kernel_rfl⟩
      | j + 5, hj => simp at hj
    · intro j f hj
      have hkj := congrArg (fun l => l[j]?) (hk i)
      simp only [List.getElem?_map] at hkj
      match j, hj, hkj with
      | 0, hj, hkj =>
        obtain ⟨⟨k, z⟩, hz, rfl⟩ := Option.map_eq_some_iff.1 hkj
        simp at hj; subst hj; exact ⟨_, z, hz, by kernel_rfl⟩
      | 1, hj, hkj =>
        obtain ⟨⟨k, z⟩, hz, rfl⟩ := Option.map_eq_some_iff.1 hkj
        simp at hj; subst hj; exact ⟨_, z, hz, by kernel_rfl⟩
      | 2, hj, hkj =>
        obtain ⟨⟨k, z⟩, hz, rfl⟩ := Option.map_eq_some_iff.1 hkj
        simp at hj; subst hj; exact ⟨_, z, hz, by kernel_rfl⟩
      | 3, hj, hkj =>
        obtain ⟨⟨k, z⟩, hz, rfl⟩ := Option.map_eq_some_iff.1 hkj
        simp at hj; subst hj; exact ⟨_, z, hz, by kernel_rfl⟩
      | 4, hj, hkj =>
        obtain ⟨⟨k, z⟩, hz, rfl⟩ := Option.map_eq_some_iff.1 hkj
        simp at hj; subst hj; exact ⟨_, z, hz, by kernel_rfl⟩
      | j + 5, hj, _ => simp at hj
  obtain ⟨t, fr, hb⟩ := var_block gSeq hvar
  refine ⟨t, fr, ?_⟩
  have e : cs = seqCells.toArray := by
    rw [← Array.toList_inj, hcs]
    rfl
  rw [← e]
  exact hb

end Go.Proofs.YtdakgnaojakldaaGreatDoor.laws
