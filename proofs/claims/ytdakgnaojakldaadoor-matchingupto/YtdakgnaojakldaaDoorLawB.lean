/- Contract of the statements' own returned. -/
import Derived.Test.YtdakgnaojakldaaDoorLawA
namespace Go.Proofs.YtdakgnaojakldaaDoor
open Go.RowKit

set_option maxHeartbeats 400000 in
set_option maxRecDepth 100000 in
theorem returned_nil (x0 x1 x2 y0 y1 y2 : ByteArray) (w : World) :
    Calls Tryd.prog 8 #[.agg #[.string x0, .string x1, .string x2, .slice none 0 0], .agg #[.string y0, .string y1, .string y2, .slice none 0 0]] w fun e w' =>
      e = .returned (.bool true) ∧ Below w.heap.size w w' := by
  have q : ∀ (w : World) (a : Option Addr) (n c n' c' : Nat), (binOp .eql 22 (.slice a n c) (.slice none n' c')).run Tryd.prog w = .ok (.bool a.isNone) w := fun w a n c n' c' => Lib.run_eql_slice_nil w _ _ a n c n' c' Tryd.underlying22
  go_enter Tryd.func8, Tryd.ntmps8
  go_wp2
  go_ret
  exact ⟨rfl, ((Below.refl _ _).alloc (Nat.le_refl _) _).alloc (by simp) _⟩

theorem returned_round {w wr : World} {B g k n : Nat} {L : List (ByteArray × ByteArray)} {bv : Value} (hB : B ≤ g) (hgw : g < w.heap.size) (hb : Below B w wr) (hsz : w.heap.size + 2 ≤ wr.heap.size) (hbx : wr.cell? ⟨w.heap.size + 1, n, none⟩ = some bv)
    (hfz : ∀ o, wr.frozen? ⟨g, o, none⟩ = false) (hc : ∀ j, (h : j < L.length) → k ≤ j → wr.cell? ⟨g, j * 2, none⟩ = some (.string L[j].1) ∧ wr.cell? ⟨g, j * 2 + 1, none⟩ = some (.string L[j].2)) (x y : Value) (O : Obj) :
    Below B w (((wr.setCell ⟨g, k * 2, none⟩ x).setCell ⟨g, k * 2 + 1, none⟩ y).alloc O).drew ∧ w.heap.size + 2 ≤ (((wr.setCell ⟨g, k * 2, none⟩ x).setCell ⟨g, k * 2 + 1, none⟩ y).alloc O).drew.heap.size ∧
    (((wr.setCell ⟨g, k * 2, none⟩ x).setCell ⟨g, k * 2 + 1, none⟩ y).alloc O).drew.cell? ⟨w.heap.size + 1, n, none⟩ = some bv ∧ (∀ o, (((wr.setCell ⟨g, k * 2, none⟩ x).setCell ⟨g, k * 2 + 1, none⟩ y).alloc O).drew.frozen? ⟨g, o, none⟩ = false) ∧
    ∀ j, (h : j < L.length) → k + 1 ≤ j → (((wr.setCell ⟨g, k * 2, none⟩ x).setCell ⟨g, k * 2 + 1, none⟩ y).alloc O).drew.cell? ⟨g, j * 2, none⟩ = some (.string L[j].1) ∧ (((wr.setCell ⟨g, k * 2, none⟩ x).setCell ⟨g, k * 2 + 1, none⟩ y).alloc O).drew.cell? ⟨g, j * 2 + 1, none⟩ = some (.string L[j].2) := by
  have zz : ((wr.setCell ⟨g, k * 2, none⟩ x).setCell ⟨g, k * 2 + 1, none⟩ y).heap.size = wr.heap.size := by simp [World.setCell]
  have al : Below wr.heap.size ((wr.setCell ⟨g, k * 2, none⟩ x).setCell ⟨g, k * 2 + 1, none⟩ y) (((wr.setCell ⟨g, k * 2, none⟩ x).setCell ⟨g, k * 2 + 1, none⟩ y).alloc O).drew := ((Below.refl _ _).alloc (by omega) O).drew
  refine ⟨((((hb.setCell hB x).setCell hB y).trans (al.mono (by omega)))), by have := al.size; omega, ?_, fun o => ?_, fun j h hj => ⟨?_, ?_⟩⟩
  · rw [al.cell (p := ⟨w.heap.size + 1, n, none⟩) (by simp only; omega), cell_set_ne _ _ _ _ _ _ (by omega), cell_set_ne _ _ _ _ _ _ (by omega)]; exact hbx
  · rw [al.frozen (p := ⟨g, o, none⟩) (by simp only; omega), frozen_set, frozen_set]; exact hfz o
  · rw [al.cell (p := ⟨g, j * 2, none⟩) (by simp only; omega), cell_set_ne _ _ _ _ _ _ (by omega), cell_set_ne _ _ _ _ _ _ (by omega)]; exact (hc j h (by omega)).1
  · rw [al.cell (p := ⟨g, j * 2 + 1, none⟩) (by simp only; omega), cell_set_ne _ _ _ _ _ _ (by omega), cell_set_ne _ _ _ _ _ _ (by omega)]; exact (hc j h (by omega)).2

theorem addr_plain {w : World} {ad : Addr} {v : Value} (h : w.cell? (ad.add (0 * 2)) = some v) : ∃ b o, ad = ⟨b, o, none⟩ := by
  obtain ⟨b, o, sp⟩ := ad
  cases sp with
  | none => exact ⟨b, o, rfl⟩
  | some s =>
    exfalso
    unfold World.cell? Addr.add at h
    simp at h
    split at h <;> simp at h

set_option maxHeartbeats 1000000 in
set_option maxRecDepth 100000 in
theorem returned_some (x0 x1 x2 y0 y1 y2 : ByteArray) (ms : List (ByteArray × ByteArray)) (ad : Addr) (cap g c B base : Nat) (w : World) (hn : ms.length ≤ 1000000000) (hB : B ≤ g) (had : 0 < ms.length → ad.block < B)
    (hc : ∀ j, (h : j < ms.length) → w.cell? (ad.add (j * 2)) = some (.string ms[j].1) ∧ w.cell? (ad.add (j * 2 + 1)) = some (.string ms[j].2))
    (hown : w.ownsRow base 34 2 (.slice (some ⟨g, 0, none⟩) (ms.length + 2) c) (ms.length + 2) (markCells (ms ++ [spare, spare]))) :
    Calls Tryd.prog 8 #[.agg #[.string x0, .string x1, .string x2, .slice (some ⟨g, 0, none⟩) ms.length c], .agg #[.string y0, .string y1, .string y2, .slice (some ad) ms.length cap]] w fun e w' =>
      e = .returned (.bool true) ∧ Below B w w' := by
  have q : ∀ (w : World) (a : Option Addr) (n c n' c' : Nat), (binOp .eql 22 (.slice a n c) (.slice none n' c')).run Tryd.prog w = .ok (.bool a.isNone) w := fun w a n c n' c' => Lib.run_eql_slice_nil w _ _ a n c n' c' Tryd.underlying22
  have hgw : g < w.heap.size := (hown.lt g rfl).2
  have hcc : ms.length + 2 ≤ c := by
    rcases hown.2 with ⟨_, h⟩ | ⟨g', c', cur, hv, hg, _, hc, _⟩
    · omega
    · simp only [Value.slice.injEq] at hv; omega
  have hfz : ∀ o, w.frozen? ⟨g, o, none⟩ = false := fun o => hown.frozenAt o
  obtain ⟨L, hL⟩ : ∃ L, ms ++ [spare, spare] = L := ⟨_, rfl⟩
  have hLl : L.length = ms.length + 2 := by rw [← hL]; simp
  rw [hL] at hown
  have hfc : ∀ j, (h : j < L.length) → w.cell? ⟨g, j * 2, none⟩ = some (.string L[j].1) ∧ w.cell? ⟨g, j * 2 + 1, none⟩ = some (.string L[j].2) := fun j h => by
    have hg := markCells_get L j h
    exact ⟨(hown.cellAt _ (by omega)).trans hg.1, (hown.cellAt _ (by omega)).trans hg.2⟩
  have HC := hid hc
  have HFZ := hid hfz
  have HFC := hid hfc
  have HL := hid hL
  clear hc hfz hfc hL hown
  go_enter Tryd.func8, Tryd.ntmps8
  go_wp2
  go_loopw [6, 7] (fun okv iv wr => ∃ k : Nat, k ≤ L.length ∧ okv = .bool true ∧ iv = .int .i64 k ∧ Below B w wr ∧ w.heap.size + 2 ≤ wr.heap.size ∧ wr.cell? ⟨w.heap.size + 1, 3, none⟩ = some (.slice (some ad) ms.length cap) ∧
      (∀ o, wr.frozen? ⟨g, o, none⟩ = false) ∧ ∀ j, (h : j < L.length) → k ≤ j → wr.cell? ⟨g, j * 2, none⟩ = some (.string L[j].1) ∧ wr.cell? ⟨g, j * 2 + 1, none⟩ = some (.string L[j].2)) (fun _ iv _ => L.length - (intOf iv).toNat)
  case atStart =>
    have bb := fun a b => ((Below.refl _ w).alloc (Nat.le_refl _) a).alloc (by simp) b
    exact ⟨0, by omega, rfl, rfl, (bb _ _).mono (by omega), by simp, by simp, fun o => ((bb _ _).frozen (p := ⟨g, o, none⟩) hgw).trans (HFZ.out o), fun j h _ => ⟨cell_later (bb _ _) (HFC.out j h).1, cell_later (bb _ _) (HFC.out j h).2⟩⟩
  case round =>
    obtain ⟨k, hk, rfl, rfl, rbel, rsz, rbx, rfz, rc⟩ := hrel
    have RC := hid rc
    have RBEL := hid rbel
    clear rc rbel HFC HFZ
    by_cases hlt : k < L.length
    · obtain ⟨f1, f2⟩ := RC.out k hlt (Nat.le_refl _)
      obtain ⟨n1, hn1⟩ : ∃ n, L[k].1 = n := ⟨_, rfl⟩
      obtain ⟨v1, hv1⟩ : ∃ n, L[k].2 = n := ⟨_, rfl⟩
      rw [hn1] at f1; rw [hv1] at f2
      have f3 := fun O : Obj => cell_later ((Below.refl _ wr).alloc (Nat.le_refl _) O) f1
      have f4 := fun O : Obj => cell_later ((Below.refl _ wr).alloc (Nat.le_refl _) O) f2
      have bx2 := fun O : Obj => cell_later ((Below.refl _ wr).alloc (Nat.le_refl _) O) rbx
      have hgr : g < wr.heap.size := by omega
      have fz2 := fun (O : Obj) (o : Nat) => (((Below.refl _ wr).alloc (Nat.le_refl _) O).frozen (p := ⟨g, o, none⟩) hgr).trans (rfz o)
      by_cases hkm : k < ms.length
      · have hLk : L[k] = ms[k] := by simp only [← HL.out]; rw [List.getElem_append_left hkm]
        rw [hLk] at hn1 hv1
        have hcc1 := HC.out k hkm
        obtain ⟨b, o, rfl⟩ := addr_plain (HC.out 0 (by omega)).1
        rw [addr_add, addr_add, hn1, hv1] at hcc1
        have hbB : b < B := had (by omega)
        have d1 := (RBEL.out.cell (p := ⟨b, o + k * 2, none⟩) hbB).trans hcc1.1
        have d2 := (RBEL.out.cell (p := ⟨b, o + (k * 2 + 1), none⟩) hbB).trans hcc1.2
        rw [← Nat.add_assoc] at d2
        have d3 := fun O : Obj => cell_later ((Below.refl _ wr).alloc (Nat.le_refl _) O) d1
        have d4 := fun O : Obj => cell_later ((Below.refl _ wr).alloc (Nat.le_refl _) O) d2
        clear hn1 hv1 hcc1 d1 d2 hLk
        go_wp2
        go_region
        all_goals go_wp2
        have R := returned_round hB hgw RBEL.out rsz rbx rfz RC.out (.string ⟨#[111, 118, 101, 114]⟩) (.string ⟨#[119, 114, 105, 116, 116, 101, 110]⟩) (Obj.cells #[Value.string n1, Value.string v1] 34)
        exact ⟨⟨k + 1, by omega, rfl, by go_num, R⟩, by simp [intOf]; omega⟩
      · have hLk : L[k] = spare := by
          simp only [← HL.out]
          rw [List.getElem_append_right (by omega)]
          have hk2 : k - ms.length = 0 ∨ k - ms.length = 1 := by omega
          rcases hk2 with e | e <;> simp [e]
        rw [hLk] at hn1 hv1
        have e1 : n1 = ⟨#[115, 112, 97, 114, 101]⟩ := hn1.symm
        have e2 : v1 = ⟨#[]⟩ := hv1.symm
        subst e1
        subst e2
        clear hn1 hv1 hLk
        go_wp2
        go_region
        all_goals go_wp2
        have R := returned_round hB hgw RBEL.out rsz rbx rfz RC.out (.string ⟨#[111, 118, 101, 114]⟩) (.string ⟨#[119, 114, 105, 116, 116, 101, 110]⟩) (Obj.cells #[Value.string ⟨#[115, 112, 97, 114, 101]⟩, Value.string ⟨#[]⟩] 34)
        exact ⟨⟨k + 1, by omega, rfl, by go_num, R⟩, by simp [intOf]; omega⟩
    · go_wp2
      go_ret
      exact ⟨rfl, RBEL.out⟩

end Go.Proofs.YtdakgnaojakldaaDoor
