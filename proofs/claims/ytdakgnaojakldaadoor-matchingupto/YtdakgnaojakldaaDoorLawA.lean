/- Contract of the statements' own lent. -/
import Derived.Test.YtdakgnaojakldaaDoorRefJ
namespace Go.Proofs.YtdakgnaojakldaaDoor
open Go.RowKit

def markCells (ms : List (ByteArray × ByteArray)) : List Value := ms.flatMap fun m => [.string m.1, .string m.2]

theorem markCells_append (a b : List (ByteArray × ByteArray)) : markCells (a ++ b) = markCells a ++ markCells b := by simp [markCells]

theorem markCells_length (ms : List (ByteArray × ByteArray)) : (markCells ms).length = ms.length * 2 := by
  induction ms with
  | nil => rfl
  | cons m ms ih => rw [show markCells (m :: ms) = .string m.1 :: .string m.2 :: markCells ms by simp [markCells]]; simp [ih]; omega

theorem markCells_get (ms : List (ByteArray × ByteArray)) (j : Nat) (h : j < ms.length) : (markCells ms)[j * 2]? = some (.string ms[j].1) ∧ (markCells ms)[j * 2 + 1]? = some (.string ms[j].2) := by
  induction ms generalizing j with
  | nil => simp at h
  | cons p ps ih =>
    have e : markCells (p :: ps) = .string p.1 :: .string p.2 :: markCells ps := by simp [markCells]
    rw [e]
    cases j with
    | zero => simp
    | succ j =>
      have := ih j (by simpa using h)
      rw [show (j + 1) * 2 = (j * 2) + 1 + 1 by omega, show (j * 2) + 1 + 1 + 1 = (j * 2 + 1) + 1 + 1 by omega]
      simpa using this

theorem markCells_inv (ms : List (ByteArray × ByteArray)) (j : Nat) (u : Value) (h : (markCells ms)[j]? = some u) : ∃ k, ∃ hk : k < ms.length, (j = k * 2 ∧ u = .string ms[k].1) ∨ (j = k * 2 + 1 ∧ u = .string ms[k].2) := by
  have hl : j < ms.length * 2 := by
    rw [← markCells_length]; exact (List.getElem?_eq_some_iff.1 h).1
  refine ⟨j / 2, by omega, ?_⟩
  have hg := markCells_get ms (j / 2) (by omega)
  rcases Nat.mod_two_eq_zero_or_one j with e | e
  · left
    have ej : j / 2 * 2 = j := by omega
    rw [ej, h] at hg
    exact ⟨ej.symm, by simpa using hg.1⟩
  · right
    have ej : j / 2 * 2 + 1 = j := by omega
    rw [ej, h] at hg
    exact ⟨ej.symm, by simpa using hg.2⟩

def spare : ByteArray × ByteArray := (⟨#[115, 112, 97, 114, 101]⟩, ⟨#[]⟩)

theorem Tryd.infoMark : (Tryd.prog.info? 34).map (fun i => (i.zero, i.size, i.bytes)) = some (some (.agg #[.string ⟨#[]⟩, .string ⟨#[]⟩]), 2, 32) := by kernel_rfl

set_option maxHeartbeats 400000 in
set_option maxRecDepth 100000 in
theorem lent_nil (who act on : ByteArray) (w : World) :
    Calls Tryd.prog 5 #[.agg #[.string who, .string act, .string on, .slice none 0 0]] w fun e w' =>
      e = .returned (.agg #[.string who, .string act, .string on, .slice none 0 0]) ∧ Below w.heap.size w w' := by
  have q : ∀ (w : World) (a : Option Addr) (n c n' c' : Nat), (binOp .eql 22 (.slice a n c) (.slice none n' c')).run Tryd.prog w = .ok (.bool a.isNone) w := fun w a n c n' c' => Lib.run_eql_slice_nil w _ _ a n c n' c' Tryd.underlying22
  go_enter Tryd.func5, Tryd.ntmps5
  go_wp2
  exact bodyPost_ret (v := .agg #[.string who, .string act, .string on, .slice none 0 0]) (by simp [results, Tryd.results5, go_sem]) rfl ⟨rfl, ((Below.refl _ _).alloc (Nat.le_refl _) _).alloc (by simp) _⟩

theorem oneCell_marks (ms : List (ByteArray × ByteArray)) : ∀ u ∈ markCells ms, u.oneCell' = true := by
  intro u hu
  unfold markCells at hu
  rw [List.mem_flatMap] at hu
  obtain ⟨m, _, hm⟩ := hu
  simp at hm
  rcases hm with rfl | rfl <;> rfl

theorem marks_cells {w w' : World} {ad : Addr} {ms : List (ByteArray × ByteArray)} (hc : ∀ j, (h : j < ms.length) → w.cell? (ad.add (j * 2)) = some (.string ms[j].1) ∧ w.cell? (ad.add (j * 2 + 1)) = some (.string ms[j].2))
    (hb : Below w.heap.size w w') : ∀ j u, (markCells ms)[j]? = some u → w'.cell? (ad.add j) = some u := by
  intro j u h
  obtain ⟨k, hk, ⟨rfl, rfl⟩ | ⟨rfl, rfl⟩⟩ := markCells_inv ms j u h
  · exact cell_later hb (hc k hk).1
  · exact cell_later hb (hc k hk).2

set_option maxHeartbeats 1000000 in
set_option maxRecDepth 100000 in
theorem lent_some (who act on : ByteArray) (ms : List (ByteArray × ByteArray)) (ad : Addr) (cap : Nat) (w : World) (hn : ms.length ≤ 1000000000)
    (hc : ∀ j, (h : j < ms.length) → w.cell? (ad.add (j * 2)) = some (.string ms[j].1) ∧ w.cell? (ad.add (j * 2 + 1)) = some (.string ms[j].2)) :
    Calls Tryd.prog 5 #[.agg #[.string who, .string act, .string on, .slice (some ad) ms.length cap]] w fun e w' =>
      ∃ g c, e = .returned (.agg #[.string who, .string act, .string on, .slice (some ⟨g, 0, none⟩) ms.length c]) ∧ Below w.heap.size w w' ∧
        w'.ownsRow w.heap.size 34 2 (.slice (some ⟨g, 0, none⟩) (ms.length + 2) c) (ms.length + 2) (markCells (ms ++ [spare, spare])) := by
  obtain ⟨i0, hi, hz0, hz1, hz2⟩ := info_parts Tryd.infoMark
  have q : ∀ (w : World) (a : Option Addr) (n c n' c' : Nat), (binOp .eql 22 (.slice a n c) (.slice none n' c')).run Tryd.prog w = .ok (.bool a.isNone) w := fun w a n c n' c' => Lib.run_eql_slice_nil w _ _ a n c n' c' Tryd.underlying22
  have HC := hid hc
  clear hc
  go_enter Tryd.func5, Tryd.ntmps5
  go_wp2_with (at_builtin; refine wpList_append_own _ rfl (.tmp 8) (.tmp 10) 22 rfl (w.heap.size + 2) 34 i0 (.agg #[.string ⟨#[]⟩, .string ⟨#[]⟩]) 2 32 Tryd.underlying22 hi hz0 hz1 hz2 rfl (by decide) _ 0 [] rfl (World.ownsRow_nil _ _ _ _) ad ms.length cap (markCells ms) rfl (markCells_length ms) ?_ ?_ ?_ ?_ ?_ ?_)
  · exact marks_cells HC.out (((Below.refl _ w).alloc (Nat.le_refl _) _).alloc (by simp) _)
  · exact oneCell_marks ms
  · unfold maxLen; omega
  · omega
  · simp
  intro v1 w1 own1 grow1 _
  have bX := ((Below.refl _ w).alloc (Nat.le_refl _) (Obj.cells #[Value.string who, Value.string act, Value.string on, Value.slice (some ad) ms.length cap] 24)).alloc (by simp) (Obj.cells #[Value.string ⟨#[]⟩, Value.string ⟨#[]⟩, Value.string ⟨#[]⟩, Value.slice none 0 0] 24)
  have tb := two_blocks w (Obj.cells #[Value.string who, Value.string act, Value.string on, Value.slice (some ad) ms.length cap] 24) (Obj.cells #[Value.string ⟨#[]⟩, Value.string ⟨#[]⟩, Value.string ⟨#[]⟩, Value.slice none 0 0] 24)
  have g1 := (Below.refl (w.heap.size + 2) _).grown grow1 (by simp) (fun k hk => by cases hk)
  have h1a := (g1.block w.heap.size (by omega)).trans tb.1
  have h1b := (g1.block (w.heap.size + 1) (by omega)).trans tb.2
  have b1 : Below w.heap.size w w1 := bX.trans (g1.mono (by omega))
  have z1 : w.heap.size + 2 ≤ w1.heap.size := by have := g1.size; simp at this; omega
  have k3 := (cells_of_block h1a 3).1
  simp only [List.getElem?_toArray, List.getElem?_cons_succ, List.getElem?_cons_zero] at k3
  have HB1 := hid b1
  have H1A := hid h1a
  have H1B := hid h1b
  clear bX tb g1 h1a h1b grow1 b1
  go_wp2_with (at_builtin; refine wpList_append_own _ rfl (.tmp 12) (.tmp 15) 22 rfl (w.heap.size + 2) 34 i0 (.agg #[.string ⟨#[]⟩, .string ⟨#[]⟩]) 2 32 Tryd.underlying22 hi hz0 hz1 hz2 rfl (by decide) _ ms.length (markCells ms) rfl (own1.alloc _) ⟨w1.heap.size, 0, none⟩ 2 2 [.string spare.1, .string spare.2, .string spare.1, .string spare.2] rfl rfl ?_ ?_ ?_ ?_ ?_ ?_)
  · exact cell_four_new _ _ _ _ _ _
  · exact oneCell_marks [spare, spare]
  · unfold maxLen; omega
  · omega
  · simp; omega
  intro v2 w2 own2 grow2 _
  have g2 := ((Below.refl (w.heap.size + 2) w1).alloc z1 _).grown grow2 (by simp; omega) (fun k hk => (own1.lt k hk).1)
  have h2a := (g2.block w.heap.size (by omega)).trans H1A.out
  have h2b := (g2.block (w.heap.size + 1) (by omega)).trans H1B.out
  have b2 : Below w.heap.size w w2 := HB1.out.trans (g2.mono (by omega))
  have z2 := g2.size
  obtain ⟨g, c, rfl, hgb, hcc⟩ : ∃ g c, v2 = .slice (some ⟨g, 0, none⟩) (ms.length + 2) c ∧ w.heap.size + 2 ≤ g ∧ ms.length + 2 ≤ c := by
    rcases own2.2 with ⟨_, h⟩ | ⟨g, c, cur, hv, hg, _, hc, _⟩
    · omega
    · exact ⟨g, c, hv, hg, hc⟩
  have hown : Hid (w2.ownsRow (w.heap.size + 2) 34 2 (.slice (some ⟨g, 0, none⟩) (ms.length + 2) c) (ms.length + 2) (markCells (ms ++ [spare, spare]))) := by
    rw [markCells_append]; exact own2
  have a0 := (cells_of_block h2a 0).1
  have a1 := (cells_of_block h2a 1).1
  have a2 := (cells_of_block h2a 2).1
  have a3 := (cells_of_block h2a 3).1
  have f3 := (cells_of_block h2a 3).2
  have r0 := (cells_of_block h2b 0).1
  have r1 := (cells_of_block h2b 1).1
  have r2 := (cells_of_block h2b 2).1
  have r3 := (cells_of_block h2b 3).1
  have f0 := fun o => (cells_of_block h2b o).2
  simp only [List.getElem?_toArray, List.getElem?_cons_succ, List.getElem?_cons_zero] at a0 a1 a2 a3 r0 r1 r2 r3
  have HB2 := hid b2
  clear g2 h2a h2b grow2 own2 own1 H1A H1B HB1 k3 z1 b2
  go_wp2
  refine bodyPost_ret (v := .agg #[.string who, .string act, .string on, .slice (some ⟨g, 0, none⟩) ms.length c]) ?_ rfl ⟨g, c, rfl, ?_, ?_⟩
  · simp [results, Tryd.results5, go_sem, r0, r1, r2, r3]
  · exact ((((HB2.out.setCell (by simp) _).setCell (by simp) _).setCell (by simp) _).setCell (by simp) _).setCell (by simp) _
  · refine ownsRow_mono (base := w.heap.size + 2) ?_ (by omega)
    have ne0 : (Value.slice (some ⟨g, 0, none⟩) (ms.length + 2) c).ownBlock ≠ some w.heap.size := by simp [Value.ownBlock]; omega
    have ne1 : (Value.slice (some ⟨g, 0, none⟩) (ms.length + 2) c).ownBlock ≠ some (w.heap.size + 1) := by simp [Value.ownBlock]; omega
    exact ownsRow_setCell_other (ownsRow_setCell_other (ownsRow_setCell_other (ownsRow_setCell_other (ownsRow_setCell_other hown.out ne0 _) ne1 _) ne1 _) ne1 _) ne1 _

end Go.Proofs.YtdakgnaojakldaaDoor
