/- The statement Matching, walked. -/
import Derived.Test.YtdakgnaojakldaaDoorPgR
import Derived.Test.YtdakgnaojakldaaDoorLawB
namespace Go.Proofs.YtdakgnaojakldaaDoor
open Go.RowKit

theorem marksAt_own {w : World} {base : Nat} {e : TypeId} {g n c : Nat} {ms ext : List (ByteArray × ByteArray)} (h : w.ownsRow base e 2 (.slice (some ⟨g, 0, none⟩) n c) n (markCells (ms ++ ext))) : marksAt w (some ⟨g, 0, none⟩) ms := by
  refine .inr ⟨g, 0, rfl, fun j hj => ?_⟩
  have hcells := fun j u => h.cells (g := g) rfl j u
  have hp := markCells_get (ms ++ ext) j (by simp; omega)
  rw [List.getElem_append_left hj] at hp
  have a1 := hcells _ _ hp.1
  have a2 := hcells _ _ hp.2
  rw [addr_add0] at a1 a2
  exact ⟨by rw [Nat.zero_add]; exact a1, by rw [Nat.zero_add]; exact a2⟩

theorem marksAt_of {w : World} {ad : Addr} {ms : List (ByteArray × ByteArray)} (hc : ∀ j, (h : j < ms.length) → w.cell? (ad.add (j * 2)) = some (.string ms[j].1) ∧ w.cell? (ad.add (j * 2 + 1)) = some (.string ms[j].2)) : marksAt w (some ad) ms := by
  by_cases h0 : 0 < ms.length
  · obtain ⟨b, o, rfl⟩ := addr_plain (hc 0 h0).1
    refine .inr ⟨b, o, rfl, fun j hj => ?_⟩
    have := hc j hj
    rw [addr_add, addr_add] at this
    exact ⟨this.1, by rw [Nat.add_assoc]; exact this.2⟩
  · exact .inl (List.eq_nil_of_length_eq_zero (by omega))

set_option maxHeartbeats 400000 in
set_option maxRecDepth 100000 in
theorem matching_nil (pattern word who act on : ByteArray) (w : World) (hr : Ref.reqFits ⟨who, act, on, []⟩) (hp : pattern.size ≤ maxLen) (hw : word.size * 16 ≤ 140737488355328) (hE : Env w) :
    Calls Tryd.prog 3 #[.string pattern, .string word, .agg #[.string who, .string act, .string on, .slice none 0 0]] w fun e w' => e = .returned (.bool true) ∧ Below w.heap.size w w' := by
  have HF := hid hr
  clear hr
  have hR : Ref.reqV ⟨who, act, on, []⟩ none 0 = .agg #[.string who, .string act, .string on, .slice none 0 0] := rfl
  have HR := hid hR
  have HQ := hid hR
  clear hR
  obtain ⟨⟨y, n⟩, hyn⟩ : ∃ p, Ref.matchesP pattern word ⟨who, act, on, []⟩ = p := ⟨_, rfl⟩
  have HYN := hid hyn
  clear hyn
  go_enter Tryd.func3, Tryd.ntmps3
  go_wp2_with fail
  refine (lent_nil who act on _).mono ?_
  rintro e w1 ⟨rfl, hb1⟩
  have b1 : Below w.heap.size w w1 := ((Below.refl _ w).alloc (Nat.le_refl _) _).trans (hb1.mono (by simp))
  have z1 : w.heap.size + 1 ≤ w1.heap.size := by have := hb1.size; simpa using this
  have x0 : w1.cell? ⟨w.heap.size, 0, none⟩ = some (.string who) := cell_later hb1 (by simp)
  have x1 : w1.cell? ⟨w.heap.size, 1, none⟩ = some (.string act) := cell_later hb1 (by simp)
  have x2 : w1.cell? ⟨w.heap.size, 2, none⟩ = some (.string on) := cell_later hb1 (by simp)
  have x3 : w1.cell? ⟨w.heap.size, 3, none⟩ = some (.slice none 0 0) := cell_later hb1 (by simp)
  clear hb1
  go_wp2_with fail
  rw [← HQ.out]
  refine (progMatches pattern word ⟨who, act, on, []⟩ none 0 _ (.inl rfl) HF.out hp hw (hE.below (b1.alloc b1.size _))).mono ?_
  rw [HYN.out, HQ.out]
  rintro e w2 ⟨rfl, hb2⟩
  have bq := (Below.refl w1.heap.size w1).alloc (Nat.le_refl _) (Obj.cells #[.string who, .string act, .string on, .slice none 0 0] 24)
  have hb2' := bq.trans (hb2.mono (by simp))
  have b2 : Below w.heap.size w w2 := b1.trans (hb2'.mono (by omega))
  have z2 : w1.heap.size + 1 ≤ w2.heap.size := by have := hb2.size; simpa using this
  have u0 : w2.cell? ⟨w.heap.size, 0, none⟩ = some (.string who) := cell_later hb2' x0
  have u1 : w2.cell? ⟨w.heap.size, 1, none⟩ = some (.string act) := cell_later hb2' x1
  have u2 : w2.cell? ⟨w.heap.size, 2, none⟩ = some (.string on) := cell_later hb2' x2
  have u3 : w2.cell? ⟨w.heap.size, 3, none⟩ = some (.slice none 0 0) := cell_later hb2' x3
  have v0 : w2.cell? ⟨w1.heap.size, 0, none⟩ = some (.string who) := cell_later hb2 (by simp)
  have v1 : w2.cell? ⟨w1.heap.size, 1, none⟩ = some (.string act) := cell_later hb2 (by simp)
  have v2 : w2.cell? ⟨w1.heap.size, 2, none⟩ = some (.string on) := cell_later hb2 (by simp)
  have v3 : w2.cell? ⟨w1.heap.size, 3, none⟩ = some (.slice none 0 0) := cell_later hb2 (by simp)
  clear hb2 hb2' bq x0 x1 x2 x3
  go_wp2_with fail
  rw [← HR.out]
  refine (matches_any pattern word ⟨who, act, on, []⟩ none 0 _ (.inl rfl) HF.out hp hw).mono ?_
  rw [HYN.out, HR.out]
  rintro e w3 ⟨rfl, hb3⟩
  have b3 : Below w.heap.size w w3 := b2.trans (hb3.mono b2.size)
  have t0 := cell_later hb3 u0
  have t1 := cell_later hb3 u1
  have t2 := cell_later hb3 u2
  have t3 := cell_later hb3 u3
  have s0 := cell_later hb3 v0
  have s1 := cell_later hb3 v1
  have s2 := cell_later hb3 v2
  have s3 := cell_later hb3 v3
  clear hb3 u0 u1 u2 u3 v0 v1 v2 v3
  go_wp2_with fail
  refine (returned_nil who act on who act on _).mono ?_
  rintro e w4 ⟨rfl, hb4⟩
  have b4 : Below w.heap.size w w4 := b3.trans (hb4.mono b3.size)
  clear hb4 t0 t1 t2 t3 s0 s1 s2 s3
  go_wp2
  go_ret
  exact ⟨rfl, b4⟩

set_option maxHeartbeats 1000000 in
set_option maxRecDepth 100000 in
theorem matching_some (pattern word who act on : ByteArray) (ms : List (ByteArray × ByteArray)) (ad : Addr) (cap : Nat) (w : World) (hr : Ref.reqFits ⟨who, act, on, ms⟩) (hp : pattern.size ≤ maxLen) (hw : word.size * 16 ≤ 140737488355328) (hn : ms.length ≤ 1000000000) (hE : Env w)
    (hc : ∀ j, (h : j < ms.length) → w.cell? (ad.add (j * 2)) = some (.string ms[j].1) ∧ w.cell? (ad.add (j * 2 + 1)) = some (.string ms[j].2)) :
    Calls Tryd.prog 3 #[.string pattern, .string word, .agg #[.string who, .string act, .string on, .slice (some ad) ms.length cap]] w fun e w' => e = .returned (.bool true) ∧ Below w.heap.size w w' := by
  have HF := hid hr
  have hR : Ref.reqV ⟨who, act, on, ms⟩ (some ad) cap = .agg #[.string who, .string act, .string on, .slice (some ad) ms.length cap] := rfl
  have HR := hid hR
  have HC := hid hc
  have had : Hid (0 < ms.length → ad.block < w.heap.size) := fun h0 => by
    obtain ⟨b, o, rfl⟩ := addr_plain (hc 0 h0).1
    have := (hc 0 h0).1
    rw [addr_add] at this
    exact World.block_lt_of_cell? _ _ this
  clear hR hr hc
  obtain ⟨⟨y, n⟩, hyn⟩ : ∃ p, Ref.matchesP pattern word ⟨who, act, on, ms⟩ = p := ⟨_, rfl⟩
  have HYN := hid hyn
  clear hyn
  go_enter Tryd.func3, Tryd.ntmps3
  go_wp2_with fail
  have bw := (Below.refl w.heap.size w).alloc (Nat.le_refl _) (Obj.cells #[.string who, .string act, .string on, .slice (some ad) ms.length cap] 24)
  refine (lent_some who act on ms ad cap _ hn (fun j h => ⟨cell_later bw (HC.out j h).1, cell_later bw (HC.out j h).2⟩)).mono ?_
  rintro e w1 ⟨g, c, rfl, hb1, hown1⟩
  have b1 : Below w.heap.size w w1 := bw.trans (hb1.mono (by simp))
  have z1 : w.heap.size + 1 ≤ w1.heap.size := by have := hb1.size; simpa using this
  have hQ : Ref.reqV ⟨who, act, on, ms⟩ (some ⟨g, 0, none⟩) c = .agg #[.string who, .string act, .string on, .slice (some ⟨g, 0, none⟩) ms.length c] := rfl
  have HQ := hid hQ
  have OWN1 := hid hown1
  have hgB : w.heap.size ≤ g := by have := (hown1.lt g rfl).1; simp at this; omega
  clear hQ hown1
  have x0 : w1.cell? ⟨w.heap.size, 0, none⟩ = some (.string who) := cell_later hb1 (by simp)
  have x1 : w1.cell? ⟨w.heap.size, 1, none⟩ = some (.string act) := cell_later hb1 (by simp)
  have x2 : w1.cell? ⟨w.heap.size, 2, none⟩ = some (.string on) := cell_later hb1 (by simp)
  have x3 : w1.cell? ⟨w.heap.size, 3, none⟩ = some (.slice (some ad) ms.length cap) := cell_later hb1 (by simp)
  clear hb1
  go_wp2_with fail
  rw [← HQ.out]
  refine (progMatches pattern word ⟨who, act, on, ms⟩ (some ⟨g, 0, none⟩) c _ (marksAt_own (OWN1.out.alloc _)) HF.out hp hw (hE.below (b1.alloc b1.size _))).mono ?_
  rw [HYN.out, HQ.out]
  rintro e w2 ⟨rfl, hb2⟩
  have bq := (Below.refl w1.heap.size w1).alloc (Nat.le_refl _) (Obj.cells #[.string who, .string act, .string on, .slice (some ⟨g, 0, none⟩) ms.length c] 24)
  have hb2' := bq.trans (hb2.mono (by simp))
  have b2 : Below w.heap.size w w2 := b1.trans (hb2'.mono (by omega))
  have z2 : w1.heap.size + 1 ≤ w2.heap.size := by have := hb2.size; simpa using this
  have u0 : w2.cell? ⟨w.heap.size, 0, none⟩ = some (.string who) := cell_later hb2' x0
  have u1 : w2.cell? ⟨w.heap.size, 1, none⟩ = some (.string act) := cell_later hb2' x1
  have u2 : w2.cell? ⟨w.heap.size, 2, none⟩ = some (.string on) := cell_later hb2' x2
  have u3 : w2.cell? ⟨w.heap.size, 3, none⟩ = some (.slice (some ad) ms.length cap) := cell_later hb2' x3
  have v0 : w2.cell? ⟨w1.heap.size, 0, none⟩ = some (.string who) := cell_later hb2 (by simp)
  have v1 : w2.cell? ⟨w1.heap.size, 1, none⟩ = some (.string act) := cell_later hb2 (by simp)
  have v2 : w2.cell? ⟨w1.heap.size, 2, none⟩ = some (.string on) := cell_later hb2 (by simp)
  have v3 : w2.cell? ⟨w1.heap.size, 3, none⟩ = some (.slice (some ⟨g, 0, none⟩) ms.length c) := cell_later hb2 (by simp)
  have OWN2 := hid (ownsRow_below OWN1.out hb2')
  clear OWN1
  clear hb2 hb2' bq x0 x1 x2 x3
  go_wp2_with fail
  rw [← HR.out]
  refine (matches_any pattern word ⟨who, act, on, ms⟩ (some ad) cap _ (marksAt_below (marksAt_of HC.out) b2) HF.out hp hw).mono ?_
  rw [HYN.out, HR.out]
  rintro e w3 ⟨rfl, hb3⟩
  have b3 : Below w.heap.size w w3 := b2.trans (hb3.mono b2.size)
  have t0 := cell_later hb3 u0
  have t1 := cell_later hb3 u1
  have t2 := cell_later hb3 u2
  have t3 := cell_later hb3 u3
  have s0 := cell_later hb3 v0
  have s1 := cell_later hb3 v1
  have s2 := cell_later hb3 v2
  have s3 := cell_later hb3 v3
  have OWN3 := hid (ownsRow_below OWN2.out hb3)
  clear OWN2
  clear hb3 u0 u1 u2 u3 v0 v1 v2 v3
  go_wp2_with fail
  refine (returned_some who act on who act on ms ad cap g c w.heap.size _ _ hn hgB had.out (fun j h => ⟨cell_later b3 (HC.out j h).1, cell_later b3 (HC.out j h).2⟩) OWN3.out).mono ?_
  rintro e w4 ⟨rfl, hb4⟩
  have b4 : Below w.heap.size w w4 := b3.trans hb4
  clear hb4 t0 t1 t2 t3 s0 s1 s2 s3
  go_wp2
  go_ret
  exact ⟨rfl, b4⟩

end Go.Proofs.YtdakgnaojakldaaDoor
