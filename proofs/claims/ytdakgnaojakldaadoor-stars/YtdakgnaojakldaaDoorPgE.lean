/- Contracts of the library's Cut at a brace, and of the program's readDollar. -/
import Derived.Test.YtdakgnaojakldaaDoorPgD
import Derived.Test.YtdakgnaojakldaaDoorPgMath2
import Derived.Test.YtdakgnaojakldaaDoorShelf
namespace Go.Proofs.YtdakgnaojakldaaDoor
open Go.RowKit

theorem below_drewN {B : Nat} {a w : World} (h : Below B a w) : ∀ q, Below B a (w.drewN q)
  | 0 => h
  | q + 1 => (below_drewN h q).drew

/-- The cell of the library's variable MaxLen holds some number. -/
def MaxAt (w : World) : Prop := ∃ m, w.cell? ⟨4, 0, none⟩ = some (.int .i64 m)

theorem MaxAt.below {w w' : World} (h : MaxAt w) (hb : Below w.heap.size w w') : MaxAt w' := by
  obtain ⟨m, hm⟩ := h
  exact ⟨m, cell_later hb hm⟩

theorem cut_any (u : ByteArray) (w : World) (hu : u.size ≤ 1000) (hm : MaxAt w) :
    Calls Tryd.prog 56 #[.string u, .string ⟨#[125]⟩] w fun e w' => (∃ X, e = .returned (.tuple #[.string (Pg.cutName u), .string X, .bool (Pg.cutHas u)])) ∧ Below w.heap.size w w' := by
  obtain ⟨m, hm⟩ := hm
  have c := Any.strings_Cut Tryd.lays145 u ⟨#[125]⟩ m w (by omega) hm
  obtain ⟨e1, e2⟩ := Pg.cut_brace u
  refine c.mono ?_
  rintro e w' ⟨rfl, n, rfl⟩
  refine ⟨⟨⟨(Lib.cut u.data.toList [125]).2.1.toArray⟩, ?_⟩, below_drewN (Below.refl _ _) n⟩
  rw [← e1, ← e2]

theorem ret_part {a1 a2 : Int} {b1 b2 : ByteArray} {c1 c2 : Int} (h1 : a1 = a2) (h2 : b1 = b2) (h3 : c1 = c2) :
    Ending.returned (.tuple #[.agg #[.int .i32 a1, .string b1], .int .i64 c1]) = .returned (.tuple #[.agg #[.int .i32 a2, .string b2], .int .i64 c2]) := by rw [h1, h2, h3]

set_option maxHeartbeats 400000 in
set_option maxRecDepth 100000 in
theorem readDollar_any (t : ByteArray) (w : World) (ht : t.size ≤ 100) (hm : MaxAt w) :
    Calls Tryd.prog 37 #[.string t] w fun e w' =>
      e = .returned (.tuple #[.agg #[.int .i32 (Pg.dolT t).1, .string (Pg.dolT t).2.1], .int .i64 ((Pg.dolT t).2.2 : Nat)]) ∧ Below w.heap.size w w' := by
  by_cases h0 : t.size = 0
  · have hd : Pg.dolT t = (0, ⟨#[]⟩, 0) := by unfold Pg.dolT; rw [if_pos h0]
    rw [hd]
    have ht0 : t = ⟨#[]⟩ := by
      have h := h0
      simp at h
      exact h
    subst ht0
    go_enter Tryd.func37, Tryd.ntmps37
    go_wp2
    exact bodyPost_ret (v := .tuple #[.agg #[.int .i32 0, .string ⟨#[]⟩], .int .i64 0]) (by simp [results, Tryd.results37, go_sem]) rfl ⟨rfl, (Below.refl _ _).alloc (Nat.le_refl _) _⟩
  have hne : (t.toList == ([] : List UInt8)) = false := by
    rw [Lib.toList_data]
    cases h : t.data.toList with
    | nil => exact absurd (by rw [Lib.size_eq, h]; rfl) h0
    | cons _ _ => rfl
  have hp : 0 < t.size := by omega
  obtain ⟨b, hb⟩ : ∃ b, (t[0]'hp) = b := ⟨_, rfl⟩
  have hg : t.data.toList.getD 0 0 = b := by rw [Ref.getD_at t 0 hp, hb]
  have hd : Pg.dolT t = Pg.dolT t := rfl
  conv at hd => rhs; unfold Pg.dolT
  rw [if_neg h0, hg] at hd
  have hblt := b.toNat_lt
  by_cases h3 : b.toNat = 36 ∨ b.toNat = 42 ∨ b.toNat = 63
  · rw [if_pos h3] at hd
    rw [hd]
    clear hd
    have hbi : (b.toNat : Int) = 36 ∨ (b.toNat : Int) = 42 ∨ (b.toNat : Int) = 63 := by omega
    clear h3
    rcases hbi with h | h | h
    all_goals
      go_enter Tryd.func37, Tryd.ntmps37
      go_wp2
      exact bodyPost_ret (v := .tuple #[.agg #[.int .i32 b.toNat, .string ⟨#[]⟩], .int .i64 2]) (by simp [results, Tryd.results37, go_sem, h]) rfl ⟨rfl, (Below.refl _ _).alloc (Nat.le_refl _) _⟩
  rw [if_neg h3] at hd
  have n1 : ((b.toNat : Int) == 36) = false := by rw [beq_eq_false_iff_ne]; omega
  have n2 : ((b.toNat : Int) == 42) = false := by rw [beq_eq_false_iff_ne]; omega
  have n3 : ((b.toNat : Int) == 63) = false := by rw [beq_eq_false_iff_ne]; omega
  clear h3
  by_cases h4 : b.toNat = 123
  · have n4 : (b.toNat : Int) = 123 := by omega
    rw [if_pos h4] at hd
    clear h4
    obtain ⟨u, hu⟩ : ∃ u, t.extract 1 t.size = u := ⟨_, rfl⟩
    rw [hu] at hd
    have hus : u.size ≤ 100 := by rw [← hu, ByteArray.size_extract]; omega
    have ht1 : (1 : Int) ≤ (t.size : Int) := by omega
    have c := fun O => cut_any u (w.alloc O) (by omega) (hm.below ((Below.refl _ w).alloc (Nat.le_refl _) O))
    cases hh : Pg.cutHas u with
    | false =>
      rw [hh, if_neg (by decide)] at hd
      rw [hh] at c
      rw [hd]
      clear hd hh
      go_enter Tryd.func37, Tryd.ntmps37
      go_wp2_with (go_at_call 56; refine (c _).mono ?_; rintro e w' ⟨⟨X, rfl⟩, hb'⟩; obtain ⟨bc, bf⟩ := bcell hb')
      have hz : w.heap.size < w'.heap.size := by have := hb'.size; simp at this; omega
      have bw : Below w.heap.size w w' := ((Below.refl _ w).alloc (Nat.le_refl _) _).trans (hb'.mono (by simp))
      exact bodyPost_ret (v := .tuple #[.agg #[.int .i32 0, .string ⟨#[]⟩], .int .i64 0]) (by simp [results, Tryd.results37, go_sem, bc]) rfl ⟨rfl, (bw.setCell (Nat.le_refl _) _).setCell (Nat.le_refl _) _⟩
    | true =>
      rw [hh, if_pos rfl] at hd
      rw [hh] at c
      obtain ⟨nm, hnm⟩ : ∃ nm, Pg.cutName u = nm := ⟨_, rfl⟩
      have hns : nm.size ≤ 100 := by
        rw [← hnm]; unfold Pg.cutName; rw [hh, if_pos rfl, ByteArray.size_extract]; omega
      rw [hnm] at hd c
      have cn := fun W => isNameP nm W (by unfold maxLen; omega)
      cases hi : Ref.isName nm with
      | true =>
        rw [hi, if_pos rfl] at hd
        rw [hi] at cn
        rw [hd]
        clear hd hh hi hnm
        go_enter Tryd.func37, Tryd.ntmps37
        go_wp2_with (first
          | (go_at_call 56; refine (c _).mono ?_; rintro e w' ⟨⟨X, rfl⟩, hb'⟩; obtain ⟨bc, bf⟩ := bcell hb'; have hz : w.heap.size < w'.heap.size := by (have := hb'.size; simp at this; omega))
          | (go_at_call 47; refine (cn _).mono ?_; rintro e w2 ⟨rfl, hb2⟩; obtain ⟨bc2, bf2⟩ := bcell hb2))
        have hz2 : w.heap.size < w2.heap.size := by have := hb2.size; omega
        have bw : Below w.heap.size w w' := ((Below.refl _ w).alloc (Nat.le_refl _) _).trans (hb'.mono (by simp))
        have bw2 : Below w.heap.size w w2 := bw.trans (hb2.mono bw.size)
        exact bodyPost_ret (v := .tuple #[.agg #[.int .i32 0, .string nm], .int .i64 (2 + nm.size + 1)]) (by simp [results, Tryd.results37, go_sem, bc, hz, bc2]) rfl ⟨ret_part rfl rfl (by simp), (bw2.setCell (Nat.le_refl _) _).setCell (Nat.le_refl _) _⟩
      | false =>
        rw [hi, if_neg (by decide)] at hd
        rw [hi] at cn
        rw [hd]
        clear hd hh hi hnm
        go_enter Tryd.func37, Tryd.ntmps37
        go_wp2_with (first
          | (go_at_call 56; refine (c _).mono ?_; rintro e w' ⟨⟨X, rfl⟩, hb'⟩; obtain ⟨bc, bf⟩ := bcell hb'; have hz : w.heap.size < w'.heap.size := by (have := hb'.size; simp at this; omega))
          | (go_at_call 47; refine (cn _).mono ?_; rintro e w2 ⟨rfl, hb2⟩; obtain ⟨bc2, bf2⟩ := bcell hb2))
        have hz2 : w.heap.size < w2.heap.size := by have := hb2.size; omega
        have bw : Below w.heap.size w w' := ((Below.refl _ w).alloc (Nat.le_refl _) _).trans (hb'.mono (by simp))
        have bw2 : Below w.heap.size w w2 := bw.trans (hb2.mono bw.size)
        exact bodyPost_ret (v := .tuple #[.agg #[.int .i32 0, .string ⟨#[]⟩], .int .i64 0]) (by simp [results, Tryd.results37, go_sem, bc, hz, bc2]) rfl ⟨rfl, (bw2.setCell (Nat.le_refl _) _).setCell (Nat.le_refl _) _⟩
  · have n4 : ((b.toNat : Int) == 123) = false := by rw [beq_eq_false_iff_ne]; omega
    rw [if_neg h4] at hd
    rw [hd]
    clear hd h4
    go_enter Tryd.func37, Tryd.ntmps37
    go_wp2
    exact bodyPost_ret (v := .tuple #[.agg #[.int .i32 0, .string ⟨#[]⟩], .int .i64 0]) (by simp [results, Tryd.results37, go_sem]) rfl ⟨rfl, (Below.refl _ _).alloc (Nat.le_refl _) _⟩

end Go.Proofs.YtdakgnaojakldaaDoor
