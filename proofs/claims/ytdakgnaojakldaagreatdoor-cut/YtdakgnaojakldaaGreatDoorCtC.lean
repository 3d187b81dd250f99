/- What an argument that is a list of raw statements gives: they lie in memory. -/
import Derived.Test.YtdakgnaojakldaaGreatDoorKpH
import Derived.Test.YtdakgnaojakldaaGreatDoorJxJ
namespace Go.Proofs.YtdakgnaojakldaaGreatDoor
open laws Go.ChangeShapes Go.WideShapes Go.ChangeAt Go.RowKit Go.Joins Go.Deep

theorem wf_i64 {n : Int} (h : (Lit.int .i64 n).wf = true) : I64 n := by
  have h2 : (decide (IntKind.min .i64 ≤ n) && decide (n ≤ IntKind.max .i64)) = true := h
  rw [Bool.and_eq_true, decide_eq_true_eq, decide_eq_true_eq] at h2
  exact h2

instance : Inhabited Kp.Rule := ⟨Kp.rule0⟩

section
variable {H : Type} {enc : TypeId × Value → H} {w : World} {spare : Nat → Bool} {held : Bool}

theorem plain_of_cell {w : World} {a : Addr} {v : Value} (h : w.cell? (a.add 0) = some v) : ∃ b o, a = ⟨b, o, none⟩ := by
  obtain ⟨b, o, s⟩ := a
  have h2 : w.cell? ⟨b, o, s⟩ = some v := h
  cases s with
  | none => exact ⟨b, o, rfl⟩
  | some x =>
    unfold World.cell? at h2
    split at h2
    · simp at h2
    · cases h2

theorem ints_open {fuel : Nat} {v : Value} {x : DataW H × List MemPlace} (h : DataW.trod enc Tryz.prog w 0 spare held fuel 30 [v] = some x) (hs : ∀ b, spare b = true) : ∃ l : List Int, l.length ≤ maxLen ∧ IntsIn w v l := by
  rcases open_ints Tryz.underlying30 Tryz.underlying3 (by kernel_rfl) h with ⟨e, _⟩ | ⟨a, len, cap, zs, e, _, hl, hmx, hzl, _, hcell, hwf⟩
  · simp only [List.cons.injEq, and_true] at e
    subst e
    exact ⟨[], by simp, intsIn_nil w⟩
  · simp only [List.cons.injEq, and_true] at e
    subst e
    rw [hs, if_pos rfl] at hzl
    refine ⟨zs.take len, by rw [List.length_take]; omega, some a, cap, by rw [List.length_take, Nat.min_eq_left (by omega)], fun k x hx => ?_⟩
    have hk : k < (zs.take len).length := (List.getElem?_eq_some_iff.1 hx).1
    rw [List.length_take] at hk
    have hxz : zs[k]? = some x := by rw [List.getElem?_take] at hx; split at hx; exact hx; cases hx
    have hxm : x ∈ zs := List.mem_of_getElem? hxz
    obtain ⟨b, o, rfl⟩ := plain_of_cell (hcell 0 (by omega))
    have hc := hcell k (by omega)
    rw [addr_add, List.getD_eq_getElem?_getD, hxz] at hc
    exact ⟨wf_i64 (hwf x hxm), b, o, rfl, hc⟩

set_option maxRecDepth 100000 in
theorem rule_open {fuel : Nat} {cs : List Value} {x : DataW H × List MemPlace} (h : DataW.trod enc Tryz.prog w 0 spare held fuel 66 cs = some x) (hs : ∀ b, spare b = true) :
    ∃ (r : Kp.Rule) (v1 v2 v3 : Value), cs = [.bool r.deny, v1, v2, v3, .int .i64 r.nt, .int .i64 r.iff, .int .i64 r.key, .int .i64 r.val, .bool r.no, .int .i64 r.style] ∧ RuleFits r ∧ r.who.length ≤ maxLen ∧ r.act.length ≤ maxLen ∧ r.on.length ≤ maxLen ∧ IntsIn w v1 r.who ∧ IntsIn w v2 r.act ∧ IntsIn w v3 r.on := by
  obtain ⟨xs, n, _, rfl, _, _, _⟩ := DataW.trod_struct Tryz.underlying66 h
  have c3 : Tryz.prog.cellsOf 3 = 1 := by kernel_rfl
  have c4 : Tryz.prog.cellsOf 4 = 1 := by kernel_rfl
  have c30 : Tryz.prog.cellsOf 30 = 1 := by kernel_rfl
  obtain ⟨hl, hall⟩ := struct_cells Tryz.underlying66 (fun j f hj => by
    match j, hj with
    | 0, hj => simp at hj; subst hj; exact ⟨rfl, c4⟩
    | 1, hj => simp at hj; subst hj; exact ⟨rfl, c30⟩
    | 2, hj => simp at hj; subst hj; exact ⟨rfl, c30⟩
    | 3, hj => simp at hj; subst hj; exact ⟨rfl, c30⟩
    | 4, hj => simp at hj; subst hj; exact ⟨rfl, c3⟩
    | 5, hj => simp at hj; subst hj; exact ⟨rfl, c3⟩
    | 6, hj => simp at hj; subst hj; exact ⟨rfl, c3⟩
    | 7, hj => simp at hj; subst hj; exact ⟨rfl, c3⟩
    | 8, hj => simp at hj; subst hj; exact ⟨rfl, c4⟩
    | 9, hj => simp at hj; subst hj; exact ⟨rfl, c3⟩
    | j + 10, hj => simp at hj) (by kernel_rfl) h
  obtain ⟨v0, d0, p0, n0, hv0, _, g0⟩ := hall 0 _ rfl
  obtain ⟨v1, d1, p1, n1, hv1, _, g1⟩ := hall 1 _ rfl
  obtain ⟨v2, d2, p2, n2, hv2, _, g2⟩ := hall 2 _ rfl
  obtain ⟨v3, d3, p3, n3, hv3, _, g3⟩ := hall 3 _ rfl
  obtain ⟨v4, d4, p4, n4, hv4, _, g4⟩ := hall 4 _ rfl
  obtain ⟨v5, d5, p5, n5, hv5, _, g5⟩ := hall 5 _ rfl
  obtain ⟨v6, d6, p6, n6, hv6, _, g6⟩ := hall 6 _ rfl
  obtain ⟨v7, d7, p7, n7, hv7, _, g7⟩ := hall 7 _ rfl
  obtain ⟨v8, d8, p8, n8, hv8, _, g8⟩ := hall 8 _ rfl
  obtain ⟨v9, d9, p9, n9, hv9, _, g9⟩ := hall 9 _ rfl
  have hl10 : cs.length = 10 := hl
  match cs, hl10 with
  | [u0, u1, u2, u3, u4, u5, u6, u7, u8, u9], _ =>
    simp only [List.getElem?_cons_zero, List.getElem?_cons_succ, Option.some.injEq] at hv0 hv1 hv2 hv3 hv4 hv5 hv6 hv7 hv8 hv9
    subst hv0 hv1 hv2 hv3 hv4 hv5 hv6 hv7 hv8 hv9
    obtain ⟨b0, q0, _⟩ := DataW.trod_bool Tryz.underlying4 g0
    obtain ⟨l1, m1, i1⟩ := ints_open g1 hs
    obtain ⟨l2, m2, i2⟩ := ints_open g2 hs
    obtain ⟨l3, m3, i3⟩ := ints_open g3 hs
    obtain ⟨k4, q4, _, f4⟩ := DataW.trod_int Tryz.underlying3 g4
    obtain ⟨k5, q5, _, f5⟩ := DataW.trod_int Tryz.underlying3 g5
    obtain ⟨k6, q6, _, f6⟩ := DataW.trod_int Tryz.underlying3 g6
    obtain ⟨k7, q7, _, f7⟩ := DataW.trod_int Tryz.underlying3 g7
    obtain ⟨b8, q8, _⟩ := DataW.trod_bool Tryz.underlying4 g8
    obtain ⟨k9, q9, _, f9⟩ := DataW.trod_int Tryz.underlying3 g9
    simp only [List.cons.injEq, and_true] at q0 q4 q5 q6 q7 q8 q9
    subst q0 q4 q5 q6 q7 q8 q9
    exact ⟨⟨b0, l1, l2, l3, k4, k5, k6, k7, b8, k9⟩, u1, u2, u3, rfl, ⟨wf_i64 f4, wf_i64 f5, wf_i64 f6, wf_i64 f7, wf_i64 f9⟩, m1, m2, m3, i1, i2, i3⟩

theorem rules_open {fuel : Nat} {v : Value} {x : DataW H × List MemPlace} (h : DataW.trod enc Tryz.prog w 0 spare held fuel 32 [v] = some x) (hs : ∀ b, spare b = true) : ∃ l : List Kp.Rule, l.length ≤ maxLen ∧ RulesIn w v l := by
  have hc : Tryz.prog.cellsOf 66 = 10 := by kernel_rfl
  rcases open_slice Tryz.underlying32 h with ⟨e, _⟩ | ⟨a, len, cap, m, n, D, Pl, e, _, hl, hmx, hmm, _, hcell⟩
  · simp only [List.cons.injEq, and_true] at e
    subst e
    exact ⟨[], by simp, none, 0, rfl, fun k r hr => by simp at hr⟩
  · simp only [List.cons.injEq, and_true] at e
    subst e
    rw [hs, if_pos rfl] at hmm
    rw [hc] at hcell
    have each : ∀ i, i < len → ∃ r : Kp.Rule, RuleFits r ∧ r.who.length ≤ maxLen ∧ r.act.length ≤ maxLen ∧ r.on.length ≤ maxLen ∧
      ∃ gb o v1 v2 v3, some a = some ⟨gb, o, none⟩ ∧ (w.cell? ⟨gb, o + i * 10, none⟩ = some (.bool r.deny) ∧ w.cell? ⟨gb, o + i * 10 + 1, none⟩ = some v1 ∧ w.cell? ⟨gb, o + i * 10 + 2, none⟩ = some v2 ∧ w.cell? ⟨gb, o + i * 10 + 3, none⟩ = some v3 ∧
        w.cell? ⟨gb, o + i * 10 + 4, none⟩ = some (.int .i64 r.nt) ∧ w.cell? ⟨gb, o + i * 10 + 5, none⟩ = some (.int .i64 r.iff) ∧ w.cell? ⟨gb, o + i * 10 + 6, none⟩ = some (.int .i64 r.key) ∧ w.cell? ⟨gb, o + i * 10 + 7, none⟩ = some (.int .i64 r.val) ∧
        w.cell? ⟨gb, o + i * 10 + 8, none⟩ = some (.bool r.no) ∧ w.cell? ⟨gb, o + i * 10 + 9, none⟩ = some (.int .i64 r.style)) ∧ IntsIn w v1 r.who ∧ IntsIn w v2 r.act ∧ IntsIn w v3 r.on := by
      intro i hi
      have hpl : ∃ b o, a = ⟨b, o, none⟩ := by
        obtain ⟨cs0, h0, t0⟩ := hcell 0 (by omega)
        obtain ⟨_, hl0, hc0⟩ := World.cells?_some h0
        have := hc0 0 (by omega)
        rw [add_add, Nat.zero_mul, Nat.add_zero, List.getElem?_eq_getElem (by omega)] at this
        exact plain_of_cell this
      obtain ⟨gb, o, rfl⟩ := hpl
      obtain ⟨cs', h1, h2⟩ := hcell i (by omega)
      obtain ⟨r, v1, v2, v3, rfl, f, m1, m2, m3, i1, i2, i3⟩ := rule_open h2 hs
      obtain ⟨_, _, hcc⟩ := World.cells?_some h1
      have cell : ∀ j, j < 10 → w.cell? ⟨gb, o + i * 10 + j, none⟩ = [Value.bool r.deny, v1, v2, v3, .int .i64 r.nt, .int .i64 r.iff, .int .i64 r.key, .int .i64 r.val, .bool r.no, .int .i64 r.style][j]? := by
        intro j hj
        have := hcc j hj
        rw [add_add, addr_add, ← Nat.add_assoc] at this
        exact this
      exact ⟨r, f, m1, m2, m3, gb, o, v1, v2, v3, rfl, ⟨cell 0 (by omega), cell 1 (by omega), cell 2 (by omega), cell 3 (by omega), cell 4 (by omega), cell 5 (by omega), cell 6 (by omega), cell 7 (by omega), cell 8 (by omega), cell 9 (by omega)⟩, i1, i2, i3⟩
    obtain ⟨F, hF⟩ := choose_lt each
    refine ⟨(List.range len).map F, by rw [List.length_map, List.length_range]; omega, some a, cap, by rw [List.length_map, List.length_range], fun k r hr => ?_⟩
    have hk : k < len := by
      have := (List.getElem?_eq_some_iff.1 hr).1
      rw [List.length_map, List.length_range] at this
      exact this
    rw [List.getElem?_map, List.getElem?_range hk] at hr
    simp only [Option.map_some, Option.some.injEq] at hr
    subst hr
    exact hF k hk
end

end Go.Proofs.YtdakgnaojakldaaGreatDoor
