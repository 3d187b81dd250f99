/- Contract of the reference's statement: where it gives up at once. -/
import Derived.Test.YtdakgnaojakldaaGreatDoorDocO
namespace Go.Proofs.YtdakgnaojakldaaGreatDoor
open Go.RowKit

set_option maxHeartbeats 2000000 in
set_option maxRecDepth 100000 in
theorem statement_bad (i : Nat) (w0 : World) (base b gg cap : Nat) (ns : List Ref.Node) (n : Ref.Node) (w : World) (hE : DocEnv w0 base b gg cap ns w) (hi : ns[i]? = some n)
    (hbad : Ref.onlyN n [Rd.bEffect, Rd.bWho, Rd.bDo, Rd.bOn, Rd.bIf] = false ∨ Ref.hasN n Rd.bEffect < 0 ∨ Ref.kindOf ns (Ref.hasN n Rd.bEffect) ≠ 3) :
    Calls Tryz.prog 61 #[.pointer (some ⟨b, 0, none⟩), .int .i64 (i : Int)] w (StPost w Rd.noStmt) := by
  obtain ⟨⟨v1, v2⟩, ⟨na, nc, hv1⟩, ⟨ka, kc, hv2⟩, hcell, cH, cO⟩ := has_node hE hi
  simp only at hv1 hv2
  subst hv1
  subst hv2
  have hil : i < ns.length := (List.getElem?_eq_some_iff.1 hi).1
  have hsl := hE.at.slice
  have hlen := hE.rd.len
  have eB := Ref.hasN_lt hE.rd.ev hi Rd.bEffect
  obtain ⟨a1, a2, a3, a4⟩ := hcell w hE.bel
  simp only at a3 a4
  obtain ⟨nl, hnl⟩ : ∃ nl, ns.length = nl := ⟨_, rfl⟩
  have HNL := hid hnl
  rw [hnl] at hsl hil hlen eB
  unfold nodeV at cH cO
  simp only at cH cO
  obtain ⟨kind, hkind⟩ : ∃ k, n.kind = k := ⟨_, rfl⟩
  obtain ⟨text, htext⟩ : ∃ k, n.text = k := ⟨_, rfl⟩
  obtain ⟨nn, hnn⟩ : ∃ k, n.names.length = k := ⟨_, rfl⟩
  obtain ⟨nk, hnk⟩ : ∃ k, n.kids.length = k := ⟨_, rfl⟩
  rw [hkind] at a1
  rw [htext] at a2
  rw [hnn] at a3
  rw [hnk] at a4
  simp only [hkind, htext, hnn, hnk] at cH cO
  have ST := StAt.start w #[.int .i64 kind, .string text, .slice na nn nc, .slice ka nk kc]
  have bel0 : ∀ wx sc sh pt, StAt w #[.int .i64 kind, .string text, .slice na nn nc, .slice ka nk kc] sc sh pt wx → Below w0.heap.size w0 wx := fun wx _ _ _ h => hE.bel.trans (h.g.mono hE.bel.size)
  obtain ⟨EF, hEF⟩ : ∃ x, Ref.hasN n Rd.bEffect = x := ⟨_, rfl⟩
  obtain ⟨ON, hON⟩ : ∃ x, Ref.onlyN n [Rd.bEffect, Rd.bWho, Rd.bDo, Rd.bOn, Rd.bIf] = x := ⟨_, rfl⟩
  have cH1 := fun W h => cH W Rd.bEffect h
  simp only [hEF] at cH1
  unfold Rd.bEffect at cH1
  rw [hEF] at eB
  rw [hEF, hON] at hbad
  have ST1 := ST.below ((Below.refl _ _).alloc (Nat.le_refl _) (.cells #[.string Rd.bEffect, .string Rd.bWho, .string Rd.bDo, .string Rd.bOn, .string Rd.bIf] 9))
  have cO1 := cO _ [Rd.bEffect, Rd.bWho, Rd.bDo, Rd.bOn, Rd.bIf] _ 0 (bel0 _ _ _ _ ST1) (names5 (heap_alloc_new _ _) (Nat.zero_le _)) (by simp)
  rw [hON] at cO1
  simp only [World.size_alloc] at cO1
  unfold Rd.bEffect Rd.bWho Rd.bDo Rd.bOn Rd.bIf at cO1 ST1
  have HE := hid hE
  have BEL0 := hid bel0
  have i0 : (0 : Int) ≤ (i : Int) := Int.natCast_nonneg _
  have i1 : (i : Int) < (nl : Int) := by omega
  clear hE cH hcell hEF hON hkind htext hnn hnk bel0 cO hnl ST
  have s1 := fun O P : Obj => cell_later (((Below.refl _ w).alloc (Nat.le_refl _) O).alloc (by simp) P) hsl
  have b1 := fun O P : Obj => cell_later (((Below.refl _ w).alloc (Nat.le_refl _) O).alloc (by simp) P) a1
  have b2 := fun O P : Obj => cell_later (((Below.refl _ w).alloc (Nat.le_refl _) O).alloc (by simp) P) a2
  have b3 := fun O P : Obj => cell_later (((Below.refl _ w).alloc (Nat.le_refl _) O).alloc (by simp) P) a3
  have b4 := fun O P : Obj => cell_later (((Below.refl _ w).alloc (Nat.le_refl _) O).alloc (by simp) P) a4
  go_enter Tryz.func61, Tryz.ntmps61
  go_upto_region 6 with (first
    | (go_at_call 60; refine (cH1 w1 (BEL0.out w1 _ _ _ C1)).mono ?_; rintro e w2 ⟨rfl, hb2⟩; have C2 := C1.below hb2)
    | (go_at_call 110; refine cO1.mono ?_; rintro e w1 ⟨rfl, hb1⟩; have C1 := ST1.below (by simp only [World.size_alloc]; exact hb1); obtain ⟨⟨pa0, pa1, pa2, pa3⟩, _, _, _⟩ := C1.cells))
  have bl2 := BEL0.out w2 _ _ _ C2
  have sl2 : w2.cell? ⟨b, 2, none⟩ = some (.slice (some ⟨gg, 0, none⟩) nl cap) := by
    have := (HE.out.rd.below bl2).slice
    rwa [HNL.out] at this
  clear pa0 pa1 pa2 pa3 s1 b1 b2 b3 b4 a1 a2 a3 a4 hsl i0 i1 hb1 hb2 C1 ST1 cH1 cO1
  obtain ⟨_, _, _, ⟨h0, h1, h2⟩⟩ := C2.cells
  have E5 := C2.shape true
  obtain ⟨_, ⟨y0, y1, y2, y3, y4, y5, y6, y7⟩, _, ⟨g0, g1, _⟩⟩ := E5.cells
  obtain ⟨⟨t0, t1, t2, t3, t4, t5, t6, t7⟩, ⟨u0, u1⟩, z0, z1⟩ := E5.res
  have z00 := z0 0
  have z01 := z0 1
  have z02 := z0 2
  have z03 := z0 3
  have z04 := z0 4
  have z05 := z0 5
  have z06 := z0 6
  have z07 := z0 7
  have z10 := z1 0
  have z11 := z1 1
  have FA := E5.fin (.string ⟨#[]⟩) (.bool false) (.slice none 0 0) (.bool false) (.slice none 0 0) (.bool false) (.slice none 0 0) (.slice none 0 0) (.bool true) (.bool false)
  have FB := E5.fin2 (.string ⟨#[]⟩) (.bool false) (.slice none 0 0) (.bool false) (.slice none 0 0) (.bool false) (.slice none 0 0) (.slice none 0 0) (.bool true) (.bool false)
  have FIN : ∀ W, Below w.heap.size w W → StPost w Rd.noStmt (.returned (.tuple #[.agg #[.string ⟨#[]⟩, .bool false, .slice none 0 0, .bool false, .slice none 0 0, .bool false, .slice none 0 0, .slice none 0 0], .agg #[.bool true, .bool false]])) W := fun W hb => ⟨_, _, _, _, rfl, hb, World.ownsRow_nil _ _ _ _, World.ownsRow_nil _ _ _ _, World.ownsRow_nil _ _ _ _, RConds.nil _ _⟩
  have HFA := hid FA
  have HFB := hid FB
  have HFIN := hid FIN
  clear z0 z1 FA FB FIN E5 C2
  have d : ON = false ∨ (ON = true ∧ EF < 0) ∨ (ON = true ∧ 0 ≤ EF ∧ Ref.kindOf ns EF ≠ 3) := by
    cases ON
    · exact .inl rfl
    · by_cases e : EF < 0
      · exact .inr (.inl ⟨rfl, e⟩)
      · refine .inr (.inr ⟨rfl, by omega, ?_⟩)
        rcases hbad with h | h | h
        · cases h
        · omega
        · exact h
  clear hbad
  have last : Hid (∀ W, W = set2 (set8 (w2.setCell ⟨w.heap.size + 4, 0, none⟩ (.bool true)) w.heap.size (.string ⟨#[]⟩) (.bool false) (.slice none 0 0) (.bool false) (.slice none 0 0) (.bool false) (.slice none 0 0) (.slice none 0 0)) (w.heap.size + 1) (.bool true) (.bool false) ∨ W = set8 (set2 (w2.setCell ⟨w.heap.size + 4, 0, none⟩ (.bool true)) (w.heap.size + 1) (.bool true) (.bool false)) w.heap.size (.string ⟨#[]⟩) (.bool false) (.slice none 0 0) (.bool false) (.slice none 0 0) (.bool false) (.slice none 0 0) (.slice none 0 0) →
      (W.cell? ⟨w.heap.size, 0, none⟩ = some (.string ⟨#[]⟩) ∧ W.cell? ⟨w.heap.size, 1, none⟩ = some (.bool false) ∧ W.cell? ⟨w.heap.size, 2, none⟩ = some (.slice none 0 0) ∧ W.cell? ⟨w.heap.size, 3, none⟩ = some (.bool false) ∧ W.cell? ⟨w.heap.size, 4, none⟩ = some (.slice none 0 0) ∧ W.cell? ⟨w.heap.size, 5, none⟩ = some (.bool false) ∧ W.cell? ⟨w.heap.size, 6, none⟩ = some (.slice none 0 0) ∧ W.cell? ⟨w.heap.size, 7, none⟩ = some (.slice none 0 0)) ∧ (W.cell? ⟨w.heap.size + 1, 0, none⟩ = some (.bool true) ∧ W.cell? ⟨w.heap.size + 1, 1, none⟩ = some (.bool false)) ∧ Below w.heap.size w W) := by
    refine hid (fun W hW => ?_)
    rcases hW with rfl | rfl
    · obtain ⟨k1, _, k3, k4⟩ := HFA.out
      exact ⟨⟨(cells_of_block k3 0).1, (cells_of_block k3 1).1, (cells_of_block k3 2).1, (cells_of_block k3 3).1, (cells_of_block k3 4).1, (cells_of_block k3 5).1, (cells_of_block k3 6).1, (cells_of_block k3 7).1⟩, ⟨(cells_of_block k4 0).1, (cells_of_block k4 1).1⟩, k1⟩
    · obtain ⟨k1, _, k3, k4⟩ := HFB.out
      exact ⟨⟨(cells_of_block k3 0).1, (cells_of_block k3 1).1, (cells_of_block k3 2).1, (cells_of_block k3 3).1, (cells_of_block k3 4).1, (cells_of_block k3 5).1, (cells_of_block k3 6).1, (cells_of_block k3 7).1⟩, ⟨(cells_of_block k4 0).1, (cells_of_block k4 1).1⟩, k1⟩
  have LA := last.out _ (.inl rfl)
  have LB := last.out _ (.inr rfl)
  unfold set2 set8 at LA LB
  have LA' := hid LA
  have LB' := hid LB
  clear last LA LB HFA HFB
  rcases d with rfl | ⟨rfl, o1⟩ | ⟨rfl, o1, o2⟩
  · go_wp2_with fail
    go_region
    all_goals
      obtain ⟨⟨e0, e1, e2, e3, e4, e5, e6, e7⟩, ⟨e8, e9⟩, bl⟩ := LA'.out
      obtain ⟨⟨l0, l1, l2, l3, l4, l5, l6, l7⟩, ⟨l8, l9⟩, bm⟩ := LB'.out
      go_wp2_with fail
      first
        | exact bodyPost_ret (v := .tuple #[.agg #[.string ⟨#[]⟩, .bool false, .slice none 0 0, .bool false, .slice none 0 0, .bool false, .slice none 0 0, .slice none 0 0], .agg #[.bool true, .bool false]]) (by simp [results, Tryz.results61, go_sem, e0, e1, e2, e3, e4, e5, e6, e7, e8, e9]) rfl (HFIN.out _ bl.drew)
        | exact bodyPost_ret (v := .tuple #[.agg #[.string ⟨#[]⟩, .bool false, .slice none 0 0, .bool false, .slice none 0 0, .bool false, .slice none 0 0, .slice none 0 0], .agg #[.bool true, .bool false]]) (by simp [results, Tryz.results61, go_sem, l0, l1, l2, l3, l4, l5, l6, l7, l8, l9]) rfl (HFIN.out _ bm.drew)
  · have d1 : decide (EF < 0) = true := decide_eq_true o1
    go_wp2_with fail
    go_region
    all_goals
      obtain ⟨⟨e0, e1, e2, e3, e4, e5, e6, e7⟩, ⟨e8, e9⟩, bl⟩ := LA'.out
      obtain ⟨⟨l0, l1, l2, l3, l4, l5, l6, l7⟩, ⟨l8, l9⟩, bm⟩ := LB'.out
      go_wp2_with fail
      first
        | exact bodyPost_ret (v := .tuple #[.agg #[.string ⟨#[]⟩, .bool false, .slice none 0 0, .bool false, .slice none 0 0, .bool false, .slice none 0 0, .slice none 0 0], .agg #[.bool true, .bool false]]) (by simp [results, Tryz.results61, go_sem, e0, e1, e2, e3, e4, e5, e6, e7, e8, e9]) rfl (HFIN.out _ bl.drew)
        | exact bodyPost_ret (v := .tuple #[.agg #[.string ⟨#[]⟩, .bool false, .slice none 0 0, .bool false, .slice none 0 0, .bool false, .slice none 0 0, .slice none 0 0], .agg #[.bool true, .bool false]]) (by simp [results, Tryz.results61, go_sem, l0, l1, l2, l3, l4, l5, l6, l7, l8, l9]) rfl (HFIN.out _ bm.drew)
  · have d1 : decide (EF < 0) = false := decide_eq_false (by omega)
    obtain ⟨je, rfl, hec⟩ := node_cells HE.out EF o1 (by rw [HNL.out]; exact eB.2)
    have je0 : (0 : Int) ≤ (je : Int) := Int.natCast_nonneg _
    have je1 : (je : Int) < (nl : Int) := eB.2
    obtain ⟨m1, _⟩ := hec w2 bl2
    obtain ⟨KE, hKE⟩ : ∃ x, Ref.kindOf ns (je : Int) = x := ⟨_, rfl⟩
    rw [hKE] at o2 m1
    have d2 : (KE != 3) = true := by simp [o2]
    clear hec hKE o2 o1
    go_wp2_with fail
    go_region
    all_goals
      obtain ⟨⟨e0, e1, e2, e3, e4, e5, e6, e7⟩, ⟨e8, e9⟩, bl⟩ := LA'.out
      obtain ⟨⟨l0, l1, l2, l3, l4, l5, l6, l7⟩, ⟨l8, l9⟩, bm⟩ := LB'.out
      go_wp2_with fail
      first
        | exact bodyPost_ret (v := .tuple #[.agg #[.string ⟨#[]⟩, .bool false, .slice none 0 0, .bool false, .slice none 0 0, .bool false, .slice none 0 0, .slice none 0 0], .agg #[.bool true, .bool false]]) (by simp [results, Tryz.results61, go_sem, e0, e1, e2, e3, e4, e5, e6, e7, e8, e9]) rfl (HFIN.out _ bl.drew)
        | exact bodyPost_ret (v := .tuple #[.agg #[.string ⟨#[]⟩, .bool false, .slice none 0 0, .bool false, .slice none 0 0, .bool false, .slice none 0 0, .slice none 0 0], .agg #[.bool true, .bool false]]) (by simp [results, Tryz.results61, go_sem, l0, l1, l2, l3, l4, l5, l6, l7, l8, l9]) rfl (HFIN.out _ bm.drew)

end Go.Proofs.YtdakgnaojakldaaGreatDoor
