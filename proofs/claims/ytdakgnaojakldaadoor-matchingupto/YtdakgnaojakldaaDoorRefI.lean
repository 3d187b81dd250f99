/- Contract of the reference's covers. -/
import Derived.Test.YtdakgnaojakldaaDoorRefH
import Derived.Test.YtdakgnaojakldaaDoorRefMath8
namespace Go.Proofs.YtdakgnaojakldaaDoor
open Go.RowKit

theorem Tryd.infoBool : (Tryd.prog.info? 4).map (fun i => (i.zero, i.size, i.bytes)) = some (some (.bool false), 1, 1) := by kernel_rfl

theorem cover_store {w wx : World} {E : TypeId} {base nb g n k : Nat} {nf rf : Nat → Bool} {b : Bool} (hne : nb ≠ g) (hB : w.heap.size ≤ nb)
    (hn : wx.ownsRow base E 1 (.slice (some ⟨nb, 0, none⟩) (n + 1) (n + 1)) (n + 1) (Ref.rowCells (Ref.upTo nf k) (n + 1))) (hr : wx.ownsRow base E 1 (.slice (some ⟨g, 0, none⟩) (n + 1) (n + 1)) (n + 1) (Ref.rowCells rf (n + 1)))
    (hb : Below w.heap.size w wx) (hv : nf k = b) :
    (wx.setCell ⟨nb, k, none⟩ (.bool b)).ownsRow base E 1 (.slice (some ⟨nb, 0, none⟩) (n + 1) (n + 1)) (n + 1) (Ref.rowCells (Ref.upTo nf (k + 1)) (n + 1)) ∧
    (wx.setCell ⟨nb, k, none⟩ (.bool b)).ownsRow base E 1 (.slice (some ⟨g, 0, none⟩) (n + 1) (n + 1)) (n + 1) (Ref.rowCells rf (n + 1)) ∧ Below w.heap.size w (wx.setCell ⟨nb, k, none⟩ (.bool b)) := by
  refine ⟨?_, ownsRow_setCell_other hr (by simp only [Value.ownBlock]; intro e; simp only [Option.some.injEq] at e; exact hne e.symm) _, hb.setCell hB _⟩
  rw [← Ref.rowCells_set nf (n + 1) k b hv]
  exact (hn.stored k (.bool b)).1

set_option maxHeartbeats 1000000 in
set_option maxRecDepth 100000 in
theorem covers_any (ps : List (Int × ByteArray)) (cs : List ByteArray) (lv cv : Value) (w : World) (hl : partsAt w lv ps) (hc : strsAt w cv cs) (hps : ps.length ≤ 100000) (hcs : cs.length ≤ 100000) :
    Calls Tryd.prog 36 #[lv, cv] w fun e w' => e = .returned (.bool (Ref.covers ps cs)) ∧ Below w.heap.size w w' := by
  obtain ⟨i0, hi, hz0, hz1, hz2⟩ := info_parts Tryd.infoBool
  obtain ⟨lo, lcap, rfl, hl⟩ := hl
  have hl0 : partsAt w (.slice lo ps.length lcap) ps := ⟨lo, lcap, rfl, hl⟩
  obtain ⟨co, ccap, rfl, hc⟩ := hc
  have hc0 : strsAt w (.slice co cs.length ccap) cs := ⟨co, ccap, rfl, hc⟩
  clear hl hc
  have HL := hid hl0
  have HC := hid hc0
  clear hl0 hc0
  obtain ⟨R, hR⟩ : ∃ R, Ref.covers ps cs = R := ⟨_, rfl⟩
  rw [hR]
  have HR := hid hR
  clear hR
  go_enter Tryd.func36, Tryd.ntmps36
  go_wp2_with (at_make; refine wpList_make_full _ rfl _ _ 116 rfl w.heap.size 4 i0 (.bool false) 1 Tryd.underlying116 hi hz0 hz1 _ _ _ _ (cs.length + 1) rfl rfl ?_ ?_ ?_ ?_ ?_ ?_)
  · omega
  · omega
  · rw [hz2]; omega
  · unfold maxLen; omega
  · omega
  intro w1 own1 grow1
  have ow1 : w1.ownsRow w.heap.size 4 1 (.slice (some ⟨w.heap.size, 0, none⟩) (cs.length + 1) (cs.length + 1)) (cs.length + 1) (List.replicate (cs.length + 1) (.bool false)) := by
    rw [← toList_madeCells_one]; exact own1
  have bel1 : Below w.heap.size w w1 := (Below.refl _ w).grown grow1 (Nat.le_refl _) (fun k hk => by cases hk)
  have c0 : w1.cell? ⟨w.heap.size, 0, none⟩ = some (.bool false) := by rw [ow1.cellAt 0 (by omega)]; simp
  have f0 : w1.frozen? ⟨w.heap.size, 0, none⟩ = false := ow1.frozenAt 0
  have ow2 := (ow1.stored 0 (.bool true)).1
  rw [Ref.covR_nil cs cs.length] at ow2
  have bel2 : Below w.heap.size w (w1.setCell ⟨w.heap.size, 0, none⟩ (.bool true)) := bel1.setCell (Nat.le_refl _) _
  clear own1 grow1 ow1 bel1
  have OW2 := hid ow2
  have BEL2 := hid bel2
  clear ow2 bel2
  go_wp2
  go_loopw [5, 6] (fun rv iv wr => ∃ i g : Nat, i ≤ ps.length ∧ iv = .int .i64 i ∧ rv = .slice (some ⟨g, 0, none⟩) (cs.length + 1) (cs.length + 1) ∧
      wr.ownsRow w.heap.size 4 1 (.slice (some ⟨g, 0, none⟩) (cs.length + 1) (cs.length + 1)) (cs.length + 1) (Ref.rowCells (Ref.covR cs (ps.take i).reverse) (cs.length + 1)) ∧ Below w.heap.size w wr) (fun _ iv _ => ps.length - (intOf iv).toNat)
  case atStart => exact ⟨0, w.heap.size, by omega, rfl, rfl, OW2.out, BEL2.out⟩
  case round =>
    obtain ⟨i, g, hile, rfl, rfl, rown, rbel⟩ := hrel
    clear OW2 BEL2 c0 f0
    have rsz := rbel.size
    have HLr : Hid (partsAt wr (.slice lo ps.length lcap) ps) := partsAt_below HL.out rbel
    have HCr : Hid (strsAt wr (.slice co cs.length ccap) cs) := strsAt_below HC.out rbel
    by_cases hlt : i < ps.length
    · obtain ⟨kind, hkd⟩ : ∃ n, ps[i].1 = n := ⟨_, rfl⟩
      obtain ⟨txt, htx⟩ : ∃ n, ps[i].2 = n := ⟨_, rfl⟩
      obtain ⟨prev, hpv⟩ : ∃ l, (ps.take i).reverse = l := ⟨_, rfl⟩
      have hnx : (ps.take (i + 1)).reverse = ps[i] :: prev := by rw [Ref.take_rev ps i hlt, hpv]
      rw [hpv] at rown
      obtain ⟨nf, hnf⟩ : ∃ f, Ref.covR cs (ps[i] :: prev) = f := ⟨_, rfl⟩
      obtain ⟨rf, hrf⟩ : ∃ f, Ref.covR cs prev = f := ⟨_, rfl⟩
      rw [hrf] at rown
      have s1 : kind = 3 → nf 0 = rf 0 := by intro h; rw [← hnf, ← hrf]; exact Ref.covR_star0 cs _ _ (hkd.trans h)
      have s2 : kind = 3 → ∀ k, 0 < k → nf k = (rf k || nf (k - 1)) := by intro h k hk; rw [← hnf, ← hrf]; exact Ref.covR_star cs _ _ (hkd.trans h) k hk
      have s3 : kind ≠ 3 → nf 0 = false := by intro h; rw [← hnf]; exact Ref.covR_zero cs _ _ (by rw [hkd]; exact h)
      have s4 : kind = 2 → ∀ k, 0 < k → nf k = rf (k - 1) := by intro h k hk; rw [← hnf, ← hrf]; exact Ref.covR_any cs _ _ (hkd.trans h) k hk
      have s5 : kind ≠ 3 → kind ≠ 2 → ∀ m (hc : m < cs.length), nf (m + 1) = (rf m && (txt.toList == cs[m].toList)) := by
        intro h3 h2 m hc; rw [← hnf, ← hrf, ← htx]; exact Ref.covR_lit cs _ _ (by rw [hkd]; exact h3) (by rw [hkd]; exact h2) (m + 1) (by omega) hc
      have S1 := hid s1
      have S2 := hid s2
      have S3 := hid s3
      have S4 := hid s4
      have S5 := hid s5
      have HNF : Hid (Ref.covR cs (ps.take (i + 1)).reverse = nf) := by rw [hnx]; exact hnf
      have hcells : Hid (∃ b o, lo = some ⟨b, o, none⟩ ∧ ∀ wx, Below w.heap.size w wx → wx.cell? ⟨b, o + i * 2, none⟩ = some (.int .i64 kind) ∧ wx.cell? ⟨b, o + i * 2 + 1, none⟩ = some (.string txt)) := by
        obtain ⟨ao2, cap2, he, hcc⟩ := HL.out
        simp only [Value.slice.injEq, true_and] at he
        obtain ⟨rfl, rfl⟩ := he
        rcases hcc with rfl | ⟨b, o, rfl, hc⟩
        · simp at hlt
        refine ⟨b, o, rfl, fun wx hbx => ?_⟩
        rw [← hkd, ← htx]
        exact ⟨cell_later hbx (hc i hlt).1, cell_later hbx (hc i hlt).2⟩
      clear s1 s2 s3 s4 s5 hnf hrf hnx hpv hkd htx HLr HCr
      obtain ⟨pb, po, rfl, hpc⟩ := hcells.out
      have HPC := hid hpc
      clear hcells hpc
      go_wp2_with (at_make; refine wpList_make_full _ rfl _ _ 116 rfl w.heap.size 4 i0 (.bool false) 1 Tryd.underlying116 hi hz0 hz1 _ _ _ _ (cs.length + 1) rfl rfl ?_ ?_ ?_ ?_ ?_ ?_)
      · omega
      · omega
      · rw [hz2]; omega
      · unfold maxLen; omega
      · omega
      intro w2 own2 grow2
      have nown : w2.ownsRow w.heap.size 4 1 (.slice (some ⟨wr.heap.size, 0, none⟩) (cs.length + 1) (cs.length + 1)) (cs.length + 1) (Ref.rowCells (Ref.upTo nf 0) (cs.length + 1)) := by
        rw [Ref.rowCells_none, ← toList_madeCells_one]; exact own2
      have rown2 := rown.kept grow2 (.inr (by simp [Value.ownBlock]))
      have bel2 : Below w.heap.size w w2 := rbel.grown grow2 rsz (fun k hk => by cases hk)
      have hgn : wr.heap.size ≠ g := by have := (rown.lt g rfl).2; omega
      clear own2 grow2 rown rbel
      have NOWN := hid nown
      have ROWN := hid rown2
      have BEL := hid bel2
      obtain ⟨nb, hnb⟩ : ∃ nb, wr.heap.size = nb := ⟨_, rfl⟩
      rw [hnb] at NOWN hgn rsz
      rw [hnb]
      clear nown rown2 bel2 hnb
      go_wp2
      go_loopw [8] (fun kv wx => ∃ k : Nat, k ≤ cs.length + 1 ∧ kv = .int .i64 k ∧ wx.ownsRow w.heap.size 4 1 (.slice (some ⟨nb, 0, none⟩) (cs.length + 1) (cs.length + 1)) (cs.length + 1) (Ref.rowCells (Ref.upTo nf k) (cs.length + 1)) ∧
          wx.ownsRow w.heap.size 4 1 (.slice (some ⟨g, 0, none⟩) (cs.length + 1) (cs.length + 1)) (cs.length + 1) (Ref.rowCells rf (cs.length + 1)) ∧ Below w.heap.size w wx) (fun kv _ => cs.length + 1 - (intOf kv).toNat)
      case atStart => exact ⟨0, by omega, rfl, NOWN.out, ROWN.out, BEL.out⟩
      case round =>
        obtain ⟨k, hkn, rfl, xn, xr, xb⟩ := hrel
        clear NOWN ROWN BEL
        by_cases hk : k ≤ cs.length
        · obtain ⟨p1, p2⟩ := HPC.out wr xb
          have fz : wr.frozen? ⟨nb, k, none⟩ = false := xn.frozenAt k
          obtain ⟨old, nk⟩ : ∃ v, wr.cell? ⟨nb, k, none⟩ = some v := ⟨_, (xn.cellAt k (by omega)).trans (Ref.rowCells_get _ _ _ (by omega))⟩
          have rk := (xr.cellAt k (by omega)).trans (Ref.rowCells_get _ _ _ (by omega))
          obtain ⟨a, ha⟩ : ∃ a, rf k = a := ⟨_, rfl⟩
          rw [ha] at rk
          have HA := hid ha
          have XN := hid xn
          have XR := hid xr
          have XB := hid xb
          clear xn xr xb ha
          by_cases h3 : kind = 3
          · have h3b : (kind == 3) = true := by simp [h3]
            by_cases hk0 : k = 0
            · subst hk0
              have RR := hid (cover_store hgn rsz XN.out XR.out XB.out ((S1.out h3).trans HA.out))
              clear h3
              cases a
              all_goals
                go_wp2
                exact ⟨⟨0 + 1, by omega, by go_num, RR.out.1, RR.out.2.1, RR.out.2.2⟩, by simp [intOf]⟩
            · obtain ⟨m, rfl⟩ : ∃ m, k = m + 1 := ⟨k - 1, by omega⟩
              have nk1 := (XN.out.cellAt m (by omega)).trans (Ref.rowCells_get _ _ _ (by omega))
              rw [show Ref.upTo nf (m + 1) m = nf m by simp [Ref.upTo]] at nk1
              obtain ⟨b, hb⟩ : ∃ a, nf m = a := ⟨_, rfl⟩
              rw [hb] at nk1
              have hv : nf (m + 1) = (a || b) := by rw [S2.out h3 (m + 1) (by omega), HA.out, Nat.add_sub_cancel, hb]
              cases a
              · rw [Bool.false_or] at hv
                have RR := hid (cover_store hgn rsz XN.out XR.out XB.out hv)
                clear h3 hv hb hk0
                go_wp2
                exact ⟨⟨m + 1 + 1, by omega, by go_num, RR.out.1, RR.out.2.1, RR.out.2.2⟩, by simp [intOf]; omega⟩
              · rw [Bool.true_or] at hv
                have RR := hid (cover_store hgn rsz XN.out XR.out XB.out hv)
                clear h3 hv hb hk0
                go_wp2
                exact ⟨⟨m + 1 + 1, by omega, by go_num, RR.out.1, RR.out.2.1, RR.out.2.2⟩, by simp [intOf]; omega⟩
          · have h3b : (kind == 3) = false := by simp [h3]
            by_cases hk0 : k = 0
            · subst hk0
              have xn2 := XN.out
              rw [Ref.rowCells_skip nf _ 0 (S3.out h3)] at xn2
              have XN2 := hid xn2
              clear xn2 h3
              go_wp2
              exact ⟨⟨0 + 1, by omega, by go_num, XN2.out, XR.out, XB.out⟩, by simp [intOf]⟩
            · obtain ⟨m, rfl⟩ : ∃ m, k = m + 1 := ⟨k - 1, by omega⟩
              have rk1 := (XR.out.cellAt m (by omega)).trans (Ref.rowCells_get _ _ _ (by omega))
              obtain ⟨b, hb⟩ : ∃ a, rf m = a := ⟨_, rfl⟩
              rw [hb] at rk1
              by_cases h2 : kind = 2
              · have h2b : (kind == 2) = true := by simp [h2]
                have RR := hid (cover_store hgn rsz XN.out XR.out XB.out (b := b) (by rw [S4.out h2 (m + 1) (by omega), Nat.add_sub_cancel, hb]))
                clear h3 hb hk0 h2
                go_wp2
                exact ⟨⟨m + 1 + 1, by omega, by go_num, RR.out.1, RR.out.2.1, RR.out.2.2⟩, by simp [intOf]; omega⟩
              · have h2b : (kind == 2) = false := by simp [h2]
                have hcell : ∃ cb cof, co = some ⟨cb, cof, none⟩ ∧ wr.cell? ⟨cb, cof + m, none⟩ = some (.string cs[m]) := by
                  obtain ⟨ao2, cap2, he, hcc⟩ := strsAt_below HC.out XB.out
                  simp only [Value.slice.injEq, true_and] at he
                  obtain ⟨rfl, rfl⟩ := he
                  rcases hcc with rfl | ⟨cb, cof, rfl, hc⟩
                  · simp at hk
                  exact ⟨cb, cof, rfl, hc m (by omega)⟩
                obtain ⟨cb, cof, rfl, qc⟩ := hcell
                obtain ⟨c, hc⟩ : ∃ c, cs[m] = c := ⟨_, rfl⟩
                rw [hc] at qc
                have hv : nf (m + 1) = (b && (txt.toList == c.toList)) := by
                  rw [S5.out h3 h2 m (by omega), hb, hc]
                cases b
                · rw [Bool.false_and] at hv
                  have RR := hid (cover_store hgn rsz XN.out XR.out XB.out hv)
                  clear h3 hb hk0 h2 hc hv
                  go_wp2
                  go_region
                  all_goals go_wp2
                  all_goals exact ⟨⟨m + 1 + 1, by omega, by go_num, RR.out.1.drew, RR.out.2.1.drew, RR.out.2.2.drew⟩, by simp [intOf]; omega⟩
                · rw [Bool.true_and] at hv
                  have RR := hid (cover_store hgn rsz XN.out XR.out XB.out hv)
                  clear h3 hb hk0 h2 hc hv
                  go_wp2
                  go_region
                  all_goals go_wp2
                  all_goals exact ⟨⟨m + 1 + 1, by omega, by go_num, RR.out.1.drew, RR.out.2.1.drew, RR.out.2.2.drew⟩, by simp [intOf]; omega⟩
        · rw [Ref.rowCells_full nf _ _ (by omega)] at xn
          have XN := hid xn
          clear xn xr
          go_wp2
          go_roundw
          case rel => exact ⟨i + 1, nb, by omega, by go_num, rfl, by rw [HNF.out]; exact XN.out, xb⟩
          case measure => simp [intOf]; omega
    · have hc := rown.cellAt cs.length (by omega)
      rw [Ref.rowCells_get _ _ _ (by omega)] at hc
      have hf : Ref.covR cs (ps.take i).reverse cs.length = R := by rw [← HR.out, List.take_of_length_le (by omega)]; rfl
      rw [hf] at hc
      clear hf
      go_wp2
      go_ret
      exact ⟨rfl, rbel⟩

end Go.Proofs.YtdakgnaojakldaaDoor
