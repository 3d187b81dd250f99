/- Contract of the program's signs. -/
import Derived.Test.YtdakgnaojakldaaDoorPgK
import Derived.Test.YtdakgnaojakldaaDoorRefH
namespace Go.Proofs.YtdakgnaojakldaaDoor
open Go.RowKit

namespace Pg
theorem partCells_get (ps : List (Int × ByteArray)) (j : Nat) (h : j < ps.length) : (partCells ps)[j * 2]? = some (.int .i32 (signOf ps[j])) ∧ (partCells ps)[j * 2 + 1]? = some (.string (nameOf ps[j])) := by
  induction ps generalizing j with
  | nil => simp at h
  | cons p ps ih =>
    have e : partCells (p :: ps) = .int .i32 (signOf p) :: .string (nameOf p) :: partCells ps := by simp [partCells]
    rw [e]
    cases j with
    | zero => simp
    | succ j =>
      have := ih j (by simpa using h)
      rw [show (j + 1) * 2 = (j * 2) + 1 + 1 by omega, show (j * 2) + 1 + 1 + 1 = (j * 2 + 1) + 1 + 1 by omega]
      simpa using this

/-- The program's parts lie in memory. -/
def At (w : World) (v : Value) (ps : List (Int × ByteArray)) : Prop :=
  ∃ ao cap, v = .slice ao ps.length cap ∧ (ps = [] ∨ ∃ b o, ao = some ⟨b, o, none⟩ ∧ ∀ j, (h : j < ps.length) → w.cell? ⟨b, o + j * 2, none⟩ = some (.int .i32 (signOf ps[j])) ∧ w.cell? ⟨b, o + j * 2 + 1, none⟩ = some (.string (nameOf ps[j])))

theorem At.below {w w' : World} {v : Value} {ps : List (Int × ByteArray)} (h : At w v ps) (hb : Below w.heap.size w w') : At w' v ps := by
  obtain ⟨ao, cap, hv, h⟩ := h
  refine ⟨ao, cap, hv, ?_⟩
  rcases h with h | ⟨b, o, ha, hc⟩
  · exact .inl h
  · exact .inr ⟨b, o, ha, fun j hj => ⟨cell_later hb (hc j hj).1, cell_later hb (hc j hj).2⟩⟩

theorem at_own {w : World} {base : Nat} {e : TypeId} {v : Value} {n : Nat} {ps : List (Int × ByteArray)} (hn : n = ps.length) (h : w.ownsRow base e 2 v n (partCells ps)) : At w v ps := by
  subst hn
  have hcells := fun g hg => h.cells (g := g) hg
  rcases h.2 with ⟨rfl, h0⟩ | ⟨g, cap, cur, rfl, _⟩
  · exact ⟨none, 0, by rw [h0], .inl (List.eq_nil_of_length_eq_zero h0)⟩
  · refine ⟨_, cap, rfl, .inr ⟨g, 0, rfl, fun j hj => ?_⟩⟩
    have hp := partCells_get ps j hj
    have a1 := hcells g rfl _ _ hp.1
    have a2 := hcells g rfl _ _ hp.2
    rw [addr_add0] at a1 a2
    exact ⟨by rw [Nat.zero_add]; exact a1, by rw [Nat.zero_add]; exact a2⟩

/-- The cells of the signs of parts. -/
def signCells (q : List (Int × ByteArray)) : List Value := q.map fun p => .int .i32 (signOf p)

theorem signCells_append (a b : List (Int × ByteArray)) : signCells (a ++ b) = signCells a ++ signCells b := by simp [signCells]

theorem signCells_lits (cs : List ByteArray) : signCells (cs.map fun c => ((1 : Int), c)) = cs.map runeV := by
  unfold signCells
  rw [List.map_map]
  apply List.map_congr_left
  intro c _
  rfl
end Pg

theorem Tryd.infoRune : (Tryd.prog.info? 21).map (fun i => (i.zero, i.size, i.bytes)) = some (some (.int .i32 0), 1, 4) := by kernel_rfl

/-- The characters of a string, laid as a new row of runes. -/
theorem runes_conv (s : ByteArray) (w : World) (hs : s.size ≤ 1000) (hv : (Ref.chars s).isSome = true) : ∃ C O, (convert 9 67 (.string s)).run Tryd.prog w = .ok (.slice (some ⟨w.heap.size, 0, none⟩) ((Ref.chars s).getD []).length C) (w.alloc O).drew
    ∧ ∀ j u, (((Ref.chars s).getD []).map Pg.runeV)[j]? = some u → (w.alloc O).drew.cell? ⟨w.heap.size, j, none⟩ = some u := by
  have hr := Pg.runes_all s hv
  have hl := Ref.chars_len s
  have hz : (Conv.runesFrom s s.size 0 #[]).size = ((Ref.chars s).getD []).length := by rw [hr]; simp
  have c := run_runes_of_string (P := Tryd.prog) w 9 67 21 s Tryd.underlying9 Tryd.underlying67 Tryd.underlying21 (by rw [hz]; omega)
  rw [hz] at c
  refine ⟨_, _, c, fun j u hu => ?_⟩
  show (w.alloc _).cell? _ = _
  rw [World.cell?_alloc_at _ _ _ _ rfl, hr]
  have hj : j < (((Ref.chars s).getD []).map Pg.runeV).length := (List.getElem?_eq_some_iff.1 hu).1
  rw [Array.getElem?_append_left (by simpa using hj)]
  simpa using hu

theorem below_three {w wr w1 : World} {e : TypeId} {size : Nat} {v : Value} {n : Nat} {xs : List Value} (hbel : Below w.heap.size w wr) (hown : wr.ownsRow w.heap.size e size v n xs)
    (hg : wr.grownBy w1 v.ownBlock) : Below w.heap.size w w1 :=
  hbel.grown hg hbel.size (fun k hk => (hown.lt k hk).1)

set_option maxHeartbeats 1000000 in
set_option maxRecDepth 100000 in
theorem signs_any (r : Ref.Req) (ps : List (Int × ByteArray)) (lv : Value) (g : Nat) (lb : Array Value) (w : World) (hl : Pg.At w lv ps) (hps : ps.length ≤ 60)
    (hnm : ∀ p ∈ ps, p.1 = 4 → (p.2.toList == []) = false) (hsz : ∀ n v, Ref.says r n = some v → v.size ≤ 100 ∧ (Ref.chars v).isSome = true)
    (eg : ∀ args w, (callFunc g args).run Tryd.prog w = .ok (.enter g args) w)
    (hg : ∀ W name, Below w.heap.size w W → Calls Tryd.prog g (#[.string name] ++ lb) W fun e w' => e = .returned (.tuple #[.string ((Ref.says r name).getD ⟨#[]⟩), .bool (Ref.says r name).isSome]) ∧ Below W.heap.size W w') :
    Calls Tryd.prog 27 #[lv, .func (.func g) #[] lb] w fun e w' => ∃ v, e = .returned (.tuple #[v, .bool (Ref.laid r ps).isSome]) ∧ Below w.heap.size w w' ∧
      w'.ownsRow w.heap.size 21 1 v ((Ref.laid r ps).getD []).length (Pg.signCells ((Ref.laid r ps).getD [])) ∧ ((Ref.laid r ps).getD []).length ≤ 6000 := by
  obtain ⟨i0, hi, hz0, hz1, hz2⟩ := info_parts Tryd.infoRune
  have hP : Ref.laid r ps = (Ref.laid r (ps.drop 0)).map fun b => [] ++ b := by simp
  generalize hPP : Ref.laid r ps = P at *
  clear hPP
  have HP := hid hP
  have HS := hid hsz
  have HN := hid hnm
  clear hP hsz hnm
  obtain ⟨lo, lcap, rfl, hl⟩ := hl
  have hl0 : Pg.At w (.slice lo ps.length lcap) ps := ⟨lo, lcap, rfl, hl⟩
  clear hl
  have HL := hid hl0
  clear hl0
  go_enter Tryd.func27, Tryd.ntmps27
  go_wp2
  go_loopw [6, 13] (fun ov iv wr => ∃ (k : Nat) (done : List (Int × ByteArray)), k ≤ ps.length ∧ iv = .int .i64 k ∧ P = ((Ref.laid r (ps.drop k)).map fun b => done ++ b) ∧ done.length ≤ 100 * k ∧
      wr.ownsRow w.heap.size 21 1 ov done.length (Pg.signCells done) ∧ Below w.heap.size w wr) (fun _ iv _ => ps.length - (intOf iv).toNat)
  case atStart => exact ⟨0, [], by omega, rfl, HP.out, by simp, World.ownsRow_nil _ _ _ _, Below.refl _ _⟩
  case round =>
    obtain ⟨k, done, hk, rfl, hP0, hdl, hown, hbel⟩ := hrel
    have HP1 := hid hP0
    have HLr : Hid (Pg.At wr (.slice lo ps.length lcap) ps) := HL.out.below hbel
    have hsz := hbel.size
    clear hP0 HP
    by_cases hlt : k < ps.length
    · obtain ⟨ao2, cap2, he, hcc⟩ := HLr.out
      simp only [Value.slice.injEq, true_and] at he
      obtain ⟨rfl, rfl⟩ := he
      rcases hcc with rfl | ⟨b, o, rfl, hc⟩
      · simp at hlt
      obtain ⟨q1, q2⟩ := hc k hlt
      have hlti : (k : Int) < (ps.length : Int) := by omega
      obtain ⟨sg, hsg⟩ : ∃ n, Pg.signOf ps[k] = n := ⟨_, rfl⟩
      obtain ⟨nm, hnm⟩ : ∃ n, Pg.nameOf ps[k] = n := ⟨_, rfl⟩
      rw [hsg] at q1; rw [hnm] at q2
      have ba := fun O => (Below.refl _ wr).alloc (Nat.le_refl _) O
      by_cases h4 : ps[k].1 = 4
      · have hnm4 : ps[k].2 = nm := by rw [← hnm]; unfold Pg.nameOf; rw [if_pos h4]
        have hne : (nm.toList == []) = false := by rw [← hnm4]; exact HN.out _ (List.getElem_mem hlt) h4
        have cs := fun W hb => hg W nm hb
        cases hsy : Ref.says r nm with
        | none =>
          have hf := Ref.laid_stop r ps k hlt done P HP1.out (by unfold Ref.laidOne; rw [if_pos h4, hnm4, hsy]; rfl)
          subst hf
          rw [hsy] at cs
          simp only [Option.getD_none, Option.isSome_none] at cs
          clear hsy HP1 hc hsg hnm h4 hnm4
          go_wp2_with (go_at_fn g; refine (cs _ (hbel.trans ((ba _).mono hsz))).mono ?_; rintro e w2 ⟨rfl, hb2⟩)
          go_ret2
          exact ⟨_, rfl, hbel.trans (((ba _).trans (hb2.mono (by simp))).mono hsz), World.ownsRow_nil _ _ _ _, by simp⟩
        | some v =>
          obtain ⟨hv100, hvc⟩ := HS.out nm v hsy
          have hone : Ref.laidOne r ps[k] = some (((Ref.chars v).getD []).map fun c => ((1 : Int), c)) := by unfold Ref.laidOne; rw [if_pos h4, hnm4, hsy]; rfl
          have hcl := Ref.chars_len v
          have hcv := fun W => runes_conv v W (by omega) hvc
          obtain ⟨ch, hch⟩ : ∃ cs, (Ref.chars v).getD [] = cs := ⟨_, rfl⟩
          simp only [hch] at hone hcl hcv
          have hP' := Ref.laid_next r ps k hlt done P HP1.out _ hone
          have HP2 := hid hP'
          rw [hsy] at cs
          simp only [Option.getD_some, Option.isSome_some] at cs
          clear hsy HP1 hc hsg hnm h4 hnm4 hone hP' hch hvc
          go_wp2_with (first
            | (go_at_fn g; refine (cs _ (hbel.trans ((ba _).mono hsz))).mono ?_; rintro e w2 ⟨rfl, hb2⟩; obtain ⟨C, O, hcv2, hcl2⟩ := hcv w2)
            | (at_builtin; refine wpList_append_own _ rfl _ _ 67 rfl w.heap.size 21 i0 (.int .i32 0) 1 4 Tryd.underlying67 hi hz0 hz1 hz2 rfl (by decide) _ done.length (Pg.signCells done) rfl ?_ ⟨w2.heap.size, 0, none⟩ ch.length C (ch.map Pg.runeV) rfl ?_ ?_ ?_ ?_ ?_ ?_ ?_))
          · exact ownsRow_below hown (((ba _).trans (hb2.mono (by simp))).trans ((((Below.refl _ w2).alloc (Nat.le_refl _) O).drew).mono (by have := hb2.size; simp at this; omega)))
          · simp
          · intro j u hu; rw [addr_add0]; exact hcl2 j u hu
          · intro u hu
            obtain ⟨c, _, rfl⟩ := List.mem_map.1 hu
            rfl
          · unfold maxLen; omega
          · omega
          · have := hb2.size; simp at this ⊢; omega
          · intro v' w1 hown' hgrow _
            have bw2 : Below wr.heap.size wr (w2.alloc O).drew := ((ba _).trans (hb2.mono (by simp))).trans ((((Below.refl _ w2).alloc (Nat.le_refl _) O).drew).mono (by have := hb2.size; simp at this; omega))
            have hb1 := below_three (hbel.trans (bw2.mono hsz)) (ownsRow_below hown bw2) hgrow
            have hown2 : w1.ownsRow w.heap.size 21 1 v' (done ++ ch.map fun c => ((1 : Int), c)).length (Pg.signCells (done ++ ch.map fun c => ((1 : Int), c))) := by
              rw [Pg.signCells_append, Pg.signCells_lits, List.length_append, List.length_map]; exact hown'
            clear hown' hgrow hown cs hcv hb2 hcl2 hcv2 bw2
            go_wp2
            go_roundw
            case rel => exact ⟨k + 1, _, by omega, by go_num, HP2.out, by simp; omega, hown2, hb1⟩
            case measure => simp [intOf]; omega
      · have hnm4 : nm = ⟨#[]⟩ := by rw [← hnm]; unfold Pg.nameOf; rw [if_neg h4]
        have hone : Ref.laidOne r ps[k] = some [ps[k]] := by unfold Ref.laidOne; rw [if_neg h4]
        have hP' := Ref.laid_next r ps k hlt done P HP1.out _ hone
        have HP2 := hid hP'
        have HSG := hid hsg
        subst hnm4
        clear hone hP' HP1 hc hsg hnm h4
        go_wp2_with (at_builtin; refine wpList_append_own _ rfl _ _ 67 rfl w.heap.size 21 i0 (.int .i32 0) 1 4 Tryd.underlying67 hi hz0 hz1 hz2 rfl (by decide) _ done.length (Pg.signCells done) rfl ((hown.alloc _).alloc _) ⟨wr.heap.size + 1, 0, none⟩ 1 1 [.int .i32 sg] rfl rfl ?_ ?_ ?_ ?_ ?_ ?_)
        · intro j u hu
          rw [addr_add0]
          match j, hu with
          | 0, hu => simp at hu; subst hu; simp
        · intro u hu; simp at hu; subst hu; rfl
        · unfold maxLen; omega
        · omega
        · simp; omega
        · intro v' w1 hown' hgrow _
          have hb1 := below_two hbel hown _ _ hgrow
          have hown2 : w1.ownsRow w.heap.size 21 1 v' (done ++ [ps[k]]).length (Pg.signCells (done ++ [ps[k]])) := by
            have e : Pg.signCells [ps[k]] = [.int .i32 sg] := by unfold Pg.signCells; simp [HSG.out]
            rw [Pg.signCells_append, e, List.length_append]; exact hown'
          clear hown' hgrow hown
          go_wp2
          go_roundw
          case rel => exact ⟨k + 1, _, by omega, by go_num, HP2.out, by simp; omega, hown2, hb1⟩
          case measure => simp [intOf]; omega
    · have hf := Ref.laid_end r ps k hlt done P HP1.out
      subst hf
      clear HP1
      go_wp2
      go_ret2
      exact ⟨_, rfl, hbel, hown, by simp; omega⟩

end Go.Proofs.YtdakgnaojakldaaDoor
