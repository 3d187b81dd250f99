/- Contracts of chosen and choice: which patterns raw numbers speak of. -/
import Derived.Test.YtdakgnaojakldaaGreatDoorKpC
namespace Go.Proofs.YtdakgnaojakldaaGreatDoor
open Go.RowKit

/-- Numbers that lie in memory. -/
def IntsIn (w : World) (lv : Value) (l : List Int) : Prop := ∃ a c, lv = .slice a l.length c ∧ ∀ (k : Nat) (x : Int), l[k]? = some x → I64 x ∧ ∃ gb o, a = some ⟨gb, o, none⟩ ∧ w.cell? ⟨gb, o + k, none⟩ = some (.int .i64 x)

theorem IntsIn.below {w w' : World} {lv : Value} {l : List Int} (h : IntsIn w lv l) (hb : Below w.heap.size w w') : IntsIn w' lv l := by
  obtain ⟨a, c, rfl, h⟩ := h
  exact ⟨a, c, rfl, fun k x hx => by obtain ⟨hi, gb, o, e, hc⟩ := h k x hx; exact ⟨hi, gb, o, e, cell_later hb hc⟩⟩

theorem StrsIn.own {w : World} {base : Nat} {lv : Value} {l : List ByteArray} (h : OwnStrs w base lv l) : StrsIn w lv l := by
  obtain ⟨a, c, rfl⟩ := own_slice h
  refine ⟨a, c, rfl, fun k x hx => ?_⟩
  have hk : k < l.length := (List.getElem?_eq_some_iff.1 hx).1
  rcases h.2 with ⟨e, h0⟩ | ⟨gb, cap, cur, e, _⟩
  · omega
  · have hc := World.ownsRow.cellAt (g := gb) (cap := cap) (by rw [← e]; exact h) k (by omega)
    injection e with e1 e2 e3
    exact ⟨gb, e1, by rw [hc]; simp [List.getElem?_map, hx]⟩

theorem strK_info : (Tryz.prog.info? 9).map (fun i => (i.zero, i.size, i.bytes)) = some (some (.string ⟨#[]⟩), 1, 16) := by kernel_rfl
theorem strsK_more {w : World} {B : Nat} {v' : Value} {l : List ByteArray} {s : ByteArray} (h : w.ownsRow B 9 1 v' (l.length + 1) (l.map Value.string ++ [.string s])) : OwnStrs w B v' (l ++ [s]) := by
  unfold OwnStrs
  rw [List.map_append, List.length_append]
  exact h
theorem litK_cells (w : World) (cs : Array Value) (t : TypeId) : ∀ (j : Nat) (u : Value), cs.toList[j]? = some u → (w.alloc (.cells cs t)).cell? ((⟨w.heap.size, 0, none⟩ : Addr).add j) = some u := by
  intro j u hu
  have h := (cells_of_block (heap_alloc_new w (.cells cs t)) j).1
  rw [addr_add]
  simp only [Nat.zero_add]
  rw [h, ← hu, Array.getElem?_toList]

theorem some4_take (raw : List Int) (k : Nat) (h : k < raw.length) (h4 : k < 4) : (Kp.some4 raw).take (k + 1) = (Kp.some4 raw).take k ++ [Kp.patterns.getD (Kp.pickN raw[k] 14) ⟨#[]⟩] := by
  have hl : k < (Kp.some4 raw).length := by unfold Kp.some4; rw [List.length_map, List.length_take]; omega
  rw [List.take_add_one, List.getElem?_eq_getElem hl]
  have : (Kp.some4 raw)[k] = Kp.patterns.getD (Kp.pickN raw[k] 14) ⟨#[]⟩ := by simp [Kp.some4]
  rw [this]
  rfl

set_option maxHeartbeats 1000000 in
set_option maxRecDepth 100000 in
theorem chosenK_p (raw : List Int) (lv : Value) (w : World) (h : IntsIn w lv raw) (hm : raw.length ≤ maxLen) :
    Calls Tryz.prog 131 #[lv] w fun e w' => ∃ v, e = .returned v ∧ StrsIn w' v (Kp.chosenL raw) ∧ Below w.heap.size w w' := by
  obtain ⟨i0, hi, hz0, hz1, hz2⟩ := info_parts strK_info
  obtain ⟨a, cc, rfl, hcell⟩ := h
  obtain ⟨W1, hW1⟩ : ∃ W, w.alloc (.cells (Kp.patterns.map Value.string).toArray 9) = W := ⟨_, rfl⟩
  have hpat : ∀ k, k < 14 → W1.cell? ⟨w.heap.size, k, none⟩ = some (.string (Kp.patterns.getD k ⟨#[]⟩)) := fun k hk => by rw [← hW1]; exact litStr w Kp.patterns k hk
  have hBW : Below w.heap.size w W1 := by rw [← hW1]; exact (Below.refl _ w).alloc (Nat.le_refl _) _
  have c1 := patterns_p w
  rw [hW1] at c1
  obtain ⟨n, hnn⟩ : ∃ n, raw.length = n := ⟨_, rfl⟩
  rw [hnn] at hm ⊢
  unfold maxLen at hm
  have hfin : Kp.chosenL raw = if (Kp.some4 raw).length = 0 then [⟨#[42]⟩] else Kp.some4 raw := rfl
  have hlen : (Kp.some4 raw).length = min n 4 := by unfold Kp.some4; rw [List.length_map, List.length_take, hnn, Nat.min_comm]
  have htake := some4_take raw
  obtain ⟨F, hF⟩ : ∃ F, Kp.some4 raw = F := ⟨_, rfl⟩
  rw [hF] at hlen hfin htake
  have HC := hid hcell
  have HP := hid hpat
  have HBW := hid hBW
  have HC1 := hid c1
  have HN := hid hnn
  have HF := hid hfin
  have HL := hid hlen
  have HT := hid htake
  clear hcell hpat hBW c1 hnn hfin hlen htake hF hW1
  go_enter Tryz.func131, Tryz.ntmps131
  go_wp2_with (go_at_call 129; refine HC1.out.mono ?_; rintro e w1 ⟨rfl, e1⟩; rw [e1]; clear e1)
  go_loopw [4, 5] (fun ov iv wr => ∃ k : Nat, k ≤ min n 4 ∧ iv = .int .i64 k ∧ OwnStrs wr W1.heap.size ov (F.take k) ∧ Below W1.heap.size W1 wr) (fun _ iv _ => min n 4 - (intOf iv).toNat)
  case atStart => exact ⟨0, Nat.zero_le _, rfl, ⟨rfl, .inl ⟨rfl, rfl⟩⟩, Below.refl _ _⟩
  case round =>
    obtain ⟨k, hk, rfl, ho, hb⟩ := hrel
    have HO := hid ho
    have HB := hid hb
    have hln : (F.take k).length = k := by rw [List.length_take, HL.out]; omega
    clear ho hb HC1
    by_cases hlt : k < n ∧ k < 4
    · obtain ⟨hl1, hl4⟩ := hlt
      have hkl : k < raw.length := by rw [HN.out]; exact hl1
      obtain ⟨hi64, gb, o, rfl, q⟩ := HC.out k _ (List.getElem?_eq_getElem hkl)
      have q1 := cell_later HB.out (cell_later HBW.out q)
      have htk := HT.out k hkl hl4
      obtain ⟨x, hx⟩ : ∃ x, raw[k] = x := ⟨_, rfl⟩
      rw [hx] at q1 htk hi64
      have hpl := Kp.pickN_lt x 14 (by decide)
      have cp := fun W => pick_p x 14 W hi64 (by decide) (by decide)
      have r1 := cell_later HB.out (HP.out _ hpl)
      obtain ⟨j, hj⟩ : ∃ j, Kp.pickN x 14 = j := ⟨_, rfl⟩
      rw [hj] at htk hpl r1
      simp only [hj] at cp
      obtain ⟨s, hs⟩ : ∃ s, Kp.patterns.getD j ⟨#[]⟩ = s := ⟨_, rfl⟩
      rw [hs] at htk r1
      obtain ⟨L, hL⟩ : ∃ L, F.take k = L := ⟨_, rfl⟩
      rw [hL] at HO htk hln
      have HTK := hid htk
      have CP := hid cp
      have hzr := HB.out.size
      clear q htk cp hs hL hj hx HC HP HN HF HT hi64
      go_wp2_with (first
        | (go_at_call 19; refine (CP.out _).mono ?_; rintro e w2 ⟨rfl, e2⟩; rw [e2]; clear e2)
        | (at_builtin; refine wpList_append_own _ rfl _ _ 42 rfl W1.heap.size 9 i0 (.string ⟨#[]⟩) 1 16 Tryz.underlying42 hi hz0 hz1 hz2 rfl (by decide) _ L.length (L.map Value.string) rfl (World.ownsRow.alloc HO.out _) ⟨wr.heap.size, 0, none⟩ 1 1 [.string s] rfl rfl ?_ ?_ ?_ ?_ ?_ ?_))
      · exact litK_cells _ _ _
      · intro u hu; simp at hu; rcases hu with rfl; rfl
      · unfold maxLen; omega
      · omega
      · simp; omega
      · intro v' w3 hown' hgrow _
        have HO3 : Hid (OwnStrs w3 W1.heap.size v' (F.take (k + 1))) := by rw [HTK.out]; exact strsK_more (by rw [hln]; exact hown')
        have HB3 : Hid (Below W1.heap.size W1 w3) := (HB.out.alloc hzr _).grown hgrow (by simp; omega) (fun k hk => (World.ownsRow.lt HO.out k hk).1)
        clear hown' hgrow
        go_wp2
        go_roundw
        case rel => exact ⟨k + 1, by omega, by go_num, HO3.out, HB3.out⟩
        case measure => simp [intOf]; omega
    · have hkm : k = min n 4 := by omega
      have hall : F.take k = F := List.take_of_length_le (by rw [HL.out]; omega)
      rw [hall] at HO hln
      have hzr := HB.out.size
      have HBZ : Hid (Below w.heap.size w wr) := HBW.out.trans (HB.out.mono HBW.out.size)
      obtain ⟨fa, fc, rfl⟩ := own_slice HO.out
      rw [hln] at HO ⊢
      have hdec : (decide ((k : Int) < (n : Int)) && decide ((k : Int) < 4)) = false := by simp; omega
      by_cases h0 : k = 0
      · have hF0 : F = [] := List.length_eq_zero_iff.1 (by rw [hln]; exact h0)
        have hfin := HF.out
        rw [if_pos (by rw [hln]; exact h0)] at hfin
        have hn0 : n = 0 := by omega
        subst h0
        subst hn0
        have HFIN := hid hfin
        clear hfin HF HC HP HN HT hkm hall hdec HL
        rw [hF0] at HO
        go_wp2_with (at_builtin; refine wpList_append_own _ rfl _ _ 42 rfl W1.heap.size 9 i0 (.string ⟨#[]⟩) 1 16 Tryz.underlying42 hi hz0 hz1 hz2 rfl (by decide) _ 0 [] rfl (World.ownsRow.alloc HO.out _) ⟨wr.heap.size, 0, none⟩ 1 1 [.string ⟨#[42]⟩] rfl rfl ?_ ?_ ?_ ?_ ?_ ?_)
        · exact litK_cells _ _ _
        · intro u hu; simp at hu; rcases hu with rfl; rfl
        · unfold maxLen; omega
        · omega
        · simp; omega
        · intro v' w3 hown' hgrow _
          have HO3 : Hid (OwnStrs w3 W1.heap.size v' [⟨#[42]⟩]) := hid hown'
          have HB3 : Hid (Below W1.heap.size W1 w3) := (HB.out.alloc hzr _).grown hgrow (by simp; omega) (fun k hk => (World.ownsRow.lt HO.out k hk).1)
          clear hown' hgrow
          go_wp2
          go_ret
          exact ⟨_, rfl, by rw [HFIN.out]; exact StrsIn.own HO3.out, HBW.out.trans (HB3.out.mono HBW.out.size)⟩
      · have hfin := HF.out
        rw [if_neg (by rw [hln]; exact h0)] at hfin
        have HFIN := hid hfin
        have d0 : ((k : Int) == 0) = false := by simp; omega
        have HO2 : Hid (StrsIn wr (.slice fa k fc) F) := StrsIn.own HO.out
        clear hfin HF HC HP HN HT hkm hall HL
        by_cases h4 : k < 4
        · have e1 : decide ((k : Int) < (n : Int)) = false := by simp at hdec ⊢; omega
          go_wp2
          go_ret
          exact ⟨_, rfl, by rw [HFIN.out]; exact HO2.out, HBZ.out⟩
        · have e1 : decide ((k : Int) < 4) = false := by simp; omega
          go_wp2
          all_goals
            go_ret
            exact ⟨_, rfl, by rw [HFIN.out]; exact HO2.out, HBZ.out⟩

set_option maxHeartbeats 1000000 in
set_option maxRecDepth 100000 in
theorem choiceK_p (raw : List Int) (lv : Value) (nt : Bool) (st : Int) (w : World) (h : IntsIn w lv raw) (hm : raw.length ≤ maxLen) (hst : I64 st) :
    Calls Tryz.prog 79 #[lv, .bool nt, .int .i64 st] w fun e w' => e = .returned (.string (Kp.choiceB raw nt st)) ∧ Below w.heap.size w w' := by
  have c1 := chosenK_p raw lv w h hm
  have c2 := fun W v (hv : StrsIn W v (Kp.chosenL raw)) => listedK_p (Kp.chosenL raw) v st W hv hst (Kp.chosenL_len raw).2 (Kp.chosenL_size raw)
  have c3 := fun W => pad_p st W hst
  have z1 := Kp.listedB_size (Kp.chosenL raw) st (Kp.chosenL_size raw)
  have z2 := (Kp.chosenL_len raw).2
  have z3 := Kp.padB_size st
  have hR : Kp.choiceB raw nt st = if nt then ⟨#[123]⟩ ++ Kp.padB st ++ ⟨#[34, 110, 111, 116, 34, 58]⟩ ++ Kp.listedB (Kp.chosenL raw) st ++ ⟨#[125]⟩ else Kp.listedB (Kp.chosenL raw) st := rfl
  rw [hR]
  obtain ⟨P, hP⟩ : ∃ P, Kp.padB st = P := ⟨_, rfl⟩
  obtain ⟨L, hL⟩ : ∃ L, Kp.listedB (Kp.chosenL raw) st = L := ⟨_, rfl⟩
  obtain ⟨a, cc, rfl, _⟩ := h
  simp only [hP, hL] at c2 c3 z1 z3 ⊢
  obtain ⟨x1, x2⟩ := hst
  have C1 := hid c1
  have C2 := hid c2
  have C3 := hid c3
  clear c1 c2 c3 hP hL hR
  cases nt with
  | true =>
    go_enter Tryz.func79, Tryz.ntmps79
    go_wp2_with (first
      | (go_at_call 131; refine C1.out.mono ?_; rintro e w1 ⟨v, rfl, hv, hb1⟩; have HV := hid hv; have HB1 := hid hb1; clear hv hb1)
      | (go_at_call 130; refine (C2.out w1 v HV.out).mono ?_; rintro e w2 ⟨rfl, hb2⟩; have HB2 := hid (HB1.out.trans (hb2.mono HB1.out.size)); clear hb2)
      | (go_at_call 77; refine (C3.out w2).mono ?_; rintro e w3 ⟨rfl, hb3⟩; have HB3 := hid (HB2.out.trans (hb3.mono HB2.out.size)); clear hb3))
    go_ret
    exact ⟨rfl, HB3.out⟩
  | false =>
    go_enter Tryz.func79, Tryz.ntmps79
    go_wp2_with (first
      | (go_at_call 131; refine C1.out.mono ?_; rintro e w1 ⟨v, rfl, hv, hb1⟩; have HV := hid hv; have HB1 := hid hb1; clear hv hb1)
      | (go_at_call 130; refine (C2.out w1 v HV.out).mono ?_; rintro e w2 ⟨rfl, hb2⟩; have HB2 := hid (HB1.out.trans (hb2.mono HB1.out.size)); clear hb2))
    go_ret
    exact ⟨rfl, HB2.out⟩

end Go.Proofs.YtdakgnaojakldaaGreatDoor
