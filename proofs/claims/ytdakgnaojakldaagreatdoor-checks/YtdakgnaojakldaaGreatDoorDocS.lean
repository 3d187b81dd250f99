/- Contract of the reference's Document. -/
import Derived.Test.YtdakgnaojakldaaGreatDoorDocR
namespace Go.Proofs.YtdakgnaojakldaaGreatDoor
open Go.RowKit

def DocPost (w : World) (A : Int × Nat) (rs : List Rd.StmtR) (e : Ending) (w' : World) : Prop :=
  ∃ lv, e = .returned (.tuple #[lv, .int .i64 A.1, .int .i64 (A.2 : Int)]) ∧ Below w.heap.size w w' ∧ (A.1 = 0 → RStmts w' w.heap.size lv rs)

set_option maxHeartbeats 2000000 in
set_option maxRecDepth 100000 in
theorem document_any (text : ByteArray) (w : World) (ht : text.size ≤ maxLen) :
    Calls Tryz.prog 34 #[.string text] w (DocPost w (Rd.docAns text) (refStmts text)) := by
  have cR := read_any text w ht
  have hans := readR_ans text
  by_cases h0 : (readR text).1 ≠ 0
  · have ha := hans.2 h0
    rw [← ha]
    obtain ⟨E, hE⟩ : ∃ x, (readR text).1 = x := ⟨_, rfl⟩
    obtain ⟨AT, hAT⟩ : ∃ x, (readR text).2.1 = x := ⟨_, rfl⟩
    rw [hE, hAT] at cR ⊢
    rw [hE] at h0
    have hb : (E != 0) = true := by simp [h0]
    have H0 := hid h0
    clear hans ha hE hAT h0
    go_enter Tryz.func34, Tryz.ntmps34
    go_wp2_with (go_at_call 59; refine cR.mono ?_; rintro e w1 ⟨p, rfl, hb1, _⟩)
    go_ret3
    exact ⟨_, rfl, hb1, fun e => absurd e H0.out⟩
  have hz : (readR text).1 = 0 := by
    by_cases e : (readR text).1 = 0
    · exact e
    · exact absurd e h0
  have ha := hans.1 hz
  obtain ⟨tev, tne, tr0, trl, ttx⟩ := readR_tree text hz
  have tnon := readR_non text hz
  unfold refStmts
  rw [← ha]
  obtain ⟨E, hE⟩ : ∃ x, (readR text).1 = x := ⟨_, rfl⟩
  obtain ⟨AT, hAT⟩ : ∃ x, (readR text).2.1 = x := ⟨_, rfl⟩
  obtain ⟨m, hm⟩ : ∃ x, (readR text).2.2 = x := ⟨_, rfl⟩
  rw [hE, hAT, hm] at cR
  rw [hm] at tev tne tr0 trl ttx tnon ⊢
  rw [hE] at hz
  subst hz
  obtain ⟨ri, hri⟩ : ∃ r : Nat, m.root = (r : Int) := ⟨m.root.toNat, by omega⟩
  rw [hri] at trl
  have hrl : ri < m.nodes.length := by omega
  have htn : m.root.toNat = ri := by rw [hri]; simp
  rw [htn]
  have hroot := List.getElem?_eq_getElem hrl
  obtain ⟨r, hr⟩ : ∃ x, m.nodes[ri] = x := ⟨_, rfl⟩
  rw [hr] at hroot
  obtain ⟨D, hD⟩ : ∃ x, Rd.docN m.nodes ri = x := ⟨_, rfl⟩
  obtain ⟨RS, hRS⟩ : ∃ x, stmtsNN m.nodes ri = x := ⟨_, rfl⟩
  rw [hD, hRS]
  unfold Rd.docN at hD
  unfold stmtsNN at hRS
  rw [hroot] at hD hRS
  simp only at hD hRS
  have FROM : Hid (∀ (w1 : World) (b : Nat) (ov nv : Value) (vs : List (Value × Value)), MachAt w1 w.heap.size b m ov nv vs → Ref.Bnd 4000 m → ∃ gg cap, DocEnv w1 w.heap.size b gg cap m.nodes w1 ∧ w1.cell? ⟨b, 10, none⟩ = some (.int .i64 (ri : Int))) := by
    refine hid (fun w1 b ov nv vs hM hB => ?_)
    obtain ⟨gg, cap, hrd⟩ := hM.rd tne tev hB ttx
    refine ⟨gg, cap, ⟨hrd, tnon, Below.refl _ _⟩, ?_⟩
    rw [← hri]
    exact (hM.cell 10).1
  have CR := hid cR
  obtain ⟨rkind, rtext, rnames, rkids⟩ := r
  simp only at hD hRS
  obtain ⟨K, hK⟩ : ∃ x, Ref.hasN ⟨rkind, rtext, rnames, rkids⟩ Rd.bStatement = x := ⟨_, rfl⟩
  rw [hK] at hD hRS
  have HD := hid hD
  have HRS := hid hRS
  have HK := hid hK
  have HROOT := hid hroot
  clear hD hRS hK hr hroot cR hans ha tev tne tr0 trl ttx tnon hm hE hAT h0 hri htn
  go_enter Tryz.func34, Tryz.ntmps34
  go_upto_region 4 with (go_at_call 59; refine CR.out.mono ?_; rintro e w1 ⟨p, rfl, hb1, hM⟩; obtain ⟨b, ov, nv, vs, rfl, hM, hB⟩ := hM rfl; obtain ⟨gg, cap, hE, croot⟩ := FROM.out w1 b ov nv vs hM hB; have HB1 := hid hb1; have HE := hid hE; clear hM hB hb1 hE)
  obtain ⟨⟨v1, v2⟩, ⟨na, nc, hv1⟩, ⟨ka, kc, hv2⟩, hcell, cH, cO⟩ := has_node HE.out HROOT.out
  simp only at hv1 hv2
  subst hv1
  subst hv2
  have hsl := HE.out.at.slice
  have hlen := HE.out.rd.len
  have kB := Ref.hasN_lt HE.out.rd.ev HROOT.out Rd.bStatement
  rw [HK.out] at kB
  obtain ⟨a1, a2, a3, a4⟩ := hcell w1 (Below.refl _ _)
  simp only at a1 a2 a3 a4
  unfold nodeV at cH
  simp only at cH
  have cH1 := fun W h => cH W Rd.bStatement h
  simp only [HK.out] at cH1
  unfold Rd.bStatement at cH1
  obtain ⟨nl, hnl⟩ : ∃ nl, m.nodes.length = nl := ⟨_, rfl⟩
  rw [hnl] at hsl hrl kB hlen
  have HNL := hid hnl
  have i0 : (0 : Int) ≤ (ri : Int) := Int.natCast_nonneg _
  have i1 : (ri : Int) < (nl : Int) := by omega
  have CH1 := hid cH1
  obtain ⟨rn, hrn⟩ : ∃ x, rnames.length = x := ⟨_, rfl⟩
  rw [hrn] at a3 CH1
  have hd0 := HD.out
  rw [hrn] at hd0
  have HD1 := hid hd0
  clear cH cO cH1 hcell hd0 HD hnl hrn
  have bA : Below w1.heap.size w1 (w1.alloc (.cells #[.int .i64 rkind, .string rtext, .slice na rn nc, .slice ka rkids.length kc] 152)).drew := ((Below.refl _ _).alloc (Nat.le_refl _) _).drew
  have nA := heap_alloc_new w1 (.cells #[.int .i64 rkind, .string rtext, .slice na rn nc, .slice ka rkids.length kc] 152)
  have s1 := fun O : Obj => cell_later ((Below.refl _ w1).alloc (Nat.le_refl _) O) hsl
  have b0 := fun O : Obj => cell_later ((Below.refl _ w1).alloc (Nat.le_refl _) O) croot
  have b1 := fun O : Obj => cell_later ((Below.refl _ w1).alloc (Nat.le_refl _) O) a1
  have b2 := fun O : Obj => cell_later ((Below.refl _ w1).alloc (Nat.le_refl _) O) a2
  have b3 := fun O : Obj => cell_later ((Below.refl _ w1).alloc (Nat.le_refl _) O) a3
  have b4 := fun O : Obj => cell_later ((Below.refl _ w1).alloc (Nat.le_refl _) O) a4
  go_region
  go_upto_region 6 with (go_at_call 60; refine (CH1.out _ bA).mono ?_; rintro e w3 ⟨rfl, hb3⟩)
  have bw3 : Below w1.heap.size w1 w3 := bA.trans (hb3.mono (by show w1.heap.size ≤ (w1.alloc _).heap.size; simp))
  have n3 : w3.heap[w1.heap.size]? = some (.cells #[.int .i64 rkind, .string rtext, .slice na rn nc, .slice ka rkids.length kc] 152 (0, 0)) := (hb3.block _ (by show w1.heap.size < (w1.alloc _).heap.size; simp)).trans nA
  have q0 : w3.cell? ⟨w1.heap.size, 0, none⟩ = some (.int .i64 rkind) := (cells_of_block n3 0).1
  have q2 : w3.cell? ⟨w1.heap.size, 2, none⟩ = some (.slice na rn nc) := (cells_of_block n3 2).1
  have sl3 := cell_later bw3 hsl
  have bel3 : Below w.heap.size w w3 := HB1.out.trans (bw3.mono HB1.out.size)
  have HBW := hid bw3
  have HB3 := hid bel3
  have hd := HD1.out
  clear s1 b0 b1 b2 b3 b4 a1 a2 a3 a4 hsl croot bA nA hb3 CH1 bw3 bel3 i0 i1 CR FROM HROOT HK
  by_cases c1 : rkind ≠ 1
  · rw [if_pos (.inl c1)] at hd
    have d1 : (rkind != 1) = true := by simp [c1]
    subst hd
    clear HD1
    go_wp2
    go_ret3
    exact ⟨_, rfl, HB3.out, fun e => by simp at e⟩
  rw [Ne, Decidable.not_not] at c1
  subst c1
  by_cases c2 : rn ≠ 1
  · rw [if_pos (.inr (.inl c2))] at hd
    have d2 : ((rn : Int) != 1) = true := by simp; omega
    subst hd
    clear HD1
    go_wp2
    go_ret3
    exact ⟨_, rfl, HB3.out, fun e => by simp at e⟩
  rw [Ne, Decidable.not_not] at c2
  subst c2
  by_cases c3 : K < 0
  · rw [if_pos (.inr (.inr c3))] at hd
    have d3 : decide (K < 0) = true := decide_eq_true c3
    subst hd
    clear HD1
    go_wp2
    go_ret3
    exact ⟨_, rfl, HB3.out, fun e => by simp at e⟩
  rw [if_neg (by simp; omega)] at hd
  have d3 : decide (K < 0) = false := decide_eq_false c3
  obtain ⟨kj, rfl⟩ : ∃ k : Nat, K = (k : Int) := ⟨K.toNat, by omega⟩
  have hkj : kj < m.nodes.length := by have := kB.2; rw [HNL.out]; omega
  have hnk := List.getElem?_eq_getElem hkj
  obtain ⟨nd, hnd⟩ : ∃ x, m.nodes[kj] = x := ⟨_, rfl⟩
  rw [hnd] at hnk
  have hrs := HRS.out
  simp only [Int.toNat_natCast, hnk] at hd hrs
  obtain ⟨v, a1, a2, a3, a4, a5, a6⟩ := HE.out.rd.node kj _ hnk
  obtain ⟨v1, v2⟩ := v
  obtain ⟨kind, ntext, ss, ks⟩ := nd
  simp only at a1 a2 a3 a4 a5 a6 hd hrs
  obtain ⟨ka2, kc2, hv2, cK⟩ := row_slice a6
  obtain ⟨na2, nc2, rfl, _⟩ := row_slice a5
  obtain ⟨kl, hkl⟩ : ∃ kl, ks.length = kl := ⟨_, rfl⟩
  rw [hkl] at hv2 cK hd
  rw [hv2] at a4
  replace a1 := cell_later HBW.out a1
  replace a2 := cell_later HBW.out a2
  replace a3 := cell_later HBW.out a3
  replace a4 := cell_later HBW.out a4
  have hsm := (HE.out.rd.small kj _ hnk).1
  simp only at hsm
  rw [hkl] at hsm
  have CK := hid cK
  have HN := hid hnk
  have HKL := hid hkl
  have HD2 := hid hd
  have HRS2 := hid hrs
  have k0 : (0 : Int) ≤ (kj : Int) := Int.natCast_nonneg _
  have k1 : (kj : Int) < (nl : Int) := kB.2
  clear a5 a6 cK hv2 hnd hnk hd hrs HD1 HRS hkl kB c3
  have z3 : w.heap.size ≤ w3.heap.size := HB3.out.size
  by_cases e1 : kind ≠ 2
  · have hd := HD2.out
    rw [if_pos (.inl e1)] at hd
    have d4 : (kind != 2) = true := by simp [e1]
    subst hd
    clear HD2
    go_wp2
    go_ret3
    exact ⟨_, rfl, HB3.out.alloc z3 _, fun e => by simp at e⟩
  rw [Ne, Decidable.not_not] at e1
  subst e1
  by_cases e2 : kl < 1
  · have hd := HD2.out
    rw [if_pos (.inr (.inl e2))] at hd
    have d4 : decide ((kl : Int) < 1) = true := by simp; omega
    subst hd
    clear HD2
    go_wp2
    go_ret3
    exact ⟨_, rfl, HB3.out.alloc z3 _, fun e => by simp at e⟩
  have d4 : decide ((kl : Int) < 1) = false := by simp; omega
  by_cases e3 : 10 < kl
  · have hd := HD2.out
    rw [if_pos (.inr (.inr e3))] at hd
    have d5 : decide (10 < (kl : Int)) = true := by simp; omega
    subst hd
    clear HD2
    go_wp2
    go_ret3
    exact ⟨_, rfl, HB3.out.alloc z3 _, fun e => by simp at e⟩
  have d5 : decide (10 < (kl : Int)) = false := by simp; omega
  have hd := HD2.out
  rw [if_neg (by omega)] at hd
  have HD3 := hid hd
  clear hd HD2
  obtain ⟨i0, hi, hz0, hz1, hz2⟩ := info_parts Tryz.infoRStmt
  have ncell := heap_alloc_new w3 (.cells #[.int .i64 2, .string ntext, .slice na2 ss.length nc2, .slice ka2 kl kc2] 152)
  have HNC := hid ncell
  clear ncell
  go_wp2_with fail
  go_loopw [11, 12] (fun lv jv wr => ∃ (j : Nat), j ≤ kl ∧ jv = .int .i64 j ∧ RStmts wr (w3.heap.size + 1) lv (Rd.stmtsL m.nodes (ks.take j)) ∧ D = Rd.firstBad (Rd.stmtsL m.nodes (ks.drop j)) j ∧
      Below (w3.heap.size + 1) (w3.alloc (.cells #[.int .i64 2, .string ntext, .slice na2 ss.length nc2, .slice ka2 kl kc2] 152)) wr) (fun _ jv _ => kl - (intOf jv).toNat)
  case atStart => exact ⟨0, by omega, rfl, RStmts.nil _ _, by rw [← HD3.out]; rfl, Below.refl _ _⟩
  case round =>
    obtain ⟨j, hj, rfl, hcs, hD, hbr⟩ := hrel
    have HCS := hid hcs
    have HDj := hid hD
    have HBR := hid hbr
    have nr : wr.heap[w3.heap.size]? = some (.cells #[.int .i64 2, .string ntext, .slice na2 ss.length nc2, .slice ka2 kl kc2] 152 (0, 0)) := (hbr.block _ (by omega)).trans HNC.out
    have c3 : wr.cell? ⟨w3.heap.size, 3, none⟩ = some (.slice ka2 kl kc2) := (cells_of_block nr 3).1
    have hlr : w3.heap.size + 1 ≤ wr.heap.size := lt_of_block nr
    have b3r : Below w3.heap.size w3 wr := ((Below.refl _ w3).alloc (Nat.le_refl _) _).trans (hbr.mono (by omega))
    have b1r : Below w1.heap.size w1 wr := HBW.out.trans (b3r.mono HBW.out.size)
    have bwr : Below w.heap.size w wr := HB3.out.trans (b3r.mono z3)
    have HBWR := hid bwr
    clear hcs hD hbr a1 a2 a3 a4 sl3 q0 q2 HD3 HNC nr
    by_cases hlt : j < kl
    · obtain ⟨g, rfl, q1⟩ := CK.out j hlt
      have l1 : j < ks.length := by rw [HKL.out]; exact hlt
      rw [natCells, Ref.natGet ks j l1] at q1
      have hkid := HE.out.rd.kid HN.out j l1
      simp only at hkid
      have hx := List.getElem?_eq_getElem hkid
      obtain ⟨x, hxx⟩ : ∃ x, m.nodes[ks[j]] = x := ⟨_, rfl⟩
      rw [hxx] at hx
      obtain ⟨ht1, ht2⟩ := stmtsL_take m.nodes ks j l1 x hx
      have q2 := cell_later b1r q1
      have cc := statement_any ks[j] w1 w.heap.size b gg cap m.nodes x wr ⟨HE.out.rd, HE.out.non, b1r⟩ hx
      have hDj := HDj.out
      rw [ht2, firstBad_cons] at hDj
      obtain ⟨kid, hkd⟩ : ∃ c, ks[j] = c := ⟨_, rfl⟩
      rw [hkd] at q2 cc
      obtain ⟨C, hC⟩ : ∃ C, Rd.stmtN m.nodes x = C := ⟨_, rfl⟩
      rw [hC] at cc hDj ht1
      obtain ⟨done, hdone⟩ : ∃ d, Rd.stmtsL m.nodes (ks.take j) = d := ⟨_, rfl⟩
      have hdl : done.length = j := by rw [← hdone]; unfold Rd.stmtsL; rw [List.length_map, List.length_take, HKL.out]; omega
      rw [hdone] at HCS ht1
      have HT1 := hid ht1
      obtain ⟨eff, ⟨N1, L1⟩, ⟨N2, L2⟩, ⟨N3, L3⟩, cs, csh, cpt⟩ := C
      simp only at hDj
      have HDD := hid hDj
      have CC := hid cc
      clear q1 hx hxx hkid hC hdone hkd cc ht1 ht2 hDj HDj b1r b3r bwr
      cases csh with
      | true =>
        have hfin := HDD.out
        rw [if_pos rfl] at hfin
        subst hfin
        go_wp2_with (go_at_call 61; refine CC.out.mono ?_; rintro e w2 ⟨l1, l2, l3, lc, rfl, hb2, hr2⟩; obtain ⟨la1, lc1, rfl⟩ := row_strs hr2.1; obtain ⟨la2, lc2, rfl⟩ := row_strs hr2.2.1; obtain ⟨la3, lc3, rfl⟩ := row_strs hr2.2.2.1; obtain ⟨la4, lc4, rfl⟩ := hr2.2.2.2.slice; have HB2 := hid hb2; clear hr2 hb2)
        go_ret3
        exact ⟨_, by go_num, ((HBWR.out.trans (HB2.out.mono HBWR.out.size)).alloc (Nat.le_trans HBWR.out.size HB2.out.size) _).alloc (by simp; have := HBWR.out.size; have := HB2.out.size; omega) _, fun e => by simp at e⟩
      | false =>
        have hfin0 := HDD.out
        rw [if_neg (by simp)] at hfin0
        have HDE := hid hfin0
        clear hfin0 HDD
        cases cpt with
        | true =>
          have hfin := HDE.out
          rw [if_pos rfl] at hfin
          subst hfin
          go_wp2_with (go_at_call 61; refine CC.out.mono ?_; rintro e w2 ⟨l1, l2, l3, lc, rfl, hb2, hr2⟩; obtain ⟨la1, lc1, rfl⟩ := row_strs hr2.1; obtain ⟨la2, lc2, rfl⟩ := row_strs hr2.2.1; obtain ⟨la3, lc3, rfl⟩ := row_strs hr2.2.2.1; obtain ⟨la4, lc4, rfl⟩ := hr2.2.2.2.slice; have HB2 := hid hb2; clear hr2 hb2)
          go_ret3
          exact ⟨_, by go_num, ((HBWR.out.trans (HB2.out.mono HBWR.out.size)).alloc (Nat.le_trans HBWR.out.size HB2.out.size) _).alloc (by simp; have := HBWR.out.size; have := HB2.out.size; omega) _, fun e => by simp at e⟩
        | false =>
          have hnext := HDE.out
          rw [if_neg (by simp)] at hnext
          have HNEXT := hid hnext
          clear hnext HDE
          go_wp2_with (first
            | (go_at_call 61; refine CC.out.mono ?_; rintro e w2 ⟨l1, l2, l3, lc, rfl, hb2, hr2⟩; obtain ⟨la1, lc1, rfl⟩ := row_strs hr2.1; obtain ⟨la2, lc2, rfl⟩ := row_strs hr2.2.1; obtain ⟨la3, lc3, rfl⟩ := row_strs hr2.2.2.1; obtain ⟨la4, lc4, rfl⟩ := hr2.2.2.2.slice; obtain ⟨xs, ro, rc, r3⟩ := stmts_step (.cells #[.string eff, .bool N1, .slice la1 L1.length lc1, .bool N2, .slice la2 L2.length lc2, .bool N3, .slice la3 L3.length lc3, .slice la4 cs.length lc4] 160) (.cells #[.bool false, .bool false] 162) (.cells #[.string eff, .bool N1, .slice la1 L1.length lc1, .bool N2, .slice la2 L2.length lc2, .bool N3, .slice la3 L3.length lc3, .slice la4 cs.length lc4] 160) HCS.out hlr hb2 hr2; have HB2 := hid hb2; have RO := hid ro; have RC := hid rc; have R3 := hid r3; have hz2' := hb2.size; clear hr2 hb2 ro rc r3)
            | (at_builtin; refine wpList_append_own _ rfl _ _ 78 rfl (w3.heap.size + 1) 160 i0 (.agg #[.string ⟨#[]⟩, .bool false, .slice none 0 0, .bool false, .slice none 0 0, .bool false, .slice none 0 0, .slice none 0 0]) 8 136 Tryz.underlying78 hi hz0 hz1 hz2 rfl (by decide) _ done.length xs rfl RO.out ⟨w2.heap.size + 1 + 1, 0, none⟩ 1 1 [.string eff, .bool N1, .slice la1 L1.length lc1, .bool N2, .slice la2 L2.length lc2, .bool N3, .slice la3 L3.length lc3, .slice la4 cs.length lc4] rfl rfl ?_ ?_ ?_ ?_ ?_ ?_))
          · exact stmt8 _ _ _ _ _ _ _ _ _ _ _ _
          · intro u hu; simp at hu; rcases hu with rfl | rfl | rfl | rfl | rfl | rfl | rfl | rfl <;> rfl
          · unfold maxLen; omega
          · omega
          · simp; omega
          · intro v' w4 hown' hgrow _
            have HRC := hid (RStmts.snoc RO.out RC.out ⟨eff, (N1, L1), (N2, L2), (N3, L3), cs, false, false⟩ R3.out hgrow (by rw [hdl]; exact hown'))
            have HRC2 : Hid (RStmts w4 (w3.heap.size + 1) v' (Rd.stmtsL m.nodes (ks.take (j + 1)))) := by rw [HT1.out]; exact HRC
            have HB4 := hid (HBR.out.trans (((((HB2.out.mono (by omega)).alloc (by omega) _).alloc (by simp; omega) _).alloc (by simp; omega) _).grown hgrow (by simp; omega) (fun k hk => (RO.out.lt k hk).1)))
            clear hown' hgrow HRC RO RC R3 HCS HB2 HBR
            go_wp2
            go_roundw
            case rel => exact ⟨j + 1, by omega, by go_num, HRC2.out, HNEXT.out, HB4.out⟩
            case measure => simp [intOf]; omega
    · have hjk : j = ks.length := by rw [HKL.out]; omega
      have hD0 := HDj.out
      rw [hjk, List.drop_length] at hD0
      have hRS : RS = Rd.stmtsL m.nodes (ks.take j) := by rw [hjk, List.take_length]; exact HRS2.out.symm
      have hDz : D = (0, 0) := hD0
      subst hRS
      subst hDz
      go_wp2
      go_ret3
      exact ⟨_, rfl, HBWR.out, fun _ => HCS.out.mono (by omega)⟩

end Go.Proofs.YtdakgnaojakldaaGreatDoor
